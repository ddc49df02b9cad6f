import Derived.Shelf.Abstract
import Derived.WalkMore
import Derived.Test.YtdplfgcoaddbdaaGreatWac
set_option maxHeartbeats 4000000
set_option maxRecDepth 100000
set_option linter.unusedVariables false
set_option linter.unusedSimpArgs false
namespace Go.Proofs.YtdplfgcoaddbdaaGreat.Drm
open Go.RowKit
theorem step31(pb:Nat)(D:Dr)(a:Int)(f g:Nat)(cf cg:Array Value)(refuse:Pt->Int)(act:Pt->Pt)(w:World)(hD:DrumAt pb D w)(hOk:D.Ok)
  (ef:∀args w,(callFunc f args).run Tryz.prog w=.ok (.enter f args) w) (eg:∀args w,(callFunc g args).run Tryz.prog w=.ok (.enter g args) w)
  (HR:Hid (1=1->∀n:Nat,n<4->Calls Tryz.prog f (#[.pointer (some ⟨pb,n*3,none⟩)]++cf) w fun e w'=>e=.returned (iw (refuse (D.p n)))/\Below w.heap.size w w'))
  (HA:Hid (1=1->∀n:Nat,n<4->refuse (D.p n)=0->∀w2 D2,DrumAt pb D2 w2->D2.p=D.p->(∀k o,k≠pb->w.heap[k]?=some o->w2.heap[k]?=some o)->Calls Tryz.prog g (#[.pointer (some ⟨pb,n*3,none⟩)]++cg) w2 fun e w'=>e=.returned (.tuple #[])/\DrumAt pb (D2.set n (act (D2.p n))) w'/\Kept pb w2 w')):
  Calls Tryz.prog 118 #[pz pb,iw a,.func (.func f) #[] cf,.func (.func g) #[] cg] w fun e w'=>e=.returned (iw (D.step a refuse act).1)/\DrumAt pb (D.step a refuse act).2 w'/\Kept pb w w':=by
 obtain⟨vs,hD⟩:=hD;have HD:Hid (DrumIn pb D vs w):=hD;have hdn:=hD.down;clear hD;obtain⟨dn,hdn'⟩:=xj D.down;rw[hdn']at hdn;have HN:Hid (D.down=dn):=hdn';clear hdn';cases dn with
 |true=>
  have hst:D.step a refuse act=(11,D):=by rw[Dr.step,if_pos HN.out]
  rw[hst];clear hst;go_enter Tryz.func118,Tryz.ntmps118;go_wp2_with (go_at_call 35;refine(down13 pb _ _ hdn).mono ?_;rintro e w1 ⟨rfl,rfl⟩);go_ret;exact⟨rfl,⟨vs,HD.out⟩,Kept.refl _ _⟩
 |false=>
  by_cases h:0<=a/\a<4
  ·obtain⟨h0,h1⟩:=h;obtain⟨n,rfl⟩:=Int.eq_ofNat_of_zero_le h0;have hn:n<4:=by omega
   have HC:Hid (1=1->Calls Tryz.prog f (#[.pointer (some ⟨pb,n*3,none⟩)]++cf) w fun e w'=>e=.returned (iw (refuse (D.p n)))/\Below w.heap.size w w'):=fun _=>HR.out rfl n hn;obtain⟨r,hr⟩:=xj (refuse (D.p n));rw[hr]at HC;have HX:Hid (refuse (D.p n)=r):=hr;clear hr HR;by_cases hr0:r=0
   ·subst hr0;obtain⟨fu,hfu⟩:=xj D.fuel;have hb0:=hOk.fuel0;have hb9:=hOk.fuel1;rw[hfu]at hb0 hb9;have HFU:Hid (D.fuel=fu):=hfu;clear hfu;by_cases hf0:fu=0
    ·have hst:D.step n refuse act=(11,{D with down:=true}):=by have:=HX.out;simp only[Dr.step,HN.out,Int.toNat_natCast,this];rw[if_neg (by decide),if_neg (by omega),if_neg (by simp),if_pos (by rw[HFU.out];exact hf0)]
     rw[hst];subst hf0;clear hst;go_enter Tryz.func118,Tryz.ntmps118;go_wp2_with (first|(go_at_call 35;refine(down13 pb _ _ hdn).mono ?_;rintro e w1 ⟨rfl,rfl⟩)|(go_at_call 176;refine(num29_yes _ _ h0 h1).mono ?_;rintro e w1 ⟨rfl,rfl⟩));refine(HC.out (by trivial)).mono ?_;rintro e w1 ⟨rfl,hb1⟩;have H1:Hid (DrumIn pb D vs w1/\Below w.heap.size w w1):=⟨HD.out.on hb1,hb1⟩;have hf1:=H1.out.1.fuel;have hd1:=H1.out.1.down;have hz1:=H1.out.1.free;rw[HFU.out]at hf1;clear hb1;go_wp2;go_ret;exact⟨rfl,⟨vs,H1.out.1.set_down true⟩,(⟨H1.out.2.mono (Nat.le_of_lt HD.out.lt),fun k o ho _ _=>by rw[H1.out.2.block k (lt_of_block ho),ho]⟩:Kept pb w w1).set _ _⟩
    ·have hst:D.step n refuse act=(0,D.burn.set n (act (D.p n))):=by have:=HX.out;simp only[Dr.step,HN.out,Int.toNat_natCast,this];rw[if_neg (by decide),if_neg (by omega),if_neg (by simp),if_neg (by rw[HFU.out];exact hf0)]
     rw[hst];clear hst;by_cases hfp:0<fu
     ·have HBU:Hid ({D with fuel:=fu-1}=D.burn):=by show _=_;simp[Dr.burn,HFU.out,hfp]
      have hfb:(fu==0)=false:=by simp[hf0]
      clear hf0;go_enter Tryz.func118,Tryz.ntmps118;go_wp2_with (first|(go_at_call 35;refine(down13 pb _ _ hdn).mono ?_;rintro e w1 ⟨rfl,rfl⟩)|(go_at_call 176;refine(num29_yes _ _ h0 h1).mono ?_;rintro e w1 ⟨rfl,rfl⟩));refine(HC.out (by trivial)).mono ?_;rintro e w1 ⟨rfl,hb1⟩;have H1:Hid (DrumIn pb D vs w1/\Below w.heap.size w w1):=⟨HD.out.on hb1,hb1⟩;have hf1:=H1.out.1.fuel;have hd1:=H1.out.1.down;have hz1:=H1.out.1.free;rw[HFU.out]at hf1;clear hb1;go_wp2_with fail;have hD2:=H1.out.1.set_fuel (fu-1);rw[HBU.out]at hD2;have hk2:Kept pb w (w1.setCell ⟨pb,13,none⟩ (iw (fu-1))):=(⟨H1.out.2.mono (Nat.le_of_lt HD.out.lt),fun k o ho _ _=>by rw[H1.out.2.block k (lt_of_block ho),ho]⟩:Kept pb w w1).set _ _;refine(HA.out (by trivial) n hn HX.out _ _ ⟨vs,hD2⟩ rfl (fun k o hk ho=>by rw[Below.heap_setCell _ _ _ _ hk,H1.out.2.block k (lt_of_block ho),ho])).mono ?_;rintro e w3 ⟨rfl,h3,hk3⟩;have H3:Hid (DrumAt pb (D.burn.set n (act (D.p n))) w3/\Kept pb w w3):=⟨h3,hk2.trans hk3⟩;clear h3 hk3 hk2 hD2;go_wp2;go_ret;exact⟨rfl,H3.out⟩
     ·have HBU:Hid (D=D.burn):=by show _=_;unfold Dr.burn;rw[if_neg (by rw[HFU.out];exact hfp)]
      have hfb:(fu==0)=false:=by simp[hf0]
      clear hf0;go_enter Tryz.func118,Tryz.ntmps118;go_wp2_with (first|(go_at_call 35;refine(down13 pb _ _ hdn).mono ?_;rintro e w1 ⟨rfl,rfl⟩)|(go_at_call 176;refine(num29_yes _ _ h0 h1).mono ?_;rintro e w1 ⟨rfl,rfl⟩));refine(HC.out (by trivial)).mono ?_;rintro e w1 ⟨rfl,hb1⟩;have H1:Hid (DrumIn pb D vs w1/\Below w.heap.size w w1):=⟨HD.out.on hb1,hb1⟩;have hf1:=H1.out.1.fuel;have hd1:=H1.out.1.down;have hz1:=H1.out.1.free;rw[HFU.out]at hf1;clear hb1;go_wp2_with fail;have hD2:DrumAt pb D.burn w1:=⟨vs,by rw[<-HBU.out];exact H1.out.1⟩;have hk2:Kept pb w w1:=⟨H1.out.2.mono (Nat.le_of_lt HD.out.lt),fun k o ho _ _=>by rw[H1.out.2.block k (lt_of_block ho),ho]⟩;refine(HA.out (by trivial) n hn HX.out _ _ hD2 rfl (fun k o hk ho=>by rw[H1.out.2.block k (lt_of_block ho),ho])).mono ?_;rintro e w3 ⟨rfl,h3,hk3⟩;have H3:Hid (DrumAt pb (D.burn.set n (act (D.p n))) w3/\Kept pb w w3):=⟨h3,hk2.trans hk3⟩;clear h3 hk3 hk2 hD2;go_wp2;go_ret;exact⟨rfl,H3.out⟩
   ·have hst:D.step n refuse act=(r,D):=by have:=HX.out;simp only[Dr.step,HN.out,Int.toNat_natCast,this];rw[if_neg (by decide),if_neg (by omega),if_pos hr0]
    rw[hst];have hrb:(r==0)=false:=by simp[hr0]
    clear hst hr0;go_enter Tryz.func118,Tryz.ntmps118;go_wp2_with (first|(go_at_call 35;refine(down13 pb _ _ hdn).mono ?_;rintro e w1 ⟨rfl,rfl⟩)|(go_at_call 176;refine(num29_yes _ _ h0 h1).mono ?_;rintro e w1 ⟨rfl,rfl⟩));refine(HC.out (by trivial)).mono ?_;rintro e w1 ⟨rfl,hb1⟩;go_wp2;go_ret;exact⟨rfl,DrumAt.on ⟨vs,HD.out⟩ hb1,⟨hb1.mono (Nat.le_of_lt HD.out.lt),fun k o ho _ _=>by rw[hb1.block k (lt_of_block ho),ho]⟩⟩
  ·have hst:D.step a refuse act=(1,D):=by rw[Dr.step,HN.out,if_neg (by decide),if_pos h]
   rw[hst];clear hst;go_enter Tryz.func118,Tryz.ntmps118;go_wp2_with (first|(go_at_call 35;refine(down13 pb _ _ hdn).mono ?_;rintro e w1 ⟨rfl,rfl⟩)|(go_at_call 176;refine(num29_no _ _ h).mono ?_;rintro e w1 ⟨rfl,rfl⟩));go_ret;exact⟨rfl,⟨vs,HD.out⟩,Kept.refl _ _⟩
theorem ent32:Enters Tryz.prog 181:=enters_of Tryz.func181 (by kernel_rfl) rfl
theorem ent33:Enters Tryz.prog 182:=enters_of Tryz.func182 (by kernel_rfl) rfl
theorem ent34:Enters Tryz.prog 219:=enters_of Tryz.func219 (by kernel_rfl) rfl
theorem ent35:Enters Tryz.prog 221:=enters_of Tryz.func221 (by kernel_rfl) rfl
theorem ent41:Enters Tryz.prog 222:=enters_of Tryz.func222 (by kernel_rfl) rfl
theorem ent42:Enters Tryz.prog 223:=enters_of Tryz.func223 (by kernel_rfl) rfl
theorem lay11(pb:Nat)(D:Dr)(a:Int)(w:World)(hD:DrumAt pb D w)(hOk:D.Ok):Calls Tryz.prog 115 #[pz pb,iw a] w fun e w'=>e=.returned (iw (D.lay a).1)/\DrumAt pb (D.lay a).2 w'/\Kept pb w w':=by
 have HC:Hid (1=1->Calls Tryz.prog 118 #[pz pb,iw a,.func (.func 181) #[] #[],.func (.func 182) #[] #[]] w fun e w'=>e=.returned (iw (D.lay a).1)/\DrumAt pb (D.lay a).2 w'/\Kept pb w w'):=fun _=>by
  obtain⟨vs,hDi⟩:=id hD;refine step31 pb D a 181 182 #[] #[] _ _ w hD hOk ent32 ent33 ?_ ?_
  ·exact fun _ n hn=>(lay32 pb (n*3) _ w (hDi.there n hn)).mono fun e w' h=>⟨h.1,by rw[<-h.2];exact Below.refl _ _⟩
  ·exact fun _ n hn _ w2 D2 h2 _ _=>lay33 pb D2 n w2 h2 hn
 clear hD hOk;generalize D.lay a=r at*;go_enter Tryz.func115,Tryz.ntmps115;go_wp2_with (go_at_call 118;refine(HC.out (by trivial)).mono ?_;rintro e w1 ⟨rfl,h1,h2⟩;have H1:Hid _:=And.intro h1 h2;clear h1 h2);go_ret;exact⟨rfl,H1.out⟩
theorem sync28(pb:Nat)(D:Dr)(a:Int)(w:World)(hD:DrumAt pb D w)(hOk:D.Ok):Calls Tryz.prog 184 #[pz pb,iw a] w fun e w'=>e=.returned (iw (D.sync a).1)/\DrumAt pb (D.sync a).2 w'/\Kept pb w w':=by
 have HC:Hid (1=1->Calls Tryz.prog 118 #[pz pb,iw a,.func (.func 222) #[] #[],.func (.func 223) #[] #[]] w fun e w'=>e=.returned (iw (D.sync a).1)/\DrumAt pb (D.sync a).2 w'/\Kept pb w w'):=fun _=>by
  obtain⟨vs,hDi⟩:=id hD;refine step31 pb D a 222 223 #[] #[] _ _ w hD hOk ent41 ent42 ?_ ?_
  ·exact fun _ n hn=>(sync41 pb (n*3) _ w (hDi.there n hn)).mono fun e w' h=>⟨h.1,by rw[<-h.2];exact Below.refl _ _⟩
  ·exact fun _ n hn _ w2 D2 h2 _ _=>sync42 pb D2 n w2 h2 hn
 clear hD hOk;generalize D.sync a=r at*;go_enter Tryz.func184,Tryz.ntmps184;go_wp2_with (go_at_call 118;refine(HC.out (by trivial)).mono ?_;rintro e w1 ⟨rfl,h1,h2⟩;have H1:Hid _:=And.intro h1 h2;clear h1 h2);go_ret;exact⟨rfl,H1.out⟩
theorem kept_new{pb:Nat}{w w':World}{o:Obj}(hp:pb<w.heap.size)(h:Kept pb (w.alloc o) w'):Kept pb w w':=
 ((Kept.refl pb w).alloc (Nat.le_of_lt hp) o).trans h
theorem write12(pb:Nat)(D:Dr)(a:Int)(s:List UInt8)(w:World)(hD:DrumAt pb D w)(hOk:D.Ok):Calls Tryz.prog 183 #[pz pb,iw a,sd s] w fun e w'=>e=.returned (iw (D.write a s).1)/\DrumAt pb (D.write a s).2 w'/\Kept pb w w':=by
 have hlt:=hD.lt;have HC:Hid (1=1->Calls Tryz.prog 118 #[pz pb,iw a,.func (.func 219) #[] #[.pointer (some ⟨w.heap.size+1,0,none⟩),pz w.heap.size],.func (.func 221) #[] #[.pointer (some ⟨w.heap.size+1,0,none⟩)]] ((w.alloc (.cells #[pz pb] 72)).alloc (.cells #[sd s] 9)) fun e w'=>e=.returned (iw (D.write a s).1)/\DrumAt pb (D.write a s).2 w'/\Kept pb w w'):=fun _=>by
  have hD1:=(hD.alloc (.cells #[pz pb] 72)).alloc (.cells #[sd s] 9);have hb:((w.alloc (.cells #[pz pb] 72)).alloc (.cells #[sd s] 9)).heap[w.heap.size]?=some (.cells #[pz pb] 72 (0,0)):=by rw[Below.heap_alloc _ _ _ (by simp)];exact heap_alloc_new w _
  have hs:((w.alloc (.cells #[pz pb] 72)).alloc (.cells #[sd s] 9)).heap[w.heap.size+1]?=some (.cells #[sd s] 9 (0,0)):=by have:=heap_alloc_new (w.alloc (.cells #[pz pb] 72)) (.cells #[sd s] 9);simpa using this
  refine(step31 pb D a 219 221 _ _ _ _ _ hD1 hOk ent34 ent35 ?_ ?_).mono fun e w' h=>⟨h.1,h.2.1,kept_new hlt (kept_new (by simp;omega) h.2.2)⟩
  ·exact fun _ k hk=>write34 pb D k (w.heap.size+1) w.heap.size s _ hD1 hk hOk (cell_of_one hs) (cell_of_one hb)
  ·intro _ k hk hr w2 D2 h2 hp hw;have h1:=hOk.fits;have h3:=hOk.room1;have h4:=D.len_le_used k hk;have h5:¬(D.room-D.used<s.length):=by intro h;rw[if_pos h]at hr;split at hr<;>simp at hr
   exact write35 pb D2 k (w.heap.size+1) s w2 h2 hk (cell_of_one (hw _ _ (by omega) hs)) (by rw[hp];omega)
 clear hD hOk;generalize D.write a s=r at*;go_enter Tryz.func183,Tryz.ntmps183;go_wp2_with (go_at_call 118;refine(HC.out (by trivial)).mono ?_;rintro e w1 ⟨rfl,h1,h2⟩;have H1:Hid _:=And.intro h1 h2;clear h1 h2);go_ret;exact⟨rfl,H1.out⟩
end Go.Proofs.YtdplfgcoaddbdaaGreat.Drm
namespace Go.Proofs.YtdplfgcoaddbdaaGreat.Lgs
open Go.RowKit
theorem get_list'(s:ByteArray)(t:Nat)(h:t<s.size):s.data.toList[t]?=some (s[t]'h):=by rw[List.getElem?_eq_some_iff];exact⟨by simpa using h,by simp[ByteArray.getElem_eq_getElem_data]⟩
theorem crcF_more(s:ByteArray)(j:Nat)(h:j<s.size)(x:Nat):crcF x (s.data.toList.take (j+1))=turnB (crcF x (s.data.toList.take j)) (s[j]'h):=by rw[List.take_add_one,get_list' s j h];exact crcF_snoc _ _ _
theorem xor32(a b:Nat)(ha:a<4294967296)(hb:b<4294967296):bits .xor .u32 (a:Int) (b:Int)=((a ^^^ b:Nat):Int):=u32_xor_nat a b ha hb
theorem and1(a:Nat)(ha:a<4294967296):bits .and .u32 (a:Int) 1=((a%2:Nat):Int):=by have:=u32_and_nat a 1 ha (by omega);rw[Nat.and_one_is_mod]at this;exact this
theorem not32(a:Nat)(ha:a<4294967296):bits .xor .u32 IntKind.u32.max (a:Int)=((a ^^^ 4294967295:Nat):Int):=by rw[Nat.xor_comm];exact u32_xor_nat 4294967295 a (by omega) ha
theorem sum12(s:ByteArray)(w:World)(hs:s.size<9223372036854775807):
  Calls Tryz.prog 268 #[.string s] w fun e w'=>e=.returned (.int .u32 (crc s.data.toList))/\w=w':=by
 go_enter Tryz.func268,Tryz.ntmps268;go_wp2_with fail;go_loopw [3,4] (fun x i wr=>∃j:Nat,j<=s.size/\x=.int .u32 (crcF 4294967295 (s.data.toList.take j))/\i=.int .i64 j/\wr=w) (fun _ i _=>s.size-(intOf i).toNat)
 case atStart=>exact⟨0,Nat.zero_le _,rfl,rfl,rfl⟩
 case round=>
  obtain⟨j,hj,rfl,rfl,rfl⟩:=hrel;by_cases hjl:j<s.size
  ·have hjl':(j:Int)<s.size:=by omega
   have hX:=crcF_lt (s.data.toList.take j) (x:=4294967295) (by omega);have hmore:=crcF_more s j hjl 4294967295;obtain⟨X,hXe⟩:∃X,X=crcF 4294967295 (s.data.toList.take j):=⟨_,rfl⟩;rw[<-hXe]at hX hmore|-;obtain⟨c,hc⟩:∃c:UInt8,c=s[j]'hjl:=⟨_,rfl⟩;have hidx:=hc.symm;rw[<-hc]at hmore;have hc256:=c.toNat_lt;have hY:=xorB_lt c hX;have hxor:=xor32 X c.toNat hX (by omega);obtain⟨Y,hYe⟩:∃Y,Y=X ^^^ c.toNat:=⟨_,rfl⟩;rw[<-hYe]at hY hxor;have HM:Hid (crcF 4294967295 (s.data.toList.take (j+1))=turns 8 Y):=by rw[hmore,hYe];rfl
   clear hmore hXe hc hYe;go_wp2_with fail;go_loopw [3,18] (fun x i wq=>∃k:Nat,k<=8/\x=.int .u32 (turns k Y)/\i=.int .i64 k/\wq=wr) (fun _ i _=>8-(intOf i).toNat)
   case atStart=>exact⟨0,Nat.zero_le _,rfl,rfl,rfl⟩
   case round=>
    obtain⟨k,hk,rfl,rfl,rfl⟩:=hrel;have hZ:=turns_lt k hY;by_cases hk8:k<8
    ·have hk8':(k:Int)<8:=by omega
     have hnext:=turns_succ k Y;obtain⟨Z,hZe⟩:∃Z,Z=turns k Y:=⟨_,rfl⟩;rw[<-hZe]at hZ hnext|-;have hand:=and1 Z hZ;have hx2:=xor32 (Z/2) 2197175160 (by omega) (by omega);have HN:Hid (turns (k+1) Y=turn1 Z):=hnext;clear hnext hZe;by_cases hp:Z%2=1
     ·have ht:turn1 Z=Z/2 ^^^ 2197175160:=by rw[turn1,if_pos hp]
      obtain⟨V,hV⟩:∃V,V=Z/2 ^^^ 2197175160:=⟨_,rfl⟩;rw[<-hV]at hx2 ht;have ht2:turns (k+1) Y=V:=by rw[HN.out,ht]
      have HT:Hid (turns (k+1) Y=V):=ht2;rw[hp]at hand;have hdiv:(Z:Int)/2=((Z/2:Nat):Int):=by omega
      rw[<-hdiv]at hx2;clear ht ht2 hV hdiv;go_wp2;go_roundw
      case rel=>exact⟨k+1,by omega,by rw[HT.out];go_num,by go_num,by trivial⟩
      case measure=>simp[intOf];omega
     ·have ht:turn1 Z=Z/2:=by rw[turn1,if_neg hp]
      have ht2:turns (k+1) Y=Z/2:=by rw[HN.out,ht]
      have HT:Hid (turns (k+1) Y=Z/2):=ht2;have hp0:Z%2=0:=by omega
      rw[hp0]at hand;clear ht ht2;go_wp2;go_roundw
      case rel=>exact⟨k+1,by omega,by rw[HT.out];go_num,by go_num,by trivial⟩
      case measure=>simp[intOf];omega
    ·obtain rfl:k=8:=by omega
     rw[<-HM.out];go_wp2;go_roundw
     case rel=>exact⟨j+1,by omega,rfl,by go_num,by trivial⟩
     case measure=>simp[intOf];omega
  ·obtain rfl:j=s.size:=by omega
   rw[List.take_of_length_le (by simp)];have hX:=crcF_lt s.data.toList (x:=4294967295) (by omega);have hcr:crc s.data.toList=crcF 4294967295 s.data.toList ^^^ 4294967295:=rfl;obtain⟨X,hXe⟩:∃X,X=crcF 4294967295 s.data.toList:=⟨_,rfl⟩;rw[<-hXe]at hX hcr|-;have HC:Hid (crc s.data.toList=X ^^^ 4294967295):=hcr;clear hcr hXe;go_wp2;go_ret;rw[HC.out];refine⟨?_,rfl⟩;exact congrArg (fun z=>Ending.returned (Value.int .u32 z)) (not32 X hX)
end Go.Proofs.YtdplfgcoaddbdaaGreat.Lgs
