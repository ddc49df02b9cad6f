import Derived.WalkMore
import Derived.Test.YtnfpfbehebcdpaaGreatUae
set_option maxHeartbeats 0
set_option maxRecDepth 99999
set_option linter.all false
namespace Go.Proofs.YtnfpfbehebcdpaaGreat.Lgs
open Go.RowKit
def al8(s:ByteArray)(t:Nat)(h:t<s.size):s.data.toList[t]?=some (s[t]'h):=by rw[gu];exact⟨by simpa using h,by simp[ByteArray.getElem_eq_getElem_data]⟩
def amq(s:ByteArray)(j:Nat)(h:j<s.size)(x:Nat):crcF x (s.data.toList.take (j+1))=aiu (crcF x (s.data.toList.take j)) (s[j]'h):=by rw[xq,al8 s j h];exact amo _ _ _
def awk(a b:Nat)(ha:a<4294967296)(hb:b<4294967296):bits .xor .u32 (a:Int) (b:Int)=((a ^^^ b:Nat):Int):=u32_xor_nat a b ha hb
def and1(a:Nat)(ha:a<4294967296):bits .and .u32 (a:Int) 1=((a%2:Nat):Int):=by have:=u32_and_nat a 1 ha (by omega);rw[Nat.and_one_is_mod]at this;exact this
def not32(a:Nat)(ha:a<4294967296):bits .xor .u32 IntKind.u32.max (a:Int)=((a ^^^ 4294967295:Nat):Int):=by rw[Nat.xor_comm];exact u32_xor_nat 4294967295 a (by omega) ha
def sum12(s:ByteArray)(w:World)(hs:s.size<9223372036854775807):
  cpr 263 #[.string s] w λe w'=>e=.returned (.int .u32 (crc s.data.toList))/\w=w':=by
 go_enter Tryz.func263,Tryz.ntmps263;go_wp2_with fail;go_loopw [3,4] (λx i wr=>∃j:Nat,j<=s.size/\x=.int .u32 (crcF 4294967295 (s.data.toList.take j))/\i=.int .i64 j/\wr=w) (λ_ i _=>s.size-(intOf i).toNat)
 case atStart=>exact⟨0,eu _,rfl,rfl,rfl⟩
 case round=>
  obtain⟨j,hj,rfl,rfl,rfl⟩:=hrel;by_cases hjl:j<s.size
  .have hjl':(j:Int)<s.size:=by omega
   have hX:=aed (s.data.toList.take j) (x:=4294967295) (by omega);have hmore:=amq s j hjl 4294967295;obtain⟨X,hXe⟩:∃X,X=crcF 4294967295 (s.data.toList.take j):=⟨_,rfl⟩;rw[<-hXe]at hX hmore|-;obtain⟨c,hc⟩:∃c:UInt8,c=s[j]'hjl:=⟨_,rfl⟩;have hidx:=hc.symm;rw[<-hc]at hmore;have hc256:=c.toNat_lt;have hY:=aik c hX;have hxor:=awk X c.toNat hX (by omega);obtain⟨Y,hYe⟩:∃Y,Y=X ^^^ c.toNat:=⟨_,rfl⟩;rw[<-hYe]at hY hxor;have HM:Hid (crcF 4294967295 (s.data.toList.take (j+1))=turns 8 Y):=by rw[hmore,hYe];rfl
   clear hmore hXe hc hYe;go_wp2_with fail;go_loopw [3,18] (λx i wq=>∃k:Nat,k<=8/\x=.int .u32 (turns k Y)/\i=.int .i64 k/\wq=wr) (λ_ i _=>8-(intOf i).toNat)
   case atStart=>exact⟨0,eu _,rfl,rfl,rfl⟩
   case round=>
    obtain⟨k,hk,rfl,rfl,rfl⟩:=hrel;have hZ:=aet k hY;by_cases hk8:k<8
    .have hk8':(k:Int)<8:=by omega
     have hnext:=agq k Y;obtain⟨Z,hZe⟩:∃Z,Z=turns k Y:=⟨_,rfl⟩;rw[<-hZe]at hZ hnext|-;have hand:=and1 Z hZ;have hx2:=awk (Z/2) 2197175160 (by omega) (by omega);have HN:Hid (turns (k+1) Y=Uu Z):=hnext;clear hnext hZe;by_cases hp:Z%2=1
     .have ht:Uu Z=Z/2 ^^^ 2197175160:=by rw[Uu,ah hp]
      obtain⟨V,hV⟩:∃V,V=Z/2 ^^^ 2197175160:=⟨_,rfl⟩;rw[<-hV]at hx2 ht;have ht2:turns (k+1) Y=V:=by rw[HN.out,ht]
      have HT:Hid (turns (k+1) Y=V):=ht2;rw[hp]at hand;have hdiv:(Z:Int)/2=((Z/2:Nat):Int):=by omega
      rw[<-hdiv]at hx2;clear ht ht2 hV hdiv;exact bbr
     .have ht:Uu Z=Z/2:=by rw[Uu,ag hp]
      have ht2:turns (k+1) Y=Z/2:=by rw[HN.out,ht]
      have HT:Hid (turns (k+1) Y=Z/2):=ht2;have hp0:Z%2=0:=by omega
      rw[hp0]at hand;clear ht ht2;exact bbr
    .obtain rfl:k=8:=by omega
     rw[<-HM.out];go_wp2;go_roundw
     case rel=>exact⟨j+1,by omega,rfl,by go_num,by trivial⟩
     case measure=>simp[intOf];omega
  .obtain rfl:j=s.size:=by omega
   rw[ay (by simp)];have hX:=aed s.data.toList (x:=4294967295) (by omega);have hcr:crc s.data.toList=crcF 4294967295 s.data.toList ^^^ 4294967295:=rfl;obtain⟨X,hXe⟩:∃X,X=crcF 4294967295 s.data.toList:=⟨_,rfl⟩;rw[<-hXe]at hX hcr|-;have HC:Hid (crc s.data.toList=X ^^^ 4294967295):=hcr;clear hcr hXe;go_wp2;go_ret;rw[HC.out];refine⟨?_,rfl⟩;exact iq (λz=>Ending.returned (Value.int .u32 z)) (not32 X hX)
