import Derived.Test.YtdplfgcoaddbdaaGreatProg
import Derived.WalkKit
import Derived.WalkSpells
import Derived.WalkLawsBesides
set_option maxHeartbeats 4000000
set_option maxRecDepth 100000
set_option linter.unusedVariables false
set_option linter.unusedSimpArgs false
namespace Go.Proofs.YtdplfgcoaddbdaaGreat.Clk
open Go.RowKit
def rightB(p l:Int):Bool:=decide (p<=281474976710656/\l<=4095)
def lessB(p l q m:Int):Bool:=decide (p<q\/p=q/\l<m)
theorem ret_bool{a b:Bool}(h:a=b):Ending.returned (.bool a)=.returned (.bool b):=by rw[h]
theorem right18(p l:Int)(w:World):
  Calls Tryz.prog 81 #[.agg #[.int .u64 p,.int .u32 l]] w fun e w'=>e=.returned (.bool (rightB p l))/\Below w.heap.size w w':=by
 by_cases h1:p<=281474976710656<;>by_cases h2:l<=4095
 all_goals
  go_enter Tryz.func81,Tryz.ntmps81;go_wp2;go_ret;exact⟨ret_bool (by simp[rightB,h1,h2]),(Below.refl _ _).alloc (Nat.le_refl _) _⟩
theorem less17(p l q m:Int)(w:World):
  Calls Tryz.prog 87 #[.agg #[.int .u64 p,.int .u32 l],.agg #[.int .u64 q,.int .u32 m]] w fun e w'=>e=.returned (.bool (lessB p l q m))/\Below w.heap.size w w':=by
 by_cases h:p=q
 ·subst h;go_enter Tryz.func87,Tryz.ntmps87;go_wp2;go_ret;exact⟨ret_bool (by simp[lessB]),((Below.refl _ _).alloc (Nat.le_refl _) _).alloc (by simp) _⟩
 ·have h':(p != q)=true:=by simpa using h
  go_enter Tryz.func87,Tryz.ntmps87;go_wp2;go_ret;exact⟨ret_bool (by simp[lessB,h]),((Below.refl _ _).alloc (Nat.le_refl _) _).alloc (by simp) _⟩
theorem bcell{W w1:World}(hb:Below W.heap.size W w1):(∀b o,b<W.heap.size->w1.cell? ⟨b,o,none⟩=W.cell? ⟨b,o,none⟩)/\(∀b o,b<W.heap.size->w1.frozen? ⟨b,o,none⟩=W.frozen? ⟨b,o,none⟩):=
 ⟨fun b o h=>hb.cell (p:=⟨b,o,none⟩) h,fun b o h=>hb.frozen (p:=⟨b,o,none⟩) h⟩
theorem below2{w w1:World}{o1 o2:Obj}(hb:Below ((w.alloc o1).alloc o2).heap.size ((w.alloc o1).alloc o2) w1):Below w.heap.size w w1:=
 (((Below.refl _ _).alloc (Nat.le_refl _) _).alloc (by simp) _).trans (hb.mono (by simp;omega))
theorem below2s{w w1:World}{o1 o2:Obj}(hb:Below ((w.alloc o1).alloc o2).heap.size ((w.alloc o1).alloc o2) w1)(u v:Value):
  Below w.heap.size w ((w1.setCell ⟨w.heap.size+1,0,none⟩ u).setCell ⟨w.heap.size+1,1,none⟩ v):=
 ((below2 hb).setCell (by simp) _).setCell (by simp) _
def nextF(p l:Int):Int×Int×Int:=
 if rightB p l then(if l<4095 then(p,l+1,0)else if p<281474976710656 then(p+1,0,0)else(0,0,20))else(0,0,1)
theorem rightB_iff{p l:Int}:rightB p l=true↔p<=281474976710656/\l<=4095:=by simp[rightB]
theorem next19_0(p l:Int)(w:World)(_h0:0<=p)(_h1:0<=l)(h:rightB p l=false):
  Calls Tryz.prog 79 #[.agg #[.int .u64 p,.int .u32 l]] w fun e w'=>e=.returned (.tuple #[.agg #[.int .u64 0,.int .u32 0],.int .i64 1])/\Below w.heap.size w w':=by
 have HR:Hid (rightB p l=false):=h;clear h;go_enter Tryz.func79,Tryz.ntmps79;go_wp2_with fail;refine(right18 _ _ _).mono ?_;rw[HR.out];rintro e w1 ⟨rfl,hb⟩;obtain⟨hc,hf⟩:=bcell hb;have hz:w.heap.size+1<w1.heap.size:=by have:=hb.size;simp at this;omega
 go_wp2;exact bodyPost_ret (v:=.tuple #[.agg #[.int .u64 0,.int .u32 0],.int .i64 1]) (by simp[results,Tryz.results79,go_sem,hc]) rfl ⟨rfl,below2s hb _ _⟩
theorem next19_1(p l:Int)(w:World)(_h0:0<=p)(_h1:0<=l)(h:rightB p l=true)(h2:l<4095):
  Calls Tryz.prog 79 #[.agg #[.int .u64 p,.int .u32 l]] w fun e w'=>e=.returned (.tuple #[.agg #[.int .u64 p,.int .u32 (l+1)],.int .i64 0])/\Below w.heap.size w w':=by
 have hr:=rightB_iff.1 h;have HR:Hid (rightB p l=true):=h;clear h;go_enter Tryz.func79,Tryz.ntmps79;go_wp2_with fail;refine(right18 _ _ _).mono ?_;rw[HR.out];rintro e w1 ⟨rfl,hb⟩;obtain⟨hc,hf⟩:=bcell hb;have hz:w.heap.size+1<w1.heap.size:=by have:=hb.size;simp at this;omega
 go_wp2;exact bodyPost_ret (v:=.tuple #[.agg #[.int .u64 p,.int .u32 (l+1)],.int .i64 0]) (by simp[results,Tryz.results79,go_sem,hc]) rfl ⟨rfl,below2s hb _ _⟩
theorem next19_2(p l:Int)(w:World)(_h0:0<=p)(_h1:0<=l)(h:rightB p l=true)(h2:¬l<4095)(h3:p<281474976710656):
  Calls Tryz.prog 79 #[.agg #[.int .u64 p,.int .u32 l]] w fun e w'=>e=.returned (.tuple #[.agg #[.int .u64 (p+1),.int .u32 0],.int .i64 0])/\Below w.heap.size w w':=by
 have hr:=rightB_iff.1 h;have h4:(p==281474976710656)=false:=by simp;omega
 have HR:Hid (rightB p l=true):=h;clear h;go_enter Tryz.func79,Tryz.ntmps79;go_wp2_with fail;refine(right18 _ _ _).mono ?_;rw[HR.out];rintro e w1 ⟨rfl,hb⟩;obtain⟨hc,hf⟩:=bcell hb;have hz:w.heap.size+1<w1.heap.size:=by have:=hb.size;simp at this;omega
 go_wp2;exact bodyPost_ret (v:=.tuple #[.agg #[.int .u64 (p+1),.int .u32 0],.int .i64 0]) (by simp[results,Tryz.results79,go_sem,hc]) rfl ⟨rfl,below2s hb _ _⟩
theorem next19_3(p l:Int)(w:World)(_h0:0<=p)(_h1:0<=l)(h:rightB p l=true)(h2:¬l<4095)(h3:¬p<281474976710656):
  Calls Tryz.prog 79 #[.agg #[.int .u64 p,.int .u32 l]] w fun e w'=>e=.returned (.tuple #[.agg #[.int .u64 0,.int .u32 0],.int .i64 20])/\Below w.heap.size w w':=by
 have hr:=rightB_iff.1 h;have h4:(p==281474976710656)=true:=by simp;omega
 have HR:Hid (rightB p l=true):=h;clear h;go_enter Tryz.func79,Tryz.ntmps79;go_wp2_with fail;refine(right18 _ _ _).mono ?_;rw[HR.out];rintro e w1 ⟨rfl,hb⟩;obtain⟨hc,hf⟩:=bcell hb;have hz:w.heap.size+1<w1.heap.size:=by have:=hb.size;simp at this;omega
 go_wp2;exact bodyPost_ret (v:=.tuple #[.agg #[.int .u64 0,.int .u32 0],.int .i64 20]) (by simp[results,Tryz.results79,go_sem,hc]) rfl ⟨rfl,below2s hb _ _⟩
theorem next19(p l:Int)(w:World)(_h0:0<=p)(_h1:0<=l):
  Calls Tryz.prog 79 #[.agg #[.int .u64 p,.int .u32 l]] w fun e w'=>e=.returned (.tuple #[.agg #[.int .u64 (nextF p l).1,.int .u32 (nextF p l).2.1],.int .i64 (nextF p l).2.2])/\Below w.heap.size w w':=by
 cases h:rightB p l
 ·rw[show nextF p l=(0,0,1)from by simp[nextF,h]];exact next19_0 p l w _h0 _h1 h
 ·by_cases h2:l<4095
  ·rw[show nextF p l=(p,l+1,0)from by simp[nextF,h,h2]];exact next19_1 p l w _h0 _h1 h h2
  ·by_cases h3:p<281474976710656
   ·rw[show nextF p l=(p+1,0,0)from by simp[nextF,h,h2,h3]];exact next19_2 p l w _h0 _h1 h h2 h3
   ·rw[show nextF p l=(0,0,20)from by simp[nextF,h,h2,h3]];exact next19_3 p l w _h0 _h1 h h2 h3
theorem below3{w w1:World}{o1 o2 o3:Obj}(hb:Below (((w.alloc o1).alloc o2).alloc o3).heap.size (((w.alloc o1).alloc o2).alloc o3) w1):Below w.heap.size w w1:=
 ((((Below.refl _ _).alloc (Nat.le_refl _) _).alloc (by simp) _).alloc (by simp;omega) _).trans (hb.mono (by simp;omega))
theorem below3s{w w1:World}{o1 o2 o3:Obj}(hb:Below (((w.alloc o1).alloc o2).alloc o3).heap.size (((w.alloc o1).alloc o2).alloc o3) w1)(u v:Value):
  Below w.heap.size w ((w1.setCell ⟨w.heap.size+1+1,0,none⟩ u).setCell ⟨w.heap.size+1+1,1,none⟩ v):=
 ((below3 hb).setCell (by simp;omega) _).setCell (by simp;omega) _
def maxF(p l q m:Int):Int×Int:=if lessB p l q m then(q,m)else(p,l)
def maxL(xs:List (Int×Int)):Int×Int:=xs.foldl (fun m t=>maxF m.1 m.2 t.1 t.2) (0,0)
theorem maxL_snoc(xs:List (Int×Int))(t:Int×Int):maxL (xs++[t])=maxF (maxL xs).1 (maxL xs).2 t.1 t.2:=by simp[maxL]
theorem max23_row(bk:Nat)(w:World)(hbk:bk<w.heap.size)(n:Nat)(xs:List (Int×Int))(hn:xs.length=n)(hn2:n<=1000)
   (hc:∀i:Nat,i<n->w.cell? ⟨bk,i*2,none⟩=some (.int .u64 (xs[i]?.getD (0,0)).1)/\w.cell? ⟨bk,i*2+1,none⟩=some (.int .u32 (xs[i]?.getD (0,0)).2)):
  Calls Tryz.prog 101 #[.slice (some ⟨bk,0,none⟩) n n] w fun e w'=>e=.returned (.agg #[.int .u64 (maxL xs).1,.int .u32 (maxL xs).2])/\Below w.heap.size w w':=by
 go_enter Tryz.func101,Tryz.ntmps101;go_wp2;go_loopw [8] (fun i wr=>∃k:Nat,k<=n/\i=.int .i64 k/\Below w.heap.size w wr/\w.heap.size+1<wr.heap.size/\wr.frozen? ⟨w.heap.size,0,none⟩=false/\wr.frozen? ⟨w.heap.size,1,none⟩=false/\wr.cell? ⟨w.heap.size,0,none⟩=some (.int .u64 0)/\wr.cell? ⟨w.heap.size,1,none⟩=some (.int .u32 0)/\wr.frozen? ⟨w.heap.size+1,0,none⟩=false/\wr.frozen? ⟨w.heap.size+1,1,none⟩=false/\wr.cell? ⟨w.heap.size+1,0,none⟩=some (.int .u64 (maxL (xs.take k)).1)/\wr.cell? ⟨w.heap.size+1,1,none⟩=some (.int .u32 (maxL (xs.take k)).2)) (fun i _=>n-(intOf i).toNat)
 case atStart=>
  exact⟨0,Nat.zero_le _,rfl,((Below.refl _ _).alloc (Nat.le_refl _) _).alloc (by simp) _,by simp,by simp[go_sem],by simp[go_sem],by simp[go_sem],by simp[go_sem],by simp[go_sem],by simp[go_sem],by simp[go_sem,maxL],by simp[go_sem,maxL]⟩
 case round=>
  obtain⟨k,hk,rfl,hBr,hzr,f0,f1,r0,r1,f2,f3,m0,m1⟩:=hrel;by_cases hlt:k<n
  ·have hd4:decide ((k:Int)<n)=true:=by simp;omega
   have e0:wr.cell? ⟨bk,k*2,none⟩=some (.int .u64 (xs[k]?.getD (0,0)).1):=by rw[hBr.cell hbk];exact(hc k hlt).1
   have e1:wr.cell? ⟨bk,k*2+1,none⟩=some (.int .u32 (xs[k]?.getD (0,0)).2):=by rw[hBr.cell hbk];exact(hc k hlt).2
   have HX:Hid (maxL (xs.take (k+1))=maxF (maxL (xs.take k)).1 (maxL (xs.take k)).2 xs[k].1 xs[k].2):=by rw[List.take_succ_eq_append_getElem (by omega)];exact maxL_snoc _ _
   cases hl:lessB (maxL (xs.take k)).1 (maxL (xs.take k)).2 xs[k].1 xs[k].2
   ·have HL:Hid (lessB (maxL (xs.take k)).1 (maxL (xs.take k)).2 xs[k].1 xs[k].2=false):=hl;have hm:maxL (xs.take (k+1))=maxL (xs.take k):=by rw[HX.out];simp[maxF,hl]
    have HM:Hid (maxL (xs.take (k+1))=maxL (xs.take k)):=hm;clear hl hm;go_wp2_with fail;refine(less17 _ _ _ _ _).mono ?_;rw[HL.out];rintro e w3 ⟨rfl,hb3⟩;obtain⟨hc3,hf3⟩:=bcell hb3;have hz3:w.heap.size+1<w3.heap.size:=by have:=hb3.size;simp at this;omega
    have hz4:w.heap.size<wr.heap.size:=by omega
    go_wp2;go_roundw
    case rel=>
     refine⟨k+1,by omega,by go_num,?_,hz3,?_,?_,?_,?_,?_,?_,?_,?_⟩
     ·exact(hBr.alloc hBr.size _).trans (hb3.mono (by simp;omega))
     all_goals try rw[HM.out]
     all_goals simp[go_sem,hc3,hf3,Nat.lt_succ_of_lt hz4,Nat.lt_succ_of_lt hzr,hz4,hzr,f0,f1,f2,f3,r0,r1,m0,m1]
    case measure=>simp[intOf];omega
   ·have HL:Hid (lessB (maxL (xs.take k)).1 (maxL (xs.take k)).2 xs[k].1 xs[k].2=true):=hl;have hm:maxL (xs.take (k+1))=xs[k]:=by rw[HX.out];simp[maxF,hl]
    have HM:Hid (maxL (xs.take (k+1))=xs[k]):=hm;clear hl hm;go_wp2_with fail;refine(less17 _ _ _ _ _).mono ?_;rw[HL.out];rintro e w3 ⟨rfl,hb3⟩;obtain⟨hc3,hf3⟩:=bcell hb3;have hz3:w.heap.size+1<w3.heap.size:=by have:=hb3.size;simp at this;omega
    have hz4:w.heap.size<wr.heap.size:=by omega
    go_wp2;go_roundw
    case rel=>
     refine⟨k+1,by omega,by go_num,?_,by simpa using hz3,?_,?_,?_,?_,?_,?_,?_,?_⟩
     ·exact(((hBr.alloc hBr.size _).trans (hb3.mono (by simp;omega))).setCell (by simp) _).setCell (by simp) _
     all_goals try rw[HM.out]
     all_goals simp[go_sem,hc3,hf3,Nat.lt_succ_of_lt hz4,Nat.lt_succ_of_lt hzr,hz4,hzr,f0,f1,f2,f3,r0,r1,m0,m1]
    case measure=>simp[intOf];omega
  ·have hd4:decide ((k:Int)<n)=false:=by simp;omega
   have hkm:xs.take k=xs:=List.take_of_length_le (by omega);rw[hkm]at m0 m1;go_wp2;refine bodyPost_ret (v:=.agg #[.int .u64 (maxL xs).1,.int .u32 (maxL xs).2]) (by simp[results,Tryz.results101,go_sem,r0,r1]) rfl ⟨rfl,?_⟩;exact(hBr.setCell (by simp) _).setCell (by simp) _
def beyB(a b m:Int):Bool:=decide (b+m<a)
theorem beyond22(a b m:Int)(w:World)(_h0:0<=a)(_h1:a<=18446744073709551615)(_h2:0<=b)(_h3:0<=m):
  Calls Tryz.prog 169 #[.int .u64 a,.int .u64 b,.int .u64 m] w fun e w'=>e=.returned (.bool (beyB a b m))/\Below w.heap.size w w':=by
 by_cases h:b<a
 ·go_enter Tryz.func169,Tryz.ntmps169;go_wp2;go_ret;exact⟨ret_bool (by simp[beyB];omega),Below.refl _ _⟩
 ·go_enter Tryz.func169,Tryz.ntmps169;go_wp2;go_ret;exact⟨ret_bool (by simp[beyB];omega),Below.refl _ _⟩
def lateB(p q:Int):Bool:=beyB q p 100
theorem late15(p l q m:Int)(w:World)(h0:0<=p)(h1:0<=q)(h2:q<=18446744073709551615):
  Calls Tryz.prog 100 #[.agg #[.int .u64 p,.int .u32 l],.agg #[.int .u64 q,.int .u32 m]] w fun e w'=>e=.returned (.bool (lateB p q))/\Below w.heap.size w w':=by
 go_enter Tryz.func100,Tryz.ntmps100;go_wp2_with fail;refine(beyond22 _ _ _ _ h1 h2 h0 (by omega)).mono ?_;rintro e w1 ⟨rfl,hb⟩;go_wp2;go_ret;exact⟨rfl,below2 hb⟩
def boundF(p l:Int):Int×Int:=if rightB p l then(min (p+64) 281474976710656,4095)else(0,0)
theorem bound13_0(p l:Int)(w:World)(_h0:0<=p)(_h1:0<=l)(h:rightB p l=false):
  Calls Tryz.prog 166 #[.agg #[.int .u64 p,.int .u32 l]] w fun e w'=>e=.returned (.agg #[.int .u64 0,.int .u32 0])/\Below w.heap.size w w':=by
 have HR:Hid (rightB p l=false):=h;clear h;go_enter Tryz.func166,Tryz.ntmps166;go_wp2_with fail;refine(right18 _ _ _).mono ?_;rw[HR.out];rintro e w1 ⟨rfl,hb⟩;obtain⟨hc,hf⟩:=bcell hb;have hz:w.heap.size+1<w1.heap.size:=by have:=hb.size;simp at this;omega
 go_wp2;exact bodyPost_ret (v:=.agg #[.int .u64 0,.int .u32 0]) (by simp[results,Tryz.results166,go_sem,hc]) rfl ⟨rfl,below2s hb _ _⟩
theorem bound13_1(p l:Int)(w:World)(_h0:0<=p)(_h1:0<=l)(h:rightB p l=true)(h3:p+64<281474976710656):
  Calls Tryz.prog 166 #[.agg #[.int .u64 p,.int .u32 l]] w fun e w'=>e=.returned (.agg #[.int .u64 (p+64),.int .u32 4095])/\Below w.heap.size w w':=by
 have hr:=rightB_iff.1 h;have HR:Hid (rightB p l=true):=h;clear h;go_enter Tryz.func166,Tryz.ntmps166;go_wp2_with fail;refine(right18 _ _ _).mono ?_;rw[HR.out];rintro e w1 ⟨rfl,hb⟩;obtain⟨hc,hf⟩:=bcell hb;have hz:w.heap.size+1<w1.heap.size:=by have:=hb.size;simp at this;omega
 go_wp2;exact bodyPost_ret (v:=.agg #[.int .u64 (p+64),.int .u32 4095]) (by simp[results,Tryz.results166,go_sem,hc]) rfl ⟨rfl,below2s hb _ _⟩
theorem bound13_2(p l:Int)(w:World)(_h0:0<=p)(_h1:0<=l)(h:rightB p l=true)(h3:p+64=281474976710656):
  Calls Tryz.prog 166 #[.agg #[.int .u64 p,.int .u32 l]] w fun e w'=>e=.returned (.agg #[.int .u64 281474976710656,.int .u32 4095])/\Below w.heap.size w w':=by
 have hr:=rightB_iff.1 h;obtain rfl:p=281474976710592:=by omega
 have HR:Hid (rightB 281474976710592 l=true):=h;clear h;go_enter Tryz.func166,Tryz.ntmps166;go_wp2_with fail;refine(right18 _ _ _).mono ?_;rw[HR.out];rintro e w1 ⟨rfl,hb⟩;obtain⟨hc,hf⟩:=bcell hb;have hz:w.heap.size+1<w1.heap.size:=by have:=hb.size;simp at this;omega
 go_wp2;exact bodyPost_ret (v:=.agg #[.int .u64 281474976710656,.int .u32 4095]) (by simp[results,Tryz.results166,go_sem,hc]) rfl ⟨rfl,below2s hb _ _⟩
theorem bound13_3(p l:Int)(w:World)(_h0:0<=p)(_h1:0<=l)(h:rightB p l=true)(h3:281474976710656<p+64):
  Calls Tryz.prog 166 #[.agg #[.int .u64 p,.int .u32 l]] w fun e w'=>e=.returned (.agg #[.int .u64 281474976710656,.int .u32 4095])/\Below w.heap.size w w':=by
 have hr:=rightB_iff.1 h;have HR:Hid (rightB p l=true):=h;clear h;go_enter Tryz.func166,Tryz.ntmps166;go_wp2_with fail;refine(right18 _ _ _).mono ?_;rw[HR.out];rintro e w1 ⟨rfl,hb⟩;obtain⟨hc,hf⟩:=bcell hb;have hz:w.heap.size+1<w1.heap.size:=by have:=hb.size;simp at this;omega
 go_wp2;exact bodyPost_ret (v:=.agg #[.int .u64 281474976710656,.int .u32 4095]) (by simp[results,Tryz.results166,go_sem,hc]) rfl ⟨rfl,below2s hb _ _⟩
theorem bound13(p l:Int)(w:World)(h0:0<=p)(h1:0<=l):
  Calls Tryz.prog 166 #[.agg #[.int .u64 p,.int .u32 l]] w fun e w'=>e=.returned (.agg #[.int .u64 (boundF p l).1,.int .u32 (boundF p l).2])/\Below w.heap.size w w':=by
 cases h:rightB p l
 ·rw[show boundF p l=(0,0)from by simp[boundF,h]];exact bound13_0 p l w h0 h1 h
 ·rcases Int.lt_trichotomy (p+64) 281474976710656 with h3|h3|h3
  ·rw[show boundF p l=(p+64,4095)from by simp[boundF,h];omega];exact bound13_1 p l w h0 h1 h h3
  ·rw[show boundF p l=(281474976710656,4095)from by simp[boundF,h];omega];exact bound13_2 p l w h0 h1 h h3
  ·rw[show boundF p l=(281474976710656,4095)from by simp[boundF,h];omega];exact bound13_3 p l w h0 h1 h h3
def mergeF(p l f q m:Int):Int×Int×Int:=
 if rightB p l&&rightB q m then(if beyB q f 1000 then(0,0,21)else((maxF p l q m).1,(maxF p l q m).2,0))else(0,0,1)
theorem maxL_two{p l q m:Int}(h0:0<=p)(h1:0<=l):maxL [(p,l),(q,m)]=maxF p l q m:=by
 have:maxF 0 0 p l=(p,l):=by
  unfold maxF;by_cases h:lessB 0 0 p l=true
  ·rw[if_pos h]
  ·rw[if_neg h];simp only[lessB,decide_eq_true_eq]at h;simp only[Prod.mk.injEq];omega
 simp[maxL,this]
theorem below3'{w w1:World}{o1 o2 o3:Obj}(hb:Below (((w.alloc o1).alloc o2).alloc o3).heap.size (((w.alloc o1).alloc o2).alloc o3) w1):(w.heap.size+1+1<w1.heap.size)/\w.heap.size+1<w1.heap.size/\w.heap.size<w1.heap.size:=by have:=hb.size;simp at this;omega
theorem merge11_0(p l f q m:Int)(w:World)(_h0:0<=p)(_h1:0<=l)(_h2:0<=f)(_h3:0<=q)(_h4:0<=m)(_h5:q<=18446744073709551615)(h:rightB p l=false):
  Calls Tryz.prog 165 #[.agg #[.int .u64 p,.int .u32 l],.int .u64 f,.agg #[.int .u64 q,.int .u32 m]] w fun e w'=>e=.returned (.tuple #[.agg #[.int .u64 0,.int .u32 0],.int .i64 1])/\Below w.heap.size w w':=by
 have HR:Hid (rightB p l=false):=h;clear h;go_enter Tryz.func165,Tryz.ntmps165;go_wp2_with fail;refine(right18 _ _ _).mono ?_;rw[HR.out];rintro e w1 ⟨rfl,hb⟩;obtain⟨hc,hf⟩:=bcell hb;obtain⟨hz2,hz1,hz0⟩:=below3' hb;go_wp2;exact bodyPost_ret (v:=.tuple #[.agg #[.int .u64 0,.int .u32 0],.int .i64 1]) (by simp[results,Tryz.results165,go_sem,hc]) rfl ⟨rfl,below3s hb _ _⟩
theorem merge11_1(p l f q m:Int)(w:World)(_h0:0<=p)(_h1:0<=l)(_h2:0<=f)(_h3:0<=q)(_h4:0<=m)(_h5:q<=18446744073709551615)(h:rightB p l=true)(h':rightB q m=false):
  Calls Tryz.prog 165 #[.agg #[.int .u64 p,.int .u32 l],.int .u64 f,.agg #[.int .u64 q,.int .u32 m]] w fun e w'=>e=.returned (.tuple #[.agg #[.int .u64 0,.int .u32 0],.int .i64 1])/\Below w.heap.size w w':=by
 have HR:Hid (rightB p l=true):=h;have HQ:Hid (rightB q m=false):=h';clear h h';go_enter Tryz.func165,Tryz.ntmps165;go_wp2_with fail;refine(right18 _ _ _).mono ?_;rw[HR.out];rintro e w1 ⟨rfl,hb⟩;obtain⟨hc,hf⟩:=bcell hb;obtain⟨hz2,hz1,hz0⟩:=below3' hb;go_wp2_with fail;refine(right18 _ _ _).mono ?_;rw[HQ.out];rintro e w2 ⟨rfl,hb2⟩;obtain⟨hc2,hf2⟩:=bcell hb2;have hy2:w.heap.size+1+1<w2.heap.size:=by have:=hb2.size;omega
 go_wp2;exact bodyPost_ret (v:=.tuple #[.agg #[.int .u64 0,.int .u32 0],.int .i64 1]) (by simp[results,Tryz.results165,go_sem,hc2,hc,hz2]) rfl ⟨rfl,(((below3 hb).trans (hb2.mono (by omega))).setCell (by simp;omega) _).setCell (by simp;omega) _⟩
theorem merge11_2(p l f q m:Int)(w:World)(_h0:0<=p)(_h1:0<=l)(_h2:0<=f)(_h3:0<=q)(_h4:0<=m)(_h5:q<=18446744073709551615)(h:rightB p l=true)(h':rightB q m=true)(h'':beyB q f 1000=true):
  Calls Tryz.prog 165 #[.agg #[.int .u64 p,.int .u32 l],.int .u64 f,.agg #[.int .u64 q,.int .u32 m]] w fun e w'=>e=.returned (.tuple #[.agg #[.int .u64 0,.int .u32 0],.int .i64 21])/\Below w.heap.size w w':=by
 have HR:Hid (rightB p l=true):=h;have HQ:Hid (rightB q m=true):=h';have HB:Hid (beyB q f 1000=true):=h'';clear h h' h'';go_enter Tryz.func165,Tryz.ntmps165;go_wp2_with fail;refine(right18 _ _ _).mono ?_;rw[HR.out];rintro e w1 ⟨rfl,hb⟩;obtain⟨hc,hf⟩:=bcell hb;obtain⟨hz2,hz1,hz0⟩:=below3' hb;go_wp2_with fail;refine(right18 _ _ _).mono ?_;rw[HQ.out];rintro e w2 ⟨rfl,hb2⟩;obtain⟨hc2,hf2⟩:=bcell hb2;have hy2:w.heap.size+1+1<w2.heap.size:=by have:=hb2.size;omega
 have hy1:w.heap.size+1<w2.heap.size:=by omega
 have hy0:w.heap.size<w2.heap.size:=by omega
 go_wp2_with fail;refine(beyond22 _ _ _ _ _h3 _h5 _h2 (by omega)).mono ?_;rw[HB.out];rintro e w3 ⟨rfl,hb3⟩;obtain⟨hc3,hf3⟩:=bcell hb3;have hx2:w.heap.size+1+1<w3.heap.size:=by have:=hb3.size;omega
 go_wp2;exact bodyPost_ret (v:=.tuple #[.agg #[.int .u64 0,.int .u32 0],.int .i64 21]) (by simp[results,Tryz.results165,go_sem,hc3,hc2,hc,hz2,hy2]) rfl ⟨rfl,((((below3 hb).trans (hb2.mono (by omega))).trans (hb3.mono (by omega))).setCell (by simp;omega) _).setCell (by simp;omega) _⟩
theorem merge11_3(p l f q m:Int)(w:World)(_h0:0<=p)(_h1:0<=l)(_h2:0<=f)(_h3:0<=q)(_h4:0<=m)(_h5:q<=18446744073709551615)(h:rightB p l=true)(h':rightB q m=true)(h'':beyB q f 1000=false):
  Calls Tryz.prog 165 #[.agg #[.int .u64 p,.int .u32 l],.int .u64 f,.agg #[.int .u64 q,.int .u32 m]] w fun e w'=>e=.returned (.tuple #[.agg #[.int .u64 (maxF p l q m).1,.int .u32 (maxF p l q m).2],.int .i64 0])/\Below w.heap.size w w':=by
 have HR:Hid (rightB p l=true):=h;have HQ:Hid (rightB q m=true):=h';have HB:Hid (beyB q f 1000=false):=h'';clear h h' h'';go_enter Tryz.func165,Tryz.ntmps165;go_wp2_with fail;refine(right18 _ _ _).mono ?_;rw[HR.out];rintro e w1 ⟨rfl,hb⟩;obtain⟨hc,hf⟩:=bcell hb;obtain⟨hz2,hz1,hz0⟩:=below3' hb;go_wp2_with fail;refine(right18 _ _ _).mono ?_;rw[HQ.out];rintro e w2 ⟨rfl,hb2⟩;obtain⟨hc2,hf2⟩:=bcell hb2;have hy2:w.heap.size+1+1<w2.heap.size:=by have:=hb2.size;omega
 have hy1:w.heap.size+1<w2.heap.size:=by omega
 have hy0:w.heap.size<w2.heap.size:=by omega
 go_wp2_with fail;refine(beyond22 _ _ _ _ _h3 _h5 _h2 (by omega)).mono ?_;rw[HB.out];rintro e w3 ⟨rfl,hb3⟩;obtain⟨hc3,hf3⟩:=bcell hb3;have hx2:w.heap.size+1+1<w3.heap.size:=by have:=hb3.size;omega
 have hx1:w.heap.size+1<w3.heap.size:=by omega
 have hx0:w.heap.size<w3.heap.size:=by omega
 go_wp2_with fail;refine(max23_row w3.heap.size _ (by simp) 2 [(p,l),(q,m)] rfl (by omega) ?_).mono ?_
 ·intro i hi;obtain rfl|rfl:i=0\/i=1:=by omega
  ·simp[go_sem]
  ·simp[go_sem]
 rw[maxL_two _h0 _h1];rintro e w4 ⟨rfl,hb4⟩;obtain⟨hc4,hf4⟩:=bcell hb4;have hu2:w.heap.size+1+1<w4.heap.size:=by have:=hb4.size;simp at this;omega
 have hv2:w.heap.size+1+1<w3.heap.size+1:=by omega
 go_wp2;exact bodyPost_ret (v:=.tuple #[.agg #[.int .u64 (maxF p l q m).1,.int .u32 (maxF p l q m).2],.int .i64 0]) (by simp[results,Tryz.results165,go_sem,hc4,hc3,hc2,hc,hz2,hy2,hx2,hv2]) rfl ⟨rfl,((((((below3 hb).trans (hb2.mono (by omega))).trans (hb3.mono (by omega))).alloc (by omega) _).trans (hb4.mono (by simp;omega))).setCell (by simp;omega) _).setCell (by simp;omega) _⟩
theorem merge11(p l f q m:Int)(w:World)(_h0:0<=p)(_h1:0<=l)(_h2:0<=f)(_h3:0<=q)(_h4:0<=m)(_h5:q<=18446744073709551615):
  Calls Tryz.prog 165 #[.agg #[.int .u64 p,.int .u32 l],.int .u64 f,.agg #[.int .u64 q,.int .u32 m]] w fun e w'=>e=.returned (.tuple #[.agg #[.int .u64 (mergeF p l f q m).1,.int .u32 (mergeF p l f q m).2.1],.int .i64 (mergeF p l f q m).2.2])/\Below w.heap.size w w':=by
 cases h:rightB p l
 ·rw[show mergeF p l f q m=(0,0,1)from by simp[mergeF,h]];exact merge11_0 p l f q m w _h0 _h1 _h2 _h3 _h4 _h5 h
 ·cases h':rightB q m
  ·rw[show mergeF p l f q m=(0,0,1)from by simp[mergeF,h']];exact merge11_1 p l f q m w _h0 _h1 _h2 _h3 _h4 _h5 h h'
  ·cases h'':beyB q f 1000
   ·rw[show mergeF p l f q m=((maxF p l q m).1,(maxF p l q m).2,0)from by simp[mergeF,h,h',h'']];exact merge11_3 p l f q m w _h0 _h1 _h2 _h3 _h4 _h5 h h' h''
   ·rw[show mergeF p l f q m=(0,0,21)from by simp[mergeF,h,h',h'']];exact merge11_2 p l f q m w _h0 _h1 _h2 _h3 _h4 _h5 h h' h''
def tickF(p l f:Int):Int×Int×Int:=
 if rightB p l then(if f<=281474976710656 then(if p<f then(f,0,0)else nextF p l)else(0,0,20))else(0,0,1)
theorem tick9_0(p l f:Int)(w:World)(_h0:0<=p)(_h1:0<=l)(_h2:0<=f)(h:rightB p l=false):
  Calls Tryz.prog 93 #[.agg #[.int .u64 p,.int .u32 l],.int .u64 f] w fun e w'=>e=.returned (.tuple #[.agg #[.int .u64 0,.int .u32 0],.int .i64 1])/\Below w.heap.size w w':=by
 have HR:Hid (rightB p l=false):=h;clear h;go_enter Tryz.func93,Tryz.ntmps93;go_wp2_with fail;refine(right18 _ _ _).mono ?_;rw[HR.out];rintro e w1 ⟨rfl,hb⟩;obtain⟨hc,hf⟩:=bcell hb;have hz:w.heap.size+1<w1.heap.size:=by have:=hb.size;simp at this;omega
 go_wp2;exact bodyPost_ret (v:=.tuple #[.agg #[.int .u64 0,.int .u32 0],.int .i64 1]) (by simp[results,Tryz.results93,go_sem,hc]) rfl ⟨rfl,below2s hb _ _⟩
theorem tick9_1(p l f:Int)(w:World)(_h0:0<=p)(_h1:0<=l)(_h2:0<=f)(h:rightB p l=true)(h3:¬f<=281474976710656):
  Calls Tryz.prog 93 #[.agg #[.int .u64 p,.int .u32 l],.int .u64 f] w fun e w'=>e=.returned (.tuple #[.agg #[.int .u64 0,.int .u32 0],.int .i64 20])/\Below w.heap.size w w':=by
 have HR:Hid (rightB p l=true):=h;clear h;go_enter Tryz.func93,Tryz.ntmps93;go_wp2_with fail;refine(right18 _ _ _).mono ?_;rw[HR.out];rintro e w1 ⟨rfl,hb⟩;obtain⟨hc,hf⟩:=bcell hb;have hz:w.heap.size+1<w1.heap.size:=by have:=hb.size;simp at this;omega
 go_wp2;exact bodyPost_ret (v:=.tuple #[.agg #[.int .u64 0,.int .u32 0],.int .i64 20]) (by simp[results,Tryz.results93,go_sem,hc]) rfl ⟨rfl,below2s hb _ _⟩
theorem tick9_2(p l f:Int)(w:World)(_h0:0<=p)(_h1:0<=l)(_h2:0<=f)(h:rightB p l=true)(h3:f<=281474976710656)(h4:p<f):
  Calls Tryz.prog 93 #[.agg #[.int .u64 p,.int .u32 l],.int .u64 f] w fun e w'=>e=.returned (.tuple #[.agg #[.int .u64 f,.int .u32 0],.int .i64 0])/\Below w.heap.size w w':=by
 have HR:Hid (rightB p l=true):=h;clear h;go_enter Tryz.func93,Tryz.ntmps93;go_wp2_with fail;refine(right18 _ _ _).mono ?_;rw[HR.out];rintro e w1 ⟨rfl,hb⟩;obtain⟨hc,hf⟩:=bcell hb;have hz:w.heap.size+1<w1.heap.size:=by have:=hb.size;simp at this;omega
 go_wp2;exact bodyPost_ret (v:=.tuple #[.agg #[.int .u64 f,.int .u32 0],.int .i64 0]) (by simp[results,Tryz.results93,go_sem,hc]) rfl ⟨rfl,below2s hb _ _⟩
theorem tick9_3(p l f:Int)(w:World)(_h0:0<=p)(_h1:0<=l)(_h2:0<=f)(h:rightB p l=true)(h3:f<=281474976710656)(h4:¬p<f)(a b c:Int)(hn:nextF p l=(a,b,c)):
  Calls Tryz.prog 93 #[.agg #[.int .u64 p,.int .u32 l],.int .u64 f] w fun e w'=>e=.returned (.tuple #[.agg #[.int .u64 a,.int .u32 b],.int .i64 c])/\Below w.heap.size w w':=by
 have HN:Hid (nextF p l=(a,b,c)):=hn;clear hn;have HR:Hid (rightB p l=true):=h;clear h;go_enter Tryz.func93,Tryz.ntmps93;go_wp2_with fail;refine(right18 _ _ _).mono ?_;rw[HR.out];rintro e w1 ⟨rfl,hb⟩;obtain⟨hc,hf⟩:=bcell hb;have hz:w.heap.size+1<w1.heap.size:=by have:=hb.size;simp at this;omega
 go_wp2_with fail;refine(next19 _ _ _ _h0 _h1).mono ?_;rw[HN.out];rintro e w2 ⟨rfl,hb2⟩;obtain⟨hc2,hf2⟩:=bcell hb2;have hz2:w.heap.size+1<w2.heap.size:=by have:=hb2.size;omega
 have hz0:w.heap.size<w1.heap.size:=by omega
 go_wp2;exact bodyPost_ret (v:=.tuple #[.agg #[.int .u64 a,.int .u32 b],.int .i64 c]) (by simp[results,Tryz.results93,go_sem,hc2,hc,hz]) rfl ⟨rfl,(((below2 hb).trans (hb2.mono (by omega))).setCell (by simp) _).setCell (by simp) _⟩
theorem tick9(p l f:Int)(w:World)(_h0:0<=p)(_h1:0<=l)(_h2:0<=f):
  Calls Tryz.prog 93 #[.agg #[.int .u64 p,.int .u32 l],.int .u64 f] w fun e w'=>e=.returned (.tuple #[.agg #[.int .u64 (tickF p l f).1,.int .u32 (tickF p l f).2.1],.int .i64 (tickF p l f).2.2])/\Below w.heap.size w w':=by
 cases h:rightB p l
 ·rw[show tickF p l f=(0,0,1)from by simp[tickF,h]];exact tick9_0 p l f w _h0 _h1 _h2 h
 ·by_cases h3:f<=281474976710656
  ·by_cases h4:p<f
   ·rw[show tickF p l f=(f,0,0)from by simp[tickF,h,h3,h4]];exact tick9_2 p l f w _h0 _h1 _h2 h h3 h4
   ·rw[show tickF p l f=nextF p l from by simp[tickF,h,h3,h4]];exact tick9_3 p l f w _h0 _h1 _h2 h h3 h4 _ _ _ rfl
  ·rw[show tickF p l f=(0,0,20)from by simp[tickF,h,h3]];exact tick9_1 p l f w _h0 _h1 _h2 h h3
def eqB(p l q m:Int):Bool:=p==q&&l==m
theorem run_eql25(p l q m:Int)(w:World):(binOp .eql 28 (.agg #[.int .u64 p,.int .u32 l]) (.agg #[.int .u64 q,.int .u32 m])).run Tryz.prog w=.ok (.bool (eqB p l q m)) w:=by by_cases h:p=q<;>by_cases h2:l=m<;>simp[go_sem,eqB,h,h2]
theorem run_neq25(p l q m:Int)(w:World):(binOp .neq 28 (.agg #[.int .u64 p,.int .u32 l]) (.agg #[.int .u64 q,.int .u32 m])).run Tryz.prog w=.ok (.bool (!eqB p l q m)) w:=by by_cases h:p=q<;>by_cases h2:l=m<;>simp[go_sem,eqB,h,h2]
theorem lessB_not{p l q m:Int}:lessB p l q m=false↔¬(p<q\/p=q/\l<m):=by unfold lessB;exact decide_eq_false_iff_not
end Go.Proofs.YtdplfgcoaddbdaaGreat.Clk
