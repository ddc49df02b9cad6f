import Derived.WalkSpells
import Derived.Test.YtnfpfbehebcdpaaGreatUzy
import Derived.WalkLawsBesides
import Derived.Test.YtnfpfbehebcdpaaGreatUzAa
set_option maxHeartbeats 0
set_option maxRecDepth 99999
set_option linter.all false
namespace Go.Proofs.YtnfpfbehebcdpaaGreat.Clk
open Go.RowKit
def Ag(p l:Int):Bool:=decide (p<=281474976710656/\l<=4095)
def Ar(p l q m:Int):Bool:=decide (p<q\/p=q/\l<m)
def Dj{a b:Bool}(h:a=b):Ending.returned (.bool a)=.returned (.bool b):=by rw[h]
def Fq(p l:Int)(w:World):
  cpr 109 #[.agg #[.int .u64 p,.int .u32 l]] w λe w'=>e=.returned (.bool (Ag p l))/\Bw w w':=by
 exact axh
def Oi(p l q m:Int)(w:World):
  cpr 84 #[.agg #[.int .u64 p,.int .u32 l],.agg #[.int .u64 q,.int .u32 m]] w λe w'=>e=.returned (.bool (Ar p l q m))/\Bw w w':=by
 exact ato
def Fe{W w1:World}(hb:Bw W w1):(∀b o,b<W.heap.size->w1.cell? ⟨b,o,none⟩=W.cell? ⟨b,o,none⟩)/\(∀b o,b<W.heap.size->w1.frozen? ⟨b,o,none⟩=W.frozen? ⟨b,o,none⟩):=
 ⟨λb o h=>hb.cell (p:=⟨b,o,none⟩) h,λb o h=>hb.frozen (p:=⟨b,o,none⟩) h⟩
def below2{w w1:World}{o1 o2:Obj}(hb:Below ((w.alloc o1).alloc o2).heap.size ((w.alloc o1).alloc o2) w1):Bw w w1:=
 ((al _).alloc (by simp) _).trans (hb.mono (by simp;omega))
def Jp{w w1:World}{o1 o2:Obj}(hb:Below ((w.alloc o1).alloc o2).heap.size ((w.alloc o1).alloc o2) w1)(u v:Value):
  Bw w ((w1.setCell ⟨w.heap.size+1,0,none⟩ u).setCell ⟨w.heap.size+1,1,none⟩ v):=
 ((below2 hb).setCell (by simp) _).setCell (by simp) _
def Di(p l:Int):Int×Int×Int:=
 if Ag p l then(if l<4095 then(p,l+1,0)else if p<281474976710656 then(p+1,0,0)else(0,0,20))else(0,0,1)
def G7{p l:Int}:Ag p l=true↔p<=281474976710656/\l<=4095:=by simp[Ag]
def aph(p l:Int)(w:World)(_h0:0<=p)(_h1:0<=l)(h:Ag p l=false):
  cpr 57 #[.agg #[.int .u64 p,.int .u32 l]] w λe w'=>e=.returned (.tuple #[.agg #[.int .u64 0,.int .u32 0],.int .i64 1])/\Bw w w':=by
 have HR:Hid (Ag p l=false):=h;clear h;go_enter Tryz.func57,Tryz.ntmps57;go_wp2_with fail;refine(Fq _ _ _).mono ?_;rw[HR.out];rintro e w1 ⟨rfl,hb⟩;obtain⟨hc,hf⟩:=Fe hb;have hz:w.heap.size+1<w1.heap.size:=by have:=hb.size;simp at this;omega
 go_wp2;exact az (v:=.tuple #[.agg #[.int .u64 0,.int .u32 0],.int .i64 1]) (by simp[results,Tryz.results57,go_sem,hc]) rfl ⟨rfl,Jp hb _ _⟩
def apg(p l:Int)(w:World)(_h0:0<=p)(_h1:0<=l)(h:Ag p l=true)(h2:l<4095):
  cpr 57 #[.agg #[.int .u64 p,.int .u32 l]] w λe w'=>e=.returned (.tuple #[.agg #[.int .u64 p,.int .u32 (l+1)],.int .i64 0])/\Bw w w':=by
 have hr:=G7.1 h;have HR:Hid (Ag p l=true):=h;clear h;go_enter Tryz.func57,Tryz.ntmps57;go_wp2_with fail;refine(Fq _ _ _).mono ?_;rw[HR.out];rintro e w1 ⟨rfl,hb⟩;obtain⟨hc,hf⟩:=Fe hb;have hz:w.heap.size+1<w1.heap.size:=by have:=hb.size;simp at this;omega
 go_wp2;exact az (v:=.tuple #[.agg #[.int .u64 p,.int .u32 (l+1)],.int .i64 0]) (by simp[results,Tryz.results57,go_sem,hc]) rfl ⟨rfl,Jp hb _ _⟩
def apf(p l:Int)(w:World)(_h0:0<=p)(_h1:0<=l)(h:Ag p l=true)(h2:¬l<4095)(h3:p<281474976710656):
  cpr 57 #[.agg #[.int .u64 p,.int .u32 l]] w λe w'=>e=.returned (.tuple #[.agg #[.int .u64 (p+1),.int .u32 0],.int .i64 0])/\Bw w w':=by
 have hr:=G7.1 h;have h4:(p==281474976710656)=false:=by simp;omega
 have HR:Hid (Ag p l=true):=h;clear h;go_enter Tryz.func57,Tryz.ntmps57;go_wp2_with fail;refine(Fq _ _ _).mono ?_;rw[HR.out];rintro e w1 ⟨rfl,hb⟩;obtain⟨hc,hf⟩:=Fe hb;have hz:w.heap.size+1<w1.heap.size:=by have:=hb.size;simp at this;omega
 go_wp2;exact az (v:=.tuple #[.agg #[.int .u64 (p+1),.int .u32 0],.int .i64 0]) (by simp[results,Tryz.results57,go_sem,hc]) rfl ⟨rfl,Jp hb _ _⟩
def ape(p l:Int)(w:World)(_h0:0<=p)(_h1:0<=l)(h:Ag p l=true)(h2:¬l<4095)(h3:¬p<281474976710656):
  cpr 57 #[.agg #[.int .u64 p,.int .u32 l]] w λe w'=>e=.returned (.tuple #[.agg #[.int .u64 0,.int .u32 0],.int .i64 20])/\Bw w w':=by
 have hr:=G7.1 h;have h4:(p==281474976710656)=true:=by simp;omega
 have HR:Hid (Ag p l=true):=h;clear h;go_enter Tryz.func57,Tryz.ntmps57;go_wp2_with fail;refine(Fq _ _ _).mono ?_;rw[HR.out];rintro e w1 ⟨rfl,hb⟩;obtain⟨hc,hf⟩:=Fe hb;have hz:w.heap.size+1<w1.heap.size:=by have:=hb.size;simp at this;omega
 go_wp2;exact az (v:=.tuple #[.agg #[.int .u64 0,.int .u32 0],.int .i64 20]) (by simp[results,Tryz.results57,go_sem,hc]) rfl ⟨rfl,Jp hb _ _⟩
def ahp(p l:Int)(w:World)(_h0:0<=p)(_h1:0<=l):
  cpr 57 #[.agg #[.int .u64 p,.int .u32 l]] w λe w'=>e=.returned (.tuple #[.agg #[.int .u64 (Di p l).1,.int .u32 (Di p l).2.1],.int .i64 (Di p l).2.2])/\Bw w w':=by
 cases h:Ag p l
 .rw[show Di p l=(0,0,1)from by simp[Di,h]];exact aph p l w _h0 _h1 h
 .by_cases h2:l<4095
  .rw[show Di p l=(p,l+1,0)from by simp[Di,h,h2]];exact apg p l w _h0 _h1 h h2
  .by_cases h3:p<281474976710656
   .rw[show Di p l=(p+1,0,0)from by simp[Di,h,h2,h3]];exact apf p l w _h0 _h1 h h2 h3
   .rw[show Di p l=(0,0,20)from by simp[Di,h,h2,h3]];exact ape p l w _h0 _h1 h h2 h3
def below3{w w1:World}{o1 o2 o3:Obj}(hb:Below (((w.alloc o1).alloc o2).alloc o3).heap.size (((w.alloc o1).alloc o2).alloc o3) w1):Bw w w1:=
 (((al _).alloc (by simp) _).alloc (by simp;omega) _).trans (hb.mono (by simp;omega))
def avy{w w1:World}{o1 o2 o3:Obj}(hb:Below (((w.alloc o1).alloc o2).alloc o3).heap.size (((w.alloc o1).alloc o2).alloc o3) w1)(u v:Value):
  Bw w ((w1.setCell ⟨w.heap.size+1+1,0,none⟩ u).setCell ⟨w.heap.size+1+1,1,none⟩ v):=
 ((below3 hb).setCell (by simp;omega) _).setCell (by simp;omega) _
def maxF(p l q m:Int):Int×Int:=if Ar p l q m then(q,m)else(p,l)
def maxL(xs:List (Int×Int)):Int×Int:=xs.foldl (λm t=>maxF m.1 m.2 t.1 t.2) (0,0)
def Xc(xs:List (Int×Int))(t:Int×Int):maxL (xs++[t])=maxF (maxL xs).1 (maxL xs).2 t.1 t.2:=by simp[maxL]
def ab1(bk:Nat)(w:World)(hbk:bk<w.heap.size)(n:Nat)(xs:List (Int×Int))(hn:xs.length=n)(hn2:n<=1000)
   (hc:∀i:Nat,i<n->w.cell? ⟨bk,i*2,none⟩=some (.int .u64 (xs[i]?.getD (0,0)).1)/\w.cell? ⟨bk,i*2+1,none⟩=some (.int .u32 (xs[i]?.getD (0,0)).2)):
  cpr 132 #[.slice (some ⟨bk,0,none⟩) n n] w λe w'=>e=.returned (.agg #[.int .u64 (maxL xs).1,.int .u32 (maxL xs).2])/\Bw w w':=by
 go_enter Tryz.func132,Tryz.ntmps132;go_wp2;go_loopw [8] (λi wr=>∃k:Nat,k<=n/\i=.int .i64 k/\Bw w wr/\w.heap.size+1<wr.heap.size/\wr.frozen? ⟨w.heap.size,0,none⟩=false/\wr.frozen? ⟨w.heap.size,1,none⟩=false/\wr.cell? ⟨w.heap.size,0,none⟩=some (.int .u64 0)/\wr.cell? ⟨w.heap.size,1,none⟩=some (.int .u32 0)/\wr.frozen? ⟨w.heap.size+1,0,none⟩=false/\wr.frozen? ⟨w.heap.size+1,1,none⟩=false/\wr.cell? ⟨w.heap.size+1,0,none⟩=some (.int .u64 (maxL (xs.take k)).1)/\wr.cell? ⟨w.heap.size+1,1,none⟩=some (.int .u32 (maxL (xs.take k)).2)) (λi _=>n-(intOf i).toNat)
 case atStart=>
  exact ban
 case round=>
  obtain⟨k,hk,rfl,hBr,hzr,f0,f1,r0,r1,f2,f3,m0,m1⟩:=hrel;by_cases hlt:k<n
  .have hd4:decide ((k:Int)<n)=true:=by simp;omega
   have e0:wr.cell? ⟨bk,k*2,none⟩=some (.int .u64 (xs[k]?.getD (0,0)).1):=by rw[hBr.cell hbk];exact(hc k hlt).1
   have e1:wr.cell? ⟨bk,k*2+1,none⟩=some (.int .u32 (xs[k]?.getD (0,0)).2):=by rw[hBr.cell hbk];exact(hc k hlt).2
   have HX:Hid (maxL (xs.take (k+1))=maxF (maxL (xs.take k)).1 (maxL (xs.take k)).2 xs[k].1 xs[k].2):=by rw[jk (by omega)];exact Xc _ _
   cases hl:Ar (maxL (xs.take k)).1 (maxL (xs.take k)).2 xs[k].1 xs[k].2
   .have HL:Hid (Ar (maxL (xs.take k)).1 (maxL (xs.take k)).2 xs[k].1 xs[k].2=false):=hl;have hm:maxL (xs.take (k+1))=maxL (xs.take k):=by rw[HX.out];simp[maxF,hl]
    have HM:Hid (maxL (xs.take (k+1))=maxL (xs.take k)):=hm;clear hl hm;go_wp2_with fail;refine(Oi _ _ _ _ _).mono ?_;exact axu
   .have HL:Hid (Ar (maxL (xs.take k)).1 (maxL (xs.take k)).2 xs[k].1 xs[k].2=true):=hl;have hm:maxL (xs.take (k+1))=xs[k]:=by rw[HX.out];simp[maxF,hl]
    have HM:Hid (maxL (xs.take (k+1))=xs[k]):=hm;clear hl hm;go_wp2_with fail;refine(Oi _ _ _ _ _).mono ?_;exact ax5
  .have hd4:decide ((k:Int)<n)=false:=by simp;omega
   have hkm:xs.take k=xs:=ay (by omega);rw[hkm]at m0 m1;go_wp2;refine az (v:=.agg #[.int .u64 (maxL xs).1,.int .u32 (maxL xs).2]) (by simp[results,Tryz.results132,go_sem,r0,r1]) rfl ⟨rfl,?_⟩;exact(hBr.setCell (by simp) _).setCell (by simp) _
def Xy(a b m:Int):Bool:=decide (b+m<a)
def aay(a b m:Int)(w:World)(_h0:0<=a)(_h1:a<=18446744073709551615)(_h2:0<=b)(_h3:0<=m):
  cpr 199 #[.int .u64 a,.int .u64 b,.int .u64 m] w λe w'=>e=.returned (.bool (Xy a b m))/\Bw w w':=by
 by_cases h:b<a
 .exact bci
 .exact bci
def afq(p q:Int):Bool:=Xy q p 100
def ayv(p l q m:Int)(w:World)(h0:0<=p)(h1:0<=q)(h2:q<=18446744073709551615):
  cpr 148 #[.agg #[.int .u64 p,.int .u32 l],.agg #[.int .u64 q,.int .u32 m]] w λe w'=>e=.returned (.bool (afq p q))/\Bw w w':=by
 go_enter Tryz.func148,Tryz.ntmps148;go_wp2_with fail;refine(aay _ _ _ _ h1 h2 h0 (by omega)).mono ?_;rintro e w1 ⟨rfl,hb⟩;go_wp2;go_ret;exact⟨rfl,below2 hb⟩
def Be(p l:Int):Int×Int:=if Ag p l then(min (p+64) 281474976710656,4095)else(0,0)
def amz(p l:Int)(w:World)(_h0:0<=p)(_h1:0<=l)(h:Ag p l=false):
  cpr 197 #[.agg #[.int .u64 p,.int .u32 l]] w λe w'=>e=.returned (.agg #[.int .u64 0,.int .u32 0])/\Bw w w':=by
 have HR:Hid (Ag p l=false):=h;clear h;go_enter Tryz.func197,Tryz.ntmps197;go_wp2_with fail;refine(Fq _ _ _).mono ?_;rw[HR.out];rintro e w1 ⟨rfl,hb⟩;obtain⟨hc,hf⟩:=Fe hb;have hz:w.heap.size+1<w1.heap.size:=by have:=hb.size;simp at this;omega
 go_wp2;exact az (v:=.agg #[.int .u64 0,.int .u32 0]) (by simp[results,Tryz.results197,go_sem,hc]) rfl ⟨rfl,Jp hb _ _⟩
def amy(p l:Int)(w:World)(_h0:0<=p)(_h1:0<=l)(h:Ag p l=true)(h3:p+64<281474976710656):
  cpr 197 #[.agg #[.int .u64 p,.int .u32 l]] w λe w'=>e=.returned (.agg #[.int .u64 (p+64),.int .u32 4095])/\Bw w w':=by
 have hr:=G7.1 h;have HR:Hid (Ag p l=true):=h;clear h;go_enter Tryz.func197,Tryz.ntmps197;go_wp2_with fail;refine(Fq _ _ _).mono ?_;rw[HR.out];rintro e w1 ⟨rfl,hb⟩;obtain⟨hc,hf⟩:=Fe hb;have hz:w.heap.size+1<w1.heap.size:=by have:=hb.size;simp at this;omega
 go_wp2;exact az (v:=.agg #[.int .u64 (p+64),.int .u32 4095]) (by simp[results,Tryz.results197,go_sem,hc]) rfl ⟨rfl,Jp hb _ _⟩
def amx(p l:Int)(w:World)(_h0:0<=p)(_h1:0<=l)(h:Ag p l=true)(h3:p+64=281474976710656):
  cpr 197 #[.agg #[.int .u64 p,.int .u32 l]] w λe w'=>e=.returned (.agg #[.int .u64 281474976710656,.int .u32 4095])/\Bw w w':=by
 have hr:=G7.1 h;obtain rfl:p=281474976710592:=by omega
 have HR:Hid (Ag 281474976710592 l=true):=h;exact avr
def amw(p l:Int)(w:World)(_h0:0<=p)(_h1:0<=l)(h:Ag p l=true)(h3:281474976710656<p+64):
  cpr 197 #[.agg #[.int .u64 p,.int .u32 l]] w λe w'=>e=.returned (.agg #[.int .u64 281474976710656,.int .u32 4095])/\Bw w w':=by
 have hr:=G7.1 h;have HR:Hid (Ag p l=true):=h;exact avr
def avu(p l:Int)(w:World)(h0:0<=p)(h1:0<=l):
  cpr 197 #[.agg #[.int .u64 p,.int .u32 l]] w λe w'=>e=.returned (.agg #[.int .u64 (Be p l).1,.int .u32 (Be p l).2])/\Bw w w':=by
 cases h:Ag p l
 .rw[show Be p l=(0,0)from by simp[Be,h]];exact amz p l w h0 h1 h
 .rcases Int.lt_trichotomy (p+64) 281474976710656 with h3|h3|h3
  .rw[show Be p l=(p+64,4095)from by simp[Be,h];omega];exact amy p l w h0 h1 h h3
  .rw[show Be p l=(281474976710656,4095)from by simp[Be,h];omega];exact amx p l w h0 h1 h h3
  .rw[show Be p l=(281474976710656,4095)from by simp[Be,h];omega];exact amw p l w h0 h1 h h3
def Du(p l f q m:Int):Int×Int×Int:=
 if Ag p l&&Ag q m then(if Xy q f 1000 then(0,0,21)else((maxF p l q m).1,(maxF p l q m).2,0))else(0,0,1)
def aps{p l q m:Int}(h0:0<=p)(h1:0<=l):maxL [(p,l),(q,m)]=maxF p l q m:=by
 have:maxF 0 0 p l=(p,l):=by
  unfold maxF;by_cases h:Ar 0 0 p l=true
  .rw[ah h]
  .rw[ag h];simp only[Ar,jc]at h;simp only[ny];omega
 simp[maxL,this]
def below3'{w w1:World}{o1 o2 o3:Obj}(hb:Below (((w.alloc o1).alloc o2).alloc o3).heap.size (((w.alloc o1).alloc o2).alloc o3) w1):(w.heap.size+1+1<w1.heap.size)/\w.heap.size+1<w1.heap.size/\w.heap.size<w1.heap.size:=by have:=hb.size;simp at this;omega
def aly(p l f q m:Int)(w:World)(_h0:0<=p)(_h1:0<=l)(_h2:0<=f)(_h3:0<=q)(_h4:0<=m)(_h5:q<=18446744073709551615)(h:Ag p l=false):
  cpr 196 #[.agg #[.int .u64 p,.int .u32 l],.int .u64 f,.agg #[.int .u64 q,.int .u32 m]] w λe w'=>e=.returned (.tuple #[.agg #[.int .u64 0,.int .u32 0],.int .i64 1])/\Bw w w':=by
 have HR:Hid (Ag p l=false):=h;clear h;go_enter Tryz.func196,Tryz.ntmps196;go_wp2_with fail;refine(Fq _ _ _).mono ?_;rw[HR.out];rintro e w1 ⟨rfl,hb⟩;obtain⟨hc,hf⟩:=Fe hb;obtain⟨hz2,hz1,hz0⟩:=below3' hb;go_wp2;exact az (v:=.tuple #[.agg #[.int .u64 0,.int .u32 0],.int .i64 1]) (by simp[results,Tryz.results196,go_sem,hc]) rfl ⟨rfl,avy hb _ _⟩
def alx(p l f q m:Int)(w:World)(_h0:0<=p)(_h1:0<=l)(_h2:0<=f)(_h3:0<=q)(_h4:0<=m)(_h5:q<=18446744073709551615)(h:Ag p l=true)(h':Ag q m=false):
  cpr 196 #[.agg #[.int .u64 p,.int .u32 l],.int .u64 f,.agg #[.int .u64 q,.int .u32 m]] w λe w'=>e=.returned (.tuple #[.agg #[.int .u64 0,.int .u32 0],.int .i64 1])/\Bw w w':=by
 have HR:Hid (Ag p l=true):=h;have HQ:Hid (Ag q m=false):=h';clear h h';go_enter Tryz.func196,Tryz.ntmps196;go_wp2_with fail;refine(Fq _ _ _).mono ?_;rw[HR.out];rintro e w1 ⟨rfl,hb⟩;obtain⟨hc,hf⟩:=Fe hb;obtain⟨hz2,hz1,hz0⟩:=below3' hb;go_wp2_with fail;refine(Fq _ _ _).mono ?_;rw[HQ.out];rintro e w2 ⟨rfl,hb2⟩;obtain⟨hc2,hf2⟩:=Fe hb2;have hy2:w.heap.size+1+1<w2.heap.size:=by have:=hb2.size;omega
 go_wp2;exact az (v:=.tuple #[.agg #[.int .u64 0,.int .u32 0],.int .i64 1]) (by simp[results,Tryz.results196,go_sem,hc2,hc,hz2]) rfl ⟨rfl,(((below3 hb).trans (hb2.mono (by omega))).setCell (by simp;omega) _).setCell (by simp;omega) _⟩
def alv(p l f q m:Int)(w:World)(_h0:0<=p)(_h1:0<=l)(_h2:0<=f)(_h3:0<=q)(_h4:0<=m)(_h5:q<=18446744073709551615)(h:Ag p l=true)(h':Ag q m=true)(h'':Xy q f 1000=true):
  cpr 196 #[.agg #[.int .u64 p,.int .u32 l],.int .u64 f,.agg #[.int .u64 q,.int .u32 m]] w λe w'=>e=.returned (.tuple #[.agg #[.int .u64 0,.int .u32 0],.int .i64 21])/\Bw w w':=by
 have HR:Hid (Ag p l=true):=h;have HQ:Hid (Ag q m=true):=h';have HB:Hid (Xy q f 1000=true):=h'';clear h h' h'';go_enter Tryz.func196,Tryz.ntmps196;go_wp2_with fail;refine(Fq _ _ _).mono ?_;rw[HR.out];rintro e w1 ⟨rfl,hb⟩;obtain⟨hc,hf⟩:=Fe hb;obtain⟨hz2,hz1,hz0⟩:=below3' hb;go_wp2_with fail;refine(Fq _ _ _).mono ?_;rw[HQ.out];rintro e w2 ⟨rfl,hb2⟩;obtain⟨hc2,hf2⟩:=Fe hb2;have hy2:w.heap.size+1+1<w2.heap.size:=by have:=hb2.size;omega
 have hy1:w.heap.size+1<w2.heap.size:=by omega
 have hy0:w.heap.size<w2.heap.size:=by omega
 go_wp2_with fail;refine(aay _ _ _ _ _h3 _h5 _h2 (by omega)).mono ?_;rw[HB.out];rintro e w3 ⟨rfl,hb3⟩;obtain⟨hc3,hf3⟩:=Fe hb3;have hx2:w.heap.size+1+1<w3.heap.size:=by have:=hb3.size;omega
 go_wp2;exact az (v:=.tuple #[.agg #[.int .u64 0,.int .u32 0],.int .i64 21]) (by simp[results,Tryz.results196,go_sem,hc3,hc2,hc,hz2,hy2]) rfl ⟨rfl,((((below3 hb).trans (hb2.mono (by omega))).trans (hb3.mono (by omega))).setCell (by simp;omega) _).setCell (by simp;omega) _⟩
def alu(p l f q m:Int)(w:World)(_h0:0<=p)(_h1:0<=l)(_h2:0<=f)(_h3:0<=q)(_h4:0<=m)(_h5:q<=18446744073709551615)(h:Ag p l=true)(h':Ag q m=true)(h'':Xy q f 1000=false):
  cpr 196 #[.agg #[.int .u64 p,.int .u32 l],.int .u64 f,.agg #[.int .u64 q,.int .u32 m]] w λe w'=>e=.returned (.tuple #[.agg #[.int .u64 (maxF p l q m).1,.int .u32 (maxF p l q m).2],.int .i64 0])/\Bw w w':=by
 have HR:Hid (Ag p l=true):=h;have HQ:Hid (Ag q m=true):=h';have HB:Hid (Xy q f 1000=false):=h'';clear h h' h'';go_enter Tryz.func196,Tryz.ntmps196;go_wp2_with fail;refine(Fq _ _ _).mono ?_;rw[HR.out];rintro e w1 ⟨rfl,hb⟩;obtain⟨hc,hf⟩:=Fe hb;obtain⟨hz2,hz1,hz0⟩:=below3' hb;go_wp2_with fail;refine(Fq _ _ _).mono ?_;rw[HQ.out];rintro e w2 ⟨rfl,hb2⟩;obtain⟨hc2,hf2⟩:=Fe hb2;have hy2:w.heap.size+1+1<w2.heap.size:=by have:=hb2.size;omega
 have hy1:w.heap.size+1<w2.heap.size:=by omega
 have hy0:w.heap.size<w2.heap.size:=by omega
 go_wp2_with fail;refine(aay _ _ _ _ _h3 _h5 _h2 (by omega)).mono ?_;rw[HB.out];rintro e w3 ⟨rfl,hb3⟩;obtain⟨hc3,hf3⟩:=Fe hb3;have hx2:w.heap.size+1+1<w3.heap.size:=by have:=hb3.size;omega
 have hx1:w.heap.size+1<w3.heap.size:=by omega
 have hx0:w.heap.size<w3.heap.size:=by omega
 go_wp2_with fail;refine(ab1 w3.heap.size _ (by simp) 2 [(p,l),(q,m)] rfl (by omega) ?_).mono ?_
 .intro i hi;obtain rfl|rfl:i=0\/i=1:=by omega
  .simp[go_sem]
  .simp[go_sem]
 rw[aps _h0 _h1];rintro e w4 ⟨rfl,hb4⟩;obtain⟨hc4,hf4⟩:=Fe hb4;have hu2:w.heap.size+1+1<w4.heap.size:=by have:=hb4.size;simp at this;omega
 have hv2:w.heap.size+1+1<w3.heap.size+1:=by omega
 go_wp2;exact az (v:=.tuple #[.agg #[.int .u64 (maxF p l q m).1,.int .u32 (maxF p l q m).2],.int .i64 0]) (by simp[results,Tryz.results196,go_sem,hc4,hc3,hc2,hc,hz2,hy2,hx2,hv2]) rfl ⟨rfl,((((((below3 hb).trans (hb2.mono (by omega))).trans (hb3.mono (by omega))).alloc (by omega) _).trans (hb4.mono (by simp;omega))).setCell (by simp;omega) _).setCell (by simp;omega) _⟩
def aue(p l f q m:Int)(w:World)(_h0:0<=p)(_h1:0<=l)(_h2:0<=f)(_h3:0<=q)(_h4:0<=m)(_h5:q<=18446744073709551615):
  cpr 196 #[.agg #[.int .u64 p,.int .u32 l],.int .u64 f,.agg #[.int .u64 q,.int .u32 m]] w λe w'=>e=.returned (.tuple #[.agg #[.int .u64 (Du p l f q m).1,.int .u32 (Du p l f q m).2.1],.int .i64 (Du p l f q m).2.2])/\Bw w w':=by
 cases h:Ag p l
 .rw[show Du p l f q m=(0,0,1)from by simp[Du,h]];exact aly p l f q m w _h0 _h1 _h2 _h3 _h4 _h5 h
 .cases h':Ag q m
  .rw[show Du p l f q m=(0,0,1)from by simp[Du,h']];exact alx p l f q m w _h0 _h1 _h2 _h3 _h4 _h5 h h'
  .cases h'':Xy q f 1000
   .rw[show Du p l f q m=((maxF p l q m).1,(maxF p l q m).2,0)from by simp[Du,h,h',h'']];exact alu p l f q m w _h0 _h1 _h2 _h3 _h4 _h5 h h' h''
   .rw[show Du p l f q m=(0,0,21)from by simp[Du,h,h',h'']];exact alv p l f q m w _h0 _h1 _h2 _h3 _h4 _h5 h h' h''
def Ir(p l f:Int):Int×Int×Int:=
 if Ag p l then(if f<=281474976710656 then(if p<f then(f,0,0)else Di p l)else(0,0,20))else(0,0,1)
def asj(p l f:Int)(w:World)(_h0:0<=p)(_h1:0<=l)(_h2:0<=f)(h:Ag p l=false):
  cpr 142 #[.agg #[.int .u64 p,.int .u32 l],.int .u64 f] w λe w'=>e=.returned (.tuple #[.agg #[.int .u64 0,.int .u32 0],.int .i64 1])/\Bw w w':=by
 have HR:Hid (Ag p l=false):=h;clear h;go_enter Tryz.func142,Tryz.ntmps142;go_wp2_with fail;refine(Fq _ _ _).mono ?_;rw[HR.out];rintro e w1 ⟨rfl,hb⟩;obtain⟨hc,hf⟩:=Fe hb;have hz:w.heap.size+1<w1.heap.size:=by have:=hb.size;simp at this;omega
 go_wp2;exact az (v:=.tuple #[.agg #[.int .u64 0,.int .u32 0],.int .i64 1]) (by simp[results,Tryz.results142,go_sem,hc]) rfl ⟨rfl,Jp hb _ _⟩
def asi(p l f:Int)(w:World)(_h0:0<=p)(_h1:0<=l)(_h2:0<=f)(h:Ag p l=true)(h3:¬f<=281474976710656):
  cpr 142 #[.agg #[.int .u64 p,.int .u32 l],.int .u64 f] w λe w'=>e=.returned (.tuple #[.agg #[.int .u64 0,.int .u32 0],.int .i64 20])/\Bw w w':=by
 have HR:Hid (Ag p l=true):=h;clear h;go_enter Tryz.func142,Tryz.ntmps142;go_wp2_with fail;refine(Fq _ _ _).mono ?_;rw[HR.out];rintro e w1 ⟨rfl,hb⟩;obtain⟨hc,hf⟩:=Fe hb;have hz:w.heap.size+1<w1.heap.size:=by have:=hb.size;simp at this;omega
 go_wp2;exact az (v:=.tuple #[.agg #[.int .u64 0,.int .u32 0],.int .i64 20]) (by simp[results,Tryz.results142,go_sem,hc]) rfl ⟨rfl,Jp hb _ _⟩
def ash(p l f:Int)(w:World)(_h0:0<=p)(_h1:0<=l)(_h2:0<=f)(h:Ag p l=true)(h3:f<=281474976710656)(h4:p<f):
  cpr 142 #[.agg #[.int .u64 p,.int .u32 l],.int .u64 f] w λe w'=>e=.returned (.tuple #[.agg #[.int .u64 f,.int .u32 0],.int .i64 0])/\Bw w w':=by
 have HR:Hid (Ag p l=true):=h;clear h;go_enter Tryz.func142,Tryz.ntmps142;go_wp2_with fail;refine(Fq _ _ _).mono ?_;rw[HR.out];rintro e w1 ⟨rfl,hb⟩;obtain⟨hc,hf⟩:=Fe hb;have hz:w.heap.size+1<w1.heap.size:=by have:=hb.size;simp at this;omega
 go_wp2;exact az (v:=.tuple #[.agg #[.int .u64 f,.int .u32 0],.int .i64 0]) (by simp[results,Tryz.results142,go_sem,hc]) rfl ⟨rfl,Jp hb _ _⟩
def asg(p l f:Int)(w:World)(_h0:0<=p)(_h1:0<=l)(_h2:0<=f)(h:Ag p l=true)(h3:f<=281474976710656)(h4:¬p<f)(a b c:Int)(hn:Di p l=(a,b,c)):
  cpr 142 #[.agg #[.int .u64 p,.int .u32 l],.int .u64 f] w λe w'=>e=.returned (.tuple #[.agg #[.int .u64 a,.int .u32 b],.int .i64 c])/\Bw w w':=by
 have HN:Hid (Di p l=(a,b,c)):=hn;clear hn;have HR:Hid (Ag p l=true):=h;clear h;go_enter Tryz.func142,Tryz.ntmps142;go_wp2_with fail;refine(Fq _ _ _).mono ?_;rw[HR.out];rintro e w1 ⟨rfl,hb⟩;obtain⟨hc,hf⟩:=Fe hb;have hz:w.heap.size+1<w1.heap.size:=by have:=hb.size;simp at this;omega
 go_wp2_with fail;refine(ahp _ _ _ _h0 _h1).mono ?_;rw[HN.out];rintro e w2 ⟨rfl,hb2⟩;obtain⟨hc2,hf2⟩:=Fe hb2;have hz2:w.heap.size+1<w2.heap.size:=by have:=hb2.size;omega
 have hz0:w.heap.size<w1.heap.size:=by omega
 go_wp2;exact az (v:=.tuple #[.agg #[.int .u64 a,.int .u32 b],.int .i64 c]) (by simp[results,Tryz.results142,go_sem,hc2,hc,hz]) rfl ⟨rfl,(((below2 hb).trans (hb2.mono (by omega))).setCell (by simp) _).setCell (by simp) _⟩
def tick9(p l f:Int)(w:World)(_h0:0<=p)(_h1:0<=l)(_h2:0<=f):
  cpr 142 #[.agg #[.int .u64 p,.int .u32 l],.int .u64 f] w λe w'=>e=.returned (.tuple #[.agg #[.int .u64 (Ir p l f).1,.int .u32 (Ir p l f).2.1],.int .i64 (Ir p l f).2.2])/\Bw w w':=by
 cases h:Ag p l
 .rw[show Ir p l f=(0,0,1)from by simp[Ir,h]];exact asj p l f w _h0 _h1 _h2 h
 .by_cases h3:f<=281474976710656
  .by_cases h4:p<f
   .rw[show Ir p l f=(f,0,0)from by simp[Ir,h,h3,h4]];exact ash p l f w _h0 _h1 _h2 h h3 h4
   .rw[show Ir p l f=Di p l from by simp[Ir,h,h3,h4]];exact asg p l f w _h0 _h1 _h2 h h3 h4 _ _ _ rfl
  .rw[show Ir p l f=(0,0,20)from by simp[Ir,h,h3]];exact asi p l f w _h0 _h1 _h2 h h3
def eqB(p l q m:Int):Bool:=p==q&&l==m
def ak7(p l q m:Int)(w:World):(binOp .eql 38 (.agg #[.int .u64 p,.int .u32 l]) (.agg #[.int .u64 q,.int .u32 m])).run Tryz.prog w=.ok (.bool (eqB p l q m)) w:=by by_cases h:p=q<;>by_cases h2:l=m<;>simp[go_sem,eqB,h,h2]
def ak5(p l q m:Int)(w:World):(binOp .neq 38 (.agg #[.int .u64 p,.int .u32 l]) (.agg #[.int .u64 q,.int .u32 m])).run Tryz.prog w=.ok (.bool (!eqB p l q m)) w:=by by_cases h:p=q<;>by_cases h2:l=m<;>simp[go_sem,eqB,h,h2]
def Hm{p l q m:Int}:Ar p l q m=true↔(p<q\/p=q/\l<m):=by simp[Ar]
