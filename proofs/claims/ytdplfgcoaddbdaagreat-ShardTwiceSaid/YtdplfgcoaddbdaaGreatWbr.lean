import Derived.Test.YtdplfgcoaddbdaaGreatWbq
set_option maxHeartbeats 4000000
set_option maxRecDepth 100000
set_option linter.unusedVariables false
set_option linter.unusedSimpArgs false
namespace Go.Proofs.YtdplfgcoaddbdaaGreat.Lat
open Go.RowKit
theorem ltK_above:∀k x:List UInt8,ltK x (k++[0])= !ltK k x
 |[],[]=>by simp[ltK,Op.bytesLess]
 |[],a::r=>by
  have:¬a<0:=by rw[UInt8.not_lt];exact UInt8.zero_le
  cases r<;>simp[ltK,Op.bytesLess,this]
 |b::s,[]=>by simp[ltK,Op.bytesLess]
 |b::s,a::r=>by
  have ih:=ltK_above s r;unfold ltK at ih|-;simp only[List.cons_append,Op.bytesLess,ih];by_cases h1:a<b
  ·have h2:¬b<a:=fun h=>absurd (UInt8.lt_trans h1 h) (UInt8.lt_irrefl a);have h3:(b==a)=false:=by rw[beq_eq_false_iff_ne];rintro rfl;exact h2 h1
   simp[h1,h2,h3]
  ·by_cases h2:b<a
   ·have h3:(a==b)=false:=by rw[beq_eq_false_iff_ne];rintro rfl;exact h1 h2
    simp[h1,h2,h3]
   ·have h3:a=b:=by rw[UInt8.not_lt]at h1 h2;exact UInt8.le_antisymm h2 h1
    subst h3;simp[h1]
def rngT(lo hi:List UInt8)(T:Tb):Tb:=T.filter fun x=>inR lo hi x.1
theorem rngT_above{T:Tb}{lo hi k:List UInt8}(h:ltK k lo=false):rngT (k++[0]) hi T=(rngT lo hi T).filter (fun x=>ltK k x.1):=by
 unfold rngT;rw[List.filter_filter];congr 1;funext x;unfold inR;rw[ltK_above,Bool.not_not];cases h1:ltK k x.1
 ·simp
 ·have h2:ltK x.1 lo=false:=by
   cases h3:ltK x.1 lo
   ·rfl
   ·rw[ltK_trans h1 h3]at h;cases h
  simp[h2]
theorem rngT_lo{T:Tb}{lo hi:List UInt8}{x:List UInt8×Ii}(h:x∈rngT lo hi T):ltK x.1 lo=false:=by have:=(List.mem_filter.1 h).2;unfold inR at this;simp only[Bool.and_eq_true,Bool.not_eq_true']at this;exact this.1
theorem rngT_next{T:Tb}{lo hi:List UInt8}{i:Nat}(hS:Srt T)(h:i<(rngT lo hi T).length):rngT (((rngT lo hi T).getD i di).1++[0]) hi T=(rngT lo hi T).drop (i+1):=by
 have hm:(rngT lo hi T).getD i di∈rngT lo hi T:=getD_memT h;rw[rngT_above (rngT_lo hm)];have hs:Srt (rngT lo hi T):=filter_srt hS _;generalize hR:rngT lo hi T=R at*;have e:R=R.take i++R.getD i di::R.drop (i+1):=by rw[<-tdr_step h,List.take_append_drop]
 generalize R.getD i di=x at*;obtain⟨a,c⟩:=x;rw[e]at hs;obtain⟨-,-,h3,h4⟩:=srt_parts hs;conv=>lhs;rw[e]
 rw[List.filter_append,List.filter_cons];simp only[ltK_irrefl,Bool.false_eq_true,if_false];rw[List.filter_eq_nil_iff.2 (fun y hy=>by have:=ltK_asymm (h3 y hy);simp[this]),List.nil_append];exact List.filter_eq_self.2 (fun y hy=>h4 y hy)
theorem keys_part{T:Tb}{L:Kv Cv}(hk:T.map (·.1)=L.map (·.1)){lo hi:List UInt8}:keysF lo hi 32 L=((rngT lo hi T).take 32).map (·.1):=by
 have e:rangeF lo hi L=(rngT lo hi T).map (·.1):=by unfold rangeF rngT;rw[<-hk,List.filter_map];rfl
 unfold keysF;rw[e,List.map_take];rfl
def stQ(ap aq:Int)(but:List (Int×Int))(x:List UInt8×Ii):Bool:= !lessB ap aq x.2.mp x.2.ml&& !but.contains (x.2.c,x.2.n)
theorem first_rng(lo hi:List UInt8)(ap aq:Int)(but:List (Int×Int))(T:Tb):firstF lo hi ap aq but T=(rngT lo hi T).find? (stQ ap aq but):=by unfold firstF rngT;rw[List.find?_filter];congr 1;funext x;unfold standsB stQ;rw[lt_less,Bool.and_assoc];generalize inR lo hi x.1=a;generalize (!lessB ap aq x.2.mp x.2.ml&& !but.contains (x.2.c,x.2.n))=b;cases a<;>cases b<;>rfl
theorem find_at_i{R:Tb}{q:List UInt8×Ii->Bool}{m:Nat}(h:m<R.length)(hn:(R.take m).find? q=none)(hq:q (R.getD m di)=true):R.find? q=some (R.getD m di):=first_at h hn hq
theorem find_snoc{R:Tb}{q:List UInt8×Ii->Bool}{m:Nat}(h:m<R.length)(hn:(R.take m).find? q=none)(hq:q (R.getD m di)=false):(R.take (m+1)).find? q=none:=by rw[ttk_snoc h,List.find?_append,hn];generalize R.getD m di=x at*;simp[hq]
theorem part_found{R:Tb}{q:List UInt8×Ii->Bool}{m j:Nat}(hno:(R.take m).find? q=none)(hj:j<((R.drop m).take 32).length)(h1:(((R.drop m).take 32).take j).find? q=none)(h2:q (((R.drop m).take 32).getD j di)=true):R.find? q=some (((R.drop m).take 32).getD j di):=by
 have e:R.find? q=(R.take m++((R.drop m).take 32++(R.drop m).drop 32)).find? q:=by rw[List.take_append_drop,List.take_append_drop]
 rw[e,List.find?_append,hno,Option.none_or,List.find?_append,find_at_i hj h1 h2];rfl
theorem part_none{R:Tb}{q:List UInt8×Ii->Bool}{m:Nat}(hno:(R.take m).find? q=none)(h1:((R.drop m).take 32).find? q=none):(((R.drop m).take 32).length<32->R.find? q=none)/\(R.take (m+32)).find? q=none:=by
 have e1:(R.take (m+32)).find? q=none:=by rw[List.take_add,List.find?_append,hno,h1];rfl
 refine⟨fun h2=>?_,e1⟩;rw[List.length_take,List.length_drop]at h2
 rwa [List.take_of_length_le (by omega)]at e1
def leftT(hi:List UInt8)(T:Tb)(v:Value):Nat:=match v with
 |.string s=>(rngT s.data.toList hi T).length
 |_=>0
theorem leftT_bs(hi:List UInt8)(T:Tb)(k:List UInt8):leftT hi T (sd k)=(rngT k hi T).length:=by show(rngT (bs k).data.toList hi T).length=_;rw[bs_data]
theorem index59(B:Nat)(L:List (Int×Int))(v:Value)(c n:Int)(w:World)(h:TsAt B v L w)(hB:B<=w.heap.size):
  Calls Tryz.prog 242 #[v,.agg #[ui c,ui n]] w fun e w'=>∃i:Int,e=.returned (iw i)/\decide (0<=i)=L.contains (c,n)/\Below w.heap.size w w':=by
 obtain⟨ao,cap,rfl,hla,hma⟩:=h.shape;have HA:Hid (∀W,Below w.heap.size w W->∀i,i<L.length->∃b off,ao=some ⟨b,off,none⟩/\ce W b (off+i*2) (ui (L.getD i dtx).1)/\ce W b (off+i*2+1) (ui (L.getD i dtx).2)):=fun W hW i hi=>TsAt.el (RwAt.on h (hW.mono hB)) hi;have HS:Hid (∀m,m<L.length->(L.drop m).contains (c,n)=(((L.getD m dtx).1==c&&(L.getD m dtx).2==n)||(L.drop (m+1)).contains (c,n))):=fun m hm=>has_step hm;have HZ:Hid (∀m,L.length<=m->(L.drop m).contains (c,n)=false):=fun m hm=>by rw[List.drop_eq_nil_of_le hm];rfl
 have H0:Hid ((L.drop 0).contains (c,n)=L.contains (c,n)):=rfl;have hL9:L.length<9223372036854775808:=by omega
 have HX:Hid ((w.alloc (.cells #[ui c,ui n] 26)).heap[w.heap.size]?=some (.cells #[ui c,ui n] 26 (0,0))/\Below w.heap.size w (w.alloc (.cells #[ui c,ui n] 26))):=⟨heap_alloc_new w _,al _⟩;generalize L.contains (c,n)=y at*;clear h hla hma hB;go_enter Tryz.func242,Tryz.ntmps242;go_wp2_with fail;obtain⟨W0,hW0⟩:=xj (w.alloc (.cells #[ui c,ui n] 26));rw[hW0]at HX|-;obtain⟨bx,hbx⟩:=xj w.heap.size;have HBX:Hid (w.heap.size=bx):=hbx;have HC:Hid (∀W,Below W0.heap.size W0 W->ce W w.heap.size 0 (ui c)/\ce W w.heap.size 1 (ui n)/\Below w.heap.size w W):=fun W hb=>by
  have hx:W.heap[w.heap.size]?=some (.cells #[ui c,ui n] 26 (0,0)):=by rw[hb.block _ (gsz HX.out.1)];exact HX.out.1
  exact⟨block_cell hx rfl,block_cell hx rfl,HX.out.2.trans (hb.mono HX.out.2.size)⟩
 rw[hbx]at HC|-;clear hbx hW0 HX;go_loopw [8] (fun i wr=>Below W0.heap.size W0 wr/\∃m:Nat,m<=L.length/\i=iw m/\(L.drop m).contains (c,n)=y) (fun i _=>L.length-(intOf i).toNat)
 case atStart=>exact⟨Below.refl _ _,0,Nat.zero_le _,rfl,H0.out⟩
 case round=>
  obtain⟨hbr,m,hm,rfl,hy⟩:=hrel;have HBr:Hid _:=hbr;obtain⟨x0,x1,hbw⟩:=HC.out wr hbr;have HBw:Hid (Below w.heap.size w wr):=by rw[HBX.out];exact hbw
  by_cases hml:m<L.length
  ·obtain⟨b,off,rfl,e0,e1⟩:=HA.out wr HBw.out m hml;have hml':(m:Int)<L.length:=by omega
   have hst:=HS.out m hml;rw[hy]at hst;generalize L.getD m dtx=x at*;obtain⟨p,q⟩:=x;dsimp only at e0 e1 hst;have hq:=run_eql32 c n p q;rw[show(c==p&&n==q)=(p==c&&q==n)from by rw[show(c==p)=(p==c)from BEq.comm,show(n==q)=(q==n)from BEq.comm]]at hq;generalize (p==c&&q==n)=z at*;have HF:Hid (ce wr bx 0 (ui c)/\ce wr bx 1 (ui n)/\ce wr b (off+m*2) (ui p)/\ce wr b (off+m*2+1) (ui q)):=⟨x0,x1,e0,e1⟩;have HQ:Hid (m+1<=L.length):=hml;clear hbr hbw hy;go_upto_region 4 with fail
   go_region_held3 (fun W=>ce W bx 0 (ui c)/\ce W bx 1 (ui n)/\ce W b (off+m*2) (ui p)/\ce W b (off+m*2+1) (ui q)) (exact HF.out) (fail)
   rename_i hHeld;clear hHeld x0 x1 e0 e1 hq HF;cases z
   ·have HY:Hid ((L.drop (m+1)).contains (c,n)=y):=by show _=_;rw[hst];simp
    clear hst;go_wp2_with fail;go_roundw
    case rel=>exact⟨HBr.out.drew,m+1,HQ.out,by go_num,HY.out⟩
    case measure=>simp[intOf];omega
   ·have hy1:y=true:=by rw[hst];simp
    subst hy1;clear hst;go_wp2_with fail;go_ret;exact⟨_,rfl,by simp,HBw.out.drew⟩
  ·have hml':¬(m:Int)<L.length:=by omega
   have hz:=HZ.out m (by omega);rw[hy]at hz;subst hz;clear hbr hbw hy;go_wp2_with fail;go_ret;exact⟨_,rfl,by decide,HBw.out⟩
theorem contains43(B:Nat)(L:List (Int×Int))(v:Value)(c n:Int)(w:World)(h:TsAt B v L w)(hB:B<=w.heap.size):
  Calls Tryz.prog 203 #[v,.agg #[ui c,ui n]] w fun e w'=>e=.returned (.bool (L.contains (c,n)))/\Below w.heap.size w w':=by
 obtain⟨W0,hW0⟩:=xj (w.alloc (.cells #[ui c,ui n] 26));have hb0:Below w.heap.size w W0:=by rw[<-hW0];exact al _
 have hx0:W0.heap[w.heap.size]?=some (.cells #[ui c,ui n] 26 (0,0)):=by rw[<-hW0];exact heap_alloc_new w _
 have z0:ce W0 w.heap.size 0 (ui c):=block_cell hx0 rfl;have z1:ce W0 w.heap.size 1 (ui n):=block_cell hx0 rfl;have CI:Hid (1=1->Calls Tryz.prog 242 #[v,.agg #[ui c,ui n]] W0 fun e w'=>∃i:Int,e=.returned (iw i)/\Hid (decide (0<=i)=L.contains (c,n)/\Below w.heap.size w w')):=fun _=>by refine(index59 B L v c n W0 (RwAt.on h (hb0.mono hB)) (Nat.le_trans hB hb0.size)).mono ?_;rintro e w' ⟨i,rfl,hi,hb'⟩;exact⟨i,rfl,hi,hb0.trans (hb'.mono hb0.size)⟩
 obtain⟨ao,cap,rfl,hlc,hcm⟩:=h.shape;clear h hB hlc hcm hb0 hx0;generalize L.contains (c,n)=y at*;go_enter Tryz.func203,Tryz.ntmps203;go_wp2_with fail;refine(CI.out (by trivial)).mono ?_;rintro e w1 ⟨i,rfl,HI⟩;clear CI z0 z1 hW0;go_wp2_with fail;go_ret;exact⟨by rw[<-HI.out.1];rfl,HI.out.2⟩
theorem fb_put{bx:Nat}{ap aq:Int}{w W:World}(x:List UInt8×Ii)(h:Fb bx ap aq w W)(e:w.heap.size=bx):Below w.heap.size w ((((((((((W.setCell ⟨bx+1,0,none⟩ (ui x.2.c)).setCell ⟨bx+1,1,none⟩ (ui x.2.n)).setCell ⟨bx+1,2,none⟩ (uw x.2.sp)).setCell ⟨bx+1,3,none⟩ (ui x.2.sl)).setCell ⟨bx+1,4,none⟩ (uw x.2.mp)).setCell ⟨bx+1,5,none⟩ (ui x.2.ml)).setCell ⟨bx+1,6,none⟩ (sd x.2.prim)).setCell ⟨bx+1,7,none⟩ (sd x.1)).setCell ⟨bx+1,8,none⟩ (sd x.2.val)).setCell ⟨bx+1,9,none⟩ (.bool x.2.dead)):=by
 have hb:Below w.heap.size w W:=by rw[e];exact h.bel
 exact ten_below x hb (by omega)
theorem first17{B p pm hb:Nat}{t:Tr}{m0:Mm}{T:Tb}{w:World}(lo hi:List UInt8)(ap aq:Int)(but:List (Int×Int))(v:Value)(h:Tx B p pm hb t m0 w)(hr:Rel t.toL m0 T)(hl:T.length<10000)(hv:TsAt w.heap.size v but w):Calls Tryz.prog 158 #[pz p,sd lo,sd hi,.agg #[uw ap,ui aq],v] w fun e w'=>e=.returned (fsV (firstF lo hi ap aq but T))/\Below w.heap.size w w':=by
 obtain⟨va,vc,rfl,-,-⟩:=hv.shape;rw[first_rng];obtain⟨q,hq⟩:=xj (stQ ap aq but);have HQ:Hid (∀x:List UInt8×Ii,q x=(!lessB ap aq x.2.mp x.2.ml&& !but.contains (x.2.c,x.2.n))):=fun x=>by rw[<-hq];rfl
 rw[hq];clear hq;obtain⟨R,hR⟩:=xj (rngT lo hi T);rw[hR];have HR0:Hid (rngT lo hi T=R.drop 0):=by show _=_;rw[List.drop_zero];exact hR
 have HMem:Hid (∀y∈R,y∈T):=fun y hy=>by rw[<-hR]at hy;exact(List.mem_filter.1 hy).1
 clear hR;obtain⟨Y,hY⟩:=xj (R.find? q);have HY:Hid (R.find? q=Y):=hY;rw[hY];clear hY;have HX:Hid (Fb w.heap.size ap aq w ((w.alloc (.cells #[uw ap,ui aq] 28)).alloc (.cells #[ui 0,ui 0,uw 0,ui 0,uw 0,ui 0,su,su,su,.bool false] 69))):=by obtain⟨h1,h2,h3⟩:=two_boxes w (.cells #[uw ap,ui aq] 28) (.cells #[ui 0,ui 0,uw 0,ui 0,uw 0,ui 0,su,su,su,.bool false] 69);exact⟨h1,h2,h3⟩
 obtain⟨bx,hbx⟩:=xj w.heap.size;rw[hbx]at HX;have HBX:Hid (w.heap.size=bx):=hbx;have HT:Hid (∀W,Fb bx ap aq w W->Tx B p pm hb t m0 W):=fun W hW=>h.on (by rw[hbx];exact hW.bel);have HNx:Hid (∀(lw:List UInt8) (m:Nat),rngT lw hi T=R.drop m->¬((R.drop m).take 32).length<32->rngT ((((R.drop m).take 32).getD 31 di).1++[0]) hi T=R.drop (m+32)):=fun lw m he hn=>by
  have hlen:31<(rngT lw hi T).length:=by rw[he];rw[List.length_take]at hn;omega
  have e1:((R.drop m).take 32).getD 31 di=(rngT lw hi T).getD 31 di:=by rw[he,List.getD,List.getD,List.getElem?_take_of_lt (by omega)]
  rw[e1,rngT_next hr.ok.srt hlen,he,List.drop_drop]
 have HLen:Hid (∀y∈T,y.1.length<=32):=fun y hy=>by have:=hr.ok.keys y hy;simp only[kOk,Bool.and_eq_true,decide_eq_true_eq]at this;exact this.2
 have CK:Hid (∀(lw:List UInt8) (m:Nat) W,Hid (Fb bx ap aq w W)->rngT lw hi T=R.drop m->Calls Tryz.prog 50 #[pz pm,sd lw,sd hi,iw 32] W fun e w'=>∃ao cap,e=.returned (.slice ao ((R.drop m).take 32).length cap)/\Hid (RwAt w'.heap.size 1 (.slice ao ((R.drop m).take 32).length cap) ((R.drop m).take 32).length (kc (((R.drop m).take 32).map (·.1))) w'/\Fb bx ap aq w w')):=fun lw m W hW he=>by have htx:=HT.out W hW.out;refine(keys17 lw hi 32 htx.map (by rw[hr.len];omega)).mono ?_;rintro e w' ⟨v',rfl,ho,hb'⟩;rw[keys_part hr.keys,he]at ho;have ho':=rw_own ho;rw[List.length_map]at ho';obtain⟨sa,sc,rfl,-,-,-,-⟩:=ho';exact⟨sa,sc,rfl,by have:=rw_own ho;rw[List.length_map]at this;exact this,hW.out.on hbx hb'⟩
 have CO:Hid (∀(y:List UInt8×Ii) W,y∈T->Hid (Fb bx ap aq w W)->Calls Tryz.prog 105 #[pz p,sd y.1] W fun e w'=>e=.returned (.tuple #[.agg #[ui y.2.c,ui y.2.n,uw y.2.sp,ui y.2.sl,uw y.2.mp,ui y.2.ml,sd y.2.prim,sd y.1,sd y.2.val,.bool y.2.dead],.bool true])/\Hid (Below W.heap.size W w')):=fun y W hy hW=>by refine(of19 y.1 (HT.out W hW.out) hr).mono ?_;rintro e w' ⟨rfl,hb'⟩;rw[(getF_mem hr.ok.srt).2 hy];exact⟨rfl,hb'⟩
 have CL:Hid (∀mp ml W,Calls Tryz.prog 87 #[.agg #[uw ap,ui aq],.agg #[uw mp,ui ml]] W fun e w'=>e=.returned (.bool (lessB ap aq mp ml))/\Below W.heap.size W w'):=fun mp ml W=>lessP ap aq mp ml W;have CA:Hid (∀c n W,Hid (Fb bx ap aq w W)->Calls Tryz.prog 203 #[.slice va but.length vc,.agg #[ui c,ui n]] W fun e w'=>e=.returned (.bool (but.contains (c,n)))/\Below W.heap.size W w'):=fun c n W hW=>contains43 w.heap.size but _ c n W (RwAt.on hv (by rw[hbx];exact hW.out.bel)) (by rw[hbx];exact Nat.le_trans (Nat.le_of_eq hbx.symm) hW.out.bel.size);clear h hr hv hl;go_enter Tryz.func158,Tryz.ntmps158;go_wp2_with fail;obtain⟨W0,hW0⟩:=xj ((w.alloc (.cells #[uw ap,ui aq] 28)).alloc (.cells #[ui 0,ui 0,uw 0,ui 0,uw 0,ui 0,su,su,su,.bool false] 69));rw[hW0]at HX|-;clear hW0 hbx;go_loopw [1] (fun f wr=>∃(m:Nat) (lw:List UInt8),f=sd lw/\rngT lw hi T=R.drop m/\(R.take m).find? q=none/\Fb bx ap aq w wr) (fun f _=>leftT hi T f)
 case atStart=>exact⟨0,lo,rfl,HR0.out,rfl,HX.out⟩
 case round=>
  obtain⟨m,lw,rfl,hrng,hno,hfb⟩:=hrel;have HF:Hid (Fb bx ap aq w wr):=hfb;have HRng:Hid (rngT lw hi T=R.drop m):=hrng;have HNo:Hid ((R.take m).find? q=none):=hno;have HNext:Hid (¬((R.drop m).take 32).length<32->rngT ((((R.drop m).take 32).getD 31 di).1++[0]) hi T=R.drop (m+32)):=HNx.out lw m hrng;have HLf:Hid (leftT hi T (sd lw)=(R.drop m).length):=by show _=_;rw[leftT_bs,hrng]
  have d0:=(HT.out wr hfb).cells.1;have CKK:Hid (1=1->_):=fun _=>CK.out lw m wr HF hrng;clear hrng hno hfb HX HR0 CK HNx;go_wp2_with fail;refine(CKK.out (by trivial)).mono ?_;rintro e w2 ⟨ao,cap,rfl,HK⟩;have HQm:Hid (∀y∈(R.drop m).take 32,y∈T):=fun y hy=>HMem.out y (List.mem_of_mem_drop (List.mem_of_mem_take hy));have HFound:Hid (∀j,j<((R.drop m).take 32).length->(((R.drop m).take 32).take j).find? q=none->q (((R.drop m).take 32).getD j di)=true->R.find? q=some (((R.drop m).take 32).getD j di)):=fun j hj h1 h2=>part_found HNo.out hj h1 h2;have HAll:Hid ((((R.drop m).take 32).take ((R.drop m).take 32).length).find? q=none->(((R.drop m).take 32).length<32->R.find? q=none)/\(R.take (m+32)).find? q=none):=fun h1=>part_none HNo.out (by rw[List.take_length]at h1;exact h1);have HSz:Hid (((R.drop m).take 32).length<=32/\(¬((R.drop m).take 32).length<32->(R.drop (m+32)).length<(R.drop m).length)):=by rw[List.length_take];refine⟨by omega,fun h1=>?_⟩;rw[List.length_drop,List.length_drop]at*;omega
  clear CKK d0 HF;generalize hQ:(R.drop m).take 32=Q at*;clear hQ;rw[HY.out]at HFound HAll;go_wp2_with fail;go_loopw [29] (fun i wq=>∃j:Nat,j<=Q.length/\i=iw j/\(Q.take j).find? q=none/\Fb bx ap aq w wq/\Below w2.heap.size w2 wq) (fun i _=>Q.length-(intOf i).toNat)
  case atStart=>exact⟨0,Nat.zero_le _,rfl,rfl,HK.out.2,Below.refl _ _⟩
  case round=>
   obtain⟨j,hj,rfl,hnj,hfj,hbj⟩:=hrel;have HFj:Hid _:=hfj;have HBj:Hid _:=hbj;have HNj:Hid _:=hnj;have hq32:Q.length<=32:=HSz.out.1;by_cases hjl:j<Q.length
   ·obtain⟨b,off,rfl,e0⟩:=ks_el (RwAt.on HK.out.1 hbj) (i:=j) (by rw[List.length_map];exact hjl);rw[show(Q.map (·.1)).getD j []=(Q.getD j di).1 from by simp[List.getD,hjl]]at e0;have hjl':(j:Int)<Q.length:=by omega
    have HJ:Hid (j+1<=Q.length):=hjl;have hQj:=HQ.out (Q.getD j di);have HFd:Hid (q (Q.getD j di)=true->Y=some (Q.getD j di)):=HFound.out j hjl hnj;have HGo:Hid (q (Q.getD j di)=false->(Q.take (j+1)).find? q=none):=fun h1=>find_snoc hjl hnj h1;have CX:Hid (1=1->_):=fun _=>CO.out (Q.getD j di) wr (HQm.out _ (getD_memT hjl)) HFj;clear hnj hfj hbj HFound HAll HSz HNext HNo HLf HRng;generalize Q.getD j di=x at*;obtain⟨k,s⟩:=x;dsimp only at e0 hQj CX;go_wp2_with fail;refine(CX.out (by trivial)).mono ?_;rintro e w3 ⟨rfl,hb3⟩;obtain⟨Wa,hWa⟩:=xj (w3.alloc (.cells #[ui s.c,ui s.n,uw s.sp,ui s.sl,uw s.mp,ui s.ml,sd s.prim,sd k,sd s.val,.bool s.dead] 69));have hia:InAt Wa w3.heap.size 0 (k,s):=by rw[<-hWa];exact in_new w3 k s
    have hba:Below wr.heap.size wr Wa:=by rw[<-hWa];exact hb3.out.alloc hb3.out.size _
    have HFa:Hid (Fb bx ap aq w Wa):=HFj.out.on HBX.out hba;have HBa:Hid (Below w2.heap.size w2 Wa):=HBj.out.trans (hba.mono HBj.out.size);obtain⟨ba,hbaq⟩:=xj w3.heap.size;rw[hbaq]at hia;have HIa:Hid (InAt Wa ba 0 (k,s)):=hia;obtain⟨i0,i1,i2,i3,i4,i5,i6,i7,i8,i9⟩:=hia;simp only[Nat.zero_add]at i0 i1 i2 i3 i4 i5 i6 i7 i8 i9;obtain⟨f0,f1⟩:=HFa.out.two;have CLL:Hid (1=1->_):=fun _=>CL.out s.mp s.ml Wa;obtain⟨z,hz⟩:=xj (lessB ap aq s.mp s.ml);rw[hz]at CLL hQj;clear hz hb3 hba CX HFj HBj e0;cases z with
    |true=>
     have HG:Hid ((Q.take (j+1)).find? q=none):=HGo.out (by rw[hQj];rfl);clear hQj HFd HGo;go_wp2_with fail;refine(CLL.out (by trivial)).mono ?_;rintro e w4 ⟨rfl,hb4⟩;have HF4:Hid (Fb bx ap aq w w4):=HFa.out.on HBX.out hb4;have HB4:Hid (Below w2.heap.size w2 w4):=HBa.out.trans (hb4.mono HBa.out.size);clear hb4 CLL i0 i1 i2 i3 i4 i5 i6 i7 i8 i9 f0 f1 hWa hbaq HIa HFa HBa;go_wp2_with fail;go_roundw
     case rel=>exact⟨j+1,HJ.out,by go_num,HG.out,HF4.out,HB4.out⟩
     case measure=>simp[intOf];omega
    |false=>
     go_wp2_with fail;refine(CLL.out (by trivial)).mono ?_;rintro e w4 ⟨rfl,hb4⟩;have HF4:Hid (Fb bx ap aq w w4):=HFa.out.on HBX.out hb4;have HB4:Hid (Below w2.heap.size w2 w4):=HBa.out.trans (hb4.mono HBa.out.size);have HI4:Hid (InAt w4 ba 0 (k,s)):=HIa.out.on hb4;obtain⟨g0,g1,-,-,-,-,-,-,-,-⟩:=HI4.out;simp only[Nat.zero_add]at g0 g1;have CAA:Hid (1=1->_):=fun _=>CA.out s.c s.n w4 HF4;obtain⟨z,hz⟩:=xj (but.contains (s.c,s.n));rw[hz]at CAA hQj;clear hz hb4 CLL i0 i1 i2 i3 i4 i5 i6 i7 i8 i9 f0 f1 hWa hbaq HIa HFa HBa;cases z with
     |true=>
      have HG:Hid ((Q.take (j+1)).find? q=none):=HGo.out (by rw[hQj];rfl);clear hQj HFd HGo;go_wp2_with fail;refine(CAA.out (by trivial)).mono ?_;rintro e w5 ⟨rfl,hb5⟩;have HF5:Hid (Fb bx ap aq w w5):=HF4.out.on HBX.out hb5;have HB5:Hid (Below w2.heap.size w2 w5):=HB4.out.trans (hb5.mono HB4.out.size);clear hb5 CAA g0 g1 HF4 HB4 HI4;go_wp2_with fail;go_roundw
      case rel=>exact⟨j+1,HJ.out,by go_num,HG.out,HF5.out,HB5.out⟩
      case measure=>simp[intOf];omega
     |false=>
      have hY:Y=some (k,s):=HFd.out (by rw[hQj];rfl);subst hY;clear hQj HFd HGo;go_wp2_with fail;refine(CAA.out (by trivial)).mono ?_;rintro e w5 ⟨rfl,hb5⟩;have HF5:Hid (Fb bx ap aq w w5):=HF4.out.on HBX.out hb5;have HI5:Hid (InAt w5 ba 0 (k,s)):=HI4.out.on hb5;obtain⟨i0,i1,i2,i3,i4,i5,i6,i7,i8,i9⟩:=HI5.out;simp only[Nat.zero_add]at i0 i1 i2 i3 i4 i5 i6 i7 i8 i9;have HB1:=HF5.out.b1;have zz0:=bk10 HB1;have f0:w5.frozen? ⟨bx+1,0,none⟩=false:=block_frozen HB1 0;have f1:w5.frozen? ⟨bx+1,1,none⟩=false:=block_frozen HB1 1;have f2:w5.frozen? ⟨bx+1,2,none⟩=false:=block_frozen HB1 2;have f3:w5.frozen? ⟨bx+1,3,none⟩=false:=block_frozen HB1 3;have f4:w5.frozen? ⟨bx+1,4,none⟩=false:=block_frozen HB1 4;have f5:w5.frozen? ⟨bx+1,5,none⟩=false:=block_frozen HB1 5;have f6:w5.frozen? ⟨bx+1,6,none⟩=false:=block_frozen HB1 6;have f7:w5.frozen? ⟨bx+1,7,none⟩=false:=block_frozen HB1 7;have f8:w5.frozen? ⟨bx+1,8,none⟩=false:=block_frozen HB1 8;have f9:w5.frozen? ⟨bx+1,9,none⟩=false:=block_frozen HB1 9;have HP:Hid _:=ten_set (k,s) HB1;have HBw:Hid _:=fb_put (k,s) HF5.out HBX.out;clear hb5 CAA g0 g1 HF4 HB4 HI4 HB1 HF5 HI5;go_wp2_with fail;obtain⟨g0,g1,g2,g3,g4,g5,g6,g7,g8,g9⟩:=HP.out;simp only[Nat.zero_add]at g0 g1 g2 g3 g4 g5 g6 g7 g8 g9;refine bodyPost_ret (v:=fsV (some (k,s))) (by simp[results,Tryz.results158,go_sem,g0,g1,g2,g3,g4,g5,g6,g7,g8,g9,fsV,inV]) rfl ?_;exact⟨rfl,HBw.out⟩
   ·have hjl':¬(j:Int)<Q.length:=by omega
    have hjq:j=Q.length:=by omega
    obtain⟨k1,k2⟩:=HAll.out (hjq▸hnj);clear hnj hfj hbj hj HFound;by_cases hfull:Q.length<32
    ·have hfull':(Q.length:Int)<32:=by omega
     have hY:Y=none:=k1 hfull;subst hY;have HB1:=HFj.out.b1;have zz0:=bk10 HB1;have f0:wr.frozen? ⟨bx+1,0,none⟩=false:=block_frozen HB1 0;have f1:wr.frozen? ⟨bx+1,1,none⟩=false:=block_frozen HB1 1;have f2:wr.frozen? ⟨bx+1,2,none⟩=false:=block_frozen HB1 2;have f3:wr.frozen? ⟨bx+1,3,none⟩=false:=block_frozen HB1 3;have f4:wr.frozen? ⟨bx+1,4,none⟩=false:=block_frozen HB1 4;have f5:wr.frozen? ⟨bx+1,5,none⟩=false:=block_frozen HB1 5;have f6:wr.frozen? ⟨bx+1,6,none⟩=false:=block_frozen HB1 6;have f7:wr.frozen? ⟨bx+1,7,none⟩=false:=block_frozen HB1 7;have f8:wr.frozen? ⟨bx+1,8,none⟩=false:=block_frozen HB1 8;have f9:wr.frozen? ⟨bx+1,9,none⟩=false:=block_frozen HB1 9;have HP:Hid _:=ten_set ([],zi) HB1;have HBw:Hid _:=fb_put ([],zi) HFj.out HBX.out;clear HB1 k1 k2 HNj;go_wp2_with fail;obtain⟨g0,g1,g2,g3,g4,g5,g6,g7,g8,g9⟩:=HP.out;simp only[Nat.zero_add,zi,ui,uw,sd,show bs []=⟨#[]⟩from rfl]at g0 g1 g2 g3 g4 g5 g6 g7 g8 g9;refine bodyPost_ret (v:=fsV none) (by simp[results,Tryz.results158,go_sem,g0,g1,g2,g3,g4,g5,g6,g7,g8,g9,fsV,inV,zi,ui,uw,sd,show bs []=⟨#[]⟩from rfl]) rfl ?_;exact⟨rfl,HBw.out⟩
    ·have h32:Q.length=32:=by have:=HSz.out.1;omega
     obtain⟨b,off,rfl,e0⟩:=ks_el (RwAt.on HK.out.1 HBj.out) (i:=31) (by rw[List.length_map];omega);rw[show(Q.map (·.1)).getD 31 []=(Q.getD 31 di).1 from by simp[List.getD,show 31<Q.length by omega]]at e0;have HN2:Hid (rngT ((Q.getD 31 di).1++[0]) hi T=R.drop (m+32)):=HNext.out hfull;have hkl:(Q.getD 31 di).1.length<1000:=by have:=HLen.out (Q.getD 31 di) (HQm.out _ (getD_memT (by omega)));omega
     have HK2:Hid _:=k2;have HMs:Hid ((R.drop (m+32)).length<(R.drop m).length):=HSz.out.2 hfull;have CU:Hid (1=1->_):=fun _=>above44 (Q.getD 31 di).1 wr hkl;clear k1 k2 HNj hkl hfull HNext HSz HAll HQm;generalize (Q.getD 31 di).1=k at*;have HRl:Hid (∃m' lw',Value.string (bs (k++[0]))=sd lw'/\rngT lw' hi T=R.drop m'/\(R.take m').find? q=none/\Fb bx ap aq w wr):=⟨m+32,k++[0],rfl,HN2.out,HK2.out,HFj.out⟩;have HMe:Hid (leftT hi T (.string (bs (k++[0])))<leftT hi T (sd lw)):=by show _<_;rw[leftT_bs,HN2.out,HLf.out];exact HMs.out
     obtain rfl:j=32:=by omega
     rw[h32];clear hjq hjl hjl' HN2 HK2 HMs HLf hq32;go_wp2_with fail;refine(CU.out (by trivial)).mono ?_;rintro e w5 ⟨rfl,rfl⟩;clear CU e0 h32;go_wp2_with fail;go_roundw
     case rel=>exact HRl.out
     case measure=>exact HMe.out
theorem any_keys{L:List Wr}{k:List UInt8}{m:Nat}(hm:m<=L.length):((L.take m).any fun a=>a.key==k)=true↔∃i,i<m/\(L.getD i dw).key=k:=by
 rw[List.any_eq_true];constructor
 ·rintro⟨a,ha,he⟩;obtain⟨i,hi,rfl⟩:=List.mem_take_iff_getElem.1 ha;exact⟨i,by omega,by rw[List.getD,List.getElem?_eq_getElem (by omega)];simpa using he⟩
 ·rintro⟨i,hi,he⟩;refine⟨L.getD i dw,?_,by simpa using he⟩;rw[List.getD,List.getElem?_eq_getElem (by omega)];exact List.mem_take_iff_getElem.2 ⟨i,by omega,rfl⟩
theorem WsAt.tk{B:Nat}{ao:Option Addr}{cap:Nat}{L:List Wr}{w:World}(h:WsAt B (.slice ao L.length cap) L w){m:Nat}(hm:m<=L.length):WsAt B (.slice ao m cap) (L.take m) w:=by have:=RwAt.take h hm;rw[rowC_take wrc_len]at this;unfold WsAt;rw[List.length_take,Nat.min_eq_left hm];exact this
theorem ent51:∀args w,(callFunc 156 args).run Tryz.prog w=.ok (.enter 156 args) w:=enters_of Tryz.func156 (by kernel_rfl) rfl
theorem ent31:∀args w,(callFunc 139 args).run Tryz.prog w=.ok (.enter 139 args) w:=enters_of Tryz.func139 (by kernel_rfl) rfl
theorem right24(B:Nat)(L:List Wr)(v:Value)(w:World)(h:WsAt B v L w)(hB:B<=w.heap.size):
  Calls Tryz.prog 83 #[v] w fun e w'=>e=.returned (.bool (rightW L))/\Below w.heap.size w w':=by
 obtain⟨ao,cap,rfl,hlc,hcm⟩:=h.shape;have HW:Hid (∀W,Below w.heap.size w W->WsAt w.heap.size (.slice ao L.length cap) L W):=fun W hW=>RwAt.le (h.on (hW.mono hB)) hB;have HE:Hid (∀W,Below w.heap.size w W->∀i,i<L.length->∃b off,ao=some ⟨b,off,none⟩/\WrAt W b (off+i*3) (L.getD i dw)):=fun W hW i hi=>(HW.out W hW).el hi;have HBad:Hid (∀m,m<L.length->wOk (L.getD m dw)=false->rightW L=false):=fun m hm hw=>right_bad hm hw;have HTw:Hid (∀k m,k<m->m<L.length->(L.getD k dw).key=(L.getD m dw).key->rightW L=false):=fun k m hk hm he=>right_twice hk hm he;have HEnd:Hid (RtN L L.length->rightW L=(decide (1<=L.length)&&decide (L.length<=16))):=right_end;have HSz:Hid (¬(1<=L.length/\L.length<=16)->rightW L=false):=fun hn=>by
  unfold rightW;by_cases h1:1<=L.length
  ·have h2:¬L.length<=16:=fun e=>hn ⟨h1,e⟩;simp[h2]
  ·simp[h1]
 have hL9:L.length<9223372036854775808:=by omega
 have HCap:Hid (L.length<=cap):=hlc;generalize rightW L=y at*;clear h hB hcm hlc;by_cases h1:(L.length:Int)<1
 ·have hy:y=false:=HSz.out (by omega);subst hy;go_enter Tryz.func83,Tryz.ntmps83;go_wp2_with fail;go_ret;exact⟨rfl,Below.refl _ _⟩
 by_cases h2:(16:Int)<L.length
 ·have hy:y=false:=HSz.out (by omega);subst hy;go_enter Tryz.func83,Tryz.ntmps83;go_wp2_with fail;go_ret;exact⟨rfl,Below.refl _ _⟩
 go_enter Tryz.func83,Tryz.ntmps83;go_wp2_with fail;go_loopw [15] (fun i wr=>Below w.heap.size w wr/\∃m:Nat,m<=L.length/\i=iw m/\RtN L m) (fun i _=>L.length-(intOf i).toNat)
 case atStart=>exact⟨Below.refl _ _,0,Nat.zero_le _,rfl,fun _ h=>by omega,fun _ _ _ h=>by omega⟩
 case round=>
  obtain⟨hbr,m,hm,rfl,hrt⟩:=hrel;have HBr:Hid (Below w.heap.size w wr):=hbr;have HRt:Hid (RtN L m):=hrt;by_cases hml:m<L.length
  ·obtain⟨b,off,rfl,e0,e1,e2⟩:=HE.out wr hbr m hml;have hml':(m:Int)<L.length:=by omega
   have hm0:¬(m:Int)<0:=by omega
   have hmc:(m:Int)<=cap:=by have:=HCap.out;omega
   have HQ:Hid (m+1<=L.length):=hml;have hAny:=any_keys (k:=(L.getD m dw).key) (Nat.le_of_lt hml);have HNo:Hid (wOk (L.getD m dw)=false->y=false):=HBad.out m hml;have HTt:Hid (((L.take m).any fun a=>a.key==(L.getD m dw).key)=true->y=false):=fun ht=>by obtain⟨i,hi,he⟩:=hAny.1 ht;exact HTw.out i m hi hml he
   have HNx:Hid (wOk (L.getD m dw)=true->((L.take m).any fun a=>a.key==(L.getD m dw).key)=false->RtN L (m+1)):=fun h3 h4=>HRt.out.next h3 (fun i hi he=>by rw[hAny.2 ⟨i,hi,he⟩]at h4;cases h4)
   clear hAny hrt;generalize L.getD m dw=x at*;obtain⟨Wa,hWa⟩:=xj (wr.alloc (.cells #[sd x.key,sd x.val,.bool x.dead] 67));have hxa:Wa.heap[wr.heap.size]?=some (.cells #[sd x.key,sd x.val,.bool x.dead] 67 (0,0)):=by rw[<-hWa];exact heap_alloc_new wr _
   have hba:Below w.heap.size w Wa:=by rw[<-hWa];exact hbr.alloc hbr.size _
   have a0:Wa.cell? ⟨wr.heap.size,0,none⟩=some (sd x.key):=block_cell hxa rfl;have a1:Wa.cell? ⟨wr.heap.size,1,none⟩=some (sd x.val):=block_cell hxa rfl;have a2:Wa.cell? ⟨wr.heap.size,2,none⟩=some (.bool x.dead):=block_cell hxa rfl;obtain⟨bp,hbp⟩:=xj wr.heap.size;rw[hbp]at a0 a1 a2 hxa;have CR:Hid (1=1->Calls Tryz.prog 155 #[.agg #[sd x.key,sd x.val,.bool x.dead]] Wa fun e w'=>e=.returned (.bool (wOk x))/\Hid (Below w.heap.size w w'/\w'.heap[bp]?=some (.cells #[sd x.key,sd x.val,.bool x.dead] 67 (0,0)))):=fun _=>by refine(right50 x Wa).mono ?_;rintro e w' ⟨rfl,hb'⟩;exact⟨rfl,hba.trans (hb'.mono hba.size),by rw[hb'.block _ (gsz hxa)];exact hxa⟩
   have CC:Hid (∀W,Hid (Below w.heap.size w W/\W.heap[bp]?=some (.cells #[sd x.key,sd x.val,.bool x.dead] 67 (0,0)))->Calls Tryz.prog 138 #[.slice (some ⟨b,off,none⟩) m cap,.func (.func 156) #[] #[pz bp]] W fun e w'=>e=.returned (.bool ((L.take m).any fun a=>a.key==x.key))/\Hid (Below w.heap.size w w')):=fun W hW=>by
    have hws:=(HW.out W hW.out.1).tk hm;refine(cont30 156 #[pz bp] (fun a=>a.key==x.key) (L.take m) _ W (RwAt.le hws hW.out.1.size) ent51 (fun a W2 hb2=>?_)).mono ?_
    ·exact same51 a bp x.key W2 (block_cell (by rw[hb2.block _ (gsz hW.out.2)];exact hW.out.2) rfl)
    ·rintro e w' ⟨rfl,hb'⟩;exact⟨rfl,hW.out.1.trans (hb'.mono hW.out.1.size)⟩
   clear hxa hba hbr HE HW HEnd HSz HBad HTw HRt;cases hwo:wOk x with
   |false=>
    have hy:y=false:=HNo.out hwo;subst hy;rw[hwo]at CR;clear hwo HNo HNx HTt CC;go_wp2_with fail;refine(CR.out (by trivial)).mono ?_;rintro e w1 ⟨rfl,HB1⟩;clear CR a0 a1 a2 hWa hbp e0 e1 e2;go_wp2_with fail;go_ret;exact⟨rfl,HB1.out.1⟩
   |true=>
    rw[hwo]at CR;cases han:(L.take m).any fun a=>a.key==x.key with
    |true=>
     have hy:y=false:=HTt.out han;subst hy;rw[han]at CC;clear hwo han HNo HNx HTt;go_wp2_with fail;refine(CR.out (by trivial)).mono ?_;rintro e w1 ⟨rfl,HB1⟩;clear CR a0 a1 a2 hWa hbp e0 e1 e2;go_wp2_with fail;refine(CC.out _ HB1).mono ?_;rintro e w2 ⟨rfl,HB2⟩;clear CC HB1;go_wp2_with fail;go_ret;exact⟨rfl,HB2.out⟩
    |false=>
     rw[han]at CC;have HNN:Hid (RtN L (m+1)):=HNx.out hwo han;clear hwo han HNo HNx HTt;go_wp2_with fail;refine(CR.out (by trivial)).mono ?_;rintro e w1 ⟨rfl,HB1⟩;clear CR a0 a1 a2 hWa hbp e0 e1 e2;go_wp2_with fail;refine(CC.out _ HB1).mono ?_;rintro e w2 ⟨rfl,HB2⟩;clear CC HB1;go_wp2_with fail;go_roundw
     case rel=>exact⟨HB2.out,m+1,HQ.out,by go_num,HNN.out⟩
     case measure=>simp[intOf];omega
  ·have hml':¬(m:Int)<L.length:=by omega
   have hm2:m=L.length:=by omega
   have hy:y=true:=by have:=HEnd.out (hm2▸hrt);rw[this];simp;omega
   subst hy;clear hbr hrt hm2;go_wp2_with fail;go_ret;exact⟨rfl,HBr.out⟩
theorem new9(w:World):Calls Tryz.prog 29 #[] w fun e w'=>∃p M,e=.returned (pz p)/\TabAt w.heap.size p M [] w'/\Below w.heap.size w w':=by
 have hmm:=@run_makeMap Tryz.prog;have CN:Hid (1=1->Calls Tryz.prog 62 #[] w fun e w'=>∃pm,e=.returned (pz pm)/\Hid (∃t,Mp w.heap.size pm t w'/\t.toL=[]/\Below w.heap.size w w')):=fun _=>by refine(new8 w).mono ?_;rintro e w' ⟨pm,F,rfl,⟨t,hm,hl,_⟩,hb⟩;exact⟨pm,rfl,t,hm,hl,hb⟩
 have HT:Hid (∀pm w1,(∃t,Mp w.heap.size pm t w1/\t.toL=[]/\Below w.heap.size w w1)->TabAt w.heap.size (w1.alloc (.map #[] 0)).heap.size (footT (w1.alloc (.map #[] 0)).heap.size pm w1.heap.size .nil []) [] ((w1.alloc (.map #[] 0)).alloc (.cells #[pz pm,.map (some w1.heap.size)] 126))/\Below w.heap.size w ((w1.alloc (.map #[] 0)).alloc (.cells #[pz pm,.map (some w1.heap.size)] 126))):=fun pm w1=>by
  rintro⟨t,hm,hl,hb⟩;have ht:t=.nil:=by
   cases t using Tr.cas with
   |nil=>rfl
   |node b l k v x r=>simp[Tr.toL]at hl
  subst ht;have hpl:=(gsz hm.box);have b1:Below w1.heap.size w1 (w1.alloc (.map #[] 0)):=al _;have b2:Below (w1.alloc (.map #[] 0)).heap.size (w1.alloc (.map #[] 0)) ((w1.alloc (.map #[] 0)).alloc (.cells #[pz pm,.map (some w1.heap.size)] 126)):=al _;have s1:(w1.alloc (.map #[] 0)).heap.size=w1.heap.size+1:=size_al _ _;have hbb:Below w.heap.size w ((w1.alloc (.map #[] 0)).alloc (.cells #[pz pm,.map (some w1.heap.size)] 126)):=(hb.trans (b1.mono hb.size)).trans (b2.mono (by rw[s1];have:=hb.size;omega));refine⟨⟨pm,w1.heap.size,.nil,[],⟨heap_alloc_new _ _,?_,?_,by simp,?_⟩,Rel.nil,rfl⟩,hbb⟩
  ·exact(hm.kept (Kept.of_below (F:=fun _=>False) b1) (fun h=>h) (fun _ _ h=>h)).kept (Kept.of_below (F:=fun _=>False) b2) (fun h=>h) (fun _ _ h=>h)
  ·exact(GmAt.new w1).kept (Kept.of_below (F:=fun _=>False) b2) (fun h=>h)
  ·refine⟨by omega,by omega,by omega,by simp[Tr.blocks],by simp[Tr.blocks],?_,hb.size⟩;rw[s1];have:=hb.size;omega
 go_enter Tryz.func29,Tryz.ntmps29;go_wp2_with fail;refine(CN.out (by trivial)).mono ?_;rintro e w1 ⟨pm,rfl,HM⟩;obtain⟨h1,h2⟩:=HT.out pm w1 HM.out;have HX:Hid _:=And.intro h1 h2;clear CN HT HM h1 h2;rw[size_al]at HX;go_wp2_with fail;go_ret;exact⟨_,_,rfl,HX.out⟩
theorem lay31{B p pm hb:Nat}{t:Tr}{m:Mm}{T:Tb}{w:World}(x:Wr)(b6:Nat)(h:Tx B p pm hb t m w)(hr:Rel t.toL m T)(h6:w.cell? ⟨b6,0,none⟩=some (pz p)):Calls Tryz.prog 139 #[.agg #[sd x.key,sd x.val,.bool x.dead],pz b6] w fun e w'=>e=.returned (.bool (getF x.key T).isSome)/\Below w.heap.size w w':=by
 obtain⟨W0,hW0⟩:=xj (w.alloc (.cells #[sd x.key,sd x.val,.bool x.dead] 67));have hb0:Below w.heap.size w W0:=by rw[<-hW0];exact al _
 have hx0:W0.heap[w.heap.size]?=some (.cells #[sd x.key,sd x.val,.bool x.dead] 67 (0,0)):=by rw[<-hW0];exact heap_alloc_new w _
 have z0:W0.cell? ⟨w.heap.size,0,none⟩=some (sd x.key):=block_cell hx0 rfl;have y0:W0.cell? ⟨b6,0,none⟩=some (pz p):=by rw[hb0.cell (World.block_lt_of_cell? _ _ h6)];exact h6
 have CC:Hid (1=1->Calls Tryz.prog 140 #[pz p,sd x.key] W0 fun e w'=>e=.returned (.bool (getF x.key T).isSome)/\Hid (Below w.heap.size w w')):=fun _=>by refine(claimed32 x.key (h.on hb0) hr).mono ?_;rintro e w' ⟨rfl,hb'⟩;exact⟨rfl,hb0.trans (hb'.mono hb0.size)⟩
 clear h hr h6 hb0 hx0;generalize (getF x.key T).isSome=z at*;go_enter Tryz.func139,Tryz.ntmps139;go_wp2_with fail;refine(CC.out (by trivial)).mono ?_;rintro e w1 ⟨rfl,HB⟩;clear CC z0 y0 hW0;go_wp2_with fail;go_ret;exact⟨rfl,HB.out⟩
end Go.Proofs.YtdplfgcoaddbdaaGreat.Lat
