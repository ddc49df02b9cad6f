import Derived.Test.YtdplfgcoaddbdaaGreatXbn
set_option maxHeartbeats 4000000
set_option maxRecDepth 100000
set_option linter.unusedVariables false
set_option linter.unusedSimpArgs false
namespace Go.Proofs.YtdplfgcoaddbdaaGreat.Lat
open Go.RowKit
theorem fb_put{bx:Nat}{ap aq:Int}{w W:World}(x:List UInt8×Ii)(h:Fb bx ap aq w W)(e:w.heap.size=bx):Below w.heap.size w ((((((((((W.setCell ⟨bx+1,0,none⟩ (ui x.2.c)).setCell ⟨bx+1,1,none⟩ (ui x.2.n)).setCell ⟨bx+1,2,none⟩ (uw x.2.sp)).setCell ⟨bx+1,3,none⟩ (ui x.2.sl)).setCell ⟨bx+1,4,none⟩ (uw x.2.mp)).setCell ⟨bx+1,5,none⟩ (ui x.2.ml)).setCell ⟨bx+1,6,none⟩ (sd x.2.prim)).setCell ⟨bx+1,7,none⟩ (sd x.1)).setCell ⟨bx+1,8,none⟩ (sd x.2.val)).setCell ⟨bx+1,9,none⟩ (.bool x.2.dead)):=by
 have hb:Below w.heap.size w W:=by rw[e];exact h.bel
 exact ten_below x hb (by omega)
theorem first17{B p pm hb:Nat}{t:Tr}{m0:Mm}{T:Tb}{w:World}(lo hi:List UInt8)(ap aq:Int)(but:List (Int×Int))(v:Value)(h:Tx B p pm hb t m0 w)(hr:Rel t.toL m0 T)(hl:T.length<10000)(hv:TsAt w.heap.size v but w):Calls Tryz.prog 158 #[pz p,sd lo,sd hi,.agg #[uw ap,ui aq],v] w fun e w'=>e=.returned (fsV (firstF lo hi ap aq but T))/\Below w.heap.size w w':=by
 obtain⟨va,vc,rfl,-,-⟩:=hv.shape;rw[first_rng];obtain⟨q,hq⟩:=xj (stQ ap aq but);have HQ:Hid (∀x:List UInt8×Ii,q x=(!lessB ap aq x.2.mp x.2.ml&& !but.contains (x.2.c,x.2.n))):=fun x=>by rw[<-hq];rfl
 rw[hq];clear hq;obtain⟨R,hR⟩:=xj (rngT lo hi T);rw[hR];have HR0:Hid (rngT lo hi T=R.drop 0):=by show _=_;rw[List.drop_zero];exact hR
 have HMem:Hid (∀y∈R,y∈T):=fun y hy=>by rw[<-hR]at hy;exact(List.mem_filter.1 hy).1
 clear hR;obtain⟨Y,hY⟩:=xj (R.find? q);have HY:Hid (R.find? q=Y):=hY;rw[hY];clear hY;have HX:Hid (Fb w.heap.size ap aq w ((w.alloc (.cells #[uw ap,ui aq] 28)).alloc (.cells #[ui 0,ui 0,uw 0,ui 0,uw 0,ui 0,su,su,su,.bool false] 69))):=by obtain⟨h1,h2,h3⟩:=two_boxes w (.cells #[uw ap,ui aq] 28) (.cells #[ui 0,ui 0,uw 0,ui 0,uw 0,ui 0,su,su,su,.bool false] 69);exact⟨h1,h2,h3⟩
 obtain⟨bx,hbx⟩:=xj w.heap.size;rw[hbx]at HX;have HBX:Hid (w.heap.size=bx):=hbx;have HT:Hid (∀W,Fb bx ap aq w W->Tx B p pm hb t m0 W):=fun W hW=>h.on (by rw[hbx];exact hW.bel);have HNx:Hid (∀(lw:List UInt8) (m:Nat),rngT lw hi T=R.drop m->¬((R.drop m).take 32).length<32->rngT ((((R.drop m).take 32).getD 31 di).1++[0]) hi T=R.drop (m+32)):=fun lw m he hn=>by
  have hlen:31<(rngT lw hi T).length:=by rw[he];rw[List.length_take]at hn;omega
  have e1:((R.drop m).take 32).getD 31 di=(rngT lw hi T).getD 31 di:=by rw[he,List.getD,List.getD,List.getElem?_take_of_lt (by omega)]
  rw[e1,rngT_next hr.ok.srt hlen,he,List.drop_drop]
 have HLen:Hid (∀y∈T,y.1.length<=32):=fun y hy=>by have:=hr.ok.keys y hy;simp only[kOk,Bool.and_eq_true,decide_eq_true_eq]at this;exact this.2
 have CK:Hid (∀(lw:List UInt8) (m:Nat) W,Hid (Fb bx ap aq w W)->rngT lw hi T=R.drop m->Calls Tryz.prog 50 #[pz pm,sd lw,sd hi,iw 32] W fun e w'=>∃ao cap,e=.returned (.slice ao ((R.drop m).take 32).length cap)/\Hid (RwAt w'.heap.size 1 (.slice ao ((R.drop m).take 32).length cap) ((R.drop m).take 32).length (kc (((R.drop m).take 32).map (·.1))) w'/\Fb bx ap aq w w')):=fun lw m W hW he=>by have htx:=HT.out W hW.out;refine(keys17 lw hi 32 htx.map (by rw[hr.len];omega)).mono ?_;rintro e w' ⟨v',rfl,ho,hb'⟩;rw[keys_part hr.keys,he]at ho;have ho':=rw_own ho;rw[List.length_map]at ho';obtain⟨sa,sc,rfl,-,-,-,-⟩:=ho';exact⟨sa,sc,rfl,by have:=rw_own ho;rw[List.length_map]at this;exact this,hW.out.on hbx hb'⟩
 have CO:Hid (∀(y:List UInt8×Ii) W,y∈T->Hid (Fb bx ap aq w W)->Calls Tryz.prog 105 #[pz p,sd y.1] W fun e w'=>e=.returned (.tuple #[.agg #[ui y.2.c,ui y.2.n,uw y.2.sp,ui y.2.sl,uw y.2.mp,ui y.2.ml,sd y.2.prim,sd y.1,sd y.2.val,.bool y.2.dead],.bool true])/\Hid (Below W.heap.size W w')):=fun y W hy hW=>by refine(of19 y.1 (HT.out W hW.out) hr).mono ?_;rintro e w' ⟨rfl,hb'⟩;rw[(getF_mem hr.ok.srt).2 hy];exact⟨rfl,hb'⟩
 have CL:Hid (∀mp ml W,Calls Tryz.prog 87 #[.agg #[uw ap,ui aq],.agg #[uw mp,ui ml]] W fun e w'=>e=.returned (.bool (lessB ap aq mp ml))/\Below W.heap.size W w'):=fun mp ml W=>lessP ap aq mp ml W;have CA:Hid (∀c n W,Hid (Fb bx ap aq w W)->Calls Tryz.prog 203 #[.slice va but.length vc,.agg #[ui c,ui n]] W fun e w'=>e=.returned (.bool (but.contains (c,n)))/\Below W.heap.size W w'):=fun c n W hW=>contains43 w.heap.size but _ c n W (RwAt.on hv (by rw[hbx];exact hW.out.bel)) (by rw[hbx];exact Nat.le_trans (Nat.le_of_eq hbx.symm) hW.out.bel.size);clear h hr hv hl;go_enter Tryz.func158,Tryz.ntmps158;go_wp2_with fail;obtain⟨W0,hW0⟩:=xj ((w.alloc (.cells #[uw ap,ui aq] 28)).alloc (.cells #[ui 0,ui 0,uw 0,ui 0,uw 0,ui 0,su,su,su,.bool false] 69));rw[hW0]at HX|-;clear hW0 hbx;go_loopw [1] (fun f wr=>∃(m:Nat) (lw:List UInt8),f=sd lw/\rngT lw hi T=R.drop m/\(R.take m).find? q=none/\Fb bx ap aq w wr) (fun f _=>leftT hi T f)
 case atStart=>exact⟨0,lo,rfl,HR0.out,rfl,HX.out⟩
 case round=>
  obtain⟨m,lw,rfl,hrng,hno,hfb⟩:=hrel;have HF:Hid (Fb bx ap aq w wr):=hfb;have HRng:Hid (rngT lw hi T=R.drop m):=hrng;have HNo:Hid ((R.take m).find? q=none):=hno;have HNext:Hid (¬((R.drop m).take 32).length<32->rngT ((((R.drop m).take 32).getD 31 di).1++[0]) hi T=R.drop (m+32)):=HNx.out lw m hrng;have HLf:Hid (leftT hi T (sd lw)=(R.drop m).length):=by show _=_;rw[leftT_bs,hrng]
  have d0:=(HT.out wr hfb).cells.1;have CKK:Hid (1=1->_):=fun _=>CK.out lw m wr HF hrng;clear hrng hno hfb HX HR0 CK HNx;go_wp2_with fail;refine(CKK.out (by trivial)).mono ?_;rintro e w2 ⟨ao,cap,rfl,HK⟩;have HQm:Hid (∀y∈(R.drop m).take 32,y∈T):=fun y hy=>HMem.out y (List.mem_of_mem_drop (List.mem_of_mem_take hy));have HFound:Hid (∀j,j<((R.drop m).take 32).length->(((R.drop m).take 32).take j).find? q=none->q (((R.drop m).take 32).getD j di)=true->R.find? q=some (((R.drop m).take 32).getD j di)):=fun j hj h1 h2=>part_found HNo.out hj h1 h2;have HAll:Hid ((((R.drop m).take 32).take ((R.drop m).take 32).length).find? q=none->(((R.drop m).take 32).length<32->R.find? q=none)/\(R.take (m+32)).find? q=none):=fun h1=>part_none HNo.out (by rw[List.take_length]at h1;exact h1);have HSz:Hid (((R.drop m).take 32).length<=32/\(¬((R.drop m).take 32).length<32->(R.drop (m+32)).length<(R.drop m).length)):=by rw[List.length_take];refine⟨by omega,fun h1=>?_⟩;rw[List.length_drop,List.length_drop]at*;omega
  clear CKK d0 HF;generalize hQ:(R.drop m).take 32=Q at*;clear hQ;rw[HY.out]at HFound HAll;go_wp2_with fail;go_loopw [29] (fun i wq=>∃j:Nat,j<=Q.length/\i=iw j/\(Q.take j).find? q=none/\Fb bx ap aq w wq/\Below w2.heap.size w2 wq) (fun i _=>Q.length-(intOf i).toNat)
  case atStart=>exact⟨0,Nat.zero_le _,rfl,rfl,HK.out.2,Below.refl _ _⟩
  case round=>
   obtain⟨j,hj,rfl,hnj,hfj,hbj⟩:=hrel;have HFj:Hid _:=hfj;have HBj:Hid _:=hbj;have HNj:Hid _:=hnj;have hq32:Q.length<=32:=HSz.out.1;by_cases hjl:j<Q.length
   ·obtain⟨b,off,rfl,e0⟩:=ks_el (RwAt.on HK.out.1 hbj) (i:=j) (by rw[List.length_map];exact hjl);rw[show(Q.map (·.1)).getD j []=(Q.getD j di).1 from by simp[List.getD,hjl]]at e0;have hjl':(j:Int)<Q.length:=by omega
    have HJ:Hid (j+1<=Q.length):=hjl;have hQj:=HQ.out (Q.getD j di);have HFd:Hid (q (Q.getD j di)=true->Y=some (Q.getD j di)):=HFound.out j hjl hnj;have HGo:Hid (q (Q.getD j di)=false->(Q.take (j+1)).find? q=none):=fun h1=>find_snoc hjl hnj h1;have CX:Hid (1=1->_):=fun _=>CO.out (Q.getD j di) wr (HQm.out _ (getD_memT hjl)) HFj;clear hnj hfj hbj HFound HAll HSz HNext HNo HLf HRng;generalize Q.getD j di=x at*;obtain⟨k,s⟩:=x;dsimp only at e0 hQj CX;go_wp2_with fail;refine(CX.out (by trivial)).mono ?_;rintro e w3 ⟨rfl,hb3⟩;obtain⟨Wa,hWa⟩:=xj (w3.alloc (.cells #[ui s.c,ui s.n,uw s.sp,ui s.sl,uw s.mp,ui s.ml,sd s.prim,sd k,sd s.val,.bool s.dead] 69));have hia:InAt Wa w3.heap.size 0 (k,s):=by rw[<-hWa];exact in_new w3 k s
    have hba:Below wr.heap.size wr Wa:=by rw[<-hWa];exact hb3.out.alloc hb3.out.size _
    have HFa:Hid (Fb bx ap aq w Wa):=HFj.out.on HBX.out hba;have HBa:Hid (Below w2.heap.size w2 Wa):=HBj.out.trans (hba.mono HBj.out.size);obtain⟨ba,hbaq⟩:=xj w3.heap.size;rw[hbaq]at hia;have HIa:Hid (InAt Wa ba 0 (k,s)):=hia;obtain⟨i0,i1,i2,i3,i4,i5,i6,i7,i8,i9⟩:=hia;simp only[Nat.zero_add]at i0 i1 i2 i3 i4 i5 i6 i7 i8 i9;obtain⟨f0,f1⟩:=HFa.out.two;have CLL:Hid (1=1->_):=fun _=>CL.out s.mp s.ml Wa;obtain⟨z,hz⟩:=xj (lessB ap aq s.mp s.ml);rw[hz]at CLL hQj;clear hz hb3 hba CX HFj HBj e0;cases z with
    |true=>
     have HG:Hid ((Q.take (j+1)).find? q=none):=HGo.out (by rw[hQj];rfl);clear hQj HFd HGo;go_wp2_with fail;refine(CLL.out (by trivial)).mono ?_;rintro e w4 ⟨rfl,hb4⟩;have HF4:Hid (Fb bx ap aq w w4):=HFa.out.on HBX.out hb4;have HB4:Hid (Below w2.heap.size w2 w4):=HBa.out.trans (hb4.mono HBa.out.size);clear hb4 CLL i0 i1 i2 i3 i4 i5 i6 i7 i8 i9 f0 f1 hWa hbaq HIa HFa HBa;go_wp2_with fail;go_roundw
     case rel=>exact⟨j+1,HJ.out,by go_num,HG.out,HF4.out,HB4.out⟩
     case measure=>simp[intOf];omega
    |false=>
     go_wp2_with fail;refine(CLL.out (by trivial)).mono ?_;rintro e w4 ⟨rfl,hb4⟩;have HF4:Hid (Fb bx ap aq w w4):=HFa.out.on HBX.out hb4;have HB4:Hid (Below w2.heap.size w2 w4):=HBa.out.trans (hb4.mono HBa.out.size);have HI4:Hid (InAt w4 ba 0 (k,s)):=HIa.out.on hb4;obtain⟨g0,g1,-,-,-,-,-,-,-,-⟩:=HI4.out;simp only[Nat.zero_add]at g0 g1;have CAA:Hid (1=1->_):=fun _=>CA.out s.c s.n w4 HF4;obtain⟨z,hz⟩:=xj (but.contains (s.c,s.n));rw[hz]at CAA hQj;clear hz hb4 CLL i0 i1 i2 i3 i4 i5 i6 i7 i8 i9 f0 f1 hWa hbaq HIa HFa HBa;cases z with
     |true=>
      have HG:Hid ((Q.take (j+1)).find? q=none):=HGo.out (by rw[hQj];rfl);clear hQj HFd HGo;go_wp2_with fail;refine(CAA.out (by trivial)).mono ?_;rintro e w5 ⟨rfl,hb5⟩;have HF5:Hid (Fb bx ap aq w w5):=HF4.out.on HBX.out hb5;have HB5:Hid (Below w2.heap.size w2 w5):=HB4.out.trans (hb5.mono HB4.out.size);clear hb5 CAA g0 g1 HF4 HB4 HI4;go_wp2_with fail;go_roundw
      case rel=>exact⟨j+1,HJ.out,by go_num,HG.out,HF5.out,HB5.out⟩
      case measure=>simp[intOf];omega
     |false=>
      have hY:Y=some (k,s):=HFd.out (by rw[hQj];rfl);subst hY;clear hQj HFd HGo;go_wp2_with fail;refine(CAA.out (by trivial)).mono ?_;rintro e w5 ⟨rfl,hb5⟩;have HF5:Hid (Fb bx ap aq w w5):=HF4.out.on HBX.out hb5;have HI5:Hid (InAt w5 ba 0 (k,s)):=HI4.out.on hb5;obtain⟨i0,i1,i2,i3,i4,i5,i6,i7,i8,i9⟩:=HI5.out;simp only[Nat.zero_add]at i0 i1 i2 i3 i4 i5 i6 i7 i8 i9;have HB1:=HF5.out.b1;have zz0:=bk10 HB1;have f0:w5.frozen? ⟨bx+1,0,none⟩=false:=block_frozen HB1 0;have f1:w5.frozen? ⟨bx+1,1,none⟩=false:=block_frozen HB1 1;have f2:w5.frozen? ⟨bx+1,2,none⟩=false:=block_frozen HB1 2;have f3:w5.frozen? ⟨bx+1,3,none⟩=false:=block_frozen HB1 3;have f4:w5.frozen? ⟨bx+1,4,none⟩=false:=block_frozen HB1 4;have f5:w5.frozen? ⟨bx+1,5,none⟩=false:=block_frozen HB1 5;have f6:w5.frozen? ⟨bx+1,6,none⟩=false:=block_frozen HB1 6;have f7:w5.frozen? ⟨bx+1,7,none⟩=false:=block_frozen HB1 7;have f8:w5.frozen? ⟨bx+1,8,none⟩=false:=block_frozen HB1 8;have f9:w5.frozen? ⟨bx+1,9,none⟩=false:=block_frozen HB1 9;have HP:Hid _:=ten_set (k,s) HB1;have HBw:Hid _:=fb_put (k,s) HF5.out HBX.out;clear hb5 CAA g0 g1 HF4 HB4 HI4 HB1 HF5 HI5;go_wp2_with fail;obtain⟨g0,g1,g2,g3,g4,g5,g6,g7,g8,g9⟩:=HP.out;simp only[Nat.zero_add]at g0 g1 g2 g3 g4 g5 g6 g7 g8 g9;refine bodyPost_ret (v:=fsV (some (k,s))) (by simp[results,Tryz.results158,go_sem,g0,g1,g2,g3,g4,g5,g6,g7,g8,g9,fsV,inV]) rfl ?_;exact⟨rfl,HBw.out⟩
   ·have hjl':¬(j:Int)<Q.length:=by omega
    have hjq:j=Q.length:=by omega
    obtain⟨k1,k2⟩:=HAll.out (hjq▸hnj);clear hnj hfj hbj hj HFound;by_cases hfull:Q.length<32
    ·have hfull':(Q.length:Int)<32:=by omega
     have hY:Y=none:=k1 hfull;subst hY;have HB1:=HFj.out.b1;have zz0:=bk10 HB1;have f0:wr.frozen? ⟨bx+1,0,none⟩=false:=block_frozen HB1 0;have f1:wr.frozen? ⟨bx+1,1,none⟩=false:=block_frozen HB1 1;have f2:wr.frozen? ⟨bx+1,2,none⟩=false:=block_frozen HB1 2;have f3:wr.frozen? ⟨bx+1,3,none⟩=false:=block_frozen HB1 3;have f4:wr.frozen? ⟨bx+1,4,none⟩=false:=block_frozen HB1 4;have f5:wr.frozen? ⟨bx+1,5,none⟩=false:=block_frozen HB1 5;have f6:wr.frozen? ⟨bx+1,6,none⟩=false:=block_frozen HB1 6;have f7:wr.frozen? ⟨bx+1,7,none⟩=false:=block_frozen HB1 7;have f8:wr.frozen? ⟨bx+1,8,none⟩=false:=block_frozen HB1 8;have f9:wr.frozen? ⟨bx+1,9,none⟩=false:=block_frozen HB1 9;have HP:Hid _:=ten_set ([],zi) HB1;have HBw:Hid _:=fb_put ([],zi) HFj.out HBX.out;clear HB1 k1 k2 HNj;go_wp2_with fail;obtain⟨g0,g1,g2,g3,g4,g5,g6,g7,g8,g9⟩:=HP.out;simp only[Nat.zero_add,zi,ui,uw,sd,show bs []=⟨#[]⟩from rfl]at g0 g1 g2 g3 g4 g5 g6 g7 g8 g9;refine bodyPost_ret (v:=fsV none) (by simp[results,Tryz.results158,go_sem,g0,g1,g2,g3,g4,g5,g6,g7,g8,g9,fsV,inV,zi,ui,uw,sd,show bs []=⟨#[]⟩from rfl]) rfl ?_;exact⟨rfl,HBw.out⟩
    ·have h32:Q.length=32:=by have:=HSz.out.1;omega
     obtain⟨b,off,rfl,e0⟩:=ks_el (RwAt.on HK.out.1 HBj.out) (i:=31) (by rw[List.length_map];omega);rw[show(Q.map (·.1)).getD 31 []=(Q.getD 31 di).1 from by simp[List.getD,show 31<Q.length by omega]]at e0;have HN2:Hid (rngT ((Q.getD 31 di).1++[0]) hi T=R.drop (m+32)):=HNext.out hfull;have hkl:(Q.getD 31 di).1.length<1000:=by have:=HLen.out (Q.getD 31 di) (HQm.out _ (getD_memT (by omega)));omega
     have HK2:Hid _:=k2;have HMs:Hid ((R.drop (m+32)).length<(R.drop m).length):=HSz.out.2 hfull;have CU:Hid (1=1->_):=fun _=>above44 (Q.getD 31 di).1 wr hkl;clear k1 k2 HNj hkl hfull HNext HSz HAll HQm;generalize (Q.getD 31 di).1=k at*;have HRl:Hid (∃m' lw',Value.string (bs (k++[0]))=sd lw'/\rngT lw' hi T=R.drop m'/\(R.take m').find? q=none/\Fb bx ap aq w wr):=⟨m+32,k++[0],rfl,HN2.out,HK2.out,HFj.out⟩;have HMe:Hid (leftT hi T (.string (bs (k++[0])))<leftT hi T (sd lw)):=by show _<_;rw[leftT_bs,HN2.out,HLf.out];exact HMs.out
     obtain rfl:j=32:=by omega
     rw[h32];clear hjq hjl hjl' HN2 HK2 HMs HLf hq32;go_wp2_with fail;refine(CU.out (by trivial)).mono ?_;rintro e w5 ⟨rfl,rfl⟩;clear CU e0 h32;go_wp2_with fail;go_roundw
     case rel=>exact HRl.out
     case measure=>exact HMe.out
theorem any_keys{L:List Wr}{k:List UInt8}{m:Nat}(hm:m<=L.length):((L.take m).any fun a=>a.key==k)=true↔∃i,i<m/\(L.getD i dw).key=k:=by
 rw[List.any_eq_true];constructor
 ·rintro⟨a,ha,he⟩;obtain⟨i,hi,rfl⟩:=List.mem_take_iff_getElem.1 ha;exact⟨i,by omega,by rw[List.getD,List.getElem?_eq_getElem (by omega)];simpa using he⟩
 ·rintro⟨i,hi,he⟩;refine⟨L.getD i dw,?_,by simpa using he⟩;rw[List.getD,List.getElem?_eq_getElem (by omega)];exact List.mem_take_iff_getElem.2 ⟨i,by omega,rfl⟩
theorem WsAt.tk{B:Nat}{ao:Option Addr}{cap:Nat}{L:List Wr}{w:World}(h:WsAt B (.slice ao L.length cap) L w){m:Nat}(hm:m<=L.length):WsAt B (.slice ao m cap) (L.take m) w:=by have:=RwAt.take h hm;rw[rowC_take wrc_len]at this;unfold WsAt;rw[List.length_take,Nat.min_eq_left hm];exact this
theorem ent51:∀args w,(callFunc 156 args).run Tryz.prog w=.ok (.enter 156 args) w:=enters_of Tryz.func156 (by kernel_rfl) rfl
theorem ent31:∀args w,(callFunc 139 args).run Tryz.prog w=.ok (.enter 139 args) w:=enters_of Tryz.func139 (by kernel_rfl) rfl
theorem right24(B:Nat)(L:List Wr)(v:Value)(w:World)(h:WsAt B v L w)(hB:B<=w.heap.size):
  Calls Tryz.prog 83 #[v] w fun e w'=>e=.returned (.bool (rightW L))/\Below w.heap.size w w':=by
 obtain⟨ao,cap,rfl,hlc,hcm⟩:=h.shape;have HW:Hid (∀W,Below w.heap.size w W->WsAt w.heap.size (.slice ao L.length cap) L W):=fun W hW=>RwAt.le (h.on (hW.mono hB)) hB;have HE:Hid (∀W,Below w.heap.size w W->∀i,i<L.length->∃b off,ao=some ⟨b,off,none⟩/\WrAt W b (off+i*3) (L.getD i dw)):=fun W hW i hi=>(HW.out W hW).el hi;have HBad:Hid (∀m,m<L.length->wOk (L.getD m dw)=false->rightW L=false):=fun m hm hw=>right_bad hm hw;have HTw:Hid (∀k m,k<m->m<L.length->(L.getD k dw).key=(L.getD m dw).key->rightW L=false):=fun k m hk hm he=>right_twice hk hm he;have HEnd:Hid (RtN L L.length->rightW L=(decide (1<=L.length)&&decide (L.length<=16))):=right_end;have HSz:Hid (¬(1<=L.length/\L.length<=16)->rightW L=false):=fun hn=>by
  unfold rightW;by_cases h1:1<=L.length
  ·have h2:¬L.length<=16:=fun e=>hn ⟨h1,e⟩;simp[h2]
  ·simp[h1]
 have hL9:L.length<9223372036854775808:=by omega
 have HCap:Hid (L.length<=cap):=hlc;generalize rightW L=y at*;clear h hB hcm hlc;by_cases h1:(L.length:Int)<1
 ·have hy:y=false:=HSz.out (by omega);subst hy;go_enter Tryz.func83,Tryz.ntmps83;go_wp2_with fail;go_ret;exact⟨rfl,Below.refl _ _⟩
 by_cases h2:(16:Int)<L.length
 ·have hy:y=false:=HSz.out (by omega);subst hy;go_enter Tryz.func83,Tryz.ntmps83;go_wp2_with fail;go_ret;exact⟨rfl,Below.refl _ _⟩
 go_enter Tryz.func83,Tryz.ntmps83;go_wp2_with fail;go_loopw [15] (fun i wr=>Below w.heap.size w wr/\∃m:Nat,m<=L.length/\i=iw m/\RtN L m) (fun i _=>L.length-(intOf i).toNat)
 case atStart=>exact⟨Below.refl _ _,0,Nat.zero_le _,rfl,fun _ h=>by omega,fun _ _ _ h=>by omega⟩
 case round=>
  obtain⟨hbr,m,hm,rfl,hrt⟩:=hrel;have HBr:Hid (Below w.heap.size w wr):=hbr;have HRt:Hid (RtN L m):=hrt;by_cases hml:m<L.length
  ·obtain⟨b,off,rfl,e0,e1,e2⟩:=HE.out wr hbr m hml;have hml':(m:Int)<L.length:=by omega
   have hm0:¬(m:Int)<0:=by omega
   have hmc:(m:Int)<=cap:=by have:=HCap.out;omega
   have HQ:Hid (m+1<=L.length):=hml;have hAny:=any_keys (k:=(L.getD m dw).key) (Nat.le_of_lt hml);have HNo:Hid (wOk (L.getD m dw)=false->y=false):=HBad.out m hml;have HTt:Hid (((L.take m).any fun a=>a.key==(L.getD m dw).key)=true->y=false):=fun ht=>by obtain⟨i,hi,he⟩:=hAny.1 ht;exact HTw.out i m hi hml he
   have HNx:Hid (wOk (L.getD m dw)=true->((L.take m).any fun a=>a.key==(L.getD m dw).key)=false->RtN L (m+1)):=fun h3 h4=>HRt.out.next h3 (fun i hi he=>by rw[hAny.2 ⟨i,hi,he⟩]at h4;cases h4)
   clear hAny hrt;generalize L.getD m dw=x at*;obtain⟨Wa,hWa⟩:=xj (wr.alloc (.cells #[sd x.key,sd x.val,.bool x.dead] 67));have hxa:Wa.heap[wr.heap.size]?=some (.cells #[sd x.key,sd x.val,.bool x.dead] 67 (0,0)):=by rw[<-hWa];exact heap_alloc_new wr _
   have hba:Below w.heap.size w Wa:=by rw[<-hWa];exact hbr.alloc hbr.size _
   have a0:Wa.cell? ⟨wr.heap.size,0,none⟩=some (sd x.key):=block_cell hxa rfl;have a1:Wa.cell? ⟨wr.heap.size,1,none⟩=some (sd x.val):=block_cell hxa rfl;have a2:Wa.cell? ⟨wr.heap.size,2,none⟩=some (.bool x.dead):=block_cell hxa rfl;obtain⟨bp,hbp⟩:=xj wr.heap.size;rw[hbp]at a0 a1 a2 hxa;have CR:Hid (1=1->Calls Tryz.prog 155 #[.agg #[sd x.key,sd x.val,.bool x.dead]] Wa fun e w'=>e=.returned (.bool (wOk x))/\Hid (Below w.heap.size w w'/\w'.heap[bp]?=some (.cells #[sd x.key,sd x.val,.bool x.dead] 67 (0,0)))):=fun _=>by refine(right50 x Wa).mono ?_;rintro e w' ⟨rfl,hb'⟩;exact⟨rfl,hba.trans (hb'.mono hba.size),by rw[hb'.block _ (gsz hxa)];exact hxa⟩
   have CC:Hid (∀W,Hid (Below w.heap.size w W/\W.heap[bp]?=some (.cells #[sd x.key,sd x.val,.bool x.dead] 67 (0,0)))->Calls Tryz.prog 138 #[.slice (some ⟨b,off,none⟩) m cap,.func (.func 156) #[] #[pz bp]] W fun e w'=>e=.returned (.bool ((L.take m).any fun a=>a.key==x.key))/\Hid (Below w.heap.size w w')):=fun W hW=>by
    have hws:=(HW.out W hW.out.1).tk hm;refine(cont30 156 #[pz bp] (fun a=>a.key==x.key) (L.take m) _ W (RwAt.le hws hW.out.1.size) ent51 (fun a W2 hb2=>?_)).mono ?_
    ·exact same51 a bp x.key W2 (block_cell (by rw[hb2.block _ (gsz hW.out.2)];exact hW.out.2) rfl)
    ·rintro e w' ⟨rfl,hb'⟩;exact⟨rfl,hW.out.1.trans (hb'.mono hW.out.1.size)⟩
   clear hxa hba hbr HE HW HEnd HSz HBad HTw HRt;cases hwo:wOk x with
   |false=>
    have hy:y=false:=HNo.out hwo;subst hy;rw[hwo]at CR;clear hwo HNo HNx HTt CC;go_wp2_with fail;refine(CR.out (by trivial)).mono ?_;rintro e w1 ⟨rfl,HB1⟩;clear CR a0 a1 a2 hWa hbp e0 e1 e2;go_wp2_with fail;go_ret;exact⟨rfl,HB1.out.1⟩
   |true=>
    rw[hwo]at CR;cases han:(L.take m).any fun a=>a.key==x.key with
    |true=>
     have hy:y=false:=HTt.out han;subst hy;rw[han]at CC;clear hwo han HNo HNx HTt;go_wp2_with fail;refine(CR.out (by trivial)).mono ?_;rintro e w1 ⟨rfl,HB1⟩;clear CR a0 a1 a2 hWa hbp e0 e1 e2;go_wp2_with fail;refine(CC.out _ HB1).mono ?_;rintro e w2 ⟨rfl,HB2⟩;clear CC HB1;go_wp2_with fail;go_ret;exact⟨rfl,HB2.out⟩
    |false=>
     rw[han]at CC;have HNN:Hid (RtN L (m+1)):=HNx.out hwo han;clear hwo han HNo HNx HTt;go_wp2_with fail;refine(CR.out (by trivial)).mono ?_;rintro e w1 ⟨rfl,HB1⟩;clear CR a0 a1 a2 hWa hbp e0 e1 e2;go_wp2_with fail;refine(CC.out _ HB1).mono ?_;rintro e w2 ⟨rfl,HB2⟩;clear CC HB1;go_wp2_with fail;go_roundw
     case rel=>exact⟨HB2.out,m+1,HQ.out,by go_num,HNN.out⟩
     case measure=>simp[intOf];omega
  ·have hml':¬(m:Int)<L.length:=by omega
   have hm2:m=L.length:=by omega
   have hy:y=true:=by have:=HEnd.out (hm2▸hrt);rw[this];simp;omega
   subst hy;clear hbr hrt hm2;go_wp2_with fail;go_ret;exact⟨rfl,HBr.out⟩
theorem new9(w:World):Calls Tryz.prog 29 #[] w fun e w'=>∃p M,e=.returned (pz p)/\TabAt w.heap.size p M [] w'/\Below w.heap.size w w':=by
 have hmm:=@run_makeMap Tryz.prog;have CN:Hid (1=1->Calls Tryz.prog 62 #[] w fun e w'=>∃pm,e=.returned (pz pm)/\Hid (∃t,Mp w.heap.size pm t w'/\t.toL=[]/\Below w.heap.size w w')):=fun _=>by refine(new8 w).mono ?_;rintro e w' ⟨pm,F,rfl,⟨t,hm,hl,_⟩,hb⟩;exact⟨pm,rfl,t,hm,hl,hb⟩
 have HT:Hid (∀pm w1,(∃t,Mp w.heap.size pm t w1/\t.toL=[]/\Below w.heap.size w w1)->TabAt w.heap.size (w1.alloc (.map #[] 0)).heap.size (footT (w1.alloc (.map #[] 0)).heap.size pm w1.heap.size .nil []) [] ((w1.alloc (.map #[] 0)).alloc (.cells #[pz pm,.map (some w1.heap.size)] 126))/\Below w.heap.size w ((w1.alloc (.map #[] 0)).alloc (.cells #[pz pm,.map (some w1.heap.size)] 126))):=fun pm w1=>by
  rintro⟨t,hm,hl,hb⟩;have ht:t=.nil:=by
   cases t using Tr.cas with
   |nil=>rfl
   |node b l k v x r=>simp[Tr.toL]at hl
  subst ht;have hpl:=(gsz hm.box);have b1:Below w1.heap.size w1 (w1.alloc (.map #[] 0)):=al _;have b2:Below (w1.alloc (.map #[] 0)).heap.size (w1.alloc (.map #[] 0)) ((w1.alloc (.map #[] 0)).alloc (.cells #[pz pm,.map (some w1.heap.size)] 126)):=al _;have s1:(w1.alloc (.map #[] 0)).heap.size=w1.heap.size+1:=size_al _ _;have hbb:Below w.heap.size w ((w1.alloc (.map #[] 0)).alloc (.cells #[pz pm,.map (some w1.heap.size)] 126)):=(hb.trans (b1.mono hb.size)).trans (b2.mono (by rw[s1];have:=hb.size;omega));refine⟨⟨pm,w1.heap.size,.nil,[],⟨heap_alloc_new _ _,?_,?_,by simp,?_⟩,Rel.nil,rfl⟩,hbb⟩
  ·exact(hm.kept (Kept.of_below (F:=fun _=>False) b1) (fun h=>h) (fun _ _ h=>h)).kept (Kept.of_below (F:=fun _=>False) b2) (fun h=>h) (fun _ _ h=>h)
  ·exact(GmAt.new w1).kept (Kept.of_below (F:=fun _=>False) b2) (fun h=>h)
  ·refine⟨by omega,by omega,by omega,by simp[Tr.blocks],by simp[Tr.blocks],?_,hb.size⟩;rw[s1];have:=hb.size;omega
 go_enter Tryz.func29,Tryz.ntmps29;go_wp2_with fail;refine(CN.out (by trivial)).mono ?_;rintro e w1 ⟨pm,rfl,HM⟩;obtain⟨h1,h2⟩:=HT.out pm w1 HM.out;have HX:Hid _:=And.intro h1 h2;clear CN HT HM h1 h2;rw[size_al]at HX;go_wp2_with fail;go_ret;exact⟨_,_,rfl,HX.out⟩
theorem lay31{B p pm hb:Nat}{t:Tr}{m:Mm}{T:Tb}{w:World}(x:Wr)(b6:Nat)(h:Tx B p pm hb t m w)(hr:Rel t.toL m T)(h6:w.cell? ⟨b6,0,none⟩=some (pz p)):Calls Tryz.prog 139 #[.agg #[sd x.key,sd x.val,.bool x.dead],pz b6] w fun e w'=>e=.returned (.bool (getF x.key T).isSome)/\Below w.heap.size w w':=by
 obtain⟨W0,hW0⟩:=xj (w.alloc (.cells #[sd x.key,sd x.val,.bool x.dead] 67));have hb0:Below w.heap.size w W0:=by rw[<-hW0];exact al _
 have hx0:W0.heap[w.heap.size]?=some (.cells #[sd x.key,sd x.val,.bool x.dead] 67 (0,0)):=by rw[<-hW0];exact heap_alloc_new w _
 have z0:W0.cell? ⟨w.heap.size,0,none⟩=some (sd x.key):=block_cell hx0 rfl;have y0:W0.cell? ⟨b6,0,none⟩=some (pz p):=by rw[hb0.cell (World.block_lt_of_cell? _ _ h6)];exact h6
 have CC:Hid (1=1->Calls Tryz.prog 140 #[pz p,sd x.key] W0 fun e w'=>e=.returned (.bool (getF x.key T).isSome)/\Hid (Below w.heap.size w w')):=fun _=>by refine(claimed32 x.key (h.on hb0) hr).mono ?_;rintro e w' ⟨rfl,hb'⟩;exact⟨rfl,hb0.trans (hb'.mono hb0.size)⟩
 clear h hr h6 hb0 hx0;generalize (getF x.key T).isSome=z at*;go_enter Tryz.func139,Tryz.ntmps139;go_wp2_with fail;refine(CC.out (by trivial)).mono ?_;rintro e w1 ⟨rfl,HB⟩;clear CC z0 y0 hW0;go_wp2_with fail;go_ret;exact⟨rfl,HB.out⟩
theorem Tx.row{B p pm hb:Nat}{t:Tr}{m:Mm}{T:Tb}{w:World}(h:Tx B p pm hb t m w)(hr:Rel t.toL m T)(c n:Int):RwAt w.heap.size 1 (svV ((getM (c,n) m).getD zt)) ((byF c n T).map (·.1)).length (kc ((byF c n T).map (·.1))) w:=by
 rw[<-hr.kl c n];cases hg:getM (c,n) m with
 |some tm=>exact(h.rows _ (get_mem hg)).row
 |none=>exact RwAt.nil _ _ _
theorem by_in{T:Tb}(hs:Srt T)(c n:Int):∀k∈(byF c n T).map (·.1),(getF k T).isSome=true:=fun k hk=>by obtain⟨y,hy,rfl⟩:=List.mem_map.1 hk;rw[(getF_mem hs).2 (List.mem_filter.1 hy).1];rfl
theorem run_keys(a c:Int)(b d:Int)(s:ByteArray)(ao:Option Addr)(l cap:Nat)(w:World):(Instr.field 242 (.agg #[uw a,ui b,uw c,ui d,.string s,.slice ao l cap]) 3).run Tryz.prog w=.ok (.slice ao l cap) w:=by simp[Instr.field,go_sem,asAgg]
theorem by21{B p pm hb:Nat}{t:Tr}{m:Mm}{T:Tb}{w:World}(c n:Int)(h:Tx B p pm hb t m w)(hr:Rel t.toL m T)(hl:T.length<10000):Calls Tryz.prog 144 #[pz p,.agg #[ui c,ui n]] w fun e w'=>∃v',e=.returned v'/\w'.ownsRow w.heap.size 69 10 v' (byF c n T).length (rowC inc (byF c n T))/\Below w.heap.size w w':=by
 obtain⟨W0,hW0⟩:=xj (w.alloc (.cells #[ui c,ui n] 26));have hb0:Below w.heap.size w W0:=by rw[<-hW0];exact al _
 have hx0:W0.heap[w.heap.size]?=some (.cells #[ui c,ui n] 26 (0,0)):=by rw[<-hW0];exact heap_alloc_new w _
 have z0:ce W0 w.heap.size 0 (ui c):=block_cell hx0 rfl;have z1:ce W0 w.heap.size 1 (ui n):=block_cell hx0 rfl;have h0:=h.on hb0;obtain⟨-,c1⟩:=h0.cells;obtain⟨tm,htm⟩:=xj ((getM (c,n) m).getD zt);have HQ:∀W,Tx B p pm hb t m W->(Instr.lookup 124 (.map (some hb)) (.agg #[ui c,ui n]) false).run Tryz.prog W=.ok (tmV tm) W:=fun W hW=>by have:=run_look hW.gm (c,n);rw[htm]at this;exact this
 have q0:=HQ W0 h0;have q1:=HQ W0.drew (h0.on (Below.refl _ _).drew);simp only[tmV]at q0 q1;have CI:Hid (∀W,Sw W0 W->Calls Tryz.prog 49 #[pz p,.slice tm.sv.1 tm.sv.2.1 tm.sv.2.2] W fun e w'=>∃ao cap,e=.returned (.slice ao (byF c n T).length cap)/\Hid (w'.ownsRow w.heap.size 69 10 (.slice ao (byF c n T).length cap) (byF c n T).length (rowC inc (byF c n T))/\Below w.heap.size w w')):=fun W hs=>by have hW:=h0.on (hs.below _);have hrow:=hW.row hr c n;rw[htm]at hrow;refine(intents48 _ _ hW hr hrow (by_in hr.ok.srt c n) (by rw[List.length_map];have:=len_by c n T;omega)).mono ?_;rintro e w' ⟨v',rfl,ho,hb'⟩;rw[int_by hr.ok.srt]at ho;obtain⟨sa,sc,rfl,-,-,-,-⟩:=rw_own ho;have hbw:Below w.heap.size w W:=hb0.trans ((hs.below _).mono hb0.size);exact⟨sa,sc,rfl,own_le ho hbw.size,hbw.trans (hb'.mono hbw.size)⟩
 clear h h0 hr hb0 hx0 hl HQ htm;generalize (byF c n T)=R at*;obtain⟨bx,hbx⟩:=xj w.heap.size;rw[hbx]at z0 z1;have HBX:Hid (w.heap.size=bx):=hbx;have qf:=run_keys tm.sp tm.mp tm.sl tm.ml (bs tm.prim) tm.sv.1 tm.sv.2.1 tm.sv.2.2;go_enter Tryz.func144,Tryz.ntmps144;go_wp2_with fail;go_region_with (go_at_call 49;refine(CI.out _ ?_).mono ?_;exact Sw.drew (Sw.refl _);rintro e w1 ⟨ao,cap,rfl,HE⟩)
 all_goals
  go_wp2_with fail;go_ret;exact⟨_,rfl,by rw[<-HBX.out];exact HE.out⟩
theorem all23{B p pm hb:Nat}{t:Tr}{m:Mm}{T:Tb}{w:World}(h:Tx B p pm hb t m w)(hr:Rel t.toL m T)(hl:T.length<10000):Calls Tryz.prog 25 #[pz p] w fun e w'=>∃v',e=.returned v'/\w'.ownsRow w.heap.size 69 10 v' T.length (rowC inc T)/\Below w.heap.size w w':=by
 obtain⟨c0,-⟩:=h.cells;have hlen:=hr.len;have CL:Hid (∀W,Sw w W->Calls Tryz.prog 51 #[pz pm] W fun e w'=>e=.returned (iw T.length)/\ce w' p 0 (pz pm)/\Hid (Below w.heap.size w w')):=fun W hs=>by have hW:=h.on (hs.below _);refine(len15 hW.map).mono ?_;rintro e w' ⟨rfl,hb'⟩;rw[hlen];have hbw:Below w.heap.size w w':=(hs.below _).trans (hb'.mono (hs.below w.heap.size).size);exact⟨rfl,(h.on hbw).cells.1,hbw⟩
 have CK:Hid (∀W,Hid (Below w.heap.size w W)->Calls Tryz.prog 50 #[pz pm,su,su,iw T.length] W fun e w'=>∃ao cap,e=.returned (.slice ao T.length cap)/\Hid (RwAt w'.heap.size 1 (.slice ao T.length cap) T.length (kc (T.map (·.1))) w'/\Below w.heap.size w w')):=fun W hs=>by
  have hW:=h.on hs.out;refine(keys17 [] [] T.length hW.map (by omega)).mono ?_;rintro e w' ⟨v',rfl,ho,hb'⟩;have hk:keysF [] [] (T.length:Int) t.toL=T.map (·.1):=by unfold keysF;rw[range_all,<-hr.keys,List.take_of_length_le (by simp)]
  rw[hk]at ho;have ho':=rw_own ho;rw[List.length_map]at ho';obtain⟨sa,sc,rfl,-,-,-,-⟩:=ho';exact⟨sa,sc,rfl,by have:=rw_own ho;rw[List.length_map]at this;exact this,hs.out.trans (hb'.mono hs.out.size)⟩
 have CI:Hid (∀W ao cap,Hid (RwAt W.heap.size 1 (.slice ao T.length cap) T.length (kc (T.map (·.1))) W/\Below w.heap.size w W)->Calls Tryz.prog 49 #[pz p,.slice ao T.length cap] W fun e w'=>∃ao cap,e=.returned (.slice ao T.length cap)/\Hid (w'.ownsRow w.heap.size 69 10 (.slice ao T.length cap) T.length (rowC inc T)/\Below w.heap.size w w')):=fun W ao cap hs=>by have hW:=h.on hs.out.2;refine(intents48 (T.map (·.1)) _ hW hr (by rw[List.length_map];exact hs.out.1) (fun k hk=>by rw[<-keys_get hr.ok.srt];exact hk) (by rw[List.length_map];omega)).mono ?_;rintro e w' ⟨v',rfl,ho,hb'⟩;rw[int_all hr.ok.srt]at ho;obtain⟨sa,sc,rfl,-,-,-,-⟩:=rw_own ho;exact⟨sa,sc,rfl,own_le ho hs.out.2.size,hs.out.2.trans (hb'.mono hs.out.2.size)⟩
 have hl':(T.length:Int)<10000:=by omega
 clear h hr hlen hl;generalize T.length=N at*;go_enter Tryz.func25,Tryz.ntmps25;go_wp2_with fail;go_region_with (first
  |(go_at_call 51;refine(CL.out _ ?_).mono ?_;exact Sw.drew (Sw.refl _);rintro e w1 ⟨rfl,d0,HE⟩)
  |(go_at_call 50;refine(CK.out _ HE).mono ?_;rintro e w2 ⟨ao,cap,rfl,HF⟩)
  |(go_at_call 49;refine(CI.out _ _ _ HF).mono ?_;rintro e w3 ⟨ao',cap',rfl,HG⟩))
 all_goals
  go_wp2_with fail;go_ret;exact⟨_,rfl,HG.out⟩
structure Cs(B p pm hb:Nat)(t0:Tr)(m:Mm)(w:World)(bx:Nat)(c n:Int)(v:Value)(X:Tb)(L:Kv Cv)(t:Tr)(W:World):Prop where
 tx:Tx B p pm hb t m W
 el:t.toL=L
 sub:∀i,foot8 pm t i->foot8 pm t0 i\/w.heap.size<=i
 kp:Kept (footT p pm hb t0 m) w W
 row:W.ownsRow w.heap.size 69 10 v X.length (rowC inc X)
 rn:∀k,v.ownBlock=some k->¬foot8 pm t k/\w.heap.size<=k/\k<W.heap.size/\k≠p/\k≠hb
 b0:W.heap[bx]?=some (.cells #[ui c,ui n] 26 (0,0))
 bn:¬foot8 pm t bx/\w.heap.size<=bx/\bx≠p/\bx≠hb
theorem Cs.on{B p pm hb:Nat}{t0 t:Tr}{m:Mm}{w W W':World}{bx:Nat}{c n:Int}{v:Value}{X:Tb}{L:Kv Cv}(h:Cs B p pm hb t0 m w bx c n v X L t W)(hb':Below W.heap.size W W'):Cs B p pm hb t0 m w bx c n v X L t W':=
 ⟨h.tx.on hb',h.el,h.sub,h.kp.trans (Kept.of_below (F:=fun _=>False) hb') (fun _ e=>e.elim),own_on h.row hb',fun k hk=>by obtain⟨a,b,c,d⟩:=h.rn k hk;exact⟨a,b,Nat.lt_of_lt_of_le c hb'.size,d⟩,by rw[hb'.block _ (gsz h.b0)];exact h.b0,h.bn⟩
theorem cs_cut{B p pm hb:Nat}{t0 t:Tr}{m:Mm}{w W:World}{bx:Nat}{c n:Int}{v:Value}{X:Tb}{L:Kv Cv}(h:Cs B p pm hb t0 m w bx c n v X L t W)(hl:L.length<100000)(k:List UInt8):Calls Tryz.prog 145 #[pz pm,sd k] W fun e w'=>∃z,e=.returned (.bool z)/\∃t',Cs B p pm hb t0 m w bx c n v X (cutF k L) t' w':=by
 refine(cut11 k h.tx.map (by rw[h.el];exact hl)).mono ?_;rintro e w' ⟨rfl,hp⟩;obtain⟨t',he,ht,hk,hn⟩:=h.tx.claims hp;rw[h.el]at he;have hs:=h.kp.size;have new:∀k,k<W.heap.size->¬foot8 pm t k->¬foot8 pm t' k:=fun k h1 h2 h3=>by
  rcases hn k h3 with e|e
  ·exact h2 e
  ·omega
 have hbl:=(gsz h.b0);refine⟨_,rfl,t',ht,he,fun i hi=>?_,h.kp.trans hk (fun i hi=>?_),own_kept h.row hk (fun k e=>(h.rn k e).1),fun k e=>?_,?_,new bx hbl h.bn.1,h.bn.2⟩
 ·rcases hn i hi with e|e
  ·exact h.sub i e
  ·exact .inr (Nat.le_trans hs e)
 ·rcases h.sub i hi with e|e
  ·exact .inl (.inr (.inr (.inl e)))
  ·exact .inr e
 ·obtain⟨a1,a2,a3,a4⟩:=h.rn k e;exact⟨new k a3 a1,a2,Nat.lt_of_lt_of_le a3 hk.size,a4⟩
 ·rw[hk.block bx hbl h.bn.1];exact h.b0
theorem footT_sub{p pm hb:Nat}{t0 t:Tr}{m m':Mm}{S:Nat}(h:∀i,foot8 pm t i->foot8 pm t0 i\/S<=i)(hm:∀x∈m',∀i,(svV x.2).ownBlock=some i->(∃y∈m,(svV y.2).ownBlock=some i)\/S<=i):∀i,footT p pm hb t m' i->footT p pm hb t0 m i\/S<=i:=fun i hi=>by
 rcases hi with e|e|e|⟨x,hx,e⟩
 ·exact .inl (.inl e)
 ·exact .inl (.inr (.inl e))
 ·rcases h i e with e|e
  ·exact .inl (.inr (.inr (.inl e)))
  ·exact .inr e
 ·rcases hm x hx i e with e|e
  ·exact .inl (.inr (.inr (.inr e)))
  ·exact .inr e
theorem cs_end{B p pm hb:Nat}{t0 t:Tr}{m m':Mm}{w W W':World}{bx:Nat}{c n:Int}{v:Value}{X T':Tb}{L:Kv Cv}(h:Cs B p pm hb t0 m w bx c n v X L t W)(hg:GmAt hb m' W')(hk:Kept (fun i=>i=hb) W W')(hm:∀x∈m',x∈m)(hr:Rel L m' T'):
  IsAt W'.heap.size v X W'/\(∀k,v.ownBlock=some k->w.heap.size<=k)/\∃M',TabAt B p M' T' W'/\Kept (footT p pm hb t0 m) w W'/\∀i,M' i->footT p pm hb t0 m i\/w.heap.size<=i:=by
 refine⟨rw_own (own_kept h.row hk (fun k e=>(h.rn k e).2.2.2.2)),fun k e=>(h.rn k e).2.1,footT p pm hb t m',⟨pm,hb,t,m',h.tx.terms hg hk (fun x hx=>.inl ⟨x,hm x hx,rfl,rfl⟩),by rw[h.el];exact hr,rfl⟩,h.kp.trans hk (fun i e=>.inl (.inr (.inl e))),footT_sub h.sub (fun x hx i e=>.inl ⟨x,hm x hx,e⟩)⟩
theorem cut13{B p pm hb:Nat}{t:Tr}{m:Mm}{T:Tb}{w:World}(c n:Int)(h:Tx B p pm hb t m w)(hr:Rel t.toL m T)(hl:T.length<10000):Calls Tryz.prog 73 #[pz p,.agg #[ui c,ui n]] w fun e w'=>∃v',e=.returned v'/\IsAt w'.heap.size v' (byF c n T) w'/\(∀k,v'.ownBlock=some k->w.heap.size<=k)/\∃M',TabAt B p M' (restF c n T) w'/\Kept (footT p pm hb t m) w w'/\∀i,M' i->footT p pm hb t m i\/w.heap.size<=i:=by
 obtain⟨W0,hW0⟩:=xj (w.alloc (.cells #[ui c,ui n] 26));have hb0:Below w.heap.size w W0:=by rw[<-hW0];exact al _
 have hx0:W0.heap[w.heap.size]?=some (.cells #[ui c,ui n] 26 (0,0)):=by rw[<-hW0];exact heap_alloc_new w _
 have z0:ce W0 w.heap.size 0 (ui c):=block_cell hx0 rfl;have z1:ce W0 w.heap.size 1 (ui n):=block_cell hx0 rfl;obtain⟨bx,hbx⟩:=xj w.heap.size;have hll:t.toL.length<10000:=by rw[hr.len];exact hl
 have CB:Hid (1=1->Calls Tryz.prog 144 #[pz p,.agg #[ui c,ui n]] W0 fun e w'=>∃ao cap,e=.returned (.slice ao (byF c n T).length cap)/\Hid (Cs B p pm hb t m w bx c n (.slice ao (byF c n T).length cap) (byF c n T) t.toL t w')):=fun _=>by
  have h0:=h.on hb0;refine(by21 c n h0 hr hl).mono ?_;rintro e w' ⟨v',rfl,ho,hb'⟩;obtain⟨sa,sc,rfl,-,-,-,-⟩:=rw_own ho;have hbw:Below w.heap.size w w':=hb0.trans (hb'.mono hb0.size);have hf:∀i,footT p pm hb t m i->i<w.heap.size:=fun i hi=>(h.lt hi).2;refine⟨sa,sc,rfl,h.on hbw,rfl,fun i hi=>.inl hi,Kept.of_below hbw,own_le ho hb0.size,fun k e=>?_,?_,?_⟩
  ·have hk:=World.ownsRow.lt ho k e;have hk1:w.heap.size<=k:=Nat.le_trans hb0.size hk.1;exact⟨fun e2=>by have:=hf k (.inr (.inr (.inl e2)));omega,hk1,hk.2,fun e2=>by have:=hf k (.inl e2);omega,fun e2=>by have:=hf k (.inr (.inl e2));omega⟩
  ·rw[<-hbx,hb'.block _ (gsz hx0)];exact hx0
  ·rw[<-hbx];exact⟨fun e2=>by have:=hf _ (.inr (.inr (.inl e2)));omega,Nat.le_refl _,fun e2=>by have:=hf _ (.inl e2);omega,fun e2=>by have:=hf _ (.inr (.inl e2));omega⟩
 have HR:Hid (Rel t.toL m T):=hr;have HEnd:Hid (∀v t' W,Cs B p pm hb t m w bx c n v (byF c n T) (cutsF ((byF c n T).map (·.1)) t.toL) t' W->(0<(byF c n T).length->∃w',(∀ty:TypeId,(Builtin.delete_ #[124,26] ty #[.map (some hb),.agg #[ui c,ui n]]).run Tryz.prog W.drew=.ok (.tuple #[]) w')/\(IsAt w'.heap.size v (byF c n T) w'/\(∀k,v.ownBlock=some k->w.heap.size<=k)/\∃M',TabAt B p M' (restF c n T) w'/\Kept (footT p pm hb t m) w w'/\∀i,M' i->footT p pm hb t m i\/w.heap.size<=i))/\(¬0<(byF c n T).length->(IsAt W.heap.size v (byF c n T) W/\(∀k,v.ownBlock=some k->w.heap.size<=k)/\∃M',TabAt B p M' (restF c n T) W/\Kept (footT p pm hb t m) w W/\∀i,M' i->footT p pm hb t m i\/w.heap.size<=i))):=fun v t' W hc=>by
  refine⟨fun h0=>?_,fun h0=>?_⟩
  ·have hc':=hc.on (Below.refl W.heap.size W).drew;obtain⟨w',hrun,hg,hk⟩:=run_del hc'.tx.gm (c,n);exact⟨w',hrun,cs_end hc' hg hk (fun x hx=>(del_sub m).subset hx) (hr.cut c n)⟩
  ·have hnil:byF c n T=[]:=List.length_eq_zero_iff.1 (by omega);have hrel:Rel (cutsF ((byF c n T).map (·.1)) t.toL) m (restF c n T):=by rw[rest_none hnil,hnil];exact hr
   exact cs_end hc hc.tx.gm (Kept.refl _ _) (fun x hx=>hx) hrel
 have hXl:(byF c n T).length<10000:=by have:=len_by c n T;omega
 have HLL:Hid (t.toL.length<10000):=hll;rw[hbx]at z0 z1;have HBX:Hid (w.heap.size=bx):=hbx;clear h hr hb0 hx0 hl hll;generalize hX:byF c n T=X at*;generalize restF c n T=T' at*;generalize hF:footT p pm hb t m=F at*;clear hX hF;generalize ht0:t.toL=L at*;clear ht0;go_enter Tryz.func73,Tryz.ntmps73;go_wp2_with fail;refine(CB.out (by trivial)).mono ?_;rintro e w1 ⟨ao,cap,rfl,HC⟩;clear CB z0 z1 hW0 hbx;go_wp2_with fail;go_loopw [13] (fun i wr=>∃q:Nat,q<=X.length/\i=iw q/\∃t',Cs B p pm hb t m w bx c n (.slice ao X.length cap) X (cutsF ((X.take q).map (·.1)) L) t' wr) (fun i _=>X.length-(intOf i).toNat)
 case atStart=>exact⟨0,Nat.zero_le _,rfl,t,HC.out⟩
 case round=>
  obtain⟨q,hq,rfl,t',hcs⟩:=hrel;have HS:Hid (Cs B p pm hb t m w bx c n (.slice ao X.length cap) X (cutsF ((X.take q).map (·.1)) L) t' wr):=hcs;clear hcs HC;by_cases hml:q<X.length
  ·obtain⟨b,off,rfl,e0,e1,e2,e3,e4,e5,e6,e7,e8,e9⟩:=IsAt.el (rw_own HS.out.row) hml;have hml':(q:Int)<X.length:=by omega
   have HQ:Hid (q+1<=X.length):=hml;have hsn:(X.take (q+1)).map (·.1)=(X.take q).map (·.1)++[(X.getD q di).1]:=by rw[ttk_snoc hml];simp
   have HSn:Hid (cutsF ((X.take (q+1)).map (·.1)) L=cutF (X.getD q di).1 (cutsF ((X.take q).map (·.1)) L)):=by show _=_;rw[hsn,cuts_snoc]
   have d0:=HS.out.tx.cells.1;clear hsn hq;generalize X.getD q di=x at*;obtain⟨a,s⟩:=x;dsimp only at e0 e1 e2 e3 e4 e5 e6 e7 e8 e9 HSn;obtain⟨Wa,hWa⟩:=xj (wr.alloc (.cells #[ui s.c,ui s.n,uw s.sp,ui s.sl,uw s.mp,ui s.ml,sd s.prim,sd a,sd s.val,.bool s.dead] 69));have hxa:Wa.heap[wr.heap.size]?=some (.cells #[ui s.c,ui s.n,uw s.sp,ui s.sl,uw s.mp,ui s.ml,sd s.prim,sd a,sd s.val,.bool s.dead] 69 (0,0)):=by rw[<-hWa];exact heap_alloc_new wr _
   have hba:Below wr.heap.size wr Wa:=by rw[<-hWa];exact al _
   have ka:ce Wa wr.heap.size 7 (sd a):=block_cell hxa rfl;have da:ce Wa p 0 (pz pm):=(HS.out.tx.on hba).cells.1;have CC:Hid (∀W,Sw Wa W->Calls Tryz.prog 145 #[pz pm,sd a] W fun e w'=>∃z,e=.returned (.bool z)/\Hid (∃t',Cs B p pm hb t m w bx c n (.slice (some ⟨b,off,none⟩) X.length cap) X (cutsF ((X.take (q+1)).map (·.1)) L) t' w')):=fun W hs=>by have hw:=(HS.out.on hba).on (hs.below _);refine(cs_cut hw (by have:=cuts_le ((X.take q).map (·.1)) L;have:=HLL.out;omega) a).mono ?_;rintro e w' ⟨z,rfl,t2,h2⟩;exact⟨z,rfl,t2,by rw[HSn.out];exact h2⟩
   obtain⟨by2,hby2⟩:=xj wr.heap.size;rw[hby2]at ka;clear hxa hba HS HSn;go_wp2_with fail;go_region_with (go_at_call 145;refine(CC.out _ ?_).mono ?_;exact Sw.drew (Sw.refl _);rintro e w2 ⟨z,rfl,HE⟩)
   all_goals
    clear CC d0 da ka hWa hby2 e0 e1 e2 e3 e4 e5 e6 e7 e8 e9;go_wp2_with fail;go_roundw
    case rel=>exact⟨q+1,HQ.out,by go_num,HE.out⟩
    case measure=>simp[intOf];omega
  ·have hml':¬(q:Int)<X.length:=by omega
   have hqx:X.take q=X:=List.take_of_length_le (by omega);rw[hqx]at HS;obtain⟨g1,g2⟩:=HEnd.out _ _ _ HS.out;by_cases hX0:0<X.length
   ·have hX0':(0:Int)<X.length:=by omega
    obtain⟨w',hrun,hend⟩:=g1 hX0;have HEn:Hid _:=hend;have d1:=HS.out.tx.cells.2;obtain⟨y0,y1⟩:=bk2 HS.out.b0;clear g1 g2 hend HS HEnd hqx hq hml;go_wp2_with fail;go_region;go_wp2_with fail;go_ret;exact⟨_,rfl,HEn.out⟩
   ·have hX0':¬(0:Int)<X.length:=by omega
    have HEn:Hid _:=g2 hX0;clear g1 g2 HS HEnd hqx hq hml;go_wp2_with fail;go_ret;exact⟨_,rfl,HEn.out⟩
end Go.Proofs.YtdplfgcoaddbdaaGreat.Lat
