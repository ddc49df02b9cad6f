import Derived.Test.YtdplfgcoaddbdaaGreatXaz
set_option maxHeartbeats 4000000
set_option maxRecDepth 100000
set_option linter.unusedVariables false
set_option linter.unusedSimpArgs false
namespace Go.Proofs.YtdplfgcoaddbdaaGreat
open Go.RowKit
variable {SA:TyS}{TA:TyT}{BA:TyB}
variable {f:Fp}{M:Nat->Prop}{X:Sd}{a:Int}{g:Nat}{D:Drm.Dr}{w W W':World}{Lo:List (Nat×Obj)}
theorem contest194(E:Env SA TA BA)(k:List UInt8)(sp sl:Int)(h:ShAt SA TA BA f M X a g D w)(ht:X.wt<9000):
  Calls Tryz.prog 91 #[pz f.sb,sd k,.agg #[uw sp,ui sl]] w fun e w'=>e=.returned (knV (contF k sp sl X))/\Below w.heap.size w w':=by
 obtain⟨q,y,z,hq,hz,hy⟩:=of_parts k (getF k X.T);have CO:Hid (∀W,Bz w W->Calls Tryz.prog 105 #[pz f.la,sd k] W fun e w'=>e=.returned (.tuple #[.agg (inC q y),.bool z])/\Below W.heap.size W w'):=fun W hb=>by obtain⟨M9,h9,-⟩:=h.on E hb;have:=sh_iof E k h9 (wt_T ht);rw[hq]at this;exact this
 have CN:Hid (∀W,Bz w W->Calls Tryz.prog 163 #[pz f.st,sd k] W fun e w'=>e=.returned (.agg #[uw (Sto.newF (Sto.chainF k X.S)).1,ui (Sto.newF (Sto.chainF k X.S)).2])/\Below W.heap.size W w'):=fun W hb=>by obtain⟨M9,h9,-⟩:=h.on E hb;exact sh_newest E k h9 (wt_S ht)
 have CC:Hid (∀W,Bz w W->Calls Tryz.prog 164 #[pz f.st,sd k] W fun e w'=>e=.returned (iw (Sto.chainF k X.S).length)/\Below W.heap.size W w'):=fun W hb=>by obtain⟨M9,h9,-⟩:=h.on E hb;exact sh_count E k h9 (wt_S ht)
 have CL:Hid (∀W,Calls Tryz.prog 87 #[.agg #[uw sp,ui sl],.agg #[uw (Sto.newF (Sto.chainF k X.S)).1,ui (Sto.newF (Sto.chainF k X.S)).2]] W fun e w'=>e=.returned (.bool (Clk.lessB sp sl (Sto.newF (Sto.chainF k X.S)).1 (Sto.newF (Sto.chainF k X.S)).2))/\Below W.heap.size W w'):=fun W=>Clk.less17 _ _ _ _ W;have CK:Hid (∀W,Calls Tryz.prog 159 #[.agg (inC q y)] W fun e w'=>e=.returned (.agg #[iw 3,iw 0,.bool false,su,sy,ui y.c,ui y.n,uw y.sp,ui y.sl,uw 0,ui 0,sd y.prim,uw 0,ui 0])/\Below W.heap.size W w'):=fun W=>locked263 (q,y) W;have CR:Hid (∀W,Calls Tryz.prog 19 #[iw 3] W fun e w'=>e=.returned (.agg (zC 0 3 0 0))/\Below W.heap.size W w'):=fun W=>refused46 3 W;have HT:Hid (z=true->contF k sp sl X=some (lockR y)):=fun e=>by
  show contF k sp sl X=_;unfold contF;cases hg:getF k X.T with
  |none=>rw[hg]at hz;rw[hz]at e;cases e
  |some u=>rw[(hy u hg).1]
 have HF:Hid (z=false->contF k sp sl X=if Clk.lessB sp sl (Sto.newF (Sto.chainF k X.S)).1 (Sto.newF (Sto.chainF k X.S)).2 then some (kinR 10)else if 1000<=(Sto.chainF k X.S).length then some (refR 3)else none):=fun e=>by
  show contF k sp sl X=_;unfold contF;cases hg:getF k X.T with
  |none=>rfl
  |some u=>rw[hg]at hz;rw[hz]at e;cases e
 have HS:Hid (ce w f.sb 3 (pz f.la)/\ce w f.sb 2 (pz f.st)):=⟨h.cells.2.2.2.1,h.cells.2.2.1⟩;generalize contF k sp sl X=Y at*;generalize (Sto.chainF k X.S).length=cl at*;generalize Clk.lessB sp sl (Sto.newF (Sto.chainF k X.S)).1 (Sto.newF (Sto.chainF k X.S)).2=lb at*;generalize (Sto.newF (Sto.chainF k X.S)).1=n1 at*;generalize (Sto.newF (Sto.chainF k X.S)).2=n2 at*;clear h ht E hq hz hy;generalize f.sb=sb at*;generalize f.la=la at*;generalize f.st=st at*;obtain⟨b1,hb1⟩:∃b1,b1=w.heap.size+1:=⟨_,rfl⟩;have H0:Hid (Bo w [(b1,.cells (zC 0 0 0 0) 40),(w.heap.size,.cells #[uw sp,ui sl] 28)] ((w.alloc (.cells #[uw sp,ui sl] 28)).alloc (.cells (zC 0 0 0 0) 40))):=by show Bo _ _ _;have h1:=((Bo.nil w).new (.cells #[uw sp,ui sl] 28)).new (.cells (zC 0 0 0 0) 40);rw[size_al2]at h1;rw[hb1];exact h1
 have HB1:Hid (w.heap.size<=b1/\b1=w.heap.size+1):=⟨by omega,hb1⟩;obtain⟨W2,hW2⟩:=xj ((w.alloc (.cells #[uw sp,ui sl] 28)).alloc (.cells (zC 0 0 0 0) 40));rw[hW2]at H0;have SB:Hid (∀W,Bz W2 W->ce W w.heap.size 0 (uw sp)/\ce W w.heap.size 1 (ui sl)/\ce W sb 2 (pz st)/\Bz W2 W):=fun W hW=>by have h1:=H0.out.on hW;exact⟨h1.has.cell (.tail _ (.head _)) rfl,h1.has.cell (.tail _ (.head _)) rfl,(h1.bel.cell (p:=⟨sb,2,none⟩) (World.block_lt_of_cell? _ _ HS.out.2)).trans HS.out.2,hW⟩
 have ST:Hid (∀W,Bz W2 W->ce W sb 3 (pz la)):=fun W hW=>by have h1:=H0.out.on hW;exact(h1.bel.cell (p:=⟨sb,3,none⟩) (World.block_lt_of_cell? _ _ HS.out.1)).trans HS.out.1
 have SP:Hid (∀W,Bz W2 W->W.heap[b1]?=some (.cells (zC 0 0 0 0) 40 (0,0))):=fun W hW=>(H0.out.on hW).has _ (.head _);have TB:Hid (∀W,Bz W2 W->Bz w W):=fun W hW=>(H0.out.on hW).bel;have HZ:Hid (Bz W2 W2):=Below.refl _ _;have s3:=ST.out _ HZ.out;clear H0 HS ST;go_enter Tryz.func91,Tryz.ntmps91;go_wp2_with fail;rw[<-hb1];clear hW2 hb1;refine(CO.out _ (TB.out _ HZ.out)).mono ?_;rintro e w2 ⟨rfl,hb2⟩;have H2:Hid (Bz W2 w2):=HZ.out.on hb2;clear hb2 s3 CO;cases z
 ·have HE0:Hid _:=HF.out rfl;clear HF HT CK;obtain⟨W3,hW3⟩:=xj (w2.alloc (.cells (inC q y) 69));have H3:Hid (Bz W2 W3):=by rw[<-hW3];exact H2.out.al _
  go_wp2_with fail;clear hW3;obtain⟨x0,x1,s2,-⟩:=SB.out _ H3.out;go_region_held3 (fun W=>ce W w.heap.size 0 (uw sp)/\ce W w.heap.size 1 (ui sl)/\ce W sb 2 (pz st)/\Bz W2 W) (first|exact SB.out _ H3.out|exact SB.out _ H3.out.dr|exact SB.out _ H4.out|exact SB.out _ H5.out) (first
   |(go_at_call 163;refine(CN.out _ (TB.out _ H3.out.dr)).mono ?_;rintro e w4 ⟨rfl,hb4⟩;have H4:Hid (Bz W2 w4):=H3.out.dr.on hb4;clear hb4)
   |(go_at_call 87;refine(CL.out _).mono ?_;rintro e w5 ⟨rfl,hb5⟩;have H5:Hid (Bz W2 w5):=H4.out.on hb5;clear hb5))
  rename_i hHeld;clear hHeld x0 x1 s2 CN CL;cases lb
  ·have HE1:Hid (Y=if 1000<=cl then some (refR 3)else none):=HE0.out;obtain⟨-,-,s2,-⟩:=SB.out _ H5.out;go_wp2_with fail;refine(CC.out _ (TB.out _ H5.out)).mono ?_;rintro e w6 ⟨rfl,hb6⟩;have H6:Hid (Bz W2 w6):=H5.out.on hb6;clear hb6 s2 CC;by_cases hc:1000<=cl
   ·have HE:Hid (Y=some (refR 3)):=by rw[HE1.out,if_pos hc];rfl
    have hc':(1000:Int)<=cl:=by omega
    go_wp2_with fail;refine(CR.out _).mono ?_;rintro e w7 ⟨rfl,hb7⟩;have H7:Hid (Bz W2 w7):=H6.out.on hb7;clear hb7 CR;have zz0:=free14 (SP.out _ H7.out);go_wp2_with fail;refine bodyPost_ret (res14t rfl rfl rfl (set14 (SP.out _ H7.out))) rfl ?_;rw[HE.out];exact⟨rfl,bz14 (TB.out _ H7.out) HB1.out.1⟩
   ·have HE:Hid (Y=none):=by rw[HE1.out,if_neg hc];rfl
    have hc':¬(1000:Int)<=cl:=by omega
    have zz0:=free14 (SP.out _ H6.out);go_wp2_with fail;refine bodyPost_ret (res14t rfl rfl rfl (set14 (SP.out _ H6.out))) rfl ?_;rw[HE.out];exact⟨rfl,bz14 (TB.out _ H6.out) HB1.out.1⟩
  ·have HE:Hid (Y=some (kinR 10)):=HE0.out;have zz0:=free14 (SP.out _ H5.out);go_wp2_with fail;refine bodyPost_ret (res14t rfl rfl rfl (set14 (SP.out _ H5.out))) rfl ?_;rw[HE.out];exact⟨rfl,bz14 (TB.out _ H5.out) HB1.out.1⟩
 ·have HE:Hid (Y=some (lockR y)):=HT.out rfl;clear HF HT CN CC CL CR;have hob:(w2.alloc (.cells (inC q y) 69)).heap[w2.heap.size]?=some (.cells (inC q y) 69 (0,0)):=heap_alloc_new w2 _;obtain⟨W3,hW3⟩:=xj (w2.alloc (.cells (inC q y) 69));have H3:Hid (Bz W2 W3):=by rw[<-hW3];exact H2.out.al _
  rw[hW3]at hob;obtain⟨i0,i1,i2,i3,i4,i5,i6,i7,i8,i9,-⟩:=free10 hob;clear hob;go_wp2_with fail;refine(CK.out _).mono ?_;rintro e w4 ⟨rfl,hb4⟩;have H4:Hid (Bz W2 w4):=H3.out.on hb4;clear hb4 hW3 i0 i1 i2 i3 i4 i5 i6 i7 i8 i9;have zz0:=free14 (SP.out _ H4.out);go_wp2_with fail;refine bodyPost_ret (res14t rfl rfl rfl (set14 (SP.out _ H4.out))) rfl ?_;rw[HE.out];exact⟨rfl,bz14 (TB.out _ H4.out) HB1.out.1⟩
def rqV(q:Rq)(wa:Option Addr)(wc:Nat)(sa:Option Addr)(sc:Nat):Value:=.agg (rqC q.k q wa wc sa sc)
structure RqOk(q:Rq):Prop where
 c:Ver.R32 q.c/\Ver.R32 q.n
 s:Ts q.sp q.sl
 a:Ts q.ap q.al
 p:Ver.R8 q.pt
theorem set_k{b:Nat}(h:Kept (fun k=>k=b) w W)(o:Nat)(v:Value):Kept (fun k=>k=b) w (W.setCell ⟨b,o,none⟩ v):=
 ⟨h.os,h.tape,h.output,Nat.le_trans h.size (by simp),fun k hk hn=>by rw[Below.heap_setCell W ⟨b,o,none⟩ v k hn];exact h.block k hk hn⟩
theorem kept14{b:Nat}{v0 v1 v2 v3 v4 v5 v6 v7 v8 v9 v10 v11 v12 v13:Value}:Kept (fun k=>k=b) W (s14 W b v0 v1 v2 v3 v4 v5 v6 v7 v8 v9 v10 v11 v12 v13):=by refine set_k ?_ _ _;refine set_k ?_ _ _;refine set_k ?_ _ _;refine set_k ?_ _ _;refine set_k ?_ _ _;refine set_k ?_ _ _;refine set_k ?_ _ _;refine set_k ?_ _ _;refine set_k ?_ _ _;refine set_k ?_ _ _;refine set_k ?_ _ _;refine set_k ?_ _ _;refine set_k ?_ _ _;refine set_k ?_ _ _;exact Kept.refl _ _
theorem Cx.poke(E:Env SA TA BA)(h:Cx SA TA BA f M w X a g D Lo W){b:Nat}{cs:Array Value}{ty:TypeId}(hp:(b,Obj.cells cs ty (0,0))∈Lo)(ht:ty≠120)(hb:w.heap.size<=b)(hk:Kept (fun k=>k=b) W W'):ShTo SA TA BA f M w X a g D W':=by
 obtain⟨⟨M',h1,h2,h3⟩,h4,h5⟩:=h;obtain⟨M1,M2,M3,hc,rfl⟩:=h1;have hnv:∀k,k=b->Sto.NoVe W k:=fun k e=>by subst e;exact Sto.noVe_tag (h5 _ hp) (by intro cs' fz e;injection e with _ e _;exact ht e)
 refine⟨_,⟨M1,M2,M3,hc.kept E hk (fun k hi e=>h3 _ hp (e▸hi)) hnv,rfl⟩,h4.trans hk (fun i e=>.inr (e▸hb)),fun i hi=>?_⟩;rcases In_kept hk hi with e|e|e
 ·exact h2 i e
 ·exact .inr (Nat.le_trans h4.size e)
 ·exact .inr (e▸hb)
theorem Cx.ret14(E:Env SA TA BA)(h:Cx SA TA BA f M w X a g D Lo W){b:Nat}{cs:Array Value}{v0 v1 v2 v3 v4 v5 v6 v7 v8 v9 v10 v11 v12 v13:Value}(hp:(b,Obj.cells cs 40 (0,0))∈Lo)(hb:w.heap.size<=b):ShTo SA TA BA f M w X a g D (s14 W b v0 v1 v2 v3 v4 v5 v6 v7 v8 v9 v10 v11 v12 v13):=h.poke E hp (by decide) hb kept14
end Go.Proofs.YtdplfgcoaddbdaaGreat
