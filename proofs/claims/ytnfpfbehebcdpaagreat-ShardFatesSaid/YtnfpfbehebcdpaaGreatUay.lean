import Derived.Laws.Rows
import Derived.Test.YtnfpfbehebcdpaaGreatUax
set_option maxHeartbeats 0
set_option maxRecDepth 99999
set_option linter.all false
namespace Go.Proofs.YtnfpfbehebcdpaaGreat
open Go.RowKit
variable {SA:TyS}{TA:TyT}{BA:TyB}
variable {f:Fp}{M:Nat->Prop}{X:Sd}{a:Int}{g:Nat}{D:Drm.Dr}{w W W':World}{Lo:List (Nat×Obj)}
def rpV(r:Rp)(sv:Value):Value:=.agg #[iw r.k,iw r.err,.bool r.found,sd r.val,sv,ui r.c,ui r.n,uw r.sp,ui r.sl,uw r.ap,ui r.al,sd r.prim,uw r.np,ui r.nl]
def aqc:(Tryz.prog.info? 48).map (·.size)=some 14:=by kernel_rfl
def auv:(Tryz.prog.info? 155).map (·.size)=some 10:=by kernel_rfl
def Tt{fn:Func}{p:Tmp}(hf:fn.results=#[.cell p 48]){tmps:Array Value}{b:Nat}(hp:tmps.getD p undef=.pointer (some ⟨b,0,none⟩)){vs:Array Value}(hs:vs.size=14)(h:W.heap[b]?=some (.cells vs 48 (0,0))):(results fn tmps).run Tryz.prog W=.ok (.agg vs) W:=
 results_cell_row hf tmps W b 48 vs (0,0) _ hp h Tryz.underlying48 rfl (by rw[hs];exact aqc)
def Lh{fn:Func}{p u:Tmp}(hf:fn.results=#[.cell p 48,.tmp u]){tmps:Array Value}{b:Nat}(hp:tmps.getD p undef=.pointer (some ⟨b,0,none⟩)){vs:Array Value}(hs:vs.size=14)(h:W.heap[b]?=some (.cells vs 48 (0,0))):(results fn tmps).run Tryz.prog W=.ok (.tuple #[.agg vs,tmps.getD u undef]) W:=by rw[results_cell_tmp hf,hp];simp[asAddr,Result.andThen,run_loadVar_row W b 48 48 vs (0,0) _ h Tryz.underlying48 rfl (by rw[hs];exact aqc)]
def aoo{fn:Func}{p u:Tmp}(hf:fn.results=#[.cell p 155,.tmp u]){tmps:Array Value}{b:Nat}(hp:tmps.getD p undef=.pointer (some ⟨b,0,none⟩)){vs:Array Value}(hs:vs.size=10)(h:W.heap[b]?=some (.cells vs 155 (0,0))):(results fn tmps).run Tryz.prog W=.ok (.tuple #[.agg vs,tmps.getD u undef]) W:=by rw[results_cell_tmp hf,hp];simp[asAddr,Result.andThen,run_loadVar_row W b 155 155 vs (0,0) _ h Tryz.underlying155 rfl (by rw[hs];exact auv)]
def ai7{b:Nat}{ty:TypeId}{x0 x1 x2 x3 x4 x5 x6 x7 x8 x9 v0 v1 v2 v3 v4 v5 v6 v7 v8 v9:Value}(h:W.heap[b]?=some (.cells #[x0,x1,x2,x3,x4,x5,x6,x7,x8,x9] ty (0,0))):((((((((((W.setCell ⟨b,0,none⟩ v0).setCell ⟨b,1,none⟩ v1).setCell ⟨b,2,none⟩ v2).setCell ⟨b,3,none⟩ v3).setCell ⟨b,4,none⟩ v4).setCell ⟨b,5,none⟩ v5).setCell ⟨b,6,none⟩ v6).setCell ⟨b,7,none⟩ v7).setCell ⟨b,8,none⟩ v8).setCell ⟨b,9,none⟩ v9).heap[b]?=some (.cells #[v0,v1,v2,v3,v4,v5,v6,v7,v8,v9] ty (0,0)):=by have h0:(W.setCell ⟨b,0,none⟩ v0).heap[b]?=some (.cells #[v0,x1,x2,x3,x4,x5,x6,x7,x8,x9] ty (0,0)):=Drm.Aq h;generalize W.setCell ⟨b,0,none⟩ v0=W0 at*;have h1:(W0.setCell ⟨b,1,none⟩ v1).heap[b]?=some (.cells #[v0,v1,x2,x3,x4,x5,x6,x7,x8,x9] ty (0,0)):=Drm.Aq h0;generalize W0.setCell ⟨b,1,none⟩ v1=W1 at*;have h2:(W1.setCell ⟨b,2,none⟩ v2).heap[b]?=some (.cells #[v0,v1,v2,x3,x4,x5,x6,x7,x8,x9] ty (0,0)):=Drm.Aq h1;generalize W1.setCell ⟨b,2,none⟩ v2=W2 at*;have h3:(W2.setCell ⟨b,3,none⟩ v3).heap[b]?=some (.cells #[v0,v1,v2,v3,x4,x5,x6,x7,x8,x9] ty (0,0)):=Drm.Aq h2;generalize W2.setCell ⟨b,3,none⟩ v3=W3 at*;have h4:(W3.setCell ⟨b,4,none⟩ v4).heap[b]?=some (.cells #[v0,v1,v2,v3,v4,x5,x6,x7,x8,x9] ty (0,0)):=Drm.Aq h3;generalize W3.setCell ⟨b,4,none⟩ v4=W4 at*;have h5:(W4.setCell ⟨b,5,none⟩ v5).heap[b]?=some (.cells #[v0,v1,v2,v3,v4,v5,x6,x7,x8,x9] ty (0,0)):=Drm.Aq h4;generalize W4.setCell ⟨b,5,none⟩ v5=W5 at*;have h6:(W5.setCell ⟨b,6,none⟩ v6).heap[b]?=some (.cells #[v0,v1,v2,v3,v4,v5,v6,x7,x8,x9] ty (0,0)):=Drm.Aq h5;generalize W5.setCell ⟨b,6,none⟩ v6=W6 at*;have h7:(W6.setCell ⟨b,7,none⟩ v7).heap[b]?=some (.cells #[v0,v1,v2,v3,v4,v5,v6,v7,x8,x9] ty (0,0)):=Drm.Aq h6;generalize W6.setCell ⟨b,7,none⟩ v7=W7 at*;have h8:(W7.setCell ⟨b,8,none⟩ v8).heap[b]?=some (.cells #[v0,v1,v2,v3,v4,v5,v6,v7,v8,x9] ty (0,0)):=Drm.Aq h7;generalize W7.setCell ⟨b,8,none⟩ v8=W8 at*;have h9:(W8.setCell ⟨b,9,none⟩ v9).heap[b]?=some (.cells #[v0,v1,v2,v3,v4,v5,v6,v7,v8,v9] ty (0,0)):=Drm.Aq h8;exact h9
def bz10{b:Nat}{v0 v1 v2 v3 v4 v5 v6 v7 v8 v9:Value}(h:Bz w W)(hb:w.heap.size<=b):Bz w ((((((((((W.setCell ⟨b,0,none⟩ v0).setCell ⟨b,1,none⟩ v1).setCell ⟨b,2,none⟩ v2).setCell ⟨b,3,none⟩ v3).setCell ⟨b,4,none⟩ v4).setCell ⟨b,5,none⟩ v5).setCell ⟨b,6,none⟩ v6).setCell ⟨b,7,none⟩ v7).setCell ⟨b,8,none⟩ v8).setCell ⟨b,9,none⟩ v9):=by refine Bz.st ?_ hb _ _;refine Bz.st ?_ hb _ _;refine Bz.st ?_ hb _ _;refine Bz.st ?_ hb _ _;refine Bz.st ?_ hb _ _;refine Bz.st ?_ hb _ _;refine Bz.st ?_ hb _ _;refine Bz.st ?_ hb _ _;refine Bz.st ?_ hb _ _;refine Bz.st ?_ hb _ _;exact h
def Ic{b:Nat}{ty:TypeId}{x0 x1 x2 x3 x4 x5 x6 x7 x8 x9:Value}(h:W.heap[b]?=some (.cells #[x0,x1,x2,x3,x4,x5,x6,x7,x8,x9] ty (0,0))):W.cell? ⟨b,0,none⟩=some x0/\W.cell? ⟨b,1,none⟩=some x1/\W.cell? ⟨b,2,none⟩=some x2/\W.cell? ⟨b,3,none⟩=some x3/\W.cell? ⟨b,4,none⟩=some x4/\W.cell? ⟨b,5,none⟩=some x5/\W.cell? ⟨b,6,none⟩=some x6/\W.cell? ⟨b,7,none⟩=some x7/\W.cell? ⟨b,8,none⟩=some x8/\W.cell? ⟨b,9,none⟩=some x9/\W.frozen? ⟨b,0,none⟩=false/\W.frozen? ⟨b,1,none⟩=false/\W.frozen? ⟨b,2,none⟩=false/\W.frozen? ⟨b,3,none⟩=false/\W.frozen? ⟨b,4,none⟩=false/\W.frozen? ⟨b,5,none⟩=false/\W.frozen? ⟨b,6,none⟩=false/\W.frozen? ⟨b,7,none⟩=false/\W.frozen? ⟨b,8,none⟩=false/\W.frozen? ⟨b,9,none⟩=false:=
 ⟨Drm.Ae h rfl,Drm.Ae h rfl,Drm.Ae h rfl,Drm.Ae h rfl,Drm.Ae h rfl,Drm.Ae h rfl,Drm.Ae h rfl,Drm.Ae h rfl,Drm.Ae h rfl,Drm.Ae h rfl,Drm.Bg h,Drm.Bg h,Drm.Bg h,Drm.Bg h,Drm.Bg h,Drm.Bg h,Drm.Bg h,Drm.Bg h,Drm.Bg h,Drm.Bg h⟩
def Jg{b:Nat}{ty:TypeId}{x0 x1 x2 x3 x4 x5 x6 x7 x8 x9 x10 x11 x12 x13 v0 v1 v2 v3 v4 v5 v6 v7 v8 v9 v10 v11 v12 v13:Value}(h:W.heap[b]?=some (.cells #[x0,x1,x2,x3,x4,x5,x6,x7,x8,x9,x10,x11,x12,x13] ty (0,0))):((((((((((((((W.setCell ⟨b,0,none⟩ v0).setCell ⟨b,1,none⟩ v1).setCell ⟨b,2,none⟩ v2).setCell ⟨b,3,none⟩ v3).setCell ⟨b,4,none⟩ v4).setCell ⟨b,5,none⟩ v5).setCell ⟨b,6,none⟩ v6).setCell ⟨b,7,none⟩ v7).setCell ⟨b,8,none⟩ v8).setCell ⟨b,9,none⟩ v9).setCell ⟨b,10,none⟩ v10).setCell ⟨b,11,none⟩ v11).setCell ⟨b,12,none⟩ v12).setCell ⟨b,13,none⟩ v13).heap[b]?=some (.cells #[v0,v1,v2,v3,v4,v5,v6,v7,v8,v9,v10,v11,v12,v13] ty (0,0)):=by have h0:(W.setCell ⟨b,0,none⟩ v0).heap[b]?=some (.cells #[v0,x1,x2,x3,x4,x5,x6,x7,x8,x9,x10,x11,x12,x13] ty (0,0)):=Drm.Aq h;generalize W.setCell ⟨b,0,none⟩ v0=W0 at*;have h1:(W0.setCell ⟨b,1,none⟩ v1).heap[b]?=some (.cells #[v0,v1,x2,x3,x4,x5,x6,x7,x8,x9,x10,x11,x12,x13] ty (0,0)):=Drm.Aq h0;generalize W0.setCell ⟨b,1,none⟩ v1=W1 at*;have h2:(W1.setCell ⟨b,2,none⟩ v2).heap[b]?=some (.cells #[v0,v1,v2,x3,x4,x5,x6,x7,x8,x9,x10,x11,x12,x13] ty (0,0)):=Drm.Aq h1;generalize W1.setCell ⟨b,2,none⟩ v2=W2 at*;have h3:(W2.setCell ⟨b,3,none⟩ v3).heap[b]?=some (.cells #[v0,v1,v2,v3,x4,x5,x6,x7,x8,x9,x10,x11,x12,x13] ty (0,0)):=Drm.Aq h2;generalize W2.setCell ⟨b,3,none⟩ v3=W3 at*;have h4:(W3.setCell ⟨b,4,none⟩ v4).heap[b]?=some (.cells #[v0,v1,v2,v3,v4,x5,x6,x7,x8,x9,x10,x11,x12,x13] ty (0,0)):=Drm.Aq h3;generalize W3.setCell ⟨b,4,none⟩ v4=W4 at*;have h5:(W4.setCell ⟨b,5,none⟩ v5).heap[b]?=some (.cells #[v0,v1,v2,v3,v4,v5,x6,x7,x8,x9,x10,x11,x12,x13] ty (0,0)):=Drm.Aq h4;generalize W4.setCell ⟨b,5,none⟩ v5=W5 at*;have h6:(W5.setCell ⟨b,6,none⟩ v6).heap[b]?=some (.cells #[v0,v1,v2,v3,v4,v5,v6,x7,x8,x9,x10,x11,x12,x13] ty (0,0)):=Drm.Aq h5;generalize W5.setCell ⟨b,6,none⟩ v6=W6 at*;have h7:(W6.setCell ⟨b,7,none⟩ v7).heap[b]?=some (.cells #[v0,v1,v2,v3,v4,v5,v6,v7,x8,x9,x10,x11,x12,x13] ty (0,0)):=Drm.Aq h6;generalize W6.setCell ⟨b,7,none⟩ v7=W7 at*;have h8:(W7.setCell ⟨b,8,none⟩ v8).heap[b]?=some (.cells #[v0,v1,v2,v3,v4,v5,v6,v7,v8,x9,x10,x11,x12,x13] ty (0,0)):=Drm.Aq h7;generalize W7.setCell ⟨b,8,none⟩ v8=W8 at*;have h9:(W8.setCell ⟨b,9,none⟩ v9).heap[b]?=some (.cells #[v0,v1,v2,v3,v4,v5,v6,v7,v8,v9,x10,x11,x12,x13] ty (0,0)):=Drm.Aq h8;generalize W8.setCell ⟨b,9,none⟩ v9=W9 at*;have h10:(W9.setCell ⟨b,10,none⟩ v10).heap[b]?=some (.cells #[v0,v1,v2,v3,v4,v5,v6,v7,v8,v9,v10,x11,x12,x13] ty (0,0)):=Drm.Aq h9;generalize W9.setCell ⟨b,10,none⟩ v10=W10 at*;have h11:(W10.setCell ⟨b,11,none⟩ v11).heap[b]?=some (.cells #[v0,v1,v2,v3,v4,v5,v6,v7,v8,v9,v10,v11,x12,x13] ty (0,0)):=Drm.Aq h10;generalize W10.setCell ⟨b,11,none⟩ v11=W11 at*;have h12:(W11.setCell ⟨b,12,none⟩ v12).heap[b]?=some (.cells #[v0,v1,v2,v3,v4,v5,v6,v7,v8,v9,v10,v11,v12,x13] ty (0,0)):=Drm.Aq h11;generalize W11.setCell ⟨b,12,none⟩ v12=W12 at*;have h13:(W12.setCell ⟨b,13,none⟩ v13).heap[b]?=some (.cells #[v0,v1,v2,v3,v4,v5,v6,v7,v8,v9,v10,v11,v12,v13] ty (0,0)):=Drm.Aq h12;exact h13
def agc{b:Nat}{v0 v1 v2 v3 v4 v5 v6 v7 v8 v9 v10 v11 v12 v13:Value}(h:Bz w W)(hb:w.heap.size<=b):Bz w ((((((((((((((W.setCell ⟨b,0,none⟩ v0).setCell ⟨b,1,none⟩ v1).setCell ⟨b,2,none⟩ v2).setCell ⟨b,3,none⟩ v3).setCell ⟨b,4,none⟩ v4).setCell ⟨b,5,none⟩ v5).setCell ⟨b,6,none⟩ v6).setCell ⟨b,7,none⟩ v7).setCell ⟨b,8,none⟩ v8).setCell ⟨b,9,none⟩ v9).setCell ⟨b,10,none⟩ v10).setCell ⟨b,11,none⟩ v11).setCell ⟨b,12,none⟩ v12).setCell ⟨b,13,none⟩ v13):=by refine Bz.st ?_ hb _ _;refine Bz.st ?_ hb _ _;refine Bz.st ?_ hb _ _;refine Bz.st ?_ hb _ _;refine Bz.st ?_ hb _ _;refine Bz.st ?_ hb _ _;refine Bz.st ?_ hb _ _;refine Bz.st ?_ hb _ _;refine Bz.st ?_ hb _ _;refine Bz.st ?_ hb _ _;refine Bz.st ?_ hb _ _;refine Bz.st ?_ hb _ _;refine Bz.st ?_ hb _ _;refine Bz.st ?_ hb _ _;exact h
def Ep{b:Nat}{ty:TypeId}{x0 x1 x2 x3 x4 x5 x6 x7 x8 x9 x10 x11 x12 x13:Value}(h:W.heap[b]?=some (.cells #[x0,x1,x2,x3,x4,x5,x6,x7,x8,x9,x10,x11,x12,x13] ty (0,0))):W.cell? ⟨b,0,none⟩=some x0/\W.cell? ⟨b,1,none⟩=some x1/\W.cell? ⟨b,2,none⟩=some x2/\W.cell? ⟨b,3,none⟩=some x3/\W.cell? ⟨b,4,none⟩=some x4/\W.cell? ⟨b,5,none⟩=some x5/\W.cell? ⟨b,6,none⟩=some x6/\W.cell? ⟨b,7,none⟩=some x7/\W.cell? ⟨b,8,none⟩=some x8/\W.cell? ⟨b,9,none⟩=some x9/\W.cell? ⟨b,10,none⟩=some x10/\W.cell? ⟨b,11,none⟩=some x11/\W.cell? ⟨b,12,none⟩=some x12/\W.cell? ⟨b,13,none⟩=some x13/\W.frozen? ⟨b,0,none⟩=false/\W.frozen? ⟨b,1,none⟩=false/\W.frozen? ⟨b,2,none⟩=false/\W.frozen? ⟨b,3,none⟩=false/\W.frozen? ⟨b,4,none⟩=false/\W.frozen? ⟨b,5,none⟩=false/\W.frozen? ⟨b,6,none⟩=false/\W.frozen? ⟨b,7,none⟩=false/\W.frozen? ⟨b,8,none⟩=false/\W.frozen? ⟨b,9,none⟩=false/\W.frozen? ⟨b,10,none⟩=false/\W.frozen? ⟨b,11,none⟩=false/\W.frozen? ⟨b,12,none⟩=false/\W.frozen? ⟨b,13,none⟩=false:=
 ⟨Drm.Ae h rfl,Drm.Ae h rfl,Drm.Ae h rfl,Drm.Ae h rfl,Drm.Ae h rfl,Drm.Ae h rfl,Drm.Ae h rfl,Drm.Ae h rfl,Drm.Ae h rfl,Drm.Ae h rfl,Drm.Ae h rfl,Drm.Ae h rfl,Drm.Ae h rfl,Drm.Ae h rfl,Drm.Bg h,Drm.Bg h,Drm.Bg h,Drm.Bg h,Drm.Bg h,Drm.Bg h,Drm.Bg h,Drm.Bg h,Drm.Bg h,Drm.Bg h,Drm.Bg h,Drm.Bg h,Drm.Bg h,Drm.Bg h⟩
def Jf(w:World){o:Obj}:(w.alloc o).heap.size=w.heap.size+1:=by simp
def Wq(e:Int)(w:World):cpr 26 #[iw e] w λr w'=>r=.returned (rpV (Cb e) sy)/\Bw w w':=by go_enter Tryz.func26,Tryz.ntmps26;go_wp2_with fail;refine az (Tt rfl rfl rfl (ae w _)) rfl ?_;exact⟨rfl,al _⟩
def ac9(k p l:Int)(w:World):cpr 139 #[iw k,.agg #[uw p,ui l]] w λr w'=>r=.returned (rpV (Fv k p l) sy)/\Bw w w':=by have HB:Hid (Bz w (w.alloc (.cells #[uw p,ui l] 38))):=Bz.al (aj _ _) _;go_enter Tryz.func139,Tryz.ntmps139;go_wp2_with fail;refine az (Tt rfl rfl rfl (by rw[<-Jf w];exact ae _ _)) rfl ?_;exact⟨rfl,HB.out.al _⟩
def ab3(x:Bi×Lat.Ii)(w:World):cpr 191 #[Lat.inV x] w λr w'=>r=.returned (rpV (Tz x.2) sy)/\Bw w w':=by unfold Lat.inV;have HB:Hid (∀o,Bz w (w.alloc o)):=λo=>Bz.al (aj _ _) _;go_enter Tryz.func191,Tryz.ntmps191;go_wp2_with fail;refine az (Tt rfl rfl rfl (by rw[<-Jf w];exact ae _ _)) rfl ?_;exact⟨rfl,(HB.out _).al _⟩
def re5{P:Prop}(z:P:=by have zz0:=Ep (SP.out _ _ _ K.out);go_wp2_with fail;refine az (Tt rfl rfl rfl (Jg (SP.out _ _ _ K.out))) rfl ?_;rw[HE.out];exact⟨rfl,HR.out _ _ _ _ _ _ _ _ _ _ _ _ _ _ _ _ _ K.out⟩):P:=z
def Bo.nil(w:World):Bo w [] w:=⟨(λp hp=>by simp at hp),aj _ _⟩
def Z8(E:Env SA TA BA)(c n:Int)(h:ShAt SA TA BA f M X a g D w)(ht:X.wt<9000):
  cpr 138 #[pz f.sb,.agg #[ui c,ui n]] w λe w'=>e=.returned (Lat.fsV (ownF c n X))/\Bw w w':=by
 have CB:Hid (∀W,Bz w W->cpr 72 #[pz f.la,.agg #[ui c,ui n]] W λe w'=>∃ao cap,e=.returned (.slice ao (Lat.byF c n X.T).length cap)/\Lat.IsAt w'.heap.size (.slice ao (Lat.byF c n X.T).length cap) (Lat.byF c n X.T) w'/\Bw W w'):=λW hb=>by obtain⟨M9,h9,-⟩:=h.on E hb;refine(sh_by E c n h9 (akq ht)).mono ?_;rintro e w' ⟨v',rfl,hi,-,hb'⟩;have hi':=hi;obtain⟨ao,cap,rfl,-⟩:=hi';exact⟨ao,cap,rfl,hi,hb'⟩
 have HY:Hid (ownF c n X=(Lat.byF c n X.T).head?):=rfl;generalize ownF c n X=Y at*;generalize Lat.byF c n X.T=L at*;have HS:Hid (ce w f.sb 3 (pz f.la)):=h.cells.2.2.2.1;clear h ht E;generalize f.sb=sb at*;generalize f.la=la at*;obtain⟨b1,hb1⟩:∃b1,b1=w.heap.size+1:=⟨_,rfl⟩;have H0:Hid (Bo w [(b1,.cells #[ui 0,ui 0,uw 0,ui 0,uw 0,ui 0,su,su,su,.bool false] 155),(w.heap.size,.cells #[ui c,ui n] 36)] ((w.alloc (.cells #[ui c,ui n] 36)).alloc (.cells #[ui 0,ui 0,uw 0,ui 0,uw 0,ui 0,su,su,su,.bool false] 155))):=by show Bo _ _ _;have h1:=((Bo.nil w).new (.cells #[ui c,ui n] 36)).new (.cells #[ui 0,ui 0,uw 0,ui 0,uw 0,ui 0,su,su,su,.bool false] 155);rw[Jf]at h1;rw[hb1];exact h1
 have HB1:Hid (w.heap.size<=b1/\b1=w.heap.size+1):=⟨by omega,hb1⟩;obtain⟨W2,hW2⟩:=xj ((w.alloc (.cells #[ui c,ui n] 36)).alloc (.cells #[ui 0,ui 0,uw 0,ui 0,uw 0,ui 0,su,su,su,.bool false] 155));rw[hW2]at H0;obtain⟨Lo,hLo⟩:∃Lo,Lo=[(b1,Obj.cells #[ui 0,ui 0,uw 0,ui 0,uw 0,ui 0,su,su,su,.bool false] 155),(w.heap.size,.cells #[ui c,ui n] 36)]:=⟨_,rfl⟩;rw[<-hLo]at H0;have SO:Hid (∀W,Bo w Lo W->ce W sb 3 (pz la)/\ce W w.heap.size 0 (ui c)/\ce W w.heap.size 1 (ui n)/\Hid (Bo w Lo W)):=λW hW=>by subst hLo;exact⟨(hW.bel.cell (p:=⟨sb,3,none⟩) (ed _ _ HS.out)).trans HS.out,hW.has.cell tq1 rfl,hW.has.cell tq1 rfl,hW⟩
 have SP:Hid (∀W,Bo w Lo W->W.heap[b1]?=some (.cells #[ui 0,ui 0,uw 0,ui 0,uw 0,ui 0,su,su,su,.bool false] 155 (0,0))):=λW hW=>by subst hLo;exact hW.has _ tq0
 clear hLo HS;go_enter Tryz.func138,Tryz.ntmps138;go_wp2_with fail;rw[<-hb1];clear hW2 hb1;go_region_held3 (λW=>ce W sb 3 (pz la)/\ce W w.heap.size 0 (ui c)/\ce W w.heap.size 1 (ui n)/\Hid (Bo w Lo W)) (first|exact SO.out _ H0.out|exact SO.out _ H0.out.drew|exact SO.out _ H1.out.1) (first
  |(go_at_call 72;refine(CB.out _ H0.out.drew.bel).mono ?_;rintro e w2 ⟨ao,cap,rfl,hi,hb⟩;have H1:Hid (Bo w Lo w2/\Lat.IsAt w2.heap.size (.slice ao L.length cap) L w2):=⟨H0.out.drew.on hb,hi⟩;clear hi hb))
 rename_i hHeld;clear hHeld;have z:=Ic (SP.out _ H1.out.1);have zz0:=z;cases L with
 |nil=>
  have hY:Y=none:=HY.out;subst hY;clear HY;simp only[o9]at*;exact bbs
 |cons x r=>
  have hY:Y=some x:=HY.out;subst hY;clear HY;obtain⟨b,off,rfl,e0,e1,e2,e3,e4,e5,e6,e7,e8,e9⟩:=Lat.IsAt.el H1.out.2 (i:=0) (by simp);rw[show(x::r).getD 0 Lat.di=x from rfl]at e0 e1 e2 e3 e4 e5 e6 e7 e8 e9;simp only[Nat.zero_mul,Nat.add_zero]at e0 e1 e2 e3 e4 e5 e6 e7 e8 e9;have hl:(((x::r).length:Nat):Int)=r.length+1:=by simp
  have hl0:((((x::r).length:Nat):Int)==0)=false:=by rw[hl];simp;omega
  have hl1:(0:Int)<((x::r).length:Nat):=by rw[hl];omega
  generalize (x::r).length=m at*;clear hl;exact bbs
def awv{v0 v1 v2 v3 v4 v5 v6 v7 v8 v9:Value}:(W.alloc (.cells #[v0,v1,v2,v3,v4,v5,v6,v7,v8,v9] 155)).heap[W.heap.size]?=some (.cells #[v0,v1,v2,v3,v4,v5,v6,v7,v8,v9] 155 (0,0)):=ae W _
def afg(k:Bi)(o:Option Lat.Ii):∃q y z,Lat.ofV k o=.tuple #[Lat.inV (q,y),.bool z]/\z=o.isSome/\(∀x,o=some x->y=x/\q=k):=by
 cases o with
 |none=>exact⟨_,_,_,rfl,rfl,λx e=>by cases e⟩
 |some x=>exact⟨_,_,_,rfl,rfl,λx e=>by injection e with e;exact⟨e,rfl⟩⟩
def ade(E:Env SA TA BA)(x:Bi×Lat.Ii)(h:ShAt SA TA BA f M X a g D w)(ht:X.wt<9000):
  cpr 145 #[pz f.sb,Lat.inV x] w λe w'=>e=.returned (.bool (Jd x.2 X))/\Bw w w':=by
 obtain⟨k,x⟩:=x;obtain⟨q,y,z,hq,hz,hy⟩:=afg x.prim (getF x.prim X.T);have CO:Hid (∀W,Bz w W->cpr 187 #[pz f.la,sd x.prim] W λe w'=>e=.returned (.tuple #[.agg (inC q y),.bool z])/\Bw W w'):=λW hb=>by obtain⟨M9,h9,-⟩:=h.on E hb;have:=an7 E x.prim h9 (akq ht);rw[hq]at this;exact this
 have HP:Hid (Jd x X=(z&&(y.c==x.c&&y.n==x.n))):=by
  show Jd x X=_;unfold Jd;rw[hz];cases hg:getF x.prim X.T with
  |none=>rfl
  |some u=>rw[(hy u hg).1];rfl
 have HS:Hid (ce w f.sb 3 (pz f.la)):=h.cells.2.2.2.1;have eq30:∀W,(binOp .eql 36 (.agg #[ui y.c,ui y.n]) (.agg #[ui x.c,ui x.n])).run Tryz.prog W=.ok (.bool (y.c==x.c&&y.n==x.n)) W:=λW=>Lat.Wi _ _ _ _ W;generalize (y.c==x.c&&y.n==x.n)=r at*;generalize Jd x X=P at*;unfold Lat.inV;clear h ht E hq hz hy;generalize f.sb=sb at*;generalize f.la=la at*;have H0:Hid (Bo w [(w.heap.size,.cells (inC k x) 155)] (w.alloc (.cells (inC k x) 155))):=(Bo.nil w).new _;obtain⟨W1,hW1⟩:=xj (w.alloc (.cells (inC k x) 155));rw[hW1]at H0;have SB:Hid (∀W,Bz W1 W->ce W sb 3 (pz la)/\ce W w.heap.size 6 (sd x.prim)/\ce W w.heap.size 0 (ui x.c)/\ce W w.heap.size 1 (ui x.n)/\Bz W1 W):=λW hW=>by have h1:=H0.out.on hW;exact⟨(h1.bel.cell (p:=⟨sb,3,none⟩) (ed _ _ HS.out)).trans HS.out,h1.has.cell tq0 rfl,h1.has.cell tq0 rfl,h1.has.cell tq0 rfl,hW⟩
 have HZ:Hid (Bz W1 W1):=aj _ _;have HL:Hid (W1.heap.size<=W1.heap.size):=ai _;have TB:Hid (∀W,Bz W1 W->Bz w W):=λW hW=>(H0.out.on hW).bel;clear H0 HS;go_enter Tryz.func145,Tryz.ntmps145;go_wp2_with fail;clear hW1;obtain⟨s3,s6,-,-,-⟩:=SB.out _ HZ.out;go_cut [5,6] (λs5 s6 wc=>∃vb,s5=.pointer (some ⟨vb,0,none⟩)/\s6=.bool z/\wc.heap[vb]?=some (.cells (inC q y) 155 (0,0))/\Bz W1 wc)
 case first=>
  go_region_held3 (λW=>ce W sb 3 (pz la)/\ce W w.heap.size 6 (sd x.prim)/\ce W w.heap.size 0 (ui x.c)/\ce W w.heap.size 1 (ui x.n)/\Bz W1 W) ((with_reducible refine SB.out _ ?_;with_reducible repeat (first|exact HZ.out|exact H2.out.1|refine Bz.dr ?_|refine Bz.al ?_ _|refine Bz.st ?_ HL.out _ _|refine Bz.st ?_ H2.out.2 _ _))) (first
   |(go_at_call 187;refine(CO.out _ (TB.out _ (by with_reducible repeat (first|exact HZ.out|refine Bz.dr ?_|refine Bz.al ?_ _)))).mono ?_;rintro e w2 ⟨rfl,hb2⟩;have H2:Hid (Bz W1 w2/\W1.heap.size<=w2.heap.size):=⟨(by refine Bz.on ?_ hb2;with_reducible repeat (first|exact HZ.out|refine Bz.dr ?_|refine Bz.al ?_ _)),ak (by simp) hb2.size⟩;first|((with_reducible have Y3:=Sto.Nc hb2);obtain⟨y0,y1,y2,y3,y4,y5,y6,y7,y8,y9,g0,g1,g2,g3,g4,g5,g6,g7,g8,g9⟩:=Ic Y3;have Y4:Hid _:=Y3;clear Y3 hb2)|clear hb2))
  all_goals
   go_wp2_with fail;go_meet;first
   |with_reducible exact⟨_,rfl,rfl,awv,Bz.al H2.out.1 _⟩
   |with_reducible exact⟨_,rfl,rfl,ai7 Y4.out,bz10 H2.out.1 HL.out⟩
 case rest=>
  obtain⟨vb,rfl,rfl,hob,hb⟩:=hcut;have v0:=Drm.Ae (k:=0) (u:=ui y.c) hob rfl;have v1:=Drm.Ae (k:=1) (u:=ui y.n) hob rfl;clear hob;obtain⟨-,-,x0,x1,-⟩:=SB.out _ hb;have HB:Hid (Bz w wc):=TB.out _ hb;clear hb s3 s6 SB TB HZ HL CO;cases z
  .go_wp2_with fail;go_ret;rw[HP.out];exact⟨rfl,HB.out⟩
  .go_wp2_with fail;go_ret;rw[HP.out];exact⟨rfl,HB.out⟩
def set8{b:Nat}{ty:TypeId}{x0 x1 x2 x3 x4 x5 x6 x7 v0 v1 v2 v3 v4 v5 v6 v7:Value}(h:W.heap[b]?=some (.cells #[x0,x1,x2,x3,x4,x5,x6,x7] ty (0,0))):((((((((W.setCell ⟨b,0,none⟩ v0).setCell ⟨b,1,none⟩ v1).setCell ⟨b,2,none⟩ v2).setCell ⟨b,3,none⟩ v3).setCell ⟨b,4,none⟩ v4).setCell ⟨b,5,none⟩ v5).setCell ⟨b,6,none⟩ v6).setCell ⟨b,7,none⟩ v7).heap[b]?=some (.cells #[v0,v1,v2,v3,v4,v5,v6,v7] ty (0,0)):=by have h0:(W.setCell ⟨b,0,none⟩ v0).heap[b]?=some (.cells #[v0,x1,x2,x3,x4,x5,x6,x7] ty (0,0)):=Drm.Aq h;generalize W.setCell ⟨b,0,none⟩ v0=W0 at*;have h1:(W0.setCell ⟨b,1,none⟩ v1).heap[b]?=some (.cells #[v0,v1,x2,x3,x4,x5,x6,x7] ty (0,0)):=Drm.Aq h0;generalize W0.setCell ⟨b,1,none⟩ v1=W1 at*;have h2:(W1.setCell ⟨b,2,none⟩ v2).heap[b]?=some (.cells #[v0,v1,v2,x3,x4,x5,x6,x7] ty (0,0)):=Drm.Aq h1;generalize W1.setCell ⟨b,2,none⟩ v2=W2 at*;have h3:(W2.setCell ⟨b,3,none⟩ v3).heap[b]?=some (.cells #[v0,v1,v2,v3,x4,x5,x6,x7] ty (0,0)):=Drm.Aq h2;generalize W2.setCell ⟨b,3,none⟩ v3=W3 at*;have h4:(W3.setCell ⟨b,4,none⟩ v4).heap[b]?=some (.cells #[v0,v1,v2,v3,v4,x5,x6,x7] ty (0,0)):=Drm.Aq h3;generalize W3.setCell ⟨b,4,none⟩ v4=W4 at*;have h5:(W4.setCell ⟨b,5,none⟩ v5).heap[b]?=some (.cells #[v0,v1,v2,v3,v4,v5,x6,x7] ty (0,0)):=Drm.Aq h4;generalize W4.setCell ⟨b,5,none⟩ v5=W5 at*;have h6:(W5.setCell ⟨b,6,none⟩ v6).heap[b]?=some (.cells #[v0,v1,v2,v3,v4,v5,v6,x7] ty (0,0)):=Drm.Aq h5;generalize W5.setCell ⟨b,6,none⟩ v6=W6 at*;have h7:(W6.setCell ⟨b,7,none⟩ v7).heap[b]?=some (.cells #[v0,v1,v2,v3,v4,v5,v6,v7] ty (0,0)):=Drm.Aq h6;exact h7
def bz8{b:Nat}{v0 v1 v2 v3 v4 v5 v6 v7:Value}(h:Bz w W)(hb:w.heap.size<=b):Bz w ((((((((W.setCell ⟨b,0,none⟩ v0).setCell ⟨b,1,none⟩ v1).setCell ⟨b,2,none⟩ v2).setCell ⟨b,3,none⟩ v3).setCell ⟨b,4,none⟩ v4).setCell ⟨b,5,none⟩ v5).setCell ⟨b,6,none⟩ v6).setCell ⟨b,7,none⟩ v7):=by refine Bz.st ?_ hb _ _;refine Bz.st ?_ hb _ _;refine Bz.st ?_ hb _ _;refine Bz.st ?_ hb _ _;refine Bz.st ?_ hb _ _;refine Bz.st ?_ hb _ _;refine Bz.st ?_ hb _ _;refine Bz.st ?_ hb _ _;exact h
def aar{b:Nat}{ty:TypeId}{x0 x1 x2 x3 x4 x5 x6 x7:Value}(h:W.heap[b]?=some (.cells #[x0,x1,x2,x3,x4,x5,x6,x7] ty (0,0))):ce W b 0 x0/\ce W b 1 x1/\ce W b 2 x2/\ce W b 3 x3/\ce W b 4 x4/\ce W b 5 x5/\ce W b 6 x6/\ce W b 7 x7/\W.frozen? ⟨b,0,none⟩=false/\W.frozen? ⟨b,1,none⟩=false/\W.frozen? ⟨b,2,none⟩=false/\W.frozen? ⟨b,3,none⟩=false/\W.frozen? ⟨b,4,none⟩=false/\W.frozen? ⟨b,5,none⟩=false/\W.frozen? ⟨b,6,none⟩=false/\W.frozen? ⟨b,7,none⟩=false:=
 ⟨Drm.Ae h rfl,Drm.Ae h rfl,Drm.Ae h rfl,Drm.Ae h rfl,Drm.Ae h rfl,Drm.Ae h rfl,Drm.Ae h rfl,Drm.Ae h rfl,Drm.Bg h,Drm.Bg h,Drm.Bg h,Drm.Bg h,Drm.Bg h,Drm.Bg h,Drm.Bg h,Drm.Bg h⟩
def Yi{v0 v1 v2 v3 v4 v5 v6 v7:Value}:(W.alloc (.cells #[v0,v1,v2,v3,v4,v5,v6,v7] 143)).heap[W.heap.size]?=some (.cells #[v0,v1,v2,v3,v4,v5,v6,v7] 143 (0,0)):=ae W _
def aef(v:Ver.Vd)(w:World):cpr 146 #[.agg (vdC v)] w λe w'=>e=.returned (.bool (Ver.cmB v))/\Bw w w':=by have nq:∀W,(binOp .neq 38 (.agg #[uw v.ap,ui v.al]) (.agg #[uw 0,ui 0])).run Tryz.prog W=.ok (.bool (Ver.cmB v)) W:=λW=>Ver.abo _ _ _ _ W;generalize Ver.cmB v=r at*;go_enter Tryz.func146,Tryz.ntmps146;go_wp2;go_ret;exact⟨rfl,al _⟩
def ayw(k:Bi)(w:World):cpr 133 #[sd k] w λe w'=>e=.returned (.bool (kOk k))/\w=w':=by
 have hs:(bs k).size=k.length:=Bq k;have HK:Hid (kOk k=(decide ((1:Int)<=k.length)&&decide ((k.length:Int)<=32))):=by
  show _=_;unfold kOk;have h1:decide ((1:Int)<=k.length)=decide (1<=k.length):=by simp only[decide_eq_decide];omega
  have h2:decide ((k.length:Int)<=32)=decide (k.length<=32):=by simp only[decide_eq_decide];omega
  rw[h1,h2]
 generalize kOk k=r at*;by_cases h1:(1:Int)<=k.length
 .by_cases h2:(k.length:Int)<=32
  .have hr:r=true:=by rw[HK.out];simp[h1,h2]
   subst hr;exact azz
  .have hr:r=false:=by rw[HK.out];simp[h2]
   subst hr;exact azz
 .have hr:r=false:=by rw[HK.out];simp[h1]
  subst hr;exact azz
def knV:Option Rp->Value
 |some r=>.tuple #[rpV r sy,.bool true]
 |none=>.tuple #[rpV Rp.zero sy,.bool false]
def Ry(o:Option Ver.Vd):∃y z,Ver.ofV o=.tuple #[Ver.vdV y,.bool z]/\z=o.isSome/\(∀x,o=some x->y=x):=by
 exact bae
def amf{S:Sto.Sk}{m:Nat}(P:Sto.Ve->Bool)(h:m<S.length)(h1:((S.take m).flatMap (·.2)).find? P=none)(h2:(S.getD m Sto.ds).2.find? P=none):((S.take (m+1)).flatMap (·.2)).find? P=none:=by rw[Sto.Qs h,List.flatMap_append,qj,h1];simpa using h2
def L9{C:List Sto.Ve}{q:Nat}(P:Sto.Ve->Bool)(hq:q<C.length)(h2:(C.take q).find? P=none)(h3:P (C.getD q Sto.dv)=true):C.find? P=some (C.getD q Sto.dv):=by
 have e:C.drop q=C.getD q Sto.dv::C.drop (q+1):=by rw[ng hq];simp[List.getD,hq]
 have e2:C.find? P=(C.take q++C.drop q).find? P:=by rw[jg]
 rw[e2,qj,h2,e,List.find?_cons_of_pos h3];rfl
def Qd{S:Sto.Sk}{m q:Nat}(P:Sto.Ve->Bool)(h:m<S.length)(h1:((S.take m).flatMap (·.2)).find? P=none)(hq:q<(S.getD m Sto.ds).2.length)(h2:((S.getD m Sto.ds).2.take q).find? P=none)(h3:P ((S.getD m Sto.ds).2.getD q Sto.dv)=true):(S.flatMap (·.2)).find? P=some ((S.getD m Sto.ds).2.getD q Sto.dv):=by
 have e:S.drop m=S.getD m Sto.ds::S.drop (m+1):=by rw[ng h];simp[List.getD,h]
 have e2:(S.flatMap (·.2)).find? P=((S.take m++S.drop m).flatMap (·.2)).find? P:=by rw[jg]
 rw[e2,List.flatMap_append,qj,h1,e,List.flatMap_cons,qj,L9 P hq h2 h3];rfl
def Vb(E:Env SA TA BA)(c n:Int)(h:ShAt SA TA BA f M X a g D w)(ht:X.wt<9000)(hc:Ver.R32 c/\Ver.R32 n):
  cpr 137 #[pz f.sb,.agg #[ui c,ui n]] w λe w'=>e=.returned (knV (Cj c n X))/\Bw w w':=by
 obtain⟨y,z,hv,hz,hy⟩:=Ry (Ver.getB c n X.K);have CO:Hid (∀W,Bz w W->cpr 118 #[pz f.ve,.agg #[ui c,ui n]] W λe w'=>e=.returned (.tuple #[.agg (vdC y),.bool z])/\Bw W w'):=λW hb=>by obtain⟨M9,h9,-⟩:=h.on E hb;have:=agv E c n h9 (agi ht) hc;rw[hv]at this;exact this
 have CI:Hid (∀W,Bz w W->cpr 32 #[pz f.st] W λe w'=>∃ao cap,e=.returned (.slice ao X.S.length cap)/\(∃L,Sto.ItAt (.slice ao X.S.length cap) L X.S w')/\Bw W w'):=λW hb=>by obtain⟨M9,h9,-⟩:=h.on E hb;refine(ae0 E h9 (aep ht)).mono ?_;rintro e w' ⟨v',L,rfl,hi,-,hb'⟩;obtain⟨⟨ao,cap,rfl,hr⟩,hch⟩:=hi;refine⟨ao,cap,by rw[hch.len],⟨L,?_⟩,hb'⟩;rw[<-hch.len];exact⟨⟨ao,cap,rfl,hr⟩,hch⟩
 have C2:Hid (∀W,cpr 146 #[.agg (vdC y)] W λe w'=>e=.returned (.bool (Ver.cmB y))/\Bw W w'):=λW=>aef y W;have CS:Hid (∀p l W,cpr 139 #[iw 5,.agg #[uw p,ui l]] W λe w'=>e=.returned (.agg (zC 5 0 p l))/\Bw W w'):=λp l W=>ac9 5 p l W;have HK:Hid (z=true->Cj c n X=some (if Ver.cmB y then Fv 5 y.ap y.al else G9 6)):=λe=>by
  show Cj c n X=_;unfold Cj;cases hg:Ver.getB c n X.K with
  |none=>rw[hg]at hz;rw[hz]at e;cases e
  |some u=>rw[hy u hg]
 have HV:Hid (z=false->Cj c n X=(verF c n X.S).map λv=>Fv 5 v.p v.l):=λe=>by
  show Cj c n X=_;unfold Cj;cases hg:Ver.getB c n X.K with
  |none=>rfl
  |some u=>rw[hg]at hz;rw[hz]at e;cases e
 have HF:Hid (verF c n X.S=(X.S.flatMap (·.2)).find? λv=>v.c==c&&v.n==n):=rfl;have HW:Hid (X.S.length<10000/\∀x∈X.S,x.2.length<10000):=by obtain⟨M1,M2,M3,h,rfl⟩:=h;have h1:=E.I.sok h.s;have h2:=Sto.U9 h1.all;have h3:=aep ht;exact⟨by omega,λx hx=>by have:=Sto.ajs hx;omega⟩
 have HS:Hid (ce w f.sb 4 (pz f.ve)/\ce w f.sb 2 (pz f.st)):=⟨h.cells.2.2.2.2,h.cells.2.2.1⟩;generalize Cj c n X=Y at*;generalize verF c n X.S=V at*;generalize X.S=S at*;generalize Ver.cmB y=cm at*;clear h ht E hc hv hz hy;generalize f.sb=sb at*;generalize f.ve=ve at*;generalize f.st=st at*;obtain⟨b1,hb1⟩:∃b1,b1=w.heap.size+1:=⟨_,rfl⟩;have H0:Hid (Bo w [(b1,.cells (zC 0 0 0 0) 48),(w.heap.size,.cells #[ui c,ui n] 36)] ((w.alloc (.cells #[ui c,ui n] 36)).alloc (.cells (zC 0 0 0 0) 48))):=by show Bo _ _ _;have h1:=((Bo.nil w).new (.cells #[ui c,ui n] 36)).new (.cells (zC 0 0 0 0) 48);rw[Jf]at h1;rw[hb1];exact h1
 have HB1:Hid (w.heap.size<=b1/\b1=w.heap.size+1):=⟨by omega,hb1⟩;obtain⟨W2,hW2⟩:=xj ((w.alloc (.cells #[ui c,ui n] 36)).alloc (.cells (zC 0 0 0 0) 48));rw[hW2]at H0;have SB:Hid (∀W,Bz W2 W->ce W sb 4 (pz ve)/\ce W w.heap.size 0 (ui c)/\ce W w.heap.size 1 (ui n)/\Bz W2 W):=λW hW=>by have h1:=H0.out.on hW;exact⟨(h1.bel.cell (p:=⟨sb,4,none⟩) (ed _ _ HS.out.1)).trans HS.out.1,h1.has.cell tq1 rfl,h1.has.cell tq1 rfl,hW⟩
 have ST:Hid (∀W,Bz W2 W->ce W sb 2 (pz st)):=λW hW=>by have h1:=H0.out.on hW;exact(h1.bel.cell (p:=⟨sb,2,none⟩) (ed _ _ HS.out.2)).trans HS.out.2
 have SC:Hid (∀W,Bz W2 W->ce W w.heap.size 0 (ui c)/\ce W w.heap.size 1 (ui n)):=λW hW=>⟨(SB.out W hW).2.1,(SB.out W hW).2.2.1⟩;have SP:Hid (∀W,Bz W2 W->W.heap[b1]?=some (.cells (zC 0 0 0 0) 48 (0,0))):=λW hW=>(H0.out.on hW).has _ tq0;have TB:Hid (∀W,Bz W2 W->Bz w W):=λW hW=>(H0.out.on hW).bel;have HZ:Hid (Bz W2 W2):=aj _ _;have HL:Hid (W2.heap.size<=W2.heap.size):=ai _;have hS9:S.length<9223372036854775808:=by have:=HW.out.1;omega
 clear H0 HS;go_enter Tryz.func137,Tryz.ntmps137;go_wp2_with fail;rw[<-hb1];clear hW2 hb1;obtain⟨s4,x0,x1,-⟩:=SB.out _ HZ.out;go_cut [6,7] (λs6 s7 wc=>∃vb,s6=.pointer (some ⟨vb,0,none⟩)/\s7=.bool z/\wc.heap[vb]?=some (.cells (vdC y) 143 (0,0))/\Bz W2 wc)
 case first=>
  go_region_held3 (λW=>ce W sb 4 (pz ve)/\ce W w.heap.size 0 (ui c)/\ce W w.heap.size 1 (ui n)/\Bz W2 W) ((with_reducible refine SB.out _ ?_;with_reducible repeat (first|exact HZ.out|exact H2.out.1|refine Bz.dr ?_|refine Bz.al ?_ _|refine Bz.st ?_ HL.out _ _|refine Bz.st ?_ H2.out.2 _ _))) (first
   |(go_at_call 118;refine(CO.out _ (TB.out _ (by with_reducible repeat (first|exact HZ.out|refine Bz.dr ?_|refine Bz.al ?_ _)))).mono ?_;rintro e w2 ⟨rfl,hb2⟩;have H2:Hid (Bz W2 w2/\W2.heap.size<=w2.heap.size):=⟨(by refine Bz.on ?_ hb2;with_reducible repeat (first|exact HZ.out|refine Bz.dr ?_|refine Bz.al ?_ _)),ak (by simp) hb2.size⟩;first|((with_reducible have Y3:=Sto.Nc hb2);obtain⟨y0,y1,y2,y3,y4,y5,y6,y7,g0,g1,g2,g3,g4,g5,g6,g7⟩:=aar Y3;have Y4:Hid _:=Y3;clear Y3 hb2)|clear hb2))
  all_goals
   go_wp2_with fail;go_meet;first
   |with_reducible exact⟨_,rfl,rfl,Yi,Bz.al H2.out.1 _⟩
   |with_reducible exact⟨_,rfl,rfl,set8 Y4.out,bz8 H2.out.1 HL.out⟩
 case rest=>
  obtain⟨vb,rfl,rfl,hob,hb⟩:=hcut;have H3:Hid (Bz W2 wc):=hb;clear hb s4 x0 x1 SB CO;cases z
  .have HY:Hid (Y=V.map λv=>Fv 5 v.p v.l):=HV.out rfl;have s2:=ST.out _ H3.out;clear HV HK hob C2;go_wp2_with fail;refine(CI.out _ (TB.out _ H3.out)).mono ?_;rintro e w4 ⟨ao,cap,rfl,hit,hb4⟩;have HI:Hid _:=hit;have H4:Hid (Bz W2 w4):=H3.out.on hb4;clear hit hb4 CI s2;go_wp2_with fail;go_loopw [34] (λi wr=>∃m:Nat,m<=S.length/\i=iw m/\((S.take m).flatMap (·.2)).find? (λv=>v.c==c&&v.n==n)=none/\Bz w4 wr) (λi _=>S.length-(intOf i).toNat)
   case atStart=>exact⟨0,eu _,rfl,rfl,aj _ _⟩
   case round=>
    obtain⟨m,hm,rfl,hno,hbr⟩:=hrel;obtain⟨wo,hwo⟩:∃wo,wo=wr:=⟨_,rfl⟩;subst hwo;have HR:Hid (Bz w4 wo):=hbr;have HNo:Hid _:=hno;clear hbr hno;by_cases hml:m<S.length
    .obtain⟨L,hit⟩:=HI.out;obtain⟨b,off,ca,cc,rfl,e0,e1,hvs⟩:=Sto.ItAt.el (hit.on HR.out) hml;have hml':(m:Int)<S.length:=by omega
     have HCl:Hid ((S.getD m Sto.ds).2.length<10000):=HW.out.2 _ (by rw[List.getD,bf hml];exact rq hml);have HA:Hid (∀q,q<(S.getD m Sto.ds).2.length->((S.getD m Sto.ds).2.take q).find? (λv=>v.c==c&&v.n==n)=none->((S.getD m Sto.ds).2.getD q Sto.dv).c=c/\((S.getD m Sto.ds).2.getD q Sto.dv).n=n->V=some ((S.getD m Sto.ds).2.getD q Sto.dv)):=λq hq h2 h3=>by show V=_;rw[HF.out];exact Qd _ hml HNo.out hq h2 (by simp only[h3.1,h3.2,beq_self_eq_true,Bool.and_self])
     have HT:Hid ((S.getD m Sto.ds).2.find? (λv=>v.c==c&&v.n==n)=none->((S.take (m+1)).flatMap (·.2)).find? (λv=>v.c==c&&v.n==n)=none):=λh2=>amf _ hml HNo.out h2;have HVs:Hid _:=hvs;have HQ:Hid (m+1<=S.length):=hml;clear hit hvs hm;generalize S.getD m Sto.ds=it at*;obtain⟨ky,C⟩:=it;dsimp only at e0 e1 HCl HA HT HVs;have hC9:C.length<9223372036854775808:=by have:=HCl.out;omega
     have H5:Hid (Bo wo [(wo.heap.size,.cells #[sd ky,.slice ca C.length cc] 61)] (wo.alloc (.cells #[sd ky,.slice ca C.length cc] 61))):=⟨Has.one (ae _ _),al _⟩;obtain⟨W5,hW5⟩:=xj (wo.alloc (.cells #[sd ky,.slice ca C.length cc] 61));rw[hW5]at H5;have r1:=H5.out.has.cell tq0 (k:=1) rfl;go_wp2_with fail;go_loopw [41] (λj wq=>∃q:Nat,q<=C.length/\j=iw q/\(C.take q).find? (λv=>v.c==c&&v.n==n)=none/\Bz W5 wq) (λj _=>C.length-(intOf j).toNat)
     case atStart=>exact⟨0,eu _,rfl,rfl,aj _ _⟩
     case round=>
      obtain⟨q,hq,rfl,hno,hbq⟩:=hrel;have HB6:Hid (Bz W5 wr/\Bz W2 wr):=⟨hbq,(H4.out.on HR.out).on (H5.out.bel.trans (hbq.mono H5.out.bel.size))⟩;have HN6:Hid _:=hno;clear hbq hno;by_cases hql:q<C.length
      .have hql':(q:Int)<C.length:=by omega
       obtain⟨b',off',rfl,-,f0,f1,f2,f3,f4,f5,-⟩:=Sto.VsAt.el (Sto.VsAt.on HVs.out (H5.out.bel.trans (HB6.out.1.mono H5.out.bel.size))) hql;have HAq:Hid _:=HA.out q hql HN6.out;have HSn:Hid (¬(((C.getD q Sto.dv).c==c&&(C.getD q Sto.dv).n==n)=true)->(C.take (q+1)).find? (λv=>v.c==c&&v.n==n)=none):=λhne=>by rw[jk hql,qj,HN6.out];rw[List.getD,bf hql]at hne;simpa using hne
       generalize C.getD q Sto.dv=u at*;obtain⟨up,ul,uc,un,us,ud⟩:=u;dsimp only at f0 f1 f2 f3 f4 f5 HAq HSn;have eq30:∀W,(binOp .eql 36 (.agg #[ui uc,ui un]) (.agg #[ui c,ui n])).run Tryz.prog W=.ok (.bool (uc==c&&un==n)) W:=λW=>Lat.Wi _ _ _ _ W;have HR8:Hid ((uc==c&&un==n)=true->uc=c/\un=n):=λe=>by simpa using e
       generalize (uc==c&&un==n)=r at*;have H8:Hid (Bo wr [(wr.heap.size,.cells #[uw up,ui ul,ui uc,ui un,sd us,.bool ud] 63)] (wr.alloc (.cells #[uw up,ui ul,ui uc,ui un,sd us,.bool ud] 63))):=⟨Has.one (ae _ _),al _⟩;obtain⟨W8,hW8⟩:=xj (wr.alloc (.cells #[uw up,ui ul,ui uc,ui un,sd us,.bool ud] 63));rw[hW8]at H8;have t0:=H8.out.has.cell tq0 (k:=0) rfl;have t1:=H8.out.has.cell tq0 (k:=1) rfl;have t2:=H8.out.has.cell tq0 (k:=2) rfl;have t3:=H8.out.has.cell tq0 (k:=3) rfl;have HB8:Hid (Bz W2 W8/\Bz W5 W8):=⟨HB6.out.2.on H8.out.bel,HB6.out.1.on H8.out.bel⟩;obtain⟨k0,k1⟩:=SC.out _ HB8.out.1;have HQ6:Hid (q+1<=C.length):=hql;cases r
       .go_wp2_with fail;go_roundw
        case rel=>exact⟨q+1,HQ6.out,by go_num,HSn.out (by simp),HB8.out.2⟩
        case measure=>simp[intOf];omega
       .go_wp2_with fail;refine(CS.out _ _ _).mono ?_;rintro e w9 ⟨rfl,hb9⟩;have H9:Hid (Bz W2 w9):=HB8.out.1.on hb9;have HE:Hid (Y=some (Fv 5 up ul)):=by show _=_;rw[HY.out,HAq.out (HR8.out (by trivial))];rfl
        clear hb9 t0 t1 t2 t3 k0 k1 f0 f1 f2 f3 f4 f5 hW8;obtain⟨z0,z1,z2,z3,z4,z5,z6,z7,z8,z9,z10,z11,z12,z13,g0,g1,g2,g3,g4,g5,g6,g7,g8,g9,g10,g11,g12,g13⟩:=Ep (SP.out _ H9.out);go_wp2_with fail;refine az (Lh rfl rfl rfl (Jg (SP.out _ H9.out))) rfl ?_;rw[HE.out];exact⟨rfl,agc (TB.out _ H9.out) HB1.out.1⟩
      .have hql':¬(q:Int)<C.length:=by omega
       have HZ6:Hid (C.find? (λv=>v.c==c&&v.n==n)=none):=by have:=HN6.out;rw[ay (by omega)]at this;exact this
       go_wp2_with fail;go_roundw
       case rel=>exact⟨m+1,HQ.out,by go_num,HT.out HZ6.out,HR.out.on (H5.out.bel.trans (HB6.out.1.mono H5.out.bel.size))⟩
       case measure=>simp[intOf];omega
    .have hml':¬(m:Int)<S.length:=by omega
     have HE:Hid (Y=none):=by show _=_;have:=HNo.out;rw[ay (by omega)]at this;rw[HY.out,HF.out,this];rfl
     have H6:Hid (Bz W2 wo):=H4.out.on HR.out;obtain⟨z0,z1,z2,z3,z4,z5,z6,z7,z8,z9,z10,z11,z12,z13,g0,g1,g2,g3,g4,g5,g6,g7,g8,g9,g10,g11,g12,g13⟩:=Ep (SP.out _ H6.out);exact bbm
  .have HY:Hid (Y=some (if cm then Fv 5 y.ap y.al else G9 6)):=HK.out rfl;obtain⟨q0,q1,q2,q3,q4,q5,q6,q7,-⟩:=aar hob;clear HV HK CI;go_wp2_with fail;refine(C2.out _).mono ?_;rintro e w4 ⟨rfl,hb4⟩;have H4:Hid (Bz W2 w4):=H3.out.on hb4;have hob4:w4.heap[vb]?=some (.cells (vdC y) 143 (0,0)):=by rw[hb4.block vb (gp hob)];exact hob
   have v4:=Drm.Ae (k:=4) (u:=uw y.ap) hob4 rfl;have v5:=Drm.Ae (k:=5) (u:=ui y.al) hob4 rfl;clear q0 q1 q2 q3 q4 q5 q6 q7 hob hob4 hb4 C2;cases cm
   .obtain⟨z0,z1,z2,z3,z4,z5,z6,z7,z8,z9,z10,z11,z12,z13,g0,g1,g2,g3,g4,g5,g6,g7,g8,g9,g10,g11,g12,g13⟩:=Ep (SP.out _ H4.out);go_wp2_with fail;refine az (Lh rfl rfl rfl (Jg (SP.out _ H4.out))) rfl ?_;rw[HY.out];exact⟨rfl,agc (TB.out _ H4.out) HB1.out.1⟩
   .go_wp2_with fail;refine(CS.out _ _ _).mono ?_;rintro e w9 ⟨rfl,hb9⟩;have H9:Hid (Bz W2 w9):=H4.out.on hb9;clear hb9 v4 v5;obtain⟨z0,z1,z2,z3,z4,z5,z6,z7,z8,z9,z10,z11,z12,z13,g0,g1,g2,g3,g4,g5,g6,g7,g8,g9,g10,g11,g12,g13⟩:=Ep (SP.out _ H9.out);go_wp2_with fail;refine az (Lh rfl rfl rfl (Jg (SP.out _ H9.out))) rfl ?_;rw[HY.out];exact⟨rfl,agc (TB.out _ H9.out) HB1.out.1⟩
def aic(E:Env SA TA BA)(k:Bi)(sp sl:Int)(h:ShAt SA TA BA f M X a g D w)(ht:X.wt<9000):
  cpr 140 #[pz f.sb,sd k,.agg #[uw sp,ui sl]] w λe w'=>e=.returned (knV (Ij k sp sl X))/\Bw w w':=by
 obtain⟨q,y,z,hq,hz,hy⟩:=afg k (getF k X.T);have CO:Hid (∀W,Bz w W->cpr 187 #[pz f.la,sd k] W λe w'=>e=.returned (.tuple #[.agg (inC q y),.bool z])/\Bw W w'):=λW hb=>by obtain⟨M9,h9,-⟩:=h.on E hb;have:=an7 E k h9 (akq ht);rw[hq]at this;exact this
 have CN:Hid (∀W,Bz w W->cpr 194 #[pz f.st,sd k] W λe w'=>e=.returned (.agg #[uw (Sto.newF (Sto.A8 k X.S)).1,ui (Sto.newF (Sto.A8 k X.S)).2])/\Bw W w'):=λW hb=>by obtain⟨M9,h9,-⟩:=h.on E hb;exact ak0 E k h9 (aep ht)
 have CC:Hid (∀W,Bz w W->cpr 195 #[pz f.st,sd k] W λe w'=>e=.returned (iw (Sto.A8 k X.S).length)/\Bw W w'):=λW hb=>by obtain⟨M9,h9,-⟩:=h.on E hb;exact an9 E k h9 (aep ht)
 have CL:Hid (∀W,cpr 84 #[.agg #[uw sp,ui sl],.agg #[uw (Sto.newF (Sto.A8 k X.S)).1,ui (Sto.newF (Sto.A8 k X.S)).2]] W λe w'=>e=.returned (.bool (Clk.Ar sp sl (Sto.newF (Sto.A8 k X.S)).1 (Sto.newF (Sto.A8 k X.S)).2))/\Bw W w'):=λW=>Clk.Oi _ _ _ _ W;have CK:Hid (∀W,cpr 191 #[.agg (inC q y)] W λe w'=>e=.returned (.agg #[iw 3,iw 0,.bool false,su,sy,ui y.c,ui y.n,uw y.sp,ui y.sl,uw 0,ui 0,sd y.prim,uw 0,ui 0])/\Bw W w'):=λW=>ab3 (q,y) W;have CR:Hid (∀W,cpr 26 #[iw 3] W λe w'=>e=.returned (.agg (zC 0 3 0 0))/\Bw W w'):=λW=>Wq 3 W;have HT:Hid (z=true->Ij k sp sl X=some (Tz y)):=λe=>by
  show Ij k sp sl X=_;unfold Ij;cases hg:getF k X.T with
  |none=>rw[hg]at hz;rw[hz]at e;cases e
  |some u=>rw[(hy u hg).1]
 have HF:Hid (z=false->Ij k sp sl X=if Clk.Ar sp sl (Sto.newF (Sto.A8 k X.S)).1 (Sto.newF (Sto.A8 k X.S)).2 then some (G9 10)else if 1000<=(Sto.A8 k X.S).length then some (Cb 3)else none):=λe=>by
  show Ij k sp sl X=_;unfold Ij;cases hg:getF k X.T with
  |none=>rfl
  |some u=>rw[hg]at hz;rw[hz]at e;cases e
 have HS:Hid (ce w f.sb 3 (pz f.la)/\ce w f.sb 2 (pz f.st)):=⟨h.cells.2.2.2.1,h.cells.2.2.1⟩;generalize Ij k sp sl X=Y at*;generalize (Sto.A8 k X.S).length=cl at*;generalize Clk.Ar sp sl (Sto.newF (Sto.A8 k X.S)).1 (Sto.newF (Sto.A8 k X.S)).2=lb at*;generalize (Sto.newF (Sto.A8 k X.S)).1=n1 at*;generalize (Sto.newF (Sto.A8 k X.S)).2=n2 at*;clear h ht E hq hz hy;generalize f.sb=sb at*;generalize f.la=la at*;generalize f.st=st at*;obtain⟨b1,hb1⟩:∃b1,b1=w.heap.size+1:=⟨_,rfl⟩;have H0:Hid (Bo w [(b1,.cells (zC 0 0 0 0) 48),(w.heap.size,.cells #[uw sp,ui sl] 38)] ((w.alloc (.cells #[uw sp,ui sl] 38)).alloc (.cells (zC 0 0 0 0) 48))):=by show Bo _ _ _;have h1:=((Bo.nil w).new (.cells #[uw sp,ui sl] 38)).new (.cells (zC 0 0 0 0) 48);rw[Jf]at h1;rw[hb1];exact h1
 have HB1:Hid (w.heap.size<=b1/\b1=w.heap.size+1):=⟨by omega,hb1⟩;obtain⟨W2,hW2⟩:=xj ((w.alloc (.cells #[uw sp,ui sl] 38)).alloc (.cells (zC 0 0 0 0) 48));rw[hW2]at H0;have SB:Hid (∀W,Bz W2 W->ce W w.heap.size 0 (uw sp)/\ce W w.heap.size 1 (ui sl)/\ce W sb 2 (pz st)/\Bz W2 W):=λW hW=>by have h1:=H0.out.on hW;exact⟨h1.has.cell tq1 rfl,h1.has.cell tq1 rfl,(h1.bel.cell (p:=⟨sb,2,none⟩) (ed _ _ HS.out.2)).trans HS.out.2,hW⟩
 have ST:Hid (∀W,Bz W2 W->ce W sb 3 (pz la)):=λW hW=>by have h1:=H0.out.on hW;exact(h1.bel.cell (p:=⟨sb,3,none⟩) (ed _ _ HS.out.1)).trans HS.out.1
 have SP:Hid (∀W,Bz W2 W->W.heap[b1]?=some (.cells (zC 0 0 0 0) 48 (0,0))):=λW hW=>(H0.out.on hW).has _ tq0;have TB:Hid (∀W,Bz W2 W->Bz w W):=λW hW=>(H0.out.on hW).bel;have HZ:Hid (Bz W2 W2):=aj _ _;have s3:=ST.out _ HZ.out;clear H0 HS ST;go_enter Tryz.func140,Tryz.ntmps140;go_wp2_with fail;rw[<-hb1];clear hW2 hb1;refine(CO.out _ (TB.out _ HZ.out)).mono ?_;rintro e w2 ⟨rfl,hb2⟩;have H2:Hid (Bz W2 w2):=HZ.out.on hb2;clear hb2 s3 CO;cases z
 .have HE0:Hid _:=HF.out rfl;clear HF HT CK;obtain⟨W3,hW3⟩:=xj (w2.alloc (.cells (inC q y) 155));have H3:Hid (Bz W2 W3):=by rw[<-hW3];exact H2.out.al _
  go_wp2_with fail;clear hW3;obtain⟨x0,x1,s2,-⟩:=SB.out _ H3.out;go_region_held3 (λW=>ce W w.heap.size 0 (uw sp)/\ce W w.heap.size 1 (ui sl)/\ce W sb 2 (pz st)/\Bz W2 W) (first|exact SB.out _ H3.out|exact SB.out _ H3.out.dr|exact SB.out _ H4.out|exact SB.out _ H5.out) (first
   |(go_at_call 194;refine(CN.out _ (TB.out _ H3.out.dr)).mono ?_;rintro e w4 ⟨rfl,hb4⟩;have H4:Hid (Bz W2 w4):=H3.out.dr.on hb4;clear hb4)
   |(go_at_call 84;refine(CL.out _).mono ?_;rintro e w5 ⟨rfl,hb5⟩;have H5:Hid (Bz W2 w5):=H4.out.on hb5;clear hb5))
  rename_i hHeld;clear hHeld x0 x1 s2 CN CL;cases lb
  .have HE1:Hid (Y=if 1000<=cl then some (Cb 3)else none):=HE0.out;obtain⟨-,-,s2,-⟩:=SB.out _ H5.out;go_wp2_with fail;refine(CC.out _ (TB.out _ H5.out)).mono ?_;rintro e w6 ⟨rfl,hb6⟩;have H6:Hid (Bz W2 w6):=H5.out.on hb6;clear hb6 s2 CC;by_cases hc:1000<=cl
   .have HE:Hid (Y=some (Cb 3)):=by rw[HE1.out,ah hc];rfl
    have hc':(1000:Int)<=cl:=by omega
    go_wp2_with fail;refine(CR.out _).mono ?_;rintro e w7 ⟨rfl,hb7⟩;have H7:Hid (Bz W2 w7):=H6.out.on hb7;clear hb7 CR;have zz0:=Ep (SP.out _ H7.out);go_wp2_with fail;refine az (Lh rfl rfl rfl (Jg (SP.out _ H7.out))) rfl ?_;rw[HE.out];exact⟨rfl,agc (TB.out _ H7.out) HB1.out.1⟩
   .have HE:Hid (Y=none):=by rw[HE1.out,ag hc];rfl
    have hc':¬(1000:Int)<=cl:=by omega
    have zz0:=Ep (SP.out _ H6.out);exact bbm
  .have HE:Hid (Y=some (G9 10)):=HE0.out;have zz0:=Ep (SP.out _ H5.out);go_wp2_with fail;refine az (Lh rfl rfl rfl (Jg (SP.out _ H5.out))) rfl ?_;rw[HE.out];exact⟨rfl,agc (TB.out _ H5.out) HB1.out.1⟩
 .have HE:Hid (Y=some (Tz y)):=HT.out rfl;clear HF HT CN CC CL CR;have hob:(w2.alloc (.cells (inC q y) 155)).heap[w2.heap.size]?=some (.cells (inC q y) 155 (0,0)):=ae w2 _;obtain⟨W3,hW3⟩:=xj (w2.alloc (.cells (inC q y) 155));have H3:Hid (Bz W2 W3):=by rw[<-hW3];exact H2.out.al _
  rw[hW3]at hob;obtain⟨i0,i1,i2,i3,i4,i5,i6,i7,i8,i9,-⟩:=Ic hob;clear hob;go_wp2_with fail;refine(CK.out _).mono ?_;rintro e w4 ⟨rfl,hb4⟩;have H4:Hid (Bz W2 w4):=H3.out.on hb4;clear hb4 hW3 i0 i1 i2 i3 i4 i5 i6 i7 i8 i9;have zz0:=Ep (SP.out _ H4.out);go_wp2_with fail;refine az (Lh rfl rfl rfl (Jg (SP.out _ H4.out))) rfl ?_;rw[HE.out];exact⟨rfl,agc (TB.out _ H4.out) HB1.out.1⟩
def rqV(q:Rq)(wa:Option Addr)(wc:Nat)(sa:Option Addr)(sc:Nat):Value:=.agg (rqC q.k q wa wc sa sc)
structure RqOk(q:Rq):Prop where
 c:Ver.R32 q.c/\Ver.R32 q.n
 s:Ts q.sp q.sl
 a:Ts q.ap q.al
 p:Ver.R8 q.pt
def Ll{b:Nat}(h:Kept (λk=>k=b) w W)(o:Nat)(v:Value):Kept (λk=>k=b) w (W.setCell ⟨b,o,none⟩ v):=
 ⟨h.os,h.tape,h.output,ak h.size (by simp),λk hk hn=>by rw[jl W ⟨b,o,none⟩ v k hn];exact h.block k hk hn⟩
def Xf{b:Nat}{v0 v1 v2 v3 v4 v5 v6 v7 v8 v9 v10 v11 v12 v13:Value}:Kept (λk=>k=b) W (s14 W b v0 v1 v2 v3 v4 v5 v6 v7 v8 v9 v10 v11 v12 v13):=by refine Ll ?_ _ _;refine Ll ?_ _ _;refine Ll ?_ _ _;refine Ll ?_ _ _;refine Ll ?_ _ _;refine Ll ?_ _ _;refine Ll ?_ _ _;refine Ll ?_ _ _;refine Ll ?_ _ _;refine Ll ?_ _ _;refine Ll ?_ _ _;refine Ll ?_ _ _;refine Ll ?_ _ _;refine Ll ?_ _ _;exact Kept.refl _ _
def Cx.poke(E:Env SA TA BA)(h:Cx SA TA BA f M w X a g D Lo W){b:Nat}{cs:Array Value}{ty:TypeId}(hp:(b,Obj.cells cs ty (0,0))∈Lo)(ht:ty≠63)(hb:w.heap.size<=b)(hk:Kept (λk=>k=b) W W'):ShTo SA TA BA f M w X a g D W':=by
 obtain⟨⟨M',h1,h2,h3⟩,h4,h5⟩:=h;obtain⟨M1,M2,M3,hc,rfl⟩:=h1;have hnv:∀k,k=b->Sto.NoVe W k:=λk e=>by subst e;exact Sto.Hy (h5 _ hp) (by intro cs' fz e;injection e with _ e _;exact ht e)
 refine⟨_,⟨M1,M2,M3,hc.kept E hk (λk hi e=>h3 _ hp (e▸hi)) hnv,rfl⟩,h4.trans hk (λi e=>.inr (e▸hb)),λi hi=>?_⟩;rcases Ja hk hi with e|e|e
 .exact h2 i e
 .exact .inr (ak h4.size e)
 .exact .inr (e▸hb)
def Cx.awr(E:Env SA TA BA)(h:Cx SA TA BA f M w X a g D Lo W){b:Nat}{cs:Array Value}{v0 v1 v2 v3 v4 v5 v6 v7 v8 v9 v10 v11 v12 v13:Value}(hp:(b,Obj.cells cs 48 (0,0))∈Lo)(hb:w.heap.size<=b):ShTo SA TA BA f M w X a g D (s14 W b v0 v1 v2 v3 v4 v5 v6 v7 v8 v9 v10 v11 v12 v13):=h.poke E hp (by decide) hb Xf
