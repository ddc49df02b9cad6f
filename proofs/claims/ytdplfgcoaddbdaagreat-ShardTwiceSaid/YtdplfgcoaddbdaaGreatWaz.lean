import Derived.Test.YtdplfgcoaddbdaaGreatWay
set_option maxHeartbeats 4000000
set_option maxRecDepth 100000
set_option linter.unusedVariables false
set_option linter.unusedSimpArgs false
namespace Go.Proofs.YtdplfgcoaddbdaaGreat
open Go.RowKit
variable {SA:TyS}{TA:TyT}{BA:TyB}
variable {f:Fp}{M M1 M2 M3:Nat->Prop}{X:Sd}{a:Int}{g:Nat}{D:Drm.Dr}{w w':World}
theorem rw_keep{B size n:Nat}{v:Value}{cs:List Value}{G:Nat->Prop}(h:RwAt B size v n cs w)(hk:Kept G w w')(hn:∀k,v.ownBlock=some k->¬G k):RwAt B size v n cs w':=by obtain⟨ao,cap,rfl,h1,h2,h3,h4⟩:=h;refine⟨ao,cap,rfl,h1,h2,h3,fun h0=>?_⟩;obtain⟨b,off,rfl,h5,h6⟩:=h4 h0;exact⟨b,off,rfl,h5,fun j u hj=>hk.cell (h6 j u hj) (hn b rfl)⟩
theorem to_all{N1 N2 N3:Nat->Prop}{X':Sd}{a':Int}{g':Nat}{D':Drm.Dr}(h:ShC SA TA BA f N1 N2 N3 X' a' g' D' w')(hk:Kept (f.In M1 M2 M3 w) w w')(h1:∀i,N1 i->M1 i\/w.heap.size<=i)(h2:∀i,N2 i->M2 i\/w.heap.size<=i)(h3:∀i,N3 i->M3 i\/w.heap.size<=i):ShTo SA TA BA f (f.In M1 M2 M3 w) w X' a' g' D' w':=
 ⟨_,⟨N1,N2,N3,h,rfl⟩,hk,In_sub hk (fun _ h=>h) h1 h2 h3⟩
theorem puts_snoc(c n ap al:Int):∀(L:Lat.Tb) (x:List UInt8×Lat.Ii) (S:Sto.Sk),putsF c n ap al (L++[x]) S=(Sto.putS x.1 (veI c n ap al x) (putsF c n ap al L S)).1
 |[],_,_=>rfl
 |y::L,x,S=>by show putsF c n ap al (L++[x]) _=_;rw[puts_snoc c n ap al L x];rfl
theorem puts_sok{c n ap al:Int}:∀{L:Lat.Tb} {S:Sto.Sk},Sto.SOk S->Sto.SOk (putsF c n ap al L S)
 |[],_,h=>h
 |x::L,S,h=>by show Sto.SOk (putsF c n ap al L _);exact puts_sok (Sto.put_sok h _ _)
theorem puts_tot{c n ap al:Int}:∀{L:Lat.Tb} {S:Sto.Sk},Sto.SOk S->Sto.totS (putsF c n ap al L S)<=Sto.totS S+L.length
 |[],_,_=>Nat.le_refl _
 |x::L,S,h=>by have h1:=puts_tot (c:=c) (n:=n) (ap:=ap) (al:=al) (L:=L) (Sto.put_sok h x.1 (veI c n ap al x));have h2:=Sto.tot_put h x.1 (veI c n ap al x);show Sto.totS (putsF c n ap al L _)<=_;simp only[List.length_cons];omega
structure Fx(SA:TyS)(TA:TyT)(BA:TyB)(f:Fp)(M1 N2 M3:Nat->Prop)(X:Sd)(a:Int)(g:Nat)(D:Drm.Dr)(c n ap al:Int)(L:Lat.Tb)(Lo:List (Nat×Obj))(w1:World)(m:Nat)(W:World):Prop where
 sh:PutTo SA TA BA f M1 N2 M3 {X with S:=putsF c n ap al (L.take m) X.S} a g D w1 W
 has:Has Lo W
theorem Fx.step{N2:Nat->Prop}{c n ap al:Int}{L:Lat.Tb}{Lo:List (Nat×Obj)}{w1 W W':World}{m:Nat}{x:List UInt8×Lat.Ii}(hL:L.take (m+1)=L.take m++[x])(h:Fx SA TA BA f M1 N2 M3 X a g D c n ap al L Lo w1 m W){W2:World}(hb:Below W.heap.size W W2){N1:Nat->Prop}(hn:∀i,N1 i->M1 i\/w1.heap.size<=i)(hlt:∀i,N1 i->i<W.heap.size)(hk1:Kept M1 w1 W)
  (hp:PutTo SA TA BA f N1 N2 M3 {X with S:=(Sto.putS x.1 (veI c n ap al x) (putsF c n ap al (L.take m) X.S)).1} a g D W2 W') (hlo:∀p∈Lo,¬N1 p.1):Fx SA TA BA f M1 N2 M3 X a g D c n ap al L Lo w1 (m+1) W':=by
 obtain⟨N,h1,h2,h3⟩:=hp;refine⟨⟨N,?_,?_,fun i hi=>?_⟩,(h.has.on hb).kept h2 hlo⟩
 ·rw[hL,puts_snoc];exact h1
 ·exact(hk1.trans (Kept.of_below (F:=N1) hb) hn).trans h2 hn
 ·rcases h3 i hi with e|e
  ·exact hn i e
  ·exact .inr (Nat.le_trans hk1.size (Nat.le_trans hb.size e))
theorem fix81(E:Env SA TA BA)(c n ap al:Int)(h:ShAt SA TA BA f M X a g D w)(ht:X.wt<9000):
  Calls Tryz.prog 71 #[pz f.sb,.agg #[ui c,ui n],.agg #[uw ap,ui al]] w fun e w'=>e=.returned (.tuple #[])/\ShTo SA TA BA f M w (fixF c n ap al X) a g D w':=by
 obtain⟨M1,M2,M3,h,rfl⟩:=h;have hwt:Sto.totS X.S+X.T.length+X.K.length<9000:=ht;obtain⟨L,hL⟩:∃L,L=Lat.byF c n X.T:=⟨_,rfl⟩;have hll:L.length<=X.T.length:=by rw[hL];exact Lat.len_by c n X.T
 have CC:Hid (∀W,Below w.heap.size w W->Calls Tryz.prog 73 #[pz f.la,.agg #[ui c,ui n]] W fun e w'=>∃ao cap,e=.returned (.slice ao L.length cap)/\L.length<=9000/\Hid (∃N2,ShC SA TA BA f M1 N2 M3 {X with T:=Lat.restF c n X.T} a g D w'/\Kept M2 W w'/\(∀i,N2 i->M2 i\/w.heap.size<=i)/\Lat.IsAt w'.heap.size (.slice ao L.length cap) L w'/\∀k,(Value.slice ao L.length cap).ownBlock=some k->w.heap.size<=k)):=fun W hb=>by have hW:=h.on E hb;refine(E.J.cut c n hW.t (by omega)).mono ?_;rintro e w' ⟨v',N2,rfl,hi,hv,hs,hk,hn⟩;rw[<-hL]at hi;have hi':=hi;obtain⟨ao,cap,rfl,-⟩:=hi';exact⟨ao,cap,rfl,by omega,N2,hW.setT E hs hk hn,hk,fun i hi=>(hn i hi).imp id (fun e=>Nat.le_trans hb.size e),hi,fun k e=>Nat.le_trans hb.size (hv k e)⟩
 have CP:Hid (∀(N1 N2:Nat->Prop) (S:Sto.Sk) (x:List UInt8×Lat.Ii) W,ShC SA TA BA f N1 N2 M3 {X with T:=Lat.restF c n X.T,S:=S} a g D W->Sto.totS S<10000->Calls Tryz.prog 78 #[pz f.sb,.agg #[ui c,ui n],.agg #[uw ap,ui al],.agg #[sd x.1,sd x.2.val,.bool x.2.dead]] W fun e w'=>e=.returned (.tuple #[])/\PutTo SA TA BA f N1 N2 M3 {X with T:=Lat.restF c n X.T,S:=(Sto.putS x.1 (veI c n ap al x) S).1} a g D W w'):=fun N1 N2 S x W hW hS=>put88 E c n ap al x.1 x.2.val x.2.dead hW hS;have HT:Hid (∀m,Sto.totS (putsF c n ap al (L.take m) X.S)<10000):=fun m=>by have h1:=puts_tot (c:=c) (n:=n) (ap:=ap) (al:=al) (L:=L.take m) (E.I.sok h.s);have h2:=List.length_take_le' m L;omega
 have HE:Hid (fixF c n ap al X={X with T:=Lat.restF c n X.T,S:=putsF c n ap al L X.S}):=by rw[hL];rfl
 have HB:Hid (w.heap[f.sb]?=some (.cells (shc f X) 87 (0,0))/\¬M1 f.sb/\¬M2 f.sb):=⟨h.blk,fun e=>(h.o _ (.inl e)).1 rfl,fun e=>(h.o _ (.inr (.inl e))).1 rfl⟩;have HM:Hid ((∀k,M1 k->k<w.heap.size)/\∀k,M2 k->k<w.heap.size):=⟨fun k hk=>(E.I.lt h.s k hk).2,fun k hk=>(E.J.lt h.t k hk).2⟩;have HON:Hid (∀{N1 N2:Nat->Prop} {Y:Sd} {W W':World},ShC SA TA BA f N1 N2 M3 Y a g D W->Below W.heap.size W W'->ShC SA TA BA f N1 N2 M3 Y a g D W'):=fun hh hb=>hh.on E hb;have HI:Hid (∀{N1 N2:Nat->Prop} {Y:Sd} {W:World},ShC SA TA BA f N1 N2 M3 Y a g D W->∀k,N1 k->k<W.heap.size):=fun hh k hk=>(E.I.lt hh.s k hk).2;have HC:Hid ((shc f X)[3]?=some (pz f.la)):=rfl;generalize shc f X=sc at*;rw[HE.out];clear hwt ht hL hll HE h E;generalize hsb:f.sb=sb at*;generalize hla:f.la=la at*;clear hsb hla;have H0:Hid (Bo w [(w.heap.size+1,.cells #[uw ap,ui al] 28),(w.heap.size,.cells #[ui c,ui n] 26),(sb,.cells sc 87)] ((w.alloc (.cells #[ui c,ui n] 26)).alloc (.cells #[uw ap,ui al] 28))):=by show Bo _ _ _;have h1:=((Bo.one HB.out.1).new (.cells #[ui c,ui n] 26)).new (.cells #[uw ap,ui al] 28);simpa using h1
 go_enter Tryz.func71,Tryz.ntmps71;go_wp2_with fail;generalize (w.alloc (.cells #[ui c,ui n] 26)).alloc (.cells #[uw ap,ui al] 28)=W2 at*;obtain⟨Lo,hLo⟩:∃Lo,Lo=[(w.heap.size+1,Obj.cells #[uw ap,ui al] 28),(w.heap.size,.cells #[ui c,ui n] 26),(sb,.cells sc 87)]:=⟨_,rfl⟩;rw[<-hLo]at H0;have HN:Hid (∀p∈Lo,∀N:Nat->Prop,(N sb->False)->(∀k,N k->k<w.heap.size\/W2.heap.size<=k)->¬N p.1):=fun p hp N h0 h1 e=>by
  have h2:=h1 _ e;have h3:=H0.out.has.lt p hp;rw[hLo]at hp;simp only[List.mem_cons,List.not_mem_nil,or_false]at hp;rcases hp with rfl|rfl|rfl
  ·dsimp only at h2 h3;omega
  ·dsimp only at h2 h3;omega
  ·exact h0 e
 have SO:Hid (∀W,Has Lo W->ce W sb 3 (pz la)/\ce W w.heap.size 0 (ui c)/\ce W w.heap.size 1 (ui n)/\Hid (Has Lo W)):=fun W hW=>by subst hLo;exact⟨hW.cell (.tail _ (.tail _ (.head _))) HC.out,hW.cell (.tail _ (.head _)) rfl,hW.cell (.tail _ (.head _)) rfl,hW⟩
 have SO2:Hid (∀W,Has Lo W->ce W w.heap.size 0 (ui c)/\ce W w.heap.size 1 (ui n)/\ce W (w.heap.size+1) 0 (uw ap)/\ce W (w.heap.size+1) 1 (ui al)):=fun W hW=>by subst hLo;exact⟨hW.cell (.tail _ (.head _)) rfl,hW.cell (.tail _ (.head _)) rfl,hW.cell (.head _) rfl,hW.cell (.head _) rfl⟩
 clear hLo HC;go_region_held3 (fun W=>ce W sb 3 (pz la)/\ce W w.heap.size 0 (ui c)/\ce W w.heap.size 1 (ui n)/\Hid (Has Lo W)) (first|exact SO.out _ H0.out.has|exact SO.out _ H0.out.drew.has|exact SO.out _ H1.out) (first|(go_at_call 73;refine(CC.out _ H0.out.drew.bel).mono ?_;rintro e w1 ⟨ao,cap,rfl,hl9,hc⟩;have HCt:Hid _:=hc;have H1:Hid (Has Lo w1):=(by obtain⟨N2,-,hk,-⟩:=hc.out;exact H0.out.drew.has.kept hk (fun p hp=>HN.out p hp M2 HB.out.2.2 (fun k hk=>.inl (HM.out.2 k hk))));clear hc))
 rename_i hHeld;clear hHeld;obtain⟨N2,hsh,hk1,hn1,his,hrow⟩:=HCt.out;have HD:Hid (ShC SA TA BA f M1 N2 M3 {X with T:=Lat.restF c n X.T} a g D w1/\Kept (f.In M1 M2 M3 w) w w1/\(∀i,N2 i->M2 i\/w.heap.size<=i)/\Lat.IsAt w1.heap.size (.slice ao L.length cap) L w1/\(∀k,(Value.slice ao L.length cap).ownBlock=some k->¬M1 k)/\w.heap.size<=w1.heap.size/\W2.heap.size<=w1.heap.size):=
  ⟨hsh,(Kept.of_below H0.out.drew.bel).trans (hk1.mono (fun i e=>(.inr (.inr (.inr (.inr (.inl e)))):f.In M1 M2 M3 w i))) (fun i e=>.inl e),hn1,his,fun k e hm=>by have:=hrow k e;have:=HM.out.1 k hm;omega,Nat.le_trans H0.out.drew.bel.size hk1.size,hk1.size⟩
 have F0:Hid (Fx SA TA BA f M1 N2 M3 {X with T:=Lat.restF c n X.T} a g D c n ap al L Lo w1 0 w1):=⟨⟨M1,hsh,Kept.refl _ _,fun _ e=>.inl e⟩,H1.out⟩;clear hsh hk1 hn1 his hrow HCt CC H0 H1 SO;go_wp2_with fail;go_loopw [15] (fun i wr=>∃m:Nat,m<=L.length/\i=iw m/\Fx SA TA BA f M1 N2 M3 {X with T:=Lat.restF c n X.T} a g D c n ap al L Lo w1 m wr) (fun i _=>L.length-(intOf i).toNat)
 case atStart=>exact⟨0,Nat.zero_le _,rfl,F0.out⟩
 case round=>
  obtain⟨m,hm,rfl,hf⟩:=hrel;have HF:Hid _:=hf;obtain⟨⟨N1,hs1,hk1,hn1⟩,hhas⟩:=hf;by_cases hml:m<L.length
  ·have hml':(m:Int)<L.length:=by omega
   obtain⟨b,off,rfl,e0,e1,e2,e3,e4,e5,e6,e7,e8,e9⟩:=Lat.IsAt.el (rw_keep HD.out.2.2.2.1 hk1 HD.out.2.2.2.2.1) hml;have hT:=Lat.ttk_snoc hml;generalize L.getD m Lat.di=x at*;obtain⟨k,y⟩:=x;dsimp only at e0 e1 e2 e3 e4 e5 e6 e7 e8 e9;have CQ:Hid (∀W,Below wr.heap.size wr W->Calls Tryz.prog 78 #[pz sb,.agg #[ui c,ui n],.agg #[uw ap,ui al],.agg #[sd k,sd y.val,.bool y.dead]] W fun e w'=>e=.returned (.tuple #[])/\Fx SA TA BA f M1 N2 M3 {X with T:=Lat.restF c n X.T} a g D c n ap al L Lo w1 (m+1) w'):=fun W hb=>by
    refine(CP.out N1 N2 _ (k,y) W ?_ (HT.out m)).mono ?_
    ·exact HON.out hs1 hb
    ·rintro e w' ⟨rfl,hp⟩;refine⟨rfl,HF.out.step hT hb hn1 (HI.out hs1) hk1 hp (fun p hp=>HN.out p hp N1 ?_ ?_)⟩
     ·intro e;rcases hn1 _ e with e|e
      ·exact HB.out.2.1 e
      ·have:=lt_of_block HB.out.1;have:=HD.out.2.2.2.2.2.1;omega
     ·intro k hk;rcases hn1 k hk with e|e
      ·exact .inl (HM.out.1 k e)
      ·exact .inr (Nat.le_trans HD.out.2.2.2.2.2.2 e)
   have H4:Hid (Bo wr [(wr.heap.size,.cells (inC k y) 69)] (wr.alloc (.cells (inC k y) 69))):=⟨Has.one (heap_alloc_new _ _),(Below.refl _ _).alloc (Nat.le_refl _) _⟩;obtain⟨W4,hW4⟩:=xj (wr.alloc (.cells (inC k y) 69));rw[hW4]at H4;have zq0:=SO2.out W4 (hhas.on H4.out.bel);have r7:=H4.out.has.cell (.head _) (k:=7) rfl;have r8:=H4.out.has.cell (.head _) (k:=8) rfl;have r9:=H4.out.has.cell (.head _) (k:=9) rfl;have HQ:Hid (m+1<=L.length):=hml;clear hs1 hk1 hn1 hhas hT hm;go_wp2_with fail;refine(CQ.out _ H4.out.bel).mono ?_;rintro e w5 ⟨rfl,hf5⟩;have HF5:Hid _:=hf5;clear hf5 e0 e1 e2 e3 e4 e5 e6 e7 e8 e9 r7 r8 r9 hW4 zq0;go_wp2_with fail;go_roundw
   case rel=>exact⟨m+1,HQ.out,by go_num,HF5.out⟩
   case measure=>simp[intOf];omega
  ·have hml':¬(m:Int)<L.length:=by omega
   have HZ:Hid (L.take m=L):=List.take_of_length_le (by omega);clear hs1 hk1 hn1 hhas hm;go_wp2_with fail;go_end0
   refine⟨rfl,?_⟩;obtain⟨⟨N1,hs1,hk1,hn1⟩,-⟩:=HF.out;rw[HZ.out]at hs1;refine to_all (M1:=M1) (M2:=M2) (M3:=M3) hs1 (HD.out.2.1.trans (hk1.mono (fun i e=>(.inr (.inr (.inr (.inl e))):f.In M1 M2 M3 w i))) (fun i e=>.inl e)) (fun i hi=>(hn1 i hi).imp id (fun e=>Nat.le_trans HD.out.2.2.2.2.2.1 e)) HD.out.2.2.1 (fun _ e=>.inl e)
end Go.Proofs.YtdplfgcoaddbdaaGreat
namespace Go.Proofs.YtdplfgcoaddbdaaGreat
open Go.RowKit
variable {SA:TyS}{TA:TyT}{BA:TyB}
variable {f:Fp}{M:Nat->Prop}{X:Sd}{a:Int}{g:Nat}{D:Drm.Dr}{w W W':World}{Lo:List (Nat×Obj)}
structure Cx(SA:TyS)(TA:TyT)(BA:TyB)(f:Fp)(M:Nat->Prop)(w:World)(X:Sd)(a:Int)(g:Nat)(D:Drm.Dr)(Lo:List (Nat×Obj))(W:World):Prop where
 sh:∃M',ShAt SA TA BA f M' X a g D W/\(∀i,M' i->M i\/w.heap.size<=i)/\∀p∈Lo,¬M' p.1
 kp:Kept M w W
 has:Has Lo W
theorem Cx.start(h:ShAt SA TA BA f M X a g D w):Cx SA TA BA f M w X a g D [] w:=⟨⟨M,h,fun _ e=>.inl e,fun _ e=>by cases e⟩,Kept.refl _ _,fun _ e=>by cases e⟩
theorem Cx.to(h:Cx SA TA BA f M w X a g D Lo W):ShTo SA TA BA f M w X a g D W:=by obtain⟨⟨M',h1,h2,-⟩,h3,-⟩:=h;exact⟨M',h1,h3,h2⟩
theorem Cx.new(E:Env SA TA BA)(h:Cx SA TA BA f M w X a g D Lo W)(cs:Array Value)(ty:TypeId)(ht:ty≠5):Cx SA TA BA f M w X a g D ((W.heap.size,.cells cs ty (0,0))::Lo) (W.alloc (.cells cs ty (0,0))):=by
 obtain⟨⟨M',h1,h2,h3⟩,h4,h5⟩:=h;have hl:∀k,M' k->k<W.heap.size:=fun k hk=>h1.lt E hk;obtain⟨M1,M2,M3,hc,rfl⟩:=h1;have hb:=al (W:=W) (.cells cs ty (0,0));refine⟨⟨_,⟨M1,M2,M3,hc.on E hb,rfl⟩,fun i hi=>?_,fun p hp hi=>?_⟩,h4.trans (Kept.of_below (F:=fun _=>False) hb) (fun _ e=>e.elim),h5.new _⟩
 ·rcases In_kept (G:=fun _=>False) (Kept.of_below hb) hi with e|e|e
  ·exact h2 i e
  ·exact .inr (Nat.le_trans h4.size e)
  ·exact e.elim
 ·rcases List.mem_cons.1 hp with rfl|hp
  ·rcases hi with e|e|e|e|e|e|⟨-,cs',fz,e⟩
   ·exact absurd (lt_of_block hc.blk) (by rw[<-e];exact Nat.lt_irrefl _)
   ·exact absurd (Lgs.LbAt.lt hc.lg.blk) (by rw[<-e];exact Nat.lt_irrefl _)
   ·exact absurd hc.lg.drum.lt (by rw[<-e];exact Nat.lt_irrefl _)
   ·exact absurd (E.I.lt hc.s _ e).2 (Nat.lt_irrefl _)
   ·exact absurd (E.J.lt hc.t _ e).2 (Nat.lt_irrefl _)
   ·exact absurd (E.V.lt hc.v _ e).2 (Nat.lt_irrefl _)
   ·rw[heap_alloc_new]at e;injection e with e;injection e with _ e _;exact ht e
  ·rcases In_kept (G:=fun _=>False) (Kept.of_below hb) hi with e|e|e
   ·exact h3 p hp e
   ·have:=h5.lt p hp;omega
   ·exact e.elim
theorem Cx.on(E:Env SA TA BA)(h:Cx SA TA BA f M w X a g D Lo W)(hb:Below W.heap.size W W'):Cx SA TA BA f M w X a g D Lo W':=by
 obtain⟨⟨M',h1,h2,h3⟩,h4,h5⟩:=h;obtain⟨M2,h6,h7⟩:=h1.on E hb;refine⟨⟨M2,h6,fun i hi=>?_,fun p hp hi=>?_⟩,h4.trans (Kept.of_below (F:=fun _=>False) hb) (fun _ e=>e.elim),h5.on hb⟩
 ·rcases h7 i hi with e|e
  ·exact h2 i e
  ·exact .inr (Nat.le_trans h4.size e)
 ·rcases h7 _ hi with e|e
  ·exact h3 p hp e
  ·have:=h5.lt p hp;omega
theorem Cx.drew(E:Env SA TA BA)(h:Cx SA TA BA f M w X a g D Lo W):Cx SA TA BA f M w X a g D Lo W.drew:=h.on E (Below.refl _ _).drew
theorem Cx.less{Lo':List (Nat×Obj)}(h:Cx SA TA BA f M w X a g D Lo W)(hl:∀p∈Lo',p∈Lo):Cx SA TA BA f M w X a g D Lo' W:=by obtain⟨⟨M',h1,h2,h3⟩,h4,h5⟩:=h;exact⟨⟨M',h1,h2,fun p hp=>h3 p (hl p hp)⟩,h4,fun p hp=>h5 p (hl p hp)⟩
theorem Cx.next{M':Nat->Prop}{X2:Sd}{a2:Int}{g2:Nat}{D2:Drm.Dr}(h:Cx SA TA BA f M w X a g D Lo W)(h2:∀i,M' i->M i\/w.heap.size<=i)(h3:∀p∈Lo,¬M' p.1)(ht:ShTo SA TA BA f M' W X2 a2 g2 D2 W'):Cx SA TA BA f M w X2 a2 g2 D2 Lo W':=by
 obtain⟨M2,h5,h6,h7⟩:=ht;refine⟨⟨M2,h5,fun i hi=>?_,fun p hp hi=>?_⟩,h.kp.trans h6 h2,h.has.kept h6 h3⟩
 ·rcases h7 i hi with e|e
  ·exact h2 i e
  ·exact .inr (Nat.le_trans h.kp.size e)
 ·rcases h7 _ hi with e|e
  ·exact h3 p hp e
  ·have:=h.has.lt p hp;omega
theorem Cx.calls{n:Nat}{args:Array Value}{R:Ending->Prop}{X2:Sd}{a2:Int}{g2:Nat}{D2:Drm.Dr}(h:Cx SA TA BA f M w X a g D Lo W)(C:∀M',ShAt SA TA BA f M' X a g D W->Calls Tryz.prog n args W fun e w'=>R e/\ShTo SA TA BA f M' W X2 a2 g2 D2 w'):Calls Tryz.prog n args W fun e w'=>R e/\Cx SA TA BA f M w X2 a2 g2 D2 Lo w':=by obtain⟨M',h1,h2,h3⟩:=h.sh;refine(C M' h1).mono ?_;rintro e w' ⟨hr,ht⟩;exact⟨hr,h.next h2 h3 ht⟩
theorem Cx.reads(E:Env SA TA BA){n:Nat}{args:Array Value}{R:Ending->World->Prop}(h:Cx SA TA BA f M w X a g D Lo W)(C:∀M',ShAt SA TA BA f M' X a g D W->Calls Tryz.prog n args W fun e w'=>R e w'/\Below W.heap.size W w'):Calls Tryz.prog n args W fun e w'=>R e w'/\Cx SA TA BA f M w X a g D Lo w'/\Below W.heap.size W w':=by obtain⟨M',h1,h2,h3⟩:=h.sh;refine(C M' h1).mono ?_;rintro e w' ⟨hr,hb⟩;exact⟨hr,h.on E hb,hb⟩
theorem Cx.ptrs(h:Cx SA TA BA f M w X a g D Lo W):ce W f.sb 0 (pz f.pb)/\ce W f.sb 1 (pz f.lb)/\ce W f.sb 2 (pz f.st)/\ce W f.sb 3 (pz f.la)/\ce W f.sb 4 (pz f.ve):=by obtain⟨M',h1,-,-⟩:=h.sh;exact h1.cells
theorem Cx.nums(h:Cx SA TA BA f M w X a g D Lo W):ce W f.sb 5 (uw X.sp)/\ce W f.sb 6 (ui X.sl)/\ce W f.sb 7 (uw X.np)/\ce W f.sb 8 (ui X.nl)/\ce W f.sb 9 (uw X.bp)/\ce W f.sb 10 (ui X.bl):=by obtain⟨M',h1,-,-⟩:=h.sh;exact h1.nums
theorem Cx.free(h:Cx SA TA BA f M w X a g D Lo W)(k:Nat):W.frozen? ⟨f.sb,k,none⟩=false:=by obtain⟨M',h1,-,-⟩:=h.sh;exact h1.free k
theorem set_two(E:Env SA TA BA)(h:ShAt SA TA BA f M X a g D w)(j:Nat)(u v:Value)(X':Sd)(hX:((shc f X).setIfInBounds j u).setIfInBounds (j+1) v=shc f X')(hS:X'.S=X.S)(hT:X'.T=X.T)(hK:X'.K=X.K):ShTo SA TA BA f M w X' a g D ((w.setCell ⟨f.sb,j,none⟩ u).setCell ⟨f.sb,j+1,none⟩ v):=by obtain⟨M1,M2,M3,h,rfl⟩:=h;have h1:=Drm.blk_setCell (k:=j) (u:=u) h.blk;have h2:=Drm.blk_setCell (k:=j+1) (u:=v) h1;rw[hX]at h2;refine to_n E h h2 ⟨rfl,rfl,rfl,by simp,fun k hk hn=>?_⟩ hS hT hK;rw[Below.heap_setCell _ _ _ _ hn,Below.heap_setCell _ _ _ _ hn]
theorem Cx.set(E:Env SA TA BA)(h:Cx SA TA BA f M w X a g D Lo W)(j:Nat)(u v:Value)(X':Sd)(hX:((shc f X).setIfInBounds j u).setIfInBounds (j+1) v=shc f X')(hS:X'.S=X.S)(hT:X'.T=X.T)(hK:X'.K=X.K):Cx SA TA BA f M w X' a g D Lo ((W.setCell ⟨f.sb,j,none⟩ u).setCell ⟨f.sb,j+1,none⟩ v):=by obtain⟨M',h1,h2,h3⟩:=h.sh;exact h.next h2 h3 (set_two E h1 j u v X' hX hS hT hK)
theorem Cx.setNow(E:Env SA TA BA)(h:Cx SA TA BA f M w X a g D Lo W)(p l:Int):Cx SA TA BA f M w {X with np:=p,nl:=l} a g D Lo ((W.setCell ⟨f.sb,7,none⟩ (uw p)).setCell ⟨f.sb,8,none⟩ (ui l)):=h.set E 7 _ _ _ rfl rfl rfl rfl
theorem Cx.setSafe(E:Env SA TA BA)(h:Cx SA TA BA f M w X a g D Lo W)(p l:Int):Cx SA TA BA f M w {X with sp:=p,sl:=l} a g D Lo ((W.setCell ⟨f.sb,5,none⟩ (uw p)).setCell ⟨f.sb,6,none⟩ (ui l)):=h.set E 5 _ _ _ rfl rfl rfl rfl
theorem Cx.setBound(E:Env SA TA BA)(h:Cx SA TA BA f M w X a g D Lo W)(p l:Int):Cx SA TA BA f M w {X with bp:=p,bl:=l} a g D Lo ((W.setCell ⟨f.sb,9,none⟩ (uw p)).setCell ⟨f.sb,10,none⟩ (ui l)):=h.set E 9 _ _ _ rfl rfl rfl rfl
theorem info30:(Tryz.prog.info? 26).map (fun i=>(i.zero,i.size,i.bytes))=some (some (.agg #[ui 0,ui 0]),2,8):=by kernel_rfl
theorem tx_ow{base n:Nat}{sa:Option Addr}{sc:Nat}{l:List (Int×Int)}{w:World}(c m:Int)(ho:w.ownsRow base 26 2 (.slice sa n sc) n (rowC Ver.txc l))(hb:base<=w.heap.size)(hl:n<100000):
  Ow base 26 2 (.slice sa n sc) n (rowC Ver.txc l) (w.heap.size+1) (.slice (some ⟨w.heap.size,0,none⟩) 1 1) 1 (rowC Ver.txc [(c,m)]) (w.alloc (.cells #[ui c,ui m] 26)):=
 ⟨ho.alloc _,row_one Ver.txc 2 (fun _=>rfl) (c,m) 26 w (fun j u hj=>by
  match j,hj with
  |0,hj=>simp[Ver.txc]at hj;rw[<-hj];simp[go_sem,Ver.txc]
  |1,hj=>simp[Ver.txc]at hj;rw[<-hj];simp[go_sem,Ver.txc]
  |j+2,hj=>simp[Ver.txc]at hj),rowC_cells Ver.txc (fun x u hu=>by simp[Ver.txc]at hu;rcases hu with rfl|rfl<;>rfl) _,Nat.le_trans hb (by simp),by omega⟩
theorem holders86(E:Env SA TA BA)(h:ShAt SA TA BA f M X a g D w)(ht:X.T.length<9000):Calls Tryz.prog 76 #[pz f.sb] w fun e w'=>∃v',e=.returned v'/\w'.ownsRow w.heap.size 26 2 v' (holdF X.T).length (rowC Ver.txc (holdF X.T))/\Below w.heap.size w w':=by
 obtain⟨i0,hin0,hi0,hi1,hi2⟩:=info_parts info30;have CA:Hid (1=1->Calls Tryz.prog 25 #[pz f.la] w fun e w'=>∃ao cap,e=.returned (.slice ao X.T.length cap)/\Lat.IsAt w'.heap.size (.slice ao X.T.length cap) X.T w'/\Below w.heap.size w w'):=fun _=>by refine(sh_iall E h (by omega)).mono ?_;rintro e w' ⟨v',rfl,hi,-,hb⟩;have hi':=hi;obtain⟨ao,cap,rfl,-⟩:=hi';exact⟨ao,cap,rfl,hi,hb⟩
 have c3:=h.cells.2.2.2.1;obtain⟨T,hT⟩:=xj X.T;rw[hT]at CA ht|-;have HL:Hid (T.length<9000):=ht;have hL9:T.length<9223372036854775808:=by omega
 have HH:Hid (∀q,q<T.length->holdF (T.take (q+1))=holdF (T.take q)++[((T.getD q Lat.di).2.c,(T.getD q Lat.di).2.n)]):=fun q hq=>by rw[Lat.ttk_snoc hq];simp[holdF]
 clear hT h ht E;generalize f.sb=sb at*;generalize f.la=la at*;go_enter Tryz.func76,Tryz.ntmps76;go_wp2_with fail;refine(CA.out (by trivial)).mono ?_;rintro e w1 ⟨ao,cap,rfl,his,hb1⟩;have HI:Hid _:=his;have HB1:Hid _:=hb1;clear his hb1 CA c3;go_wp2_with fail;go_loopw [3,12] (fun vv i wr=>∃q:Nat,q<=T.length/\i=iw q/\wr.ownsRow w1.heap.size 26 2 vv (holdF (T.take q)).length (rowC Ver.txc (holdF (T.take q)))/\Below w1.heap.size w1 wr) (fun _ i _=>T.length-(intOf i).toNat)
 case atStart=>exact⟨0,Nat.zero_le _,rfl,Lat.own_nil _ _ _ _,Below.refl _ _⟩
 case round=>
  obtain⟨q,hq,rfl,hown,hbr⟩:=hrel;obtain⟨sa,sc,rfl,-,-,-,-⟩:=rw_own hown;have HO:Hid _:=hown;have HB:Hid (Below w1.heap.size w1 wr):=hbr;clear hown hbr;by_cases hml:q<T.length
  ·obtain⟨b,off,rfl,e0,e1,e2,e3,e4,e5,e6,e7,e8,e9⟩:=Lat.IsAt.el (RwAt.on HI.out HB.out) hml;have hml':(q:Int)<T.length:=by omega
   have hH:=HH.out q hml;have hln:(holdF (T.take q)).length<100000:=by simp only[holdF,List.length_map];have:=List.length_take_le' q T;have:=HL.out;omega
   generalize T.getD q Lat.di=x at*;obtain⟨k,y⟩:=x;dsimp only at e0 e1 e2 e3 e4 e5 e6 e7 e8 e9 hH;obtain⟨R1,hR1⟩:=xj (holdF (T.take (q+1)));rw[hR1]at hH;have HR1:Hid (holdF (T.take (q+1))=R1):=hR1;generalize holdF (T.take q)=R at*;have HHq:Hid (R1=R++[(y.c,y.n)]):=hH;have HQ:Hid (q+1<=T.length):=hml;have H4:Hid (Bo wr [(wr.heap.size,.cells (inC k y) 69)] (wr.alloc (.cells (inC k y) 69))):=⟨Has.one (heap_alloc_new _ _),(Below.refl _ _).alloc (Nat.le_refl _) _⟩;obtain⟨W4,hW4⟩:=xj (wr.alloc (.cells (inC k y) 69));rw[hW4]at H4;have r0:=H4.out.has.cell (.head _) (k:=0) rfl;have r1:=H4.out.has.cell (.head _) (k:=1) rfl;have HOw:Hid (Ow w1.heap.size 26 2 (.slice sa R.length sc) R.length (rowC Ver.txc R) (W4.heap.size+1) (.slice (some ⟨W4.heap.size,0,none⟩) 1 1) 1 (rowC Ver.txc [(y.c,y.n)]) (W4.alloc (.cells #[ui y.c,ui y.n] 26))):=tx_ow y.c y.n (own_on HO.out H4.out.bel) (Nat.le_trans HB.out.size H4.out.bel.size) hln;have HBz:Hid (Below w1.heap.size w1 (W4.alloc (.cells #[ui y.c,ui y.n] 26))):=(HB.out.trans (H4.out.bel.mono HB.out.size)).alloc (Nat.le_trans HB.out.size H4.out.bel.size) _;clear hH hR1 hq hln;go_wp2_with (at_builtin;refine wpList_append_rw HOw.out Tryz.underlying30 hin0 hi0 hi1 hi2 rfl (by decide) (by decide) (.tmp 16) (.tmp 19) rfl rfl rfl rfl ?_);intro v' w4 hown hg hat;have HB4:Hid (Below w1.heap.size w1 w4):=Lat.below_own HBz.out HOw.out.size HOw.out.own hg;obtain⟨sa4,sc4,rfl,-,-,-,-⟩:=rw_own hown;have HO4:Hid (w4.ownsRow w1.heap.size 26 2 (.slice sa4 (R.length+1) sc4) (R++[(y.c,y.n)]).length (rowC Ver.txc (R++[(y.c,y.n)]))):=by rw[rowC_append,List.length_append];exact hown
   clear hown hg hat HOw HBz;go_wp2_with fail;go_roundw
   case rel=>exact⟨q+1,HQ.out,by go_num,by rw[HR1.out,HHq.out];exact HO4.out,HB4.out⟩
   case measure=>simp[intOf];omega
  ·have hml':¬(q:Int)<T.length:=by omega
   have HZ:Hid (T.take q=T):=List.take_of_length_le (by omega);rw[HZ.out]at HO;generalize hR:T.take q=Tq at*;rw[HZ.out]at hR|-;clear hR;go_wp2_with fail;go_ret;exact⟨_,rfl,own_le HO.out HB1.out.size,HB1.out.trans (HB.out.mono HB1.out.size)⟩
end Go.Proofs.YtdplfgcoaddbdaaGreat
