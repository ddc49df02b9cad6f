import Derived.Test.YtnfpfbehebcdpaaGreatVbh
import Derived.Test.YtnfpfbehebcdpaaGreatVbi
set_option maxHeartbeats 0
set_option maxRecDepth 99999
set_option linter.all false
namespace Go.Proofs.YtnfpfbehebcdpaaGreat
open Go.RowKit
variable {SA:TyS}{TA:TyT}{BA:TyB}
variable {f:Fp}{M:Nat->Prop}{X:Sd}{a:Int}{g:Nat}{D:Drm.Dr}{w w1 w2 w3 w4 W W':World}{Lo:List (Nat×Obj)}{pb lb st la ve:Nat}{M1 M2 M3:Nat->Prop}
def Dk(pb:Nat)(w:World)(k:Nat):Prop:=k=pb\/(pb<=k/\ByR w k)
def akg(h:Drm.Kept pb w W):Kept (Dk pb w) w W:=af6 h
def Dk.back{k:Nat}(h:Kept (Dk pb w) w W)(hk:Dk pb W k):Dk pb w k\/w.heap.size<=k:=by
 by_cases hl:k<w.heap.size
 .by_cases hd:Dk pb w k
  .exact .inl hd
  .rcases hk with e|⟨e,e2⟩
   .exact .inl (.inl e)
   .exact .inl (.inr ⟨e,Vu h e2 hl hd⟩)
 .exact .inr (by omega)
def aq8(h:Kept (Dk pb w) w W)(h2:Kept (Dk pb W) W W'):Kept (Dk pb w) w W':=h.trans h2 λi hi=>Dk.back h hi
def Cx.re{f2:Fp}{M2:Nat->Prop}{X2:Sd}{a2:Int}{g2:Nat}{D2:Drm.Dr}(h:Cx SA TA BA f M w X a g D Lo W)(h2:ShAt SA TA BA f2 M2 X2 a2 g2 D2 W')(hk:Kept (Dk f.pb W) W W')(hM:∀i,M2 i->Dk f.pb W i\/W.heap.size<=i):Cx SA TA BA f2 M w X2 a2 g2 D2 Lo W':=by
 obtain⟨⟨M',h3,h4,h5⟩,h6,h7⟩:=h;obtain⟨N1,N2,N3,hc,rfl⟩:=h3;have hd:∀i,Dk f.pb W i->f.In N1 N2 N3 W i:=λi hi=>hi.elim (λe=>.inr (.inr (.inl e))) (λe=>.inr (.inr (.inr (.inr (.inr (.inr e))))));refine⟨⟨M2,h2,λi hi=>?_,λp hp hi=>?_⟩,h6.trans hk (λi hi=>h4 i (hd i hi)),λp hp=>Ov (h7 p hp) hk (λe=>h5 p hp (hd _ e))⟩
 .rcases hM i hi with e|e
  .exact h4 i (hd i e)
  .exact .inr (ak h6.size e)
 .rcases hM _ hi with e|e
  .exact h5 p hp (hd _ e)
  .have:=h7.lt p hp;omega
def aqj{c n p l:Int}(h:Gd X)(hn:Ts p l):Gd {X with T:=Lat.rseF c n p l X.T}:=by
 have hz:∀y∈Lat.rseF c n p l X.T,∃x∈X.T,y=x\/y=(x.1,Lat.Hg c n p l x.2):=λy hy=>by
  exact bcv
 have o:=h.ok;refine⟨⟨o.s,o.n,o.b,?_,?_,o.k⟩,?_,h.ky⟩
 .intro z hz';exact bbo
 .intro y hy;exact bcl
 .intro y hy;obtain⟨x,hx,rfl|rfl⟩:=hz y hy
  .exact h.ri _ hx
  .have:=h.ri x hx;dsimp only;rw[(Fh _ _ _ _ x.2).2.2.1,(Fh _ _ _ _ x.2).2.2.2.1];exact this
def awy{q m:Int}(hn:Ts q m):∀(L:Lat.Tb) {X:Sd},Gd X->Gd {X with T:=L.foldl (wk1 q m) X.T}
 |[],_,h=>h
 |x::L,X,h=>by
  rw[List.foldl_cons];refine awy hn L (X:={X with T:=wk1 q m X.T x}) ?_;unfold wk1;split
  .exact aqj h hn
  .exact h
def au6(h:Gd X):Gd (Nh X)/\(Nh X).wt=X.wt:=by
 have hw:Ts (wkT X).1 (wkT X).2:=by
  unfold wkT;split
  .exact h.ok.b
  .exact Yv h.ok.b
 refine⟨?_,?_⟩
 .exact awy hw X.T (X:={X with np:=X.bp,nl:=X.bl}) ⟨⟨h.ok.s,h.ok.b,h.ok.b,h.ok.t,h.ok.i,h.ok.k⟩,h.ri,h.ky⟩
 .have:=anc (wkT X).1 (wkT X).2 X.T X.T;unfold Sd.wt Nh;dsimp only;omega
def ah2{e:Ent.En}(he:Ent.EnOk e/\e.k<=7)(hw:(Ent.Bj e).2=0)(hT:Lat.TOk X.T)(hS:Sto.SOk X.S)(h:Gd X):Gd (Bc e X)/\(Bc e X).wt<=X.wt+16:=by
 have hr:Ent.Eo e=true:=by
  exact bd4
 have hk:=(Ent.G5 hr).1.1;by_cases h1:e.k=1
 .have hb:=he.1.ap;unfold Bc;rw[ah h1];exact⟨⟨⟨h.ok.s,h.ok.n,⟨⟨by dsimp only;omega,by dsimp only;omega⟩,by dsimp only;omega,by dsimp only;omega⟩,h.ok.t,h.ok.i,h.ok.k⟩,h.ri,h.ky⟩,Nat.le_add_right _ _⟩
 .exact ace he.1 ⟨by omega,he.2⟩ hT hS h
def sc90(pb lb st la ve:Nat):Obj:=.cells #[pz pb,pz lb,pz st,pz la,pz ve,uw 0,ui 0,uw 0,ui 0,uw 0,ui 0] 90 (0,0)
def mk90(E:Env SA TA BA)(h1:Lgs.LgAt lb pb a g D w1)(hO:D.Ok)(h2:SA w1.heap.size st M1 [] w2)(b2:Bw w1 w2)(h3:TA w2.heap.size la M2 [] w3)(b3:Bw w2 w3)(h4:BA w3.heap.size ve M3 [] w4)(b4:Bw w3 w4):
  ∃M,ShAt SA TA BA ⟨pb,w4.heap.size,pb,lb,st,la,ve,w1.heap.size,w2.heap.size,w3.heap.size⟩ M Sd.new a g D (w4.alloc (sc90 pb lb st la ve))/\∀i,M i->Dk pb w1 i\/i=lb\/w1.heap.size<=i:=by
 have kA:=al (W:=w4) (sc90 pb lb st la ve);have b24:Bw w2 (w4.alloc (sc90 pb lb st la ve)):=b3.trans ((b4.trans (kA.mono b4.size)).mono b3.size);have b34:Bw w3 (w4.alloc (sc90 pb lb st la ve)):=b4.trans (kA.mono b4.size);have b14:Bw w1 (w4.alloc (sc90 pb lb st la ve)):=b2.trans (b24.mono b2.size);have s12:=b2.size;have s23:=b3.size;have s34:=b4.size;have hlb:=Lgs.Md.lt h1.blk;have hpl:=h1.ne;have e1:=E.I.lt h2;have e2:=E.J.lt h3;have e3:=E.V.lt h4;refine⟨_,⟨M1,M2,M3,⟨ae w4 _,Su h1 (Kept.of_below (F:=λ_=>False) b14) (λh=>h) (λh=>h) (λ_ _ _ h=>h),hO,E.I.keep h2 (Kept.of_below (F:=λ_=>False) b24) (λ_ _ h=>h) (λ_ h=>h.elim),E.J.keep h3 (Kept.of_below (F:=λ_=>False) b34) (λ_ _ h=>h),E.V.keep h4 (Kept.of_below (F:=λ_=>False) kA) (λ_ _ h=>h),λk m1 m2=>?_,λk m1 m3=>?_,λk m2 m3=>?_,λk hk=>?_,⟨?_,?_⟩,⟨?_,?_,?_,?_,?_⟩⟩,rfl⟩,λi hi=>?_⟩
 .have:=e1 k m1;have:=e2 k m2;omega
 .have:=e1 k m1;have:=e3 k m3;omega
 .have:=e2 k m2;have:=e3 k m3;omega
 .show k≠w4.heap.size/\k≠lb/\k≠pb;rcases hk with hk|hk|hk
  .have:=e1 k hk;exact⟨by omega,by omega,by omega⟩
  .have:=e2 k hk;exact⟨by omega,by omega,by omega⟩
  .have:=e3 k hk;exact⟨by omega,by omega,by omega⟩
 rotate_right
 .rcases hi with e|e|e|e|e|e|⟨e,e2⟩
  .dsimp only at e;exact .inr (.inr (by omega))
  .exact .inr (.inl e)
  .exact .inl (.inl e)
  .exact .inr (.inr (e1 i e).1)
  .exact .inr (.inr (by have:=(e2 i e).1;omega))
  .exact .inr (.inr (by have:=(e3 i e).1;omega))
  .by_cases hl:i<w1.heap.size
   .exact .inl (.inr ⟨e,Vu (Kept.of_below (F:=λ_=>False) b14) e2 hl (λh=>h)⟩)
   .exact .inr (.inr (by omega))
 all_goals (dsimp only;omega)
def ay9:Gd Sd.new:=⟨⟨⟨⟨by decide,by decide⟩,by decide,by decide⟩,⟨⟨by decide,by decide⟩,by decide,by decide⟩,⟨⟨by decide,by decide⟩,by decide,by decide⟩,λ_ h=>by simp[Eh,Sd.new]at h,λ_ h=>(by cases h),λ_ h=>(by cases h)⟩,λ_ h=>(by cases h),λ_ h=>(by cases h)⟩
def abv{D0:Drm.Dr}(h:D0.Ok):(Lgs.Qm D0).2.2.Ok:=by
 have h1:=Lgs.aaw h (Lgs.Ap D0 4).1 4;unfold Lgs.Qm;repeat' split
 all_goals first|exact h1|exact ap2 h1 _ _ _|exact h1.trim _ _
end Go.Proofs.YtnfpfbehebcdpaaGreat
namespace Go.Proofs.YtnfpfbehebcdpaaGreat
open Go.RowKit
variable {SA:TyS}{TA:TyT}{BA:TyB}
variable {f:Fp}{M:Nat->Prop}{X:Sd}{a:Int}{g:Nat}{D:Drm.Dr}{w w1 W W':World}{Lo:List (Nat×Obj)}{es:List Ent.En}{e:Ent.En}{j:Nat}
structure Rr(V:Value)(R:List Bi)(Lo:List (Nat×Obj)):Prop where
 el:∃ao cp,V=.slice ao R.length cp/\∀W,Has Lo W->∀j,j<R.length->∃b off,ao=some ⟨b,off,none⟩/\ce W b (off+j) (.string (bs (R.getD j [])))
def rr_of{B:Nat}{V:Value}{R:List Bi}(h:Lgs.TxAt B V R W):∃Lo,Has Lo W/\Rr V R Lo/\∀p∈Lo,B<=p.1/\∃cs,p.2=.cells cs 9 (0,0):=by
 have hc:∀gg,V.ownBlock=some gg->∀j,j<R.length->ce W gg (0+j) (.string (bs (R.getD j []))):=λgg hg j hj=>by have:=World.ownsRow.cells h (g:=gg) hg j (.string (bs (R.getD j []))) (by simp[Lgs.sl,List.getD,qi,bf hj]);rw[uj]at this;exact this
 rcases h.2 with⟨rfl,h0⟩|⟨gg,cap,cur,rfl,hg,hh,-⟩
 .exact⟨[],(λp hp=>by cases hp),⟨none,0,by rw[h0],λW _ j hj=>by omega⟩,λp hp=>by cases hp⟩
 .refine⟨[(gg,.cells cur 9 (0,0))],Has.one hh,⟨_,cap,rfl,λW2 h2 j hj=>⟨gg,0,rfl,?_⟩⟩,λp hp=>?_⟩
  .have h3:=hc gg rfl j hj;have h4:=h2 _ (kw.2 rfl);dsimp only at h4;unfold ce World.cell? at h3|-;rw[h4];rw[hh]at h3;exact h3
  .rw[kw.1 hp];exact⟨hg,cur,rfl⟩
structure Op(SA:TyS)(TA:TyT)(BA:TyB)(f:Fp)(M:Nat->Prop)(w:World)(a:Int)(g:Nat)(D:Drm.Dr)(es:List Ent.En)(Lo:List (Nat×Obj))(j:Nat)(W:World):Prop where
 cx:Cx SA TA BA f M w (Rep (es.take j)) a g D Lo W
 gd:Gd (Rep (es.take j))
 wt:(Rep (es.take j)).wt<=16*j
def Op.read(E:Env SA TA BA)(h:Op SA TA BA f M w a g D es Lo j W)(he:Ent.EnOk e)(hw:(Ent.Bj e).2=0):cpr 23 #[.string (bs (Ent.Bj e).1)] W λr w'=>∃ao cp Lo',r=.returned (.tuple #[enV e ao cp,iw 0])/\Op SA TA BA f M w a g D es Lo' j w'/\(∀p∈Lo,p∈Lo')/\(∀k,(Value.slice ao e.ws.length cp).ownBlock=some k->∃o,(k,o)∈Lo')/\Bw W w'/\Lat.WsAt w'.heap.size (.slice ao e.ws.length cp) e.ws w':=by
 have hr:Ent.Eo e=true:=by
  exact bd4
 have e1:(Ent.Bj e).1=Ent.Iu e:=by unfold Ent.Bj;rw[ah hr]
 rw[e1];refine(E.E.rd e W hr he).mono ?_;rintro r w' ⟨h1,ao,cp,rfl,h4,B,h5,h6⟩;obtain⟨Lo',k1,k2,k3⟩:=h.cx.row E h1 (Lj h6 h5) (by decide);exact⟨ao,cp,Lo',rfl,⟨k1,h.gd,h.wt⟩,k2,k3,h1,h4⟩
def Op.new(E:Env SA TA BA)(h:Op SA TA BA f M w a g D es Lo j W)(cs:Array Value)(ty:TypeId)(ht:ty≠5):Op SA TA BA f M w a g D es ((W.heap.size,.cells cs ty (0,0))::Lo) j (W.alloc (.cells cs ty (0,0))):=⟨h.cx.new E cs ty ht,h.gd,h.wt⟩
def Op.less{Lo':List (Nat×Obj)}(h:Op SA TA BA f M w a g D es Lo j W)(hl:∀p∈Lo',p∈Lo):Op SA TA BA f M w a g D es Lo' j W:=⟨h.cx.less hl,h.gd,h.wt⟩
def Op.foll(E:Env SA TA BA)(h:Op SA TA BA f M w a g D es Lo j W)(hj:es[j]?=some e)(he:Ent.EnOk e/\e.k<=7)(hw:(Ent.Bj e).2=0)(hlen:16*es.length<9000){ao:Option Addr}{cp:Nat}(hr:Lat.WsAt W.heap.size (.slice ao e.ws.length cp) e.ws W)(hp:∀k,(Value.slice ao e.ws.length cp).ownBlock=some k->∃o,(k,o)∈Lo):cpr 24 #[pz f.sb,enV e ao cp] W λr w'=>r=.returned (.tuple #[])/\Op SA TA BA f M w a g D es Lo (j+1) w':=by
 have hj':=(gy.1 hj).1;have hrt:Ent.Eo e=true:=by
  exact bd4
 have et:Rep (es.take (j+1))=Bc e (Rep (es.take j)):=by rw[xg,hj,Option.toList_some,Zu]
 obtain⟨M',hS,h2,h3⟩:=h.cx.sh;have hto:Lat.TOk (Rep (es.take j)).T/\Sto.SOk (Rep (es.take j)).S:=by obtain⟨N1,N2,N3,hc,-⟩:=hS;exact⟨E.J.ok hc.t,E.I.sok hc.s⟩
 have hg:=ah2 he hw hto.1 hto.2 h.gd;refine(afz E e ao cp hS (by have:=h.wt;omega) h.gd.ok.t he.1 hrt ⟨hr,λ_ k hk hm=>?_⟩).mono ?_
 .obtain⟨o,ho⟩:=hp k hk;exact h3 _ ho hm
 .rintro r w' ⟨rfl,hs⟩;exact⟨rfl,by rw[et];exact h.cx.next h2 h3 hs,by rw[et];exact hg.1,by rw[et];have:=hg.2;have:=h.wt;omega⟩
end Go.Proofs.YtnfpfbehebcdpaaGreat
namespace Go.Proofs.YtnfpfbehebcdpaaGreat
open Go.RowKit
variable {SA:TyS}{TA:TyT}{BA:TyB}
variable {f:Fp}{M:Nat->Prop}{X:Sd}{a:Int}{g:Nat}{D:Drm.Dr}{w w1 W W':World}{Lo:List (Nat×Obj)}{pb:Nat}
def ao5(E:Env SA TA BA){es:List Ent.En}{D0:Drm.Dr}(hD:Drm.Ak pb D0 w)(hOk:D0.Ok)(hdn:D0.down=false)(ho:Lgs.Qm D0=(0,(a,g,enc es),D))(hok1:D.Ok)(hes:∀e∈es,(Ent.Bj e).2=0/\Ent.EnOk e/\e.k<=7)(hlen:16*es.length<9000):
  cpr 8 #[pz pb] w λr w'=>∃f M,r=.returned (.tuple #[pz f.sb,iw 0])/\Hid (ShAt SA TA BA f M (Nh (Rep es)) a g D w'/\f.pb=pb/\Kept (Dk pb w) w w'/\(∀i,M i->Dk pb w i\/w.heap.size<=i)/\Gd (Nh (Rep es))/\(Nh (Rep es)).wt<=16*es.length):=by
 have hel:(enc es).length=es.length:=by simp[enc]
 have CO:Hid (1=1->cpr 19 #[pz pb] w λe w'=>∃lb ao cp,e=.returned (.tuple #[pz lb,.slice ao es.length cp,iw 0])/\Hid (Lgs.LgAt lb pb a g D w'/\Lgs.TxAt w.heap.size (.slice ao es.length cp) (enc es) w'/\w.heap.size<=lb/\Kept (Dk pb w) w w')):=λ_=>by refine(Lgs.at1 pb w hD hOk hdn ho).mono ?_;rintro e w' ⟨lb,V,rfl,h1,h2,h3,h4⟩;obtain⟨ao,cp,rfl⟩:=Lgs.J9 h2;rw[hel]at h2;exact⟨lb,ao,cp,by rw[hel],h1,h2,h3,akg h4⟩
 have CS:Hid (∀W:World,1=1->_):=λW _=>E.I.new W;have CT:Hid (∀W:World,1=1->_):=λW _=>E.J.new W;have CV:Hid (∀W:World,1=1->_):=λW _=>E.V.new W;have MK:Hid (∀(lb st la ve:Nat) (ao:Option Addr) (cp:Nat) (M1 M2 M3:Nat->Prop) (w1 w2 w3 w4:World),Lgs.LgAt lb pb a g D w1/\Lgs.TxAt w.heap.size (.slice ao es.length cp) (enc es) w1/\w.heap.size<=lb/\Kept (Dk pb w) w w1->SA w1.heap.size st M1 [] w2/\Bw w1 w2->TA w2.heap.size la M2 [] w3/\Bw w2 w3->BA w3.heap.size ve M3 [] w4/\Bw w3 w4->∃F M Lo,F.sb=w4.heap.size/\Hid (Op SA TA BA F M (w4.alloc (sc90 pb lb st la ve)) a g D es Lo 0 (w4.alloc (sc90 pb lb st la ve))/\Rr (.slice ao es.length cp) (enc es) Lo/\F.pb=pb/\Kept (Dk pb w) w (w4.alloc (sc90 pb lb st la ve))/\∀i,M i->Dk pb w i\/w.heap.size<=i)):=λlb st la ve ao cp M1 M2 M3 w1 w2 w3 w4 ⟨h1,h2,h3,h4⟩ ⟨a2,b2⟩ ⟨a3,b3⟩ ⟨a4,b4⟩=>by
  obtain⟨M,k1,k2⟩:=mk90 E h1 hok1 a2 b2 a3 b3 a4 b4;have b14:Bw w1 (w4.alloc (sc90 pb lb st la ve)):=b2.trans ((b3.trans ((b4.trans ((al _).mono b4.size)).mono b3.size)).mono b2.size);obtain⟨Lo,l1,l2,l3⟩:=rr_of h2;refine⟨_,M,Lo,rfl,⟨⟨⟨M,k1,λi hi=>.inl hi,λp hp hm=>?_⟩,Kept.refl _ _,l1.on b14⟩,by simpa[Rep]using ay9,by simp[Rep,Sd.wt,Sd.new,Sto.totS]⟩,l2,rfl,h4.trans (Kept.of_below (F:=λ_=>False) b14) (λ_ h=>h.elim),λi hi=>?_⟩
  .obtain⟨l4,cs,l5⟩:=l3 p hp;have l6:=l1 p hp;rw[l5]at l6;have nb:∀{o:Obj},w1.heap[p.1]?=some o->(∀cs fz,o≠ .cells cs 9 fz)->False:=λh hn=>by rw[l6]at h;injection h with h;exact hn _ _ h.symm
   rcases k2 _ hm with(e|⟨-,cs',fz,e⟩)|e|e
   .obtain⟨vs,hd⟩:=h1.drum;exact nb (e▸hd.blk) (λ_ _ e=>by injection e with _ e _;exact absurd e (by decide))
   .exact nb e (λ_ _ e=>by injection e with _ e _;exact absurd e (by decide))
   .exact nb (e▸h1.blk) (λ_ _ e=>by injection e with _ e _;exact absurd e (by decide))
   .have:=l1.lt p hp;omega
  .rcases k2 i hi with e|e|e
   .exact Dk.back h4 e
   .exact .inr (e▸h3)
   .exact .inr (ak h4.size e)
 have HE:Hid (Env SA TA BA):=E;have HES:Hid (∀e∈es,(Ent.Bj e).2=0/\Ent.EnOk e/\e.k<=7):=hes;have HEL:Hid (16*es.length<9000/\(enc es).length=es.length/\∀j,(enc es).getD j []=((es[j]?).map λe=>(Ent.Bj e).1).getD []):=⟨hlen,hel,λj=>by simp[enc,List.getD]⟩;clear hD hOk ho hok1 E hes hdn hel hlen;go_enter Tryz.func8,Tryz.ntmps8;go_wp2_with fail;refine(CO.out (by trivial)).mono ?_;rintro e w1 ⟨lb,ao,cp,rfl,H1⟩;clear CO;go_wp2_with fail;refine(CS.out _ (by trivial)).mono ?_;rintro e w2 ⟨st,M1,rfl,h2,hb2⟩;have H2:Hid (SA w1.heap.size st M1 [] w2/\Bw w1 w2):=⟨h2,hb2⟩;clear h2 hb2 CS;go_wp2_with fail;refine(CT.out _ (by trivial)).mono ?_;rintro e w3 ⟨la,M2,rfl,h3,hb3⟩;have H3:Hid (TA w2.heap.size la M2 [] w3/\Bw w2 w3):=⟨h3,hb3⟩;clear h3 hb3 CT;go_wp2_with fail;refine(CV.out _ (by trivial)).mono ?_;rintro e w4 ⟨ve,M3,rfl,h4,hb4⟩;obtain⟨F,M,Lo,hsb,H5⟩:=MK.out lb st la ve ao cp M1 M2 M3 w1 w2 w3 w4 H1.out H2.out H3.out ⟨h4,hb4⟩;unfold sc90 at H5;clear h4 hb4 CV MK H1 H2 H3;go_upto_region 5 with fail
 obtain⟨W5,hW5⟩:=xj (w4.alloc (.cells #[pz pb,pz lb,pz st,pz la,pz ve,uw 0,ui 0,uw 0,ui 0,uw 0,ui 0] 90));rw[hW5,<-hsb];have H5b:Hid (Op SA TA BA F M W5 a g D es Lo 0 W5/\Rr (.slice ao es.length cp) (enc es) Lo/\F.pb=pb/\Kept (Dk pb w) w W5/\∀i,M i->Dk pb w i\/w.heap.size<=i):=by rw[<-hW5];exact H5.out
 clear hW5 hsb H5;have hl63:es.length<9223372036854775808:=by have:=HEL.out.1;omega
 go_wp2_with fail;go_loopw [30] (λi wr=>∃j:Nat,j<=es.length/\i=iw j/\Op SA TA BA F M W5 a g D es Lo j wr) (λi _=>es.length-(intOf i).toNat)
 case atStart=>exact⟨0,gp _,rfl,H5b.out.1⟩
 case round=>
  obtain⟨j,hj,rfl,hw⟩:=hrel;have HO:Hid (Op SA TA BA F M W5 a g D es Lo j wr):=hw;clear hw;by_cases hjl:j<es.length
  .have hjl':(j:Int)<es.length:=by omega
   obtain⟨e,he⟩:∃e,es[j]?=some e:=⟨_,bf hjl⟩;have hee:=HES.out e (wz he);have HX:=H5b.out.2.1.el;obtain⟨ao',cp',hs,hc⟩:=HX;injection hs with hs1 hs0 hs2;clear hs0;subst hs1 hs2;obtain⟨b,off,rfl,hcell⟩:=hc wr HO.out.cx.has j (by rw[HEL.out.2.1];exact hjl);rw[HEL.out.2.2,he]at hcell;have hcl:ce wr b (off+j) (.string (bs (Ent.Bj e).1)):=hcell;clear hc hcell;have CR:Hid (1=1->_):=λ_=>HO.out.read HE.out hee.2.1 hee.1;have CF:Hid (∀ao cp Lo2 W,Op SA TA BA F M W5 a g D es Lo2 j W->Lat.WsAt W.heap.size (.slice ao e.ws.length cp) e.ws W->(∀k,(Value.slice ao e.ws.length cp).ownBlock=some k->∃o,(k,o)∈Lo2)->cpr 24 #[pz F.sb,.agg (enC e ao cp)] W λr w'=>r=.returned (.tuple #[])/\Op SA TA BA F M W5 a g D es Lo2 (j+1) w'):=λao cp Lo2 W h1 h2 h3=>h1.foll HE.out he hee.2 hee.1 HEL.out.1 h2 h3;clear hee he;go_wp2_with fail;refine(CR.out (by trivial)).mono ?_;rintro r w2 ⟨ao2,cp2,Lo2,rfl,q1,q2,q3,q4,q5⟩;have HQ:Hid (Op SA TA BA F M W5 a g D es Lo2 j w2/\(∀p∈Lo,p∈Lo2)/\(∀k,(Value.slice ao2 e.ws.length cp2).ownBlock=some k->∃o,(k,o)∈Lo2)/\Lat.WsAt w2.heap.size (.slice ao2 e.ws.length cp2) e.ws w2):=⟨q1,q2,q3,q5⟩;clear q1 q2 q3 q4 q5 CR hcl HO;unfold enV;go_upto_region 9 with fail
   obtain⟨W3,hW3⟩:=xj (w2.alloc (.cells (enC e ao2 cp2) 92));obtain⟨be,hbe⟩:=xj w2.heap.size;have H3:Hid (Op SA TA BA F M W5 a g D es ((be,.cells (enC e ao2 cp2) 92 (0,0))::Lo2) j W3/\Lat.WsAt W3.heap.size (.slice ao2 e.ws.length cp2) e.ws W3):=by rw[<-hW3,<-hbe];exact⟨HQ.out.1.new HE.out _ 92 (by decide),(RwAt.on HQ.out.2.2.2 (al _)).le (al _).size⟩
   rw[hW3,hbe];clear hW3 hbe;have d0:ce W3 be 0 (iw e.k):=H3.out.1.cx.has.cell tq0 rfl;have d1:ce W3 be 1 (ui e.c):=H3.out.1.cx.has.cell tq0 rfl;have d2:ce W3 be 2 (ui e.n):=H3.out.1.cx.has.cell tq0 rfl;have d3:ce W3 be 3 (uw e.sp):=H3.out.1.cx.has.cell tq0 rfl;have d4:ce W3 be 4 (ui e.sl):=H3.out.1.cx.has.cell tq0 rfl;have d5:ce W3 be 5 (uw e.ap):=H3.out.1.cx.has.cell tq0 rfl;have d6:ce W3 be 6 (ui e.al):=H3.out.1.cx.has.cell tq0 rfl;have d7:ce W3 be 7 (uw e.mp):=H3.out.1.cx.has.cell tq0 rfl;have d8:ce W3 be 8 (ui e.ml):=H3.out.1.cx.has.cell tq0 rfl;have d9:ce W3 be 9 (sd e.prim):=H3.out.1.cx.has.cell tq0 rfl;have d10:ce W3 be 10 (ub e.pt):=H3.out.1.cx.has.cell tq0 rfl;have d11:ce W3 be 11 (.bool e.dn):=H3.out.1.cx.has.cell tq0 rfl;have d12:ce W3 be 12 (.slice ao2 e.ws.length cp2):=H3.out.1.cx.has.cell tq0 rfl;go_wp2_with fail;refine(CF.out _ _ _ _ H3.out.1 H3.out.2 (λk hk=>(HQ.out.2.2.1 k hk).imp λo ho=>eu _ ho)).mono ?_;rintro r w6 ⟨rfl,q6⟩;have H6:Hid (Op SA TA BA F M W5 a g D es Lo (j+1) w6):=q6.less λp hp=>eu _ (HQ.out.2.1 p hp);clear q6 d0 d1 d2 d3 d4 d5 d6 d7 d8 d9 d10 d11 d12 H3 HQ CF;go_wp2_with fail;go_roundw
   case rel=>exact⟨j+1,by omega,by go_num,H6.out⟩
   case measure=>simp[intOf];omega
  .have hjl':¬(j:Int)<es.length:=by omega
   have CW:Hid (1=1->cpr 25 #[pz F.sb] wr λr w'=>r=.returned (.tuple #[])/\Hid (∃M',ShAt SA TA BA F M' (Nh (Rep es)) a g D w'/\F.pb=pb/\Kept (Dk pb w) w w'/\(∀i,M' i->Dk pb w i\/w.heap.size<=i)/\Gd (Nh (Rep es))/\(Nh (Rep es)).wt<=16*es.length)):=λ_=>by
    have ej:es.take j=es:=au (by omega);obtain⟨hc,hg,ht⟩:=HO.out;rw[ej]at hc hg ht;obtain⟨M',hS,h2,h3⟩:=hc.sh;have l:=HEL.out.1;refine(aw7 HE.out hS (by omega) hg.ok.b).mono ?_;rintro r w' ⟨rfl,hs⟩;obtain⟨M2,k1,k2,k3⟩:=(hc.next h2 h3 hs).to;obtain⟨-,-,r3,r4,r5⟩:=H5b.out;have gw:=au6 hg;refine⟨rfl,M2,k1,r3,r4.trans k2 r5,λi hi=>?_,gw.1,by rw[gw.2];omega⟩;rcases k3 i hi with e|e
    .exact r5 i e
    .exact .inr (ak r4.size e)
   clear HO;go_wp2_with fail;refine(CW.out (by trivial)).mono ?_;rintro e w6 ⟨rfl,H6⟩;clear CW;go_wp2_with fail
   go_ret2
   obtain⟨M6,h6⟩:=H6.out;exact⟨F,M6,rfl,h6⟩
end Go.Proofs.YtnfpfbehebcdpaaGreat
namespace Go.Proofs.YtnfpfbehebcdpaaGreat
open Go.RowKit
variable {SA:TyS}{TA:TyT}{BA:TyB}
variable {f:Fp}{X:Sd}{a g pb sb N:Nat}{D:Drm.Dr}{w w1 W W':World}{Lo:List (Nat×Obj)}{t:Bool}{c n p l:Int}
structure Ps(SA:TyS)(TA:TyT)(BA:TyB)(c n p l:Int)(w:World)(pb:Nat)(t:Bool)(N:Nat)(f:Fp)(X:Sd)(a g:Nat)(D:Drm.Dr)(Lo:List (Nat×Obj))(W:World):Prop where
 cx:Cx SA TA BA f (λi=>w.heap.size<=i) w X a g D Lo W
 pe:f.pb=pb
 gd:Gd X
 wt:X.wt<=16*N
 iv:Iv t c n p l N a g 1 X D
 hn:t=true->(Clk.Di p l).2.2=0
def Pn(SA:TyS)(TA:TyT)(BA:TyB)(c n p l:Int)(w:World)(pb:Nat)(t:Bool)(N sb:Nat)(Lo:List (Nat×Obj))(W:World):Prop:=∃f X a g D,f.sb=sb/\Ps SA TA BA c n p l w pb t N f X a g D Lo W
def Pm(SA:TyS)(TA:TyT)(BA:TyB)(c n p l:Int)(w:World)(pb:Nat)(t:Bool)(N:Nat)(Lo:List (Nat×Obj))(W:World):Prop:=∃f X a g D D1 es W1,Ps SA TA BA c n p l w pb t N f X a g D Lo W1/\Kept (Dk pb W1) W1 W/\Drm.Ak pb D1 W/\D1.Ok/\D1.down=false/\Lgs.Yf D1 (enc es) 1/\EsOk t c n p l N es
def Ps.bel(h:Ps SA TA BA c n p l w pb t N f X a g D Lo W):Bw w W:=h.cx.kp.below (aj _) (λ_ h=>h)
def Ps.on(E:Env SA TA BA)(h:Ps SA TA BA c n p l w pb t N f X a g D Lo W)(hb:Bw W W'):Ps SA TA BA c n p l w pb t N f X a g D Lo W':=⟨h.cx.on E hb,h.pe,h.gd,h.wt,h.iv,h.hn⟩
def Pn.on(E:Env SA TA BA)(h:Pn SA TA BA c n p l w pb t N sb Lo W)(hb:Bw W W'):Pn SA TA BA c n p l w pb t N sb Lo W':=by obtain⟨f,X,a,g,D,e,h⟩:=h;exact⟨f,X,a,g,D,e,h.on E hb⟩
def Pn.new(E:Env SA TA BA)(h:Pn SA TA BA c n p l w pb t N sb Lo W)(cs:Array Value)(ty:TypeId)(ht:ty≠5):Pn SA TA BA c n p l w pb t N sb ((W.heap.size,.cells cs ty (0,0))::Lo) (W.alloc (.cells cs ty (0,0))):=by obtain⟨f,X,a,g,D,e,h⟩:=h;exact⟨f,X,a,g,D,e,h.cx.new E cs ty ht,h.pe,h.gd,h.wt,h.iv,h.hn⟩
def Pn.less{Lo':List (Nat×Obj)}(h:Pn SA TA BA c n p l w pb t N sb Lo W)(hl:∀p∈Lo',p∈Lo):Pn SA TA BA c n p l w pb t N sb Lo' W:=by obtain⟨f,X,a,g,D,e,h⟩:=h;exact⟨f,X,a,g,D,e,h.cx.less hl,h.pe,h.gd,h.wt,h.iv,h.hn⟩
def Pn.has(h:Pn SA TA BA c n p l w pb t N sb Lo W):Has Lo W:=by obtain⟨f,X,a,g,D,e,h⟩:=h;exact h.cx.has
def Pn.bel(h:Pn SA TA BA c n p l w pb t N sb Lo W):Bw w W:=by obtain⟨f,X,a,g,D,e,h⟩:=h;exact h.bel
def Pn.up{N':Nat}(h:Pn SA TA BA c n p l w pb t N sb Lo W)(hN:N<=N'):Pn SA TA BA c n p l w pb t N' sb Lo W:=by obtain⟨f,X,a,g,D,e,h⟩:=h;exact⟨f,X,a,g,D,e,h.cx,h.pe,h.gd,ak h.wt (Nat.mul_le_mul_left _ hN),h.iv.up hN,h.hn⟩
def Pn.ask(E:Env SA TA BA)(h:Pn SA TA BA c n p l w pb t N sb Lo W)(hN:N<=500)(ph:Int)(h0:0<=ph)(h1:ph<=18446744073709551615){q:Rq}{wa sa:Option Addr}{wc sc:Nat}(hq:QIn w q wa wc sa sc):
  cpr 10 #[pz sb,uw ph,rqV q wa wc sa sc] W λe w'=>(∃v,e=.returned v)/\Pn SA TA BA c n p l w pb t (N+3) sb Lo w':=by
 obtain⟨f,X,a,g,D,rfl,h⟩:=h;refine(ask8 E h.cx (λ_ h=>h) (ai _ _) h.gd (by have:=h.wt;omega) trivial ph h0 h1 hq).mono ?_;rintro e w' ⟨ao,m,cap,rfl,h2,h3,-⟩;exact⟨⟨_,rfl⟩,f,_,a,g,_,rfl,h2,h.pe,h3.g,by have:=h3.w;have:=h.wt;omega,arx hq.ok h.gd.ok h0 h.iv,h.hn⟩
def Pn.push(E:Env SA TA BA)(h:Pn SA TA BA c n p l w pb false N sb Lo W)(hN:N<=500)(ph:Int)(h0:0<=ph)(h1:ph<=18446744073709551615)(hq:RqOk (puQ c n p l)):
  cpr 10 #[pz sb,uw ph,rqV (puQ c n p l) none 0 none 0] W λe w'=>∃r ao m cap,e=.returned (rpV r (.slice ao m cap))/\Hid (∀t',t'=(decide (r.k=8)&& !(p==0&&l==0))->(t'=true->Clk.Ar p l r.ap r.al=true)/\Pn SA TA BA c n p l w pb t' (N+3) sb Lo w'):=by
 obtain⟨f,X,a,g,D,rfl,h⟩:=h;have hT:Srt X.T:=by obtain⟨M',⟨M1,M2,M3,hc,-⟩,-⟩:=h.cx.sh;exact(E.J.ok hc.t).srt
 refine(ask8 E h.cx (λ_ h=>h) (ai _ _) h.gd (by have:=h.wt;omega) trivial ph h0 h1 (q:=puQ c n p l) (wa:=none) (wc:=0) (sa:=none) (sc:=0) ⟨hq,RwAt.nil _ _ _,RwAt.nil _ _ _⟩).mono ?_;rintro e w' ⟨ao,m,cap,rfl,h2,h3,-⟩;refine⟨_,ao,m,cap,rfl,λt' ht=>?_⟩;have hw:(Hf ph (puQ c n p l) X a D).2.1.wt<=16*(N+3):=by have:=h3.w;have:=h.wt;omega
 cases t' with
 |false=>exact⟨(λe=>by cases e),f,_,a,g,_,rfl,h2,h.pe,h3.g,hw,arx hq h.gd.ok h0 h.iv,(λe=>by cases e)⟩
 |true=>
  have ht:=ht.symm;simp only[cu,dh,Bool.not_eq_true']at ht;obtain⟨i1,i2,i3⟩:=ato (f:=ph) (a:=a) (D:=D) hq h.gd.ok hT ht.2 h.iv ht.1;exact⟨λ_=>i2,f,_,a,g,_,rfl,h2,h.pe,h3.g,hw,i1,λ_=>i3⟩
def ahy{R:List Bi}{a g:Nat}(h:Lgs.Holds D a g R)(m:Int):Lgs.Holds {D with fuel:=m} a g R:=⟨h.lt,h.there,h.log,h.sure,h.alone⟩
def Pn.fuel(E:Env SA TA BA)(h:Pn SA TA BA c n p l w pb t N sb Lo W)(m:Int)(h0: -9223372036854775808<=m)(h1:m<=9223372036854775807):
  cpr 11 #[pz pb,iw m] W λe w'=>e=.returned (.tuple #[])/\Pn SA TA BA c n p l w pb t N sb Lo w':=by
 obtain⟨f,X,a,g,D,rfl,h⟩:=h;obtain⟨M',⟨M1,M2,M3,hc,rfl⟩,h2,h3⟩:=h.cx.sh;have hp:=h.pe;refine(Drm.aza pb D m W (hp▸hc.lg.drum)).mono ?_;rintro e w' ⟨rfl,hd,hk⟩;rw[<-hp]at hd hk;have hlb:w'.heap[f.lb]?=W.heap[f.lb]?:=by
  refine(akg hk).block _ (Lgs.Md.lt hc.lg.blk) ?_;rintro(e|⟨-,cs,fz,e⟩)
  .have:=hc.lg.ne;omega
  .rw[show W.heap[f.lb]?=_ from hc.lg.blk]at e;injection e with e;injection e with _ e _;exact absurd e (by decide)
 have lg':Lgs.LgAt f.lb f.pb a g {D with fuel:=m} w':=⟨hlb.trans hc.lg.blk,hd,hc.lg.ne⟩;have hto:=to_l E hc lg' (hc.ok.Yz m h0 h1) ((akg hk).mono λk e=>.inr e);refine⟨rfl,f,X,a,g,_,rfl,h.cx.next h2 h3 hto,hp,h.gd,h.wt,⟨h.iv.mm,?_⟩,h.hn⟩;rcases h.iv.dr with k|k
 .obtain⟨es,k1,k2⟩:=k.es;exact .inl ⟨k.d,k.ok.Yz m h0 h1,k.le,es,ahy k1 m,k2⟩
 .exact .inr ⟨k.d,k.ok.Yz m h0 h1,k.es⟩
def Pn.fall(h:Pn SA TA BA c n p l w pb t N sb Lo W){kv:Value}{keep:List Int}(hK:Drm.Ru pb kv keep W)(hk0:∀i,-9223372036854775808<=keep.getD i 0/\keep.getD i 0<=9223372036854775807)(hkl:keep.length<=9223372036854775807):
  cpr 12 #[pz pb,kv] W λe w'=>e=.returned (.tuple #[])/\Pm SA TA BA c n p l w pb t N Lo w':=by
 obtain⟨f,X,a,g,D,rfl,h⟩:=h;obtain⟨M',⟨M1,M2,M3,hc,rfl⟩,h2,h3⟩:=h.cx.sh;have hp:=h.pe;refine(Drm.azb pb D kv keep W (hp▸hc.lg.drum) hc.ok hK hk0 hkl).mono ?_;rintro e w' ⟨rfl,hd,hk⟩;obtain⟨es,e1,e2⟩:∃es,Lgs.Yf (D.fall keep) (enc es) 1/\EsOk t c n p l N es:=by
  rcases h.iv.dr with k|k
  .obtain⟨es,k1,k2,k3⟩:=k.es;exact⟨es,Lgs.Yc k1 k.ok k.le keep,k3⟩
  .exact k.es keep
 exact⟨rfl,f,X,a,g,D,_,es,W,h,akg hk,hd,hc.ok.fall keep,rfl,e1,e2⟩
def Pm.open(E:Env SA TA BA)(h:Pm SA TA BA c n p l w pb t N Lo W)(hN:N<=500)(hpl:Ts p l):
  cpr 8 #[pz pb] W λe w'=>∃sb,e=.returned (.tuple #[pz sb,iw 0])/\Hid (Pn SA TA BA c n p l w pb t N sb Lo w'):=by
 obtain⟨f,X,a,g,D,D1,es,W1,h,hk,hd,hO,hdn,⟨a',g',hg,D',o1,o2,o3,-⟩,he⟩:=h;have hl:=he.len;have hO':D'.Ok:=by have:=abv hO;rw[o1]at this;exact this
 refine(ao5 E hd hO hdn o1 hO' (λe h=>⟨he.wr e h,he.ok e h⟩) (by omega)).mono ?_;rintro e w' ⟨f2,M2,rfl,H⟩;obtain⟨k1,k2,k3,k4,k5,k6⟩:=H.out;have hk':Kept (Dk f.pb W1) W1 w':=by rw[h.pe];exact aq8 hk k3
 refine⟨_,rfl,f2,_,a',g',D',rfl,h.cx.re k1 hk' (λi hi=>?_),k2,k5,by omega,aio he k5.ok.b (λe=>⟨h.hn e,hpl⟩) o3 hO' hg o2,h.hn⟩;rw[h.pe];rcases k4 i hi with e|e
 .exact Dk.back hk e
 .exact .inr (ak hk.size e)
def Pn.items(E:Env SA TA BA)(h:Pn SA TA BA c n p l w pb t N sb Lo W)(hN:N<=500):
  cpr 16 #[pz sb] W λe w'=>∃(S:Sto.Sk) (ao:Option Addr) (cap:Nat),e=.returned (.slice ao S.length cap)/\S.length<9223372036854775808/\Hid ((∃L,Sto.ItAt (.slice ao S.length cap) L S w')/\(t=true->Yj c n p l S)/\Bw W w'):=by
 obtain⟨f,X,a,g,D,rfl,h⟩:=h;obtain⟨M',hS,-⟩:=h.cx.sh;refine(auq E hS (by have:=h.wt;omega)).mono ?_;rintro e w' ⟨v,rfl,h1,h2⟩;obtain⟨L,h3⟩:=h1.r;have hl:=h3.2.len;obtain⟨ao,cap,rfl,-,k1,k2,-⟩:=h3.1;rw[hl]at*;exact⟨X.S,ao,cap,rfl,by omega,⟨L,h3⟩,λht=>(h.iv.mm ht).v,h2⟩
end Go.Proofs.YtnfpfbehebcdpaaGreat
namespace Go.Proofs.YtnfpfbehebcdpaaGreat
open Go.RowKit
variable {w w1 W W':World}
structure Ac where
 what:Int
 n:Int
 ph:Int
 q:Rq
 wa:Option Addr
 wc:Nat
 sa:Option Addr
 sc:Nat
 ka:Option Addr
 ks:List Int
 kc:Nat
def acc(x:Ac):List Value:=[iw x.what,iw x.n,uw x.ph,iw x.q.k,ui x.q.c,ui x.q.n,uw x.q.sp,ui x.q.sl,uw x.q.ap,ui x.q.al,sd x.q.key,sd x.q.hi,iw x.q.lim,ub x.q.pt,.slice x.wa x.q.ws.length x.wc,.slice x.sa x.q.sk.length x.sc,.slice x.ka x.ks.length x.kc]
def dac:Ac:=⟨0,0,0,⟨0,0,0,0,0,0,0,[],[],0,0,[],[]⟩,none,0,none,0,none,[],0⟩
structure AcOk(w:World)(x:Ac):Prop where
 q:QIn w x.q x.wa x.wc x.sa x.sc
 ph:0<=x.ph/\x.ph<=18446744073709551615
 n: -9223372036854775808<=x.n/\x.n<=9223372036854775807
 k:RwAt w.heap.size 1 (.slice x.ka x.ks.length x.kc) x.ks.length (x.ks.flatMap λz=>[iw z]) w
 kb:∀z∈x.ks,-9223372036854775808<=z/\z<=9223372036854775807
def AnyB(e:Ending):Prop:=∃r,e=.returned (.bool r)
def ael(x:Ac):(acc x).length=17:=rfl
def N9(w:World)(v:Value)(L:List Ac):Prop:=RwAt w.heap.size 17 v L.length (rowC acc L) w/\∀x∈L,AcOk w x
def AcAt(b off:Nat)(x:Ac)(W:World):Prop:=∀k u,(acc x)[k]?=some u->ce W b (off+k) u
def N9.el{L:List Ac}{ao:Option Addr}{cap:Nat}(h:N9 w (.slice ao L.length cap) L)(hb:Bw w W){i:Nat}(hi:i<L.length):∃b off,ao=some ⟨b,off,none⟩/\AcAt b (off+i*17) (L.getD i dac) W/\AcOk w (L.getD i dac):=by
 obtain⟨b,off,e,hc⟩:=O6 ael dac (by omega) rfl (h.1.on hb) hi;refine⟨b,off,e,λk u hk=>hc k u ?_ hk,h.2 _ ?_⟩
 .have:=(gy.1 hk).1;rw[ael]at this;exact this
 .rw[List.getD,bf hi];exact qy hi
def AcAt.all{b off:Nat}{x:Ac}(h:AcAt b off x W):ce W b off (iw x.what)/\ce W b (off+1) (iw x.n)/\ce W b (off+2) (uw x.ph)/\ce W b (off+3) (iw x.q.k)/\ce W b (off+4) (ui x.q.c)/\ce W b (off+5) (ui x.q.n)/\ce W b (off+6) (uw x.q.sp)/\ce W b (off+7) (ui x.q.sl)/\ce W b (off+8) (uw x.q.ap)/\ce W b (off+9) (ui x.q.al)/\ce W b (off+10) (sd x.q.key)/\ce W b (off+11) (sd x.q.hi)/\ce W b (off+12) (iw x.q.lim)/\ce W b (off+13) (ub x.q.pt)/\ce W b (off+14) (.slice x.wa x.q.ws.length x.wc)/\ce W b (off+15) (.slice x.sa x.q.sk.length x.sc)/\ce W b (off+16) (.slice x.ka x.ks.length x.kc):=
 ⟨h 0 _ rfl,h 1 _ rfl,h 2 _ rfl,h 3 _ rfl,h 4 _ rfl,h 5 _ rfl,h 6 _ rfl,h 7 _ rfl,h 8 _ rfl,h 9 _ rfl,h 10 _ rfl,h 11 _ rfl,h 12 _ rfl,h 13 _ rfl,h 14 _ rfl,h 15 _ rfl,h 16 _ rfl⟩
def ae3{f:Int->Value}:∀ks:List Int,ks.flatMap (λz=>[f z])=ks.map f
 |[]=>rfl
 |z::ks=>by rw[List.flatMap_cons,ae3 ks];rfl
def AcOk.keep{x:Ac}(h:AcOk w x)(hb:Bw w W){pb:Nat}(hp:w.heap.size<=pb):Drm.Ru pb (.slice x.ka x.ks.length x.kc) x.ks W/\(∀i,-9223372036854775808<=x.ks.getD i 0/\x.ks.getD i 0<=9223372036854775807)/\x.ks.length<=9223372036854775807:=by
 obtain⟨ao,cap,e,hl,hc1,hc2,hr⟩:=h.k.on hb;refine⟨⟨_,_,rfl,λh0=>?_⟩,λi=>?_,by omega⟩
 .injection e with e1 _ e2;obtain⟨b,off,e3,hlt,hcell⟩:=hr (by omega);have:=hlt h0;refine⟨b,off,e1.trans e3,by omega,λi hi=>hcell i _ ?_,.inl (by omega)⟩;rw[ae3,qi,bf hi];simp[List.getD,hi]
 .by_cases hi:i<x.ks.length
  .rw[List.getD,bf hi];exact h.kb _ (qy hi)
  .rw[List.getD,tq (by omega)];simp
def an5{L:List Ac}{ao:Option Addr}{cap:Nat}(h:N9 w (.slice ao L.length cap) L):cpr 9 #[.slice ao L.length cap] w λe w'=>AnyB e/\Bw w w':=by
 have HA:Hid (∀W,Bw w W->∀i,i<L.length->∃b off,ao=some ⟨b,off,none⟩/\AcAt b (off+i*17) (L.getD i dac) W/\AcOk w (L.getD i dac)):=λW hW i hi=>h.el hW hi;have hL9:L.length<9223372036854775808:=by obtain⟨_,_,e,_,h1,h2,_⟩:=h.1;injection e with _ _ e;omega
 clear h;go_enter Tryz.func9,Tryz.ntmps9;go_wp2_with fail;go_loopw [3,8] (λs3 i wr=>(∃z:Int,s3=iw z)/\Bw w wr/\∃m:Nat,m<=L.length/\i=iw m) (λ_ i _=>L.length-(intOf i).toNat)
 case atStart=>exact⟨⟨_,rfl⟩,ai _ _,0,gp _,rfl⟩
 case round=>
  obtain⟨⟨z,rfl⟩,hbr,m,hm,rfl⟩:=hrel;have HBr:Hid _:=hbr;by_cases hml:m<L.length
  .obtain⟨b,off,rfl,hat,hok⟩:=HA.out wr hbr m hml;have hml':(m:Int)<L.length:=by omega
   generalize L.getD m dac=x at*;have ze0:=hat.all;clear hbr HA hat hok;go_upto_region 5 with fail
   have HB5:Hid (Bw w (wr.alloc (.cells #[iw x.what,iw x.n,uw x.ph,iw x.q.k,ui x.q.c,ui x.q.n,uw x.q.sp,ui x.q.sl,uw x.q.ap,ui x.q.al,sd x.q.key,sd x.q.hi,iw x.q.lim,ub x.q.pt,.slice x.wa x.q.ws.length x.wc,.slice x.sa x.q.sk.length x.sc,.slice x.ka x.ks.length x.kc] 45))):=HBr.out.trans ((al _).mono HBr.out.size);obtain⟨W5,hW5⟩:=xj (wr.alloc (.cells #[iw x.what,iw x.n,uw x.ph,iw x.q.k,ui x.q.c,ui x.q.n,uw x.q.sp,ui x.q.sl,uw x.q.ap,ui x.q.al,sd x.q.key,sd x.q.hi,iw x.q.lim,ub x.q.pt,.slice x.wa x.q.ws.length x.wc,.slice x.sa x.q.sk.length x.sc,.slice x.ka x.ks.length x.kc] 45));obtain⟨b5,hb5⟩:=xj wr.heap.size;have hbx:W5.heap[b5]?=some (.cells #[iw x.what,iw x.n,uw x.ph,iw x.q.k,ui x.q.c,ui x.q.n,uw x.q.sp,ui x.q.sl,uw x.q.ap,ui x.q.al,sd x.q.key,sd x.q.hi,iw x.q.lim,ub x.q.pt,.slice x.wa x.q.ws.length x.wc,.slice x.sa x.q.sk.length x.sc,.slice x.ka x.ks.length x.kc] 45 (0,0)):=by rw[<-hW5,<-hb5];exact ae wr _
   rw[hW5]at HB5;(try rw[hW5,hb5])
   clear hW5 hb5 HBr ze0;have n10:ce W5 b5 10 (sd x.q.key):=Drm.Ae hbx rfl;have n11:ce W5 b5 11 (sd x.q.hi):=Drm.Ae hbx rfl;have n14:ce W5 b5 14 (.slice x.wa x.q.ws.length x.wc):=Drm.Ae hbx rfl;have n15:ce W5 b5 15 (.slice x.sa x.q.sk.length x.sc):=Drm.Ae hbx rfl;clear hbx;generalize x.q.ws.length=lw at*;generalize x.q.sk.length=ls at*;generalize x.ks.length=lk at*;go_upto_region 6 with fail
   obtain⟨y,hy⟩:=xj (wrap64 (z+wrap64 (wrap64 (wrap64 ((lw:Int)+wrap64 ((ls:Int)/4))+((bs x.q.key).size:Int))+((bs x.q.hi).size:Int))));rw[hy];clear hy n10 n11 n15;by_cases h1:(20000:Int)<y
   .go_wp2_with fail;go_ret;exact⟨⟨_,rfl⟩,HB5.out⟩
   .by_cases h2:(40:Int)<lw
    .go_wp2_with fail;go_ret;exact⟨⟨_,rfl⟩,HB5.out⟩
    .go_wp2_with fail;go_roundw
     case rel=>exact⟨⟨_,rfl⟩,HB5.out,m+1,by omega,by go_num⟩
     case measure=>simp[intOf];omega
  .have hml':¬(m:Int)<L.length:=by omega
   clear hbr HA;go_wp2_with fail;go_ret;exact⟨⟨_,rfl⟩,HBr.out⟩
