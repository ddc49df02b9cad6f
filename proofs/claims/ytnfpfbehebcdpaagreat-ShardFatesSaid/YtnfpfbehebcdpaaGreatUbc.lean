import Derived.Test.YtnfpfbehebcdpaaGreatUau
set_option maxHeartbeats 0
set_option maxRecDepth 99999
set_option linter.all false
namespace Go.Proofs.YtnfpfbehebcdpaaGreat.Lgs
open Drm (Dr Pt)
structure Holds(D:Dr)(a g:Nat)(R:List Bi):Prop where
 lt:a<4
 there:(D.p a).there=true
 log:Lp (D.p a).l g R
 sure:(D.p a).sure=(D.p a).l.length
 alone:∀i,i<4->i≠a->(D.p i).there=false
structure Cand(D:Dr)(a g:Nat)(R:List Bi)(fin:Nat):Prop where
 lt:a<4
 there:(D.p a).there=true
 tells:lgOf (D.p a).l=some (g,R,fin)
 log:Lp ((D.p a).l.take fin) g R
 le:fin<=(D.p a).l.length
 sure:(D.p a).sure=(D.p a).l.length
 others:∀i,i<4->i≠a->(D.p i).there=true->∀x,lgOf (D.p i).l=some x->x.1<g
def Si{D:Dr}{n:Nat}(r:Pt->Int)(f:Pt->Pt)(hd:D.down=false)(hn:n<4):D.step n r f=if r (D.p n)≠0 then(r (D.p n),D)else if D.fuel=0 then(11,{D with down:=true})else(0,D.burn.set n (f (D.p n))):=by rw[Drm.Dr.step,hd,ag (by decide),ag (by omega),Int.toNat_natCast]
section
variable {D:Dr}{n:Nat}
def arb(hd:D.down=false)(hn:n<4)(ht:(D.p n).there=true):D.cut n=if D.fuel=0 then(11,{D with down:=true})else(0,D.burn.set n Pt.none):=by unfold Drm.Dr.cut;rw[Si _ _ hd hn,ag (by simp[Drm.missing,ht])]
def akw(hd:D.down=false)(hn:n<4)(ht:(D.p n).there=true):D.sync n=if D.fuel=0 then(11,{D with down:=true})else(0,D.burn.set n ((D.p n).settle (D.p n).l.length)):=by unfold Drm.Dr.sync;rw[Si _ _ hd hn,ag (by simp[Drm.missing,ht])]
def akt(hd:D.down=false)(hn:n<4)(ht:(D.p n).there=true)(m:Nat):D.trim n m=if D.fuel=0 then(11,{D with down:=true})else(0,D.burn.set n ((D.p n).settle m)):=by unfold Drm.Dr.trim;rw[Si _ _ hd hn,ag (by simp[ht])];rfl
def agj(hd:D.down=false)(hn:n<4)(ht:(D.p n).there=true)(s:Bi):D.write n s=if D.room-D.used<s.length then(10,D)else if D.fuel=0 then(11,{D with down:=true})else(0,D.burn.set n {D.p n with l:=(D.p n).l++s}):=by
 unfold Drm.Dr.write;rw[Si _ _ hd hn];by_cases h:D.room-D.used<s.length
 .simp[ht,h]
 .simp[ht,h]
end
def arn(D:Dr):D.burn.p=D.p:=rfl
def Rn{D:Dr}(h:D.fuel<0):D.burn.fuel=D.fuel:=by show(if 0<D.fuel then D.fuel-1 else D.fuel)=_;rw[ag (by omega)]
def Nl(D:Dr)(a:Nat)(q:Pt):(D.set a q).fuel=D.fuel:=rfl
def as6{l:Bi}{g fin:Nat}{R:List Bi}(h:lgOf l=some (g,R,fin)):Ia l=(⟨g,R,fin,l.length-fin⟩,true):=Sj h
def afk{D:Dr}{a g fin:Nat}{R:List Bi}(h:Cand D a g R fin):∀k,k<=4->(a<k->Ap D k=((a:Int),⟨g,R,fin,(D.p a).l.length-fin⟩))/\(k<=a->(Ap D k).1= -1\/(Ap D k).2.gen<g):=by
 intro k;induction k with
 |zero=>exactλ_=>⟨λh=>absurd h (by omega),λ_=>.inl rfl⟩
 |succ k ih=>
  intro hk;obtain⟨ih1,ih2⟩:=ih (by omega);by_cases hka:k=a
  .subst hka;refine⟨λ_=>?_,λh=>absurd h (by omega)⟩;rw[Ap,as6 h.tells,ah ⟨h.there,rfl,ih2 (ai _)⟩]
  .by_cases hlt:a<k
   .refine⟨λ_=>?_,λh=>absurd h (by omega)⟩;have e:=ih1 hlt;rw[Ap,e,ag];rintro⟨h1,h2,h3⟩;rcases h3 with h3|h3
    .exact absurd h3 (by show(a:Int)≠ -1;omega)
    .cases hl:lgOf (D.p k).l with
     |none=>rw[V8 hl]at h2;exact absurd h2 (by decide)
     |some x=>
      have:=h.others k (by omega) hka h1 x hl;rw[Sj hl]at h3;dsimp only at h3;omega
   .refine⟨λh=>absurd h (by omega),λ_=>?_⟩;have e:=ih2 (by omega);rw[Ap];split
    .next hh=>
     right;cases hl:lgOf (D.p k).l with
     |none=>rw[V8 hl]at hh;exact absurd hh.2.1 (by decide)
     |some x=>
      have:=h.others k (by omega) hka hh.1 x hl;rw[Sj hl];exact this
    .exact e
def has_eq(D:Dr)(k:Nat)(hk:k<4):D.has k=(D.p k).there:=by unfold Drm.Dr.has;simp;omega
def avj{D:Dr}(a:Nat)(hd:D.down=false)(hf:D.fuel<0):∀k,k<=4->(Cc D a k).1=0/\(Cc D a k).2.down=false/\(Cc D a k).2.fuel=D.fuel/\(Cc D a k).2.room=D.room/\(Cc D a k).2.p a=D.p a/\(∀i,i<k->i≠a->((Cc D a k).2.p i).there=false)/\(∀i,k<=i->(Cc D a k).2.p i=D.p i):=by
 intro k;induction k with
 |zero=>exactλ_=>⟨rfl,hd,rfl,rfl,rfl,λi hi=>absurd hi (by omega),λ_ _=>rfl⟩
 |succ k ih=>
  intro hk;obtain⟨h1,h2,h3,h4,h5,h6,h7⟩:=ih (by omega);have hs:Cc D a (k+1)=if(k:Int)=a\/(Cc D a k).2.has k=false then Cc D a k else(Cc D a k).2.cut k:=by rw[Cc,ag (by rw[h1];simp)]
  by_cases hka:k=a
  .rw[hs,ah (.inl (by rw[hka]))];refine⟨h1,h2,h3,h4,h5,λi hi hia=>h6 i (by omega) hia,λi hi=>h7 i (by omega)⟩
  .cases hh:(Cc D a k).2.has k with
   |false=>
    rw[hs,ah (.inr hh)];refine⟨h1,h2,h3,h4,h5,λi hi hia=>?_,λi hi=>h7 i (by omega)⟩;by_cases hik:i=k
    .subst hik;rw[has_eq _ _ (by omega)]at hh;exact hh
    .exact h6 i (by omega) hia
   |true=>
    rw[hs,ag (by rw[hh];simp;omega)];have ht:((Cc D a k).2.p k).there=true:=by rw[has_eq _ _ (by omega)]at hh;exact hh
    rw[arb h2 (by omega) ht,ag (by rw[h3];omega)];refine⟨rfl,h2,?_,h4,?_,λi hi hia=>?_,λi hi=>?_⟩
    .show(Cc D a k).2.burn.fuel=_;rw[Rn (by rw[h3];exact hf),h3]
    .rw[Drm.Dr.Gn _ _ _ _ (λe=>hka e.symm)];exact h5
    .by_cases hik:i=k
     .subst hik;rw[Drm.Dr.Df];rfl
     .rw[Drm.Dr.Gn _ _ _ _ hik];exact h6 i (by omega) hia
    .rw[Drm.Dr.Gn _ _ _ _ (by omega)];exact h7 i (by omega)
def Y2(D:Dr)(a g:Nat)(R:List Bi):Prop:=∃D':Dr,Qm D=(0,((a:Int),g,R),D')/\Holds D' a g R/\D'.down=false/\D'.fuel=D.fuel/\D'.room=D.room
def Yf(D:Dr)(R:List Bi)(G:Nat):Prop:=∃a g:Nat,g<=G/\Y2 D a g R
def ajm{D:Dr}{a g fin:Nat}{R:List Bi}(h:Cand D a g R fin)(hd:D.down=false)(hf:D.fuel<0):Y2 D a g R:=by
 have hn:=(afk h 4 (ai _)).1 h.lt;obtain⟨h1,h2,h3,h4,h5,h6,_⟩:=avj a hd hf 4 (ai _);unfold Y2 Qm;rw[hn];dsimp only;rw[ag (by rw[h1];simp),ag (by omega)];have hset:∀q:Pt,q.there=true->Lp q.l g R->q.sure=q.l.length->Holds ((Cc D a 4).2.burn.set a q) a g R:=λq q1 q2 q3=>
  ⟨h.lt,by rw[Drm.Dr.Df];exact q1,by rw[Drm.Dr.Df];exact q2,by rw[Drm.Dr.Df];exact q3,λi hi hia=>by rw[Drm.Dr.Gn _ _ _ _ hia];exact h6 i hi hia⟩
 by_cases hb:0<(D.p a).l.length-fin
 .have h3':¬(Cc D a 4).2.fuel=0:=by rw[h3];omega
  rw[ah hb,akt h2 h.lt (by rw[h5];exact h.there),ag h3'];dsimp only;rw[ag (by decide)];refine⟨_,rfl,hset _ ?_ ?_ ?_,h2,?_,h4⟩
  .rw[h5];exact h.there
  .rw[h5];exact h.log
  .rw[h5];show min fin (D.p a).l.length=((D.p a).l.take fin).length;rw[ig]
  .show(Cc D a 4).2.burn.fuel=_;rw[Rn (by rw[h3];exact hf),h3]
 .rw[ag hb];refine⟨_,rfl,⟨h.lt,by rw[h5];exact h.there,?_,by rw[h5];exact h.sure,λi hi hia=>h6 i hi hia⟩,h2,h3,h4⟩;rw[h5];have:=h.log
  rwa [ay (by omega)]at this
def abw{D:Dr}{a g fin G:Nat}{R:List Bi}(h:Cand D a g R fin)(hd:D.down=false)(hf:D.fuel<0)(hG:g<=G):Yf D R G:=⟨a,g,hG,ajm h hd hf⟩
def ad9(D:Dr)(keep:List Int)(i:Nat):(D.fall keep).p i=(D.p i).settle (D.left keep i):=rfl
def acf(D:Dr)(keep:List Int)(i:Nat):((D.fall keep).p i).sure=((D.fall keep).p i).l.length:=by rw[ad9];show min (D.left keep i) (D.p i).l.length=((D.p i).l.take (D.left keep i)).length;rw[ig]
def aqz{D:Dr}(h:D.Ok)(keep:List Int)(i:Nat)(hs:(D.p i).sure=(D.p i).l.length):((D.fall keep).p i).l=(D.p i).l:=by rw[ad9];show(D.p i).l.take (D.left keep i)=_;rw[ay];have:=(Drm.Dr.aah h keep i).1;omega
def avb{D:Dr}{a g:Nat}{R:List Bi}(hO:D.Ok)(keep:List Int)(ha:a<4)(ht:(D.p a).there=true)(hl:Lp (D.p a).l g R)(hs:(D.p a).sure=(D.p a).l.length)
  (ho:∀i,i<4->i≠a->(D.p i).there=true->∀x,lgOf ((D.p i).l.take (D.left keep i))=some x->x.1<g):Y2 (D.fall keep) a g R:=by
 have e:=aqz hO keep a hs;refine ajm (a:=a) (fin:=(D.p a).l.length) ⟨ha,ht,?_,?_,?_,acf D keep a,λi hi hia h1 x hx=>ho i hi hia h1 x hx⟩ rfl (by show(-1:Int)<0;decide)
 .rw[e];exact hl.lg
 .rw[e,um];exact hl
 .rw[e];exact ai _
def ah5{D:Dr}{a g G:Nat}{R:List Bi}(hO:D.Ok)(keep:List Int)(ha:a<4)(ht:(D.p a).there=true)(hl:Lp (D.p a).l g R)(hs:(D.p a).sure=(D.p a).l.length)(hG:g<=G)
  (ho:∀i,i<4->i≠a->(D.p i).there=true->∀x,lgOf ((D.p i).l.take (D.left keep i))=some x->x.1<g):Yf (D.fall keep) R G:=⟨a,g,hG,avb hO keep ha ht hl hs ho⟩
def ami(D:Dr)(b:Bool)(keep:List Int):({D with down:=b}:Dr).fall keep=D.fall keep:=rfl
def Yc{D:Dr}{a g G:Nat}{R:List Bi}(h:Holds D a g R)(hO:D.Ok)(hG:g<=G)(keep:List Int):Yf (D.fall keep) R G:=
 ah5 hO keep h.lt h.there h.log h.sure hG λi hi hia ht=>by rw[h.alone i hi hia]at ht;exact absurd ht (by decide)
def aek{D:Dr}{a g G:Nat}{R:List Bi}{r:Bi}(h:Holds D a g R)(hd:D.down=false)(hO:D.Ok)(hG:g<=G):
  ((Bv D a r).1=0/\r.length<=16000/\Holds (Bv D a r).2 a g (R++[r])/\(Bv D a r).2.down=false/\(Bv D a r).2.room=D.room/\(D.fuel<0->(Bv D a r).2.fuel=D.fuel)/\((Bv D a r).2.p a).l=(D.p a).l++Aj (82::r))\/
  (((Bv D a r).1=3/\16000<r.length\/(Bv D a r).1=10/\r.length<=16000/\D.room-D.used<(Aj (82::r)).length)/\(Bv D a r).2=D)\/
  ((Bv D a r).1=11/\0<=D.fuel/\(Bv D a r).2.down=true/\∀keep,Yf ((Bv D a r).2.fall keep) R G\/Yf ((Bv D a r).2.fall keep) (R++[r]) G):=by
 have hOy:=Uo hO a r;by_cases hr:16000<r.length
 .right;left;unfold Bv;rw[ah hr];exact⟨.inl ⟨rfl,hr⟩,rfl⟩
 .have hr':r.length<=16000:=by omega
  have e:Bv D a r=putF D a (Aj (82::r)):=by unfold Bv;rw[ag hr]
  rw[e]at hOy|-;unfold putF at hOy|-;rw[agj hd h.lt h.there]at hOy|-;by_cases hf:D.room-D.used<(Aj (82::r)).length
  .right;left;rw[ah hf,ah (by simp)];exact⟨.inr ⟨rfl,hr',hf⟩,rfl⟩
  .rw[ag hf]at hOy|-;by_cases h0:D.fuel=0
   .right;right;rw[ah h0,ah (by simp)];exact⟨rfl,by omega,rfl,λkeep=>.inl (Yc h hO hG keep)⟩
   .rw[ag h0]at hOy|-;dsimp only at hOy|-;rw[ag (by decide)]at hOy|-;have hd1:(D.burn.set a {D.p a with l:=(D.p a).l++Aj (82::r)}).down=false:=hd;have ht1:((D.burn.set a {D.p a with l:=(D.p a).l++Aj (82::r)}).p a).there=true:=by rw[Drm.Dr.Df];exact h.there
    rw[akw hd1 h.lt ht1]at hOy|-;have hl2:Lp ((D.p a).l++Aj (82::r)) g (R++[r]):=h.log.more r hr';by_cases h1:(D.burn.set a {D.p a with l:=(D.p a).l++Aj (82::r)}).fuel=0
    .right;right;rw[ah h1]at hOy|-;refine⟨rfl,?_,rfl,λkeep=>?_⟩
     .by_cases hn:D.fuel<0
      .rw[Nl,Rn hn]at h1;omega
      .omega
     .dsimp only;rw[ami];have hO1:(D.burn.set a {D.p a with l:=(D.p a).l++Aj (82::r)}).Ok:=⟨hOy.room0,hOy.room1,hOy.fits,hOy.sure,hOy.gone,hOy.fuel0,hOy.fuel1⟩;obtain⟨n,hn,hb1,hb2⟩:∃n,n=(D.burn.set a {D.p a with l:=(D.p a).l++Aj (82::r)}).left keep a/\(D.p a).l.length<=n/\n<=((D.p a).l++Aj (82::r)).length:=by have:=Drm.Dr.aah hO1 keep a;rw[Drm.Dr.Df]at this;dsimp only at this;exact⟨_,rfl,ak (Nat.le_of_eq h.sure.symm) this.1,this.2⟩
      have hp:((D.burn.set a {D.p a with l:=(D.p a).l++Aj (82::r)}).fall keep).p a=(⟨(D.p a).there,(D.p a).l++Aj (82::r),(D.p a).sure⟩:Pt).settle n:=by rw[ad9,<-hn,Drm.Dr.Df]
      have hoth:∀i,i<4->i≠a->(((D.burn.set a {D.p a with l:=(D.p a).l++Aj (82::r)}).fall keep).p i).there=true->∀x,lgOf (((D.burn.set a {D.p a with l:=(D.p a).l++Aj (82::r)}).fall keep).p i).l=some x->x.1<g:=by intro i hi hia ht;rw[ad9,Drm.Dr.Gn _ _ _ _ hia]at ht;rw[show((D.burn.p i).settle _).there=(D.p i).there from rfl,h.alone i hi hia]at ht;exact absurd ht (by decide)
      have hs:=acf (D.burn.set a {D.p a with l:=(D.p a).l++Aj (82::r)}) keep a;have htk:((D.p a).l++Aj (82::r)).take n=(D.p a).l++(Aj (82::r)).take (n-(D.p a).l.length):=by rw[List.take_append,ay hb1]
      by_cases hfull:n=((D.p a).l++Aj (82::r)).length
      .right;refine abw (a:=a) (g:=g) (fin:=n) ⟨h.lt,?_,?_,?_,?_,hs,hoth⟩ rfl (by show(-1:Int)<0;decide) hG
       .rw[hp];exact h.there
       .rw[hp];show lgOf (((D.p a).l++Aj (82::r)).take n)=_;rw[hfull,um,hl2.lg]
       .rw[hp];show Lp ((((D.p a).l++Aj (82::r)).take n).take n) g (R++[r]);rw[hfull,um,um];exact hl2
       .rw[hp];show n<=(((D.p a).l++Aj (82::r)).take n).length;rw[ig];omega
      .left;have hc:n-(D.p a).l.length<(Aj (82::r)).length:=by rw[af]at hb2 hfull;omega
       refine abw (a:=a) (g:=g) (fin:=(D.p a).l.length) ⟨h.lt,?_,?_,?_,?_,hs,hoth⟩ rfl (by show(-1:Int)<0;decide) hG
       .rw[hp];exact h.there
       .rw[hp];show lgOf (((D.p a).l++Aj (82::r)).take n)=_;rw[htk];exact h.log.tail (torn r _ hr' hc)
       .rw[hp];show Lp ((((D.p a).l++Aj (82::r)).take n).take (D.p a).l.length) g R;rw[htk,List.take_left];exact h.log
       .rw[hp];show(D.p a).l.length<=(((D.p a).l++Aj (82::r)).take n).length;rw[ig];omega
    .left;rw[ag h1];dsimp only;refine⟨rfl,hr',⟨h.lt,?_,?_,?_,λi hi hia=>?_⟩,hd,rfl,λhn=>?_,?_⟩
     .rw[Drm.Dr.Df];exact ht1
     .rw[Drm.Dr.Df,Drm.Dr.Df];show Lp (((D.p a).l++Aj (82::r)).take _) g (R++[r]);rw[um];exact hl2
     .rw[Drm.Dr.Df,Drm.Dr.Df];show min _ _=(List.take _ _).length;rw[ig]
     .rw[Drm.Dr.Gn _ _ _ _ hia,arn,Drm.Dr.Gn _ _ _ _ hia,arn];exact h.alone i hi hia
     .have e1:(D.burn.set a {D.p a with l:=(D.p a).l++Aj (82::r)}).fuel=D.fuel:=by rw[Nl,Rn hn]
      rw[Nl,Rn (by rw[e1];exact hn),e1]
     .rw[Drm.Dr.Df,Drm.Dr.Df];show((D.p a).l++Aj (82::r)).take _=_;rw[um]
