import Derived.Test.YtnfpfbehebcdpaaGreatUai
set_option maxHeartbeats 0
set_option maxRecDepth 99999
set_option linter.all false
namespace Go.Proofs.YtnfpfbehebcdpaaGreat.Sto
open Go.RowKit
def ad8{b:Nat}{l r:Tr}{k:Bi}{v:Sv}{x:Nat}{w:World}(h:TrAt nl (.node b l k v x r) w):
  cpr 226 #[pz b] w λe w'=>∃c q u y m s,e=.returned (pz c)/\w'=w/\w.heap[c]?=some (.cells (nl.cells q u y m s) nl.ty (0,0))/\c∈(Tr.node b l k v x r).blocks/\∃R,(Tr.node b l k v x r).toL=(q,u)::R:=by
 exact ajf
def Tg.side{b:Nat}{l r:Tr}{k:Bi}{v:Sv}{x:Nat}{w:World}{s:Tr}(hs:s=l\/s=r)(h:TrAt nl (.node b l k v x r) w)(hn:(Tr.node b l k v x r).blocks.Nodup)(hk:Hk (.node b l k v x r)):Tg (.node b l k v x r) s.toL w s w:=by
 exact bac
def moved{b c:Nat}{l r:Tr}{k q:Bi}{v u:Sv}{x y:Nat}{m s:Value}{w:World}(ha:TrAt nl (.node b l k v x r) w)(hn:(Tr.node b l k v x r).blocks.Nodup)(hc:w.heap[c]?=some (.cells (nl.cells q u y m s) nl.ty (0,0)))(hcr:c∈r.blocks):
  TrAt nl (.node b l q u x r) ((w.setCell ⟨b,0,none⟩ (sd q)).setCell ⟨b,1,none⟩ (.slice u.1 u.2.1 u.2.2))/\Kept (λi=>i=b) w ((w.setCell ⟨b,0,none⟩ (sd q)).setCell ⟨b,1,none⟩ (.slice u.1 u.2.1 u.2.2))/\((w.setCell ⟨b,0,none⟩ (sd q)).setCell ⟨b,1,none⟩ (.slice u.1 u.2.1 u.2.2)).heap[c]?=some (.cells (nl.cells q u y m s) nl.ty (0,0))/\c≠b:=by
 rw[Tr.blocks,gz,bu,ug]at hn;have hcb:c≠b:=λe=>hn.1.2 (e▸hcr);have k1:=Ai w b 0 (sd q);have k2:=Ai (w.setCell ⟨b,0,none⟩ (sd q)) b 1 (.slice u.1 u.2.1 u.2.2);have kk:=k1.trans k2 (λi e=>.inl e);refine⟨⟨Af _ (Af _ ha.1),TrAt.kept kk ha.2.1 (λi hi e=>hn.1.1 (e▸hi)),TrAt.kept kk ha.2.2 (λi hi e=>hn.1.2 (e▸hi))⟩,kk,?_,hcb⟩;rw[kk.block c (gsz hc) hcb];exact hc
def Vz(t:Tr):∀(key:Bi) (w:World),TrAt nl t w->t.blocks.Nodup->Hk t->Srt t.toL->(getF key t.toL).isSome=true->t.toL.length<100000->
  cpr 183 #[t.ptr,sd key] w λe w'=>∃t',e=.returned t'.ptr/\Tg t (cutF key t.toL) w t' w':=by
 induction t using Tr.ind with
 |nil=>
  intro key w _ _ _ _ hg _;cases hg
 |node b l k u x r ihl ihr=>
  intro key w ha hn hk hs hg hf;obtain⟨hs1,hs2,_,_⟩:=Dp hs;have hg0:=hg;simp only[Tr.toL]at hg0;rw[Ez hs]at hg0;have hn':=hn;rw[Tr.blocks,gz,ik]at hn';have hf':=hf;simp only[Tr.toL,af,bg]at hf';obtain⟨c0,-,c2,c3,-⟩:=Ba ha.1;have b1:=bl key k;have b2:=bl k key;by_cases h1:ltK key k=true
  .rw[ah h1]at hg0;have f2:=Ad ha.1 2;have CW:Hid (1=1->cpr 183 #[l.ptr,sd key] w λe w1=>∃o,e=.returned (.pointer o)/\w1.cell? ⟨b,2,none⟩=some l.ptr/\w1.frozen? ⟨b,2,none⟩=false/\cpr 227 #[pz b] (w1.setCell ⟨b,2,none⟩ (.pointer o)) λe w2=>∃t',e=.returned t'.ptr/\Tg (.node b l k u x r) (cutF key (Tr.node b l k u x r).toL) w t' w2):=by
    intro _;exact aws
   have q1:Op.bytesLess (bs key).toList (bs k).toList=true:=by rw[b1];exact h1
   clear ihl ihr ha hn hk hs hg hf hs1 hs2 hg0 hn' hf' b1 b2 h1;generalize cutF key (Tr.node b l k u x r).toL=L at*;simp only[Tr.ptr];generalize Tr.node b l k u x r=t at*;generalize l.ptr=lp at*;generalize r.ptr=rp at*;go_enter Tryz.func183,Tryz.ntmps183;go_wp2_with fail;refine(CW.out (by trivial)).mono ?_;rintro e w1 ⟨o,rfl,d1,d2,d3⟩;have HG:Hid (cpr 227 #[pz b] (w1.setCell ⟨b,2,none⟩ (.pointer o)) λe w2=>∃t',e=.returned t'.ptr/\Tg t L w t' w2):=d3;exact aop
  .rw[ag h1]at hg0;by_cases h2:ltK k key=true
   .rw[ah h2]at hg0;have f2:=Ad ha.1 3;have CW:Hid (1=1->cpr 183 #[r.ptr,sd key] w λe w1=>∃o,e=.returned (.pointer o)/\w1.cell? ⟨b,3,none⟩=some r.ptr/\w1.frozen? ⟨b,3,none⟩=false/\cpr 227 #[pz b] (w1.setCell ⟨b,3,none⟩ (.pointer o)) λe w2=>∃t',e=.returned t'.ptr/\Tg (.node b l k u x r) (cutF key (Tr.node b l k u x r).toL) w t' w2):=by
     intro _;exact awo
    have q1:Op.bytesLess (bs key).toList (bs k).toList=false:=by rw[b1];simpa using h1
    have q2:((bs key).toList==(bs k).toList)=false:=by rw[Ol];simpa using(Iy h2).symm
    clear ihl ihr ha hn hk hs hg hf hs1 hs2 hg0 hn' hf' b1 b2 h1 h2;generalize cutF key (Tr.node b l k u x r).toL=L at*;simp only[Tr.ptr];generalize Tr.node b l k u x r=t at*;generalize l.ptr=lp at*;generalize r.ptr=rp at*;go_enter Tryz.func183,Tryz.ntmps183;go_wp2_with fail;refine(CW.out (by trivial)).mono ?_;rintro e w1 ⟨o,rfl,d1,d2,d3⟩;have HG:Hid (cpr 227 #[pz b] (w1.setCell ⟨b,3,none⟩ (.pointer o)) λe w2=>∃t',e=.returned t'.ptr/\Tg t L w t' w2):=d3;exact aop
   .have q1:Op.bytesLess (bs key).toList (bs k).toList=false:=by rw[b1];simpa using h1
    have q2:((bs key).toList==(bs k).toList)=true:=by rw[Ol];simpa using Gu (by simpa using h1) (by simpa using h2)
    have hcut:cutF key (Tr.node b l k u x r).toL=l.toL++r.toL:=by simp only[Tr.toL];rw[J3 hs,ag h1,ag h2]
    rw[hcut];clear hcut b1 b2 hg0 hg h1 h2;cases l using Tr.cas with
    |nil=>
     exact az0
    |node c' l1 k1 u1 x1 r1=>
     generalize hlN:Tr.node c' l1 k1 u1 x1 r1=l at*;have hlp:l.ptr=.pointer (some ⟨c',0,none⟩):=by rw[<-hlN];rfl
     clear hlN;cases r using Tr.cas with
     |nil=>
      exact ayc
     |node d l2 k2 u2 x2 r2=>
      have CF:Hid (1=1->cpr 226 #[pz d] w λe w'=>∃c q u y m s,e=.returned (pz c)/\w'=w/\w.heap[c]?=some (.cells (nl.cells q u y m s) nl.ty (0,0))/\c∈(Tr.node d l2 k2 u2 x2 r2).blocks/\∃R,(Tr.node d l2 k2 u2 x2 r2).toL=(q,u)::R):=λ_=>ad8 ha.2.2;generalize hrN:Tr.node d l2 k2 u2 x2 r2=r at*;have hrp:r.ptr=.pointer (some ⟨d,0,none⟩):=by rw[<-hrN];rfl
      clear hrN;have f0:=Ad ha.1 0;have f1:=Ad ha.1 1;have c1:ce w b 1 (.slice u.1 u.2.1 u.2.2):=Aa ha.1 rfl;have CD:Hid (∀c q u' y m s R,w.heap[c]?=some (.cells (nl.cells q u' y m s) nl.ty (0,0))->c∈r.blocks->r.toL=(q,u')::R->∀W1,W1=(w.setCell ⟨b,0,none⟩ (sd q)).setCell ⟨b,1,none⟩ (.slice u'.1 u'.2.1 u'.2.2)->c≠b/\W1.cell? ⟨b,3,none⟩=some r.ptr/\ce W1 c 0 (sd q)/\∀W,Sw W1 W->cpr 183 #[r.ptr,sd q] W λe w2=>∃o,e=.returned (.pointer o)/\w2.cell? ⟨b,3,none⟩=some r.ptr/\w2.frozen? ⟨b,3,none⟩=false/\∀W3,Sw (w2.setCell ⟨b,3,none⟩ (.pointer o)) W3->cpr 227 #[pz b] W3 λe w3=>∃t',e=.returned t'.ptr/\Tg (.node b l k u x r) (l.toL++r.toL) w t' w3):=by
       intro c q u' y m s R hc hcr hR W1 hW1;exact aos
      rw[hlp]at c2;clear ihl ihr ha hn hk hs hf hs1 hs2 hn' hf' hlp;generalize hLL:l.toL++r.toL=L at*;clear hLL;simp only[Tr.ptr];generalize Tr.node b l k u x r=t at*;rw[hrp]at c3;generalize r.ptr=rp at*;subst hrp;go_enter Tryz.func183,Tryz.ntmps183;go_wp2_with fail;refine(CF.out (by trivial)).mono ?_;rintro e w' ⟨c,q,u',y,m,s,rfl,rfl,hc,hcr,R,hR⟩;obtain⟨e0,e1,-,-,-⟩:=Ba hc;obtain⟨hcb,d3,d4,CC⟩:=CD.out c q u' y m s R hc hcr hR _ rfl;have HC:Hid _:=CC;clear hc hcr hR CF CD CC;go_wp2_with fail;go_region_held3 (λW=>ce W c 0 (sd q)/\ce W c 1 (.slice u'.1 u'.2.1 u'.2.2)) (first|exact⟨e0,e1⟩|exact⟨(Ai _ b 0 _).cell e0 hcb,(Ai _ b 0 _).cell e1 hcb⟩|exact⟨(Ai _ b 1 _).cell ((Ai _ b 0 _).cell e0 hcb) hcb,(Ai _ b 1 _).cell ((Ai _ b 0 _).cell e1 hcb) hcb⟩) (fail)
      obtain⟨W,hW⟩:=xj ((w'.setCell ⟨b,0,none⟩ (sd q)).setCell ⟨b,1,none⟩ (.slice u'.1 u'.2.1 u'.2.2)).drew;have d3':ce W b 3 (pz d):=by rw[<-hW];exact d3
      have d4':ce W c 0 (sd q):=by rw[<-hW];exact d4
      have HD:Hid (cpr 183 #[pz d,sd q] W.drew λe w2=>∃o,e=.returned (.pointer o)/\ce w2 b 3 (pz d)/\w2.frozen? ⟨b,3,none⟩=false/\Hid (∀W3,Sw (w2.setCell ⟨b,3,none⟩ (.pointer o)) W3->cpr 227 #[pz b] W3 λe w3=>∃t',e=.returned t'.ptr/\Tg t L w' t' w3)):=by rw[<-hW];exact HC.out _ ⟨rfl,rfl,rfl,rfl⟩
      rw[hW];clear HC d3 d4 hW e0 e1 c0 c1 c2 c3 f0 f1;rename_i hHeld;clear hHeld;go_wp2_with fail;go_region_with (go_at_call 183;refine HD.out.mono ?_;rintro e w2 ⟨o,rfl,d5,d6,HE⟩)
      all_goals
       go_wp2_with fail;refine(HE.out _ (Sw.refl _)).mono ?_;rintro e w3 ⟨t',rfl,g⟩;obtain⟨o',ho⟩:=t'.Dq;have HX:Hid (∃t',(Ending.returned (.pointer o'):Ending)=.returned (Tr.ptr t')/\Tg t L w' t' w3):=⟨t',by rw[ho],g⟩;rw[ho];clear g HE ho;go_wp2_with fail;go_ret;exact HX.out
structure Mp(B p:Nat)(t:Tr)(w:World):Prop where
 box:w.heap[p]?=some (.cells #[t.ptr,iw t.toL.length] 186 (0,0))
 ok:TrAt nl t w
 srt:Srt t.toL
 hk:Hk t
 pn:p∉t.blocks
 nd:t.blocks.Nodup
 low:B<=p/\∀i∈t.blocks,B<=i
def MapAt(B p:Nat)(F:Nat->Prop)(L:Kv Sv)(w:World):Prop:=∃t,Mp B p t w/\t.toL=L/\F=λi=>i=p\/i∈t.blocks
def Mp.kept{B p:Nat}{t:Tr}{w w':World}{G:Nat->Prop}(h:Mp B p t w)(hk:Kept G w w')(h1:¬G p)(h2:∀i∈t.blocks,¬G i):Mp B p t w':=
 ⟨by rw[hk.block p (gsz h.box) h1];exact h.box,TrAt.kept hk h.ok h2,h.srt,h.hk,h.pn,h.nd,h.low⟩
def Mp.cells{B p:Nat}{t:Tr}{w:World}(h:Mp B p t w):w.cell? ⟨p,0,none⟩=some t.ptr/\ce w p 1 (iw t.toL.length):=⟨Aa h.box rfl,Aa h.box rfl⟩
def Yi(w:World):cpr 39 #[] w λe w'=>∃p F,e=.returned (pz p)/\MapAt w.heap.size p F [] w'/\Bw w w':=by
 have H:Hid (Mp w.heap.size w.heap.size .nil (w.alloc (.cells #[.pointer none,iw 0] 186))):=
  ⟨ae w _,trivial,tq,trivial,by simp[Tr.blocks],by simp[Tr.blocks],ai _,λi hi=>by simp[Tr.blocks]at hi⟩
 go_enter Tryz.func39,Tryz.ntmps39;go_wp2_with fail;go_ret;exact⟨_,_,rfl,⟨.nil,H.out,rfl,rfl⟩,al _⟩
def apz{B p:Nat}{t:Tr}{w:World}(h:Mp B p t w):cpr 161 #[pz p] w λe w'=>e=.returned (iw t.toL.length)/\Bw w w':=by obtain⟨c0,c1⟩:=h.cells;clear h;go_enter Tryz.func161,Tryz.ntmps161;go_wp2_with fail;go_ret;exact⟨rfl,aj _ _⟩
def ake{B p:Nat}{t:Tr}{w:World}(k:Bi)(h:Mp B p t w):cpr 162 #[pz p,sd k] w λe w'=>e=.returned (.tuple #[.slice ((getF k t.toL).getD (none,0,0)).1 ((getF k t.toL).getD (none,0,0)).2.1 ((getF k t.toL).getD (none,0,0)).2.2,.bool (getF k t.toL).isSome])/\Bw w w':=by
 have CF:Hid (1=1->cpr 182 #[pz p,sd k] w λe w'=>e=.returned (Oh (Ce k t))/\w'=w):=λ_=>Uk p k t w h.cells.1 h.ok;have hg:=Jm (k:=k) h.srt;cases hf:Ce k t with
 |none=>
  rw[hf]at CF hg;have hn:getF k t.toL=none:=by
   exact azy
  rw[hn];simp only[Oh]at CF;clear h hg hn hf;go_enter Tryz.func162,Tryz.ntmps162;go_wp2_with fail;refine(CF.out (by trivial)).mono ?_;rintro e w' ⟨rfl,rfl⟩;go_wp2_with fail;refine az (v:=.tuple #[sy,.bool false]) (by simp[results,Tryz.results162,go_sem]) rfl ?_;exact⟨rfl,aj _ _⟩
 |some b=>
  rw[hf]at CF;obtain⟨q,v,x,l,r,hb,hv⟩:=Qd h.srt h.ok hf;obtain⟨-,c1,-,-,-⟩:=Ba hb;rw[hv];simp only[Oh]at CF;clear h hg hv hf hb;go_enter Tryz.func162,Tryz.ntmps162;go_wp2_with fail;refine(CF.out (by trivial)).mono ?_;rintro e w' ⟨rfl,rfl⟩;go_wp2_with fail;refine az (v:=.tuple #[.slice v.1 v.2.1 v.2.2,.bool true]) (by simp[results,Tryz.results162,go_sem]) rfl ?_;exact⟨rfl,aj _ _⟩
def adx{B p:Nat}{t:Tr}{w:World}(lo hi:Bi)(limit:Int)(h:Mp B p t w)(hl:t.toL.length<100000):cpr 160 #[pz p,sd lo,sd hi,iw limit] w λe w'=>∃v',e=.returned v'/\w'.ownsRow w.heap.size 9 1 v' (Ho lo hi limit t.toL).length (kc (Ho lo hi limit t.toL))/\Bw w w':=by
 have CG:Hid (1=1->cpr 205 #[t.ptr,sy,sd lo,sd hi,iw limit] w λe w'=>∃v',e=.returned v'/\w'.ownsRow w.heap.size 9 1 v' (Ho lo hi limit t.toL).length (kc (Ho lo hi limit t.toL))/\Bw w w'):=λ_=>by have:=aap w.heap.size lo hi limit t [] sy w h.ok h.ok.lt h.srt (ai _) (Ip _ _ _ _) (by simp;omega);rw[Xj]at this;exact this
 exact azh
def Post(B p:Nat)(F:Nat->Prop)(L:Kv Sv)(w W:World):Prop:=∃F',MapAt B p F' L W/\Kept F w W/\∀i,F' i->F i\/w.heap.size<=i
def C9(p:Nat)(t:Tr):Nat->Prop:=λi=>i=p\/i∈t.blocks
def Mp.upd{B p:Nat}{t t':Tr}{L:Kv Sv}{w w1:World}(h:Mp B p t w)(g:Tg t L w t' w1)(hs:Srt L)(n:Int)(hn:n=L.length):
  Post B p (C9 p t) L w ((w1.setCell ⟨p,0,none⟩ t'.ptr).setCell ⟨p,1,none⟩ (iw n)):=by
 exact atn
def Mp.put{B p b:Nat}{t:Tr}{w:World}{k:Bi}(v:Sv)(h:Mp B p t w)(hf:Ce k t=some b):Post B p (C9 p t) (setF k v t.toL) w (w.setCell ⟨b,1,none⟩ (.slice v.1 v.2.1 v.2.2)):=by
 have hb:=L9 hf;have hs:(Ce k t).isSome=true:=by rw[hf];rfl
 have hl:(Ji k v t).toL=setF k v t.toL:=adc h.srt hs;have hlen:(Ji k v t).toL.length=t.toL.length:=by rw[hl,J7 h.srt,ah (by rw[<-Jm h.srt];exact hs)]
 have kk:=Ai w b 1 (.slice v.1 v.2.1 v.2.2);exact azt
def aof{B p:Nat}{t:Tr}{w:World}(k:Bi)(v:Sv)(h:Mp B p t w)(hl:t.toL.length<100000):cpr 122 #[pz p,sd k,.slice v.1 v.2.1 v.2.2] w λe w'=>e=.returned (.tuple #[])/\Post B p (C9 p t) (setF k v t.toL) w w':=by
 have CF:Hid (1=1->cpr 182 #[pz p,sd k] w λe w'=>e=.returned (Oh (Ce k t))/\w'=w):=λ_=>Uk p k t w h.cells.1 h.ok;have hg:=Jm (k:=k) h.srt;cases hf:Ce k t with
 |some b=>
  rw[hf]at CF;have HP:Hid (Post B p (C9 p t) (setF k v t.toL) w (w.setCell ⟨b,1,none⟩ (.slice v.1 v.2.1 v.2.2))):=h.put v hf;obtain⟨q,u,x,l,r,hb,-⟩:=Qd h.srt h.ok hf;obtain⟨-,c1,-,-,-⟩:=Ba hb;have f1:=Ad hb 1;simp only[Oh]at CF;clear h hg hf hb hl;generalize setF k v t.toL=L at*;generalize C9 p t=F at*;go_enter Tryz.func122,Tryz.ntmps122;go_wp2_with fail;refine(CF.out (by trivial)).mono ?_;rintro e w' ⟨rfl,rfl⟩;go_wp2_with fail;refine az (results_none Tryz.results122 _ _ _) rfl ?_;exact⟨rfl,HP.out⟩
 |none=>
  rw[hf]at CF hg;have hn:getF k t.toL=none:=by
   exact azy
  have CW:Hid (1=1->cpr 184 #[t.ptr,sd k,.slice v.1 v.2.1 v.2.2] w λe w1=>∃o,e=.returned (.pointer o)/\w1.cell? ⟨p,0,none⟩=some t.ptr/\ce w1 p 1 (iw t.toL.length)/\w1.frozen? ⟨p,0,none⟩=false/\w1.frozen? ⟨p,1,none⟩=false/\Hid (Post B p (C9 p t) (setF k v t.toL) w ((w1.setCell ⟨p,0,none⟩ (.pointer o)).setCell ⟨p,1,none⟩ (iw (t.toL.length+1))))):=λ_=>by
   refine(agl k v t w h.ok h.nd h.hk h.srt hn hl).mono ?_;rintro e w1 ⟨t',rfl,g⟩;obtain⟨o,ho⟩:=t'.Dq;have h1:w1.heap[p]?=some (.cells #[t.ptr,iw t.toL.length] 186 (0,0)):=by rw[g.kept.block p (gsz h.box) h.pn];exact h.box
   refine⟨o,by rw[ho],Aa h1 rfl,Aa h1 rfl,Ad h1 _,Ad h1 _,?_⟩;have:=h.upd g (Es h.srt) (t.toL.length+1) (by rw[J7 h.srt,hn];rfl);rw[ho]at this;exact this
  obtain⟨c0,c1⟩:=h.cells;simp only[Oh]at CF;have hl':((t.toL.length:Nat):Int)<100000:=by omega
  clear h hg hn hf hl;generalize setF k v t.toL=L at*;generalize C9 p t=F at*;obtain⟨tp,hto⟩:=t.Dq;rw[hto]at CW c0;clear hto;generalize t.toL.length=n at*;go_enter Tryz.func122,Tryz.ntmps122;go_wp2_with fail;refine(CF.out (by trivial)).mono ?_;rintro e w' ⟨rfl,rfl⟩;go_wp2_with fail;refine(CW.out (by trivial)).mono ?_;rintro e w1 ⟨o,rfl,d0,d1,f0,f1,HP⟩;clear CW CF c0 c1;go_wp2_with fail;refine bodyPost_end (results_none Tryz.results122 _ _ _) rfl ?_;exact⟨rfl,HP.out⟩
def arc{B p:Nat}{t:Tr}{w:World}(k:Bi)(h:Mp B p t w)(hl:t.toL.length<100000):cpr 121 #[pz p,sd k] w λe w'=>e=.returned (.bool (getF k t.toL).isSome)/\Post B p (C9 p t) (cutF k t.toL) w w':=by
 exact ah1
def TrAt.ahn{w:World}{t:Tr}:TrAt nl t w->∀b∈t.blocks,NoVe w b:=by
 induction t using Tr.ind with
 |nil=>
  intro _ b hb;simp[Tr.blocks]at hb
 |node c l k v x r ihl ihr=>
  intro h b hb;obtain⟨h1,h2,h3⟩:=h;simp only[Tr.blocks,au,bu]at hb;rcases hb with rfl|hb|hb
  .exact Ui h1 (by simp[nl])
  .exact ihl h2 b hb
  .exact ihr h3 b hb
structure Mc(B q:Nat)(t:Tr)(S:Sk)(w:World):Prop where
 mp:Mp B q t w
 chs:Chs w t.toL S
 sok:SOk S
def Mc.ahn{B q:Nat}{t:Tr}{S:Sk}{w:World}(h:Mc B q t S w):∀i,C9 q t i->NoVe w i
 |i,.inl e=>e▸Ui h.mp.box (by simp)
 |i,.inr e=>TrAt.ahn h.mp.ok i e
def Mc.lt{B q:Nat}{t:Tr}{S:Sk}{w:World}(h:Mc B q t S w):∀i,C9 q t i->B<=i/\i<w.heap.size
 |_,.inl e=>e▸⟨h.mp.low.1,(gsz h.mp.box)⟩
 |i,.inr e=>⟨h.mp.low.2 i e,h.mp.ok.lt i e⟩
def Mc.kept{B q:Nat}{t:Tr}{S:Sk}{w w':World}{G:Nat->Prop}(h:Mc B q t S w)(hk:Kept G w w')(h1:∀i,C9 q t i->¬G i)(hG:∀i,G i->NoVe w i):Mc B q t S w':=
 ⟨h.mp.kept hk (h1 q (.inl rfl)) (λi hi=>h1 i (.inr hi)),Chs.kept hk hG h.chs,h.sok⟩
def Mc.on{B q:Nat}{t:Tr}{S:Sk}{w w':World}(h:Mc B q t S w)(hb:Bw w w'):Mc B q t S w':=h.kept (G:=λ_=>False) (Kept.of_below hb) (λ_ _ h=>h) (λ_ h=>h.elim)
def Mc.len{B q:Nat}{t:Tr}{S:Sk}{w:World}(h:Mc B q t S w)(ht:totS S<10000):t.toL.length=S.length/\S.length<10000:=by have:=U9 h.sok.all;exact⟨h.chs.len,by omega⟩
def Q9{w:World}(k:Bi):∀{L:Kv Sv} {S:Sk},Chs w L S->(getF k L).isSome=(getF k S).isSome
 |[],[],_=>rfl
 |(a,s)::L,(b,c)::S,h=>by
  obtain⟨rfl,h1,h2⟩:=h;unfold getF;by_cases e:(a==k)=true
  .rw[ah e,ah e];rfl
  .rw[ag e,ag e];exact Q9 k h2
def al3{w:World}{L:Kv Sv}{S:Sk}(h:Chs w L S)(lo hi:Bi)(limit:Int):Ho lo hi limit L=Ho lo hi limit S:=by unfold Ho Aw;rw[h.map]
def ast{S:Sk}{k:Bi}{c:List Ve}(h:SOk S)(hc:Ch c)(hne:c≠[]):SOk (setF k c S):=by
 refine⟨Es h.srt,λx hx=>?_⟩;rcases F5 hx with rfl|hx
 .exact⟨hc,hne⟩
 .exact h.all x hx
def asu{S:Sk}(h:SOk S)(k:Bi):SOk (cutF k S):=⟨Jn h.srt,λx hx=>h.all x (Rj hx)⟩
def ayl{B q:Nat}{t:Tr}{S:Sk}{w:World}(k:Bi)(h:Mc B q t S w):cpr 162 #[pz q,sd k] w λe w'=>∃ao cap,e=.returned (.tuple #[.slice ao (A8 k S).length cap,.bool (getF k S).isSome])/\VsAt w'.heap.size (.slice ao (A8 k S).length cap) (A8 k S) w'/\Bw w w':=by
 refine(ake k h.mp).mono ?_;rintro e w' ⟨rfl,hb⟩;have hv:=Chs.get k h.chs;obtain⟨s,hs⟩:=xj ((getF k t.toL).getD (none,0,0));rw[hs]at hv|-;have hl:s.2.1=(A8 k S).length:=by obtain⟨ao,cap,e,_⟩:=hv;simp only[svV,ku]at e;exact e.2.1
 rw[svV,hl]at hv;rw[hl];exact⟨_,_,by rw[Q9 k h.chs],(hv.on hb).le hb.size,hb⟩
def ayk{B q:Nat}{t:Tr}{S:Sk}{w:World}(h:Mc B q t S w):cpr 161 #[pz q] w λe w'=>e=.returned (iw S.length)/\Bw w w':=by have:=apz h.mp;rw[h.chs.len]at this;exact this
def ajt{B q:Nat}{t:Tr}{S:Sk}{w:World}(lo hi:Bi)(limit:Int)(h:Mc B q t S w)(ht:totS S<10000):cpr 160 #[pz q,sd lo,sd hi,iw limit] w λe w'=>∃v',e=.returned v'/\w'.ownsRow w.heap.size 9 1 v' (Ho lo hi limit S).length (kc (Ho lo hi limit S))/\Bw w w':=by have:=adx lo hi limit h.mp (by have:=h.len ht;omega);rw[al3 h.chs]at this;exact this
def aem(B q:Nat)(t:Tr)(S:Sk)(w w':World):Prop:=∃t',Mc B q t' S w'/\Kept (C9 q t) w w'/\∀i,C9 q t' i->C9 q t i\/w.heap.size<=i
def apq{B q:Nat}{t:Tr}{S:Sk}{w:World}(k:Bi){ao:Option Addr}{n cap:Nat}{c:List Ve}(h:Mc B q t S w)(ht:totS S<10000)(hv:VsAt w.heap.size (.slice ao n cap) c w)(hc:Ch c)(hne:c≠[]):cpr 122 #[pz q,sd k,.slice ao n cap] w λe w'=>e=.returned (.tuple #[])/\aem B q t (setF k c S) w w':=by refine(aof k (ao,n,cap) h.mp (by have:=h.len ht;omega)).mono ?_;rintro e w' ⟨rfl,F',⟨t',h1,h2,rfl⟩,hk,hn⟩;refine⟨rfl,t',⟨h1,?_,ast h.sok hc hne⟩,hk,hn⟩;have hG:∀i,C9 q t i->NoVe w i:=h.ahn;rw[h2];exact Chs.set ((VsAt.kept hv hk hG).le hk.size) (Chs.kept hk hG h.chs)
def aym{B q:Nat}{t:Tr}{S:Sk}{w:World}(k:Bi)(h:Mc B q t S w)(ht:totS S<10000):cpr 121 #[pz q,sd k] w λe w'=>e=.returned (.bool (getF k S).isSome)/\aem B q t (cutF k S) w w':=by refine(arc k h.mp (by have:=h.len ht;omega)).mono ?_;rintro e w' ⟨rfl,F',⟨t',h1,h2,rfl⟩,hk,hn⟩;refine⟨by rw[Q9 k h.chs],t',⟨h1,?_,asu h.sok k⟩,hk,hn⟩;have hG:∀i,C9 q t i->NoVe w i:=h.ahn;rw[h2];exact Chs.cut k (Chs.kept hk hG h.chs)
def ai1{S:Sk}{m:Nat}(hs:Srt S)(h:m<S.length):Srt (S.take m++S.getD m ds::S.drop (m+1)):=by rw[<-Oo h,jg];exact hs
def prT(p l:Int)(S:Sk)(m:Nat):Sk:=Ed p l (S.take m)++S.drop m
def ajj{p l:Int}{S:Sk}{m:Nat}(h:S.length<=m):prT p l S m=Ed p l S:=by unfold prT;rw[ay h,List.drop_of_length_le h,jo]
def afc{p l:Int}{S:Sk}{m:Nat}(h:m<S.length):Ed p l (S.take (m+1))=Ed p l (S.take m)++(if Dc (S.getD m ds).2 p l=[]then[]else[((S.getD m ds).1,Dc (S.getD m ds).2 p l)]):=by
 rw[Qs h];unfold Ed;rw[List.filterMap_append];congr 1;generalize S.getD m ds=x;by_cases e:Dc x.2 p l=[]
 .rw[ah e];simp[Pi,e]
 .rw[ag e];simp[Pi,e]
def adf{p l:Int}{S:Sk}{m:Nat}(hS:SOk S)(h:m<S.length)(c:List Ve):Srt (Ed p l (S.take m)++((S.getD m ds).1,c)::S.drop (m+1)):=by obtain⟨h1,h2,h3,h4⟩:=Dp (a:=(S.getD m ds).1) (u:=(S.getD m ds).2) (ai1 hS.srt h);refine Kq (Uh p l h1) h2 (λx hx=>?_) h4;obtain⟨y,hy,rfl,_⟩:=Ph.1 hx;exact h3 y hy
def atu{p l:Int}{S:Sk}(m:Nat)(hS:SOk S):SOk (prT p l S m):=by
 have hall:∀x∈prT p l S m,Ch x.2/\x.2≠[]:=λx hx=>by
  unfold prT at hx;rcases bu.1 hx with hx|hx
  .obtain⟨y,hy,rfl,hne⟩:=Ph.1 hx;exact⟨(Z5 (hS.all y (uk hy)).1 p l).2,hne⟩
  .exact hS.all x (List.mem_of_mem_drop hx)
 refine⟨?_,hall⟩;by_cases h:m<S.length
 .unfold prT;rw[Oo h];exact adf hS h _
 .rw[ajj (by omega)];exact Uh p l hS.srt
def att{p l:Int}{S:Sk}(m:Nat)(hS:SOk S):totS (prT p l S m)<=totS S:=by
 have h1:=V3 p l (S:=S.take m) (λx hx=>hS.all x (uk hx));have h2:totS S=totS (S.take m)+totS (S.drop m):=by unfold totS;rw[<-List.sum_append,<-mi,jg]
 have h3:totS (prT p l S m)=totS (Ed p l (S.take m))+totS (S.drop m):=by unfold prT totS;rw[mi,List.sum_append]
 omega
def ali{p l:Int}{S:Sk}{m:Nat}(hS:SOk S)(h:m<S.length):A8 (S.getD m ds).1 (prT p l S m)=(S.getD m ds).2:=by refine Xt (atu m hS) ?_;unfold prT;rw[Oo h];simp
def atv{p l:Int}{S:Sk}{m:Nat}(hS:SOk S)(h:m<S.length)(hne:¬Dc (S.getD m ds).2 p l=[]):setF (S.getD m ds).1 (Dc (S.getD m ds).2 p l) (prT p l S m)=prT p l S (m+1):=by unfold prT;rw[Oo h,Ju (adf hS h _),afc h,ag hne,Ey];simp
def atw{p l:Int}{S:Sk}{m:Nat}(hS:SOk S)(h:m<S.length)(he:Dc (S.getD m ds).2 p l=[]):cutF (S.getD m ds).1 (prT p l S m)=prT p l S (m+1):=by unfold prT;rw[Oo h,J3 (adf hS h _),afc h,ah he,Ey];simp
def ap8{S:Sk}{limit:Int}(h:(S.length:Int)<=limit):Ho [] [] limit S=S.map (·.1):=by unfold Ho;rw[abq,ay];rw[mr];omega
def adp(S:Sk){m:Nat}(h:m<S.length):(S.map (·.1)).getD m []=(S.getD m ds).1:=by simp[List.getD,h]
def scT(p l:Int)(R:Sk)(m:Nat):List (Bi×Bi):=Fa p l (R.take m)
def aoh{p l:Int}{R:Sk}{m:Nat}(h:m<R.length):scT p l R (m+1)=scT p l R m++(match seeF (R.getD m ds).2 p l with
  |some s=>[((R.getD m ds).1,s)]
  |none=>[]):=by
 unfold scT;rw[Qs h];unfold Fa;rw[List.filterMap_append];congr 1;generalize R.getD m ds=x;cases e:seeF x.2 p l<;>simp[e]
def as8(p l:Int)(R:Sk)(m:Nat):∃Q,Fa p l R=scT p l R m++Q:=by refine⟨Fa p l (R.drop m),?_⟩;unfold scT Fa;rw[<-List.filterMap_append,jg]
def Ou:∀k x:Bi,ltK x (k++[0])= !ltK k x
 |[],[]=>by simp[ltK,Op.bytesLess]
 |[],a::r=>by
  have:¬a<0:=by rw[UInt8.not_lt];exact UInt8.zero_le
  cases r<;>simp[ltK,Op.bytesLess,this]
 |b::s,[]=>by simp[ltK,Op.bytesLess]
 |b::s,a::r=>by
  exact az5
def ag4{S:Sk}{lo hi k:Bi}(h:ltK k lo=false):rngS (k++[0]) hi S=(rngS lo hi S).filter (λx=>ltK k x.1):=by
 unfold rngS;exact bak
def aol{S:Sk}(h:Srt S)(lo hi:Bi):Srt (rngS lo hi S):=List.Pairwise.filter _ h
def atf{S:Sk}{lo hi:Bi}{x:Bi×List Ve}(h:x∈rngS lo hi S):ltK x.1 lo=false:=by have:=(jh.1 h).2;unfold inR at this;simp only[cu,Bool.not_eq_true']at this;exact this.1
def alb{S:Sk}{lo hi:Bi}{i:Nat}(hS:Srt S)(h:i<(rngS lo hi S).length):rngS (((rngS lo hi S).getD i ds).1++[0]) hi S=(rngS lo hi S).drop (i+1):=by
 have hm:(rngS lo hi S).getD i ds∈rngS lo hi S:=by rw[List.getD,bf h];exact rq h
 rw[ag4 (atf hm)];have hs:=ai1 (aol hS lo hi) h;generalize hR:rngS lo hi S=R at*;have e:R=R.take i++R.getD i ds::R.drop (i+1):=by rw[<-Oo h,jg]
 generalize R.getD i ds=x at*;obtain⟨a,c⟩:=x;obtain⟨-,-,h3,h4⟩:=Dp hs;rw[e,List.filter_append,yf];simp only[Ey,o7,if_false];rw[xx.2 (λy hy=>by have:=Ot (h3 y hy);simp[this]),mf];rw[<-e];exact o5.2 (λy hy=>h4 y hy)
def Xe{S:Sk}{lo hi:Bi}:Ho lo hi 32 S=((rngS lo hi S).take 32).map (·.1):=by
 have e:Aw lo hi S=(rngS lo hi S).map (·.1):=by unfold Aw rngS;rw[List.filter_map];rfl
 unfold Ho;rw[e,List.map_take];rfl
def U2(p l:Int)(Q R:Sk):Fa p l (Q++R)=Fa p l Q++Fa p l R:=by unfold Fa;rw[List.filterMap_append]
def alj(p l:Int)(R:Sk)(m n:Nat):((Fa p l (R.take m)).take n++Fa p l ((R.drop m).take 32)).take n=(Fa p l (R.take (m+32))).take n:=by
 have e:R.take (m+32)=R.take m++(R.drop m).take 32:=by rw[List.take_add]
 rw[e,U2];generalize Fa p l (R.take m)=A;generalize Fa p l ((R.drop m).take 32)=B;rw[List.take_append,List.take_append,List.take_take,Nat.min_self,ig];congr 2;omega
def ao0{lo hi:Bi}{p l limit:Int}{S:Sk}{m:Nat}(hm:(rngS lo hi S).length<=m):Np lo hi p l limit S=(Fa p l ((rngS lo hi S).take m)).take (min limit 32).toNat:=by rw[ay hm];rfl
def alm{lo hi:Bi}{p l limit:Int}{S:Sk}{m:Nat}(h:((Fa p l ((rngS lo hi S).take m)).take (min limit 32).toNat).length=(min limit 32).toNat):Np lo hi p l limit S=(Fa p l ((rngS lo hi S).take m)).take (min limit 32).toNat:=by
 have e:rngS lo hi S=(rngS lo hi S).take m++(rngS lo hi S).drop m:=(jg _ _).symm;unfold Np;generalize (min limit 32).toNat=n at*;generalize rngS lo hi S=R at*;rw[ig]at h;conv=>lhs;rw[e]
 rw[U2,List.take_append_of_le_length (by omega)]
structure So(B p q:Nat)(t:Tr)(S:Sk)(w:World):Prop where
 box:w.heap[p]?=some (.cells #[pz q] 119 (0,0))
 mc:Mc B q t S w
 low:B<=p
 ne:¬C9 q t p
 kl:∀x∈S,x.1.length<=32
def I5(p q:Nat)(t:Tr):Nat->Prop:=λi=>i=p\/C9 q t i
def SoAt(B p:Nat)(M:Nat->Prop)(S:Sk)(w:World):Prop:=∃q t,So B p q t S w/\M=I5 p q t
def So.lt{B p q:Nat}{t:Tr}{S:Sk}{w:World}(h:So B p q t S w):∀i,I5 p q t i->B<=i/\i<w.heap.size
 |_,.inl e=>e▸⟨h.low,(gsz h.box)⟩
 |i,.inr e=>h.mc.lt i e
def So.ahn{B p q:Nat}{t:Tr}{S:Sk}{w:World}(h:So B p q t S w):∀i,I5 p q t i->NoVe w i
 |_,.inl e=>e▸Ui h.box (by simp)
 |i,.inr e=>h.mc.ahn i e
def So.kept{B p q:Nat}{t:Tr}{S:Sk}{w w':World}{G:Nat->Prop}(h:So B p q t S w)(hk:Kept G w w')(h1:∀i,I5 p q t i->¬G i)(hG:∀i,G i->NoVe w i):So B p q t S w':=
 ⟨by rw[hk.block p (gsz h.box) (h1 p (.inl rfl))];exact h.box,h.mc.kept hk (λi hi=>h1 i (.inr hi)) hG,h.low,h.ne,h.kl⟩
def So.on{B p q:Nat}{t:Tr}{S:Sk}{w w':World}(h:So B p q t S w)(hb:Bw w w'):So B p q t S w':=h.kept (G:=λ_=>False) (Kept.of_below hb) (λ_ _ h=>h) (λ_ h=>h.elim)
def So.cell{B p q:Nat}{t:Tr}{S:Sk}{w:World}(h:So B p q t S w):ce w p 0 (pz q):=Aa h.box rfl
def So.post{B p q:Nat}{t:Tr}{S S':Sk}{w w':World}(h:So B p q t S w)(hp:aem B q t S' w w')(hkl:∀x∈S',x.1.length<=32):∃t',So B p q t' S' w'/\Kept (I5 p q t) w w'/\∀i,I5 p q t' i->I5 p q t i\/w.heap.size<=i:=by
 obtain⟨t',h1,hk,hn⟩:=hp;have hpl:=(gsz h.box);refine⟨t',⟨by rw[hk.block p hpl h.ne];exact h.box,h1,h.low,λhf=>?_,hkl⟩,⟨hk.os,hk.tape,hk.output,hk.size,λi hi hf=>hk.block i hi (λe=>hf (.inr e))⟩,λi hi=>?_⟩
 .rcases hn p hf with e|e
  .exact h.ne e
  .omega
 .rcases hi with e|e
  .exact .inl (.inl e)
  .rcases hn i e with e|e
   .exact .inl (.inr e)
   .exact .inr e
def X3(B p:Nat)(M:Nat->Prop)(S':Sk)(w w':World):Prop:=∃M',SoAt B p M' S' w'/\Kept M w w'/\∀i,M' i->M i\/w.heap.size<=i
def So.out{B p q:Nat}{t t':Tr}{S':Sk}{w w1 w':World}(hb:Bw w w1)(h:So B p q t' S' w')(hk:Kept (I5 p q t) w1 w')(hn:∀i,I5 p q t' i->I5 p q t i\/w1.heap.size<=i):X3 B p (I5 p q t) S' w w':=by
 refine⟨_,⟨q,t',h,rfl⟩,(Kept.of_below hb).trans hk (λi hi=>.inl hi),λi hi=>?_⟩;rcases hn i hi with e|e
 .exact .inl e
 .exact .inr (ak hb.size e)
def axp(w:World):cpr 20 #[] w λe w'=>∃p M,e=.returned (pz p)/\SoAt w.heap.size p M [] w'/\Bw w w':=by
 have C:Hid (∀W:World,Bw w W->cpr 39 #[] W λe w'=>∃q t,e=.returned (pz q)/\Mc w.heap.size q t [] w'/\Bw w w'):=λW hb=>by refine(Yi W).mono ?_;rintro e w' ⟨q,F,rfl,⟨t,h1,h2,rfl⟩,hb'⟩;refine⟨q,t,rfl,⟨⟨h1.box,h1.ok,h1.srt,h1.hk,h1.pn,h1.nd,ak hb.size h1.low.1,λi hi=>ak hb.size (h1.low.2 i hi)⟩,by rw[h2];exact trivial,SOk.nil⟩,hb.trans (hb'.mono hb.size)⟩
 go_enter Tryz.func20,Tryz.ntmps20;go_wp2_with fail;refine(C.out _ (aj _ _)).mono ?_;rintro e w1 ⟨q,t,rfl,hm,hb⟩;have H:Hid (So w.heap.size w1.heap.size q t [] (w1.alloc (.cells #[pz q] 119))/\Bw w (w1.alloc (.cells #[pz q] 119))):=
  ⟨⟨ae w1 _,hm.on (al _),hb.size,λhf=>by have:=(hm.lt _ hf).2;omega,λ_ h=>by cases h⟩,hb.trans ((al _).mono hb.size)⟩
 clear hm hb C;go_wp2_with fail;go_ret;exact⟨_,_,rfl,⟨q,t,H.out.1,rfl⟩,H.out.2⟩
def abj{B p q:Nat}{t:Tr}{S:Sk}{w:World}(k:Bi)(h:So B p q t S w):cpr 82 #[pz p,sd k] w λe w'=>∃ao cap,e=.returned (.slice ao (A8 k S).length cap)/\VsAt w'.heap.size (.slice ao (A8 k S).length cap) (A8 k S) w'/\Bw w w':=by have c0:=h.cell;have C:Hid (1=1->_):=λ_=>ayl k h.mc;clear h;go_enter Tryz.func82,Tryz.ntmps82;go_wp2_with fail;refine(C.out (by trivial)).mono ?_;rintro e w1 ⟨ao,cap,rfl,hv,hb⟩;have H:Hid _:=hv;have HB:Hid _:=hb;clear hv hb C c0;generalize (getF k S).isSome=g at*;go_wp2_with fail;go_ret;exact⟨ao,cap,rfl,H.out,HB.out⟩
def ayn{B q:Nat}{t:Tr}{S:Sk}{w:World}(h:Mc B q t S w)(ht:totS S<10000):cpr 160 #[pz q,su,su,iw S.length] w λe w'=>∃ka kp,e=.returned (.slice ka S.length kp)/\w'.ownsRow w.heap.size 9 1 (.slice ka S.length kp) (S.map (·.1)).length (kc (S.map (·.1)))/\Bw w w':=by have:=ajt [] [] S.length h ht;rw[ap8 (Int.le_refl _)]at this;refine Calls.mono this ?_;rintro e w' ⟨v',rfl,ho,hb⟩;obtain⟨ao,cap,rfl,_⟩:=Bl ho;rw[mr]at ho|-;exact⟨ao,cap,rfl,ho,hb⟩
def ai2{B p q:Nat}{t:Tr}{S:Sk}{w:World}(h:So B p q t S w)(ht:totS S<10000):cpr 80 #[pz p] w λe w'=>∃ka kp,e=.returned (.slice ka S.length kp)/\w'.ownsRow w.heap.size 9 1 (.slice ka S.length kp) (S.map (·.1)).length (kc (S.map (·.1)))/\Bw w w':=by
 have HS:Hid (So B p q t S w):=h;have c0:=h.cell;have hpl:p<w.heap.size:=ed _ _ c0;have CL:Hid (∀W,Bw w W->_):=λW hb=>ayk (h.mc.on hb);have CK:Hid (∀W,Bw w W->cpr 160 #[pz q,su,su,iw S.length] W λe w'=>∃ka kp,e=.returned (.slice ka S.length kp)/\w'.ownsRow W.heap.size 9 1 (.slice ka S.length kp) (S.map (·.1)).length (kc (S.map (·.1)))/\Bw W w'):=λW hb=>ayn (h.mc.on hb) ht;clear h ht;go_enter Tryz.func80,Tryz.ntmps80;go_wp2_with fail;have HP:Hid (ce w p 0 (pz q)):=c0;go_region_held3 (λW=>ce W p 0 (pz q)) (first|exact HP.out|exact H1.out.2|exact H2.out.2.2) (first
  |(go_at_call 161;refine(CL.out _ ((aj _ _).drew)).mono ?_;rintro e W1 ⟨rfl,hb1⟩;have H1:Hid (Bw w W1/\ce W1 p 0 (pz q)):=⟨(aj _ _).drew.trans hb1,(HS.out.on ((aj _ _).drew.trans hb1)).cell⟩;clear hb1)
  |(go_at_call 160;refine(CK.out _ H1.out.1).mono ?_;rintro e W2 ⟨ka,kp,rfl,ho2,hb2⟩;have H2:Hid (W2.ownsRow W1.heap.size 9 1 (.slice ka S.length kp) (S.map (·.1)).length (kc (S.map (·.1)))/\Bw w W2/\ce W2 p 0 (pz q)):=⟨ho2,H1.out.1.trans (hb2.mono H1.out.1.size),(HS.out.on (H1.out.1.trans (hb2.mono H1.out.1.size))).cell⟩;clear ho2 hb2))
 rename_i hHeld;clear hHeld;go_wp2_with fail;go_ret;exact⟨ka,kp,rfl,Lj H2.out.1 H1.out.1.size,H2.out.2.1⟩
def aus(k:Bi)(w:World):cpr 185 #[sd k] w λe w'=>e=.returned (.bool (aam k))/\w'=w:=by
 have hs:=Bq k;by_cases h1:k.length<1
 .have h1':¬(1:Int)<=k.length:=by omega
  have hk:aam k=false:=by simp[aam];omega
  rw[hk];clear hk;exact arx
 .have h1':(1:Int)<=k.length:=by omega
  by_cases h2:k.length<=32
  .have h2':(k.length:Int)<=32:=by omega
   have hk:aam k=true:=by simp[aam];omega
   rw[hk];clear hk;exact arx
  .have h2':¬(k.length:Int)<=32:=by omega
   have hk:aam k=false:=by simp[aam];omega
   rw[hk];clear hk;exact arx
def awh(k:Bi)(w:World)(h:k.length<=32):cpr 193 #[sd k] w λe w'=>e=.returned (.string (bs (k++[0])))/\w'=w:=by
 have hs:=Bq k;have hj:¬9223372036854775807<k.length+1:=by omega
 have hz:Hid (bs k++⟨#[0]⟩=bs (k++[0])):=by show _=_;apply ByteArray.ext;simp[bs]
 go_enter Tryz.func193,Tryz.ntmps193;go_wp2_with fail;go_ret;rw[<-hz.out];exact⟨rfl,rfl⟩
structure Tv(w:World)(bx:Nat)(p l:Int)(v:Value)(C:List Ve)(W:World):Prop where
 tx:Tx w bx p l W
 vs:VsAt W.heap.size v C W
def Tv.on{w W W':World}{bx:Nat}{p l:Int}{v:Value}{C:List Ve}(h:Tv w bx p l v C W)(hb:Bw W W'):Tv w bx p l v C W':=⟨h.tx.on hb,(h.vs.on hb).le hb.size⟩
def Tv.al{w W:World}{bx:Nat}{p l:Int}{v:Value}{C:List Ve}(h:Tv w bx p l v C W)(o:Obj):Tv w bx p l v C (W.alloc o):=h.on (Go.Proofs.YtnfpfbehebcdpaaGreat.al _)
def ako{W W3:World}{o:Obj}(hb:Below (W.alloc o).heap.size (W.alloc o) W3):W3.heap[W.heap.size]?=some o:=by rw[hb.block W.heap.size (by simp)];exact ae W _
def aqi{C:List Ve}(pv:Value)(k:Bi)(p l:Int)(w:World)(CC:Hid (∀W,Bw w W->cpr 82 #[pv,sd k] W λe w'=>∃ao cap,e=.returned (.slice ao C.length cap)/\VsAt w'.heap.size (.slice ao C.length cap) C w'/\Bw W w')):
  cpr 135 #[pv,sd k,.agg #[uw p,ui l]] w λe w'=>e=.returned (.tuple #[.string (bs (getV (seeF C p l)).1),.bool (getV (seeF C p l)).2])/\Bw w w':=by
 have CP:Hid (∀W ao cap bx,Tv w bx p l (.slice ao C.length cap) C W->cpr 17 #[.slice ao C.length cap,.agg #[uw p,ui l]] W λe w'=>e=.returned (.tuple #[veV ((atF C p l).getD dv),.bool (atF C p l).isSome])/\Bw W w'):=λW ao cap bx h=>at10 W.heap.size C _ p l W h.vs (ai _);have HY:Hid _:=axv C p l;have HT:Hid (Tx w w.heap.size p l (w.alloc (.cells #[uw p,ui l] 38))):=anj w p l;generalize getV (seeF C p l)=Y at*;generalize (atF C p l).isSome=z at*;generalize (atF C p l).getD dv=u at*;obtain⟨up,ul,uc,un,us,ud⟩:=u;simp only[veV]at CP;dsimp only at HY;go_enter Tryz.func135,Tryz.ntmps135;go_wp2_with fail;obtain⟨W0,hW0⟩:=xj (w.alloc (.cells #[uw p,ui l] 38));rw[hW0]at HT|-;obtain⟨bx,hbx⟩:=xj w.heap.size;rw[hbx]at HT;have HBX:Hid (w.heap.size=bx):=hbx;clear hW0;rw[hbx];clear hbx;obtain⟨x0,x1,-⟩:=HT.out.two;have HN0:Hid (bx<W0.heap.size/\w.heap.size<=W0.heap.size):=⟨ed _ _ x0,HT.out.bel.size⟩;go_cut [8,9] (λs8 s9 wc=>∃vb,s8=.pointer (some ⟨vb,0,none⟩)/\s9=.bool z/\VeAt wc vb 0 ⟨up,ul,uc,un,us,ud⟩/\Bw w wc)
 case first=>
  go_region_held3 (λW=>ce W bx 0 (uw p)/\ce W bx 1 (ui l)/\Tx w bx p l W) ((with_reducible refine Tx.two ?_;with_reducible repeat (first|exact HT.out|exact H1.out.tx|exact H2.out|refine Tx.dr ?_|refine Tx.al ?_ _|refine Tx.st ?_ HN0.out _ _|refine Tx.st ?_ HN1.out _ _))) (first
   |(go_at_call 82;refine(CC.out _ (Tx.bel (bx:=bx) (p:=p) (l:=l) (by with_reducible repeat (first|exact HT.out|refine Tx.dr ?_|refine Tx.al ?_ _)))).mono ?_;rintro e W1 ⟨ao,cap,rfl,hv1,hb1⟩;have H1:Hid (Tv w bx p l (.slice ao C.length cap) C W1):=⟨(by refine Tx.on ?_ hb1;with_reducible repeat (first|exact HT.out|refine Tx.dr ?_|refine Tx.al ?_ _)),hv1⟩;have HN1:Hid (bx<W1.heap.size/\w.heap.size<=W1.heap.size):=⟨ed _ _ H1.out.tx.c0,H1.out.tx.bel.size⟩;clear hv1;first|((with_reducible have Y3:=Nc hb1);have Y4:Hid (W1.heap[W0.heap.size]?=some (.cells #[uw 0,ui 0,ui 0,ui 0,su,.bool false] 63 (0,0))):=Y3;clear Y3 hb1)|clear hb1)
   |(go_at_call 17;refine(CP.out _ ao cap bx (by with_reducible repeat (first|exact H1.out|refine Tv.dr ?_|refine Tv.al ?_ _))).mono ?_;rintro e W2 ⟨rfl,hb2⟩;have H2:Hid (Tx w bx p l W2):=(by refine Tx.on ?_ hb2;refine Tv.tx (v:=.slice ao C.length cap) (C:=C) ?_;with_reducible repeat (first|exact H1.out|refine Tv.dr ?_|refine Tv.al ?_ _));first|(have Z4:Hid (W2.heap[W0.heap.size]?=some (.cells #[uw 0,ui 0,ui 0,ui 0,su,.bool false] 63 (0,0))):=(by show _=_;rw[hb2.block W0.heap.size (gsz Y4.out)];exact Y4.out);obtain⟨z0,z1,z2,z3,z4,z5,y0,y1,y2,y3,y4,y5⟩:=Y5 Z4.out;clear hb2)|((with_reducible have Z3:=ako hb2);have Z4:Hid (W2.heap[W1.heap.size]?=some (.cells #[uw 0,ui 0,ui 0,ui 0,su,.bool false] 63 (0,0))):=Z3;clear Z3;obtain⟨z0,z1,z2,z3,z4,z5,y0,y1,y2,y3,y4,y5⟩:=Y5 Z4.out;clear hb2)|clear hb2))
  all_goals
   go_wp2_with fail;go_meet;first
   |(
      with_reducible refine⟨_,rfl,rfl,asx ?_,?_⟩
      exact Z4.out;exact Tx.bel (bx:=bx) (p:=p) (l:=l) (by with_reducible repeat (first|exact H2.out|refine Tx.st ?_ HN0.out _ _|refine Tx.st ?_ HN1.out _ _)))
   |exact⟨_,rfl,rfl,acs _ _ _ _ _ _ _,(H2.out.al _).bel⟩
 case rest=>
  obtain⟨vb,rfl,rfl,hve,hbl⟩:=hcut;obtain⟨-,-,-,-,v4,v5⟩:=hve;simp only[ni]at v4 v5;have HBl:Hid _:=hbl;clear hbl x0 x1 HT CC CP HN0 HBX;cases z
  .exact bat
  .cases ud
   .have hY:Y=(us,true):=by rw[HY.out];simp
    subst hY;go_wp2_with fail;refine az (v:=.tuple #[sd us,.bool true]) (by simp[results,Tryz.results135,go_sem]) rfl ?_;exact⟨rfl,HBl.out⟩
   .exact bat
def aia{C:List Ve}(pv:Value)(k:Bi)(w:World)(CC:Hid (∀W,Bw w W->cpr 82 #[pv,sd k] W λe w'=>∃ao cap,e=.returned (.slice ao C.length cap)/\VsAt w'.heap.size (.slice ao C.length cap) C w'/\Bw W w')):
  cpr 195 #[pv,sd k] w λe w'=>e=.returned (iw C.length)/\Bw w w':=by
 go_enter Tryz.func195,Tryz.ntmps195;go_wp2_with fail;refine(CC.out _ (aj _ _)).mono ?_;rintro e w1 ⟨ao,cap,rfl,_,hb⟩;have HB:Hid _:=hb;clear hb CC;go_wp2_with fail;go_ret;exact⟨rfl,HB.out⟩
def afl{C:List Ve}(pv:Value)(k:Bi)(w:World)(CC:Hid (∀W,Bw w W->cpr 82 #[pv,sd k] W λe w'=>∃ao cap,e=.returned (.slice ao C.length cap)/\VsAt w'.heap.size (.slice ao C.length cap) C w'/\Bw W w')):
  cpr 194 #[pv,sd k] w λe w'=>e=.returned (.agg #[uw (newF C).1,ui (newF C).2])/\Bw w w':=by
 have CN:Hid (∀W ao cap,VsAt W.heap.size (.slice ao C.length cap) C W->cpr 233 #[.slice ao C.length cap] W λe w'=>e=.returned (.agg #[uw (newF C).1,ui (newF C).2])/\Bw W w'):=λW ao cap hv=>apj W.heap.size C _ W hv (ai _);have HT:Hid (Tx w w.heap.size 0 0 (w.alloc (.cells #[uw 0,ui 0] 38))):=anj w 0 0;generalize newF C=y at*;obtain⟨yp,yl⟩:=y;dsimp only at CN|-;go_enter Tryz.func194,Tryz.ntmps194;go_wp2_with fail;refine(CC.out _ HT.out.bel).mono ?_;rintro e w1 ⟨ao,cap,rfl,hv,hb⟩;have HV:Hid _:=hv;have HB1:Hid _:=hb;clear hv hb;go_wp2_with fail;refine(CN.out _ _ _ HV.out).mono ?_;rintro e w2 ⟨rfl,hb2⟩;have HB:Hid (w2.heap[w.heap.size]?=some (.cells #[uw 0,ui 0] 38 (0,0))):=by show _=_;have hl:w.heap.size<w1.heap.size:=iy (by simp) HB1.out.size;rw[hb2.block w.heap.size hl,HB1.out.block w.heap.size (by simp)];exact ae w _
 have c0:ce w2 w.heap.size 0 (uw 0):=Aa HB.out rfl;have c1:ce w2 w.heap.size 1 (ui 0):=Aa HB.out rfl;have f0:=Ad HB.out 0;have f1:=Ad HB.out 1;have HT2:Hid (Bw w w2):=((HT.out.on HB1.out).on hb2).bel;clear hb2 CC CN HT HV HB1;have HW:Hid (((w2.setCell ⟨w.heap.size,0,none⟩ (uw yp)).setCell ⟨w.heap.size,1,none⟩ (ui yl)).heap[w.heap.size]?=some (.cells #[uw yp,ui yl] 38 (0,0))):=Af _ (Af _ HB.out);have d0:((w2.setCell ⟨w.heap.size,0,none⟩ (uw yp)).setCell ⟨w.heap.size,1,none⟩ (ui yl)).cell? ⟨w.heap.size,0,none⟩=some (uw yp):=Aa HW.out rfl;have d1:((w2.setCell ⟨w.heap.size,0,none⟩ (uw yp)).setCell ⟨w.heap.size,1,none⟩ (ui yl)).cell? ⟨w.heap.size,1,none⟩=some (ui yl):=Aa HW.out rfl;go_wp2_with fail;refine az (v:=.agg #[uw yp,ui yl]) (by simp[results,Tryz.results194,go_sem,d0,d1]) rfl ?_;exact⟨rfl,(HT2.out.setCell (p:=⟨w.heap.size,0,none⟩) (ai _) _).setCell (p:=⟨w.heap.size,1,none⟩) (ai _) _⟩
def So.self{B p q:Nat}{t:Tr}{S:Sk}{w w':World}(h:So B p q t S w)(hb:Bw w w'):X3 B p (I5 p q t) S w w':=⟨_,⟨q,t,h.on hb,rfl⟩,Kept.of_below hb,λ_ hi=>.inl hi⟩
def axo{B p q:Nat}{t:Tr}{S:Sk}{w:World}(k:Bi)(x:Ve)(h:So B p q t S w)(ht:totS S<10000):
  cpr 128 #[pz p,sd k,veV x] w λe w'=>e=.returned (iw (putS k x S).2)/\X3 B p (I5 p q t) (putS k x S).1 w w':=by
 obtain⟨xp,xl,xc,xn,xs,xd⟩:=x;have HBx:Hid (Bx w w.heap.size ⟨xp,xl,xc,xn,xs,xd⟩ (w.alloc (.cells #[uw xp,ui xl,ui xc,ui xn,sd xs,.bool xd] 63))):=⟨acs _ _ _ _ _ _ _,al _⟩;have HS:Hid (So B p q t S w):=h;have c0:=h.cell;have hpl:p<w.heap.size:=ed _ _ c0;have CI:Hid (∀W,cpr 185 #[sd k] W λe w'=>e=.returned (.bool (aam k))/\w'=W):=λW=>aus k W;cases hkb:aam k
 .have hk:putS k ⟨xp,xl,xc,xn,xs,xd⟩ S=(S,1):=by unfold putS;rw[ag (by simp[hkb])]
  rw[hk];rw[hkb]at CI;clear h hk hkb;simp only[veV];go_enter Tryz.func128,Tryz.ntmps128;go_wp2_with fail;refine(CI.out _).mono ?_;rintro e w1 ⟨rfl,rfl⟩;go_wp2_with fail;go_ret;exact⟨rfl,HS.out.self HBx.out.bel⟩
 .have HKl:Hid (k.length<=32):=by show _<=_;simp[aam]at hkb;exact hkb.2
  have HP:Hid (putS k ⟨xp,xl,xc,xn,xs,xd⟩ S=if(putF (A8 k S) ⟨xp,xl,xc,xn,xs,xd⟩).2=0 then(setF k (putF (A8 k S) ⟨xp,xl,xc,xn,xs,xd⟩).1 S,0)else(S,(putF (A8 k S) ⟨xp,xl,xc,xn,xs,xd⟩).2)):=by show _=_;unfold putS;rw[ah hkb]
  rw[hkb]at CI;have HZ:Hid ((putF (A8 k S) ⟨xp,xl,xc,xn,xs,xd⟩).2=0->Ch (putF (A8 k S) ⟨xp,xl,xc,xn,xs,xd⟩).1/\(putF (A8 k S) ⟨xp,xl,xc,xn,xs,xd⟩).1≠[]):=λh0=>⟨(Qz h0).1,(Qz h0).2.1⟩;have CG:Hid (∀W,Bw w W->_):=λW hb=>abj k (h.on hb);have CP:Hid (∀W ao cap,VsAt W.heap.size (.slice ao (A8 k S).length cap) (A8 k S) W->cpr 186 #[.slice ao (A8 k S).length cap,veV ⟨xp,xl,xc,xn,xs,xd⟩] W λe w'=>∃v',e=.returned (.tuple #[v',iw (putF (A8 k S) ⟨xp,xl,xc,xn,xs,xd⟩).2])/\VsAt w'.heap.size v' (putF (A8 k S) ⟨xp,xl,xc,xn,xs,xd⟩).1 w'/\Bw W w'):=λW ao cap hv=>put8 W.heap.size (A8 k S) _ ⟨xp,xl,xc,xn,xs,xd⟩ W hv (ai _);generalize putS k ⟨xp,xl,xc,xn,xs,xd⟩ S=Y at*;generalize hpq:putF (A8 k S) ⟨xp,xl,xc,xn,xs,xd⟩=P at*;generalize A8 k S=C at*;have HT:Hid _:=ht;clear hpq h ht hkb;obtain⟨D,er⟩:=P;dsimp only at CP HZ HP;simp only[veV]at CP|-;go_enter Tryz.func128,Tryz.ntmps128;go_wp2_with fail;refine(CI.out _).mono ?_;rintro e w0 ⟨rfl,rfl⟩;clear CI;obtain⟨bx,hbx⟩:=xj w.heap.size;obtain⟨W0,hW0⟩:=xj (w.alloc (.cells #[uw xp,ui xl,ui xc,ui xn,sd xs,.bool xd] 63));rw[hW0]at HBx|-;rw[hbx]at HBx|-;have HBX:Hid (w.heap.size=bx):=hbx;clear hW0 hbx;obtain⟨x0,x1,x2,x3,x4,x5,-⟩:=HBx.out.s7;go_wp2_with fail;go_region_held3 (λw'=>ce w' bx 0 (uw xp)/\ce w' bx 1 (ui xl)/\ce w' bx 2 (ui xc)/\ce w' bx 3 (ui xn)/\ce w' bx 4 (sd xs)/\ce w' bx 5 (.bool xd)/\Hid (Bx w bx ⟨xp,xl,xc,xn,xs,xd⟩ w')) (first|exact HBx.out.dr.s7|exact HBx.out.s7|exact H1.out.1.s7|exact H2.out.1.s7) (first
   |(go_at_call 82;refine(CG.out _ HBx.out.dr.bel).mono ?_;rintro e w1 ⟨ao,cap,rfl,hv,hb⟩;have H1:Hid (Bx w bx ⟨xp,xl,xc,xn,xs,xd⟩ w1/\VsAt w1.heap.size (.slice ao C.length cap) C w1):=⟨HBx.out.dr.on hb,hv⟩;clear hv hb)
   |(go_at_call 186;refine(CP.out _ _ _ H1.out.2).mono ?_;rintro e w2 ⟨v2,rfl,hv2,hb2⟩;have H2:Hid (Bx w bx ⟨xp,xl,xc,xn,xs,xd⟩ w2/\VsAt w2.heap.size v2 D w2):=⟨H1.out.1.on hb2,hv2⟩;clear hv2 hb2))
  rename_i hHeld;clear hHeld;obtain⟨ao2,cap2,rfl⟩:∃ao2 cap2,v2=.slice ao2 D.length cap2:=by obtain⟨a,c,e,_⟩:=H2.out.2;exact⟨a,c,e⟩
  have HB2:Hid (Bw w w2):=H2.out.1.bel;have HS2:Hid (So B p q t S w2):=HS.out.on HB2.out;clear CP CG H1 HS x0 x1 x2 x3 x4 x5 c0 hpl HBx;by_cases he:er=0
  .have hY:Y=(setF k D S,0):=by rw[HP.out,ah he]
   obtain⟨hD1,hD2⟩:=HZ.out he;have CS:Hid (1=1->_):=λ_=>apq k HS2.out.mc HT.out H2.out.2 hD1 hD2;have HKs:Hid (∀y∈setF k D S,y.1.length<=32):=λy hy=>by
    rcases F5 hy with rfl|hy
    .exact HKl.out
    .exact HS2.out.kl y hy
   have c0:=HS2.out.cell;subst hY he;clear HP HZ hD1 hD2;go_wp2_with fail;refine(CS.out (by trivial)).mono ?_;rintro e w3 ⟨rfl,h3⟩;have H3:Hid _:=h3;clear h3 CS c0;go_wp2_with fail;go_ret;obtain⟨t',h4,h5,h6⟩:=HS2.out.post H3.out HKs.out;exact⟨rfl,So.out HB2.out h4 h5 h6⟩
  .have hY:Y=(S,er):=by rw[HP.out,ag he]
   have he':(er==0)=false:=by rw[jb];exact he
   subst hY;clear HP HZ;go_wp2_with fail;go_ret;exact⟨rfl,_,⟨q,t,HS2.out,rfl⟩,Kept.of_below HB2.out,λ_ hi=>.inl hi⟩
