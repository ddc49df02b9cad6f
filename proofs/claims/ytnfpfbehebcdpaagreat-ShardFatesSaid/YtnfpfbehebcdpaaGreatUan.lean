import Derived.Test.YtnfpfbehebcdpaaGreatUam
set_option maxHeartbeats 0
set_option maxRecDepth 99999
set_option linter.all false
namespace Go.Proofs.YtnfpfbehebcdpaaGreat.Lat
open Go.RowKit
def Xm(W:World)(b:Nat)(u:Cv):Kept (λi=>i=b) W (((((W.setCell ⟨b,1,none⟩ (ui u.1.1)).setCell ⟨b,2,none⟩ (ui u.1.2)).setCell ⟨b,3,none⟩ (sd u.2.key)).setCell ⟨b,4,none⟩ (sd u.2.val)).setCell ⟨b,5,none⟩ (.bool u.2.dead)):=by have t:∀{w1 w2 w3:World},Kept (λi=>i=b) w1 w2->Kept (λi=>i=b) w2 w3->Kept (λi=>i=b) w1 w3:=λh k=>h.trans k (λi e=>.inl e);exact t (t (t (t (Ai _ _ _ _) (Ai _ _ _ _)) (Ai _ _ _ _)) (Ai _ _ _ _)) (Ai _ _ _ _)
def aas{W:World}{b:Nat}{k:Bi}{v:Cv}{x:Nat}{l r:Value}(u:Cv)(h:W.heap[b]?=some (.cells (nl.cells k v x l r) nl.ty (0,0))):(((((W.setCell ⟨b,1,none⟩ (ui u.1.1)).setCell ⟨b,2,none⟩ (ui u.1.2)).setCell ⟨b,3,none⟩ (sd u.2.key)).setCell ⟨b,4,none⟩ (sd u.2.val)).setCell ⟨b,5,none⟩ (.bool u.2.dead)).heap[b]?=some (.cells (nl.cells k u x l r) nl.ty (0,0)):=by have h0:W.heap[b]?=some (.cells #[sd k,ui v.1.1,ui v.1.2,sd v.2.key,sd v.2.val,.bool v.2.dead,l,r,iw (x:Int)] nl.ty (0,0)):=h;clear h;have h1:(W.setCell ⟨b,1,none⟩ (ui u.1.1)).heap[b]?=some (.cells #[sd k,ui u.1.1,ui v.1.2,sd v.2.key,sd v.2.val,.bool v.2.dead,l,r,iw (x:Int)] nl.ty (0,0)):=Af _ h0;generalize W.setCell ⟨b,1,none⟩ (ui u.1.1)=W1 at*;have h2:(W1.setCell ⟨b,2,none⟩ (ui u.1.2)).heap[b]?=some (.cells #[sd k,ui u.1.1,ui u.1.2,sd v.2.key,sd v.2.val,.bool v.2.dead,l,r,iw (x:Int)] nl.ty (0,0)):=Af _ h1;generalize W1.setCell ⟨b,2,none⟩ (ui u.1.2)=W2 at*;have h3:(W2.setCell ⟨b,3,none⟩ (sd u.2.key)).heap[b]?=some (.cells #[sd k,ui u.1.1,ui u.1.2,sd u.2.key,sd v.2.val,.bool v.2.dead,l,r,iw (x:Int)] nl.ty (0,0)):=Af _ h2;generalize W2.setCell ⟨b,3,none⟩ (sd u.2.key)=W3 at*;have h4:(W3.setCell ⟨b,4,none⟩ (sd u.2.val)).heap[b]?=some (.cells #[sd k,ui u.1.1,ui u.1.2,sd u.2.key,sd u.2.val,.bool v.2.dead,l,r,iw (x:Int)] nl.ty (0,0)):=Af _ h3;generalize W3.setCell ⟨b,4,none⟩ (sd u.2.val)=W4 at*;have h5:(W4.setCell ⟨b,5,none⟩ (.bool u.2.dead)).heap[b]?=some (.cells #[sd k,ui u.1.1,ui u.1.2,sd u.2.key,sd u.2.val,.bool u.2.dead,l,r,iw (x:Int)] nl.ty (0,0)):=Af _ h4;exact h5
def Zz{w:World}{k:Bi}{v:Cv}{t:Tr}:∀{b:Nat},TrAt nl t w->t.blocks.Nodup->Ce k t=some b->TrAt nl (Ji k v t) (((((w.setCell ⟨b,1,none⟩ (ui v.1.1)).setCell ⟨b,2,none⟩ (ui v.1.2)).setCell ⟨b,3,none⟩ (sd v.2.key)).setCell ⟨b,4,none⟩ (sd v.2.val)).setCell ⟨b,5,none⟩ (.bool v.2.dead)):=by
 induction t using Tr.ind with
 |nil=>intro b _ _ h;cases h
 |node c l q u x r ihl ihr=>
  intro b ha hn h;obtain⟨a1,a2,a3⟩:=ha;simp only[Tr.blocks,gz,bu,ug,ik]at hn;obtain⟨⟨n1,n2⟩,n3,n4,n5⟩:=hn;have hk:=Xm w b v;rw[Hq]at h;rw[Hl];split
  .rename_i e;exact bb6
  .rename_i e;rw[ag e]at h;split
   .rename_i e2;exact bb8
   .rename_i e2;rw[ag e2]at h;injection h with h;subst h;exact⟨aas _ a1,TrAt.kept hk a2 (λi hi e=>n1 (e▸hi)),TrAt.kept hk a3 (λi hi e=>n2 (e▸hi))⟩
def Tg.side{b:Nat}{l r:Tr}{k:Bi}{v:Cv}{x:Nat}{w:World}{s:Tr}(hs:s=l\/s=r)(h:TrAt nl (.node b l k v x r) w)(hn:(Tr.node b l k v x r).blocks.Nodup)(hk:Hk (.node b l k v x r)):Tg (.node b l k v x r) s.toL w s w:=by
 exact bac
def moved{b c:Nat}{l r:Tr}{k q:Bi}{v u:Cv}{x y:Nat}{m s:Value}{w:World}(ha:TrAt nl (.node b l k v x r) w)(hn:(Tr.node b l k v x r).blocks.Nodup)(hc:w.heap[c]?=some (.cells (nl.cells q u y m s) nl.ty (0,0)))(hcr:c∈r.blocks):
  TrAt nl (.node b l q u x r) ((((((w.setCell ⟨b,0,none⟩ (sd q)).setCell ⟨b,1,none⟩ (ui u.1.1)).setCell ⟨b,2,none⟩ (ui u.1.2)).setCell ⟨b,3,none⟩ (sd u.2.key)).setCell ⟨b,4,none⟩ (sd u.2.val)).setCell ⟨b,5,none⟩ (.bool u.2.dead))/\Kept (λi=>i=b) w ((((((w.setCell ⟨b,0,none⟩ (sd q)).setCell ⟨b,1,none⟩ (ui u.1.1)).setCell ⟨b,2,none⟩ (ui u.1.2)).setCell ⟨b,3,none⟩ (sd u.2.key)).setCell ⟨b,4,none⟩ (sd u.2.val)).setCell ⟨b,5,none⟩ (.bool u.2.dead))/\((((((w.setCell ⟨b,0,none⟩ (sd q)).setCell ⟨b,1,none⟩ (ui u.1.1)).setCell ⟨b,2,none⟩ (ui u.1.2)).setCell ⟨b,3,none⟩ (sd u.2.key)).setCell ⟨b,4,none⟩ (sd u.2.val)).setCell ⟨b,5,none⟩ (.bool u.2.dead)).heap[c]?=some (.cells (nl.cells q u y m s) nl.ty (0,0))/\c≠b:=by
 rw[Tr.blocks,gz,bu,ug]at hn;have hcb:c≠b:=λe=>hn.1.2 (e▸hcr);have k1:=Ai w b 0 (sd q);have k2:=Xm (w.setCell ⟨b,0,none⟩ (sd q)) b u;have kk:=k1.trans k2 (λi e=>.inl e);have h1:(w.setCell ⟨b,0,none⟩ (sd q)).heap[b]?=some (.cells (nl.cells q v x l.ptr r.ptr) nl.ty (0,0)):=Af _ ha.1;refine⟨⟨aas u h1,TrAt.kept kk ha.2.1 (λi hi e=>hn.1.1 (e▸hi)),TrAt.kept kk ha.2.2 (λi hi e=>hn.1.2 (e▸hi))⟩,kk,?_,hcb⟩;rw[kk.block c (gsz hc) hcb];exact hc
def Vz(t:Tr):∀(key:Bi) (w:World),TrAt nl t w->t.blocks.Nodup->Hk t->Srt t.toL->(getF key t.toL).isSome=true->t.toL.length<100000->
  cpr 181 #[t.ptr,sd key] w λe w'=>∃t',e=.returned t'.ptr/\Tg t (cutF key t.toL) w t' w':=by
 induction t using Tr.ind with
 |nil=>
  intro key w _ _ _ _ hg _;cases hg
 |node b l k u x r ihl ihr=>
  intro key w ha hn hk hs hg hf;obtain⟨hs1,hs2,_,_⟩:=Dp hs;have hg0:=hg;simp only[Tr.toL]at hg0;rw[Ez hs]at hg0;have hn':=hn;rw[Tr.blocks,gz,ik]at hn';have hf':=hf;simp only[Tr.toL,af,bg]at hf';obtain⟨c0,-,c2,c3,-⟩:=Ba ha.1;have b1:=bl key k;have b2:=bl k key;by_cases h1:ltK key k=true
  .rw[ah h1]at hg0;have f2:=Ad ha.1 6;have CW:Hid (1=1->cpr 181 #[l.ptr,sd key] w λe w1=>∃o,e=.returned (.pointer o)/\w1.cell? ⟨b,6,none⟩=some l.ptr/\w1.frozen? ⟨b,6,none⟩=false/\cpr 214 #[pz b] (w1.setCell ⟨b,6,none⟩ (.pointer o)) λe w2=>∃t',e=.returned t'.ptr/\Tg (.node b l k u x r) (cutF key (Tr.node b l k u x r).toL) w t' w2):=by
    intro _;exact aws
   have q1:Op.bytesLess (bs key).toList (bs k).toList=true:=by rw[b1];exact h1
   clear ihl ihr ha hn hk hs hg hf hs1 hs2 hg0 hn' hf' b1 b2 h1;generalize cutF key (Tr.node b l k u x r).toL=L at*;exact zo
  .rw[ag h1]at hg0;by_cases h2:ltK k key=true
   .rw[ah h2]at hg0;have f2:=Ad ha.1 7;have CW:Hid (1=1->cpr 181 #[r.ptr,sd key] w λe w1=>∃o,e=.returned (.pointer o)/\w1.cell? ⟨b,7,none⟩=some r.ptr/\w1.frozen? ⟨b,7,none⟩=false/\cpr 214 #[pz b] (w1.setCell ⟨b,7,none⟩ (.pointer o)) λe w2=>∃t',e=.returned t'.ptr/\Tg (.node b l k u x r) (cutF key (Tr.node b l k u x r).toL) w t' w2):=by
     intro _;exact awo
    have q1:Op.bytesLess (bs key).toList (bs k).toList=false:=by rw[b1];simpa using h1
    have q2:((bs key).toList==(bs k).toList)=false:=by rw[Ol];simpa using(Iy h2).symm
    clear ihl ihr ha hn hk hs hg hf hs1 hs2 hg0 hn' hf' b1 b2 h1 h2;generalize cutF key (Tr.node b l k u x r).toL=L at*;simp only[Tr.ptr];exact aao
   .have q1:Op.bytesLess (bs key).toList (bs k).toList=false:=by rw[b1];simpa using h1
    have q2:((bs key).toList==(bs k).toList)=true:=by rw[Ol];simpa using Gu (by simpa using h1) (by simpa using h2)
    have hcut:cutF key (Tr.node b l k u x r).toL=l.toL++r.toL:=by simp only[Tr.toL];rw[J3 hs,ag h1,ag h2]
    rw[hcut];clear hcut b1 b2 hg0 hg h1 h2;cases l using Tr.cas with
    |nil=>
     exact az0
    |node c' l1 k1 u1 x1 r1=>
     generalize hlN:Tr.node c' l1 k1 u1 x1 r1=l at*;have hlp:l.ptr=.pointer (some ⟨c',0,none⟩):=by rw[<-hlN];rfl
     clear hlN;cases r using Tr.cas with
     |nil=>
      exact ayc
     |node d l2 k2 u2 x2 r2=>
      have CF:Hid (1=1->cpr 225 #[pz d] w λe w'=>∃c q u y m s,e=.returned (pz c)/\w'=w/\w.heap[c]?=some (.cells (nl.cells q u y m s) nl.ty (0,0))/\c∈(Tr.node d l2 k2 u2 x2 r2).blocks/\∃R,(Tr.node d l2 k2 u2 x2 r2).toL=(q,u)::R):=λ_=>ad8 ha.2.2;generalize hrN:Tr.node d l2 k2 u2 x2 r2=r at*;have hrp:r.ptr=.pointer (some ⟨d,0,none⟩):=by rw[<-hrN];rfl
      clear hrN;have f0:=Ad ha.1 0;have f1:=Ad ha.1 1;have c10:ce w b 1 (ui u.1.1):=Aa ha.1 rfl;have f2:=Ad ha.1 2;have c11:ce w b 2 (ui u.1.2):=Aa ha.1 rfl;have f3:=Ad ha.1 3;have c12:ce w b 3 (sd u.2.key):=Aa ha.1 rfl;have f4:=Ad ha.1 4;have c13:ce w b 4 (sd u.2.val):=Aa ha.1 rfl;have f5:=Ad ha.1 5;have c14:ce w b 5 (.bool u.2.dead):=Aa ha.1 rfl;have CD:Hid (∀c q u' y m s R,w.heap[c]?=some (.cells (nl.cells q u' y m s) nl.ty (0,0))->c∈r.blocks->r.toL=(q,u')::R->∀W1,W1=(((((w.setCell ⟨b,0,none⟩ (sd q)).setCell ⟨b,1,none⟩ (ui u'.1.1)).setCell ⟨b,2,none⟩ (ui u'.1.2)).setCell ⟨b,3,none⟩ (sd u'.2.key)).setCell ⟨b,4,none⟩ (sd u'.2.val)).setCell ⟨b,5,none⟩ (.bool u'.2.dead)->c≠b/\W1.cell? ⟨b,7,none⟩=some r.ptr/\ce W1 c 0 (sd q)/\∀W,Sw W1 W->cpr 181 #[r.ptr,sd q] W λe w2=>∃o,e=.returned (.pointer o)/\w2.cell? ⟨b,7,none⟩=some r.ptr/\w2.frozen? ⟨b,7,none⟩=false/\∀W3,Sw (w2.setCell ⟨b,7,none⟩ (.pointer o)) W3->cpr 214 #[pz b] W3 λe w3=>∃t',e=.returned t'.ptr/\Tg (.node b l k u x r) (l.toL++r.toL) w t' w3):=by
       intro c q u' y m s R hc hcr hR W1 hW1;exact aos
      rw[hlp]at c2;clear ihl ihr ha hn hk hs hf hs1 hs2 hn' hf' hlp;generalize hLL:l.toL++r.toL=L at*;clear hLL;simp only[Tr.ptr];generalize Tr.node b l k u x r=t at*;rw[hrp]at c3;generalize r.ptr=rp at*;subst hrp;go_enter Tryz.func181,Tryz.ntmps181;go_wp2_with fail;refine(CF.out (by trivial)).mono ?_;rintro e w' ⟨c,q,u',y,m,s,rfl,rfl,hc,hcr,R,hR⟩;obtain⟨e0,e1,-,-,-⟩:=Ba hc;obtain⟨e1,e2,e3,e4,e5⟩:=e1;obtain⟨hcb,d3,d4,CC⟩:=CD.out c q u' y m s R hc hcr hR _ rfl;have HC:Hid _:=CC;clear hc hcr hR CF CD CC;go_wp2_with fail;go_region;obtain⟨W,hW⟩:=xj ((((((w'.setCell ⟨b,0,none⟩ (sd q)).setCell ⟨b,1,none⟩ (ui u'.1.1)).setCell ⟨b,2,none⟩ (ui u'.1.2)).setCell ⟨b,3,none⟩ (sd u'.2.key)).setCell ⟨b,4,none⟩ (sd u'.2.val)).setCell ⟨b,5,none⟩ (.bool u'.2.dead)).drew;have d3':ce W b 7 (pz d):=by rw[<-hW];exact((Sw.refl _).drew.cell _).trans d3
      have d4':ce W c 0 (sd q):=by rw[<-hW];exact((Sw.refl _).drew.cell _).trans d4
      have HD:Hid (cpr 181 #[pz d,sd q] W.drew λe w2=>∃o,e=.returned (.pointer o)/\ce w2 b 7 (pz d)/\w2.frozen? ⟨b,7,none⟩=false/\Hid (∀W3,Sw (w2.setCell ⟨b,7,none⟩ (.pointer o)) W3->cpr 214 #[pz b] W3 λe w3=>∃t',e=.returned t'.ptr/\Tg t L w' t' w3)):=by rw[<-hW];exact HC.out _ (Sw.refl _).drew.drew
      rw[hW];clear HC d3 d4 hW e0 e1 e2 e3 e4 e5 c0 c10 c11 c12 c13 c14 c2 c3 f0 f1 f2 f3 f4 f5;go_wp2_with fail;go_region_with (go_at_call 181;refine HD.out.mono ?_;rintro e w2 ⟨o,rfl,d5,d6,HE⟩)
      all_goals
       go_wp2_with fail;refine(HE.out _ (Sw.refl _)).mono ?_;rintro e w3 ⟨t',rfl,g⟩;obtain⟨o',ho⟩:=t'.Dq;have HX:Hid (∃t',(Ending.returned (.pointer o'):Ending)=.returned (Tr.ptr t')/\Tg t L w' t' w3):=⟨t',by rw[ho],g⟩;rw[ho];clear g HE ho;go_wp2_with fail;go_ret;exact HX.out
structure Mp(B p:Nat)(t:Tr)(w:World):Prop where
 box:w.heap[p]?=some (.cells #[t.ptr,.int .i64 t.toL.length] 189 (0,0))
 ok:TrAt nl t w
 srt:Srt t.toL
 hk:Hk t
 pn:p∉t.blocks
 nd:t.blocks.Nodup
 low:B<=p/\∀i∈t.blocks,B<=i
def MapAt(B p:Nat)(F:Nat->Prop)(L:Kv Cv)(w:World):Prop:=∃t,Mp B p t w/\t.toL=L/\F=λi=>i=p\/i∈t.blocks
def Mp.kept{B p:Nat}{t:Tr}{w w':World}{G:Nat->Prop}(h:Mp B p t w)(hk:Kept G w w')(h1:¬G p)(h2:∀i∈t.blocks,¬G i):Mp B p t w':=
 ⟨by rw[hk.block p (gsz h.box) h1];exact h.box,TrAt.kept hk h.ok h2,h.srt,h.hk,h.pn,h.nd,h.low⟩
def Mp.cells{B p:Nat}{t:Tr}{w:World}(h:Mp B p t w):w.cell? ⟨p,0,none⟩=some t.ptr/\w.cell? ⟨p,1,none⟩=some (.int .i64 t.toL.length):=⟨Aa h.box rfl,Aa h.box rfl⟩
def Yi(w:World):cpr 40 #[] w λe w'=>∃p F,e=.returned (.pointer (some ⟨p,0,none⟩))/\MapAt w.heap.size p F [] w'/\Bw w w':=by
 have H:Hid (Mp w.heap.size w.heap.size .nil (w.alloc (.cells #[.pointer none,.int .i64 0] 189))):=
  ⟨ae w _,trivial,tq,trivial,by simp[Tr.blocks],by simp[Tr.blocks],ai _,λi hi=>by simp[Tr.blocks]at hi⟩
 go_enter Tryz.func40,Tryz.ntmps40;go_wp2_with fail;go_ret;exact⟨_,_,rfl,⟨.nil,H.out,rfl,rfl⟩,al _⟩
def apz{B p:Nat}{t:Tr}{w:World}(h:Mp B p t w):cpr 131 #[.pointer (some ⟨p,0,none⟩)] w λe w'=>e=.returned (.int .i64 t.toL.length)/\Bw w w':=by obtain⟨c0,c1⟩:=h.cells;clear h;go_enter Tryz.func131,Tryz.ntmps131;go_wp2_with fail;go_ret;exact⟨rfl,aj _ _⟩
def zc:Cv:=((0,0),⟨[],[],false⟩)
def bx5{W:World}{b:Nat}{a0 a1 a2 a3 a4:Value}(v:Cv)(h0:W.heap[b]?=some (.cells #[a0,a1,a2,a3,a4] 123 (0,0))):(((((W.setCell ⟨b,0,none⟩ (.int .u32 v.1.1)).setCell ⟨b,1,none⟩ (.int .u32 v.1.2)).setCell ⟨b,2,none⟩ (.string (bs v.2.key))).setCell ⟨b,3,none⟩ (.string (bs v.2.val))).setCell ⟨b,4,none⟩ (.bool v.2.dead)).heap[b]?=some (.cells #[.int .u32 v.1.1,.int .u32 v.1.2,.string (bs v.2.key),.string (bs v.2.val),.bool v.2.dead] 123 (0,0)):=by have h1:(W.setCell ⟨b,0,none⟩ (.int .u32 v.1.1)).heap[b]?=some (.cells #[.int .u32 v.1.1,a1,a2,a3,a4] 123 (0,0)):=Af _ h0;generalize W.setCell ⟨b,0,none⟩ (.int .u32 v.1.1)=W1 at*;have h2:(W1.setCell ⟨b,1,none⟩ (.int .u32 v.1.2)).heap[b]?=some (.cells #[.int .u32 v.1.1,.int .u32 v.1.2,a2,a3,a4] 123 (0,0)):=Af _ h1;generalize W1.setCell ⟨b,1,none⟩ (.int .u32 v.1.2)=W2 at*;have h3:(W2.setCell ⟨b,2,none⟩ (.string (bs v.2.key))).heap[b]?=some (.cells #[.int .u32 v.1.1,.int .u32 v.1.2,.string (bs v.2.key),a3,a4] 123 (0,0)):=Af _ h2;generalize W2.setCell ⟨b,2,none⟩ (.string (bs v.2.key))=W3 at*;have h4:(W3.setCell ⟨b,3,none⟩ (.string (bs v.2.val))).heap[b]?=some (.cells #[.int .u32 v.1.1,.int .u32 v.1.2,.string (bs v.2.key),.string (bs v.2.val),a4] 123 (0,0)):=Af _ h3;generalize W3.setCell ⟨b,3,none⟩ (.string (bs v.2.val))=W4 at*;have h5:(W4.setCell ⟨b,4,none⟩ (.bool v.2.dead)).heap[b]?=some (.cells #[.int .u32 v.1.1,.int .u32 v.1.2,.string (bs v.2.key),.string (bs v.2.val),.bool v.2.dead] 123 (0,0)):=Af _ h4;exact h5
def Xw{B b:Nat}{w W:World}(v:Cv)(h:Below B w W)(hb:B<=b):Below B w (((((W.setCell ⟨b,0,none⟩ (.int .u32 v.1.1)).setCell ⟨b,1,none⟩ (.int .u32 v.1.2)).setCell ⟨b,2,none⟩ (.string (bs v.2.key))).setCell ⟨b,3,none⟩ (.string (bs v.2.val))).setCell ⟨b,4,none⟩ (.bool v.2.dead)):=(((((h.setCell (p:=⟨b,0,none⟩) hb _).setCell (p:=⟨b,1,none⟩) hb _).setCell (p:=⟨b,2,none⟩) hb _).setCell (p:=⟨b,3,none⟩) hb _).setCell (p:=⟨b,4,none⟩) hb _)
def getV:Option Cv->Value
 |some v=>.tuple #[.agg #[.int .u32 v.1.1,.int .u32 v.1.2,.string (bs v.2.key),.string (bs v.2.val),.bool v.2.dead],.bool true]
 |none=>.tuple #[.agg #[.int .u32 zc.1.1,.int .u32 zc.1.2,.string (bs zc.2.key),.string (bs zc.2.val),.bool zc.2.dead],.bool false]
def ake{B p:Nat}{t:Tr}{w:World}(k:Bi)(h:Mp B p t w):cpr 176 #[.pointer (some ⟨p,0,none⟩),.string (bs k)] w λe w'=>e=.returned (getV (getF k t.toL))/\Bw w w':=by
 obtain⟨W0,hW0⟩:=xj (w.alloc (.cells #[.int .u32 0,.int .u32 0,.string ⟨#[]⟩,.string ⟨#[]⟩,.bool false] 123));have hb0:Bw w W0:=by rw[<-hW0];exact al _
 have hx0:W0.heap[w.heap.size]?=some (.cells #[.int .u32 0,.int .u32 0,.string ⟨#[]⟩,.string ⟨#[]⟩,.bool false] 123 (0,0)):=by rw[<-hW0];exact ae w _
 have h1:Mp B p t W0:=h.kept (Kept.of_below (F:=λ_=>False) hb0) (λh=>h) (λ_ _ h=>h);clear h;have CF:Hid (1=1->cpr 177 #[.pointer (some ⟨p,0,none⟩),.string (bs k)] W0 λe w'=>e=.returned (Oh (Ce k t))/\w'=W0):=λ_=>Uk p k t W0 h1.cells.1 h1.ok;have hg:=Jm (k:=k) h1.srt;obtain⟨bx,hbx⟩:=xj w.heap.size;have z0:W0.cell? ⟨w.heap.size,0,none⟩=some (.int .u32 0):=Aa hx0 rfl;have z1:W0.cell? ⟨w.heap.size,1,none⟩=some (.int .u32 0):=Aa hx0 rfl;have z2:W0.cell? ⟨w.heap.size,2,none⟩=some (.string ⟨#[]⟩):=Aa hx0 rfl;have z3:W0.cell? ⟨w.heap.size,3,none⟩=some (.string ⟨#[]⟩):=Aa hx0 rfl;have z4:W0.cell? ⟨w.heap.size,4,none⟩=some (.bool false):=Aa hx0 rfl;have f0:=Ad hx0 0;have f1:=Ad hx0 1;have f2:=Ad hx0 2;have f3:=Ad hx0 3;have f4:=Ad hx0 4;rw[hbx]at hx0 z0 z1 z2 z3 z4 f0 f1 f2 f3 f4;have hle:w.heap.size<=bx:=Nat.le_of_eq hbx;cases hf:Ce k t with
 |none=>
  rw[hf]at CF hg;have hn:getF k t.toL=none:=by
   exact azy
  rw[hn];simp only[Oh]at CF;obtain⟨W1,hW1⟩:=xj (W0.alloc (.cells #[.int .u32 0,.int .u32 0,.string ⟨#[]⟩,.string ⟨#[]⟩,.bool false] 123));have hb1:Bw W0 W1:=by rw[<-hW1];exact al _
  have hx1:W1.heap[bx]?=some (.cells #[.int .u32 0,.int .u32 0,.string ⟨#[]⟩,.string ⟨#[]⟩,.bool false] 123 (0,0)):=(hb1.block bx (gsz hx0)).trans hx0;have hy1:W1.heap[W0.heap.size]?=some (.cells #[.int .u32 0,.int .u32 0,.string ⟨#[]⟩,.string ⟨#[]⟩,.bool false] 123 (0,0)):=by rw[<-hW1];exact ae W0 _
  have HI:Hid _:=bx5 zc hx1;have HBw:Hid _:=Xw zc (hb0.trans (hb1.mono hb0.size)) hle;simp only[zc,show bs []=⟨#[]⟩from rfl]at HI HBw;have x0:W1.cell? ⟨bx,0,none⟩=some (.int .u32 0):=Aa hx1 rfl;have y0:W1.cell? ⟨W0.heap.size,0,none⟩=some (.int .u32 0):=Aa hy1 rfl;have xf0:=Ad hx1 0;have x1:W1.cell? ⟨bx,1,none⟩=some (.int .u32 0):=Aa hx1 rfl;have y1:W1.cell? ⟨W0.heap.size,1,none⟩=some (.int .u32 0):=Aa hy1 rfl;have xf1:=Ad hx1 1;have x2:W1.cell? ⟨bx,2,none⟩=some (.string ⟨#[]⟩):=Aa hx1 rfl;have y2:W1.cell? ⟨W0.heap.size,2,none⟩=some (.string ⟨#[]⟩):=Aa hy1 rfl;have xf2:=Ad hx1 2;have x3:W1.cell? ⟨bx,3,none⟩=some (.string ⟨#[]⟩):=Aa hx1 rfl;have y3:W1.cell? ⟨W0.heap.size,3,none⟩=some (.string ⟨#[]⟩):=Aa hy1 rfl;have xf3:=Ad hx1 3;have x4:W1.cell? ⟨bx,4,none⟩=some (.bool false):=Aa hx1 rfl;have y4:W1.cell? ⟨W0.heap.size,4,none⟩=some (.bool false):=Aa hy1 rfl;have xf4:=Ad hx1 4;obtain⟨by1,hby⟩:=xj W0.heap.size;rw[hby]at y0 y1 y2 y3 y4;clear h1 hg hn hf hb0 hx0 hx1 hy1 hb1 hle z0 z1 z2 z3 z4 f0 f1 f2 f3 f4;go_enter Tryz.func176,Tryz.ntmps176;go_wp2_with fail;refine(CF.out (by trivial)).mono ?_;rintro e w' ⟨rfl,rfl⟩;go_wp2_with fail;have g:=HI.out;have g0:=Aa (j:=0) g rfl;have g1:=Aa (j:=1) g rfl;have g2:=Aa (j:=2) g rfl;have g3:=Aa (j:=3) g rfl;have g4:=Aa (j:=4) g rfl;simp only[List.getElem_toArray,List.getElem_cons_zero,List.getElem_cons_succ]at g0 g1 g2 g3 g4;refine az (v:=getV none) (by simp[results,Tryz.results176,go_sem,g0,g1,g2,g3,g4,getV,zc,show bs []=⟨#[]⟩from rfl]) rfl ?_;exact⟨rfl,HBw.out⟩
 |some b=>
  rw[hf]at CF;obtain⟨q,v,x,l,r,hb,hv⟩:=Qd h1.srt h1.ok hf;obtain⟨-,⟨c1,c2,c3,c4,c5⟩,-,-,-⟩:=Ba hb;rw[hv];simp only[Oh]at CF;have HI:Hid _:=bx5 v hx0;have HBw:Hid _:=Xw v hb0 hle;clear h1 hg hv hf hb hx0 hb0 hle;go_enter Tryz.func176,Tryz.ntmps176;go_wp2_with fail;refine(CF.out (by trivial)).mono ?_;rintro e w' ⟨rfl,rfl⟩;go_wp2_with fail;have g:=HI.out;have g0:=Aa (j:=0) g rfl;have g1:=Aa (j:=1) g rfl;have g2:=Aa (j:=2) g rfl;have g3:=Aa (j:=3) g rfl;have g4:=Aa (j:=4) g rfl;simp only[List.getElem_toArray,List.getElem_cons_zero,List.getElem_cons_succ]at g0 g1 g2 g3 g4;refine az (v:=getV (some v)) (by simp[results,Tryz.results176,go_sem,g0,g1,g2,g3,g4,getV]) rfl ?_;exact⟨rfl,HBw.out⟩
def adx{B p:Nat}{t:Tr}{w:World}(lo hi:Bi)(limit:Int)(h:Mp B p t w)(hl:t.toL.length<100000):cpr 130 #[.pointer (some ⟨p,0,none⟩),.string (bs lo),.string (bs hi),.int .i64 limit] w λe w'=>∃v',e=.returned v'/\w'.ownsRow w.heap.size 9 1 v' (Ho lo hi limit t.toL).length (kc (Ho lo hi limit t.toL))/\Bw w w':=by
 have CG:Hid (1=1->cpr 188 #[t.ptr,.slice none 0 0,.string (bs lo),.string (bs hi),.int .i64 limit] w λe w'=>∃v',e=.returned v'/\w'.ownsRow w.heap.size 9 1 v' (Ho lo hi limit t.toL).length (kc (Ho lo hi limit t.toL))/\Bw w w'):=λ_=>by have:=aap w.heap.size lo hi limit t [] (.slice none 0 0) w h.ok h.ok.lt h.srt (ai _) (Ip _ _ _ _) (by simp;omega);rw[Xj]at this;exact this
 exact azh
def Post(B p:Nat)(F:Nat->Prop)(L:Kv Cv)(w W:World):Prop:=∃F',MapAt B p F' L W/\Kept F w W/\∀i,F' i->F i\/w.heap.size<=i
def C9(p:Nat)(t:Tr):Nat->Prop:=λi=>i=p\/i∈t.blocks
def Mp.upd{B p:Nat}{t t':Tr}{L:Kv Cv}{w w1:World}(h:Mp B p t w)(g:Tg t L w t' w1)(hs:Srt L)(n:Int)(hn:n=L.length):
  Post B p (C9 p t) L w ((w1.setCell ⟨p,0,none⟩ t'.ptr).setCell ⟨p,1,none⟩ (iw n)):=by
 exact atn
def Mp.put{B p b:Nat}{t:Tr}{w:World}{k:Bi}(v:Cv)(h:Mp B p t w)(hf:Ce k t=some b):Post B p (C9 p t) (setF k v t.toL) w (((((w.setCell ⟨b,1,none⟩ (ui v.1.1)).setCell ⟨b,2,none⟩ (ui v.1.2)).setCell ⟨b,3,none⟩ (sd v.2.key)).setCell ⟨b,4,none⟩ (sd v.2.val)).setCell ⟨b,5,none⟩ (.bool v.2.dead)):=by
 have hb:=L9 hf;have hs:(Ce k t).isSome=true:=by rw[hf];rfl
 have hl:(Ji k v t).toL=setF k v t.toL:=adc h.srt hs;have hlen:(Ji k v t).toL.length=t.toL.length:=by rw[hl,J7 h.srt,ah (by rw[<-Jm h.srt];exact hs)]
 have kk:=Xm w b v;exact azt
def Post.behind{B p:Nat}{F:Nat->Prop}{L:Kv Cv}{w W0 W:World}(hb:Bw w W0)(h:Post B p F L W0 W):Post B p F L w W:=by
 obtain⟨F',h1,h2,h3⟩:=h;refine⟨F',h1,(Kept.of_below hb).trans h2 (λi hi=>.inl hi),λi hi=>?_⟩;rcases h3 i hi with e|e
 .exact .inl e
 .exact .inr (ak hb.size e)
def aof{B p:Nat}{t:Tr}{w:World}(k:Bi)(v:Cv)(h0:Mp B p t w)(hl:t.toL.length<100000):cpr 115 #[pz p,sd k,.agg #[ui v.1.1,ui v.1.2,sd v.2.key,sd v.2.val,.bool v.2.dead]] w λe w'=>e=.returned (.tuple #[])/\Post B p (C9 p t) (setF k v t.toL) w w':=by
 obtain⟨W0,hW0⟩:=xj (w.alloc (.cells #[ui v.1.1,ui v.1.2,sd v.2.key,sd v.2.val,.bool v.2.dead] 123));have hb0:Bw w W0:=by rw[<-hW0];exact al _
 have hx0:W0.heap[w.heap.size]?=some (.cells #[ui v.1.1,ui v.1.2,sd v.2.key,sd v.2.val,.bool v.2.dead] 123 (0,0)):=by rw[<-hW0];exact ae w _
 have h:Mp B p t W0:=h0.kept (Kept.of_below (F:=λ_=>False) hb0) (λh=>h) (λ_ _ h=>h);clear h0;have z0:ce W0 w.heap.size 0 (ui v.1.1):=Aa hx0 rfl;have z1:ce W0 w.heap.size 1 (ui v.1.2):=Aa hx0 rfl;have z2:ce W0 w.heap.size 2 (sd v.2.key):=Aa hx0 rfl;have z3:ce W0 w.heap.size 3 (sd v.2.val):=Aa hx0 rfl;have z4:ce W0 w.heap.size 4 (.bool v.2.dead):=Aa hx0 rfl;have HB:Hid (Bw w W0):=hb0;clear hx0 hb0;have CF:Hid (1=1->cpr 177 #[pz p,sd k] W0 λe w'=>e=.returned (Oh (Ce k t))/\w'=W0):=λ_=>Uk p k t W0 h.cells.1 h.ok;have hg:=Jm (k:=k) h.srt;cases hf:Ce k t with
 |some b=>
  rw[hf]at CF;have HP:Hid (Post B p (C9 p t) (setF k v t.toL) W0 (((((W0.setCell ⟨b,1,none⟩ (ui v.1.1)).setCell ⟨b,2,none⟩ (ui v.1.2)).setCell ⟨b,3,none⟩ (sd v.2.key)).setCell ⟨b,4,none⟩ (sd v.2.val)).setCell ⟨b,5,none⟩ (.bool v.2.dead))):=h.put v hf;obtain⟨q,u,x,l,r,hb,-⟩:=Qd h.srt h.ok hf;obtain⟨-,⟨c1,c2,c3,c4,c5⟩,-,-,-⟩:=Ba hb;have f1:=Ad hb 1;have f2:=Ad hb 2;have f3:=Ad hb 3;have f4:=Ad hb 4;have f5:=Ad hb 5;simp only[Oh]at CF;clear h hg hf hb hl;generalize setF k v t.toL=L at*;generalize C9 p t=F at*;obtain⟨bx,hbx⟩:=xj w.heap.size;rw[hbx]at z0 z1 z2 z3 z4;go_enter Tryz.func115,Tryz.ntmps115;go_wp2_with fail;refine(CF.out (by trivial)).mono ?_;rintro e w' ⟨rfl,rfl⟩;clear hW0 hbx;go_wp2_with fail;refine az (results_none Tryz.results115 _ _ _) rfl ?_;exact⟨rfl,Post.behind HB.out HP.out⟩
 |none=>
  rw[hf]at CF hg;have hn:getF k t.toL=none:=by
   exact azy
  have CW:Hid (∀W,Sw W0 W->cpr 178 #[t.ptr,sd k,.agg #[ui v.1.1,ui v.1.2,sd v.2.key,sd v.2.val,.bool v.2.dead]] W λe w1=>∃o,e=.returned (.pointer o)/\w1.cell? ⟨p,0,none⟩=some t.ptr/\ce w1 p 1 (iw t.toL.length)/\w1.frozen? ⟨p,0,none⟩=false/\w1.frozen? ⟨p,1,none⟩=false/\Hid (Post B p (C9 p t) (setF k v t.toL) W0 ((w1.setCell ⟨p,0,none⟩ (.pointer o)).setCell ⟨p,1,none⟩ (iw (t.toL.length+1))))):=λW hsw=>by
   have hk:Mp B p t W:=h.kept (Kept.of_below (F:=λ_=>False) (hsw.below _)) (λh=>h) (λ_ _ h=>h);refine(agl k v t W hk.ok hk.nd hk.hk hk.srt hn hl).mono ?_;rintro e w1 ⟨t',rfl,g⟩;obtain⟨o,ho⟩:=t'.Dq;have h1:w1.heap[p]?=some (.cells #[t.ptr,iw t.toL.length] 189 (0,0)):=by rw[g.kept.block p (gsz hk.box) hk.pn];exact hk.box
   refine⟨o,by rw[ho],Aa h1 rfl,Aa h1 rfl,Ad h1 _,Ad h1 _,?_⟩;have:=hk.upd g (Es hk.srt) (t.toL.length+1) (by rw[J7 hk.srt,hn];rfl);rw[ho]at this;exact Post.behind (hsw.below _) this
  obtain⟨c0,c1⟩:=h.cells;have fr0:=Ad h.box 0;have fr1:=Ad h.box 1;simp only[Oh]at CF;have hl':((t.toL.length:Nat):Int)<100000:=by omega
  clear h hg hn hf hl;generalize setF k v t.toL=L at*;generalize C9 p t=F at*;obtain⟨tp,hto⟩:=t.Dq;rw[hto]at CW c0;clear hto;generalize t.toL.length=n at*;obtain⟨bx,hbx⟩:=xj w.heap.size;rw[hbx]at z0 z1 z2 z3 z4;go_enter Tryz.func115,Tryz.ntmps115;go_wp2_with fail;refine(CF.out (by trivial)).mono ?_;rintro e w' ⟨rfl,rfl⟩;clear CF hW0 hbx;go_wp2_with fail;go_region_with (go_at_call 178;refine(CW.out _ ?_).mono ?_;exact Sw.drew (Sw.refl _);rintro e w1 ⟨o,rfl,d0,d1,f0,f1,HP⟩)
  all_goals
   go_wp2_with fail;refine bodyPost_end (results_none Tryz.results115 _ _ _) rfl ?_;exact⟨rfl,Post.behind HB.out HP.out⟩
def arc{B p:Nat}{t:Tr}{w:World}(k:Bi)(h:Mp B p t w)(hl:t.toL.length<100000):cpr 119 #[pz p,sd k] w λe w'=>e=.returned (.bool (getF k t.toL).isSome)/\Post B p (C9 p t) (cutF k t.toL) w w':=by
 exact ah1
def clI(m:Mm)(x:Bi×Cv):Ii:=⟨x.2.1.1,x.2.1.2,((getM x.2.1 m).getD zt).sp,((getM x.2.1 m).getD zt).sl,((getM x.2.1 m).getD zt).mp,((getM x.2.1 m).getD zt).ml,((getM x.2.1 m).getD zt).prim,x.2.2.val,x.2.2.dead⟩
def tblF(m:Mm)(L:Kv Cv):Tb:=L.map λx=>(x.1,clI m x)
structure Rel(L:Kv Cv)(m:Mm)(T:Tb):Prop where
 eq:T=tblF m L
 srt:Srt L
 key:∀x∈L,x.2.2.key=x.1
 has:∀x∈L,(getM x.2.1 m).isSome=true
 nd:(m.map (·.1)).Nodup
 ks:∀k t,getM k m=some t->t.kl=(byF k.1 k.2 T).map (·.1)/\t.kl≠[]/\0<=t.mp/\0<=t.ml
 ok:TOk T
def Rel.nil:Rel [] [] []:=⟨rfl,tq,by simp,by simp,by simp,(λ_ _ h=>by cases h),TOk.nil⟩
def Rel.len{L:Kv Cv}{m:Mm}{T:Tb}(h:Rel L m T):L.length=T.length:=by rw[h.eq];simp[tblF]
def Rel.get{L:Kv Cv}{m:Mm}{T:Tb}(h:Rel L m T)(k:Bi):getF k T=(getF k L).map λv=>clI m (k,v):=by rw[h.eq];exact akd (λx=>clI m x) k L
def Rel.keys{L:Kv Cv}{m:Mm}{T:Tb}(h:Rel L m T):T.map (·.1)=L.map (·.1):=by rw[h.eq,tblF,List.map_map];rfl
def Rel.mem{L:Kv Cv}{m:Mm}{T:Tb}(h:Rel L m T){y:Bi×Ii}(hy:y∈T):∃x∈L,y=(x.1,clI m x):=by rw[h.eq]at hy;obtain⟨x,hx,rfl⟩:=je.1 hy;exact⟨x,hx,rfl⟩
def Rel.isSome{L:Kv Cv}{m:Mm}{T:Tb}(h:Rel L m T)(c n:Int):(getM (c,n) m).isSome=decide (0<(byF c n T).length):=by
 cases hg:getM (c,n) m with
 |some t=>
  obtain⟨h1,h2,_⟩:=h.ks _ _ hg;have:0<(byF c n T).length:=by
   rcases oq (byF c n T).length with e|e
   .rw[qo]at e;rw[e]at h1;exact absurd h1 h2
   .exact e
  simp[this]
 |none=>
  have:byF c n T=[]:=by
   unfold byF;rw[xx];intro y hy;obtain⟨x,hx,rfl⟩:=h.mem hy;have h1:=h.has x hx;intro h2;have e1:x.2.1=(c,n):=by simp only[ofBy,clI,cu,uq]at h2;exact Prod.ext h2.1 h2.2
   rw[e1,hg]at h1;cases h1
  simp[this]
def Rel.kl{L:Kv Cv}{m:Mm}{T:Tb}(h:Rel L m T)(c n:Int):((getM (c,n) m).getD zt).kl=(byF c n T).map (·.1):=by
 have hs:=h.isSome c n;cases hg:getM (c,n) m with
 |some t=>exact(h.ks _ _ hg).1
 |none=>
  rw[hg]at hs;have:(byF c n T).length=0:=by
   rcases oq (byF c n T).length with e|e
   .exact e
   .simp[e]at hs
  rw[qo]at this;rw[this];rfl
def intF(T:Tb)(K:List Bi):Tb:=K.map λk=>(k,(getF k T).getD zi)
def ahx{T:Tb}(hs:Srt T):∀{X:Tb},(∀x∈X,x∈T)->intF T (X.map (·.1))=X
 |[],_=>rfl
 |x::X,h=>by simp only[intF,jd];have hx:getF x.1 T=some x.2:=(Dy hs).2 (h x (ji ..));have:=ahx hs (X:=X) (λy hy=>h y (gy _ hy));simp only[intF]at this;rw[this,hx];rfl
def ayy{T:Tb}(hs:Srt T)(c n:Int):intF T ((byF c n T).map (·.1))=byF c n T:=ahx hs (λ_ hx=>(jh.1 hx).1)
def auu{T:Tb}(hs:Srt T):intF T (T.map (·.1))=T:=ahx hs (λ_ hx=>hx)
def aut(T:Tb)(K:List Bi):(intF T K).length=K.length:=by simp[intF]
def Rel.raise{L:Kv Cv}{m:Mm}{T:Tb}(h:Rel L m T){c n mp ml:Int}{t:Tm}(hg:getM (c,n) m=some t)(h0:0<=mp/\0<=ml):Rel L (setM (c,n) (if ltT t.mp t.ml mp ml then{t with mp:=mp,ml:=ml}else t) m) (Jv c n mp ml T):=by
 have hcl:∀x:Bi×Cv,clI (setM (c,n) (if ltT t.mp t.ml mp ml then{t with mp:=mp,ml:=ml}else t) m) x=Hg c n mp ml (clI m x):=by
  intro x;unfold Hg clI ofBy;rw[Jl];by_cases e:(c,n)=x.2.1
  .rw[ah e,<-e,hg];have e1:(c==c&&n==n)=true:=by simp
   simp only[Option.getD_some,e1,Bool.true_and];split<;>rfl
  .rw[ag e];have e1:(x.2.1.1==c&&x.2.1.2==n)=false:=by
    cases hb:(x.2.1.1==c&&x.2.1.2==n)with
    |false=>rfl
    |true=>
     simp only[cu,uq]at hb;exact absurd (Prod.ext hb.1.symm hb.2.symm) e
   simp only[e1,Bool.false_and];rfl
 refine⟨?_,h.srt,h.key,λx hx=>?_,ajr h.nd,λk t' hk=>?_,h.ok.raise c n mp ml⟩
 .rw[h.eq];unfold Jv tblF;rw[List.map_map];refine List.map_congr_left (λx _=>?_);simp only[Function.comp_apply,hcl]
 .rw[Jl];split
  .rfl
  .exact h.has x hx
 .rw[Jl]at hk;have hb:(byF k.1 k.2 (Jv c n mp ml T)).map (·.1)=(byF k.1 k.2 T).map (·.1):=by
   unfold byF Jv;rw[List.filter_map,List.map_map];have:((λx:Bi×Ii=>ofBy k.1 k.2 x.2)∘λx:Bi×Ii=>(x.1,Hg c n mp ml x.2))=λx:Bi×Ii=>ofBy k.1 k.2 x.2:=by funext x;exact aoq
   rw[this];rfl
  rw[hb];split at hk
  .rename_i e;injection hk with hk;subst hk;obtain⟨h1,h2,h3,h4⟩:=h.ks _ _ hg;rw[<-e];split
   .exact⟨h1,h2,h0⟩
   .exact⟨h1,h2,h3,h4⟩
  .exact h.ks _ _ hk
def Jr{α:Type}:List Bi->Kv α->Kv α
 |[],L=>L
 |k::K,L=>Jr K (cutF k L)
