import Derived.Laws.ResultCell
import Derived.Test.YtnfpfbehebcdpaaGreatUau
set_option maxHeartbeats 0
set_option maxRecDepth 99999
set_option linter.all false
namespace Go.Proofs.YtnfpfbehebcdpaaGreat.Lgs
open Go.RowKit Go.Sort
def aa7{P:Program}{a:Act}{w:World}{Q:Exit->Act->World->Prop}{c:Code}(J:Nat->Act->World->Prop)(μ:Nat->Act->World->Nat)
  (pass:∀l a w,J l a w->(∀l1 a1 w1 rest1,findLabel c l1=some (Code.skip.seq rest1)->J l1 a1 w1->μ l1 a1 w1<μ l a w->rest1.wp P (Ef (λl' a' w'=>J l' a' w'/\μ l' a' w'<μ l a w) Q) a1 w1)->∃rest,findLabel c l=some (Code.skip.seq rest)/\rest.wp P (Ef (λl' a' w'=>J l' a' w'/\μ l' a' w'<μ l a w) Q) a w)
  (first:(∀l a w rest,findLabel c l=some (Code.skip.seq rest)->J l a w->rest.wp P (Ef J Q) a w)->c.wp P (Ef J Q) a w):(Code.scope c).wp P Q a w:=by
 refine Io J μ ?_ first
 have key:∀n l a w,μ l a w=n->J l a w->∃rest,findLabel c l=some (Code.skip.seq rest)/\rest.wp P (Ef (λl' a' w'=>J l' a' w'/\μ l' a' w'<μ l a w) Q) a w:=by
  intro n;induction n using Nat.strongRecOn with
  |ind n ih=>
   intro l a w hn hJ;refine pass l a w hJ ?_;intro l1 a1 w1 rest1 hf1 hJ1 hlt;obtain⟨r,hr,hwp⟩:=ih (μ l1 a1 w1) (by omega) l1 a1 w1 rfl hJ1;rw[hf1]at hr;injection hr with hr;injection hr with _ hr;subst hr;refine Code.wp_mono ?_ hwp;intro e a2 w2 hq;cases e with
   |goto l'=>exact⟨hq.1,by have:=hq.2;omega⟩
   |normal=>exact hq
   |exit id=>exact hq
   |ret=>exact hq
   |panic ch=>exact hq
   |outgrown=>exact hq
 exactλl a w hJ=>key _ l a w rfl hJ
def aci(c:Ct)(V:Value):Value:=.agg #[uw c.gen,V,iw c.fin,iw c.beh]
def CtIn(cb:Nat)(x0 x1 x2 x3:Value)(w:World):Prop:=w.heap[cb]?=some (.cells #[x0,x1,x2,x3] 108 (0,0))
section
variable {cb:Nat}{x0 x1 x2 x3:Value}{w:World}
def CtIn.lt(h:CtIn cb x0 x1 x2 x3 w):cb<w.heap.size:=gp h
def CtIn.cells(h:CtIn cb x0 x1 x2 x3 w):w.cell? ⟨cb,0,none⟩=some x0/\w.cell? ⟨cb,1,none⟩=some x1/\w.cell? ⟨cb,2,none⟩=some x2/\w.cell? ⟨cb,3,none⟩=some x3/\∀k,w.frozen? ⟨cb,k,none⟩=false:=by unfold CtIn at h;refine⟨?_,?_,?_,?_,λk=>?_⟩<;>simp[World.cell?,World.frozen?,h]
def CtIn.on{w':World}(h:CtIn cb x0 x1 x2 x3 w)(hb:Below w.heap.size w w'):CtIn cb x0 x1 x2 x3 w':=by unfold CtIn;rw[hb.block cb h.lt];exact h
def aec{w:World}{b k:Nat}{cs:Array Value}{t:TypeId}{u:Value}(h:w.heap[b]?=some (.cells cs t (0,0))):(w.setCell ⟨b,k,none⟩ u).heap[b]?=some (.cells (cs.setIfInBounds k u) t (0,0)):=by
 exact baw
def CtIn.set0(h:CtIn cb x0 x1 x2 x3 w)(u:Value):CtIn cb u x1 x2 x3 (w.setCell ⟨cb,0,none⟩ u):=aec h
def CtIn.set1(h:CtIn cb x0 x1 x2 x3 w)(u:Value):CtIn cb x0 u x2 x3 (w.setCell ⟨cb,1,none⟩ u):=aec h
def CtIn.set2(h:CtIn cb x0 x1 x2 x3 w)(u:Value):CtIn cb x0 x1 u x3 (w.setCell ⟨cb,2,none⟩ u):=aec h
def CtIn.set3(h:CtIn cb x0 x1 x2 x3 w)(u:Value):CtIn cb x0 x1 x2 u (w.setCell ⟨cb,3,none⟩ u):=aec h
def TxAt.box{B:Nat}{V:Value}{L:List Bi}(h:TxAt B V L w)(hb:cb<B)(k:Nat)(u:Value):TxAt B V L (w.setCell ⟨cb,k,none⟩ u):=
 wz h (λe=>by have:=(jm h cb e).1;omega) _
end
def AtS(s:Bi)(cb:Nat)(a:Act):Prop:=a.defers=[]/\a.tmps.size=83/\a.tmps.getD 0 undef=sd s/\a.tmps.getD 2 undef=.pointer (some ⟨cb,0,none⟩)
def all83(u:Nat->Value):((List.range 83).map u).toArray=#[u 0,u 1,u 2,u 3,u 4,u 5,u 6,u 7,u 8,u 9,u 10,u 11,u 12,u 13,u 14,u 15,u 16,u 17,u 18,u 19,u 20,u 21,u 22,u 23,u 24,u 25,u 26,u 27,u 28,u 29,u 30,u 31,u 32,u 33,u 34,u 35,u 36,u 37,u 38,u 39,u 40,u 41,u 42,u 43,u 44,u 45,u 46,u 47,u 48,u 49,u 50,u 51,u 52,u 53,u 54,u 55,u 56,u 57,u 58,u 59,u 60,u 61,u 62,u 63,u 64,u 65,u 66,u 67,u 68,u 69,u 70,u 71,u 72,u 73,u 74,u 75,u 76,u 77,u 78,u 79,u 80,u 81,u 82]:=rfl
def AtS.spelt{s:Bi}{cb:Nat}{a:Act}(h:AtS s cb a):∃u:Nat->Value,a={tmps:=#[sd s,u 1,pz cb,u 3,u 4,u 5,u 6,u 7,u 8,u 9,u 10,u 11,u 12,u 13,u 14,u 15,u 16,u 17,u 18,u 19,u 20,u 21,u 22,u 23,u 24,u 25,u 26,u 27,u 28,u 29,u 30,u 31,u 32,u 33,u 34,u 35,u 36,u 37,u 38,u 39,u 40,u 41,u 42,u 43,u 44,u 45,u 46,u 47,u 48,u 49,u 50,u 51,u 52,u 53,u 54,u 55,u 56,u 57,u 58,u 59,u 60,u 61,u 62,u 63,u 64,u 65,u 66,u 67,u 68,u 69,u 70,u 71,u 72,u 73,u 74,u 75,u 76,u 77,u 78,u 79,u 80,u 81,u 82],defers:=[]}:=by
 obtain⟨tmps,defers⟩:=a;obtain⟨h1,h2,h3,h4⟩:=h;dsimp only at h1 h2 h3 h4;subst h1;refine⟨λi=>tmps.getD i undef,?_⟩;have e:tmps=((List.range 83).map λi=>tmps.getD i undef).toArray:=by
  apply Array.ext
  .simp[h2]
  .intro i hi hi2;simp[Array.getD,hi]
 have e2:=e.trans (all83 _);rw[h3,h4]at e2;rw[<-e2]
structure LabAt(s:Bi)(cb:Nat)(w:World)(l:Nat)(V:Value)(L:List Bi)(t g:Nat)(w':World):Prop where
 ct:CtIn cb (uw g) V (iw t) (iw 0) w'
 tx:TxAt (cb+1) V L w'
 below:Below cb w w'
 le:t<=s.length
 len:L.length<=t
 tells:l=0/\lgOf s=none\/l=1/\lgOf s=(match cop s L t with|none=>none|some x=>some (g,app s x.1 x.2))\/l=2/\lgOf s=some (g,app s L t)
def akf(cb:Nat)(w:World):Nat:=(intOf ((w.cell? ⟨cb,2,none⟩).getD undef)).toNat
def Vs{cb t:Nat}{x0 x1 x3:Value}{w:World}(h:CtIn cb x0 x1 (iw t) x3 w):akf cb w=t:=by unfold akf;rw[h.cells.2.2.1];simp[intOf]
def ay0:(Tryz.prog.info? 108).map (·.size)=some 4:=by kernel_rfl
def ajz{cb:Nat}{x0 x1 x2 x3:Value}{w:World}(h:CtIn cb x0 x1 x2 x3 w):(loadVar 108 ⟨cb,0,none⟩).run Tryz.prog w=.ok (.agg #[x0,x1,x2,x3]) w:=
 run_loadVar_row w cb 108 108 #[x0,x1,x2,x3] (0,0) _ h Tryz.underlying108 rfl ay0
def Zr{cb:Nat}{x0 x1 x2 x3:Value}{w:World}(h:CtIn cb x0 x1 x2 x3 w){tmps:Array Value}(hp:tmps.getD 2 undef=.pointer (some ⟨cb,0,none⟩)):
  (results Tryz.f87 tmps).run Tryz.prog w=.ok (.tuple #[.agg #[x0,x1,x2,x3],tmps.getD 3 undef]) w:=by
 rw[results_cell_tmp rfl,hp];simp[asAddr,Result.andThen,ajz h]
def ayt{s:Bi}(h:(nx s).1≠71):lgOf s=none:=by unfold lgOf;rw[ag h]
def apx{s:Bi}(h:aba (nx s).2.1=false):lgOf s=none:=by
 unfold lgOf;split
 .rw[apd h]
 .rfl
def ays{s:Bi}(h1:(nx s).1=71)(h:aba (nx s).2.1=true):lgOf s=(match cop s [] (nx s).2.2 with|none=>none|some x=>some ((rdNum 18446744073709551615 ⟨(nx s).2.1,0⟩).1,app s x.1 x.2)):=by unfold lgOf;rw[ah h1,aln h];rfl
def adm(l:Bi):(nx l).2.1.length<16384:=by
 unfold nx;split
 .decide
 .next h=>
  have h0:(D8 l).2.2=0:=by
   by_cases h1:(D8 l).2.2=0
   .exact h1
   .exact absurd (.inl h1) h
  have h1:(D8 l).1≠[]:=λe=>h (.inr e);have h2:=(ajq (l:=l) (p:=(D8 l).1) (t:=(D8 l).2.1) (by rw[<-h0])).1;dsimp only;have h3:0<(D8 l).1.length:=List.length_pos_iff.2 h1;rw[List.length_tail];omega
def air{k:UInt8}{n:Nat}(h:k≠UInt8.ofNat n):((k.toNat:Int)==(n:Int))=false:=by have:k.toNat≠n:=λe=>h (by rw[<-e];simp);simp;omega
def Y7{k:UInt8}{n:Nat}(hn:n<256)(h:k=UInt8.ofNat n):((k.toNat:Int)==(n:Int))=true:=by subst h;rw[abg n hn];simp
def ao6{w:World}{n:Nat}(h:w.heap.size=n)(u:Value)(e:TypeId):∀j x,[u][j]?=some x->(w.alloc (.cells #[u] e)).cell? ((⟨n,0,none⟩:Addr).add j)=some x:=by subst h;exact Po w u e
def afv{cb g t:Nat}{ao:Option Addr}{cp:Nat}{L:List Bi}{r:Bi}{w w1 w3:World}{v':Value}(hc:CtIn cb (uw g) (.slice ao L.length cp) (iw t) (iw 0) w1)(ht:TxAt (cb+1) (.slice ao L.length cp) L w1)(hb:Below cb w w1)
  (hown:w3.ownsRow (cb+1) 9 1 v' (L.length+1) (sl L++[sd r])) (hg:(w1.alloc (.cells #[sd r] 9)).grownBy w3 (Value.ownBlock (.slice ao L.length cp))):
  ∃ao2 cp2,v'=.slice ao2 (L.length+1) cp2/\CtIn cb (uw g) (.slice ao L.length cp) (iw t) (iw 0) w3/\TxAt (cb+1) v' (L++[r]) w3/\Below cb w w3:=by
 have h3:TxAt (cb+1) v' (L++[r]) w3:=by unfold TxAt;rw[asw,af];exact hown
 obtain⟨ao2,cp2,e⟩:=J9 h3;rw[af]at e;have hlt:=hc.lt;have hne:Value.ownBlock (.slice ao L.length cp)≠some cb:=λe=>by have:=(jm ht cb e).1;omega
 refine⟨ao2,cp2,e,?_,h3,?_⟩
 .unfold CtIn;rw[hg.block cb (by simp;omega) (λe=>hne e.symm),uj w1 _ cb hlt];exact hc
 .exact(hb.alloc (by omega) _).grown hg (by simp;omega) (λk hk=>by have:=(jm ht k hk).1;omega)
def axw(s:Bi)(w:World)(hs:s.length<=1048576):
  cpr 87 #[sd s] w λe w'=>(∃V,e=.returned (.tuple #[aci (Ia s).1 V,.bool (Ia s).2])/\TxAt (w.heap.size+1) V (Ia s).1.recs w')/\Below w.heap.size w w':=by
 obtain⟨i0,hi,hz0,hz1,hz2⟩:=qc info9;have hsz:=Bq s;obtain⟨cb,hcb⟩:∃cb,cb=w.heap.size:=⟨_,rfl⟩;rw[<-hcb];have HCB:Hid (cb=w.heap.size):=hcb;clear hcb;go_enter Tryz.func87,Tryz.ntmps87;go_wp2_with fail;rw[<-HCB.out];have hct0:CtIn cb (uw 0) sy (iw 0) (iw 0) (w.alloc (.cells #[uw 0,sy,iw 0,iw 0] 108)):=by rw[HCB.out];exact ae w _
 have hb0:Below cb w (w.alloc (.cells #[uw 0,sy,iw 0,iw 0] 108)):=by rw[HCB.out];exact al _
 generalize w.alloc (.cells #[uw 0,sy,iw 0,iw 0] 108)=w0 at hct0 hb0|-;refine aa7 (λl a' w'=>AtS s cb a'/\∃V L t g,LabAt s cb w l V L t g w') (λl _ w'=>if l=0 then 0 else if l=1 then 4000000-akf cb w' else 2000000-akf cb w') ?_ ?_
 .clear hct0 hb0;rintro l a' w' ⟨hat,V,L,t,g,hl⟩ hp;obtain⟨u,rfl⟩:=hat.spelt;clear hat;have hfin:=Vs hl.ct;obtain⟨hct,htx,hbel,hle,hlen,⟨rfl,hr⟩|⟨rfl,hr⟩|⟨rfl,hr⟩⟩:=hl
  .refine⟨_,rfl,?_⟩;clear hp hfin;have zc0:=hct.cells;have hC:=(((hct.set0 (uw 0)).set1 sy).set2 (iw 0)).set3 (iw 0);have hBb:=(((hbel.setCell (p:=⟨cb,0,none⟩) (ai _) (uw 0)).setCell (p:=⟨cb,1,none⟩) (ai _) sy).setCell (p:=⟨cb,2,none⟩) (ai _) (iw 0)).setCell (p:=⟨cb,3,none⟩) (ai _) (iw 0);have H:Hid (CtIn cb (uw 0) sy (iw 0) (iw 0) ((((w'.setCell ⟨cb,0,none⟩ (uw 0)).setCell ⟨cb,1,none⟩ sy).setCell ⟨cb,2,none⟩ (iw 0)).setCell ⟨cb,3,none⟩ (iw 0))/\Below cb w ((((w'.setCell ⟨cb,0,none⟩ (uw 0)).setCell ⟨cb,1,none⟩ sy).setCell ⟨cb,2,none⟩ (iw 0)).setCell ⟨cb,3,none⟩ (iw 0))/\lgOf s=none):=⟨hC,hBb,hr⟩;clear hct htx hbel hr hC hBb;go_wp2;simp only[Ef];refine az (Zr H.out.1 rfl) rfl ?_;rw[V8 H.out.2.2];exact⟨⟨_,rfl,Y9 _ _⟩,H.out.2.1⟩
  .refine⟨_,rfl,?_⟩;obtain⟨ao,cp,rfl⟩:=J9 htx;have hdr:=J8 s t;rw[hsz]at hdr;have hmore:=arh (l:=s) (R:=L) (a:=t);have hend:=avl (l:=s) (R:=L) (a:=t);have hnone:=arf (l:=s) (R:=L) (a:=t);have hnl:=ajo (s.drop t);have hrl:=adm (s.drop t);have hpos:=ahk (l:=s.drop t);have hDl:(s.drop t).length=s.length-t:=jr;generalize s.drop t=D at*;obtain⟨k,r,n,hnx⟩:∃k r n,nx D=(k,r,n):=⟨_,_,_,rfl⟩;have HN:Hid (1=1->cpr 164 #[sd D] w' λe w1=>e=.returned (.tuple #[ub k.toNat,sd r,iw n])/\Below w'.heap.size w' w1):=λ_=>by have:=aho D w' (by omega);rw[hnx]at this;exact this
   rw[hnx]at hmore hend hnone hnl hrl hpos;dsimp only at hmore hend hnone hnl hrl hpos;clear hnx;have HP:Hid _:=hp;clear hp;have hwc:=hct.lt;have H0:Hid (CtIn cb (uw g) (.slice ao L.length cp) (iw t) (iw 0) w'/\TxAt (cb+1) (.slice ao L.length cp) L w'/\Below cb w w'):=⟨hct,htx,hbel⟩;have zc0:=hct.cells;clear hct htx hbel;obtain⟨m,hm⟩:∃m,m=t+n:=⟨_,rfl⟩;rw[<-hm]at hmore hend;have hw1:∀w1,Below w'.heap.size w' w1->CtIn cb (uw g) (.slice ao L.length cp) (iw (m:Int)) (iw 0) (w1.setCell ⟨cb,2,none⟩ (iw (m:Int)))/\TxAt (cb+1) (.slice ao L.length cp) L (w1.setCell ⟨cb,2,none⟩ (iw (m:Int)))/\Below cb w (w1.setCell ⟨cb,2,none⟩ (iw (m:Int))):=λw1 hb=>⟨(H0.out.1.on hb).set2 _,(H0.out.2.1.on hb).box (by omega) _ _,(H0.out.2.2.trans (hb.mono (by omega))).setCell (p:=⟨cb,2,none⟩) (ai _) _⟩;have HW:Hid _:=hw1;clear hw1;have hadd:IntKind.i64.wrap ((t:Int)+n)=((m:Nat):Int):=by rw[hm];simp[IntKind.wrap,IntKind.bits,IntKind.signed];omega
   have hm6:6<=n->t+6<=m:=by omega
   have hml:m<=s.length:=by omega
   have hmt:t<=m:=by omega
   clear hm;by_cases hk:k=67
   .have hk':((k.toNat:Int)==67)=true:=Y7 (n:=67) (by decide) hk;have hr2:lgOf s=(match cop s (L++[r]) m with|none=>none|some x=>some (g,app s x.1 x.2)):=by rw[<-hmore hk];exact hr
    have HR:Hid _:=hr2;have hn6:=hm6 (hpos (by rw[hk];decide));clear hmore hend hnone hpos hr hr2 hk;go_wp2_with fail;refine(HN.out (by trivial)).mono ?_;rintro e w1 ⟨rfl,hb1⟩;have ze0:=(H0.out.1.on hb1).cells;have H1:Hid _:=HW.out w1 hb1;have zd0:=H1.out.1.cells;clear hb1;go_wp2_with (at_builtin;refine yw _ rfl (.tmp 42) (.tmp 44) 80 rfl (cb+1) 9 i0 su 1 16 Tryz.underlying80 hi hz0 hz1 hz2 rfl (by decide) (.slice ao L.length cp) L.length (sl L) rfl (o6 H1.out.2.1 _) ⟨_,0,none⟩ 1 1 [sd r] rfl rfl (ao6 (by simp) _ _) (aiy _) (by unfold maxLen;omega) (by omega) (by have:=H1.out.1.lt;simp at this|-;omega) ?_;intro v' w3 hown' hgrow _;obtain⟨ao2,cp2,rfl,h3c,h3t,h3b⟩:=afv H1.out.1 H1.out.2.1 H1.out.2.2 hown' hgrow;have H3:Hid _:=jq (h3c.set1 (.slice ao2 (L.length+1) cp2)) (jq (h3t.box (kw cb) 1 (.slice ao2 (L.length+1) cp2)) (h3b.setCell (p:=⟨cb,1,none⟩) (ai _) (.slice ao2 (L.length+1) cp2)));obtain⟨f0,f1,f2,f3,ff⟩:=h3c.cells;clear hown' hgrow h3c h3t h3b)
    go_step3
    refine⟨⟨⟨rfl,rfl,rfl,rfl⟩,_,L++[r],m,g,⟨H3.out.1,H3.out.2.1,H3.out.2.2,by omega,by rw[af];show L.length+1<=_;omega,.inr (.inl ⟨rfl,HR.out⟩)⟩⟩,?_⟩;rw[Vs H3.out.1,hfin];simp;omega
   .have hk':((k.toNat:Int)==67)=false:=air (n:=67) hk;by_cases hke:k=69/\r=[]
    .obtain⟨hk2,rfl⟩:=hke;have hk3:((k.toNat:Int) != 69)=false:=by have:=Y7 (n:=69) (by decide) hk2;simpa using this
     have hr2:lgOf s=some (g,app s L m):=by rw[hr,hend hk2 rfl]
     have HR:Hid _:=hr2;have hre:=Iq;clear hmore hend hnone hpos hr hr2 hk hk2;go_wp2_with fail;refine(HN.out (by trivial)).mono ?_;rintro e w1 ⟨rfl,hb1⟩;have ze0:=(H0.out.1.on hb1).cells;have H1:Hid _:=HW.out w1 hb1;have zd0:=H1.out.1.cells;clear hb1;go_wp2_with fail
     go_step3
     rename_i K hK;refine hK _ _ ?_;refine HP.out 2 _ _ _ rfl ⟨⟨rfl,rfl,rfl,rfl⟩,_,L,m,g,⟨H1.out.1,H1.out.2.1,H1.out.2.2,by omega,by omega,.inr (.inr ⟨rfl,HR.out⟩)⟩⟩ ?_;rw[Vs H1.out.1,hfin];simp;omega
    .have hr2:lgOf s=none:=by rw[hr,hnone hk hke]
     have HR:Hid _:=hr2;have hpk:(((k.toNat:Int) != 69)=true)\/(((k.toNat:Int) != 69)=false/\(bs r).toList.isEmpty=false):=by
      by_cases h1:k=69
      .right;refine⟨by have:=Y7 (n:=69) (by decide) h1;simpa using this,?_⟩;rw[Jo];cases r with
       |nil=>exact absurd ⟨h1,rfl⟩ hke
       |cons b r=>rfl
      .left;have:=air (n:=69) h1;simpa using this
     clear hmore hend hnone hpos hr hr2 hk hke;rcases hpk with h1|⟨h1,h2⟩
     all_goals
      go_wp2_with fail;refine(HN.out (by trivial)).mono ?_;rintro e w1 ⟨rfl,hb1⟩;have ze0:=(H0.out.1.on hb1).cells;have H1:Hid _:=HW.out w1 hb1;have zd0:=H1.out.1.cells;clear hb1;go_wp2_with fail
      go_step3
      refine⟨⟨⟨rfl,rfl,rfl,rfl⟩,_,L,m,g,⟨H1.out.1,H1.out.2.1,H1.out.2.2,by omega,by omega,.inl ⟨rfl,HR.out⟩⟩⟩,?_⟩;simp[hfin];omega
  .refine⟨_,rfl,?_⟩;clear hp;obtain⟨ao,cp,rfl⟩:=J9 htx;have hdr:=J8 s t;rw[hsz]at hdr;have hmore:=arv (l:=s) (R:=L) (a:=t);have hend:=av3 (l:=s) (R:=L) (a:=t);have hnl:=ajo (s.drop t);have hrl:=adm (s.drop t);have hpos:=ahk (l:=s.drop t);have hDl:(s.drop t).length=s.length-t:=jr;generalize s.drop t=D at*;obtain⟨k,r,n,hnx⟩:∃k r n,nx D=(k,r,n):=⟨_,_,_,rfl⟩;have HN:Hid (1=1->cpr 164 #[sd D] w' λe w1=>e=.returned (.tuple #[ub k.toNat,sd r,iw n])/\Below w'.heap.size w' w1):=λ_=>by have:=aho D w' (by omega);rw[hnx]at this;exact this
   rw[hnx]at hmore hend hnl hrl hpos;dsimp only at hmore hend hnl hrl hpos;clear hnx;have hwc:=hct.lt;have H0:Hid (CtIn cb (uw g) (.slice ao L.length cp) (iw t) (iw 0) w'/\TxAt (cb+1) (.slice ao L.length cp) L w'/\Below cb w w'):=⟨hct,htx,hbel⟩;have zc0:=hct.cells;clear hct htx hbel;obtain⟨m,hm⟩:∃m,m=t+n:=⟨_,rfl⟩;rw[<-hm]at hmore;have hadd:IntKind.i64.wrap ((t:Int)+n)=((m:Nat):Int):=by rw[hm];simp[IntKind.wrap,IntKind.bits,IntKind.signed];omega
   have hm6:6<=n->t+6<=m:=by omega
   have hml:m<=s.length:=by omega
   have hmt:t<=m:=by omega
   clear hm;have hsub:IntKind.i64.wrap ((s.length:Int)-t)=((s.length-t:Nat):Int):=by simp[IntKind.wrap,IntKind.bits,IntKind.signed];omega
   by_cases hk:k=82
   .have hk':((k.toNat:Int)==82)=true:=Y7 (n:=82) (by decide) hk;have hr2:lgOf s=some (g,app s (L++[r]) m):=by rw[<-hmore hk];exact hr
    have HR:Hid _:=hr2;have hn6:=hm6 (hpos (by rw[hk];decide));clear hmore hend hpos hr hr2 hk hsub;go_wp2_with fail;refine(HN.out (by trivial)).mono ?_;rintro e w1 ⟨rfl,hb1⟩;have H1:Hid _:=jq (H0.out.1.on hb1) (jq (H0.out.2.1.on hb1) (H0.out.2.2.trans (hb1.mono (by omega))));have zd0:=H1.out.1.cells;clear hb1;go_wp2_with (at_builtin;refine yw _ rfl (.tmp 65) (.tmp 67) 80 rfl (cb+1) 9 i0 su 1 16 Tryz.underlying80 hi hz0 hz1 hz2 rfl (by decide) (.slice ao L.length cp) L.length (sl L) rfl (o6 H1.out.2.1 _) ⟨_,0,none⟩ 1 1 [sd r] rfl rfl (Po _ _ _) (aiy _) (by unfold maxLen;omega) (by omega) (by have:=H1.out.1.lt;simp at this|-;omega) ?_;intro v' w3 hown' hgrow _;obtain⟨ao2,cp2,rfl,h3c,h3t,h3b⟩:=afv H1.out.1 H1.out.2.1 H1.out.2.2 hown' hgrow;have h4c:=h3c.set1 (.slice ao2 (L.length+1) cp2);have H3:Hid _:=jq (h4c.set2 (iw (m:Int))) (jq ((h3t.box (kw cb) 1 (.slice ao2 (L.length+1) cp2)).box (kw cb) 2 (iw (m:Int))) ((h3b.setCell (p:=⟨cb,1,none⟩) (ai _) (.slice ao2 (L.length+1) cp2)).setCell (p:=⟨cb,2,none⟩) (ai _) (iw (m:Int))));obtain⟨f0,f1,f2,f3,ff⟩:=h3c.cells;obtain⟨g0,g1,g2,g3,gf⟩:=h4c.cells;clear hown' hgrow h3c h3t h3b h4c)
    go_step3
    refine⟨⟨⟨rfl,rfl,rfl,rfl⟩,_,L++[r],m,g,⟨H3.out.1,H3.out.2.1,H3.out.2.2,by omega,by rw[af];show L.length+1<=_;omega,.inr (.inr ⟨rfl,HR.out⟩)⟩⟩,?_⟩;rw[Vs H3.out.1,hfin];simp;omega
   .have hk':((k.toNat:Int)==82)=false:=air (n:=82) hk;have hr2:lgOf s=some (g,L,t):=by rw[hr,hend hk]
    have HR:Hid _:=hr2;clear hmore hend hpos hr hr2 hk hadd hfin;go_wp2_with fail;refine(HN.out (by trivial)).mono ?_;rintro e w1 ⟨rfl,hb1⟩;have h1c:=H0.out.1.on hb1;have h1t:=H0.out.2.1.on hb1;have h1b:=H0.out.2.2.trans (hb1.mono (by omega));have zd0:=h1c.cells;have h2c:=h1c.set3 (iw ((s.length-t:Nat):Int));have h2t:=h1t.box (kw cb) 3 (iw ((s.length-t:Nat):Int));have h2b:=h1b.setCell (p:=⟨cb,3,none⟩) (ai _) (iw ((s.length-t:Nat):Int));have ze0:=h2c.cells;have H3:Hid _:=jq ((((h2c.set0 (uw g)).set1 (.slice ao L.length cp)).set2 (iw t)).set3 (iw ((s.length-t:Nat):Int))) (jq ((((h2t.box (kw cb) 0 (uw g)).box (kw cb) 1 (.slice ao L.length cp)).box (kw cb) 2 (iw t)).box (kw cb) 3 (iw ((s.length-t:Nat):Int))) ((((h2b.setCell (p:=⟨cb,0,none⟩) (ai _) (uw g)).setCell (p:=⟨cb,1,none⟩) (ai _) (.slice ao L.length cp)).setCell (p:=⟨cb,2,none⟩) (ai _) (iw t)).setCell (p:=⟨cb,3,none⟩) (ai _) (iw ((s.length-t:Nat):Int))));clear hb1 h1c h1t h1b h2c h2t h2b;go_wp2;simp only[Ef];refine az (Zr H3.out.1 rfl) rfl ?_;rw[Sj HR.out];exact⟨⟨_,rfl,H3.out.2.1⟩,H3.out.2.2⟩
 .intro hp;have HP:Hid _:=hp;clear hp;obtain⟨k,r,n,hnx⟩:∃k r n,nx s=(k,r,n):=⟨_,_,_,rfl⟩;have HN:Hid (1=1->cpr 164 #[sd s] w0 λe w'=>e=.returned (.tuple #[ub k.toNat,sd r,iw n])/\Below w0.heap.size w0 w'):=λ_=>by have:=aho s w0 (by omega);rw[hnx]at this;exact this
  have hnl:n<=s.length:=by have:=ajo s;rw[hnx]at this;exact this
  have hrl:r.length<16384:=by have:=adm s;rw[hnx]at this;exact this
  have H0:Hid (CtIn cb (uw 0) sy (iw 0) (iw 0) w0/\Below cb w w0/\cb<w0.heap.size):=⟨hct0,hb0,hct0.lt⟩;clear hct0 hb0;by_cases hk:k=71
  .have hk':((k.toNat:Int) != 71)=false:=by have:=Y7 (n:=71) (by decide) hk;simpa using this
   have HM:Hid (∀w,1=1->cpr 165 #[sd r] w λe w'=>e=.returned (.tuple #[uw (rdNum 18446744073709551615 ⟨r,0⟩).1,.bool (aba r)])/\Below w.heap.size w w'):=λw _=>apc r w (by omega);have hyes:aba r=true->lgOf s=(match cop s [] n with|none=>none|some x=>some ((rdNum 18446744073709551615 ⟨r,0⟩).1,app s x.1 x.2)):=λh=>by have:=ays (s:=s) (by rw[hnx];exact hk) (by rw[hnx];exact h);rw[hnx]at this;exact this
   have hno:aba r=false->lgOf s=none:=λh=>apx (by rw[hnx];exact h);generalize (rdNum 18446744073709551615 ⟨r,0⟩).1=g at*;cases hb:aba r with
   |true=>
    rw[hb]at HM;have HL:Hid _:=hyes hb;clear hyes hno hb hnx hk;go_wp2_with (go_at_call 164;refine(HN.out (by trivial)).mono ?_;rintro e w1 ⟨rfl,hb1⟩);go_wp2_with fail;refine(HM.out _ (by trivial)).mono ?_;rintro e w2 ⟨rfl,hb2⟩;have hB2:Below cb w w2:=(H0.out.2.1.trans (hb1.mono (og H0.out.2.2))).trans (hb2.mono (by have:=hb1.size;have:=H0.out.2.2;omega));have hC2:=(H0.out.1.on hb1).on hb2;have zc0:=hC2.cells;have hC3:=hC2.set0 (uw g);have zd0:=hC3.cells;have hC4:=hC3.set2 (iw n);have HC:Hid (CtIn cb (uw g) sy (iw n) (iw 0) ((w2.setCell ⟨cb,0,none⟩ (uw g)).setCell ⟨cb,2,none⟩ (iw n))/\Below cb w ((w2.setCell ⟨cb,0,none⟩ (uw g)).setCell ⟨cb,2,none⟩ (iw n))):=⟨hC4,(hB2.setCell (p:=⟨cb,0,none⟩) (ai _) _).setCell (p:=⟨cb,2,none⟩) (ai _) _⟩;clear hC2 hC3 hC4 hb1 hb2 hB2;go_wp2_with fail
    go_step3
    rename_i K hK;refine hK _ _ ?_;exact HP.out 1 _ _ _ rfl ⟨⟨rfl,rfl,rfl,rfl⟩,_,[],n,g,⟨HC.out.1,Y9 _ _,HC.out.2,hnl,eu _,.inr (.inl ⟨rfl,HL.out⟩)⟩⟩
   |false=>
    rw[hb]at HM;have HL:Hid (lgOf s=none):=hno hb;clear hyes hno hb hnx hk;go_wp2_with (go_at_call 164;refine(HN.out (by trivial)).mono ?_;rintro e w1 ⟨rfl,hb1⟩);go_wp2_with fail;refine(HM.out _ (by trivial)).mono ?_;rintro e w2 ⟨rfl,hb2⟩;have hB2:Below cb w w2:=(H0.out.2.1.trans (hb1.mono (og H0.out.2.2))).trans (hb2.mono (by have:=hb1.size;have:=H0.out.2.2;omega));have hC2:=(H0.out.1.on hb1).on hb2;have zc0:=hC2.cells;have HC:Hid (CtIn cb (uw g) sy (iw 0) (iw 0) (w2.setCell ⟨cb,0,none⟩ (uw g))/\Below cb w (w2.setCell ⟨cb,0,none⟩ (uw g))):=⟨hC2.set0 _,hB2.setCell (p:=⟨cb,0,none⟩) (ai _) _⟩;clear hC2 hb1 hb2 hB2;go_wp2_with fail
    go_step3
    exact⟨⟨rfl,rfl,rfl,rfl⟩,_,[],0,g,⟨HC.out.1,Y9 _ _,HC.out.2,eu _,eu _,.inl ⟨rfl,HL.out⟩⟩⟩
  .have hk':((k.toNat:Int) != 71)=true:=by have:=air (n:=71) hk;simpa using this
   have hlg:lgOf s=none:=ayt (by rw[hnx];exact hk);have HL:Hid (lgOf s=none):=hlg;clear hlg hnx;go_wp2_with (go_at_call 164;refine(HN.out (by trivial)).mono ?_;rintro e w1 ⟨rfl,hb1⟩)
   go_step3
   refine⟨⟨rfl,rfl,rfl,rfl⟩,sy,[],0,0,⟨H0.out.1.on hb1,Y9 _ _,H0.out.2.1.trans (hb1.mono (og H0.out.2.2)),eu _,eu _,.inl ⟨rfl,HL.out⟩⟩⟩
open Drm (Dr Pt Ak Bd)
def ae6{cb:Nat}{x0 x1 x2 x3:Value}{w:World}(h:CtIn cb x0 x1 x2 x3 w){tmps:Array Value}(hp:tmps.getD 3 undef=.pointer (some ⟨cb,0,none⟩)):
  (results Tryz.f35 tmps).run Tryz.prog w=.ok (.tuple #[tmps.getD 2 undef,.agg #[x0,x1,x2,x3],tmps.getD 4 undef]) w:=by
 have hp':tmps[3]?.getD undef=.pointer (some ⟨cb,0,none⟩):=by simpa using hp
 simp[results,hp',asAddr,ajz h,Result.andThen]
def TxAt.widen{B B':Nat}{V:Value}{L:List Bi}{w:World}(h:TxAt B V L w)(hb:B'<=B):TxAt B' V L w:=⟨h.1,by
 rcases h.2 with h|⟨g,cap,cur,h1,h2,h3⟩
 .exact .inl h
 .exact .inr ⟨g,cap,cur,h1,by omega,h3⟩⟩
def ak3(w:World)(fb:Nat)(a b c d:Value):World:=(((w.setCell ⟨fb,0,none⟩ a).setCell ⟨fb,1,none⟩ b).setCell ⟨fb,2,none⟩ c).setCell ⟨fb,3,none⟩ d
def ac7{fb:Nat}{x0 x1 x2 x3:Value}{w:World}(h:CtIn fb x0 x1 x2 x3 w)(a b c d:Value):CtIn fb a b c d (ak3 w fb a b c d):=(((h.set0 a).set1 b).set2 c).set3 d
def ac6{fb B:Nat}{V:Value}{L:List Bi}{w:World}(h:TxAt B V L w)(hb:fb<B)(a b c d:Value):TxAt B V L (ak3 w fb a b c d):=(((h.box hb 0 a).box hb 1 b).box hb 2 c).box hb 3 d
def Zj{fb rb:Nat}{x0 x1 x2 x3:Value}{w:World}(h:CtIn rb x0 x1 x2 x3 w)(hne:rb≠fb)(a b c d:Value):CtIn rb x0 x1 x2 x3 (ak3 w fb a b c d):=by unfold CtIn ak3;rw[jl _ _ _ _ hne,jl _ _ _ _ hne,jl _ _ _ _ hne,jl _ _ _ _ hne];exact h
def Uc{fb B:Nat}{w0 w:World}(h:Below B w0 w)(hb:B<=fb)(a b c d:Value):Below B w0 (ak3 w fb a b c d):=
 (((h.setCell (p:=⟨fb,0,none⟩) hb a).setCell (p:=⟨fb,1,none⟩) hb b).setCell (p:=⟨fb,2,none⟩) hb c).setCell (p:=⟨fb,3,none⟩) hb d
def U7(D:Dr)(k:Nat): -1<=(Ap D k).1/\(Ap D k).1<k:=by
 induction k with
 |zero=>exact⟨Int.le_refl _,by show(-1:Int)<0;decide⟩
 |succ k ih=>
  rw[Ap];split
  .exact⟨by omega,by omega⟩
  .omega
def api(pb:Nat)(D:Dr)(w:World)(hD:Ak pb D w)(hOk:D.Ok)(hdn:D.down=false):
  cpr 35 #[pz pb] w λe w'=>(∃V,e=.returned (.tuple #[iw (Ap D 4).1,aci (Ap D 4).2 V,iw 0])/\TxAt (w.heap.size+1) V (Ap D 4).2.recs w')/\Below w.heap.size w w':=by
 have HH:Hid (∀(k:Nat) (wr:World),k<4->Below w.heap.size w wr->cpr 85 #[pz pb,iw k] wr λe w'=>e=.returned (.bool (D.p k).there)/\wr=w'):=λk wr hk hb=>by have:=Drm.awx pb D k wr (hD.on hb);rw[au1 D k hk]at this;exact this
 have HRd:Hid (∀(k:Nat) (wr:World),k<4->(D.p k).there=true->Below w.heap.size w wr->cpr 86 #[pz pb,iw k] wr λe w'=>e=.returned (.tuple #[.string (bs (D.p k).l),iw 0])/\wr=w'):=λk wr hk ht hb=>by have:=Drm.ax2 pb D k wr (hD.on hb);rw[Drm.atj hdn hk ht]at this;exact this
 have hln:∀k,k<4->(D.p k).l.length<=1048576:=λk hk=>by have:=D.Q5 k hk;have:=hOk.fits;have:=hOk.room1;omega
 have HLn:Hid _:=hln;clear hln hD hOk hdn;go_enter Tryz.func35,Tryz.ntmps35;go_wp2_with fail;obtain⟨rb,hrb⟩:∃rb,rb=w.heap.size:=⟨_,rfl⟩;have HRB:Hid (rb=w.heap.size):=hrb;rw[<-hrb];have hw0:CtIn rb (uw 0) sy (iw 0) (iw 0) ((w.alloc (.cells #[uw 0,sy,iw 0,iw 0] 108)).alloc (.cells #[uw 0,sy,iw 0,iw 0] 108)):=by unfold CtIn;rw[uj _ _ rb (by rw[hrb];simp),hrb];exact ae w _
 have hw1:CtIn (rb+1) (uw 0) sy (iw 0) (iw 0) ((w.alloc (.cells #[uw 0,sy,iw 0,iw 0] 108)).alloc (.cells #[uw 0,sy,iw 0,iw 0] 108)):=by rw[hrb];exact heap_alloc2_new w _ _
 have hb0:Below rb w ((w.alloc (.cells #[uw 0,sy,iw 0,iw 0] 108)).alloc (.cells #[uw 0,sy,iw 0,iw 0] 108)):=by rw[hrb];exact(al _).alloc (by simp) _
 generalize (w.alloc (.cells #[uw 0,sy,iw 0,iw 0] 108)).alloc (.cells #[uw 0,sy,iw 0,iw 0] 108)=w0 at hw0 hw1 hb0|-;have H0:Hid _:=jq hw0 (jq hw1 hb0);clear hw0 hw1 hb0 hrb;go_wp2_with fail;go_loopw [5,12] (λa i wr=>∃k:Nat,k<=4/\i=iw k/\a=iw (Ap D k).1/\∃V,CtIn (rb+1) (uw (Ap D k).2.gen) V (iw (Ap D k).2.fin) (iw (Ap D k).2.beh) wr/\TxAt (rb+2) V (Ap D k).2.recs wr/\CtIn rb (uw 0) sy (iw 0) (iw 0) wr/\Below rb w wr) (λ_ i _=>4-(intOf i).toNat)
 case atStart=>exact⟨0,by omega,rfl,rfl,_,H0.out.2.1,Y9 _ _,H0.out.1,H0.out.2.2⟩
 case round=>
  obtain⟨k,hk,rfl,rfl,V,h1,h2,h3,h4⟩:=hrel;have HR:Hid (CtIn (rb+1) (uw (Ap D k).2.gen) V (iw (Ap D k).2.fin) (iw (Ap D k).2.beh) wr/\TxAt (rb+2) V (Ap D k).2.recs wr/\CtIn rb (uw 0) sy (iw 0) (iw 0) wr/\Below rb w wr):=⟨h1,h2,h3,h4⟩;clear h1 h2 h3 h4;by_cases hlt:k<4
  .have hsucc:Ap D (k+1)=if(D.p k).there=true/\(Ia (D.p k).l).2=true/\((Ap D k).1= -1\/(Ap D k).2.gen<(Ia (D.p k).l).1.gen)then((k:Int),(Ia (D.p k).l).1)else Ap D k:=rfl;have HH1:Hid (1=1->cpr 85 #[pz pb,iw k] wr λe w'=>e=.returned (.bool (D.p k).there)/\wr=w'):=λ_=>HH.out k wr hlt (HRB.out▸HR.out.2.2.2);obtain⟨b,hb⟩:=xj (D.p k).there;rw[hb]at HH1 hsucc;cases b with
   |false=>
    have hs:Ap D (k+1)=Ap D k:=by rw[hsucc,ag (by simp)]
    have HS:Hid _:=hs;clear hsucc hs hb;go_wp2_with (go_at_call 85;refine(HH1.out (by trivial)).mono ?_;rintro e w1 ⟨rfl,rfl⟩);go_roundw
    case rel=>exact⟨k+1,by omega,by go_num,by rw[HS.out],V,by rw[HS.out];exact HR.out.1,by rw[HS.out];exact HR.out.2.1,HR.out.2.2⟩
    case measure=>simp[intOf];omega
   |true=>
    have HR1:Hid (1=1->cpr 86 #[pz pb,iw k] wr λe w'=>e=.returned (.tuple #[.string (bs (D.p k).l),iw 0])/\wr=w'):=λ_=>HRd.out k wr hlt hb (HRB.out▸HR.out.2.2.2);have HSc:Hid (∀w,1=1->cpr 87 #[.string (bs (D.p k).l)] w λe w'=>(∃V,e=.returned (.tuple #[aci (Ia (D.p k).l).1 V,.bool (Ia (D.p k).l).2])/\TxAt (w.heap.size+1) V (Ia (D.p k).l).1.recs w')/\Below w.heap.size w w'):=λw _=>axw _ w (HLn.out k hlt);clear hb;have hrg:=U7 D k;obtain⟨nw,hnw⟩:=xj (Ap D k);rw[hnw]at HR hsucc hrg;rw[hnw];have HNW:Hid _:=hnw;clear hnw;generalize bs (D.p k).l=hl at*;generalize Ia (D.p k).l=sc at*;obtain⟨ar,c⟩:=nw;obtain⟨c',ok⟩:=sc;dsimp only at HR hsucc HSc hrg|-;have HSU:Hid _:=hsucc;clear hsucc;go_wp2_with (first
     |(go_at_call 85;refine(HH1.out (by trivial)).mono ?_;rintro e w1 ⟨rfl,rfl⟩)
     |(go_at_call 86;refine(HR1.out (by trivial)).mono ?_;rintro e w1 ⟨rfl,rfl⟩)
     |fail)
    refine(HSc.out _ (by trivial)).mono ?_;rintro e w1 ⟨⟨V',rfl,ht⟩,hb1⟩;have H1:Hid (CtIn (rb+1) (uw c.gen) V (iw c.fin) (iw c.beh) w1/\TxAt (rb+2) V c.recs w1/\CtIn rb (uw 0) sy (iw 0) (iw 0) w1/\Below rb w w1/\TxAt (rb+2) V' c'.recs w1/\rb+1<w1.heap.size):=⟨HR.out.1.on hb1,HR.out.2.1.on hb1,HR.out.2.2.1.on hb1,HR.out.2.2.2.trans (hb1.mono (by have:=HR.out.1.lt;omega)),⟨ht.1,by
     rcases ht.2 with h|⟨g,cap,cur,h1,h2,h3⟩
     .exact .inl h
     .exact .inr ⟨g,cap,cur,h1,by have:=HR.out.1.lt;omega,h3⟩⟩,by have:=HR.out.1.lt;have:=hb1.size;omega⟩
    clear ht hb1;unfold aci;obtain⟨ao',cp',rfl⟩:=J9 H1.out.2.2.2.2.1;obtain⟨ao,cp,rfl⟩:=J9 H1.out.2.1;have hE:Below w1.heap.size w1 (w1.alloc (.cells #[uw c'.gen,.slice ao' c'.recs.length cp',iw c'.fin,iw c'.beh] 108)):=al _;have hT2:CtIn w1.heap.size (uw c'.gen) (.slice ao' c'.recs.length cp') (iw c'.fin) (iw c'.beh) (w1.alloc (.cells #[uw c'.gen,.slice ao' c'.recs.length cp',iw c'.fin,iw c'.beh] 108)):=ae w1 _;have hF2:=H1.out.1.on hE;have H2:Hid (CtIn (rb+1) (uw c.gen) (.slice ao c.recs.length cp) (iw c.fin) (iw c.beh) (w1.alloc (.cells #[uw c'.gen,.slice ao' c'.recs.length cp',iw c'.fin,iw c'.beh] 108))/\TxAt (rb+2) (.slice ao c.recs.length cp) c.recs (w1.alloc (.cells #[uw c'.gen,.slice ao' c'.recs.length cp',iw c'.fin,iw c'.beh] 108))/\CtIn rb (uw 0) sy (iw 0) (iw 0) (w1.alloc (.cells #[uw c'.gen,.slice ao' c'.recs.length cp',iw c'.fin,iw c'.beh] 108))/\Below rb w (w1.alloc (.cells #[uw c'.gen,.slice ao' c'.recs.length cp',iw c'.fin,iw c'.beh] 108))/\TxAt (rb+2) (.slice ao' c'.recs.length cp') c'.recs (w1.alloc (.cells #[uw c'.gen,.slice ao' c'.recs.length cp',iw c'.fin,iw c'.beh] 108))):=
     ⟨hF2,H1.out.2.1.on hE,H1.out.2.2.1.on hE,H1.out.2.2.2.1.trans (hE.mono (by have:=H1.out.2.2.2.2.2;omega)),H1.out.2.2.2.2.1.on hE⟩
    have zt0:=hT2.cells;obtain⟨f0,f1,f2,f3,ff⟩:=hF2.cells;clear hE hT2 hF2;have hway:(ok=false\/ok=true/\ar≠ -1/\¬((c.gen:Int)<c'.gen))\/(ok=true/\ar= -1)\/(ok=true/\ar≠ -1/\(c.gen:Int)<c'.gen):=by
     cases ok with
     |false=>exact .inl (.inl rfl)
     |true=>
      by_cases h1:ar= -1
      .exact .inr (.inl ⟨rfl,h1⟩)
      .by_cases h2:(c.gen:Int)<c'.gen
       .exact .inr (.inr ⟨rfl,h1,h2⟩)
       .exact .inl (.inr ⟨rfl,h1,h2⟩)
    rcases hway with hno|hyes|hyes
    .have HS:Hid (Ap D (k+1)=(ar,c)):=by
      show _=_;rw[HSU.out,ag];rintro⟨_,h1,h2⟩;rcases hno with h|⟨h,h3,h4⟩
      .rw[h]at h1;exact absurd h1 (by decide)
      .rcases h2 with h2|h2
       .exact h3 h2
       .exact h4 (by omega)
     clear HSU;have hrel2:∃k1:Nat,k1<=4/\Value.int .i64 ((k:Int)+1)=iw k1/\Value.int .i64 ar=iw (Ap D k1).1/\∃V,CtIn (rb+1) (uw (Ap D k1).2.gen) V (iw (Ap D k1).2.fin) (iw (Ap D k1).2.beh) (w1.alloc (.cells #[uw c'.gen,.slice ao' c'.recs.length cp',iw c'.fin,iw c'.beh] 108))/\TxAt (rb+2) V (Ap D k1).2.recs (w1.alloc (.cells #[uw c'.gen,.slice ao' c'.recs.length cp',iw c'.fin,iw c'.beh] 108))/\CtIn rb (uw 0) sy (iw 0) (iw 0) (w1.alloc (.cells #[uw c'.gen,.slice ao' c'.recs.length cp',iw c'.fin,iw c'.beh] 108))/\Below rb w (w1.alloc (.cells #[uw c'.gen,.slice ao' c'.recs.length cp',iw c'.fin,iw c'.beh] 108)):=
      ⟨k+1,by omega,by simp,by rw[HS.out],_,by rw[HS.out];exact H2.out.1,by rw[HS.out];exact H2.out.2.1,H2.out.2.2.1,H2.out.2.2.2.1⟩
     have HX:Hid _:=hrel2;clear hrel2;rcases hno with rfl|⟨rfl,h3,h4⟩
     .go_wp2_with fail;go_roundw
      case rel=>exact HX.out
      case measure=>simp[intOf];omega
     .have h3':(ar== -1)=false:=by simpa using h3
      clear h3;go_wp2_with fail;go_roundw
      case rel=>exact HX.out
      case measure=>simp[intOf];omega
    .obtain⟨rfl,rfl⟩:=hyes;have HS:Hid (Ap D (k+1)=((k:Int),c')):=by show _=_;rw[HSU.out,ah (by simp)]
     clear HSU;exact ax1
    .obtain⟨rfl,h3,h4⟩:=hyes;have HS:Hid (Ap D (k+1)=((k:Int),c')):=by show _=_;rw[HSU.out,ah (by simp;omega)]
     clear HSU;have h3':(ar== -1)=false:=by simpa using h3
     clear h3;exact ax1
  .have HE:Hid (k=4):=(by omega:k=4);obtain⟨ao,cp,rfl⟩:=J9 HR.out.2.1;obtain⟨f0,f1,f2,f3,ff⟩:=HR.out.1.cells;have zr0:=HR.out.2.2.1.cells;obtain⟨nw,hnw⟩:=xj (Ap D k);rw[hnw]at HR f0 f1 f2 f3|-;have HNW:Hid (Ap D 4=nw):=by show _=_;rw[<-hnw,HE.out]
   clear hnw;obtain⟨ar,c⟩:=nw;dsimp only at HR f0 f1 f2 f3|-;go_wp2_with fail;go_region;go_wp2_with fail;(try simp only[Exit.inBlock,Exit.then]);refine az (ae6 (cb:=rb) (w:=(ak3 wr rb (uw c.gen) (.slice ao c.recs.length cp) (iw c.fin) (iw c.beh)).drew) (ac7 HR.out.2.2.1 (uw c.gen) (.slice ao c.recs.length cp) (iw c.fin) (iw c.beh)) rfl) rfl ?_
   rw[HNW.out,<-HRB.out];refine⟨⟨_,rfl,?_⟩,(Uc HR.out.2.2.2 (by omega) (uw c.gen) (.slice ao c.recs.length cp) (iw c.fin) (iw c.beh)).drew⟩;exact(ac6 HR.out.2.1 (by omega) (uw c.gen) (.slice ao c.recs.length cp) (iw c.fin) (iw c.beh)).widen (by omega)
def TxAt.kept{B pb:Nat}{V:Value}{L:List Bi}{w w':World}(h:TxAt B V L w)(hp:pb<B)(hk:Drm.Kept pb w w'):TxAt B V L w':=by
 refine⟨h.1,?_⟩;rcases h.2 with h2|⟨g,cap,cur,h1,h2,h3,h4⟩
 .exact .inl h2
 .refine .inr ⟨g,cap,cur,h1,h2,?_,h4⟩;exact hk.other g _ h3 (by omega) (by intro cs fz e;injection e with _ e _;exact absurd e (by decide))
def TxAt.other{B cb:Nat}{V:Value}{L:List Bi}{w:World}{x0 x1 x2 x3:Value}(h:TxAt B V L w)(hc:CtIn cb x0 x1 x2 x3 w)(k:Nat)(u:Value):TxAt B V L (w.setCell ⟨cb,k,none⟩ u):=by
 refine wz h ?_ _;intro e;rcases h.2 with⟨hv,_⟩|⟨g,cap,cur,hv,_,hg,_⟩
 .rw[hv]at e;simp[Value.ownBlock]at e
 .rw[hv]at e;simp only[Value.ownBlock,ja]at e;subst e;unfold CtIn at hc;rw[hg]at hc;injection hc with hc;injection hc with _ hc _;exact absurd hc (by decide)
def CtIn.kept{cb pb:Nat}{x0 x1 x2 x3:Value}{w w':World}(h:CtIn cb x0 x1 x2 x3 w)(hp:cb≠pb)(hk:Drm.Kept pb w w'):CtIn cb x0 x1 x2 x3 w':=
 hk.other cb _ h hp (by intro cs fz e;injection e with _ e _;exact absurd e (by decide))
def afj(D:Dr)(k:Nat)(h:(Ap D k).1= -1):(Ap D k).2=Ct.zero:=by
 induction k with
 |zero=>rfl
 |succ k ih=>
  rw[Ap]at h|-;split at h
  .next hh=>exact absurd h (by show(k:Int)≠ -1;omega)
  .next hh=>rw[ag hh];exact ih h
def aii(pb:Nat)(w:World)(y:Int×(Int×Nat×List Bi)×Dr)(e:Ending)(w':World):Prop:=
 (y.1≠0/\e=.returned (.tuple #[.pointer none,sy,iw y.1])/\Ak pb y.2.2 w'/\Drm.Kept pb w w')\/
 (y.1=0/\∃lb V,e=.returned (.tuple #[pz lb,V,iw 0])/\LgAt lb pb y.2.1.1 y.2.1.2.1 y.2.2 w'/\TxAt w.heap.size V y.2.1.2.2 w'/\w.heap.size<=lb/\Drm.Kept pb w w')
def Z9{pb:Nat}{a:Int}{g:Nat}{D:Dr}{V:Value}{L:List Bi}{w w4:World}(hD:Ak pb D w4)(ht:TxAt w.heap.size V L w4)(hk:Drm.Kept pb w w4)(hs:w.heap.size<=w4.heap.size):
  aii pb w (0,(a,g,L),D) (.returned (.tuple #[pz w4.heap.size,V,iw 0])) (w4.alloc (.cells #[pz pb,iw a,uw g] 115)).drew:=by
 refine .inr ⟨rfl,_,V,rfl,⟨?_,(hD.alloc _).drew,hD.lt⟩,?_,hs,?_⟩
 .exact ae w4 _
 .exact(ht.on (al _)).on (aj _ _).drew
 .exact(hk.alloc (og hD.lt) _).drew
def ayb(pb:Nat)(D:Dr)(w:World)(hD:Ak pb D w)(hOk:D.Ok)(hdn:D.down=false):cpr 19 #[pz pb] w (aii pb w (Qm D)):=by
 obtain⟨ar,c,hn⟩:∃ar c,Ap D 4=(ar,c):=⟨_,_,rfl⟩;have hN:=api pb D w hD hOk hdn;rw[hn]at hN;have hlt:=hD.lt;have hrg:=U7 D 4;rw[hn]at hrg;have hz:ar= -1->c.recs=[]:=λh=>by have:=afj D 4 (by rw[hn];exact h);rw[hn]at this;dsimp only at this;rw[this];rfl
 have HZ:Hid _:=hz;clear hz;dsimp only at hN hrg;obtain⟨x,D1,hc⟩:∃x D1,Cc D ar 4=(x,D1):=⟨_,_,rfl⟩;have hok1:D1.Ok:=by have:=aaw hOk ar 4;rw[hc]at this;exact this
 have HC:Hid (∀w1,Bw w w1->cpr 36 #[pz pb,iw ar] w1 λe w'=>e=.returned (iw x)/\Ak pb D1 w'/\Drm.Kept pb w1 w'):=λw1 hb=>by have:=cut27 pb D ar w1 (hD.on hb) hOk;rw[hc]at this;exact this
 have HO:Hid (Qm D=if x≠0 then(x,(0,0,[]),D1)else if ar= -1 then(if(layF D1 0 1 []).1≠0 then((layF D1 0 1 []).1,(0,0,[]),(layF D1 0 1 []).2)else(0,(0,1,[]),(layF D1 0 1 []).2))else if 0<c.beh then(if(D1.trim ar c.fin).1≠0 then((D1.trim ar c.fin).1,(0,0,[]),(D1.trim ar c.fin).2)else(0,(ar,c.gen,c.recs),(D1.trim ar c.fin).2))else(0,(ar,c.gen,c.recs),D1)):=by show _=_;unfold Qm;rw[hn];dsimp only;rw[hc]
 have HLy:Hid (∀w1,Ak pb D1 w1->cpr 37 #[pz pb,iw 0,uw 1,sy] w1 λe w'=>e=.returned (iw (layF D1 0 1 []).1)/\Ak pb (layF D1 0 1 []).2 w'/\Drm.Kept pb w1 w'):=λw1 h1=>lay28 pb D1 0 1 [] sy w1 h1 hok1 (by decide) au8 (by decide) (N8.nil _ _);have HT:Hid (∀w1,Ak pb D1 w1->cpr 38 #[pz pb,iw ar,iw c.fin] w1 λe w'=>e=.returned (iw (D1.trim ar c.fin).1)/\Ak pb (D1.trim ar c.fin).2 w'/\Drm.Kept pb w1 w'):=λw1 h1=>Drm.axf pb D1 ar c.fin w1 h1 hok1;obtain⟨y,hy⟩:=xj (Qm D);rw[hy]at HO|-;have HNw:Hid (1=1->cpr 35 #[pz pb] w λe w'=>(∃V,e=.returned (.tuple #[iw ar,aci c V,iw 0])/\TxAt (w.heap.size+1) V c.recs w')/\Bw w w'):=λ_=>hN;clear hN hn hc hok1 hy hOk hdn hD;generalize hQ:aii pb w y=Q at*;have HQ:Hid _:=hQ;clear hQ;go_enter Tryz.func19,Tryz.ntmps19;go_wp2_with fail;refine(HNw.out (by trivial)).mono ?_;rintro e w1 ⟨⟨V,rfl,htx⟩,hb1⟩;unfold aci;obtain⟨ao,cp,rfl⟩:=J9 htx;obtain⟨cb,hcb⟩:∃cb,cb=w1.heap.size:=⟨_,rfl⟩;have hE:Bw w1 (w1.alloc (.cells #[uw c.gen,.slice ao c.recs.length cp,iw c.fin,iw c.beh] 108)):=al _;have hct:CtIn cb (uw c.gen) (.slice ao c.recs.length cp) (iw c.fin) (iw c.beh) (w1.alloc (.cells #[uw c.gen,.slice ao c.recs.length cp,iw c.fin,iw c.beh] 108)):=by rw[hcb];exact ae w1 _
 have H1:Hid (CtIn cb (uw c.gen) (.slice ao c.recs.length cp) (iw c.fin) (iw c.beh) (w1.alloc (.cells #[uw c.gen,.slice ao c.recs.length cp,iw c.fin,iw c.beh] 108))/\TxAt w.heap.size (.slice ao c.recs.length cp) c.recs (w1.alloc (.cells #[uw c.gen,.slice ao c.recs.length cp,iw c.fin,iw c.beh] 108))/\Bw w (w1.alloc (.cells #[uw c.gen,.slice ao c.recs.length cp,iw c.fin,iw c.beh] 108))/\w.heap.size<=cb/\cb=w1.heap.size):=
  ⟨hct,(htx.on hE).widen (by omega),hb1.trans (hE.mono hb1.size),by rw[hcb];exact hb1.size,hcb⟩
 clear htx hb1 hE hct hcb;go_wp2_with fail;rw[<-H1.out.2.2.2.2];refine(HC.out _ H1.out.2.2.1).mono ?_;rintro e w2 ⟨rfl,hD2,k2⟩;have hcp:cb≠pb:=by have:=H1.out.2.2.2.1;omega
 have H2:Hid (CtIn cb (uw c.gen) (.slice ao c.recs.length cp) (iw c.fin) (iw c.beh) w2/\TxAt w.heap.size (.slice ao c.recs.length cp) c.recs w2/\Ak pb D1 w2/\Drm.Kept pb w w2/\w.heap.size<=cb/\w.heap.size<=w2.heap.size):=
  ⟨H1.out.1.kept hcp k2,H1.out.2.1.kept hlt k2,hD2,(Drm.Kept.of_below hlt H1.out.2.2.1).trans k2,H1.out.2.2.2.1,ak H1.out.2.2.1.size k2.below.size⟩
 clear hD2 k2 H1;obtain⟨c0,c1,c2,c3,cf⟩:=H2.out.1.cells;by_cases hx0:x=0
 .subst hx0;have HO2:Hid (y=if ar= -1 then(if(layF D1 0 1 []).1≠0 then((layF D1 0 1 []).1,(0,0,[]),(layF D1 0 1 []).2)else(0,(0,1,[]),(layF D1 0 1 []).2))else if 0<c.beh then(if(D1.trim ar c.fin).1≠0 then((D1.trim ar c.fin).1,(0,0,[]),(D1.trim ar c.fin).2)else(0,(ar,c.gen,c.recs),(D1.trim ar c.fin).2))else(0,(ar,c.gen,c.recs),D1)):=by show _=_;rw[HO.out,ag (by decide)]
  clear HO;by_cases har:ar= -1
  .subst har;have hrec:c.recs=[]:=HZ.out rfl;have HO3:Hid (y=if(layF D1 0 1 []).1≠0 then((layF D1 0 1 []).1,(0,0,[]),(layF D1 0 1 []).2)else(0,(0,1,[]),(layF D1 0 1 []).2)):=by show _=_;rw[HO2.out,ah rfl]
   have HREC:Hid _:=hrec;clear HO2 hrec;generalize layF D1 0 1 []=z at*;obtain⟨lx,D3⟩:=z;dsimp only at HO3 HLy;have hct3:=H2.out.1.set0 (uw 1);have zd0:=hct3.cells;have hD3:Ak pb D1 (w2.setCell ⟨cb,0,none⟩ (uw 1)):=H2.out.2.2.1.store H2.out.1 hcp (by decide) _ _;have H3:Hid (CtIn cb (uw 1) (.slice ao c.recs.length cp) (iw c.fin) (iw c.beh) (w2.setCell ⟨cb,0,none⟩ (uw 1))/\TxAt w.heap.size (.slice ao c.recs.length cp) c.recs (w2.setCell ⟨cb,0,none⟩ (uw 1))/\Ak pb D1 (w2.setCell ⟨cb,0,none⟩ (uw 1))/\Drm.Kept pb w (w2.setCell ⟨cb,0,none⟩ (uw 1))):=
    ⟨hct3,H2.out.2.1.other H2.out.1 _ _,hD3,⟨H2.out.2.2.2.1.below.setCell (p:=⟨cb,0,none⟩) (by have:=H2.out.2.2.2.2.1;show pb<=cb;omega) _,λk o hk h1 h5=>by rw[jl _ _ _ _ (by have:=gp hk;have:=H2.out.2.2.2.2.1;show k≠cb;omega)];exact H2.out.2.2.2.1.other k o hk h1 h5⟩⟩
   clear hct3 hD3;go_wp2_with fail;refine(HLy.out _ H3.out.2.2.1).mono ?_;rintro e w4 ⟨rfl,hD4,k4⟩;have H4:Hid (CtIn cb (uw 1) (.slice ao c.recs.length cp) (iw c.fin) (iw c.beh) w4/\TxAt w.heap.size (.slice ao c.recs.length cp) c.recs w4/\Ak pb D3 w4/\Drm.Kept pb w w4/\w.heap.size<=w4.heap.size):=⟨H3.out.1.kept hcp k4,H3.out.2.1.kept hlt k4,hD4,H3.out.2.2.2.trans k4,(H3.out.2.2.2.trans k4).below.size⟩;clear hD4 k4;have ze0:=H4.out.1.cells;by_cases hl0:lx=0
   .subst hl0;have HY:Hid (y=(0,(0,1,[]),D3)):=by show _=_;rw[HO3.out,ag (by decide)]
    have eal:(w4.alloc (.cells #[pz pb,iw 0,uw 1] 115)).cell? ⟨cb,1,none⟩=some (.slice ao c.recs.length cp):=(H4.out.1.on (al _)).cells.2.1;go_wp2_with fail;(try clear cf)
    go_region;go_wp2_with fail
    go_ret3
    rw[<-HQ.out,HY.out];have hyr:((0:Int),((0:Int),1,([]:List Bi)),D3)=(0,(0,1,c.recs),D3):=by rw[HREC.out]
    rw[hyr];exact Z9 (a:=0) (g:=1) H4.out.2.2.1 H4.out.2.1 H4.out.2.2.2.1 H4.out.2.2.2.2
   .have hl':(lx != 0)=true:=by simp[hl0]
    have HY:Hid (lx≠0/\y=(lx,(0,0,[]),D3)):=⟨hl0,by rw[HO3.out,ah hl0]⟩;exact bbx
  .have har':(ar== -1)=false:=by simpa using har
   have HO3:Hid (y=if 0<c.beh then(if(D1.trim ar c.fin).1≠0 then((D1.trim ar c.fin).1,(0,0,[]),(D1.trim ar c.fin).2)else(0,(ar,c.gen,c.recs),(D1.trim ar c.fin).2))else(0,(ar,c.gen,c.recs),D1)):=by show _=_;rw[HO2.out,ag har]
   clear HO2 har;by_cases hbe:0<c.beh
   .have hbe':(0:Int)<c.beh:=by omega
    have HO4:Hid (y=if(D1.trim ar c.fin).1≠0 then((D1.trim ar c.fin).1,(0,0,[]),(D1.trim ar c.fin).2)else(0,(ar,c.gen,c.recs),(D1.trim ar c.fin).2)):=by show _=_;rw[HO3.out,ah hbe]
    clear HO3 hbe;generalize D1.trim ar c.fin=z at*;obtain⟨lx,D3⟩:=z;dsimp only at HO4 HT;go_wp2_with fail;refine(HT.out _ H2.out.2.2.1).mono ?_;rintro e w4 ⟨rfl,hD4,k4⟩;have H4:Hid (CtIn cb (uw c.gen) (.slice ao c.recs.length cp) (iw c.fin) (iw c.beh) w4/\TxAt w.heap.size (.slice ao c.recs.length cp) c.recs w4/\Ak pb D3 w4/\Drm.Kept pb w w4/\w.heap.size<=w4.heap.size):=⟨H2.out.1.kept hcp k4,H2.out.2.1.kept hlt k4,hD4,H2.out.2.2.2.1.trans k4,(H2.out.2.2.2.1.trans k4).below.size⟩;clear hD4 k4;have ze0:=H4.out.1.cells;by_cases hl0:lx=0
    .subst hl0;have HY:Hid (y=(0,(ar,c.gen,c.recs),D3)):=by show _=_;rw[HO4.out,ag (by decide)]
     have eal:(w4.alloc (.cells #[pz pb,iw ar,uw c.gen] 115)).cell? ⟨cb,1,none⟩=some (.slice ao c.recs.length cp):=(H4.out.1.on (al _)).cells.2.1;go_wp2_with fail;go_region;go_wp2_with fail
     go_ret3
     rw[<-HQ.out,HY.out];exact Z9 H4.out.2.2.1 H4.out.2.1 H4.out.2.2.2.1 H4.out.2.2.2.2
    .have hl':(lx != 0)=true:=by simp[hl0]
     have HY:Hid (lx≠0/\y=(lx,(0,0,[]),D3)):=⟨hl0,by rw[HO4.out,ah hl0]⟩;exact bbx
   .have hbe':¬(0:Int)<c.beh:=by omega
    have HY:Hid (y=(0,(ar,c.gen,c.recs),D1)):=by show _=_;rw[HO3.out,ag hbe]
    clear HO3 hbe;have eal:(w2.alloc (.cells #[pz pb,iw ar,uw c.gen] 115)).cell? ⟨cb,1,none⟩=some (.slice ao c.recs.length cp):=(H2.out.1.on (al _)).cells.2.1;go_wp2_with fail;go_region;go_wp2_with fail
    go_ret3
    rw[<-HQ.out,HY.out];exact Z9 H2.out.2.2.1 H2.out.2.1 H2.out.2.2.2.1 H2.out.2.2.2.2.2
 .have hx':(x != 0)=true:=by simp[hx0]
  have HY:Hid (x≠0/\y=(x,(0,0,[]),D1)):=⟨hx0,by rw[HO.out,ah hx0]⟩;clear hx0;go_wp2_with fail
  go_ret3
  rw[<-HQ.out,HY.out.2];exact .inl ⟨HY.out.1,rfl,H2.out.2.2.1,H2.out.2.2.2.1⟩
