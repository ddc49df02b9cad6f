import Derived.Laws.Cover3
import Derived.Test.YtdplfgcoaddbdaaGreatXbp
set_option maxHeartbeats 4000000
set_option maxRecDepth 100000
set_option linter.unusedVariables false
set_option linter.unusedSimpArgs false
namespace Go.Proofs.YtdplfgcoaddbdaaGreat.Lat
open Go.RowKit
theorem L4.cs{B p pm hb:Nat}{t:Tr}{m:Mm}{w W:World}{b6 b7 b8 b9:Nat}{c n sp sl mp ml:Int}(h:L4 B p pm hb t m w b6 b7 b8 b9 c n sp sl mp ml W):ce W b6 0 (pz p)/\ce W b7 0 (ui c)/\ce W b7 1 (ui n)/\ce W b8 0 (uw sp)/\ce W b8 1 (ui sl)/\ce W b9 0 (uw mp)/\ce W b9 1 (ui ml):=⟨block_cell h.k6 rfl,block_cell h.k7 rfl,block_cell h.k7 rfl,block_cell h.k8 rfl,block_cell h.k8 rfl,block_cell h.k9 rfl,block_cell h.k9 rfl⟩
theorem Lz.cs{B p pm hb:Nat}{t0 t:Tr}{m:Mm}{w W:World}{b6 b7 b8 b9:Nat}{c n sp sl mp ml:Int}{v:Value}{L:List Wr}{C:Kv Cv}{kv:Value}{K:List (List UInt8)}(h:Lz B p pm hb t0 m w b6 b7 b8 b9 c n sp sl mp ml v L C kv K t W):ce W b6 0 (pz p)/\ce W b7 0 (ui c)/\ce W b7 1 (ui n)/\ce W b8 0 (uw sp)/\ce W b8 1 (ui sl)/\ce W b9 0 (uw mp)/\ce W b9 1 (ui ml):=⟨block_cell h.k6 rfl,block_cell h.k7 rfl,block_cell h.k7 rfl,block_cell h.k8 rfl,block_cell h.k8 rfl,block_cell h.k9 rfl,block_cell h.k9 rfl⟩
theorem layP_arg{r:Bool}{c n sp sl mp ml:Int}{prim:List UInt8}{L:List Wr}{T:Tb}(h:(rightW L&&r)=false):layF r c n sp sl mp ml prim L T=(T,1):=by unfold layF;rw[h];rfl
theorem layP_busy{r:Bool}{c n sp sl mp ml:Int}{prim:List UInt8}{L:List Wr}{T:Tb}(h:(rightW L&&r)=true)(h2:((byF c n T).isEmpty&&L.all (fun w=>(getF w.key T).isNone))=false):layF r c n sp sl mp ml prim L T=(T,40):=by unfold layF;rw[h,h2];rfl
theorem layP_done{r:Bool}{c n sp sl mp ml:Int}{prim:List UInt8}{L:List Wr}{T:Tb}(h:(rightW L&&r)=true)(h2:((byF c n T).isEmpty&&L.all (fun w=>(getF w.key T).isNone))=true):layF r c n sp sl mp ml prim L T=(laidF (mkI c n sp sl mp ml prim) L T,0):=by unfold layF;rw[h,h2];rfl
theorem run_nilmap(b:Nat)(w:World):(binOp .eql 124 (.map (some b)) (.map none)).run Tryz.prog w=.ok (.bool false) w:=by have e:=run_equal_map_nil (P:=Tryz.prog) w 124 26 242 (some b) Tryz.underlying124;simp[binOp,e,Result.andThen]
theorem wtk_snoc'{L:List Wr}{q:Nat}(h:q<L.length):L.take (q+1)=L.take q++[L.getD q dw]:=by rw[List.take_succ_eq_append_getElem h];simp[List.getD,h]
theorem lyT{P:Prop}(z:P:=by
 rw[hF];have HS2:Hid (∀W,L4 B p pm hb t m w b6 b7 b8 b9 c n sp sl mp ml W->∃M',TabAt B p M' T W/\Kept (footT p pm hb t m) w W/\∀i,M' i->footT p pm hb t m i\/w.heap.size<=i):=HSt;clear hF HSt HS0;generalize footT p pm hb t m=F at*;go_enter Tryz.func70,Tryz.ntmps70;go_wp2_with fail;refine(CR.out _ HZ).mono ?_;rintro e w1 ⟨rfl,HZ1⟩;clear hW1 hW2 hW3 hW4 hb6 hb7 hb8 hb9 d1;clear y6;have y6:=HZ1.out.cs;clear HZ CR;go_wp2_with fail;first
 |(go_ret;exact⟨rfl,HS2.out _ HZ1.out⟩)
 |(
    refine(CS.out _ HZ1).mono ?_;rintro e w2 ⟨rfl,HZ2⟩;clear y6;have y6:=HZ2.out.cs;clear HZ1 CS;go_wp2_with fail;first
    |(go_ret;exact⟨rfl,HS2.out _ HZ2.out⟩)
    |(
    refine(CM.out _ HZ2).mono ?_;rintro e w3 ⟨rfl,HZ3⟩;clear y6;have y6:=HZ3.out.cs;clear HZ2 CM;go_wp2_with fail;first
    |(go_ret;exact⟨rfl,HS2.out _ HZ3.out⟩)
    |(
       refine(CK.out _ HZ3).mono ?_;rintro e w4 ⟨rfl,HZ4⟩;clear y6;have y6:=HZ4.out.cs;clear HZ3 CK;go_wp2_with fail;first
       |(go_ret;exact⟨rfl,HS2.out _ HZ4.out⟩)
       |(
       refine(CH.out _ HZ4).mono ?_;rintro e w5 ⟨rfl,HZ5⟩;clear y6;have y6:=HZ5.out.cs;clear HZ4 CH;go_wp2_with fail;first
       |(go_ret;exact⟨rfl,HS2.out _ HZ5.out⟩)
       |(
          refine(CC.out _ HZ5).mono ?_;rintro e w6 ⟨rfl,HZ6⟩;clear y6;have y6:=HZ6.out.cs;clear HZ5 CC;go_wp2_with fail;go_ret;exact⟨rfl,HS2.out _ HZ6.out⟩)))))):P:=z
theorem lay10{B p pm hb:Nat}{t:Tr}{m:Mm}{T:Tb}{w:World}(c n sp sl mp ml:Int)(prim:List UInt8)(L:List Wr)(v:Value)(h:Tx B p pm hb t m w)(hr:Rel t.toL m T)(hl:T.length<10000)(hv:WsAt w.heap.size v L w)(hn:0<L.length->∀k,v.ownBlock=some k->¬footT p pm hb t m k)(hst:0<=mp/\0<=ml):
  Calls Tryz.prog 70 #[pz p,.agg #[ui c,ui n],.agg #[uw sp,ui sl],.agg #[uw mp,ui ml],sd prim,v] w fun e w'=>e=.returned (iw (layF (rightB sp sl&&rightB mp ml&&kOk prim) c n sp sl mp ml prim L T).2)/\∃M',TabAt B p M' (layF (rightB sp sl&&rightB mp ml&&kOk prim) c n sp sl mp ml prim L T).1 w'/\Kept (footT p pm hb t m) w w'/\∀i,M' i->footT p pm hb t m i\/w.heap.size<=i:=by
 obtain⟨W1,hW1⟩:=xj (w.alloc (.cells #[pz p] 84));obtain⟨W2,hW2⟩:=xj (W1.alloc (.cells #[ui c,ui n] 26));obtain⟨W3,hW3⟩:=xj (W2.alloc (.cells #[uw sp,ui sl] 28));obtain⟨W4,hW4⟩:=xj (W3.alloc (.cells #[uw mp,ui ml] 28));obtain⟨b6,hb6⟩:=xj w.heap.size;obtain⟨b7,hb7⟩:=xj W1.heap.size;obtain⟨b8,hb8⟩:=xj W2.heap.size;obtain⟨b9,hb9⟩:=xj W3.heap.size;have HZ:Hid (L4 B p pm hb t m w b6 b7 b8 b9 c n sp sl mp ml W4):=by
  have c1:Below w.heap.size w W1:=by rw[<-hW1];exact al _
  have c2:Below W1.heap.size W1 W2:=by rw[<-hW2];exact al _
  have c3:Below W2.heap.size W2 W3:=by rw[<-hW3];exact al _
  have c4:Below W3.heap.size W3 W4:=by rw[<-hW4];exact al _
  have x1:W1.heap[w.heap.size]?=some (.cells #[pz p] 84 (0,0)):=by rw[<-hW1];exact heap_alloc_new w _
  have x2:W2.heap[W1.heap.size]?=some (.cells #[ui c,ui n] 26 (0,0)):=by rw[<-hW2];exact heap_alloc_new W1 _
  have x3:W3.heap[W2.heap.size]?=some (.cells #[uw sp,ui sl] 28 (0,0)):=by rw[<-hW3];exact heap_alloc_new W2 _
  have x4:W4.heap[W3.heap.size]?=some (.cells #[uw mp,ui ml] 28 (0,0)):=by rw[<-hW4];exact heap_alloc_new W3 _
  have on:∀{U V:World} {b:Nat} {o:Obj},Below U.heap.size U V->U.heap[b]?=some o->V.heap[b]?=some o:=fun hb' e=>by rw[hb'.block _ (gsz e)];exact e
  have tx4:=(((h.on c1).on c2).on c3).on c4;have d2:=c1.trans (c2.mono c1.size);have d3:=d2.trans (c3.mono d2.size);have d4:=d3.trans (c4.mono d3.size);rw[hb6]at x1;rw[hb7]at x2;rw[hb8]at x3;rw[hb9]at x4;exact⟨tx4,d4,on c4 (on c3 (on c2 x1)),on c4 (on c3 x2),on c4 x3,x4⟩
 have HLow:Hid (w.heap.size<=b6/\w.heap.size<=b7/\w.heap.size<=b8/\w.heap.size<=b9):=by
  have c1:Below w.heap.size w W1:=by rw[<-hW1];exact al _
  have c2:Below W1.heap.size W1 W2:=by rw[<-hW2];exact al _
  have c3:Below W2.heap.size W2 W3:=by rw[<-hW3];exact al _
  have:=c1.size;have:=c2.size;have:=c3.size;exact⟨by omega,by omega,by omega,by omega⟩
 have d1:=HZ.out.tx.cells.2;have qn:=run_nilmap hb;have y6:=HZ.out.cs;have HSt:Hid (∀W,L4 B p pm hb t m w b6 b7 b8 b9 c n sp sl mp ml W->∃M',TabAt B p M' T W/\Kept (footT p pm hb t m) w W/\∀i,M' i->footT p pm hb t m i\/w.heap.size<=i):=fun W hW=>⟨_,⟨pm,hb,t,m,hW.tx,hr,rfl⟩,Kept.of_below hW.bel,fun i hi=>.inl hi⟩;have HS0:Hid (∀W,L4 B p pm hb t m w b6 b7 b8 b9 c n sp sl mp ml W->Lz B p pm hb t m w b6 b7 b8 b9 c n sp sl mp ml v L t.toL sy [] t W):=fun W hW=>lz_start h hW HLow.out hv hn;have CR:Hid (∀W,Hid (L4 B p pm hb t m w b6 b7 b8 b9 c n sp sl mp ml W)->Calls Tryz.prog 83 #[v] W fun e w'=>e=.returned (.bool (rightW L))/\Hid (L4 B p pm hb t m w b6 b7 b8 b9 c n sp sl mp ml w')):=fun W hW=>by refine(right24 w.heap.size L v W (hv.on hW.out.bel) hW.out.bel.size).mono ?_;rintro e w' ⟨rfl,hb'⟩;exact⟨rfl,hW.out.on hb'⟩
 have CS:Hid (∀W,Hid (L4 B p pm hb t m w b6 b7 b8 b9 c n sp sl mp ml W)->Calls Tryz.prog 81 #[.agg #[uw sp,ui sl]] W fun e w'=>e=.returned (.bool (rightB sp sl))/\Hid (L4 B p pm hb t m w b6 b7 b8 b9 c n sp sl mp ml w')):=fun W hW=>by refine(rightP sp sl W).mono ?_;rintro e w' ⟨rfl,hb'⟩;exact⟨rfl,hW.out.on hb'⟩
 have CM:Hid (∀W,Hid (L4 B p pm hb t m w b6 b7 b8 b9 c n sp sl mp ml W)->Calls Tryz.prog 81 #[.agg #[uw mp,ui ml]] W fun e w'=>e=.returned (.bool (rightB mp ml))/\Hid (L4 B p pm hb t m w b6 b7 b8 b9 c n sp sl mp ml w')):=fun W hW=>by refine(rightP mp ml W).mono ?_;rintro e w' ⟨rfl,hb'⟩;exact⟨rfl,hW.out.on hb'⟩
 have CK:Hid (∀W,Hid (L4 B p pm hb t m w b6 b7 b8 b9 c n sp sl mp ml W)->Calls Tryz.prog 136 #[sd prim] W fun e w'=>e=.returned (.bool (kOk prim))/\Hid (L4 B p pm hb t m w b6 b7 b8 b9 c n sp sl mp ml w')):=fun W hW=>by refine(key28 prim W).mono ?_;rintro e w' ⟨rfl,rfl⟩;exact⟨rfl,hW⟩
 have CH:Hid (∀W,Hid (L4 B p pm hb t m w b6 b7 b8 b9 c n sp sl mp ml W)->Calls Tryz.prog 137 #[pz p,.agg #[ui c,ui n]] W fun e w'=>e=.returned (.bool (getM (c,n) m).isSome)/\Hid (L4 B p pm hb t m w b6 b7 b8 b9 c n sp sl mp ml w')):=fun W hW=>by refine(has29 c n hW.out.tx).mono ?_;rintro e w' ⟨rfl,hb'⟩;exact⟨rfl,hW.out.on hb'⟩
 have CC:Hid (∀W,Hid (L4 B p pm hb t m w b6 b7 b8 b9 c n sp sl mp ml W)->Calls Tryz.prog 138 #[v,.func (.func 139) #[] #[pz b6]] W fun e w'=>e=.returned (.bool (L.any fun x=>(getF x.key T).isSome))/\Hid (L4 B p pm hb t m w b6 b7 b8 b9 c n sp sl mp ml w')):=fun W hW=>by
  refine(cont30 139 #[pz b6] (fun x=>(getF x.key T).isSome) L v W (RwAt.le (hv.on hW.out.bel) hW.out.bel.size) ent31 (fun x W2 hb2=>?_)).mono ?_
  ·exact lay31 x b6 (hW.out.tx.on hb2) hr (block_cell (by rw[hb2.block _ (gsz hW.out.k6)];exact hW.out.k6) rfl)
  ·rintro e w' ⟨rfl,hb'⟩;exact⟨rfl,hW.out.on hb'⟩
 obtain⟨va,vc,hve,hvl,hvm⟩:=hv.shape;obtain⟨r,hrr⟩:=xj (rightB sp sl&&rightB mp ml&&kOk prim);rw[hrr];have HB0:Hid (B<=w.heap.size):=by have:=h.lt (i:=p) (.inl rfl);exact Nat.le_trans this.1 (Nat.le_of_lt this.2)
 clear h hv hn;cases h1:rightW L with
 |false=>
  rw[h1]at CR;subst hve;have hF:layF r c n sp sl mp ml prim L T=(T,1):=by exact layP_arg (by rw[h1];rfl)
  exact lyT
 |true=>
  rw[h1]at CR;cases h2:rightB sp sl with
  |false=>
   rw[h2]at CS;subst hve;have hF:layF r c n sp sl mp ml prim L T=(T,1):=by exact layP_arg (by rw[<-hrr,h1,h2];rfl)
   exact lyT
  |true=>
   rw[h2]at CS;cases h3:rightB mp ml with
   |false=>
    rw[h3]at CM;subst hve;have hF:layF r c n sp sl mp ml prim L T=(T,1):=by exact layP_arg (by rw[<-hrr,h1,h2,h3];rfl)
    exact lyT
   |true=>
    rw[h3]at CM;cases h4:kOk prim with
    |false=>
     rw[h4]at CK;subst hve;have hF:layF r c n sp sl mp ml prim L T=(T,1):=by exact layP_arg (by rw[<-hrr,h1,h2,h3,h4];rfl)
     exact lyT
    |true=>
     rw[h4]at CK;have hrt:(rightW L&&r)=true:=by rw[<-hrr,h1,h2,h3,h4];rfl
     have hsome:=hr.isSome c n;cases hg:getM (c,n) m with
     |some tm=>
      rw[hg]at CH hsome;have hne:(byF c n T).isEmpty=false:=by
       cases hb:byF c n T with
       |nil=>rw[hb]at hsome;simp at hsome
       |cons x y=>rfl
      simp only[Option.isSome_some]at CH;subst hve;have hF:layF r c n sp sl mp ml prim L T=(T,40):=by exact layP_busy hrt (by rw[hne];rfl)
      exact lyT
     |none=>
      rw[hg]at CH hsome;have hne:byF c n T=[]:=by
       cases hb:byF c n T with
       |nil=>rfl
       |cons x y=>rw[hb]at hsome;simp at hsome
      simp only[Option.isSome_none]at CH;cases h6:L.any fun x=>(getF x.key T).isSome with
      |true=>
       rw[h6]at CC;have hal:(L.all fun w=>(getF w.key T).isNone)=false:=by
        cases hh:L.all fun w=>(getF w.key T).isNone with
        |false=>rfl
        |true=>
         rw[List.any_eq_true]at h6;obtain⟨x,hx,hs⟩:=h6;rw[List.all_eq_true]at hh;have:=hh x hx;rw[Option.isNone_iff_eq_none]at this;rw[this]at hs;cases hs
       subst hve;have hF:layF r c n sp sl mp ml prim L T=(T,40):=by exact layP_busy hrt (by rw[hal,Bool.and_false])
       exact lyT
      |false=>
       rw[h6]at CC;have hnew:NewK L T:=fun x hx=>by
        rw[List.any_eq_false]at h6;have:=h6 x hx;cases hx2:getF x.key T with
        |none=>rfl
        |some u=>rw[hx2]at this;simp at this
       have hal:(L.all fun w=>(getF w.key T).isNone)=true:=by rw[List.all_eq_true];intro x hx;rw[hnew x hx];rfl
       have hF:layF r c n sp sl mp ml prim L T=(laidF (mkI c n sp sl mp ml prim) L T,0):=layP_done hrt (by rw[hne,hal];rfl);rw[hF];obtain⟨-,-,hL1,hL16⟩:=right_parts h1;have HRel:Hid (∀sv,Rel (laidC (c,n) L t.toL) (setM (c,n) ⟨sp,sl,mp,ml,prim,sv,srtK (L.map (·.key))⟩ m) (laidF (mkI c n sp sl mp ml prim) L T)):=fun sv=>hr.lay hg h1 hnew hst;have HCl:Hid (∀q,q<=L.length->(laidC (c,n) (L.take q) t.toL).length<100000):=fun q hq=>by have h5:=laidC_len (k:=(c,n)) (l:=L.take q) hr.srt;have h7:=hr.len;rw[List.length_take]at h5;omega
       have HSn:Hid (∀q,q<L.length->laidC (c,n) (L.take (q+1)) t.toL=setF (L.getD q dw).key ((c,n),L.getD q dw) (laidC (c,n) (L.take q) t.toL)/\(L.take (q+1)).map (·.key)=(L.take q).map (·.key)++[(L.getD q dw).key]):=fun q hq=>by rw[wtk_snoc' hq];exact⟨laidC_snoc _ _ _ _,by simp⟩
       have HBw:Hid (B<=w.heap.size):=HB0.out;obtain⟨i0,hin9,hi0,hi1,hi2⟩:=info_parts info9;subst hve;clear hF hal hnew h6 hne hsome hg hrt h1 h2 h3 h4 hrr HSt hr hl hst;generalize laidF (mkI c n sp sl mp ml prim) L T=T' at*;generalize hLL:t.toL=L0 at*;clear hLL;go_enter Tryz.func70,Tryz.ntmps70;go_wp2_with fail;refine(CR.out _ HZ).mono ?_;rintro e w1 ⟨rfl,HZ1⟩;clear hW1 hW2 hW3 hW4 hb6 hb7 hb8 hb9 d1;clear y6;have y6:=HZ1.out.cs;clear HZ CR;go_wp2_with fail;refine(CS.out _ HZ1).mono ?_;rintro e w2 ⟨rfl,HZ2⟩;clear y6;have y6:=HZ2.out.cs;clear HZ1 CS;go_wp2_with fail;refine(CM.out _ HZ2).mono ?_;rintro e w3 ⟨rfl,HZ3⟩;clear y6;have y6:=HZ3.out.cs;clear HZ2 CM;go_wp2_with fail;refine(CK.out _ HZ3).mono ?_;rintro e w4 ⟨rfl,HZ4⟩;clear y6;have y6:=HZ4.out.cs;clear HZ3 CK;go_wp2_with fail;refine(CH.out _ HZ4).mono ?_;rintro e w5 ⟨rfl,HZ5⟩;clear y6;have y6:=HZ5.out.cs;clear HZ4 CH;go_wp2_with fail;refine(CC.out _ HZ5).mono ?_;rintro e w6 ⟨rfl,HZ6⟩;clear y6;have y6:=HZ6.out.cs;clear HZ5 CC;go_wp2_with fail;clear y6 qn;go_loopw [13,53] (fun kv i wr=>∃q:Nat,q<=L.length/\i=iw q/\∃t',Lz B p pm hb t m w b6 b7 b8 b9 c n sp sl mp ml (.slice va L.length vc) L (laidC (c,n) (L.take q) L0) kv ((L.take q).map (·.key)) t' wr) (fun _ i _=>L.length-(intOf i).toNat)
       case atStart=>exact⟨0,Nat.zero_le _,rfl,t,HS0.out _ HZ6.out⟩
       case round=>
        obtain⟨q,hq,rfl,t',hlz⟩:=hrel;obtain⟨sa,sc,hkv,-,-,-,-⟩:=rw_own hlz.row;have hKq:((L.take q).map (·.key)).length=q:=by rw[List.length_map,List.length_take];omega
        rw[hKq]at hkv;subst hkv;have HL:Hid _:=hlz;clear hlz HZ6 HS0;by_cases hql:q<L.length
        ·obtain⟨b,off,rfl,e0,e1,e2⟩:=WsAt.el HL.out.ws hql;have hql':(q:Int)<L.length:=by omega
         have HQ:Hid (q+1<=L.length):=hql;obtain⟨hs1,hs2⟩:=HSn.out q hql;have HS1:Hid _:=hs1;have HS2:Hid _:=hs2;have hq16:q<16:=by omega
         clear hs1 hs2 hq HSn;generalize L.getD q dw=x at*;obtain⟨K,hK⟩:=xj ((L.take q).map (·.key));obtain⟨K1,hK1⟩:=xj ((L.take (q+1)).map (·.key));rw[hK]at HL HS2 hKq;rw[hK1]at HS2;have HKq:Hid (K.length=q):=hKq;have HK1:Hid ((L.take (q+1)).map (·.key)=K1):=hK1;clear hK hK1 hKq;obtain⟨Wa,hWa⟩:=xj (wr.alloc (.cells #[sd x.key,sd x.val,.bool x.dead] 67));have hxa:Wa.heap[wr.heap.size]?=some (.cells #[sd x.key,sd x.val,.bool x.dead] 67 (0,0)):=by rw[<-hWa];exact heap_alloc_new wr _
         have hba:Below wr.heap.size wr Wa:=by rw[<-hWa];exact al _
         have HLa:Hid (Lz B p pm hb t m w b6 b7 b8 b9 c n sp sl mp ml (.slice (some ⟨b,off,none⟩) L.length vc) L (laidC (c,n) (L.take q) L0) (.slice sa q sc) K t' Wa):=HL.out.on hba;have a0:ce Wa wr.heap.size 0 (sd x.key):=block_cell hxa rfl;have a1:ce Wa wr.heap.size 1 (sd x.val):=block_cell hxa rfl;have a2:ce Wa wr.heap.size 2 (.bool x.dead):=block_cell hxa rfl;have y6:ce Wa b6 0 (pz p):=block_cell HLa.out.k6 rfl;obtain⟨y70,y71⟩:=bk2 HLa.out.k7;have d0:=HLa.out.tx.cells.1;have CT:Hid (∀W,Sw Wa W->Calls Tryz.prog 141 #[pz pm,sd x.key,.agg #[ui c,ui n,sd x.key,sd x.val,.bool x.dead]] W fun e w'=>e=.returned (.tuple #[])/\Hid (ce w' b6 0 (pz p)/\ce w' b7 0 (ui c)/\ce w' b7 1 (ui n)/\ce w' p 0 (pz pm)/\ce w' wr.heap.size 0 (sd x.key)/\ce w' wr.heap.size 1 (sd x.val)/\ce w' wr.heap.size 2 (.bool x.dead))/\Hid (∃t',Lz B p pm hb t m w b6 b7 b8 b9 c n sp sl mp ml (.slice (some ⟨b,off,none⟩) L.length vc) L (laidC (c,n) (L.take (q+1)) L0) (.slice sa q sc) K t' w')):=fun W hs=>by
          have hLW:=HLa.out.on (hs.below _);refine(ly_set hLW (HCl.out q (by omega)) x).mono ?_;rintro e w' ⟨rfl,hk,t2,h2⟩;have hnb:¬foot8 pm t' wr.heap.size:=fun e=>by have:=(HL.out.tx.lt (.inr (.inr (.inl e)))).2;omega
          exact⟨rfl,⟨block_cell h2.k6 rfl,block_cell h2.k7 rfl,block_cell h2.k7 rfl,h2.tx.cells.1,hk.cell ((hs.cell _).trans a0) hnb,hk.cell ((hs.cell _).trans a1) hnb,hk.cell ((hs.cell _).trans a2) hnb⟩,t2,by rw[HS1.out];exact h2⟩
         obtain⟨ba,hbaq⟩:=xj wr.heap.size;rw[hbaq]at a0 a1 a2 CT;have HSa:Hid (ce Wa b6 0 (pz p)/\ce Wa b7 0 (ui c)/\ce Wa b7 1 (ui n)/\ce Wa p 0 (pz pm)/\ce Wa ba 0 (sd x.key)/\ce Wa ba 1 (sd x.val)/\ce Wa ba 2 (.bool x.dead)):=⟨y6,y70,y71,d0,a0,a1,a2⟩;have HSd:Hid (ce Wa.drew b6 0 (pz p)/\ce Wa.drew b7 0 (ui c)/\ce Wa.drew b7 1 (ui n)/\ce Wa.drew p 0 (pz pm)/\ce Wa.drew ba 0 (sd x.key)/\ce Wa.drew ba 1 (sd x.val)/\ce Wa.drew ba 2 (.bool x.dead)):=HSa.out;clear hxa hba HL HLa HS1;go_wp2_with fail;go_region_held3 (fun W=>ce W b6 0 (pz p)/\ce W b7 0 (ui c)/\ce W b7 1 (ui n)/\ce W p 0 (pz pm)/\ce W ba 0 (sd x.key)/\ce W ba 1 (sd x.val)/\ce W ba 2 (.bool x.dead)) (with_reducible first|exact HSa.out|exact HSd.out|exact HS7.out) (first
          |(go_at_call 141;refine(CT.out _ (Sw.drew (Sw.refl _))).mono ?_;rintro e w7 ⟨rfl,HS7,HL7⟩))
         rename_i hHeld;clear hHeld;have x0:=HS7.out.2.2.2.2.1;clear CT a0 a1 a2 y6 y70 y71 d0 hWa hbaq e0 e1 e2 HSa HSd HS7;obtain⟨t7,hl7⟩:=HL7.out;have HM:Hid _:=hl7;have HOw:Hid (Ow w.heap.size 9 1 (.slice sa q sc) q (kc K) (w7.heap.size+1) (.slice (some ⟨w7.heap.size,0,none⟩) 1 1) 1 (kc [x.key]) (w7.alloc (.cells #[sd x.key] 9))):=⟨World.ownsRow.alloc (by have:=hl7.row;rw[HKq.out]at this;exact this) _,ks_one w7 x.key,kc_one _,Nat.le_trans hl7.kp.size (by simp),by omega⟩;clear hl7 HL7;go_wp2_with (at_builtin;refine wpList_append_rw HOw.out Tryz.underlying101 hin9 hi0 hi1 hi2 rfl (by decide) (by decide) (.tmp 67) (.tmp 70) rfl rfl rfl rfl ?_);intro v' w8 hown hgr hat;obtain⟨sa8,sc8,rfl,-,-,-,-⟩:=rw_own hown;have HN:Hid (Lz B p pm hb t m w b6 b7 b8 b9 c n sp sl mp ml (.slice (some ⟨b,off,none⟩) L.length vc) L (laidC (c,n) (L.take (q+1)) L0) (.slice sa8 (q+1) sc8) K1 t7 w8):=by
          have hlen:K1.length=q+1:=by rw[HS2.out,List.length_append,HKq.out];rfl
          refine ly_row (HM.out.on (al _)) ?_ hgr (by rw[size_al];exact hat);rw[hlen,HS2.out,kc_append];exact hown
         clear hown hgr hat HOw HM x0;go_wp2_with fail;go_roundw
         case rel=>exact⟨q+1,HQ.out,by go_num,t7,by rw[HK1.out];exact HN.out⟩
         case measure=>simp[intOf];omega
        ·have hql':¬(q:Int)<L.length:=by omega
         have hqL:L.take q=L:=List.take_of_length_le (by omega);rw[hqL]at HL;rw[hqL]at hKq;obtain⟨K,hK⟩:=xj (L.map (·.key));rw[hK]at HL HRel hKq;have HKq:Hid (K.length=q):=hKq;have hq1:0<q:=by omega
         have hq17:q<17:=by omega
         clear hqL hq hK HSn HCl hKq;obtain⟨g,hg⟩:∃g,sa=some ⟨g,0,none⟩:=by
          rcases HL.out.row.2 with⟨e,e2⟩|⟨g,cap',cur,e,_⟩
          ·rw[HKq.out]at e2;omega
          ·simp only[Value.slice.injEq]at e;exact⟨g,e.1⟩
         subst hg;have CSo:Hid (1=1->Calls Tryz.prog 142 #[.slice (some ⟨g,0,none⟩) q sc] wr fun e w'=>e=.returned (.tuple #[])/\Hid (RwAt w'.heap.size 1 (.slice (some ⟨g,0,none⟩) q sc) q (kc (srtK K)) w'/\Kept (fun i=>i=g) wr w'/\∃cs,w'.heap[g]?=some (.cells cs 9 (0,0)))):=fun _=>by have hrow:=HL.out.row;have hso:=sort34 w.heap.size g sc K wr (by rw[HKq.out]at hrow|-;exact hrow) (by rw[HKq.out];omega);rw[HKq.out]at hso;refine Calls.mono hso ?_;rintro e w' ⟨rfl,h8,h9⟩;exact⟨rfl,h8,h9⟩
         go_wp2_with fail;refine(CSo.out (by trivial)).mono ?_;rintro e w7 ⟨rfl,HS7⟩;obtain⟨x6,x7,x8,x9,d1,w8,hrun,hend⟩:=lz_end prim HKq.out HL.out HS7.out.2.1 HS7.out.1 HS7.out.2.2 hq1 HBw.out (HRel.out _);have HEnd:Hid _:=hend;have y6:ce w7 b6 0 (pz p):=block_cell x6 rfl;obtain⟨y70,y71⟩:=bk2 x7;obtain⟨y80,y81⟩:=bk2 x8;obtain⟨y90,y91⟩:=bk2 x9;clear hend x6 x7 x8 x9 CSo HL HS7 HRel;go_wp2_with fail;go_region;go_wp2_with fail;go_ret;exact⟨rfl,HEnd.out⟩
theorem own_tag{w:World}{base e size n k:Nat}{v:Value}{cs:List Value}(h:w.ownsRow base e size v n cs)(hk:v.ownBlock=some k):∃c,w.heap[k]?=some (.cells c e (0,0)):=by
 rcases h.2 with⟨rfl,_⟩|⟨g,cap,cur,rfl,_,hg,_⟩
 ·cases hk
 ·simp only[Value.ownBlock,Option.some.injEq]at hk;subst hk;exact⟨cur,hg⟩
theorem tableIfl:Ifl TabAt where
 lt:=by rintro B p M T w ⟨pm,hb,t,m,h,_,rfl⟩ k hk;exact h.lt hk
 keep:=by rintro B p M G T w w' ⟨pm,hb,t,m,h,hr,rfl⟩ hk hM;exact⟨pm,hb,t,m,h.kept hk hM,hr,rfl⟩
 ok:=by rintro B p M T w ⟨pm,hb,t,m,_,hr,_⟩;exact hr.ok
 new:=new9
 right:=right24
 lay:=by rintro B p M T w c n sp sl mp ml prim L v ⟨pm,hb,t,m,h,hr,rfl⟩ hl hv hn hst;exact lay10 c n sp sl mp ml prim L v h hr hl hv hn hst
 cut:=by rintro B p M T w c n ⟨pm,hb,t,m,h,hr,rfl⟩ hl;refine(cut13 c n h hr hl).mono ?_;rintro e w' ⟨v',rfl,h1,h2,M',h3,h4,h5⟩;exact⟨v',M',rfl,h1,h2,h3,h4,h5⟩
 raise:=by rintro B p M T w c n mp ml ⟨pm,hb,t,m,h,hr,rfl⟩ _ hst;exact raise15 c n mp ml h hr hst
 first:=by rintro B p M T w lo hi ap aq but v ⟨pm,hb,t,m,h,hr,rfl⟩ hl hv;exact first17 lo hi ap aq but v h hr hl hv
 of:=by rintro B p M T w k ⟨pm,hb,t,m,h,hr,rfl⟩ _;exact of19 k h hr
 by_:=by rintro B p M T w c n ⟨pm,hb,t,m,h,hr,rfl⟩ hl;refine(by21 c n h hr hl).mono ?_;rintro e w' ⟨v',rfl,ho,hb'⟩;exact⟨v',rfl,rw_own ho,fun k hk=>(World.ownsRow.lt ho k hk).1,hb'⟩
 all:=by rintro B p M T w ⟨pm,hb,t,m,h,hr,rfl⟩ hl;refine(all23 h hr hl).mono ?_;rintro e w' ⟨v',rfl,ho,hb'⟩;exact⟨v',rfl,rw_own ho,fun k hk=>⟨(World.ownsRow.lt ho k hk).1,own_tag ho hk⟩,hb'⟩
end Go.Proofs.YtdplfgcoaddbdaaGreat.Lat
