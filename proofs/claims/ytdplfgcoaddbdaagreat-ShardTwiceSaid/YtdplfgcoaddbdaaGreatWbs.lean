import Derived.Test.YtdplfgcoaddbdaaGreatWbq
set_option maxHeartbeats 4000000
set_option maxRecDepth 100000
set_option linter.unusedVariables false
set_option linter.unusedSimpArgs false
namespace Go.Proofs.YtdplfgcoaddbdaaGreat.Lat
open Go.RowKit
theorem Tx.row{B p pm hb:Nat}{t:Tr}{m:Mm}{T:Tb}{w:World}(h:Tx B p pm hb t m w)(hr:Rel t.toL m T)(c n:Int):RwAt w.heap.size 1 (svV ((getM (c,n) m).getD zt)) ((byF c n T).map (·.1)).length (kc ((byF c n T).map (·.1))) w:=by
 rw[<-hr.kl c n];cases hg:getM (c,n) m with
 |some tm=>exact(h.rows _ (get_mem hg)).row
 |none=>exact RwAt.nil _ _ _
theorem by_in{T:Tb}(hs:Srt T)(c n:Int):∀k∈(byF c n T).map (·.1),(getF k T).isSome=true:=fun k hk=>by obtain⟨y,hy,rfl⟩:=List.mem_map.1 hk;rw[(getF_mem hs).2 (List.mem_filter.1 hy).1];rfl
theorem run_keys(a c:Int)(b d:Int)(s:ByteArray)(ao:Option Addr)(l cap:Nat)(w:World):(Instr.field 242 (.agg #[uw a,ui b,uw c,ui d,.string s,.slice ao l cap]) 3).run Tryz.prog w=.ok (.slice ao l cap) w:=by simp[Instr.field,go_sem,asAgg]
theorem by21{B p pm hb:Nat}{t:Tr}{m:Mm}{T:Tb}{w:World}(c n:Int)(h:Tx B p pm hb t m w)(hr:Rel t.toL m T)(hl:T.length<10000):Calls Tryz.prog 144 #[pz p,.agg #[ui c,ui n]] w fun e w'=>∃v',e=.returned v'/\w'.ownsRow w.heap.size 69 10 v' (byF c n T).length (rowC inc (byF c n T))/\Below w.heap.size w w':=by
 obtain⟨W0,hW0⟩:=xj (w.alloc (.cells #[ui c,ui n] 26));have hb0:Below w.heap.size w W0:=by rw[<-hW0];exact al _
 have hx0:W0.heap[w.heap.size]?=some (.cells #[ui c,ui n] 26 (0,0)):=by rw[<-hW0];exact heap_alloc_new w _
 have z0:ce W0 w.heap.size 0 (ui c):=block_cell hx0 rfl;have z1:ce W0 w.heap.size 1 (ui n):=block_cell hx0 rfl;have h0:=h.on hb0;obtain⟨-,c1⟩:=h0.cells;obtain⟨tm,htm⟩:=xj ((getM (c,n) m).getD zt);have HQ:∀W,Tx B p pm hb t m W->(Instr.lookup 124 (.map (some hb)) (.agg #[ui c,ui n]) false).run Tryz.prog W=.ok (tmV tm) W:=fun W hW=>by have:=run_look hW.gm (c,n);rw[htm]at this;exact this
 have q0:=HQ W0 h0;have q1:=HQ W0.drew (h0.on (Below.refl _ _).drew);simp only[tmV]at q0 q1;have CI:Hid (∀W,Sw W0 W->Calls Tryz.prog 49 #[pz p,.slice tm.sv.1 tm.sv.2.1 tm.sv.2.2] W fun e w'=>∃ao cap,e=.returned (.slice ao (byF c n T).length cap)/\Hid (w'.ownsRow w.heap.size 69 10 (.slice ao (byF c n T).length cap) (byF c n T).length (rowC inc (byF c n T))/\Below w.heap.size w w')):=fun W hs=>by have hW:=h0.on (hs.below _);have hrow:=hW.row hr c n;rw[htm]at hrow;refine(intents48 _ _ hW hr hrow (by_in hr.ok.srt c n) (by rw[List.length_map];have:=len_by c n T;omega)).mono ?_;rintro e w' ⟨v',rfl,ho,hb'⟩;rw[int_by hr.ok.srt]at ho;obtain⟨sa,sc,rfl,-,-,-,-⟩:=rw_own ho;have hbw:Below w.heap.size w W:=hb0.trans ((hs.below _).mono hb0.size);exact⟨sa,sc,rfl,own_le ho hbw.size,hbw.trans (hb'.mono hbw.size)⟩
 clear h h0 hr hb0 hx0 hl HQ htm;generalize (byF c n T)=R at*;obtain⟨bx,hbx⟩:=xj w.heap.size;rw[hbx]at z0 z1;have HBX:Hid (w.heap.size=bx):=hbx;have qf:=run_keys tm.sp tm.mp tm.sl tm.ml (bs tm.prim) tm.sv.1 tm.sv.2.1 tm.sv.2.2;go_enter Tryz.func144,Tryz.ntmps144;go_wp2_with fail;go_region_with (go_at_call 49;refine(CI.out _ ?_).mono ?_;exact Sw.drew (Sw.refl _);rintro e w1 ⟨ao,cap,rfl,HE⟩)
 all_goals
  go_wp2_with fail;go_ret;exact⟨_,rfl,by rw[<-HBX.out];exact HE.out⟩
theorem all23{B p pm hb:Nat}{t:Tr}{m:Mm}{T:Tb}{w:World}(h:Tx B p pm hb t m w)(hr:Rel t.toL m T)(hl:T.length<10000):Calls Tryz.prog 25 #[pz p] w fun e w'=>∃v',e=.returned v'/\w'.ownsRow w.heap.size 69 10 v' T.length (rowC inc T)/\Below w.heap.size w w':=by
 obtain⟨c0,-⟩:=h.cells;have hlen:=hr.len;have CL:Hid (∀W,Sw w W->Calls Tryz.prog 51 #[pz pm] W fun e w'=>e=.returned (iw T.length)/\ce w' p 0 (pz pm)/\Hid (Below w.heap.size w w')):=fun W hs=>by have hW:=h.on (hs.below _);refine(len15 hW.map).mono ?_;rintro e w' ⟨rfl,hb'⟩;rw[hlen];have hbw:Below w.heap.size w w':=(hs.below _).trans (hb'.mono (hs.below w.heap.size).size);exact⟨rfl,(h.on hbw).cells.1,hbw⟩
 have CK:Hid (∀W,Hid (Below w.heap.size w W)->Calls Tryz.prog 50 #[pz pm,su,su,iw T.length] W fun e w'=>∃ao cap,e=.returned (.slice ao T.length cap)/\Hid (RwAt w'.heap.size 1 (.slice ao T.length cap) T.length (kc (T.map (·.1))) w'/\Below w.heap.size w w')):=fun W hs=>by
  have hW:=h.on hs.out;refine(keys17 [] [] T.length hW.map (by omega)).mono ?_;rintro e w' ⟨v',rfl,ho,hb'⟩;have hk:keysF [] [] (T.length:Int) t.toL=T.map (·.1):=by unfold keysF;rw[range_all,<-hr.keys,List.take_of_length_le (by simp)]
  rw[hk]at ho;have ho':=rw_own ho;rw[List.length_map]at ho';obtain⟨sa,sc,rfl,-,-,-,-⟩:=ho';exact⟨sa,sc,rfl,by have:=rw_own ho;rw[List.length_map]at this;exact this,hs.out.trans (hb'.mono hs.out.size)⟩
 have CI:Hid (∀W ao cap,Hid (RwAt W.heap.size 1 (.slice ao T.length cap) T.length (kc (T.map (·.1))) W/\Below w.heap.size w W)->Calls Tryz.prog 49 #[pz p,.slice ao T.length cap] W fun e w'=>∃ao cap,e=.returned (.slice ao T.length cap)/\Hid (w'.ownsRow w.heap.size 69 10 (.slice ao T.length cap) T.length (rowC inc T)/\Below w.heap.size w w')):=fun W ao cap hs=>by have hW:=h.on hs.out.2;refine(intents48 (T.map (·.1)) _ hW hr (by rw[List.length_map];exact hs.out.1) (fun k hk=>by rw[<-keys_get hr.ok.srt];exact hk) (by rw[List.length_map];omega)).mono ?_;rintro e w' ⟨v',rfl,ho,hb'⟩;rw[int_all hr.ok.srt]at ho;obtain⟨sa,sc,rfl,-,-,-,-⟩:=rw_own ho;exact⟨sa,sc,rfl,own_le ho hs.out.2.size,hs.out.2.trans (hb'.mono hs.out.2.size)⟩
 have hl':(T.length:Int)<10000:=by omega
 clear h hr hlen hl;generalize T.length=N at*;go_enter Tryz.func25,Tryz.ntmps25;go_wp2_with fail;go_region_with (first
  |(go_at_call 51;refine(CL.out _ ?_).mono ?_;exact Sw.drew (Sw.refl _);rintro e w1 ⟨rfl,d0,HE⟩)
  |(go_at_call 50;refine(CK.out _ HE).mono ?_;rintro e w2 ⟨ao,cap,rfl,HF⟩)
  |(go_at_call 49;refine(CI.out _ _ _ HF).mono ?_;rintro e w3 ⟨ao',cap',rfl,HG⟩))
 all_goals
  go_wp2_with fail;go_ret;exact⟨_,rfl,HG.out⟩
structure Cs(B p pm hb:Nat)(t0:Tr)(m:Mm)(w:World)(bx:Nat)(c n:Int)(v:Value)(X:Tb)(L:Kv Cv)(t:Tr)(W:World):Prop where
 tx:Tx B p pm hb t m W
 el:t.toL=L
 sub:∀i,foot8 pm t i->foot8 pm t0 i\/w.heap.size<=i
 kp:Kept (footT p pm hb t0 m) w W
 row:W.ownsRow w.heap.size 69 10 v X.length (rowC inc X)
 rn:∀k,v.ownBlock=some k->¬foot8 pm t k/\w.heap.size<=k/\k<W.heap.size/\k≠p/\k≠hb
 b0:W.heap[bx]?=some (.cells #[ui c,ui n] 26 (0,0))
 bn:¬foot8 pm t bx/\w.heap.size<=bx/\bx≠p/\bx≠hb
theorem Cs.on{B p pm hb:Nat}{t0 t:Tr}{m:Mm}{w W W':World}{bx:Nat}{c n:Int}{v:Value}{X:Tb}{L:Kv Cv}(h:Cs B p pm hb t0 m w bx c n v X L t W)(hb':Below W.heap.size W W'):Cs B p pm hb t0 m w bx c n v X L t W':=
 ⟨h.tx.on hb',h.el,h.sub,h.kp.trans (Kept.of_below (F:=fun _=>False) hb') (fun _ e=>e.elim),own_on h.row hb',fun k hk=>by obtain⟨a,b,c,d⟩:=h.rn k hk;exact⟨a,b,Nat.lt_of_lt_of_le c hb'.size,d⟩,by rw[hb'.block _ (gsz h.b0)];exact h.b0,h.bn⟩
theorem cs_cut{B p pm hb:Nat}{t0 t:Tr}{m:Mm}{w W:World}{bx:Nat}{c n:Int}{v:Value}{X:Tb}{L:Kv Cv}(h:Cs B p pm hb t0 m w bx c n v X L t W)(hl:L.length<100000)(k:List UInt8):Calls Tryz.prog 145 #[pz pm,sd k] W fun e w'=>∃z,e=.returned (.bool z)/\∃t',Cs B p pm hb t0 m w bx c n v X (cutF k L) t' w':=by
 refine(cut11 k h.tx.map (by rw[h.el];exact hl)).mono ?_;rintro e w' ⟨rfl,hp⟩;obtain⟨t',he,ht,hk,hn⟩:=h.tx.claims hp;rw[h.el]at he;have hs:=h.kp.size;have new:∀k,k<W.heap.size->¬foot8 pm t k->¬foot8 pm t' k:=fun k h1 h2 h3=>by
  rcases hn k h3 with e|e
  ·exact h2 e
  ·omega
 have hbl:=(gsz h.b0);refine⟨_,rfl,t',ht,he,fun i hi=>?_,h.kp.trans hk (fun i hi=>?_),own_kept h.row hk (fun k e=>(h.rn k e).1),fun k e=>?_,?_,new bx hbl h.bn.1,h.bn.2⟩
 ·rcases hn i hi with e|e
  ·exact h.sub i e
  ·exact .inr (Nat.le_trans hs e)
 ·rcases h.sub i hi with e|e
  ·exact .inl (.inr (.inr (.inl e)))
  ·exact .inr e
 ·obtain⟨a1,a2,a3,a4⟩:=h.rn k e;exact⟨new k a3 a1,a2,Nat.lt_of_lt_of_le a3 hk.size,a4⟩
 ·rw[hk.block bx hbl h.bn.1];exact h.b0
theorem footT_sub{p pm hb:Nat}{t0 t:Tr}{m m':Mm}{S:Nat}(h:∀i,foot8 pm t i->foot8 pm t0 i\/S<=i)(hm:∀x∈m',∀i,(svV x.2).ownBlock=some i->(∃y∈m,(svV y.2).ownBlock=some i)\/S<=i):∀i,footT p pm hb t m' i->footT p pm hb t0 m i\/S<=i:=fun i hi=>by
 rcases hi with e|e|e|⟨x,hx,e⟩
 ·exact .inl (.inl e)
 ·exact .inl (.inr (.inl e))
 ·rcases h i e with e|e
  ·exact .inl (.inr (.inr (.inl e)))
  ·exact .inr e
 ·rcases hm x hx i e with e|e
  ·exact .inl (.inr (.inr (.inr e)))
  ·exact .inr e
theorem cs_end{B p pm hb:Nat}{t0 t:Tr}{m m':Mm}{w W W':World}{bx:Nat}{c n:Int}{v:Value}{X T':Tb}{L:Kv Cv}(h:Cs B p pm hb t0 m w bx c n v X L t W)(hg:GmAt hb m' W')(hk:Kept (fun i=>i=hb) W W')(hm:∀x∈m',x∈m)(hr:Rel L m' T'):
  IsAt W'.heap.size v X W'/\(∀k,v.ownBlock=some k->w.heap.size<=k)/\∃M',TabAt B p M' T' W'/\Kept (footT p pm hb t0 m) w W'/\∀i,M' i->footT p pm hb t0 m i\/w.heap.size<=i:=by
 refine⟨rw_own (own_kept h.row hk (fun k e=>(h.rn k e).2.2.2.2)),fun k e=>(h.rn k e).2.1,footT p pm hb t m',⟨pm,hb,t,m',h.tx.terms hg hk (fun x hx=>.inl ⟨x,hm x hx,rfl,rfl⟩),by rw[h.el];exact hr,rfl⟩,h.kp.trans hk (fun i e=>.inl (.inr (.inl e))),footT_sub h.sub (fun x hx i e=>.inl ⟨x,hm x hx,e⟩)⟩
theorem cut13{B p pm hb:Nat}{t:Tr}{m:Mm}{T:Tb}{w:World}(c n:Int)(h:Tx B p pm hb t m w)(hr:Rel t.toL m T)(hl:T.length<10000):Calls Tryz.prog 73 #[pz p,.agg #[ui c,ui n]] w fun e w'=>∃v',e=.returned v'/\IsAt w'.heap.size v' (byF c n T) w'/\(∀k,v'.ownBlock=some k->w.heap.size<=k)/\∃M',TabAt B p M' (restF c n T) w'/\Kept (footT p pm hb t m) w w'/\∀i,M' i->footT p pm hb t m i\/w.heap.size<=i:=by
 obtain⟨W0,hW0⟩:=xj (w.alloc (.cells #[ui c,ui n] 26));have hb0:Below w.heap.size w W0:=by rw[<-hW0];exact al _
 have hx0:W0.heap[w.heap.size]?=some (.cells #[ui c,ui n] 26 (0,0)):=by rw[<-hW0];exact heap_alloc_new w _
 have z0:ce W0 w.heap.size 0 (ui c):=block_cell hx0 rfl;have z1:ce W0 w.heap.size 1 (ui n):=block_cell hx0 rfl;obtain⟨bx,hbx⟩:=xj w.heap.size;have hll:t.toL.length<10000:=by rw[hr.len];exact hl
 have CB:Hid (1=1->Calls Tryz.prog 144 #[pz p,.agg #[ui c,ui n]] W0 fun e w'=>∃ao cap,e=.returned (.slice ao (byF c n T).length cap)/\Hid (Cs B p pm hb t m w bx c n (.slice ao (byF c n T).length cap) (byF c n T) t.toL t w')):=fun _=>by
  have h0:=h.on hb0;refine(by21 c n h0 hr hl).mono ?_;rintro e w' ⟨v',rfl,ho,hb'⟩;obtain⟨sa,sc,rfl,-,-,-,-⟩:=rw_own ho;have hbw:Below w.heap.size w w':=hb0.trans (hb'.mono hb0.size);have hf:∀i,footT p pm hb t m i->i<w.heap.size:=fun i hi=>(h.lt hi).2;refine⟨sa,sc,rfl,h.on hbw,rfl,fun i hi=>.inl hi,Kept.of_below hbw,own_le ho hb0.size,fun k e=>?_,?_,?_⟩
  ·have hk:=World.ownsRow.lt ho k e;have hk1:w.heap.size<=k:=Nat.le_trans hb0.size hk.1;exact⟨fun e2=>by have:=hf k (.inr (.inr (.inl e2)));omega,hk1,hk.2,fun e2=>by have:=hf k (.inl e2);omega,fun e2=>by have:=hf k (.inr (.inl e2));omega⟩
  ·rw[<-hbx,hb'.block _ (gsz hx0)];exact hx0
  ·rw[<-hbx];exact⟨fun e2=>by have:=hf _ (.inr (.inr (.inl e2)));omega,Nat.le_refl _,fun e2=>by have:=hf _ (.inl e2);omega,fun e2=>by have:=hf _ (.inr (.inl e2));omega⟩
 have HR:Hid (Rel t.toL m T):=hr;have HEnd:Hid (∀v t' W,Cs B p pm hb t m w bx c n v (byF c n T) (cutsF ((byF c n T).map (·.1)) t.toL) t' W->(0<(byF c n T).length->∃w',(∀ty:TypeId,(Builtin.delete_ #[124,26] ty #[.map (some hb),.agg #[ui c,ui n]]).run Tryz.prog W.drew=.ok (.tuple #[]) w')/\(IsAt w'.heap.size v (byF c n T) w'/\(∀k,v.ownBlock=some k->w.heap.size<=k)/\∃M',TabAt B p M' (restF c n T) w'/\Kept (footT p pm hb t m) w w'/\∀i,M' i->footT p pm hb t m i\/w.heap.size<=i))/\(¬0<(byF c n T).length->(IsAt W.heap.size v (byF c n T) W/\(∀k,v.ownBlock=some k->w.heap.size<=k)/\∃M',TabAt B p M' (restF c n T) W/\Kept (footT p pm hb t m) w W/\∀i,M' i->footT p pm hb t m i\/w.heap.size<=i))):=fun v t' W hc=>by
  refine⟨fun h0=>?_,fun h0=>?_⟩
  ·have hc':=hc.on (Below.refl W.heap.size W).drew;obtain⟨w',hrun,hg,hk⟩:=run_del hc'.tx.gm (c,n);exact⟨w',hrun,cs_end hc' hg hk (fun x hx=>(del_sub m).subset hx) (hr.cut c n)⟩
  ·have hnil:byF c n T=[]:=List.length_eq_zero_iff.1 (by omega);have hrel:Rel (cutsF ((byF c n T).map (·.1)) t.toL) m (restF c n T):=by rw[rest_none hnil,hnil];exact hr
   exact cs_end hc hc.tx.gm (Kept.refl _ _) (fun x hx=>hx) hrel
 have hXl:(byF c n T).length<10000:=by have:=len_by c n T;omega
 have HLL:Hid (t.toL.length<10000):=hll;rw[hbx]at z0 z1;have HBX:Hid (w.heap.size=bx):=hbx;clear h hr hb0 hx0 hl hll;generalize hX:byF c n T=X at*;generalize restF c n T=T' at*;generalize hF:footT p pm hb t m=F at*;clear hX hF;generalize ht0:t.toL=L at*;clear ht0;go_enter Tryz.func73,Tryz.ntmps73;go_wp2_with fail;refine(CB.out (by trivial)).mono ?_;rintro e w1 ⟨ao,cap,rfl,HC⟩;clear CB z0 z1 hW0 hbx;go_wp2_with fail;go_loopw [13] (fun i wr=>∃q:Nat,q<=X.length/\i=iw q/\∃t',Cs B p pm hb t m w bx c n (.slice ao X.length cap) X (cutsF ((X.take q).map (·.1)) L) t' wr) (fun i _=>X.length-(intOf i).toNat)
 case atStart=>exact⟨0,Nat.zero_le _,rfl,t,HC.out⟩
 case round=>
  obtain⟨q,hq,rfl,t',hcs⟩:=hrel;have HS:Hid (Cs B p pm hb t m w bx c n (.slice ao X.length cap) X (cutsF ((X.take q).map (·.1)) L) t' wr):=hcs;clear hcs HC;by_cases hml:q<X.length
  ·obtain⟨b,off,rfl,e0,e1,e2,e3,e4,e5,e6,e7,e8,e9⟩:=IsAt.el (rw_own HS.out.row) hml;have hml':(q:Int)<X.length:=by omega
   have HQ:Hid (q+1<=X.length):=hml;have hsn:(X.take (q+1)).map (·.1)=(X.take q).map (·.1)++[(X.getD q di).1]:=by rw[ttk_snoc hml];simp
   have HSn:Hid (cutsF ((X.take (q+1)).map (·.1)) L=cutF (X.getD q di).1 (cutsF ((X.take q).map (·.1)) L)):=by show _=_;rw[hsn,cuts_snoc]
   have d0:=HS.out.tx.cells.1;clear hsn hq;generalize X.getD q di=x at*;obtain⟨a,s⟩:=x;dsimp only at e0 e1 e2 e3 e4 e5 e6 e7 e8 e9 HSn;obtain⟨Wa,hWa⟩:=xj (wr.alloc (.cells #[ui s.c,ui s.n,uw s.sp,ui s.sl,uw s.mp,ui s.ml,sd s.prim,sd a,sd s.val,.bool s.dead] 69));have hxa:Wa.heap[wr.heap.size]?=some (.cells #[ui s.c,ui s.n,uw s.sp,ui s.sl,uw s.mp,ui s.ml,sd s.prim,sd a,sd s.val,.bool s.dead] 69 (0,0)):=by rw[<-hWa];exact heap_alloc_new wr _
   have hba:Below wr.heap.size wr Wa:=by rw[<-hWa];exact al _
   have ka:ce Wa wr.heap.size 7 (sd a):=block_cell hxa rfl;have da:ce Wa p 0 (pz pm):=(HS.out.tx.on hba).cells.1;have CC:Hid (∀W,Sw Wa W->Calls Tryz.prog 145 #[pz pm,sd a] W fun e w'=>∃z,e=.returned (.bool z)/\Hid (∃t',Cs B p pm hb t m w bx c n (.slice (some ⟨b,off,none⟩) X.length cap) X (cutsF ((X.take (q+1)).map (·.1)) L) t' w')):=fun W hs=>by have hw:=(HS.out.on hba).on (hs.below _);refine(cs_cut hw (by have:=cuts_le ((X.take q).map (·.1)) L;have:=HLL.out;omega) a).mono ?_;rintro e w' ⟨z,rfl,t2,h2⟩;exact⟨z,rfl,t2,by rw[HSn.out];exact h2⟩
   obtain⟨by2,hby2⟩:=xj wr.heap.size;rw[hby2]at ka;clear hxa hba HS HSn;go_wp2_with fail;go_region_with (go_at_call 145;refine(CC.out _ ?_).mono ?_;exact Sw.drew (Sw.refl _);rintro e w2 ⟨z,rfl,HE⟩)
   all_goals
    clear CC d0 da ka hWa hby2 e0 e1 e2 e3 e4 e5 e6 e7 e8 e9;go_wp2_with fail;go_roundw
    case rel=>exact⟨q+1,HQ.out,by go_num,HE.out⟩
    case measure=>simp[intOf];omega
  ·have hml':¬(q:Int)<X.length:=by omega
   have hqx:X.take q=X:=List.take_of_length_le (by omega);rw[hqx]at HS;obtain⟨g1,g2⟩:=HEnd.out _ _ _ HS.out;by_cases hX0:0<X.length
   ·have hX0':(0:Int)<X.length:=by omega
    obtain⟨w',hrun,hend⟩:=g1 hX0;have HEn:Hid _:=hend;have d1:=HS.out.tx.cells.2;obtain⟨y0,y1⟩:=bk2 HS.out.b0;clear g1 g2 hend HS HEnd hqx hq hml;go_wp2_with fail;go_region;go_wp2_with fail;go_ret;exact⟨_,rfl,HEn.out⟩
   ·have hX0':¬(0:Int)<X.length:=by omega
    have HEn:Hid _:=g2 hX0;clear g1 g2 HS HEnd hqx hq hml;go_wp2_with fail;go_ret;exact⟨_,rfl,HEn.out⟩
theorem max_two{a b mp ml:Int}(h:0<=a/\0<=b):maxL [(a,b),(mp,ml)]=if ltT a b mp ml then(mp,ml)else(a,b):=by
 have e1:maxF 0 0 a b=(a,b):=by
  unfold maxF lessB;split
  ·rfl
  ·rename_i hn;simp only[decide_eq_true_eq,not_or,not_and]at hn;have ha:a=0:=by omega
   have hb:b=0:=by have:=hn.2 ha.symm;omega
   rw[ha,hb]
 simp only[maxL,List.foldl_cons,List.foldl_nil,e1];rw[lt_less];rfl
structure Rz(B p pm hb:Nat)(t:Tr)(m:Mm)(w:World)(b4 b5:Nat)(c n mp ml:Int)(W:World):Prop where
 tx:Tx B p pm hb t m W
 bel:Below w.heap.size w W
 k4:W.heap[b4]?=some (.cells #[ui c,ui n] 26 (0,0))
 k5:W.heap[b5]?=some (.cells #[uw mp,ui ml] 28 (0,0))
theorem Rz.on{B p pm hb:Nat}{t:Tr}{m:Mm}{w W W':World}{b4 b5:Nat}{c n mp ml:Int}(h:Rz B p pm hb t m w b4 b5 c n mp ml W)(hb':Below W.heap.size W W'):Rz B p pm hb t m w b4 b5 c n mp ml W':=
 ⟨h.tx.on hb',h.bel.trans (hb'.mono h.bel.size),by rw[hb'.block _ (gsz h.k4)];exact h.k4,by rw[hb'.block _ (gsz h.k5)];exact h.k5⟩
theorem Rz.own{B p pm hb:Nat}{t:Tr}{m:Mm}{w W W':World}{b4 b5 bt:Nat}{c n mp ml:Int}(h:Rz B p pm hb t m w b4 b5 c n mp ml W)(hk:Kept (fun i=>i=bt) W W')(hf:∀i,footT p pm hb t m i->i≠bt)(h4:b4≠bt)(h5:b5≠bt)(hw:w.heap.size<=bt):Rz B p pm hb t m w b4 b5 c n mp ml W':=
 ⟨h.tx.kept hk hf,h.bel.trans (hk.below h.bel.size (fun k e=>by rw[e];exact hw)),by rw[hk.block _ (gsz h.k4) h4];exact h.k4,by rw[hk.block _ (gsz h.k5) h5];exact h.k5⟩
structure Rt(B p pm hb:Nat)(t:Tr)(m:Mm)(w:World)(b4 b5 bt:Nat)(c n mp ml:Int)(tm:Tm)(W:World):Prop where
 rz:Rz B p pm hb t m w b4 b5 c n mp ml W
 bx:W.heap[bt]?=some (.cells #[uw tm.sp,ui tm.sl,uw tm.mp,ui tm.ml,sd tm.prim,.slice tm.sv.1 tm.sv.2.1 tm.sv.2.2] 242 (0,0))
 far:(∀i,footT p pm hb t m i->i≠bt)/\b4≠bt/\b5≠bt/\w.heap.size<=bt
theorem Rt.on{B p pm hb:Nat}{t:Tr}{m:Mm}{w W W':World}{b4 b5 bt:Nat}{c n mp ml:Int}{tm:Tm}(h:Rt B p pm hb t m w b4 b5 bt c n mp ml tm W)(hb':Below W.heap.size W W'):Rt B p pm hb t m w b4 b5 bt c n mp ml tm W':=
 ⟨h.rz.on hb',by rw[hb'.block _ (gsz h.bx)];exact h.bx,h.far⟩
theorem rt_new{B p pm hb:Nat}{t:Tr}{m:Mm}{w W2 W3:World}{b4 b5:Nat}{c n mp ml:Int}(tm:Tm)(h:Rz B p pm hb t m w b4 b5 c n mp ml W2)(hz:W2.alloc (.cells #[uw 0,ui 0,uw 0,ui 0,su,sy] 242)=W3):Rt B p pm hb t m w b4 b5 W2.heap.size c n mp ml tm ((((((W3.setCell ⟨W2.heap.size,0,none⟩ (uw tm.sp)).setCell ⟨W2.heap.size,1,none⟩ (ui tm.sl)).setCell ⟨W2.heap.size,2,none⟩ (uw tm.mp)).setCell ⟨W2.heap.size,3,none⟩ (ui tm.ml)).setCell ⟨W2.heap.size,4,none⟩ (sd tm.prim)).setCell ⟨W2.heap.size,5,none⟩ (.slice tm.sv.1 tm.sv.2.1 tm.sv.2.2)).drew:=by
 have h3:Rz B p pm hb t m w b4 b5 c n mp ml W3:=by rw[<-hz];exact h.on (al _)
 have hx:W3.heap[W2.heap.size]?=some (.cells #[uw 0,ui 0,uw 0,ui 0,su,sy] 242 (0,0)):=by rw[<-hz];exact heap_alloc_new W2 _
 have hk:=six_kept W3 W2.heap.size tm;have e:=bx6 tm hx;have n4:=(gsz h.k4);have n5:=(gsz h.k5);have hfar:(∀i,footT p pm hb t m i->i≠W2.heap.size)/\b4≠W2.heap.size/\b5≠W2.heap.size/\w.heap.size<=W2.heap.size:=⟨fun i hi e=>by have:=(h.tx.lt hi).2;omega,by omega,by omega,h.bel.size⟩;have r:=h3.own hk hfar.1 hfar.2.1 hfar.2.2.1 hfar.2.2.2;generalize ((((((W3.setCell ⟨W2.heap.size,0,none⟩ (uw tm.sp)).setCell ⟨W2.heap.size,1,none⟩ (ui tm.sl)).setCell ⟨W2.heap.size,2,none⟩ (uw tm.mp)).setCell ⟨W2.heap.size,3,none⟩ (ui tm.ml)).setCell ⟨W2.heap.size,4,none⟩ (sd tm.prim)).setCell ⟨W2.heap.size,5,none⟩ (.slice tm.sv.1 tm.sv.2.1 tm.sv.2.2))=X at*;exact⟨r.on (Below.refl _ _).drew,e,hfar⟩
theorem Rt.put{B p pm hb:Nat}{t:Tr}{m:Mm}{w W:World}{b4 b5 bt:Nat}{c n mp ml:Int}{tm:Tm}(h:Rt B p pm hb t m w b4 b5 bt c n mp ml tm W)(a1 a2:Int):Rt B p pm hb t m w b4 b5 bt c n mp ml {tm with mp:=a1,ml:=a2} ((W.setCell ⟨bt,2,none⟩ (uw a1)).setCell ⟨bt,3,none⟩ (ui a2)):=by have k1:=set_kept' W bt 2 (uw a1);have k2:=set_kept' (W.setCell ⟨bt,2,none⟩ (uw a1)) bt 3 (ui a2);have kk:=k1.trans k2 (fun i e=>.inl e);have e1:(W.setCell ⟨bt,2,none⟩ (uw a1)).heap[bt]?=some (.cells #[uw tm.sp,ui tm.sl,uw a1,ui tm.ml,sd tm.prim,.slice tm.sv.1 tm.sv.2.1 tm.sv.2.2] 242 (0,0)):=block_set _ h.bx;exact⟨h.rz.own kk h.far.1 h.far.2.1 h.far.2.2.1 h.far.2.2.2,block_set _ e1,h.far⟩
theorem rt_upd{B p pm hb:Nat}{t:Tr}{m:Mm}{w W:World}{b4 b5 bt:Nat}{c n mp ml:Int}{tm tm':Tm}(h:Rt B p pm hb t m w b4 b5 bt c n mp ml tm' W)(hg:getM (c,n) m=some tm)(hsv:tm'.sv=tm.sv)(hkl:tm'.kl=tm.kl){T':Tb}(hr:Rel t.toL (setM (c,n) tm' m) T'):
  ∃w',(Instr.mapUpdate 124 (.map (some hb)) (.agg #[ui c,ui n]) (tmV tm')).run Tryz.prog W=.ok () w'/\(∃M',TabAt B p M' T' w'/\Kept (footT p pm hb t m) w w'/\∀i,M' i->footT p pm hb t m i\/w.heap.size<=i):=by
 obtain⟨w',hrun,hgm,hk⟩:=run_upd h.rz.tx.gm (c,n) tm';refine⟨w',hrun,footT p pm hb t (setM (c,n) tm' m),⟨pm,hb,t,_,h.rz.tx.terms hgm hk (fun x hx=>?_),hr,rfl⟩,(Kept.of_below h.rz.bel).trans hk (fun i e=>.inl (.inr (.inl e))),footT_sub (fun i e=>.inl e) (fun x hx i e=>.inl ?_)⟩
 ·rcases mem_setM hx with rfl|e
  ·exact .inl ⟨((c,n),tm),get_mem hg,by unfold svV;rw[hsv],hkl.symm⟩
  ·exact .inl ⟨x,e,rfl,rfl⟩
 ·rcases mem_setM hx with rfl|e2
  ·refine⟨((c,n),tm),get_mem hg,?_⟩;unfold svV at e|-;rw[<-hsv];exact e
  ·exact⟨x,e2,e⟩
theorem raise15{B p pm hb:Nat}{t:Tr}{m:Mm}{T:Tb}{w:World}(c n mp ml:Int)(h:Tx B p pm hb t m w)(hr:Rel t.toL m T)(h0:0<=mp/\0<=ml):Calls Tryz.prog 80 #[pz p,.agg #[ui c,ui n],.agg #[uw mp,ui ml]] w fun e w'=>e=.returned (.bool (rseB c n mp ml T))/\∃M',TabAt B p M' (rseF c n mp ml T) w'/\Kept (footT p pm hb t m) w w'/\∀i,M' i->footT p pm hb t m i\/w.heap.size<=i:=by
 have hsome:=hr.isSome c n;obtain⟨W0,hW0⟩:=xj (w.alloc (.cells #[ui c,ui n] 26));obtain⟨W1,hW1⟩:=xj (W0.alloc (.cells #[uw mp,ui ml] 28));have hz1:Rz B p pm hb t m w w.heap.size W0.heap.size c n mp ml W1:=by
  have hb0:Below w.heap.size w W0:=by rw[<-hW0];exact al _
  have hb1:Below W0.heap.size W0 W1:=by rw[<-hW1];exact al _
  have hx0:W0.heap[w.heap.size]?=some (.cells #[ui c,ui n] 26 (0,0)):=by rw[<-hW0];exact heap_alloc_new w _
  have hx1:W1.heap[W0.heap.size]?=some (.cells #[uw mp,ui ml] 28 (0,0)):=by rw[<-hW1];exact heap_alloc_new W0 _
  exact⟨(h.on hb0).on hb1,hb0.trans (hb1.mono hb0.size),by rw[hb1.block _ (gsz hx0)];exact hx0,hx1⟩
 obtain⟨b4,hb4⟩:=xj w.heap.size;obtain⟨b5,hb5⟩:=xj W0.heap.size;rw[hb4,hb5]at hz1;have HZ:Hid (Rz B p pm hb t m w b4 b5 c n mp ml W1):=hz1;have HB4:Hid (w.heap.size=b4):=hb4;have HSt:Hid (∀W,Rz B p pm hb t m w b4 b5 c n mp ml W->rseF c n mp ml T=T->∃M',TabAt B p M' (rseF c n mp ml T) W/\Kept (footT p pm hb t m) w W/\∀i,M' i->footT p pm hb t m i\/w.heap.size<=i):=fun W hW e=>by rw[e];exact⟨_,⟨pm,hb,t,m,hW.tx,hr,rfl⟩,Kept.of_below hW.bel,fun i hi=>.inl hi⟩
 have CH:Hid (1=1->Calls Tryz.prog 137 #[pz p,.agg #[ui c,ui n]] W1 fun e w'=>e=.returned (.bool (getM (c,n) m).isSome)/\Hid (Rz B p pm hb t m w b4 b5 c n mp ml w')):=fun _=>by refine(has29 c n HZ.out.tx).mono ?_;rintro e w' ⟨rfl,hb'⟩;exact⟨rfl,HZ.out.on hb'⟩
 have CR:Hid (∀W,Hid (Rz B p pm hb t m w b4 b5 c n mp ml W)->Calls Tryz.prog 81 #[.agg #[uw mp,ui ml]] W fun e w'=>e=.returned (.bool (rightB mp ml))/\Hid (Rz B p pm hb t m w b4 b5 c n mp ml w')):=fun W hW=>by refine(rightP mp ml W).mono ?_;rintro e w' ⟨rfl,hb'⟩;exact⟨rfl,hW.out.on hb'⟩
 obtain⟨z0,z1⟩:=bk2 hz1.k4;cases hg:getM (c,n) m with
 |none=>
  rw[hg]at hsome CH;have hB:rseB c n mp ml T=false:=by unfold rseB;rw[<-hsome];rfl
  have hF:rseF c n mp ml T=T:=by unfold rseF;rw[hB];rfl
  rw[hB];have HS2:Hid (∀W,Rz B p pm hb t m w b4 b5 c n mp ml W->_):=fun W hW=>HSt.out W hW hF;simp only[Option.isSome_none]at CH;clear h hr hz1 hsome hg hB hF HZ HSt;generalize rseF c n mp ml T=T' at*;generalize footT p pm hb t m=F at*;go_enter Tryz.func80,Tryz.ntmps80;go_wp2_with fail;refine(CH.out (by trivial)).mono ?_;rintro e w1 ⟨rfl,HZ⟩;clear CH z0 z1 hW0 hW1 hb4 hb5;go_wp2_with fail;go_ret;exact⟨rfl,HS2.out _ HZ.out⟩
 |some tm=>
  rw[hg]at hsome CH;simp only[Option.isSome_some]at CH hsome;obtain⟨hkl1,hkl2,hnn⟩:=hr.ks _ _ hg;cases hrb:rightB mp ml with
  |false=>
   rw[hrb]at CR;have hB:rseB c n mp ml T=false:=by unfold rseB;rw[hrb,Bool.and_false]
   have hF:rseF c n mp ml T=T:=by unfold rseF;rw[hB];rfl
   rw[hB];have HS2:Hid (∀W,Rz B p pm hb t m w b4 b5 c n mp ml W->_):=fun W hW=>HSt.out W hW hF;clear h hr hz1 hsome hg hB hF HZ HSt;generalize rseF c n mp ml T=T' at*;generalize footT p pm hb t m=F at*;go_enter Tryz.func80,Tryz.ntmps80;go_wp2_with fail;refine(CH.out (by trivial)).mono ?_;rintro e w1 ⟨rfl,HZ⟩;obtain⟨y0,y1⟩:=bk2 HZ.out.k5;clear CH z0 z1 hW0 hW1 hb4 hb5;go_wp2_with fail;refine(CR.out _ HZ).mono ?_;rintro e w2 ⟨rfl,HZ2⟩;clear CR y0 y1 HZ;go_wp2_with fail;go_ret;exact⟨rfl,HS2.out _ HZ2.out⟩
  |true=>
   rw[hrb]at CR;have hB:rseB c n mp ml T=true:=by unfold rseB;rw[hrb,<-hsome];rfl
   have hF:rseF c n mp ml T=raiseF c n mp ml T:=by unfold rseF;rw[hB];rfl
   rw[hB,hF];obtain⟨a1,ha1⟩:=xj (maxL [(tm.mp,tm.ml),(mp,ml)]).1;obtain⟨a2,ha2⟩:=xj (maxL [(tm.mp,tm.ml),(mp,ml)]).2;have hrr:=hr.raise hg h0;have htm:(if ltT tm.mp tm.ml mp ml then{tm with mp:=mp,ml:=ml}else tm)={tm with mp:=a1,ml:=a2}:=by rw[<-ha1,<-ha2,max_two hnn];split<;>rfl
   rw[htm]at hrr;have HQ:Hid (∀W,Tx B p pm hb t m W->(Instr.lookup 124 (.map (some hb)) (.agg #[ui c,ui n]) false).run Tryz.prog W=.ok (.agg #[uw tm.sp,ui tm.sl,uw tm.mp,ui tm.ml,sd tm.prim,.slice tm.sv.1 tm.sv.2.1 tm.sv.2.2]) W):=fun W hW=>by have:=run_look hW.gm (c,n);rw[hg]at this;exact this
   have HU:Hid (∀W,Rt B p pm hb t m w b4 b5 0 c n mp ml tm W->True):=fun _ _=>trivial;clear HU;have HU:Hid (∀bt W,Rt B p pm hb t m w b4 b5 bt c n mp ml {tm with mp:=a1,ml:=a2} W->∃w',(Instr.mapUpdate 124 (.map (some hb)) (.agg #[ui c,ui n]) (.agg #[uw tm.sp,ui tm.sl,uw a1,ui a2,sd tm.prim,.slice tm.sv.1 tm.sv.2.1 tm.sv.2.2])).run Tryz.prog W=.ok () w'/\Hid (∃M',TabAt B p M' (raiseF c n mp ml T) w'/\Kept (footT p pm hb t m) w w'/\∀i,M' i->footT p pm hb t m i\/w.heap.size<=i)):=fun bt W hW=>rt_upd hW hg rfl rfl hrr;have CM:Hid (∀bk W bt,bk<W.heap.size->Hid (Rt B p pm hb t m w b4 b5 bt c n mp ml tm W)->W.heap[bk]?=some (.cells #[uw tm.mp,ui tm.ml,uw mp,ui ml] 28 (0,0))->Calls Tryz.prog 101 #[.slice (some ⟨bk,0,none⟩) 2 2] W fun e w'=>e=.returned (.agg #[uw a1,ui a2])/\Hid (Rt B p pm hb t m w b4 b5 bt c n mp ml tm w')):=fun bk W bt hbk hW hx=>by
    have:=max39_row bk W hbk 2 [(tm.mp,tm.ml),(mp,ml)] rfl (by omega) (fun i hi=>by
     rcases(by omega:i=0\/i=1)with rfl|rfl
     ·exact⟨block_cell hx rfl,block_cell hx rfl⟩
     ·exact⟨block_cell hx rfl,block_cell hx rfl⟩)
    rw[ha1,ha2]at this;refine Calls.mono this ?_;rintro e w' ⟨rfl,hb'⟩;exact⟨rfl,hW.out.on hb'⟩
   clear h hr hz1 hsome hg hB hF HZ HSt hrr htm ha1 ha2 hkl1 hkl2 hnn h0 hrb;generalize raiseF c n mp ml T=T' at*;generalize hFF:footT p pm hb t m=F at*;clear hFF;go_enter Tryz.func80,Tryz.ntmps80;go_wp2_with fail;refine(CH.out (by trivial)).mono ?_;rintro e w1 ⟨rfl,HZ⟩;obtain⟨y0,y1⟩:=bk2 HZ.out.k5;clear CH z0 z1 hW0 hW1 hb4 hb5;go_wp2_with fail;refine(CR.out _ HZ).mono ?_;rintro e w2 ⟨rfl,HZ2⟩;clear CR y0 y1 HZ;obtain⟨W3,hW3⟩:=xj (w2.alloc (.cells #[uw 0,ui 0,uw 0,ui 0,su,sy] 242));have HZ3:Hid (Rz B p pm hb t m w b4 b5 c n mp ml W3):=by rw[<-hW3];exact HZ2.out.on (al _)
   have hx3:W3.heap[w2.heap.size]?=some (.cells #[uw 0,ui 0,uw 0,ui 0,su,sy] 242 (0,0)):=by rw[<-hW3];exact heap_alloc_new w2 _
   have HRt:Hid _:=rt_new tm HZ2.out hW3;have q0:=HQ.out w2 HZ2.out.tx;have q1:=HQ.out w2.drew (HZ2.out.tx.on ((Below.refl _ _).drew));have q2:=HQ.out W3 HZ3.out.tx;have q3:=HQ.out W3.drew (HZ3.out.tx.on ((Below.refl _ _).drew));obtain⟨u0,u1⟩:=bk2 HZ2.out.k4;obtain⟨v0,v1⟩:=bk2 HZ3.out.k4;have s0:ce W3 w2.heap.size 0 (uw 0):=block_cell hx3 rfl;have s1:ce W3 w2.heap.size 1 (ui 0):=block_cell hx3 rfl;have s2:ce W3 w2.heap.size 2 (uw 0):=block_cell hx3 rfl;have s3:ce W3 w2.heap.size 3 (ui 0):=block_cell hx3 rfl;have s4:ce W3 w2.heap.size 4 su:=block_cell hx3 rfl;have s5:ce W3 w2.heap.size 5 sy:=block_cell hx3 rfl;have sf0:W3.frozen? ⟨w2.heap.size,0,none⟩=false:=block_frozen hx3 0;have sf1:W3.frozen? ⟨w2.heap.size,1,none⟩=false:=block_frozen hx3 1;have sf2:W3.frozen? ⟨w2.heap.size,2,none⟩=false:=block_frozen hx3 2;have sf3:W3.frozen? ⟨w2.heap.size,3,none⟩=false:=block_frozen hx3 3;have sf4:W3.frozen? ⟨w2.heap.size,4,none⟩=false:=block_frozen hx3 4;have sf5:W3.frozen? ⟨w2.heap.size,5,none⟩=false:=block_frozen hx3 5;have d1:=HZ2.out.tx.cells.2;have d2:=HZ3.out.tx.cells.2;clear hx3 HQ HZ2 HZ3;obtain⟨bt,hbt⟩:=xj w2.heap.size;rw[hbt]at HRt s0 sf0 s1 sf1 s2 sf2 s3 sf3 s4 sf4 s5 sf5;go_wp2_with fail;go_region;obtain⟨W4,hW4⟩:=xj ((((((W3.setCell ⟨bt,0,none⟩ (uw tm.sp)).setCell ⟨bt,1,none⟩ (ui tm.sl)).setCell ⟨bt,2,none⟩ (uw tm.mp)).setCell ⟨bt,3,none⟩ (ui tm.ml)).setCell ⟨bt,4,none⟩ (sd tm.prim)).setCell ⟨bt,5,none⟩ (.slice tm.sv.1 tm.sv.2.1 tm.sv.2.2)).drew;rw[hW4]at HRt|-;clear hW4 hW3 hbt d1 d2 q0 q1 q2 q3 u0 u1 v0 v1 s0 sf0 s1 sf1 s2 sf2 s3 sf3 s4 sf4 s5 sf5;have s2:ce W4 bt 2 (uw tm.mp):=block_cell HRt.out.bx rfl;have s3:ce W4 bt 3 (ui tm.ml):=block_cell HRt.out.bx rfl;obtain⟨y0,y1⟩:=bk2 HRt.out.rz.k5;obtain⟨W5,hW5⟩:=xj (W4.alloc (.cells #[uw tm.mp,ui tm.ml,uw mp,ui ml] 28));have HR5:Hid (Rt B p pm hb t m w b4 b5 bt c n mp ml tm W5):=by rw[<-hW5];exact HRt.out.on (al _)
   have hx5:W5.heap[W4.heap.size]?=some (.cells #[uw tm.mp,ui tm.ml,uw mp,ui ml] 28 (0,0)):=by rw[<-hW5];exact heap_alloc_new W4 _
   have CX:Hid (1=1->_):=fun _=>CM.out W4.heap.size W5 bt (gsz hx5) HR5 hx5;clear hx5 CM HRt HR5;go_wp2_with fail;refine(CX.out (by trivial)).mono ?_;rintro e w6 ⟨rfl,HR6⟩;have x2:ce w6 bt 2 (uw tm.mp):=block_cell HR6.out.bx rfl;have x3:ce w6 bt 3 (ui tm.ml):=block_cell HR6.out.bx rfl;have f2:=block_frozen HR6.out.bx 2;have f3:=block_frozen HR6.out.bx 3;have HR7:Hid _:=HR6.out.put a1 a2;obtain⟨W7,hW7⟩:=xj ((w6.setCell ⟨bt,2,none⟩ (uw a1)).setCell ⟨bt,3,none⟩ (ui a2));rw[hW7]at HR7;obtain⟨w8,hrun,HEnd⟩:=HU.out bt W7.drew (HR7.out.on (Below.refl _ _).drew);have zt0:=bk6 HR7.out.bx;obtain⟨u0,u1⟩:=bk2 HR7.out.rz.k4;have d1:=HR7.out.rz.tx.cells.2;clear CX s2 s3 y0 y1 hW5 HR6 HR7 HU;go_wp2_with fail;go_region;go_wp2_with fail;go_ret;exact⟨rfl,HEnd.out⟩
end Go.Proofs.YtdplfgcoaddbdaaGreat.Lat
