import Derived.Lib.AppendZerosOnto
import Derived.Test.YtkdkgdollmmcnaaGreatWar
set_option maxHeartbeats 4000000
set_option maxRecDepth 100000
set_option linter.unusedVariables false
set_option linter.unusedSimpArgs false
namespace Go.Proofs.YtkdkgdollmmcnaaGreat
open Go.RowKit Go.Sort
theorem info38 : (Tryz.prog.info? 38).map (fun i => (i.zero, i.size, i.bytes)) = some (some (.agg #[.int .u32 0, .int .u32 0]), 2, 8) := by kernel_rfl
def TOwn (base : Nat) (v : Value) (L : List Tn) (w : World) : Prop := w.ownsRow base 38 2 v L.length (rowC tnc L)
def TAt (B : Nat) (v : Value) (L : List Tn) (w : World) : Prop := RwAt B 2 v L.length (rowC tnc L) w
theorem below_grown_tx {base : Nat} {v : Value} {L : List Tn} {a w w' : World} (hb : Below base a w) (hs : base ≤ w.heap.size) (hI : TOwn base v L w) (hg : w.grownBy w' v.ownBlock) : Below base a w' :=
 hb.grown hg hs fun k hk => (World.ownsRow.lt hI k hk).1
theorem wpList_append_tx {ops : Array Oper} {rest : List Oper} {o : Oper} {a : Act} {Q : Exit → Act → World → Prop} {w : World} (hw : Region.wanted o (yielded ops a.tmps) = true) (s x : Operand) (ho : o.op = .call { callee := .builtin .append, args := #[s, x], argTypes := #[51, 51] })
  (base B : Nat) (L X : List Tn) (v vx : Value) (hs : a.eval s = v) (hx : a.eval x = vx) (hI : TOwn base v L w) (hX : TAt B vx X w) (hB : base ≤ w.heap.size) (hl : L.length + X.length ≤ 1048576)
  (h : ∀ v' w', TOwn base v' (L ++ X) w' → w.grownBy w' v.ownBlock → wpList Tryz.prog ops Q rest (a.put o.dst v') w') : wpList Tryz.prog ops Q (o :: rest) a w := by
 obtain ⟨i0, hin0, hi0, hi1, hi2⟩ := info_parts info38
 refine wpList_append_rw (H := ⟨hI, hX, rowC_cells tnc tnc_one _, hB, hl⟩) Tryz.underlying51 hin0 hi0 hi1 hi2 rfl (by decide) (by decide) s x ho hw hs hx ?_
 intro v' w' h1 h2 _
 refine h v' w' ?_ h2
 unfold TOwn
 rw [rowC_append, List.length_append]
 exact h1
theorem grow170 (n : Nat) (w : World) (hn : n ≤ 1048576) :
  Calls Tryz.prog 170 #[sy, iw n] w fun e w' => ∃ v', e = .returned v' ∧ TOwn w.heap.size v' [] w' ∧ Below w.heap.size w w' := by
 obtain ⟨i0, hi, hz0, hz1, hz2⟩ := info_parts info38
 by_cases h0 : n = 0
 ·subst h0
  go_enter Tryz.func170, Tryz.ntmps170
  go_wp2
  go_ret
  exact ⟨_, rfl, own_nil _ _ _ _, Below.refl _ _⟩
 ·have hrz := fun ty => Lib.run_append_grow_zeros (P := Tryz.prog) w 51 3 ty 38 i0 _ .i64 .i64 Tryz.underlying51 Tryz.underlying3 hi hz0 none 0 0 [] (run_firstCells_none w.drew i0.size 0 0 0) n (by omega) (by rw [hz1]; decide) (by omega) (by omega) (by rw [hz2]; omega) (by rw [hz2]; exact growslice_fits (by omega) (by omega))
  have hG := grownCap_ge w (0 + n) 0 38
  have hG2 := grownCap_le_maxLen w (0 + n) 0 38 (by unfold maxLen; omega)
  simp only [Nat.zero_add] at hrz hG hG2
  obtain ⟨G, hGe⟩ := xj (grownCap w n 0 38)
  rw [hGe] at hrz hG hG2
  obtain ⟨cur, hcur⟩ : ∃ cur, cur = (([] : List Value).toArray ++ Builtin.zeroCells (Value.agg #[.int .u32 0, .int .u32 0]).cells n ++ Builtin.zeroCells (Value.agg #[.int .u32 0, .int .u32 0]).cells (G - n)) := ⟨_, rfl⟩
  rw [← hcur] at hrz
  have HS : Hid (cur.size = G * 2) := by
   show _ = _
   rw [hcur]
   simp only [Array.size_append, List.size_toArray, size_zeroCells, List.length_nil]
   show 0 + n * 2 + (G - n) * 2 = G * 2
   omega
  have HG : Hid (G ≤ maxLen) := hG2
  have h1 : ¬ ((n : Int) < 0) := by omega
  have h2 : (0 : Int) < n := by omega
  clear hcur hGe hi hz0 hz1 hz2 hG2
  go_enter Tryz.func170, Tryz.ntmps170
  go_wp2_with (at_builtin; refine Lib.wpList_append_run _ rfl _ _ _ _ rfl _ _ rfl rfl _ _ (hrz _) ?_)
  go_ret
  refine ⟨_, rfl, ⟨by simp [rowC], .inr ⟨w.heap.size, G, cur, rfl, Nat.le_refl _, heap_alloc_new w.drew _, Nat.zero_le _, HG.out, HS.out, by simp [rowC]⟩⟩, ?_⟩
  exact ⟨rfl, rfl, rfl, by simp, fun k hk => heap_alloc_old w.drew _ hk⟩
def dz : Value × List Tn := (sy, [])
def cat : List (Value × List Tn) → List Tn
 | [] => []
 | x :: r => x.2 ++ cat r
theorem cat_snoc (l : List (Value × List Tn)) (x : Value × List Tn) : cat (l ++ [x]) = cat l ++ x.2 := by
 induction l with
 | nil => simp [cat]
 | cons a l ih => simp [cat, ih]
theorem cat_take {LS : List (Value × List Tn)} {k : Nat} (h : k < LS.length) : cat (LS.take (k + 1)) = cat (LS.take k) ++ (LS.getD k dz).2 := by
 rw [List.take_succ_eq_append_getElem h, cat_snoc]
 simp [List.getD, h]
theorem cat_le (LS : List (Value × List Tn)) (k : Nat) : (cat (LS.take k)).length ≤ (cat LS).length := by
 induction LS generalizing k with
 | nil => simp [cat]
 | cons a l ih =>
  cases k with
  | zero => simp [cat]
  | succ k =>
   have := ih k
   simp only [List.take_succ_cons, cat, List.length_append]
   omega
theorem concat163 (B sb : Nat) (LS : List (Value × List Tn)) (w : World) (hc : ∀ k, k < LS.length → w.cell? ⟨sb, k, none⟩ = some (LS.getD k dz).1) (hv : ∀ k, k < LS.length → TAt B (LS.getD k dz).1 (LS.getD k dz).2 w)
  (hsb : sb < w.heap.size) (hB : B ≤ w.heap.size) (hl : (cat LS).length ≤ 1048576) (hn : LS.length ≤ 1000) :
  Calls Tryz.prog 163 #[.slice (some ⟨sb, 0, none⟩) LS.length LS.length] w fun e w' => ∃ v', e = .returned v' ∧ TOwn w.heap.size v' (cat LS) w' ∧ Below w.heap.size w w' := by
 have HC : Hid _ := hc
 have HV : Hid _ := hv
 have HSb : Hid _ := hsb
 have HB : Hid _ := hB
 have HL : Hid _ := hl
 clear hc hv hsb hB hl
 go_enter Tryz.func163, Tryz.ntmps163
 go_wp2_with fail
 go_loopw [3, 11] (fun s i wr => ∃ k : Nat, k ≤ LS.length ∧ i = iw k ∧ s = iw (cat (LS.take k)).length ∧ w = wr) (fun _ i _ => LS.length - (intOf i).toNat)
 case atStart => exact ⟨0, Nat.zero_le _, rfl, by simp [cat], rfl⟩
 case round =>
  obtain ⟨k, hk, rfl, rfl, rfl⟩ := hrel
  by_cases hkl : k < LS.length
  ·have c0 := HC.out k hkl
   obtain ⟨ao, cap, hvk, -, hlc, hcm, -⟩ := HV.out k hkl
   rw [hvk] at c0
   clear hvk
   have HT : Hid _ := cat_take hkl
   have hle : (cat (LS.take k)).length ≤ 1048576 := Nat.le_trans (cat_le LS k) HL.out
   have hle2 : (cat (LS.take k)).length + (LS.getD k dz).2.length ≤ 1048576 := by
    have h1 := cat_le LS (k + 1)
    rw [HT.out, List.length_append] at h1
    exact Nat.le_trans h1 HL.out
   have HT2 : Hid ((cat (LS.take (k + 1))).length = (cat (LS.take k)).length + (LS.getD k dz).2.length) := by rw [HT.out]; show _ = _; simp
   clear HT
   generalize (LS.getD k dz).2.length = m at *
   generalize (cat (LS.take k)).length = t at *
   have hkl' : (k : Int) < LS.length := by omega
   have hadd : IntKind.i64.wrap ((t : Int) + m) = ((t + m : Nat) : Int) := by simp [IntKind.wrap, IntKind.signed, IntKind.bits]; omega
   have hnn : ¬ (((t + m : Nat) : Int) < 0) := by omega
   go_wp2_with fail
   go_roundw
   case rel => exact ⟨k + 1, by omega, by go_num, by rw [HT2.out]; go_num, by trivial⟩
   case measure => simp [intOf]; omega
  ·have hkl' : ¬ (k : Int) < LS.length := by omega
   have HK : Hid (cat (LS.take k) = cat LS) := by rw [List.take_of_length_le (by omega)]; exact rfl
   rw [HK.out]
   clear HK
   go_wp2_with fail
   refine (grow170 _ _ HL.out).mono ?_
   rintro e w1 ⟨v1, rfl, ho1, hb1⟩
   have HO : Hid _ := ho1
   have H1 : Hid _ := hb1
   clear ho1 hb1
   go_wp2_with fail
   go_loopw [6, 27] (fun s i wr => ∃ k : Nat, k ≤ LS.length ∧ i = iw k ∧ TOwn w.heap.size s (cat (LS.take k)) wr ∧ Below w.heap.size w wr) (fun _ i _ => LS.length - (intOf i).toNat)
   case atStart => exact ⟨0, Nat.zero_le _, rfl, HO.out, H1.out⟩
   case round =>
    obtain ⟨k, hk, rfl, hown, hbr⟩ := hrel
    have HOk : Hid _ := hown
    have HBr : Hid _ := hbr
    clear hown hbr
    by_cases hkl : k < LS.length
    ·have c0 : wr.cell? ⟨sb, k, none⟩ = some (LS.getD k dz).1 := by rw [HBr.out.cell (p := ⟨_, _, none⟩) HSb.out]; exact HC.out k hkl
     have HVk : Hid (TAt w.heap.size (LS.getD k dz).1 (LS.getD k dz).2 wr) := RwAt.on (RwAt.le (HV.out k hkl) HB.out) HBr.out
     have HT : Hid _ := cat_take hkl
     have HLe : Hid ((cat (LS.take k)).length + (LS.getD k dz).2.length ≤ 1048576) := by
      have h1 := cat_le LS (k + 1)
      rw [HT.out, List.length_append] at h1
      exact Nat.le_trans h1 HL.out
     generalize (LS.getD k dz).1 = vk at *
     generalize (LS.getD k dz).2 = Xk at *
     have hkl' : (k : Int) < LS.length := by omega
     go_wp2_with (at_builtin; refine wpList_append_tx rfl _ _ rfl w.heap.size w.heap.size (cat (LS.take k)) Xk _ _ rfl rfl HOk.out HVk.out HBr.out.size HLe.out ?_)
     intro v' w2 hown hg
     have HO2 : Hid (TOwn w.heap.size v' (cat (LS.take (k + 1))) w2) := by rw [HT.out]; exact hown
     have HB2 : Hid (Below w.heap.size w w2) := below_grown_tx HBr.out HBr.out.size HOk.out hg
     clear hown hg
     go_wp2_with fail
     go_roundw
     case rel => exact ⟨k + 1, by omega, by go_num, HO2.out, HB2.out⟩
     case measure => simp [intOf]; omega
    ·have hkl' : ¬ (k : Int) < LS.length := by omega
     go_wp2
     go_ret
     have hf := HOk.out
     rw [List.take_of_length_le (by omega)] at hf
     exact ⟨_, rfl, hf, HBr.out⟩
open Go.RowKit Go.Sort Go.Shelf
variable {M M' G N : Nat → Prop} {W W' w : World} {f f' : Fo} {X X' : Ss}
theorem nm_swap {a b : Bo} {k : Nat} (h : Nm N [a, b] k) : Nm N [b, a] k := h.elim .inl (fun ⟨p, hp, e⟩ => .inr ⟨p, by simp only [List.mem_cons, List.not_mem_nil, or_false] at hp ⊢; exact hp.symm, e⟩)
theorem Cx.swapm {Lo : List Bo} {a b : Bo} (h : Cx M N w f X Lo [a, b] W) : Cx M N w f X Lo [b, a] W :=
 ⟨h.sc.less (fun _ e => nm_swap e), h.sub, h.kp, fun p hp => ⟨(h.has p hp).1, (h.has p hp).2.1, fun e => (h.has p hp).2.2 (nm_swap e)⟩, fun p hp => h.hasm p (by simp only [List.mem_cons, List.not_mem_nil, or_false] at hp ⊢; exact hp.symm), h.nl⟩
theorem pass150a (u : Un f N X 9 w) (ho : X.op.k ≠ 0) (n : Nat) (q : Rq) (t : Tn) (vw : Value) (sa : Option Addr) (sc : Nat) (fn : Fn) (fi cp qc : Array Value) (hqc : qc = (rqc q vw (.slice sa q.sk.length sc)).toArray) (h3 : q.k = 3) :
  Calls Tryz.prog 150 #[pz f.sb, iw (n : Int), .agg qc, .agg #[uu t.c, uu t.n], .func fn fi cp] w (Got f N X w (stopR X 40).1 (stopR X 40).2) := by
 obtain ⟨W1, hW1⟩ := xj (((w.alloc (.cells qc 53)).alloc (.cells #[uu t.c, uu t.n] 38)).alloc (.cells RZ 41))
 have X0 : Hid (Cx (f.In X.act) N w f X [(w.heap.size + 1, #[uu t.c, uu t.n], 38)] [(w.heap.size + 2, RZ, 41), (w.heap.size, qc, 53)] W1) := by
  have h0 := (((Cx.start (Lo := []) u.sc u.nk nb).newm qc 53).new #[uu t.c, uu t.n] 38).newm RZ 41
  simp only [size_al] at h0
  rw [hW1] at h0
  exact h0
 obtain ⟨sf, hsf, ent, hcs⟩ := stop_fn f.sb X ho
 have HC := gh (hcs f _ W1 40 rfl ((u.of X0.out).le (by decide))) (X0.out.less (Lo' := []) nb)
 have bq : W1.heap[w.heap.size]? = some (.cells (rqc q vw (.slice sa q.sk.length sc)).toArray 53 (0, 0)) := by rw [← hqc]; exact X0.out.bm (by simp)
 have p7 : W1.cell? ⟨f.sb, 7, none⟩ = some (.func (.func sf) #[pz f.sb] #[]) := block_cell X0.out.sc.blk (by rw [← hsf]; rfl)
 have q0 : W1.cell? ⟨w.heap.size, 0, none⟩ = some (iw q.k) := block_cell bq rfl
 have q12 : W1.cell? ⟨w.heap.size, 12, none⟩ = some (.slice sa q.sk.length sc) := block_cell bq rfl
 have h3b : (q.k == 3) = true := by rw [h3]; rfl
 clear h3
 clear u X0 hcs hsf hqc bq
 go_enter Tryz.func150, Tryz.ntmps150
 go_wp2_with fail
 refine (HC.out (by trivial)).mono ?_
 clear p7 q0 q12 hW1
 rintro e w2 ⟨rfl, f', x2, hsb, hbd⟩
 have X2 : Hid _ := x2
 have HF : Hid _ := And.intro hsb hbd
 clear x2 hsb hbd HC
 unfold rsV
 go_wp2_with (refine sr X2.out ?_)
 refine bj X2.out ?_
 exact ⟨rfl, _, (X2.out.poke (setRow_kept _ _ _) (setRow_at (X2.out.bm mc)) (fun p hp => by rw [List.mem_singleton] at hp; subst hp; show w.heap.size ≠ w.heap.size + 2; omega)).to, HF.out.1, HF.out.2⟩
theorem pass150b (u : Un f N X 9 w) (ho : X.op.k ≠ 0) (n : Nat) (q : Rq) (t : Tn) (vw : Value) (sa : Option Addr) (sc : Nat) (fn : Fn) (fi cp qc : Array Value) (hqc : qc = (rqc q vw (.slice sa q.sk.length sc)).toArray) (h3 : q.k ≠ 3) (h16 : 16 ≤ q.sk.length) :
  Calls Tryz.prog 150 #[pz f.sb, iw (n : Int), .agg qc, .agg #[uu t.c, uu t.n], .func fn fi cp] w (Got f N X w (stopR X 3).1 (stopR X 3).2) := by
 obtain ⟨W1, hW1⟩ := xj (((w.alloc (.cells qc 53)).alloc (.cells #[uu t.c, uu t.n] 38)).alloc (.cells RZ 41))
 have X0 : Hid (Cx (f.In X.act) N w f X [(w.heap.size + 1, #[uu t.c, uu t.n], 38)] [(w.heap.size + 2, RZ, 41), (w.heap.size, qc, 53)] W1) := by
  have h0 := (((Cx.start (Lo := []) u.sc u.nk nb).newm qc 53).new #[uu t.c, uu t.n] 38).newm RZ 41
  simp only [size_al] at h0
  rw [hW1] at h0
  exact h0
 obtain ⟨sf, hsf, ent, hcs⟩ := stop_fn f.sb X ho
 have HC := gh (hcs f _ W1 3 rfl ((u.of X0.out).le (by decide))) (X0.out.less (Lo' := []) nb)
 have bq : W1.heap[w.heap.size]? = some (.cells (rqc q vw (.slice sa q.sk.length sc)).toArray 53 (0, 0)) := by rw [← hqc]; exact X0.out.bm (by simp)
 have p7 : W1.cell? ⟨f.sb, 7, none⟩ = some (.func (.func sf) #[pz f.sb] #[]) := block_cell X0.out.sc.blk (by rw [← hsf]; rfl)
 have q0 : W1.cell? ⟨w.heap.size, 0, none⟩ = some (iw q.k) := block_cell bq rfl
 have q12 : W1.cell? ⟨w.heap.size, 12, none⟩ = some (.slice sa q.sk.length sc) := block_cell bq rfl
 have h3b : (q.k == 3) = false := by simp [h3]
 have h16b : (16 : Int) ≤ (q.sk.length : Int) := by omega
 clear h3 h16
 clear u X0 hcs hsf hqc bq
 go_enter Tryz.func150, Tryz.ntmps150
 go_wp2_with fail
 refine (HC.out (by trivial)).mono ?_
 clear p7 q0 q12 hW1
 rintro e w2 ⟨rfl, f', x2, hsb, hbd⟩
 have X2 : Hid _ := x2
 have HF : Hid _ := And.intro hsb hbd
 clear x2 hsb hbd HC
 unfold rsV
 go_wp2_with (refine sr X2.out ?_)
 refine bj X2.out ?_
 exact ⟨rfl, _, (X2.out.poke (setRow_kept _ _ _) (setRow_at (X2.out.bm mc)) (fun p hp => by rw [List.mem_singleton] at hp; subst hp; show w.heap.size ≠ w.heap.size + 2; omega)).to, HF.out.1, HF.out.2⟩
theorem pass150c (u : Un f N X 9 w) (n : Nat) (hn : n < 4294967296) (q : Rq) (t : Tn) (vw : Value) (sa : Option Addr) (sc : Nat) (o1 : vw.oneCell' = true) (fn : Fn) (fi cp qc : Array Value) (hqc : qc = (rqc q vw (.slice sa q.sk.length sc)).toArray) (hq : QF (f.Ex N X.act) q vw (.slice sa q.sk.length sc) w) (hd : DoAt (f.Ex N X.act) f w q.k (.func fn fi cp)) (hk : q.k ≤ 3) (h3 : q.k ≠ 3) (h16 : ¬ 16 ≤ q.sk.length) :
  Calls Tryz.prog 150 #[pz f.sb, iw (n : Int), .agg qc, .agg #[uu t.c, uu t.n], .func fn fi cp] w (Got f N X w (askF X (akF n { q with sk := q.sk ++ [t] })) zS) := by
 obtain ⟨W1, hW1⟩ := xj (((w.alloc (.cells qc 53)).alloc (.cells #[uu t.c, uu t.n] 38)).alloc (.cells RZ 41))
 have X0 : Hid (Cx (f.In X.act) N w f X [(w.heap.size + 1, #[uu t.c, uu t.n], 38)] [(w.heap.size + 2, RZ, 41), (w.heap.size, qc, 53)] W1) := by
  have h0 := (((Cx.start (Lo := []) u.sc u.nk nb).newm qc 53).new #[uu t.c, uu t.n] 38).newm RZ 41
  simp only [size_al] at h0
  rw [hW1] at h0
  exact h0
 have bq : W1.heap[w.heap.size]? = some (.cells (rqc q vw (.slice sa q.sk.length sc)).toArray 53 (0, 0)) := by rw [← hqc]; exact X0.out.bm (by simp)
 have q0 : W1.cell? ⟨w.heap.size, 0, none⟩ = some (iw q.k) := block_cell bq rfl
 have q12 : W1.cell? ⟨w.heap.size, 12, none⟩ = some (.slice sa q.sk.length sc) := block_cell bq rfl
 have t0 : W1.cell? ⟨w.heap.size + 1, 0, none⟩ = some (uu t.c) := X0.out.bc
 have t1 : W1.cell? ⟨w.heap.size + 1, 1, none⟩ = some (uu t.n) := X0.out.bc
 have h3b : (q.k == 3) = false := by simp [h3]
 have h16b : ¬ (16 : Int) ≤ (q.sk.length : Int) := by omega
 obtain ⟨W3, hW3⟩ := xj ((W1.alloc (.cells #[uu t.c, uu t.n] 38)).alloc (.cells #[.slice sa q.sk.length sc, .slice (some ⟨W1.heap.size, 0, none⟩) 1 1] 51))
 have b3 : Below W1.heap.size W1 W3 := by rw [← hW3]; exact (al _).trans ((al _).mono (al _).size)
 have X3 : Hid (Cx (f.In X.act) N w f X [(w.heap.size + 1, #[uu t.c, uu t.n], 38)] [(w.heap.size + 2, RZ, 41), (w.heap.size, qc, 53)] W3) := X0.out.on b3
 have HST : Hid (Stay (f.In X.act) (f.Ex N X.act) (f.Ex (Nm N [(w.heap.size + 2, RZ, 41), (w.heap.size, qc, 53)]) X.act) w W3) := X3.out.stay0
 have CC : Hid (1 = 1 → Calls Tryz.prog 163 #[.slice (some ⟨W1.heap.size + 1, 0, none⟩) 2 2] W3 fun e w' => ∃ v', e = .returned v' ∧ w'.ownsRow W3.heap.size 38 2 v' (q.sk ++ [t]).length (rowC tnc (q.sk ++ [t])) ∧ Below W3.heap.size W3 w') := fun _ => by
  have hx : W3.heap[W1.heap.size + 1]? = some (.cells #[.slice sa q.sk.length sc, .slice (some ⟨W1.heap.size, 0, none⟩) 1 1] 51 (0, 0)) := by
   rw [← hW3, ← size_al W1 (.cells #[uu t.c, uu t.n] 38)]
   exact heap_alloc_new _ _
  have hx0 : W3.heap[W1.heap.size]? = some (.cells #[uu t.c, uu t.n] 38 (0, 0)) := by
   rw [← hW3]
   exact two_new1 _ _ _
  have hr0 : TAt W3.heap.size (.slice sa q.sk.length sc) q.sk W3 := (hq.stay HST.out).sk.rw (by decide)
  have hr1 : TAt W3.heap.size (.slice (some ⟨W1.heap.size, 0, none⟩) 1 1) [t] W3 := by
   refine ⟨_, 1, rfl, rfl, Nat.le_refl _, by omega, fun _ => ⟨_, 0, rfl, fun _ => lt_blk hx0, fun j u hj => ?_⟩⟩
   rw [Nat.zero_add]
   exact block_cell hx0 (by simpa [rowC, tnc] using hj)
  have c := concat163 W3.heap.size (W1.heap.size + 1) [(.slice sa q.sk.length sc, q.sk), (.slice (some ⟨W1.heap.size, 0, none⟩) 1 1, [t])] W3 (fun k hk => by
   rcases (show k = 0 ∨ k = 1 by simp at hk; omega) with rfl | rfl
   ·exact block_cell hx rfl
   ·exact block_cell hx rfl) (fun k hk => by
   rcases (show k = 0 ∨ k = 1 by simp at hk; omega) with rfl | rfl
   ·exact hr0
   ·exact hr1) (lt_blk hx) (Nat.le_refl _) (by simp [cat]; omega) (by simp)
  have e : cat [((Value.slice sa q.sk.length sc), q.sk), (.slice (some ⟨W1.heap.size, 0, none⟩) 1 1, [t])] = q.sk ++ [t] := by simp [cat]
  rw [e] at c
  exact c
 have HQ : Hid (qc = (rqc q vw (.slice sa q.sk.length sc)).toArray ∧ QF (f.Ex N X.act) q vw (.slice sa q.sk.length sc) w ∧ DoAt (f.Ex N X.act) f w q.k (.func fn fi cp)) := ⟨hqc, hq, hd⟩
 have HU : Hid (Un f N X 9 w) := u
 clear u hqc hq hd bq X0 b3 h3 h16
 go_enter Tryz.func150, Tryz.ntmps150
 go_wp2_with fail
 refine (CC.out (by trivial)).mono ?_
 rintro e w4 ⟨v4, rfl, ho4, hb4⟩
 obtain ⟨s4, c4, rfl, -⟩ := rw_own ho4
 have X4 : Hid (Cx (f.In X.act) N w f X [(w.heap.size + 1, #[uu t.c, uu t.n], 38)] [(w.heap.size, qc, 53), (w.heap.size + 2, RZ, 41)] w4) := (X3.out.on hb4).swapm
 have bq4 : w4.heap[w.heap.size]? = some (.cells (rqc q vw (.slice sa q.sk.length sc)).toArray 53 (0, 0)) := by rw [← HQ.out.1]; exact X4.out.bm (by simp)
 have z12 : w4.cell? ⟨w.heap.size, 12, none⟩ = some (.slice sa q.sk.length sc) := block_cell bq4 rfl
 have g12 : w4.frozen? ⟨w.heap.size, 12, none⟩ = false := block_frozen bq4 12
 have k5 := set_kept' w4 w.heap.size 12 (.slice s4 (q.sk ++ [t]).length c4)
 have bq5 : (w4.setCell ⟨w.heap.size, 12, none⟩ (.slice s4 (q.sk ++ [t]).length c4)).heap[w.heap.size]? = some (.cells (rqc { q with sk := q.sk ++ [t] } vw (.slice s4 (q.sk ++ [t]).length c4)).toArray 53 (0, 0)) := by
  rw [block_set _ bq4]
  rfl
 have X5 : Hid (Cx (f.In X.act) N w f X [(w.heap.size + 1, #[uu t.c, uu t.n], 38)] [(w.heap.size, (rqc { q with sk := q.sk ++ [t] } vw (.slice s4 (q.sk ++ [t]).length c4)).toArray, 53), (w.heap.size + 2, RZ, 41)] (w4.setCell ⟨w.heap.size, 12, none⟩ (.slice s4 (q.sk ++ [t]).length c4))) := X4.out.poke k5 bq5 (fun p hp => by rw [List.mem_singleton] at hp; subst hp; show w.heap.size + 2 ≠ w.heap.size; omega)
 obtain ⟨W5, hW5⟩ := xj (w4.setCell ⟨w.heap.size, 12, none⟩ (.slice s4 (q.sk ++ [t]).length c4))
 rw [hW5] at X5 k5 bq5
 have HR5 : Hid (W5.ownsRow W3.heap.size 38 2 (.slice s4 (q.sk ++ [t]).length c4) (q.sk ++ [t]).length (rowC tnc (q.sk ++ [t]))) := own_kept ho4 k5 fun k hv e => by
  subst e
  have := (World.ownsRow.lt ho4 _ hv).1
  have h0 := lt_blk (X3.out.bm (b := w.heap.size) (cs := qc) (ty := 53) (by simp))
  omega
 have CT : Hid (1 = 1 → Calls Tryz.prog 80 #[pz f.sb, iw (n : Int), .agg (rqc { q with sk := q.sk ++ [t] } vw (.slice s4 (q.sk ++ [t]).length c4)).toArray, .func fn fi cp] W5 fun e w' => ∃ fv, Asked f _ X W5 (akF n { q with sk := q.sk ++ [t] }) vw (.slice s4 (q.sk ++ [t]).length c4) fv e w') := fun _ =>
  try80 X5.out.sc (fun k hk => X5.out.lt hk) HU.out.rm.room n { q with sk := q.sk ++ [t] } vw (.slice s4 (q.sk ++ [t]).length c4) o1 rfl fn fi cp _ rfl hn ⟨(HQ.out.2.1.stay X5.out.stay0).ws, RwF.own HR5.out (fun k hk => by
   rcases hk with hk | hk
   ·rcases hk with hk | ⟨p, hp, rfl⟩
    ·exact Nat.lt_of_lt_of_le (X3.out.nl k hk).1 X3.out.kp.size
    ·have h0 := lt_blk (X3.out.bm (b := w.heap.size + 2) (cs := RZ) (ty := 41) (by simp))
     simp only [List.mem_cons, List.not_mem_nil, or_false] at hp
     rcases hp with rfl | rfl
     ·show w.heap.size < _
      omega
     ·exact h0
   ·exact X3.out.sc.lt hk)⟩ hk (HQ.out.2.2.stay X5.out.stay0 (SameF.refl f))
 have HB : Hid (Bd f X) := HU.out.bd
 have HBQ : Hid _ := bq5
 have HEN : Hid ((q.sk ++ [t]).length = q.sk.length + 1) := by show _ = _; simp
 generalize (q.sk ++ [t]).length = ln at *
 clear X4 X3 HR5 ho4 hb4 bq4 k5 CC HST HU HQ bq5 hW3 hW1 q0 q12 t0 t1 h3b h16b
 go_wp2_with (refine wpList_load_row rfl 53 _ rfl w.heap.size rfl 53 _ (0, 0) _ HBQ.out Tryz.underlying53 rfl (by kernel_rfl) ?_)
 refine (CT.out (by trivial)).mono ?_
 rintro e w6 ⟨fv, rfl, va, vo, ht⟩
 have X6 : Hid _ := ((X5.out.less (Lo' := []) nb).next ht).swapm
 clear ht CT X5 HBQ hW5 z12 g12
 have hr := rsc_all zS sy rfl
 go_wp2_with (refine wpList_store_row rfl 41 _ _ rfl (w.heap.size + 2) (rsc zS sy).toArray rfl rfl 41 _ (X6.out.bm mc) (by kernel_rfl) rfl hr ?_)
 refine bj X6.out ?_
 exact ⟨rfl, _, (X6.out.poke (setRow_kept _ _ _) (setRow_at (X6.out.bm mc)) (fun p hp => by rw [List.mem_singleton] at hp; subst hp; show w.heap.size ≠ w.heap.size + 2; omega)).to, rfl, HB.out.ask rfl⟩
theorem Bq.of {a b c d n : Nat} {q : Rq} (h : Bq M f W a b c d n q) : ∃ vw vs dv, Fx M W a #[pz f.sb] 24 ∧ Fx M W b #[iw (n : Int)] 3 ∧ Fx M W c (rqc q vw vs).toArray 53 ∧ QF M q vw vs W ∧ Fx M W d #[dv] 97 ∧ DoAt M f W q.k dv := by
 obtain ⟨h1, h2, ⟨vw, vs, h3, h4⟩, dv, h5, h6⟩ := h
 exact ⟨vw, vs, dv, h1, h2, h3, h4, h5, h6⟩
theorem DoAt.func {k : Int} {dv : Value} (h : DoAt M f W k dv) (hk : 1 ≤ k ∧ k ≤ 3) : ∃ fn fi cp, dv = .func fn fi cp := by
 obtain ⟨b, -, h1, h2, h3⟩ := h
 rcases (show k = 1 ∨ k = 2 ∨ k = 3 by omega) with e | e | e
 ·exact ⟨_, _, _, h1 e⟩
 ·exact ⟨_, _, _, h2 e⟩
 ·exact ⟨_, _, _, h3 e⟩
theorem RwF.shape {size n : Nat} {v : Value} {cs : List Value} (h : RwF M size v n cs W) : ∃ ao cap, v = .slice ao n cap := by
 obtain ⟨ao, cap, e, -⟩ := h
 exact ⟨ao, cap, e⟩
theorem unl162e (u : Un f N X 9 w) (ho : X.op.k ≠ 0) (hst : X.op.k = 6 → X.stg = 1) (bs' : Nat) (a1 a2 a3 : Value) (hb : Fx (f.Ex N X.act) w bs' #[pz f.sb] 24) (r : Rp) (vp : Value) (hr : r.k = 0) :
  Calls Tryz.prog 162 #[.agg (rpc r vp).toArray, pz bs', a1, a2, a3] w (Got f N X w (stopF bt X (wrongF r)).1 (stopF bt X (wrongF r)).2) := by
 rw [← stop_eq hst]
 obtain ⟨sf, hsf, ent, hcs⟩ := stop_fn f.sb X ho
 obtain ⟨W1, hW1⟩ := xj ((w.alloc (.cells (rpc r vp).toArray 49)).alloc (.cells RZ 41))
 have X0 : Hid (Cx (f.In X.act) N w f X [(w.heap.size, (rpc r vp).toArray, 49), (bs', #[pz f.sb], 24)] [(w.heap.size + 1, RZ, 41)] W1) := by
  have h0 := ((Cx.start (Lo := [(bs', #[pz f.sb], 24)]) u.sc u.nk (fun p e => by rw [List.mem_singleton] at e; subst e; exact hb)).new (rpc r vp).toArray 49).newm RZ 41
  simp only [size_al] at h0
  rw [hW1] at h0
  exact h0
 have k0 : W1.cell? ⟨w.heap.size, 0, none⟩ = some (iw r.k) := X0.out.bc
 have hr0 : (r.k == 0) = true := by rw [hr]; rfl
 have XD : Hid _ := X0.out.drew
 have HU : Hid (Un f N X 9 w) := u
 clear u hb hr X0 hst ho
 go_enter Tryz.func162, Tryz.ntmps162
 go_upto_region 2 with fail
 have SN : Hid (∀ (f2 : Fo) (X2 : Ss) W, Cx (f.In X.act) N w f2 X2 [(w.heap.size, (rpc r vp).toArray, 49), (bs', #[pz f.sb], 24)] [(w.heap.size + 1, RZ, 41)] W → W.cell? ⟨bs', 0, none⟩ = some (pz f.sb) ∧ W.rangeAt w.heap.size 0 (rpc r vp)) := fun f2 X2 W c => ⟨c.bc, range_box (n := 14) (c.bx (b := w.heap.size) (cs := (rpc r vp).toArray) (ty := 49) (by simp))⟩
 have C82 : Hid (∀ W, Cx (f.In X.act) N w f X [(w.heap.size, (rpc r vp).toArray, 49), (bs', #[pz f.sb], 24)] [(w.heap.size + 1, RZ, 41)] W → Calls Tryz.prog 82 #[.agg (rpc r vp).toArray] W fun e w' => e = .returned (iw (wrongF r)) ∧ Cx (f.In X.act) N w f X [(w.heap.size, (rpc r vp).toArray, 49), (bs', #[pz f.sb], 24)] [(w.heap.size + 1, RZ, 41)] w') := fun W c => (errorOf82 r vp W).mono fun e w' ⟨h1, h2⟩ => ⟨h1, c.on h2⟩
 have CS : Hid (∀ W, Cx (f.In X.act) N w f X [(w.heap.size, (rpc r vp).toArray, 49), (bs', #[pz f.sb], 24)] [(w.heap.size + 1, RZ, 41)] W → Calls Tryz.prog sf #[pz f.sb, iw (wrongF r)] W fun e w' => e = .returned (rsV (stopR X (wrongF r)).2) ∧ ∃ f', Cx (f.In X.act) N w f' (stopR X (wrongF r)).1 [(w.heap.size, (rpc r vp).toArray, 49), (bs', #[pz f.sb], 24)] [(w.heap.size + 1, RZ, 41)] w' ∧ f'.sb = f.sb ∧ Bd f' (stopR X (wrongF r)).1) := fun W c => (hcs f _ W (wrongF r) rfl ((HU.out.of c).le (by decide))).mono fun e w' g => Got.next (N0 := N) c g
 have S7 : Hid (∀ W, Cx (f.In X.act) N w f X [(w.heap.size, (rpc r vp).toArray, 49), (bs', #[pz f.sb], 24)] [(w.heap.size + 1, RZ, 41)] W → W.cell? ⟨f.sb, 7, none⟩ = some (.func (.func sf) #[pz f.sb] #[])) := fun W c => block_cell c.sc.blk (by rw [← hsf]; rfl)
 have p7 := S7.out _ XD.out
 generalize wrongF r = er at *
 refine wp_region_held_drew (S := (fun W => W.cell? ⟨bs', 0, none⟩ = some (pz f.sb) ∧ W.rangeAt w.heap.size 0 (rpc r vp))) (by kernel_rfl) (SN.out _ _ _ XD.out) (fun hHeld => ?_)
 refine tw 0 ?_
 refine tq 1 ?_
 refine tq 2 ?_
 refine tl 4 49 w.heap.size 0 (rpc r vp) (fun W hW => hW.2) Tryz.underlying49 ?_
 refine wpAnyH_ready (rs := [3, 5]) (by kernel_rfl) (by simp) ?_
 refine AllReadyH.cons rfl (fun K hK => ?_) (AllReadyH.cons rfl (fun K hK => ?_) AllReadyH.nil)
 go_simp
 refine kj hK (SN.out _ _ _ XD.out) (fun hHeld => ?_)
 clear hK K
 refine rd 5 (fun K hK => ?_)
 go_simp
 refine (C82.out _ XD.out).mono ?_
 rintro e w3 ⟨rfl, h3⟩
 have X3 : Hid _ := h3
 clear h3
 go_wp2_with fail
 refine kj hK (SN.out _ _ _ X3.out) (fun hHeld => ?_)
 clear hK K
 rotate_left 1
 go_simp
 refine (C82.out _ XD.out).mono ?_
 rintro e w3 ⟨rfl, h3⟩
 have X3 : Hid _ := h3
 clear h3
 go_wp2_with fail
 refine kj hK (SN.out _ _ _ X3.out) (fun hHeld => ?_)
 clear hK K
 refine rd 3 (fun K hK => ?_)
 have z7 := S7.out _ X3.out
 go_simp
 refine kj hK (SN.out _ _ _ X3.out) (fun hHeld => ?_)
 clear hK K
 all_goals
  refine rd 6 (fun K hK => ?_)
  go_simp
  refine (CS.out _ X3.out).mono ?_
  rintro e w4 ⟨rfl, f', x4, hsb, hbd⟩
  have X4 : Hid _ := x4
  have HF : Hid _ := And.intro hsb hbd
  clear x4 hsb hbd
  unfold rsV
  go_wp2_with fail
  refine kj hK (SN.out _ _ _ X4.out) (fun hHeld => ?_)
  clear hK K
  refine rd 7 (fun K hK => ?_)
  rw [if_pos (by rfl)]
  refine wp_store_row 41 _ _ rfl (w.heap.size + 1) _ rfl rfl 41 _ (X4.out.bm mc) (by kernel_rfl) rfl (rsc_all _ _ rfl) ?_
  have X5 : Hid _ := X4.out.poke (setRow_kept _ _ (rsc (stopR X er).2 sy).toArray) (setRow_at (X4.out.bm mc)) nb
  have S5 : Hid _ := X5.out.less (Lo' := [(w.heap.size, (rpc r vp).toArray, 49), (bs', #[pz f.sb], 24)]) (fun _ e => e)
  refine kj hK ⟨X5.out.bc, range_box (n := 14) (X5.out.bx (b := w.heap.size) (cs := (rpc r vp).toArray) (ty := 49) (by simp))⟩ (fun hHeld => ?_)
  clear hK K
  refine wpAnyH_done (by kernel_rfl) ?_ _
  clear hHeld SN C82 CS S7 p7 X3
  go_wp2_with fail
  refine bodyPost_ret (res11 rfl rfl rfl (X5.out.bm mc)) rfl ?_
  exact ⟨rfl, _, X5.out.to, HF.out.1, HF.out.2⟩
theorem unl162t (u : Un f N X 9 w) (n : Nat) (hn : n < 4294967296) (q : Rq) (hk : 1 ≤ q.k ∧ q.k ≤ 3) (bs' bn bq bd : Nat) (hb : Bq (f.Ex N X.act) f w bs' bn bq bd n q) (r : Rp) (vp : Value) (hr : r.k ≠ 0) :
  Calls Tryz.prog 162 #[.agg (rpc r vp).toArray, pz bs', pz bn, pz bq, pz bd] w (Got f N X w (askF X (akF n q)) zS) := by
 obtain ⟨vw, vs, dv, h1, h2, h3, h4, h5, h6⟩ := hb.of
 obtain ⟨fn, fi, cp, rfl⟩ := h6.func hk
 obtain ⟨wa, wc, rfl⟩ := h4.ws.shape
 obtain ⟨sa, sc, rfl⟩ := h4.sk.shape
 obtain ⟨W1, hW1⟩ := xj ((w.alloc (.cells (rpc r vp).toArray 49)).alloc (.cells RZ 41))
 obtain ⟨qc, hqc⟩ := xj (rqc q (.slice wa q.ws.length wc) (.slice sa q.sk.length sc)).toArray
 rw [hqc] at h3
 have X0 := nq (Cx.start u.sc u.nk (fc h5 (fc h3 (fc h2 (fc h1 nb))))) hW1
 have k0 : W1.cell? ⟨w.heap.size, 0, none⟩ = some (iw r.k) := X0.out.bc
 have c1 : W1.cell? ⟨bs', 0, none⟩ = some (pz f.sb) := X0.out.bc
 have c2 : W1.cell? ⟨bn, 0, none⟩ = some (iw (n : Int)) := X0.out.bc
 have c3 : Hid (W1.heap[bq]? = some (.cells qc 53 (0, 0))) := X0.out.bx (by simp)
 have c4 : W1.cell? ⟨bd, 0, none⟩ = some (.func fn fi cp) := X0.out.bc
 have hr0 : (r.k == 0) = false := by simp [hr]
 have CT : Hid (1 = 1 → Calls Tryz.prog 80 #[pz f.sb, iw (n : Int), .agg qc, .func fn fi cp] W1 fun e w' => ∃ fv, Asked f _ X W1 (akF n q) _ _ fv e w') := fun _ => try80 X0.out.sc (fun k hk => X0.out.lt hk) u.rm.room n q _ _ rfl rfl fn fi cp qc hqc.symm hn (h4.stay X0.out.stay0) hk.2 (h6.stay X0.out.stay0 (SameF.refl f))
 have hs : (Tryz.prog.info? 53).map (·.size) = some qc.size := by rw [← hqc]; kernel_rfl
 have HB : Hid (Bd f X) := u.bd
 clear u hb hr h1 h2 h3 h4 h5 h6 hqc
 go_enter Tryz.func162, Tryz.ntmps162
 go_wp2_with (refine wpList_load_row rfl 53 _ rfl bq rfl 53 _ (0, 0) _ c3.out Tryz.underlying53 rfl hs ?_)
 refine (CT.out (by trivial)).mono ?_
 rintro e w2 ⟨fv, rfl, va, vo, ht⟩
 have X2 : Hid _ := (X0.out.less (Lo' := []) nb).next ht
 clear ht CT X0 hW1 k0 c1 c2 c3 c4
 have hr := rsc_all zS sy rfl
 go_wp2_with (refine wpList_store_row rfl 41 _ _ rfl (w.heap.size + 1) (rsc zS sy).toArray rfl rfl 41 _ (X2.out.bm mc) (by kernel_rfl) rfl hr ?_)
 refine bj X2.out ?_
 exact ⟨rfl, _, (X2.out.poke (setRow_kept _ _ _) (setRow_at (X2.out.bm mc)) nb).to, rfl, HB.out.ask rfl⟩
theorem unl162 (u : Un f N X 9 w) (ho : X.op.k ≠ 0) (hst : X.op.k = 6 → X.stg = 1) (n : Nat) (hn : n < 4294967296) (q : Rq) (hk : 1 ≤ q.k ∧ q.k ≤ 3) (bs' bn bq bd : Nat) (hb : Bq (f.Ex N X.act) f w bs' bn bq bd n q) (r : Rp) (vp : Value) :
  Calls Tryz.prog 162 #[.agg (rpc r vp).toArray, pz bs', pz bn, pz bq, pz bd] w (Got f N X w (if r.k = 0 then stopF bt X (wrongF r) else (askF X (akF n q), zS)).1 (if r.k = 0 then stopF bt X (wrongF r) else (askF X (akF n q), zS)).2) := by
 by_cases hr : r.k = 0
 ·rw [if_pos hr]
  exact unl162e u ho hst bs' _ _ _ hb.cs r vp hr
 ·rw [if_neg hr]
  exact unl162t u n hn q hk bs' bn bq bd hb r vp hr
end Go.Proofs.YtkdkgdollmmcnaaGreat
