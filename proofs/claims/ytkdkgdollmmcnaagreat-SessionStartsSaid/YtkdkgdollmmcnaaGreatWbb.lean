import Derived.Test.YtkdkgdollmmcnaaGreatWba
set_option maxHeartbeats 4000000
set_option maxRecDepth 100000
set_option linter.unusedVariables false
set_option linter.unusedSimpArgs false
namespace Go.Proofs.YtkdkgdollmmcnaaGreat
structure Gw (k : Nat) (s S : Ss) : Prop where
 sq : S.sq ≤ s.sq + k
 la : S.asks.length ≤ s.asks.length + k
 lo : S.out.length ≤ s.out.length + k
theorem Gw.same {s S : Ss} (h1 : S.sq = s.sq) (h2 : S.asks.length ≤ s.asks.length) (h3 : S.out = s.out) : Gw 0 s S := ⟨by omega, by omega, by rw [h3]; omega⟩
theorem Gw.refl (s : Ss) : Gw 0 s s := Gw.same rfl (Nat.le_refl _) rfl
theorem Gw.trans {a b : Nat} {s S T : Ss} (h : Gw a s S) (g : Gw b S T) : Gw (a + b) s T := ⟨by have := h.sq; have := g.sq; omega, by have := h.la; have := g.la; omega, by have := h.lo; have := g.lo; omega⟩
theorem Gw.le {a b : Nat} {s S : Ss} (h : Gw a s S) (hab : a ≤ b) : Gw b s S := ⟨by have := h.sq; omega, by have := h.la; omega, by have := h.lo; omega⟩
theorem Gw.to {a : Nat} {s S T : Ss} (h : Gw a s S) (h1 : T.sq = S.sq) (h2 : T.asks = S.asks) (h3 : T.out = S.out) : Gw a s T := ⟨by rw [h1]; exact h.sq, by rw [h2]; exact h.la, by rw [h3]; exact h.lo⟩
theorem Gw.from {a : Nat} {s S T : Ss} (h : Gw a s S) (h1 : s.sq = T.sq) (h2 : s.asks = T.asks) (h3 : s.out = T.out) : Gw a T S := ⟨by rw [← h1]; exact h.sq, by rw [← h2]; exact h.la, by rw [← h3]; exact h.lo⟩
theorem ask_gw (s : Ss) (a : Ak) : Gw 1 s (askF s a) := ⟨Nat.le_refl _, by show (s.asks ++ [_]).length ≤ _; rw [List.length_append]; exact Nat.le_refl _, by show (s.out ++ [_]).length ≤ _; rw [List.length_append]; exact Nat.le_refl _⟩
theorem drop_gw (s : Ss) : Gw 0 s (dropF s) := Gw.same rfl (List.length_filter_le _ _) rfl
theorem Gw.s9 {s S : Ss} (h1 : S.sq = s.sq) (h2 : S.asks.length ≤ s.asks.length) (h3 : S.out = s.out) : Gw 9 s S := (Gw.same h1 h2 h3).le (by omega)
theorem Gw.a9 {s T : Ss} {a : Ak} (h1 : T.sq = s.sq) (h2 : T.asks = s.asks) (h3 : T.out = s.out) : Gw 9 s (askF T a) := ((ask_gw T a).from h1 h2 h3).le (by omega)
theorem scan_gw (s0 : Ss) (o : Op) : ∀ m i s, Gw m s (scanAsks s0 o m i s)
 | 0, _, s => Gw.refl s
 | m + 1, i, s => ((ask_gw s _).trans (scan_gw s0 o m (i + 1) _)).le (by omega)
theorem lay_gw : ∀ l i s, Gw l.length s (layAsks l i s)
 | [], _, s => Gw.refl s
 | p :: l, i, s => by
  unfold layAsks
  refine Gw.le (Gw.trans (a := 1) ?_ (lay_gw l (i + 1) _)) (by simp only [List.length_cons]; omega)
  split
  ·exact (Gw.refl s).le (by omega)
  ·exact (ask_gw s _).to rfl rfl rfl
theorem chores_gw (q : Rq) (but : Option Nat) (h : Nat) : ∀ l i s, Gw l.length s (choresF q but h l i s).1
 | [], _, s => Gw.refl s
 | p :: l, i, s => by
  unfold choresF
  split
  ·exact ((ask_gw s _).trans (chores_gw q but h l (i + 1) _)).le (by simp only [List.length_cons]; omega)
  ·exact (chores_gw q but h l (i + 1) s).le (by simp only [List.length_cons]; omega)
theorem given_gw (B : Bt) (s : Ss) (e : Int) : Gw (B.parts s.ws s.nsh).length s (givenF B s e).1 := by
 have h := (drop_gw s).trans (chores_gw { zQ with k := 6, c := s.cl, n := s.n, sp := s.sp, sl := s.sl } none (homeF B s (priF s)) (B.parts s.ws s.nsh) 0 (dropF s))
 rw [Nat.zero_add] at h
 exact h.to rfl rfl rfl
theorem comm_gw (B : Bt) (s : Ss) (ap al : Nat) : Gw ((B.parts s.ws s.nsh).length + 1) s (commF B s ap al).1 := by
 have hd : ∀ (R : Ss × Nat) (c n h : Nat) (k : Nat), Gw k s R.1 → Gw (k + 1) s { (if R.2 = 0 then doneF R.1 c n h else R.1) with act := false } := fun R c n h k g => by
  split
  ·exact (g.trans (ask_gw R.1 _)).to rfl rfl rfl
  ·exact Gw.le (a := k) (g.to rfl rfl rfl) (by omega)
 refine hd (choresF { zQ with k := 5, c := s.cl, n := s.n, ap := ap, al := al } (some (homeF B s (priF s))) (homeF B s (priF s)) (B.parts s.ws s.nsh) 0 { dropF s with np := (maxT (s.np, s.nl) (ap, al)).1, nl := (maxT (s.np, s.nl) (ap, al)).2 }) s.cl s.n (homeF B s (priF s)) _ ?_
 exact (((drop_gw s).to (T := { dropF s with np := (maxT (s.np, s.nl) (ap, al)).1, nl := (maxT (s.np, s.nl) (ap, al)).2 }) rfl rfl rfl).trans (chores_gw _ _ _ _ _ _)).le (by omega)
section
variable {B : Bt} {s : Ss}
theorem Gs.pl (G : B.Good) (h : Gs B s) : (B.parts s.ws s.nsh).length ≤ 8 := by
 have h1 := G.plen s.ws s.nsh
 have h2 := h.n.2
 omega
theorem stop_gw (hp : (B.parts s.ws s.nsh).length ≤ 8) (e : Int) : Gw 9 s (stopF B s e).1 := by
 unfold stopF
 split
 ·exact (given_gw B s e).le (by omega)
 ·exact (drop_gw s).le (by omega)
theorem push_gw (hp : (B.parts s.ws s.nsh).length ≤ 8) (a : Ak) (r : Rp) : Gw 9 s (pushF B s a r).1 := by
 unfold pushF
 split
 ·exact (ask_gw s _).le (by omega)
 split
 ·exact (ask_gw s _).le (by omega)
 split
 ·split
  ·exact (given_gw B s 40).le (by omega)
  split
  ·exact (drop_gw s).le (by omega)
  ·exact (ask_gw s _).le (by omega)
 ·exact stop_gw hp _
theorem ans_gw (hp : (B.parts s.ws s.nsh).length ≤ 8) (a : Ak) (r : Rp) : Gw 9 s (ansF B s a r).1 := by
 unfold ansF
 split
 ·unfold lockF
  split
  ·exact stop_gw hp 1
  ·exact (ask_gw s _).le (by omega)
 split
 ·exact (drop_gw s).le (by omega)
 split
 ·dsimp only
  split
  ·exact Gw.s9 rfl (Nat.le_refl _) rfl
  ·exact Gw.s9 rfl (List.length_filter_le _ _) rfl
 split
 ·dsimp only
  split
  ·exact Gw.a9 rfl rfl rfl
  ·exact Gw.s9 rfl (Nat.le_refl _) rfl
 split
 ·exact (given_gw B s 40).le (by omega)
 split
 ·exact (given_gw B s 12).le (by omega)
 ·exact stop_gw hp _
theorem dec_gw (hp : (B.parts s.ws s.nsh).length ≤ 8) (r : Rp) : Gw 9 s (decF B s r).1 := by
 unfold decF
 split
 ·exact (comm_gw B s _ _).le (by omega)
 split
 ·exact (given_gw B s _).le (by omega)
 split
 ·exact (given_gw B s _).le (by omega)
 split
 ·exact Gw.a9 rfl rfl rfl
 ·split
  ·exact Gw.a9 rfl rfl rfl
  ·exact (ask_gw _ _).le (by omega)
theorem insA_len (a : Ak) : ∀ l : List Ak, (insA a l).length = l.length + 1
 | [] => rfl
 | x :: l => by
  unfold insA
  split
  ·rw [List.length_cons, insA_len a l, List.length_cons]
  ·rfl
theorem chore_gw (a : Ak) (r : Rp) : Gw 9 s (choreF s a r) := by
 unfold choreF
 split
 ·exact ⟨by show s.sq ≤ s.sq + 9; omega, by show (insA _ s.asks).length ≤ _; rw [insA_len]; omega, by show s.out.length ≤ _; omega⟩
 split
 ·exact (Gw.refl s).le (by omega)
 split
 ·exact (Gw.refl s).le (by omega)
 ·exact (ask_gw s _).le (by omega)
theorem hear_gw (hp : (B.parts s.ws s.nsh).length ≤ 8) (l : Le) : Gw 9 s (hearF B s l).1 := by
 unfold hearF
 split
 ·exact (Gw.refl s).le (by omega)
 split
 ·exact (Gw.refl s).le (by omega)
 ·rename_i a ha
  dsimp only
  have h0 : Gw 0 s { s with asks := s.asks.filter (fun x => !isA l x), np := (maxT (s.np, s.nl) (l.r.np, l.r.nl)).1, nl := (maxT (s.np, s.nl) (l.r.np, l.r.nl)).2 } := Gw.same rfl (List.length_filter_le _ _) rfl
  have ht : ∀ {S : Ss}, Gw 9 { s with asks := s.asks.filter (fun x => !isA l x), np := (maxT (s.np, s.nl) (l.r.np, l.r.nl)).1, nl := (maxT (s.np, s.nl) (l.r.np, l.r.nl)).2 } S → Gw 9 s S := fun g => (h0.trans g).le (by omega)
  split
  ·exact ht (chore_gw a l.r)
  split
  ·exact ht (push_gw (s := restF s l) hp a l.r)
  split
  ·split
   ·exact ht (stop_gw (s := restF s l) hp _)
   ·exact ht ((ask_gw _ _).le (by omega))
  split
  ·exact ht (ans_gw (s := restF s l) hp a l.r)
  ·exact ht (dec_gw (s := restF s l) hp l.r)
theorem give_gw (hp : (B.parts s.ws s.nsh).length ≤ 8) : Gw 9 s (giveF B s).1 := by
 unfold giveF
 split
 ·exact (Gw.refl s).le (by omega)
 split
 ·exact (drop_gw s).le (by omega)
 split
 ·exact (given_gw B s 42).le (by omega)
 ·exact Gw.s9 rfl (List.length_filter_le _ _) rfl
theorem do_gw (hp : (B.parts s.ws s.nsh).length ≤ 8) (hn : s.nsh ≤ 8) (phys : Nat) (o : Op) : Gw 9 s (doF B s phys o).1 := by
 have hput : ∀ w, Gw 9 s (putF B s w).1 := fun w => by
  unfold putF
  split
  ·exact (Gw.refl s).le (by omega)
  split
  ·exact Gw.s9 rfl (Nat.le_refl _) rfl
  split
  ·exact (Gw.refl s).le (by omega)
  ·exact Gw.s9 rfl (Nat.le_refl _) rfl
 unfold doF
 split
 ·exact (Gw.refl s).le (by omega)
 split
 ·split
  ·exact (Gw.refl s).le (by omega)
  split
  ·exact (Gw.refl s).le (by omega)
  ·exact Gw.s9 rfl (Nat.le_refl _) rfl
 split
 ·exact (Gw.refl s).le (by omega)
 split
 ·exact hput _
 split
 ·exact hput _
 split
 ·split
  ·exact (Gw.refl s).le (by omega)
  split
  ·exact (Gw.refl s).le (by omega)
  ·exact Gw.a9 rfl rfl rfl
 split
 ·split
  ·exact (Gw.refl s).le (by omega)
  ·exact Gw.le (a := s.nsh) ((scan_gw s o _ _ _).from rfl rfl rfl) (by omega)
 split
 ·unfold commitF
  split
  ·exact Gw.s9 rfl (Nat.le_refl _) rfl
  ·exact Gw.le (a := (B.parts s.ws s.nsh).length) ((lay_gw _ _ _).from rfl rfl rfl) (by omega)
 split
 ·exact Gw.s9 rfl (Nat.le_refl _) rfl
 ·exact (Gw.refl s).le (by omega)
end
theorem do_n (B : Bt) (s : Ss) (phys : Nat) (o : Op) : (doF B s phys o).1.n ≤ s.n + 1 := by
 by_cases h : o.k = 1
 ·unfold doF
  split
  ·exact Nat.le_succ _
  split
  ·exact Nat.le_succ _
  split
  ·exact Nat.le_succ _
  ·exact Nat.le_refl _
 ·have hput : ∀ w, (putF B s w).1.n = s.n := fun w => by
   unfold putF
   split
   ·rfl
   split
   ·rfl
   split <;> rfl
  unfold doF
  split
  ·exact Nat.le_succ _
  split
  ·exact Nat.le_succ _
  split
  ·rw [hput]; exact Nat.le_succ _
  split
  ·rw [hput]; exact Nat.le_succ _
  split
  ·split
   ·exact Nat.le_succ _
   split
   ·exact Nat.le_succ _
   ·exact Nat.le_succ _
  split
  ·split
   ·exact Nat.le_succ _
   ·rw [(scan_st s o _ _ _).2.2.1]; exact Nat.le_succ _
  split
  ·unfold commitF
   split
   ·exact Nat.le_succ _
   ·rw [(lay_st _ _ _).2.2.1]; exact Nat.le_succ _
  split
  ·exact Nat.le_succ _
  ·exact Nat.le_succ _
theorem home_some {k : List UInt8} {n h : Nat} (e : bt.home k n = some h) : Pla.shardF k (n : Int) = ((h : Int), 0) ∧ h < n := by
 unfold bt at e
 dsimp only at e
 split at e
 ·rename_i h0
  injection e with e
  obtain ⟨h1, h2⟩ := Pla.shard_range k (n : Int) h0
  have : ((Pla.shardF k (n : Int)).1.toNat : Int) = (Pla.shardF k (n : Int)).1 := Int.toNat_of_nonneg h1
  subst e
  refine ⟨Prod.ext this.symm h0, by omega⟩
 ·cases e
theorem home_is {k : List UInt8} {n h : Nat} (e : Pla.shardF k (n : Int) = ((h : Int), 0)) : bt.home k n = some h := by
 unfold bt
 dsimp only
 rw [e]
 rfl
theorem home_key {k : List UInt8} (h : kOk k = true) (n : Nat) (h1 : 1 ≤ n) (h2 : n ≤ 8) : (bt.home k n).isSome = true := by
 unfold bt
 dsimp only
 rcases Pla.shard_code k (n : Int) with ⟨e, -⟩ | ⟨-, e⟩
 ·rw [if_pos e]; rfl
 ·exact absurd ⟨h, by omega, by omega⟩ e
theorem kOk_len {k : List UInt8} (h : kOk k = true) : k.length ≤ 32 := by
 unfold kOk at h
 simp only [Bool.and_eq_true, decide_eq_true_eq] at h
 exact h.2
theorem bt_good : bt.Good where
 lt := fun e => (home_some e).2
 plen := fun l n => by
  show (Pla.splitF l (n : Int)).length ≤ n
  unfold Pla.splitF
  split
  ·rw [List.length_map, List.length_range]; omega
  ·exact Nat.zero_le _
 pin := fun {l n i p} h => by
  have h' : (Pla.splitF l (n : Int))[i]? = some p := h
  unfold Pla.splitF at h'
  split at h'
  ·rw [List.getElem?_map, Option.map_eq_some_iff] at h'
   obtain ⟨k, hk, rfl⟩ := h'
   obtain ⟨hi, hk⟩ := List.getElem?_eq_some_iff.1 hk
   rw [List.getElem_range] at hk
   subst hk
   refine ⟨List.length_filter_le _ _, fun w hw => ?_⟩
   obtain ⟨h1, h2⟩ := List.mem_filter.1 hw
   exact ⟨h1, home_is (by simpa using h2)⟩
  ·cases h'
 right := fun {w} h => by
  have h' : wOk w = true := h
  unfold wOk at h'
  simp only [Bool.and_eq_true, decide_eq_true_eq] at h'
  exact ⟨kOk_len h'.1.1, h'.1.2, fun n h1 h2 => home_key h'.1.1 n h1 h2⟩
 key := fun {k} h => ⟨kOk_len h, fun n h1 h2 => home_key h n h1 h2⟩
 tick := fun p l f h => by
  have h0 : (Clk.tickF (p : Int) (l : Int) (f : Int)).2.2 = 0 := h
  show (Clk.tickF (p : Int) (l : Int) (f : Int)).1.toNat ≤ 281474976710656 ∧ (Clk.tickF (p : Int) (l : Int) (f : Int)).2.1.toNat ≤ 4095
  obtain ⟨⟨a, b, c⟩, ht⟩ : ∃ t, Clk.tickF (p : Int) (l : Int) (f : Int) = t := ⟨_, rfl⟩
  have e := Clk.tickF_ok p l f a b c ht (by omega) (by omega)
  rw [ht] at h0 ⊢
  dsimp only at h0 ⊢
  omega
theorem bt_ticks : bt.Ticks := fun p l f h => by
 have h0 : (Clk.tickF (p : Int) (l : Int) (f : Int)).2.2 = 0 := h
 show p < (Clk.tickF (p : Int) (l : Int) (f : Int)).1.toNat ∨ p = (Clk.tickF (p : Int) (l : Int) (f : Int)).1.toNat ∧ l < (Clk.tickF (p : Int) (l : Int) (f : Int)).2.1.toNat
 obtain ⟨⟨a, b, c⟩, ht⟩ : ∃ t, Clk.tickF (p : Int) (l : Int) (f : Int) = t := ⟨_, rfl⟩
 have e := Clk.tickF_ok p l f a b c ht (by omega) (by omega)
 rw [ht] at h0 ⊢
 dsimp only at h0 ⊢
 omega
theorem pri_part {X : Ss} (h : Gs bt X) (hne : X.ws ≠ []) : homeF bt X (priF X) ∈ partsN (bt.parts X.ws X.nsh) (bt.parts X.ws X.nsh).length := by
 obtain ⟨w, hw, hp⟩ := pri_mem hne
 obtain ⟨g1, -⟩ := h.pri bt_good hne
 obtain ⟨e1, e2⟩ := home_some g1
 have hlen : (bt.parts X.ws X.nsh).length = X.nsh := by
  show (Pla.splitF X.ws (X.nsh : Int)).length = X.nsh
  unfold Pla.splitF
  rw [if_pos (by have := h.n; omega), List.length_map, List.length_range]
  omega
 have hget : (bt.parts X.ws X.nsh).getD (homeF bt X (priF X)) [] = Pla.ownF X.ws (X.nsh : Int) ((homeF bt X (priF X) : Nat) : Int) := by
  show (Pla.splitF X.ws (X.nsh : Int)).getD (homeF bt X (priF X)) [] = _
  unfold Pla.splitF
  rw [if_pos (by have := h.n; omega)]
  rw [List.getD_eq_getElem?_getD, List.getElem?_map, List.getElem?_range (by omega)]
  rfl
 have hmem : w ∈ (bt.parts X.ws X.nsh).getD (homeF bt X (priF X)) [] := by
  rw [hget]
  refine List.mem_filter.2 ⟨hw, ?_⟩
  rw [← hp, e1]
  simp
 unfold partsN
 refine List.mem_filter.2 ⟨List.mem_range.2 (by omega), ?_⟩
 cases hL : (bt.parts X.ws X.nsh).getD (homeF bt X (priF X)) [] with
 | nil => rw [hL] at hmem; cases hmem
 | cons a l => rfl
open Go.RowKit Go.Sort
theorem pairs54 (L : List Pr) (ao : Option Addr) (cap : Nat) (w : World) (hL : PsAt w.heap.size (.slice ao L.length cap) L w) :
  Calls Tryz.prog 109 #[.slice ao L.length cap] w fun e w' => e = .returned (.bool (decide (L.length ≤ 32) && L.all fun x => fitB x.key x.val)) ∧ Below w.heap.size w w' := by
 obtain ⟨hlc, hcm⟩ := hL.cap
 have hL9 : L.length < 9223372036854775808 := by omega
 by_cases hm : L.length ≤ 32
 ·have hm' : ¬ (32 : Int) < L.length := by omega
  have H0 : Hid ((L.drop 0).all (fun x => fitB x.key x.val) = L.all fun x => fitB x.key x.val) := by show _ = _; rw [List.drop_zero]
  have HD : Hid (decide (L.length ≤ 32) = true) := by show _ = _; simp [hm]
  have HE : Hid (∀ W, Below w.heap.size w W → ∀ i, i < L.length → ∃ b off, ao = some ⟨b, off, none⟩ ∧ PtAt W b (off + i * 2) (L.getD i dp)) := fun W hW i hi => (hL.on hW).el hi
  obtain ⟨y, hy⟩ := xj (L.all fun x => fitB x.key x.val)
  rw [hy] at H0 ⊢
  clear hL hlc hcm hy hm
  go_enter Tryz.func109, Tryz.ntmps109
  go_wp2_with fail
  go_loopw [10] (fun i wr => Below w.heap.size w wr ∧ ∃ m : Nat, m ≤ L.length ∧ i = iw m ∧ (L.drop m).all (fun x => fitB x.key x.val) = y) (fun i _ => L.length - (intOf i).toNat)
  case atStart => exact ⟨Below.refl _ _, 0, Nat.zero_le _, rfl, H0.out⟩
  case round =>
   obtain ⟨hbr, m, hm, rfl, hy⟩ := hrel
   have HBr : Hid (Below w.heap.size w wr) := hbr
   by_cases hml : m < L.length
   ·obtain ⟨b, off, rfl, e0, e1⟩ := HE.out wr hbr m hml
    have hml' : (m : Int) < L.length := by omega
    have hm9 : ¬ (m : Int) < 0 := by omega
    have hst := all_step (P := fun x : Pr => fitB x.key x.val) (d := dp) hml
    rw [hy] at hst
    have HQ : Hid (m + 1 ≤ L.length) := hml
    generalize L.getD m dp = x at *
    have CF : Hid (∀ W, 1 = 1 → _) := fun W _ => fits53 x.key x.val W
    generalize fitB x.key x.val = z at CF hst
    clear hbr hy HE
    cases z
    ·have hy1 : y = false := by rw [hst]; rfl
     subst hy1
     clear hst
     go_wp2_with fail
     refine (CF.out _ (by trivial)).mono ?_
     rintro e w1 ⟨rfl, rfl⟩
     go_wp2_with fail
     go_ret
     exact ⟨ret_bool (by rw [Bool.and_false]), HBr.out.alloc HBr.out.size _⟩
    ·have HY : Hid ((L.drop (m + 1)).all (fun x => fitB x.key x.val) = y) := by show _ = _; rw [hst]; rfl
     clear hst
     go_wp2_with fail
     refine (CF.out _ (by trivial)).mono ?_
     rintro e w1 ⟨rfl, rfl⟩
     go_wp2_with fail
     go_roundw
     case rel => exact ⟨HBr.out.alloc HBr.out.size _, m + 1, HQ.out, by go_num, HY.out⟩
     case measure => simp [intOf]; omega
   ·have hml' : ¬ (m : Int) < L.length := by omega
    have hy1 : y = true := by rw [← hy, List.drop_eq_nil_of_le (by omega)]; rfl
    subst hy1
    clear hy HE
    go_wp2_with fail
    go_ret
    exact ⟨ret_bool (by rw [HD.out]), HBr.out⟩
 ·have hm' : (32 : Int) < L.length := by omega
  have HD : Hid (decide (L.length ≤ 32) = false) := by show _ = _; simp [hm]
  clear hL hlc hcm hm
  go_enter Tryz.func109, Tryz.ntmps109
  go_wp2_with fail
  go_ret
  exact ⟨ret_bool (by rw [HD.out, Bool.false_and]), Below.refl _ _⟩
theorem writes56 (L : List Wr) (ao : Option Addr) (cap : Nat) (w : World) (hL : WsAt w.heap.size (.slice ao L.length cap) L w) :
  Calls Tryz.prog 111 #[.slice ao L.length cap] w fun e w' => e = .returned (.bool (decide (L.length ≤ 16) && L.all fun x => fitB x.key x.val)) ∧ Below w.heap.size w w' := by
 obtain ⟨hlc, hcm⟩ := hL.cap
 have hL9 : L.length < 9223372036854775808 := by omega
 by_cases hm : L.length ≤ 16
 ·have hm' : ¬ (16 : Int) < L.length := by omega
  have H0 : Hid ((L.drop 0).all (fun x => fitB x.key x.val) = L.all fun x => fitB x.key x.val) := by show _ = _; rw [List.drop_zero]
  have HD : Hid (decide (L.length ≤ 16) = true) := by show _ = _; simp [hm]
  have HE : Hid (∀ W, Below w.heap.size w W → ∀ i, i < L.length → ∃ b off, ao = some ⟨b, off, none⟩ ∧ WtAt W b (off + i * 3) (L.getD i dw)) := fun W hW i hi => (hL.on hW).el hi
  obtain ⟨y, hy⟩ := xj (L.all fun x => fitB x.key x.val)
  rw [hy] at H0 ⊢
  clear hL hlc hcm hy hm
  go_enter Tryz.func111, Tryz.ntmps111
  go_wp2_with fail
  go_loopw [10] (fun i wr => Below w.heap.size w wr ∧ ∃ m : Nat, m ≤ L.length ∧ i = iw m ∧ (L.drop m).all (fun x => fitB x.key x.val) = y) (fun i _ => L.length - (intOf i).toNat)
  case atStart => exact ⟨Below.refl _ _, 0, Nat.zero_le _, rfl, H0.out⟩
  case round =>
   obtain ⟨hbr, m, hm, rfl, hy⟩ := hrel
   have HBr : Hid (Below w.heap.size w wr) := hbr
   by_cases hml : m < L.length
   ·obtain ⟨b, off, rfl, e0, e1, e2⟩ := HE.out wr hbr m hml
    have hml' : (m : Int) < L.length := by omega
    have hm9 : ¬ (m : Int) < 0 := by omega
    have hst := all_step (P := fun x : Wr => fitB x.key x.val) (d := dw) hml
    rw [hy] at hst
    have HQ : Hid (m + 1 ≤ L.length) := hml
    generalize L.getD m dw = x at *
    have CF : Hid (∀ W, 1 = 1 → _) := fun W _ => fits53 x.key x.val W
    generalize fitB x.key x.val = z at CF hst
    clear hbr hy HE
    cases z
    ·have hy1 : y = false := by rw [hst]; rfl
     subst hy1
     clear hst
     go_wp2_with fail
     refine (CF.out _ (by trivial)).mono ?_
     rintro e w1 ⟨rfl, rfl⟩
     go_wp2_with fail
     go_ret
     exact ⟨ret_bool (by rw [Bool.and_false]), HBr.out.alloc HBr.out.size _⟩
    ·have HY : Hid ((L.drop (m + 1)).all (fun x => fitB x.key x.val) = y) := by show _ = _; rw [hst]; rfl
     clear hst
     go_wp2_with fail
     refine (CF.out _ (by trivial)).mono ?_
     rintro e w1 ⟨rfl, rfl⟩
     go_wp2_with fail
     go_roundw
     case rel => exact ⟨HBr.out.alloc HBr.out.size _, m + 1, HQ.out, by go_num, HY.out⟩
     case measure => simp [intOf]; omega
   ·have hml' : ¬ (m : Int) < L.length := by omega
    have hy1 : y = true := by rw [← hy, List.drop_eq_nil_of_le (by omega)]; rfl
    subst hy1
    clear hy HE
    go_wp2_with fail
    go_ret
    exact ⟨ret_bool (by rw [HD.out]), HBr.out⟩
 ·have hm' : (16 : Int) < L.length := by omega
  have HD : Hid (decide (L.length ≤ 16) = false) := by show _ = _; simp [hm]
  clear hL hlc hcm hm
  go_enter Tryz.func111, Tryz.ntmps111
  go_wp2_with fail
  go_ret
  exact ⟨ret_bool (by rw [HD.out, Bool.false_and]), Below.refl _ _⟩
theorem no_bool {x : Bool} (h : x = true → False) : x = false := by
 cases x with
 | false => rfl
 | true => exact absurd rfl h
theorem q_zero {q : Rq} (g0 : (q.k == 0) = true) (g1 : (q.c == 0 && q.n == 0) = true) (g2 : (q.sp == 0 && q.sl == 0) = true) (g3 : (q.ap == 0 && q.al == 0) = true) (g4 : (bs q.key).toList.isEmpty = true) (g5 : (bs q.to).toList.isEmpty = true) (g6 : (q.lim == 0) = true) (g7 : ((q.pt : Int) == 0) = true) (g8 : ((q.ws.length : Int) == 0) = true) (g9 : ((q.sk.length : Int) == 0) = true) : sameQ q zQ = true := by
 obtain ⟨k, c, n, sp, sl, ap, al, key, tt, lim, pt, ws, sk⟩ := q
 simp only [bs_list, List.isEmpty_iff, Bool.and_eq_true, beq_iff_eq] at g0 g1 g2 g3 g4 g5 g6 g7 g8 g9
 have h8 : ws = [] := List.eq_nil_of_length_eq_zero (by omega)
 have h9 : sk = [] := List.eq_nil_of_length_eq_zero (by omega)
 have h7 : pt = 0 := by omega
 rw [sameQ_iff, zQ, g0, g1.1, g1.2, g2.1, g2.2, g3.1, g3.2, g4, g5, g6, h7, h8, h9]
theorem r_zero {r : Rp} (g0 : (r.k == 0) = true) (g1 : (r.er == 0) = true) (g2 : r.fd = false) (g3 : (bs r.val).toList.isEmpty = true) (g4 : ((r.ps.length : Int) == 0) = true) (g5 : (r.c == 0 && r.n == 0) = true) (g6 : (r.sp == 0 && r.sl == 0) = true) (g7 : (r.ap == 0 && r.al == 0) = true) (g8 : (bs r.prim).toList.isEmpty = true) (g9 : (r.np == 0 && r.nl == 0) = true) : sameR r zR = true := by
 obtain ⟨k, er, fd, val, ps, c, n, sp, sl, ap, al, prim, np, nl⟩ := r
 simp only [bs_list, List.isEmpty_iff, Bool.and_eq_true, beq_iff_eq] at g0 g1 g2 g3 g4 g5 g6 g7 g8 g9
 have h4 : ps = [] := List.eq_nil_of_length_eq_zero (by omega)
 rw [sameR_iff, zR, g0, g1, g2, g3, h4, g5.1, g5.2, g6.1, g6.2, g7.1, g7.2, g8, g9.1, g9.2]
theorem bs_nil_empty : bs [] = ⟨#[]⟩ := rfl
theorem noask24 (q : Rq) (wa sa : Option Addr) (wc sc : Nat) (w : World) :
  Calls Tryz.prog 68 #[.agg #[iw q.k, uu q.c, uu q.n, uw q.sp, uu q.sl, uw q.ap, uu q.al, sd q.key, sd q.to, iw q.lim, .int .u8 (q.pt : Int), .slice wa q.ws.length wc, .slice sa q.sk.length sc]] w fun e w' => e = .returned (.bool (sameQ q zQ)) ∧ Below w.heap.size w w' := by
 have H0 : Hid _ := bx_new w #[iw q.k, uu q.c, uu q.n, uw q.sp, uu q.sl, uw q.ap, uu q.al, sd q.key, sd q.to, iw q.lim, .int .u8 (q.pt : Int), .slice wa q.ws.length wc, .slice sa q.sk.length sc] 53
 obtain ⟨W1, hW1⟩ := xj (w.alloc (.cells #[iw q.k, uu q.c, uu q.n, uw q.sp, uu q.sl, uw q.ap, uu q.al, sd q.key, sd q.to, iw q.lim, .int .u8 (q.pt : Int), .slice wa q.ws.length wc, .slice sa q.sk.length sc] 53))
 obtain ⟨b, hb⟩ := xj w.heap.size
 have H1 : Hid (Bx w b #[iw q.k, uu q.c, uu q.n, uw q.sp, uu q.sl, uw q.ap, uu q.al, sd q.key, sd q.to, iw q.lim, .int .u8 (q.pt : Int), .slice wa q.ws.length wc, .slice sa q.sk.length sc] 53 W1) := by rw [← hb, ← hW1]; exact H0.out
 clear H0
 have p0 : W1.cell? ⟨b, 0, none⟩ = some (iw q.k) := block_cell H1.out.x rfl
 have p1 : W1.cell? ⟨b, 1, none⟩ = some (uu q.c) := block_cell H1.out.x rfl
 have p2 : W1.cell? ⟨b, 2, none⟩ = some (uu q.n) := block_cell H1.out.x rfl
 have p3 : W1.cell? ⟨b, 3, none⟩ = some (uw q.sp) := block_cell H1.out.x rfl
 have p4 : W1.cell? ⟨b, 4, none⟩ = some (uu q.sl) := block_cell H1.out.x rfl
 have p5 : W1.cell? ⟨b, 5, none⟩ = some (uw q.ap) := block_cell H1.out.x rfl
 have p6 : W1.cell? ⟨b, 6, none⟩ = some (uu q.al) := block_cell H1.out.x rfl
 have p7 : W1.cell? ⟨b, 7, none⟩ = some (sd q.key) := block_cell H1.out.x rfl
 have p8 : W1.cell? ⟨b, 8, none⟩ = some (sd q.to) := block_cell H1.out.x rfl
 have p9 : W1.cell? ⟨b, 9, none⟩ = some (iw q.lim) := block_cell H1.out.x rfl
 have p10 : W1.cell? ⟨b, 10, none⟩ = some (.int .u8 (q.pt : Int)) := block_cell H1.out.x rfl
 have p11 : W1.cell? ⟨b, 11, none⟩ = some (.slice wa q.ws.length wc) := block_cell H1.out.x rfl
 have p12 : W1.cell? ⟨b, 12, none⟩ = some (.slice sa q.sk.length sc) := block_cell H1.out.x rfl
 obtain ⟨q0, hq0⟩ := xj (q.k == 0)
 have HQ0 : Hid ((q.k == 0) = q0) := hq0
 cases q0
 ·skip
  go_enter Tryz.func68, Tryz.ntmps68
  (try simp only [List.append_eq, List.cons_append, List.nil_append])
  go_wp2_with fail
  go_ret
  exact ⟨ret_bool ((no_bool (fun h => by have h := sameQ_iff.1 h; have g := HQ0.out; rw [h] at g; revert g; first | decide | simp [zQ, bs_nil_empty])).symm), by first | exact H1.out.bel | exact al _⟩
 obtain ⟨q1, hq1⟩ := xj (q.c == 0 && q.n == 0)
 have E1 : ∀ W : World, (binOp .eql 38 (.agg #[uu q.c, uu q.n]) (.agg #[.int .u32 0, .int .u32 0])).run Tryz.prog W = .ok (.bool q1) W := fun W => by rw [← hq1]; exact run_eql24 q.c q.n 0 0 W
 have HQ1 : Hid ((q.c == 0 && q.n == 0) = q1) := hq1
 clear hq1
 cases q1
 ·skip
  go_enter Tryz.func68, Tryz.ntmps68
  (try simp only [List.append_eq, List.cons_append, List.nil_append])
  go_wp2_with fail
  go_ret
  exact ⟨ret_bool ((no_bool (fun h => by have h := sameQ_iff.1 h; have g := HQ1.out; rw [h] at g; revert g; first | decide | simp [zQ, bs_nil_empty])).symm), by first | exact H1.out.bel | exact al _⟩
 obtain ⟨q2, hq2⟩ := xj (q.sp == 0 && q.sl == 0)
 have E2 : ∀ W : World, (binOp .eql 34 (.agg #[uw q.sp, uu q.sl]) (.agg #[.int .u64 0, .int .u32 0])).run Tryz.prog W = .ok (.bool q2) W := fun W => by rw [← hq2]; exact run_eql27 q.sp q.sl 0 0 W
 have HQ2 : Hid ((q.sp == 0 && q.sl == 0) = q2) := hq2
 clear hq2
 cases q2
 ·skip
  go_enter Tryz.func68, Tryz.ntmps68
  (try simp only [List.append_eq, List.cons_append, List.nil_append])
  go_wp2_with fail
  go_ret
  exact ⟨ret_bool ((no_bool (fun h => by have h := sameQ_iff.1 h; have g := HQ2.out; rw [h] at g; revert g; first | decide | simp [zQ, bs_nil_empty])).symm), by first | exact H1.out.bel | exact al _⟩
 obtain ⟨q3, hq3⟩ := xj (q.ap == 0 && q.al == 0)
 have E3 : ∀ W : World, (binOp .eql 34 (.agg #[uw q.ap, uu q.al]) (.agg #[.int .u64 0, .int .u32 0])).run Tryz.prog W = .ok (.bool q3) W := fun W => by rw [← hq3]; exact run_eql27 q.ap q.al 0 0 W
 have HQ3 : Hid ((q.ap == 0 && q.al == 0) = q3) := hq3
 clear hq3
 cases q3
 ·skip
  go_enter Tryz.func68, Tryz.ntmps68
  (try simp only [List.append_eq, List.cons_append, List.nil_append])
  go_wp2_with fail
  go_ret
  exact ⟨ret_bool ((no_bool (fun h => by have h := sameQ_iff.1 h; have g := HQ3.out; rw [h] at g; revert g; first | decide | simp [zQ, bs_nil_empty])).symm), by first | exact H1.out.bel | exact al _⟩
 obtain ⟨q4, hq4⟩ := xj (bs q.key).toList.isEmpty
 have HQ4 : Hid ((bs q.key).toList.isEmpty = q4) := hq4
 cases q4
 ·skip
  go_enter Tryz.func68, Tryz.ntmps68
  (try simp only [List.append_eq, List.cons_append, List.nil_append])
  go_wp2_with fail
  go_ret
  exact ⟨ret_bool ((no_bool (fun h => by have h := sameQ_iff.1 h; have g := HQ4.out; rw [h] at g; revert g; first | decide | simp [zQ, bs_nil_empty])).symm), by first | exact H1.out.bel | exact al _⟩
 obtain ⟨q5, hq5⟩ := xj (bs q.to).toList.isEmpty
 have HQ5 : Hid ((bs q.to).toList.isEmpty = q5) := hq5
 cases q5
 ·skip
  go_enter Tryz.func68, Tryz.ntmps68
  (try simp only [List.append_eq, List.cons_append, List.nil_append])
  go_wp2_with fail
  go_ret
  exact ⟨ret_bool ((no_bool (fun h => by have h := sameQ_iff.1 h; have g := HQ5.out; rw [h] at g; revert g; first | decide | simp [zQ, bs_nil_empty])).symm), by first | exact H1.out.bel | exact al _⟩
 obtain ⟨q6, hq6⟩ := xj (q.lim == 0)
 have HQ6 : Hid ((q.lim == 0) = q6) := hq6
 cases q6
 ·skip
  go_enter Tryz.func68, Tryz.ntmps68
  (try simp only [List.append_eq, List.cons_append, List.nil_append])
  go_wp2_with fail
  go_ret
  exact ⟨ret_bool ((no_bool (fun h => by have h := sameQ_iff.1 h; have g := HQ6.out; rw [h] at g; revert g; first | decide | simp [zQ, bs_nil_empty])).symm), by first | exact H1.out.bel | exact al _⟩
 obtain ⟨q7, hq7⟩ := xj ((q.pt : Int) == 0)
 have HQ7 : Hid (((q.pt : Int) == 0) = q7) := hq7
 cases q7
 ·skip
  go_enter Tryz.func68, Tryz.ntmps68
  (try simp only [List.append_eq, List.cons_append, List.nil_append])
  go_wp2_with fail
  go_ret
  exact ⟨ret_bool ((no_bool (fun h => by have h := sameQ_iff.1 h; have g := HQ7.out; rw [h] at g; revert g; first | decide | simp [zQ, bs_nil_empty])).symm), by first | exact H1.out.bel | exact al _⟩
 obtain ⟨q8, hq8⟩ := xj ((q.ws.length : Int) == 0)
 have HQ8 : Hid (((q.ws.length : Int) == 0) = q8) := hq8
 cases q8
 ·skip
  go_enter Tryz.func68, Tryz.ntmps68
  (try simp only [List.append_eq, List.cons_append, List.nil_append])
  go_wp2_with fail
  go_ret
  exact ⟨ret_bool ((no_bool (fun h => by have h := sameQ_iff.1 h; have g := HQ8.out; rw [h] at g; revert g; first | decide | simp [zQ, bs_nil_empty])).symm), by first | exact H1.out.bel | exact al _⟩
 obtain ⟨q9, hq9⟩ := xj ((q.sk.length : Int) == 0)
 have HQ9 : Hid (((q.sk.length : Int) == 0) = q9) := hq9
 cases q9
 ·skip
  go_enter Tryz.func68, Tryz.ntmps68
  (try simp only [List.append_eq, List.cons_append, List.nil_append])
  go_wp2_with fail
  go_ret
  exact ⟨ret_bool ((no_bool (fun h => by have h := sameQ_iff.1 h; have g := HQ9.out; rw [h] at g; revert g; first | decide | simp [zQ, bs_nil_empty])).symm), by first | exact H1.out.bel | exact al _⟩
 go_enter Tryz.func68, Tryz.ntmps68
 (try simp only [List.append_eq, List.cons_append, List.nil_append])
 go_wp2_with fail
 go_ret
 exact ⟨ret_bool ((q_zero HQ0.out HQ1.out HQ2.out HQ3.out HQ4.out HQ5.out HQ6.out HQ7.out HQ8.out HQ9.out).symm), by first | exact H1.out.bel | exact al _⟩
theorem noreply26 (r : Rp) (pa : Option Addr) (pc : Nat) (w : World) :
  Calls Tryz.prog 70 #[.agg #[iw r.k, iw r.er, .bool r.fd, sd r.val, .slice pa r.ps.length pc, uu r.c, uu r.n, uw r.sp, uu r.sl, uw r.ap, uu r.al, sd r.prim, uw r.np, uu r.nl]] w fun e w' => e = .returned (.bool (sameR r zR)) ∧ Below w.heap.size w w' := by
 have H0 : Hid _ := bx_new w #[iw r.k, iw r.er, .bool r.fd, sd r.val, .slice pa r.ps.length pc, uu r.c, uu r.n, uw r.sp, uu r.sl, uw r.ap, uu r.al, sd r.prim, uw r.np, uu r.nl] 49
 obtain ⟨W1, hW1⟩ := xj (w.alloc (.cells #[iw r.k, iw r.er, .bool r.fd, sd r.val, .slice pa r.ps.length pc, uu r.c, uu r.n, uw r.sp, uu r.sl, uw r.ap, uu r.al, sd r.prim, uw r.np, uu r.nl] 49))
 obtain ⟨b, hb⟩ := xj w.heap.size
 have H1 : Hid (Bx w b #[iw r.k, iw r.er, .bool r.fd, sd r.val, .slice pa r.ps.length pc, uu r.c, uu r.n, uw r.sp, uu r.sl, uw r.ap, uu r.al, sd r.prim, uw r.np, uu r.nl] 49 W1) := by rw [← hb, ← hW1]; exact H0.out
 clear H0
 have p0 : W1.cell? ⟨b, 0, none⟩ = some (iw r.k) := block_cell H1.out.x rfl
 have p1 : W1.cell? ⟨b, 1, none⟩ = some (iw r.er) := block_cell H1.out.x rfl
 have p2 : W1.cell? ⟨b, 2, none⟩ = some (.bool r.fd) := block_cell H1.out.x rfl
 have p3 : W1.cell? ⟨b, 3, none⟩ = some (sd r.val) := block_cell H1.out.x rfl
 have p4 : W1.cell? ⟨b, 4, none⟩ = some (.slice pa r.ps.length pc) := block_cell H1.out.x rfl
 have p5 : W1.cell? ⟨b, 5, none⟩ = some (uu r.c) := block_cell H1.out.x rfl
 have p6 : W1.cell? ⟨b, 6, none⟩ = some (uu r.n) := block_cell H1.out.x rfl
 have p7 : W1.cell? ⟨b, 7, none⟩ = some (uw r.sp) := block_cell H1.out.x rfl
 have p8 : W1.cell? ⟨b, 8, none⟩ = some (uu r.sl) := block_cell H1.out.x rfl
 have p9 : W1.cell? ⟨b, 9, none⟩ = some (uw r.ap) := block_cell H1.out.x rfl
 have p10 : W1.cell? ⟨b, 10, none⟩ = some (uu r.al) := block_cell H1.out.x rfl
 have p11 : W1.cell? ⟨b, 11, none⟩ = some (sd r.prim) := block_cell H1.out.x rfl
 have p12 : W1.cell? ⟨b, 12, none⟩ = some (uw r.np) := block_cell H1.out.x rfl
 have p13 : W1.cell? ⟨b, 13, none⟩ = some (uu r.nl) := block_cell H1.out.x rfl
 obtain ⟨q0, hq0⟩ := xj (r.k == 0)
 have HQ0 : Hid ((r.k == 0) = q0) := hq0
 cases q0
 ·skip
  go_enter Tryz.func70, Tryz.ntmps70
  (try simp only [List.append_eq, List.cons_append, List.nil_append])
  go_wp2_with fail
  go_ret
  exact ⟨ret_bool ((no_bool (fun h => by have h := sameR_iff.1 h; have g := HQ0.out; rw [h] at g; revert g; first | decide | simp [zR, bs_nil_empty])).symm), by first | exact H1.out.bel | exact al _⟩
 obtain ⟨q1, hq1⟩ := xj (r.er == 0)
 have HQ1 : Hid ((r.er == 0) = q1) := hq1
 cases q1
 ·skip
  go_enter Tryz.func70, Tryz.ntmps70
  (try simp only [List.append_eq, List.cons_append, List.nil_append])
  go_wp2_with fail
  go_ret
  exact ⟨ret_bool ((no_bool (fun h => by have h := sameR_iff.1 h; have g := HQ1.out; rw [h] at g; revert g; first | decide | simp [zR, bs_nil_empty])).symm), by first | exact H1.out.bel | exact al _⟩
 obtain ⟨q2, hq2⟩ := xj r.fd
 have HQ2 : Hid (r.fd = q2) := hq2
 cases q2
 rotate_left
 ·skip
  go_enter Tryz.func70, Tryz.ntmps70
  (try simp only [List.append_eq, List.cons_append, List.nil_append])
  go_wp2_with fail
  go_ret
  exact ⟨ret_bool ((no_bool (fun h => by have h := sameR_iff.1 h; have g := HQ2.out; rw [h] at g; revert g; first | decide | simp [zR, bs_nil_empty])).symm), by first | exact H1.out.bel | exact al _⟩
 obtain ⟨q3, hq3⟩ := xj (bs r.val).toList.isEmpty
 have HQ3 : Hid ((bs r.val).toList.isEmpty = q3) := hq3
 cases q3
 ·skip
  go_enter Tryz.func70, Tryz.ntmps70
  (try simp only [List.append_eq, List.cons_append, List.nil_append])
  go_wp2_with fail
  go_ret
  exact ⟨ret_bool ((no_bool (fun h => by have h := sameR_iff.1 h; have g := HQ3.out; rw [h] at g; revert g; first | decide | simp [zR, bs_nil_empty])).symm), by first | exact H1.out.bel | exact al _⟩
 obtain ⟨q4, hq4⟩ := xj ((r.ps.length : Int) == 0)
 have HQ4 : Hid (((r.ps.length : Int) == 0) = q4) := hq4
 cases q4
 ·skip
  go_enter Tryz.func70, Tryz.ntmps70
  (try simp only [List.append_eq, List.cons_append, List.nil_append])
  go_wp2_with fail
  go_ret
  exact ⟨ret_bool ((no_bool (fun h => by have h := sameR_iff.1 h; have g := HQ4.out; rw [h] at g; revert g; first | decide | simp [zR, bs_nil_empty])).symm), by first | exact H1.out.bel | exact al _⟩
 obtain ⟨q5, hq5⟩ := xj (r.c == 0 && r.n == 0)
 have E5 : ∀ W : World, (binOp .eql 38 (.agg #[uu r.c, uu r.n]) (.agg #[.int .u32 0, .int .u32 0])).run Tryz.prog W = .ok (.bool q5) W := fun W => by rw [← hq5]; exact run_eql24 r.c r.n 0 0 W
 have HQ5 : Hid ((r.c == 0 && r.n == 0) = q5) := hq5
 clear hq5
 cases q5
 ·skip
  go_enter Tryz.func70, Tryz.ntmps70
  (try simp only [List.append_eq, List.cons_append, List.nil_append])
  go_wp2_with fail
  go_ret
  exact ⟨ret_bool ((no_bool (fun h => by have h := sameR_iff.1 h; have g := HQ5.out; rw [h] at g; revert g; first | decide | simp [zR, bs_nil_empty])).symm), by first | exact H1.out.bel | exact al _⟩
 obtain ⟨q6, hq6⟩ := xj (r.sp == 0 && r.sl == 0)
 have E6 : ∀ W : World, (binOp .eql 34 (.agg #[uw r.sp, uu r.sl]) (.agg #[.int .u64 0, .int .u32 0])).run Tryz.prog W = .ok (.bool q6) W := fun W => by rw [← hq6]; exact run_eql27 r.sp r.sl 0 0 W
 have HQ6 : Hid ((r.sp == 0 && r.sl == 0) = q6) := hq6
 clear hq6
 cases q6
 ·skip
  go_enter Tryz.func70, Tryz.ntmps70
  (try simp only [List.append_eq, List.cons_append, List.nil_append])
  go_wp2_with fail
  go_ret
  exact ⟨ret_bool ((no_bool (fun h => by have h := sameR_iff.1 h; have g := HQ6.out; rw [h] at g; revert g; first | decide | simp [zR, bs_nil_empty])).symm), by first | exact H1.out.bel | exact al _⟩
 obtain ⟨q7, hq7⟩ := xj (r.ap == 0 && r.al == 0)
 have E7 : ∀ W : World, (binOp .eql 34 (.agg #[uw r.ap, uu r.al]) (.agg #[.int .u64 0, .int .u32 0])).run Tryz.prog W = .ok (.bool q7) W := fun W => by rw [← hq7]; exact run_eql27 r.ap r.al 0 0 W
 have HQ7 : Hid ((r.ap == 0 && r.al == 0) = q7) := hq7
 clear hq7
 cases q7
 ·skip
  go_enter Tryz.func70, Tryz.ntmps70
  (try simp only [List.append_eq, List.cons_append, List.nil_append])
  go_wp2_with fail
  go_ret
  exact ⟨ret_bool ((no_bool (fun h => by have h := sameR_iff.1 h; have g := HQ7.out; rw [h] at g; revert g; first | decide | simp [zR, bs_nil_empty])).symm), by first | exact H1.out.bel | exact al _⟩
 obtain ⟨q8, hq8⟩ := xj (bs r.prim).toList.isEmpty
 have HQ8 : Hid ((bs r.prim).toList.isEmpty = q8) := hq8
 cases q8
 ·skip
  go_enter Tryz.func70, Tryz.ntmps70
  (try simp only [List.append_eq, List.cons_append, List.nil_append])
  go_wp2_with fail
  go_ret
  exact ⟨ret_bool ((no_bool (fun h => by have h := sameR_iff.1 h; have g := HQ8.out; rw [h] at g; revert g; first | decide | simp [zR, bs_nil_empty])).symm), by first | exact H1.out.bel | exact al _⟩
 obtain ⟨q9, hq9⟩ := xj (r.np == 0 && r.nl == 0)
 have E9 : ∀ W : World, (binOp .eql 34 (.agg #[uw r.np, uu r.nl]) (.agg #[.int .u64 0, .int .u32 0])).run Tryz.prog W = .ok (.bool q9) W := fun W => by rw [← hq9]; exact run_eql27 r.np r.nl 0 0 W
 have HQ9 : Hid ((r.np == 0 && r.nl == 0) = q9) := hq9
 clear hq9
 cases q9
 ·skip
  go_enter Tryz.func70, Tryz.ntmps70
  (try simp only [List.append_eq, List.cons_append, List.nil_append])
  go_wp2_with fail
  go_ret
  exact ⟨ret_bool ((no_bool (fun h => by have h := sameR_iff.1 h; have g := HQ9.out; rw [h] at g; revert g; first | decide | simp [zR, bs_nil_empty])).symm), by first | exact H1.out.bel | exact al _⟩
 go_enter Tryz.func70, Tryz.ntmps70
 (try simp only [List.append_eq, List.cons_append, List.nil_append])
 go_wp2_with fail
 go_ret
 exact ⟨ret_bool ((r_zero HQ0.out HQ1.out HQ2.out HQ3.out HQ4.out HQ5.out HQ6.out HQ7.out HQ8.out HQ9.out).symm), by first | exact H1.out.bel | exact al _⟩
end Go.Proofs.YtkdkgdollmmcnaaGreat
