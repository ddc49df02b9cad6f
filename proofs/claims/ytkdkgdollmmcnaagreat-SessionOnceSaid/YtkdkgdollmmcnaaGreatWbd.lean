import Derived.Sort.Walk0
import Derived.Test.YtkdkgdollmmcnaaGreatWax
set_option maxHeartbeats 4000000
set_option maxRecDepth 100000
set_option linter.unusedVariables false
set_option linter.unusedSimpArgs false
namespace Go.Proofs.YtkdkgdollmmcnaaGreat
open Go.RowKit Go.Sort Go.Shelf
variable {M M' G N : Nat → Prop} {W W' w : World} {f f' : Fo} {X X' : Ss}
theorem nan146 (a : List UInt8) (w : World) : Calls Tryz.prog 146 #[sd a] w fun e w' => e = .returned (.bool false) ∧ w' = w := by
 go_enter Tryz.func146, Tryz.ntmps146
 go_wp2
 go_ret
 exact ⟨by simp, rfl⟩
def cmpF (a b : List UInt8) : Int := if a < b then -1 else if a = b then 0 else 1
theorem bs_toList (a : List UInt8) : (bs a).toList = a := by
 rw [Lib.toList_data]
 exact bs_data a
theorem cmp115 (a b : List UInt8) (w : World) : Calls Tryz.prog 115 #[sd a, sd b] w fun e w' => e = .returned (iw (cmpF a b)) ∧ w' = w := by
 have C1 : Hid (∀ (x : List UInt8) W, 1 = 1 → Calls Tryz.prog 146 #[sd x] W fun e w' => e = .returned (.bool false) ∧ w' = W) := fun x W _ => nan146 x W
 have HL : Op.bytesLess (bs a).toList (bs b).toList = decide (a < b) := by rw [bs_toList, bs_toList]; exact bytesLess_eq a b
 have HE : ((bs a).toList == (bs b).toList) = decide (a = b) := by rw [bs_toList, bs_toList, Bool.eq_iff_iff]; simp
 obtain ⟨c, hc⟩ := xj (cmpF a b)
 have HC : Hid (cmpF a b = c) := hc
 rw [hc]
 clear hc
 by_cases h1 : a < b
 ·have h1b : decide (a < b) = true := by simp [h1]
  rw [h1b] at HL
  have hc1 : c = -1 := by rw [← HC.out, cmpF, if_pos h1]
  clear h1 h1b HE
  go_enter Tryz.func115, Tryz.ntmps115
  go_wp2_with (go_at_call 146; refine (C1.out _ _ (by trivial)).mono ?_; rintro e w2 ⟨rfl, rfl⟩)
  go_ret
  exact ⟨by rw [hc1]; rfl, rfl⟩
 ·have h1b : decide (a < b) = false := by simp [h1]
  rw [h1b] at HL
  by_cases h2 : a = b
  ·have h2b : decide (a = b) = true := by simp [h2]
   rw [h2b] at HE
   have hc1 : c = 0 := by rw [← HC.out, cmpF, if_neg h1, if_pos h2]
   clear h1 h1b h2 h2b HC
   go_enter Tryz.func115, Tryz.ntmps115
   go_wp2_with (go_at_call 146; refine (C1.out _ _ (by trivial)).mono ?_; rintro e w2 ⟨rfl, rfl⟩)
   go_ret
   exact ⟨by rw [hc1]; rfl, rfl⟩
  ·have h2b : decide (a = b) = false := by simp [h2]
   rw [h2b] at HE
   have hc1 : c = 1 := by rw [← HC.out, cmpF, if_neg h1, if_neg h2]
   clear h1 h1b h2 h2b HC
   go_enter Tryz.func115, Tryz.ntmps115
   go_wp2_with (go_at_call 146; refine (C1.out _ _ (by trivial)).mono ?_; rintro e w2 ⟨rfl, rfl⟩)
   go_ret
   exact ⟨by rw [hc1]; rfl, rfl⟩
theorem fnd114 (x : Wr) (key : List UInt8) (w : World) : Calls Tryz.prog 114 #[.agg #[sd x.key, sd x.val, .bool x.dead], sd key] w fun e w' => e = .returned (iw (cmpF x.key key)) ∧ Below w.heap.size w w' := by
 have C1 : Hid (∀ W, 1 = 1 → Calls Tryz.prog 115 #[sd x.key, sd key] W fun e w' => e = .returned (iw (cmpF x.key key)) ∧ w' = W) := fun W _ => cmp115 _ _ W
 go_enter Tryz.func114, Tryz.ntmps114
 go_wp2_with (go_at_call 115; refine (C1.out _ (by trivial)).mono ?_; rintro e w2 ⟨rfl, rfl⟩)
 go_ret
 exact ⟨rfl, al _⟩
theorem key_lt {a b k : List UInt8} (h1 : ¬ b < a) (h2 : b < k) : a < k := List.lt_of_le_of_lt (show a ≤ b from h1) h2
structure FindAt (key : List UInt8) (L : List Wr) (i : Nat) (fd : Bool) : Prop where
 le : i ≤ L.length
 lo : ∀ t, t < i → (L.getD t dw).key < key
 hi : ∀ t, i ≤ t → t < L.length → ¬ (L.getD t dw).key < key
 fd : fd = true ↔ i < L.length ∧ (L.getD i dw).key = key
theorem cmpF_lt (a b : List UInt8) : cmpF a b < 0 ↔ a < b := by
 unfold cmpF
 split
 ·simp [*]
 ·split <;> simp [*]
theorem cmpF_eq (a b : List UInt8) : (cmpF a b == 0) = decide (a = b) := by
 unfold cmpF
 split
 ·rename_i h
  have : a ≠ b := fun e => by subst e; exact absurd h (List.lt_irrefl a)
  simp [this]
 ·split <;> simp [*]
theorem srch113 (L : List Wr) (key : List UInt8) (ao : Option Addr) (cap : Nat) (w : World) (hL : WsAt w.heap.size (.slice ao L.length cap) L w) (hs : ∀ i j, i ≤ j → j < L.length → ¬ (L.getD j dw).key < (L.getD i dw).key) (hl : L.length ≤ 1000) :
  Calls Tryz.prog 113 #[.slice ao L.length cap, sd key, .func (.func 114) #[] #[]] w fun e w' => ∃ (i : Nat) (fd : Bool), e = .returned (.tuple #[iw (i : Int), .bool fd]) ∧ FindAt key L i fd ∧ Below w.heap.size w w' := by
 have HL : Hid (WsAt w.heap.size (.slice ao L.length cap) L w) := hL
 have HS : Hid (∀ i j, i ≤ j → j < L.length → ¬ (L.getD j dw).key < (L.getD i dw).key) := hs
 have C114 : Hid (∀ (x : Wr) W, Below w.heap.size w W → Calls Tryz.prog 114 #[.agg #[sd x.key, sd x.val, .bool x.dead], sd key] W fun e w' => e = .returned (iw (cmpF x.key key)) ∧ Below w.heap.size w w') := fun x W hb => (fnd114 x key W).mono fun e w' ⟨h1, h2⟩ => ⟨h1, hb.trans (h2.mono hb.size)⟩
 have e114 : ∀ args w, (callFunc 114 args).run Tryz.prog w = .ok (.enter 114 args) w := enters_of Tryz.func114 (by kernel_rfl) rfl
 clear hL hs
 obtain ⟨n, hn⟩ := xj L.length
 have HN : Hid (L.length = n) := hn
 rw [hn] at hl ⊢
 clear hn
 go_enter Tryz.func113, Tryz.ntmps113
 go_wp2_with fail
 go_loopw [9, 10] (fun s9 s10 wr => ∃ lo hi : Nat, s9 = iw (lo : Int) ∧ s10 = iw (hi : Int) ∧ lo ≤ hi ∧ hi ≤ n ∧ Hid ((∀ t, t < lo → (L.getD t dw).key < key) ∧ (∀ t, hi ≤ t → t < n → ¬ (L.getD t dw).key < key)) ∧ Hid (Below w.heap.size w wr)) (fun s9 s10 _ => (intOf s10).toNat - (intOf s9).toNat)
 case atStart => exact ⟨0, n, rfl, rfl, Nat.zero_le _, Nat.le_refl _, ⟨fun t ht => absurd ht (by omega), fun t h1 h2 => by omega⟩, Below.refl _ _⟩
 case round =>
  obtain ⟨lo, hi, rfl, rfl, hlh, hin, I, HB⟩ := hrel
  by_cases hlt : lo < hi
  ·obtain ⟨b, off, rfl, ⟨c0, c1, c2⟩⟩ := (HL.out.on HB.out).el (i := (lo + hi) / 2) (by rw [HN.out]; omega)
   obtain ⟨x, hx⟩ := xj (L.getD ((lo + hi) / 2) dw)
   rw [hx] at c0 c1 c2
   have HX : Hid (L.getD ((lo + hi) / 2) dw = x) := hx
   clear hx
   have hmid : ((lo : Int) + (hi : Int)) / 2 = (((lo + hi) / 2 : Nat) : Int) := by omega
   obtain ⟨m, hm⟩ := xj ((lo + hi) / 2)
   have HM : Hid ((lo + hi) / 2 = m) := hm
   rw [hm] at hmid c0 c1 c2
   have hm1 : lo ≤ m ∧ m < hi := by omega
   have hmn : (m : Int) < n := by omega
   have C : Hid (1 = 1 → Calls Tryz.prog 114 #[.agg #[sd x.key, sd x.val, .bool x.dead], sd key] wr fun e w' => e = .returned (iw (cmpF x.key key)) ∧ Below w.heap.size w w') := fun _ => C114.out x wr HB.out
   obtain ⟨c, hc⟩ := xj (cmpF x.key key)
   have HC : Hid (cmpF x.key key = c) := hc
   rw [hc] at C
   clear hc hm
   by_cases hneg : c < 0
   ·go_wp2_with (refine (C.out (by trivial)).mono ?_; rintro e w2 ⟨rfl, hb2⟩; have HB2 : Hid _ := hb2; clear hb2)
    go_roundw
    case measure =>
     show ((hi : Int)).toNat - ((m : Int) + 1).toNat < ((hi : Int)).toNat - ((lo : Int)).toNat
     omega
    case rel =>
     refine ⟨m + 1, hi, by simp, rfl, by omega, hin, ⟨fun t ht => ?_, I.out.2⟩, HB2⟩
     have h1 := HS.out t m (by omega) (by rw [HN.out]; omega)
     have h2 : x.key < key := (cmpF_lt _ _).1 (by rw [HC.out]; exact hneg)
     rw [← HM.out, HX.out] at h1
     exact key_lt h1 h2
   ·go_wp2_with (refine (C.out (by trivial)).mono ?_; rintro e w2 ⟨rfl, hb2⟩; have HB2 : Hid _ := hb2; clear hb2)
    go_roundw
    case measure =>
     show ((m : Int)).toNat - ((lo : Int)).toNat < ((hi : Int)).toNat - ((lo : Int)).toNat
     omega
    case rel =>
     refine ⟨lo, m, rfl, rfl, by omega, by omega, ⟨I.out.1, fun t ht htn => ?_⟩, HB2⟩
     have h1 := HS.out m t ht (by rw [HN.out]; exact htn)
     have h2 : ¬ x.key < key := fun e => by have := (cmpF_lt _ _).2 e; rw [HC.out] at this; omega
     rw [← HM.out, HX.out] at h1
     exact fun e => h2 (key_lt h1 e)
  ·have : hi = lo := by omega
   subst this
   clear hlh hlt
   by_cases hn2 : hi < n
   ·obtain ⟨b, off, rfl, ⟨c0, c1, c2⟩⟩ := (HL.out.on HB.out).el (i := hi) (by rw [HN.out]; omega)
    obtain ⟨x, hx⟩ := xj (L.getD hi dw)
    rw [hx] at c0 c1 c2
    have HX : Hid (L.getD hi dw = x) := hx
    have hmn : (hi : Int) < n := by omega
    have C : Hid (1 = 1 → Calls Tryz.prog 114 #[.agg #[sd x.key, sd x.val, .bool x.dead], sd key] wr fun e w' => e = .returned (iw (cmpF x.key key)) ∧ Below w.heap.size w w') := fun _ => C114.out x wr HB.out
    obtain ⟨c, hc⟩ := xj (cmpF x.key key)
    have HC : Hid (cmpF x.key key = c) := hc
    rw [hc] at C
    clear hc hx
    go_wp2_with (refine (C.out (by trivial)).mono ?_; rintro e w2 ⟨rfl, hb2⟩; have HB2 : Hid _ := hb2; clear hb2)
    go_ret2
    refine ⟨hi, (c == 0), rfl, ⟨by rw [HN.out]; omega, I.out.1, by rw [HN.out]; exact I.out.2, ?_⟩, HB2.out⟩
    rw [← HC.out, cmpF_eq, HX.out, HN.out]
    simp [hn2]
   ·have hmn : ¬ (hi : Int) < n := by omega
    go_wp2_with fail
    go_ret2
    refine ⟨hi, .inl ⟨rfl, ⟨by rw [HN.out]; omega, I.out.1, by rw [HN.out]; exact I.out.2, ?_⟩, HB.out⟩⟩
    rw [HN.out]
    simp [hn2]
theorem find77 (h : SC f N X w) (ha : X.act = true) (key : List UInt8) (hs : ∀ i j, i ≤ j → j < X.ws.length → ¬ (X.ws.getD j dw).key < (X.ws.getD i dw).key) (hl : X.ws.length ≤ 1000) : Calls Tryz.prog 77 #[pz f.tb, sd key] w fun e w' => ∃ (i : Nat) (fd : Bool), e = .returned (.tuple #[iw (i : Int), .bool fd]) ∧ FindAt key X.ws i fd ∧ Below w.heap.size w w' := by
 obtain ⟨ao, cap, hv, -, -⟩ := WsAt.shape (rw_own (h.tx ha).2)
 have t4 : w.cell? ⟨f.tb, 4, none⟩ = some (.slice ao X.ws.length cap) := by rw [← hv]; exact block_cell (h.tx ha).1 rfl
 have C : Hid (1 = 1 → Calls Tryz.prog 113 #[.slice ao X.ws.length cap, sd key, .func (.func 114) #[] #[]] w fun e w' => ∃ (i : Nat) (fd : Bool), e = .returned (.tuple #[iw (i : Int), .bool fd]) ∧ FindAt key X.ws i fd ∧ Below w.heap.size w w') := fun _ => srch113 X.ws key ao cap w (by rw [← hv]; exact rw_own (h.tx ha).2) hs hl
 clear h hv hs hl
 go_enter Tryz.func77, Tryz.ntmps77
 go_wp2_with fail
 refine (C.out (by trivial)).mono ?_
 rintro e w2 ⟨i, fd, rfl, h1, h2⟩
 have HF : Hid _ := And.intro h1 h2
 clear h1 h2 C
 go_wp2_with fail
 go_ret2
 exact ⟨i, fd, rfl, HF.out.1, HF.out.2⟩
theorem kOk_keyB (k : List UInt8) : Pla.keyB k = kOk k := rfl
theorem FindAt.look {key : List UInt8} {L : List Wr} {i : Nat} {fd : Bool} (h : FindAt key L i fd) (hs : ∀ i j, i ≤ j → j < L.length → ¬ (L.getD j dw).key < (L.getD i dw).key) : lookF key L = if fd then some (L.getD i dw) else none := by
 unfold lookF
 have hge : ∀ t (ht : t < L.length), L.getD t dw = L[t] := fun t ht => by rw [List.getD_eq_getElem?_getD, List.getElem?_eq_getElem ht]; rfl
 cases hf : fd
 ·simp only [Bool.false_eq_true, if_false]
  rw [List.find?_eq_none]
  intro x hx
  obtain ⟨t, ht, rfl⟩ := List.mem_iff_getElem.1 hx
  simp only [beq_iff_eq]
  intro e
  rw [← hge t ht] at e
  by_cases hti : t < i
  ·have := h.lo t hti
   rw [e] at this
   exact absurd this (List.lt_irrefl key)
  ·have hil : i < L.length := by omega
   have h1 := h.hi i (Nat.le_refl _) hil
   have h2 := hs i t (by omega) ht
   rw [e] at h2
   have he : (L.getD i dw).key = key := List.le_antisymm (show (L.getD i dw).key ≤ key from h2) (show key ≤ (L.getD i dw).key from h1)
   have := h.fd.2 ⟨hil, he⟩
   rw [hf] at this
   cases this
 ·simp only [if_true]
  obtain ⟨h1, h2⟩ := h.fd.1 hf
  rw [List.find?_eq_some_iff_getElem]
  refine ⟨by simp only [beq_iff_eq]; exact h2, i, h1, (hge i h1).symm, fun j hj => ?_⟩
  have := h.lo j hj
  rw [hge j (by omega)] at this
  simp only [Bool.not_eq_true', beq_eq_false_iff_ne]
  intro e
  rw [e] at this
  exact absurd this (List.lt_irrefl key)
theorem SC.op (h : SC f N X W) (o : Op) (hk : Kept (fun k => k = f.sb) W W') (hb : W'.heap[f.sb]? = some (.cells (sbA f { X with op := o }) 77 (0, 0))) : To f N X.act W f { X with op := o } W' := by
 have s : Stay (fun k => k = f.sb) (f.Ex N X.act) (f.Ex N X.act) W W' := ⟨hk, fun k e => .inr (.inl e), fun k _ e => e⟩
 have B : ∀ {b : Nat} {cs : Array Value} {ty : TypeId}, W.heap[b]? = some (.cells cs ty (0, 0)) → ty ≠ 77 → W'.heap[b]? = some (.cells cs ty (0, 0)) := fun {b cs ty} e h1 => by rw [hk.block b (lt_blk e) (ne_tag e h.blk h1)]; exact e
 have O : ∀ {base e size : Nat} {v : Value} {n : Nat} {cs : List Value}, W.ownsRow base e size v n cs → e ≠ 77 → W'.ownsRow base e size v n cs := fun h0 h1 => own_kept h0 hk fun k hv e => by
  subst e
  exact own_ne h0 h.blk h1 hv
 exact ⟨⟨hb, fun a => ⟨B (h.tx a).1 (by decide), O (h.tx a).2 (by decide)⟩, O h.ra (by decide), O h.ro (by decide), h.ea, h.eo, ⟨fun a => B (h.bx.l a) (by decide), fun a => ⟨B (h.bx.p a).1 (by decide), O (h.bx.p a).2.1 (by decide), (h.bx.p a).2.2.stay s⟩, fun a => ⟨B (h.bx.c a).1 (by decide), (h.bx.c a).2⟩, h.bx.le⟩, fun n a => B (h.gb n a) (by decide), h.gd, fun x hx => (h.ak x hx).stay s (SameF.refl f) rfl (fun _ _ => rfl), fun x hx => ⟨(h.lk x hx).1.stay s, (h.lk x hx).2⟩⟩, hk.mono (fun k e => .inl e), fun i hi => .inl hi⟩
theorem get30a (u : Un f N X 9 w) (key : List UInt8) (hk : kOk key = false) : Calls Tryz.prog 30 #[pz f.sb, sd key] w (Got f N X w X (badF X 1)) := by
 have X0 := (Cx.start (Lo := []) u.sc u.nk nb).box11 #[pz f.sb] 24 RZ 41
 obtain ⟨W1, hW1⟩ := xj ((w.alloc (.cells #[pz f.sb] 24)).alloc (.cells RZ 41))
 rw [hW1] at X0
 have c1 : W1.cell? ⟨w.heap.size, 0, none⟩ = some (pz f.sb) := X0.bc
 have p1 : W1.cell? ⟨f.sb, 1, none⟩ = some (iw (X.nsh : Int)) := block_cell X0.sc.blk rfl
 have p6 : W1.cell? ⟨f.sb, 6, none⟩ = some (pz f.tb) := block_cell X0.sc.blk (by simp [sbA, vtV, u.act])
 have C26 : Hid (1 = 1 → Calls Tryz.prog 26 #[sd key, iw (X.nsh : Int)] W1 fun r w' => r = .returned (.tuple #[iw 0, iw 1]) ∧ W1 = w') := fun _ => by
  have c := Pla.shard11 key (X.nsh : Int) W1
  rw [Pla.shard_no (by rw [kOk_keyB, hk]; simp)] at c
  exact c
 have C2 : Hid (1 = 1 → Calls Tryz.prog 28 #[pz f.sb, iw 1] W1 fun r w' => r = .returned (rsV (badF X 1)) ∧ Cx (f.In X.act) N w f X [(w.heap.size, #[pz f.sb], 24)] [(w.heap.size + 1, RZ, 41)] w') := fun _ => (refuse28 1 X0.sc).mono fun e w' ⟨h1, h2⟩ => ⟨h1, X0.on h2⟩
 have HBd : Hid (Bd f X) := u.bd
 clear u X0 hk
 go_enter Tryz.func30, Tryz.ntmps30
 go_wp2_with fail
 refine (C26.out (by trivial)).mono ?_
 rintro e w2 ⟨rfl, rfl⟩
 go_wp2_with fail
 refine (C2.out (by trivial)).mono ?_
 rintro r w3 ⟨rfl, h3⟩
 have X3 : Hid _ := h3
 clear h3 C2 C26 c1 p1 p6 hW1
 unfold rsV
 go_wp2_with (refine sr X3.out ?_)
 refine bj X3.out ?_
 exact ⟨rfl, _, (X3.out.poke (setRow_kept _ _ _) (setRow_at (X3.out.bm mc)) nb).to, rfl, HBd.out⟩
theorem get30b (u : Un f N X 9 w) (key : List UInt8) (hk : kOk key = true) (hs : ∀ i j, i ≤ j → j < X.ws.length → ¬ (X.ws.getD j dw).key < (X.ws.getD i dw).key) (x : Wr) (hlk : lookF key X.ws = some x) : Calls Tryz.prog 30 #[pz f.sb, sd key] w (Got f N X w X { resF X 2 with fd := !x.dead, val := x.val }) := by
 have X0 := (Cx.start (Lo := []) u.sc u.nk nb).box11 #[pz f.sb] 24 RZ 41
 obtain ⟨W1, hW1⟩ := xj ((w.alloc (.cells #[pz f.sb] 24)).alloc (.cells RZ 41))
 rw [hW1] at X0
 have c1 : W1.cell? ⟨w.heap.size, 0, none⟩ = some (pz f.sb) := X0.bc
 have p1 : W1.cell? ⟨f.sb, 1, none⟩ = some (iw (X.nsh : Int)) := block_cell X0.sc.blk rfl
 have p6 : W1.cell? ⟨f.sb, 6, none⟩ = some (pz f.tb) := block_cell X0.sc.blk (by simp [sbA, vtV, u.act])
 obtain ⟨sn, hsn⟩ := xj (Pla.shardF key (X.nsh : Int)).1
 have C26 : Hid (1 = 1 → Calls Tryz.prog 26 #[sd key, iw (X.nsh : Int)] W1 fun r w' => r = .returned (.tuple #[iw sn, iw 0]) ∧ W1 = w') := fun _ => by
  have c := Pla.shard11 key (X.nsh : Int) W1
  have h0 : (Pla.shardF key (X.nsh : Int)).2 = 0 := by
   rcases Pla.shard_code key (X.nsh : Int) with h | h
   ·exact h.1
   ·have := u.ns
    exact absurd ⟨(kOk_keyB key).trans hk, by omega, by omega⟩ h.2
  rw [h0, hsn] at c
  exact c
 have C77 : Hid (1 = 1 → Calls Tryz.prog 77 #[pz f.tb, sd key] W1 fun e w' => ∃ i : Nat, e = .returned (.tuple #[iw (i : Int), .bool true]) ∧ i < X.ws.length ∧ X.ws.getD i dw = x ∧ Cx (f.In X.act) N w f X [(w.heap.size, #[pz f.sb], 24)] [(w.heap.size + 1, RZ, 41)] w') := fun _ => (find77 X0.sc u.act key hs u.ws).mono fun e w' ⟨i, fd, h1, h2, h3⟩ => by
  have hl := h2.look hs
  rw [hlk] at hl
  cases fd
  ·cases hl
  ·exact ⟨i, h1, (h2.fd.1 rfl).1, by simpa using hl.symm, X0.on h3⟩
 have HBd : Hid (Bd f X) := u.bd
 have HU : Hid (X.act = true) := u.act
 clear u X0 hk hs hlk hsn
 go_enter Tryz.func30, Tryz.ntmps30
 go_wp2_with fail
 refine (C26.out (by trivial)).mono ?_
 rintro e w2 ⟨rfl, rfl⟩
 go_wp2_with fail
 refine (C77.out (by trivial)).mono ?_
 rintro e w2 ⟨i, rfl, hil, hx, h2⟩
 obtain ⟨ao, cap, hv, -, -⟩ := WsAt.shape (rw_own (h2.sc.tx HU.out).2)
 have hws : WsAt w2.heap.size (.slice ao X.ws.length cap) X.ws w2 := by rw [← hv]; exact rw_own (h2.sc.tx HU.out).2
 obtain ⟨g, off, rfl, ⟨d0, d1, d2⟩⟩ := hws.el hil
 rw [hx] at d0 d1 d2
 have e1 : w2.cell? ⟨w.heap.size, 0, none⟩ = some (pz f.sb) := h2.bc
 have e6 : w2.cell? ⟨f.sb, 6, none⟩ = some (pz f.tb) := block_cell h2.sc.blk (by simp [sbA, vtV, HU.out])
 have e4 : w2.cell? ⟨f.tb, 4, none⟩ = some (.slice (some ⟨g, off, none⟩) X.ws.length cap) := by rw [← hv]; exact block_cell (h2.sc.tx HU.out).1 rfl
 have l1 : w.heap.size < w2.heap.size := World.block_lt_of_cell? _ _ e1
 obtain ⟨n, hn⟩ := xj X.ws.length
 rw [hn] at e4 hil
 have hin : (i : Int) < n := by omega
 have XA : Hid (Cx (f.In X.act) N w f X [(w.heap.size, #[pz f.sb], 24)] [(w.heap.size + 1, RZ, 41)] (w2.alloc (.cells #[sd x.key, sd x.val, .bool x.dead] 70))) := h2.on (al _)
 obtain ⟨W2, hW2⟩ := xj (w2.alloc (.cells #[sd x.key, sd x.val, .bool x.dead] 70))
 rw [hW2] at XA
 have C78 : Hid (1 = 1 → Calls Tryz.prog 78 #[pz f.sb, .bool (!x.dead), sd x.val] W2 fun e w' => e = .returned (rsV { resF X 2 with fd := !x.dead, val := x.val }) ∧ Cx (f.In X.act) N w f X [(w.heap.size, #[pz f.sb], 24)] [(w.heap.size + 1, RZ, 41)] w') := fun _ => (toldValue78 (!x.dead) x.val XA.out.sc).mono fun e w' ⟨h1, h2⟩ => ⟨h1, XA.out.on h2⟩
 have zb : W2.heap[w2.heap.size]? = some (.cells #[sd x.key, sd x.val, .bool x.dead] 70 (0, 0)) := by rw [← hW2]; exact heap_alloc_new w2 _
 have z1 : W2.cell? ⟨w2.heap.size, 1, none⟩ = some (sd x.val) := block_cell zb rfl
 have z2 : W2.cell? ⟨w2.heap.size, 2, none⟩ = some (.bool x.dead) := block_cell zb rfl
 have y1 : W2.cell? ⟨w.heap.size, 0, none⟩ = some (pz f.sb) := XA.out.bc
 clear h2 hws hv C77 C26 c1 p1 p6 hW1 hn hx XA zb
 go_wp2_with fail
 refine (C78.out (by trivial)).mono ?_
 rintro r w3 ⟨rfl, h3⟩
 have X3 : Hid _ := h3
 clear h3 C78 d0 d1 d2 e1 e6 e4 l1 z1 z2 y1 hW2
 unfold rsV
 go_wp2_with (refine sr X3.out ?_)
 refine bj X3.out ?_
 exact ⟨rfl, _, (X3.out.poke (setRow_kept _ _ _) (setRow_at (X3.out.bm mc)) nb).to, rfl, HBd.out⟩
theorem get30c (u : Un f N X 9 w) (key : List UInt8) (hk : kOk key = true) (hs : ∀ i j, i ≤ j → j < X.ws.length → ¬ (X.ws.getD j dw).key < (X.ws.getD i dw).key) (hlk : lookF key X.ws = none) (o : Op) (ho : o.k = 2) : Calls Tryz.prog 30 #[pz f.sb, sd key] w (Got f N X w (askF { X with op := o } (akF (homeF bt X key) { zQ with k := 1, c := X.cl, n := X.n, sp := X.sp, sl := X.sl, key := key })) zS) := by
 have X0 := (Cx.start (Lo := []) u.sc u.nk nb).box11 #[pz f.sb] 24 RZ 41
 obtain ⟨W1, hW1⟩ := xj ((w.alloc (.cells #[pz f.sb] 24)).alloc (.cells RZ 41))
 rw [hW1] at X0
 have c1 : W1.cell? ⟨w.heap.size, 0, none⟩ = some (pz f.sb) := X0.bc
 have p1 : W1.cell? ⟨f.sb, 1, none⟩ = some (iw (X.nsh : Int)) := block_cell X0.sc.blk rfl
 have p6 : W1.cell? ⟨f.sb, 6, none⟩ = some (pz f.tb) := block_cell X0.sc.blk (by simp [sbA, vtV, u.act])
 obtain ⟨hm, hhm⟩ := xj (homeF bt X key)
 have hN : hm < 4294967296 := by rw [← hhm]; exact homeF_lt _ u.ns.2
 rw [hhm]
 have C26 : Hid (1 = 1 → Calls Tryz.prog 26 #[sd key, iw (X.nsh : Int)] W1 fun r w' => r = .returned (.tuple #[iw (hm : Int), iw 0]) ∧ W1 = w') := fun _ => by
  have c := Pla.shard11 key (X.nsh : Int) W1
  have h0 : (Pla.shardF key (X.nsh : Int)).2 = 0 := by
   rcases Pla.shard_code key (X.nsh : Int) with h | h
   ·exact h.1
   ·have := u.ns
    exact absurd ⟨(kOk_keyB key).trans hk, by omega, by omega⟩ h.2
  rw [h0, home_int, show (bt.home key X.nsh).getD 0 = hm from hhm] at c
  exact c
 have C77 : Hid (1 = 1 → Calls Tryz.prog 77 #[pz f.tb, sd key] W1 fun e w' => ∃ i : Nat, e = .returned (.tuple #[iw (i : Int), .bool false]) ∧ Cx (f.In X.act) N w f X [(w.heap.size, #[pz f.sb], 24)] [(w.heap.size + 1, RZ, 41)] w') := fun _ => (find77 X0.sc u.act key hs u.ws).mono fun e w' ⟨i, fd, h1, h2, h3⟩ => by
  have hl := h2.look hs
  rw [hlk] at hl
  cases fd
  ·exact ⟨i, h1, X0.on h3⟩
  ·cases hl
 have HU : Hid (Un f N X 9 w) := u
 clear u X0 hk hs hlk hhm
 go_enter Tryz.func30, Tryz.ntmps30
 go_wp2_with fail
 refine (C26.out (by trivial)).mono ?_
 rintro e w2 ⟨rfl, rfl⟩
 go_wp2_with fail
 refine (C77.out (by trivial)).mono ?_
 rintro e w2 ⟨i, rfl, h2⟩
 have e1 : w2.cell? ⟨w.heap.size, 0, none⟩ = some (pz f.sb) := h2.bc
 have p7 : w2.cell? ⟨f.sb, 7, none⟩ = some (vsV f.sb X.op.k X.stg) := block_cell h2.sc.blk rfl
 have g7 : w2.frozen? ⟨f.sb, 7, none⟩ = false := block_frozen h2.sc.blk 7
 have XA : Hid (Cx (f.In X.act) N w f { X with op := o } [(w.heap.size, #[pz f.sb], 24)] [(w.heap.size + 1, RZ, 41)] (w2.setCell ⟨f.sb, 7, none⟩ (.func (.func 79) #[pz f.sb] #[]))) := h2.next (h2.sc.op o (set_kept' w2 f.sb 7 (.func (.func 79) #[pz f.sb] #[])) (by
  have e := block_set (j := 7) (.func (.func 79) #[pz f.sb] #[]) h2.sc.blk
  rw [e]
  simp [sbA, vsV, ho]))
 obtain ⟨W2, hW2⟩ := xj (w2.setCell ⟨f.sb, 7, none⟩ (.func (.func 79) #[pz f.sb] #[]))
 rw [hW2] at XA
 have hbd : Bd f { X with op := o } := ⟨fun e => absurd (show o.k = 3 from e) (by rw [ho]; decide), fun e => absurd (show o.k = 6 from e) (by rw [ho]; decide), HU.out.bd.gs⟩
 have SN : Hid (∀ W, Cx (f.In X.act) N w f { X with op := o } [(w.heap.size, #[pz f.sb], 24)] [(w.heap.size + 1, RZ, 41)] W → W.cell? ⟨w.heap.size, 0, none⟩ = some (pz f.sb) ∧ W.cell? ⟨f.sb, 6, none⟩ = some (pz f.tb) ∧ W.cell? ⟨f.tb, 0, none⟩ = some (uu X.cl) ∧ W.cell? ⟨f.tb, 1, none⟩ = some (uu X.n) ∧ W.cell? ⟨f.tb, 2, none⟩ = some (uw X.sp) ∧ W.cell? ⟨f.tb, 3, none⟩ = some (uu X.sl)) := fun W c => ⟨c.bc, block_cell c.sc.blk (by simp [sbA, vtV, HU.out.act]), block_cell (c.sc.tx HU.out.act).1 rfl, block_cell (c.sc.tx HU.out.act).1 rfl, block_cell (c.sc.tx HU.out.act).1 rfl, block_cell (c.sc.tx HU.out.act).1 rfl⟩
 have SL : Hid (∀ f' X' W, Cx (f.In X.act) N w f' X' [(w.heap.size, #[pz f.sb], 24)] [(w.heap.size + 1, RZ, 41)] W → W.cell? ⟨w.heap.size, 0, none⟩ = some (pz f.sb)) := fun f' X' W c => c.bc
 have C80 : Hid (∀ W, Cx (f.In X.act) N w f { X with op := o } [(w.heap.size, #[pz f.sb], 24)] [(w.heap.size + 1, RZ, 41)] W → Calls Tryz.prog 80 #[pz f.sb, iw (hm : Int), .agg #[iw 1, uu X.cl, uu X.n, uw X.sp, uu X.sl, .int .u64 0, .int .u32 0, sd key, su, iw 0, .int .u8 0, sy, sy], .func (.func 81) #[] #[pz w.heap.size]] W fun e w' => e = .returned (.tuple #[]) ∧ ∃ f', Cx (f.In X.act) N w f' (askF { X with op := o } (akF hm { zQ with k := 1, c := X.cl, n := X.n, sp := X.sp, sl := X.sl, key := key })) [(w.heap.size, #[pz f.sb], 24)] [(w.heap.size + 1, RZ, 41)] w' ∧ f'.sb = f.sb ∧ f'.tb = f.tb ∧ Bd f' (askF { X with op := o } (akF hm { zQ with k := 1, c := X.cl, n := X.n, sp := X.sp, sl := X.sl, key := key }))) := fun W c => by
  have hd : DoAt (f.Ex (Nm N [(w.heap.size + 1, RZ, 41)]) X.act) f W 1 (.func (.func 81) #[] #[pz w.heap.size]) := ⟨w.heap.size, c.fx (by simp), fun _ => rfl, (fun e => absurd e (by decide)), (fun e => absurd e (by decide))⟩
  have hrm : Room f { X with op := o } := ⟨HU.out.rm.room.sq, HU.out.rm.room.la, HU.out.rm.room.lo⟩
  exact (try80 c.sc (fun k hk => (c.nok k hk).1) hrm hm { zQ with k := 1, c := X.cl, n := X.n, sp := X.sp, sl := X.sl, key := key } sy sy rfl rfl (.func 81) #[] _ #[iw 1, uu X.cl, uu X.n, uw X.sp, uu X.sl, .int .u64 0, .int .u32 0, sd key, su, iw 0, .int .u8 0, sy, sy] rfl hN (qf_nil _ _ _ rfl rfl) (show (1 : Int) ≤ 3 by decide) hd).mono fun e w' ⟨fv, h1, va, vo, h2⟩ => ⟨h1, _, c.next h2, rfl, rfl, hbd.ask rfl⟩
 have SN2 : Hid (∀ f' W, Cx (f.In X.act) N w f' (askF { X with op := o } (akF hm { zQ with k := 1, c := X.cl, n := X.n, sp := X.sp, sl := X.sl, key := key })) [(w.heap.size, #[pz f.sb], 24)] [(w.heap.size + 1, RZ, 41)] W → f'.sb = f.sb → f'.tb = f.tb → W.cell? ⟨w.heap.size, 0, none⟩ = some (pz f.sb) ∧ W.cell? ⟨f.sb, 6, none⟩ = some (pz f.tb) ∧ W.cell? ⟨f.tb, 0, none⟩ = some (uu X.cl) ∧ W.cell? ⟨f.tb, 1, none⟩ = some (uu X.n) ∧ W.cell? ⟨f.tb, 2, none⟩ = some (uw X.sp) ∧ W.cell? ⟨f.tb, 3, none⟩ = some (uu X.sl)) := fun f' W c e1 e2 => ⟨SL.out _ _ _ c, by rw [← e1, ← e2]; exact block_cell c.sc.blk (by simp [sbA, vtV, HU.out.act, askF]), by rw [← e2]; exact block_cell (c.sc.tx HU.out.act).1 rfl, by rw [← e2]; exact block_cell (c.sc.tx HU.out.act).1 rfl, by rw [← e2]; exact block_cell (c.sc.tx HU.out.act).1 rfl, by rw [← e2]; exact block_cell (c.sc.tx HU.out.act).1 rfl⟩
 have HX : Hid (Cx (f.In X.act) N w f { X with op := o } [(w.heap.size, #[pz f.sb], 24)] [(w.heap.size + 1, RZ, 41)] W2.drew) := XA.out.drew
 clear h2 C77 C26 c1 p1 p6 hW1 XA hbd ho
 generalize vsV f.sb X.op.k X.stg = v7 at *
 go_upto_region 9 with fail
 refine wp_region_held_drew (S := (fun W => W.cell? ⟨w.heap.size, 0, none⟩ = some (pz f.sb) ∧ W.cell? ⟨f.sb, 6, none⟩ = some (pz f.tb) ∧ W.cell? ⟨f.tb, 0, none⟩ = some (uu X.cl) ∧ W.cell? ⟨f.tb, 1, none⟩ = some (uu X.n) ∧ W.cell? ⟨f.tb, 2, none⟩ = some (uw X.sp) ∧ W.cell? ⟨f.tb, 3, none⟩ = some (uu X.sl))) (by kernel_rfl) (SN.out _ HX.out) (fun hHeld => ?_)
 refine tw 0 ?_
 refine tq 1 ?_
 refine tw 2 ?_
 refine tq 3 ?_
 refine tq 4 ?_
 refine tw 5 ?_
 refine tq 6 ?_
 refine tq 7 ?_
 refine tw 8 ?_
 refine tw 9 ?_
 refine tq 10 ?_
 refine tq 11 ?_
 refine tw 12 ?_
 refine tq 13 ?_
 refine tq 14 ?_
 refine tw 15 ?_
 refine tq 16 ?_
 refine tq 17 ?_
 refine tq 18 ?_
 refine rd 19 (fun K hK => ?_)
 go_simp
 refine (C80.out _ HX.out).mono ?_
 rintro e w4 ⟨rfl, f', h4, hsb, htb, hbd⟩
 have SE := SN2.out _ _ h4 hsb htb
 have HF : Hid _ := And.intro hsb hbd
 have X3 : Hid _ := h4
 clear h4 hsb hbd htb
 go_wp2_with fail
 refine kj hK SE (fun hHeld => ?_)
 clear hK K
 refine wpAnyH_done (by kernel_rfl) ?_ _
 clear hHeld SE SN2 SN SL C80 HX e1 p7 g7 hW2
 have hr := rsc_all zS sy rfl
 go_wp2_with (refine wpList_store_row rfl 41 _ _ rfl (w.heap.size + 1) (rsc zS sy).toArray rfl rfl 41 _ (X3.out.bm mc) (by kernel_rfl) rfl hr ?_)
 refine bj X3.out ?_
 exact ej X3.out HF.out
theorem not134 (rc : Array Value) (w : World) : Calls Tryz.prog 134 #[.agg rc] w fun e w' => e = .returned (rsV zS) ∧ Below w.heap.size w w' := by
 have hx : ((w.alloc (.cells rc 49)).alloc (.cells RZ 41)).heap[w.heap.size + 1]? = some (.cells RZ 41 (0, 0)) := by
  have := heap_alloc_new (w.alloc (.cells rc 49)) (.cells RZ 41)
  rw [size_al] at this
  exact this
 have hb : Below w.heap.size w ((w.alloc (.cells rc 49)).alloc (.cells RZ 41)) := (al _).trans ((al _).mono (by simp))
 obtain ⟨W1, hW1⟩ := xj ((w.alloc (.cells rc 49)).alloc (.cells RZ 41))
 rw [hW1] at hx hb
 have HX : Hid _ := hx
 have HB : Hid _ := hb
 have hr := rsc_all zS sy rfl
 clear hx hb
 go_enter Tryz.func134, Tryz.ntmps134
 go_wp2_with (refine wpList_store_row rfl 41 _ _ rfl (w.heap.size + 1) (rsc zS sy).toArray rfl rfl 41 _ HX.out (by kernel_rfl) rfl hr ?_)
 refine bodyPost_ret (res11 rfl rfl rfl (setRow_at HX.out)) rfl ?_
 exact ⟨rfl, below_row HB.out (by omega) _⟩
theorem fin155 (h : SC f N X w) (rm : Room f X) (n c hm : Nat) (hh : hm < 4294967296) (bs' bh bt' : Nat) (k2 : W.heap[bs']? = W.heap[bs']?) (e2 : w.heap[bs']? = some (.cells #[pz f.sb] 24 (0, 0))) (e3 : w.heap[bh]? = some (.cells #[iw (hm : Int)] 3 (0, 0))) (e4 : w.heap[bt']? = some (.cells #[uu c, uu n] 38 (0, 0))) : Calls Tryz.prog 155 #[pz bs', pz bh, pz bt'] w fun e w' => e = .returned (.tuple #[]) ∧ ∃ va vo, To f N X.act w (f.ask X { akF hm { zQ with k := 9, c := c, n := n } with ch := true, oc := c, on := n } sy sy (.func (.func 134) #[] #[]) va vo) (doneF X c n hm) w' := by
 have c2 : w.cell? ⟨bs', 0, none⟩ = some (pz f.sb) := block_cell e2 rfl
 have c3 : w.cell? ⟨bh, 0, none⟩ = some (iw (hm : Int)) := block_cell e3 rfl
 have c4 : w.cell? ⟨bt', 0, none⟩ = some (uu c) := block_cell e4 rfl
 have c5 : w.cell? ⟨bt', 1, none⟩ = some (uu n) := block_cell e4 rfl
 have C : Hid (1 = 1 → Calls Tryz.prog 132 #[pz f.sb, iw (hm : Int), .agg #[iw 9, uu c, uu n, .int .u64 0, .int .u32 0, .int .u64 0, .int .u32 0, su, su, iw 0, .int .u8 0, sy, sy], .func (.func 134) #[] #[]] w (Asked f N X w { akF hm { zQ with k := 9, c := c, n := n } with ch := true, oc := c, on := n } sy sy (.func (.func 134) #[] #[]))) := fun _ => chore132 h rm hm _ sy sy (.func 134) #[] #[] #[iw 9, uu c, uu n, .int .u64 0, .int .u32 0, .int .u64 0, .int .u32 0, su, su, iw 0, .int .u8 0, sy, sy] rfl rfl rfl hh (chore_is (h := 0) (show (9 : Int) ≠ 5 by decide) rfl rfl)
 clear h rm e2 e3 e4 k2
 go_enter Tryz.func155, Tryz.ntmps155
 go_wp2_with fail
 refine (C.out (by trivial)).mono ?_
 rintro e w2 ⟨rfl, va, vo, ht⟩
 have HT : Hid _ := ht
 clear ht C
 go_wp2_with fail
 go_end0
 exact ⟨rfl, va, vo, HT.out⟩
theorem SC.count (h : SC f N X W) {n : Nat} (hg : n ∈ f.gs) (L1 : Int) (hk : Kept (fun k => k = f.gl n) W W') (hb : W'.heap[f.gl n]? = some (.cells #[iw L1] 3 (0, 0))) : To f N X.act W { f with gv := fun m => if m = n then L1 else f.gv m } X W' := by
 have hxi : f.In X.act (f.gl n) := .inr (.inr (.inr (.inr (.inr ⟨n, hg, rfl⟩))))
 have s : Stay (fun k => k = f.gl n) (f.Ex N X.act) (({ f with gv := fun m => if m = n then L1 else f.gv m } : Fo).Ex N X.act) W W' := ⟨hk, fun k e => by subst e; exact .inr hxi, fun k _ e => e⟩
 have hx := h.gb n hg
 have B : ∀ {b : Nat} {cs : Array Value} {ty : TypeId}, W.heap[b]? = some (.cells cs ty (0, 0)) → ty ≠ 3 → W'.heap[b]? = some (.cells cs ty (0, 0)) := fun {b cs ty} e h1 => by rw [hk.block b (lt_blk e) (ne_tag e hx h1)]; exact e
 have O : ∀ {base e size : Nat} {v : Value} {n : Nat} {cs : List Value}, W.ownsRow base e size v n cs → e ≠ 3 → W'.ownsRow base e size v n cs := fun h0 h1 => own_kept h0 hk fun k hv e => by
  subst e
  exact own_ne h0 hx h1 hv
 refine ⟨⟨B h.blk (by decide), fun a => ⟨B (h.tx a).1 (by decide), O (h.tx a).2 (by decide)⟩, O h.ra (by decide), O h.ro (by decide), h.ea, h.eo, ⟨fun a => by rw [hk.block _ (lt_blk (h.bx.l a)) (fun e => (h.gd n hg).1 a e.symm)]; exact h.bx.l a, fun a => ⟨B (h.bx.p a).1 (by decide), O (h.bx.p a).2.1 (by decide), (h.bx.p a).2.2.stay s⟩, fun a => ⟨B (h.bx.c a).1 (by decide), (h.bx.c a).2⟩, h.bx.le⟩, fun m a => ?_, h.gd, fun x hx => (h.ak x hx).stay s ⟨rfl, rfl, rfl, rfl, fun _ h => ⟨h, rfl⟩⟩ rfl (fun _ _ => rfl), fun x hx => ⟨(h.lk x hx).1.stay s, (h.lk x hx).2⟩⟩, hk.mono (fun k e => by subst e; exact hxi), fun i hi => .inl hi⟩
 by_cases e : m = n
 ·subst e
  simp only [if_true]
  exact hb
 ·have hne : f.gl m ≠ f.gl n := fun e2 => e ((h.gd n hg).2 m a e2)
  simp only [e, if_false]
  rw [hk.block _ (lt_blk (h.gb m a)) hne]
  exact h.gb m a
theorem suc156a (h : SC f N X w) (hn : Nok N f X.act w) (rm : Room f X) (n c hm : Nat) (hh : hm < 4294967296) (bf bs' bh bt' : Nat) (hg : n ∈ f.gs) (k1 : Fx (f.Ex N X.act) w bf #[(.func (.func 155) #[] #[pz bs', pz bh, pz bt'])] 1) (k2 : Fx (f.Ex N X.act) w bs' #[pz f.sb] 24) (k3 : Fx (f.Ex N X.act) w bh #[iw (hm : Int)] 3) (k4 : Fx (f.Ex N X.act) w bt' #[uu c, uu n] 38) (r : Rp) (vp : Value) (L L1 : Int) (hL : f.gv n = L) (hL1 : L - 1 = L1) (hb : 1 ≤ L ∧ L ≤ 1048576) (hbd : Bd { f with gv := fun m => if m = n then L1 else f.gv m } X) (hz : ¬ (L1 = 0 ∧ r.k = 9)) : Calls Tryz.prog 156 #[.agg (rpc r vp).toArray, .pointer (some ⟨f.gl n, 0, none⟩), pz bf] w (Got f N X w X zS) := by
 obtain ⟨W1, hW1⟩ := xj ((w.alloc (.cells (rpc r vp).toArray 49)).alloc (.cells RZ 41))
 have X0 := nq (Cx.start h hn (fc k1 (fc k2 (fc k3 (fc k4 nb))))) hW1
 have g0 : W1.cell? ⟨f.gl n, 0, none⟩ = some (iw L) := by rw [← hL]; exact block_cell (X0.out.sc.gb n hg) rfl
 have g1 : W1.frozen? ⟨f.gl n, 0, none⟩ = false := block_frozen (X0.out.sc.gb n hg) 0
 have X1 : Hid (Cx (f.In X.act) N w { f with gv := fun m => if m = n then L1 else f.gv m } X ((w.heap.size, (rpc r vp).toArray, 49) :: [(bf, #[(.func (.func 155) #[] #[pz bs', pz bh, pz bt'])], 1), (bs', #[pz f.sb], 24), (bh, #[iw (hm : Int)], 3), (bt', #[uu c, uu n], 38)]) [(w.heap.size + 1, RZ, 41)] (W1.setCell ⟨f.gl n, 0, none⟩ (iw L1))) := X0.out.next (X0.out.sc.count hg L1 (set_kept' W1 (f.gl n) 0 _) (block_set (j := 0) (iw L1) (X0.out.sc.gb n hg)))
 obtain ⟨W2, hW2⟩ := xj (W1.setCell ⟨f.gl n, 0, none⟩ (iw L1))
 rw [hW2] at X1
 have q0 : W2.cell? ⟨f.gl n, 0, none⟩ = some (iw L1) := block_cell (cs := #[iw L1]) (ty := 3) (by have e := X1.out.sc.gb n hg; simpa using e) rfl
 have k0 : W2.cell? ⟨w.heap.size, 0, none⟩ = some (iw r.k) := X1.out.bc
 have hbl : -9223372036854775808 ≤ L1 := by omega
 have hbr : L1 < 9223372036854775808 := by omega
 have HB : Hid (Bd { f with gv := fun m => if m = n then L1 else f.gv m } X) := hbd
 have hr := rsc_all zS sy rfl
 by_cases h0 : L1 = 0
 ·have hk9 : (r.k == 9) = false := by
   have : r.k ≠ 9 := fun e => hz ⟨h0, e⟩
   simp [this]
  have hl0 : (L1 == 0) = true := by rw [h0]; rfl
  clear h hn rm k1 k2 k3 k4 hL hb hbd hz h0 X0
  go_enter Tryz.func156, Tryz.ntmps156
  go_wp2_with (refine wpList_store_row rfl 41 _ _ rfl (w.heap.size + 1) (rsc zS sy).toArray rfl rfl 41 _ (X1.out.bm mc) (by kernel_rfl) rfl hr ?_)
  refine bj X1.out ?_
  exact ⟨rfl, _, (X1.out.poke (setRow_kept _ _ _) (setRow_at (X1.out.bm mc)) nb).to, rfl, HB.out⟩
 ·have hl0 : (L1 == 0) = false := by simp [h0]
  clear h hn rm k1 k2 k3 k4 hL hb hbd hz h0 X0
  go_enter Tryz.func156, Tryz.ntmps156
  go_wp2_with (refine wpList_store_row rfl 41 _ _ rfl (w.heap.size + 1) (rsc zS sy).toArray rfl rfl 41 _ (X1.out.bm mc) (by kernel_rfl) rfl hr ?_)
  refine bj X1.out ?_
  exact ⟨rfl, _, (X1.out.poke (setRow_kept _ _ _) (setRow_at (X1.out.bm mc)) nb).to, rfl, HB.out⟩
theorem suc156b (h : SC f N X w) (hn : Nok N f X.act w) (rm : Room f X) (n c hm : Nat) (hh : hm < 4294967296) (bf bs' bh bt' : Nat) (hg : n ∈ f.gs) (k1 : Fx (f.Ex N X.act) w bf #[(.func (.func 155) #[] #[pz bs', pz bh, pz bt'])] 1) (k2 : Fx (f.Ex N X.act) w bs' #[pz f.sb] 24) (k3 : Fx (f.Ex N X.act) w bh #[iw (hm : Int)] 3) (k4 : Fx (f.Ex N X.act) w bt' #[uu c, uu n] 38) (r : Rp) (vp : Value) (L L1 : Int) (hL : f.gv n = L) (hL1 : L - 1 = L1) (hb : 1 ≤ L ∧ L ≤ 1048576) (hbd : Bd { f with gv := fun m => if m = n then L1 else f.gv m } X) (h0 : L1 = 0) (hk : r.k = 9) : Calls Tryz.prog 156 #[.agg (rpc r vp).toArray, .pointer (some ⟨f.gl n, 0, none⟩), pz bf] w (Got f N X w (doneF X c n hm) zS) := by
 obtain ⟨W1, hW1⟩ := xj ((w.alloc (.cells (rpc r vp).toArray 49)).alloc (.cells RZ 41))
 have X0 := nq (Cx.start h hn (fc k1 (fc k2 (fc k3 (fc k4 nb))))) hW1
 have g0 : W1.cell? ⟨f.gl n, 0, none⟩ = some (iw L) := by rw [← hL]; exact block_cell (X0.out.sc.gb n hg) rfl
 have g1 : W1.frozen? ⟨f.gl n, 0, none⟩ = false := block_frozen (X0.out.sc.gb n hg) 0
 have X1 : Hid (Cx (f.In X.act) N w { f with gv := fun m => if m = n then L1 else f.gv m } X ((w.heap.size, (rpc r vp).toArray, 49) :: [(bf, #[(.func (.func 155) #[] #[pz bs', pz bh, pz bt'])], 1), (bs', #[pz f.sb], 24), (bh, #[iw (hm : Int)], 3), (bt', #[uu c, uu n], 38)]) [(w.heap.size + 1, RZ, 41)] (W1.setCell ⟨f.gl n, 0, none⟩ (iw L1))) := X0.out.next (X0.out.sc.count hg L1 (set_kept' W1 (f.gl n) 0 _) (block_set (j := 0) (iw L1) (X0.out.sc.gb n hg)))
 obtain ⟨W2, hW2⟩ := xj (W1.setCell ⟨f.gl n, 0, none⟩ (iw L1))
 rw [hW2] at X1
 have q0 : W2.cell? ⟨f.gl n, 0, none⟩ = some (iw L1) := block_cell (cs := #[iw L1]) (ty := 3) (by have e := X1.out.sc.gb n hg; simpa using e) rfl
 have k0 : W2.cell? ⟨w.heap.size, 0, none⟩ = some (iw r.k) := X1.out.bc
 have hbl : -9223372036854775808 ≤ L1 := by omega
 have hbr : L1 < 9223372036854775808 := by omega
 have HB : Hid (Bd { f with gv := fun m => if m = n then L1 else f.gv m } X) := hbd
 have hr := rsc_all zS sy rfl
 have hk9 : (r.k == 9) = true := by rw [hk]; rfl
 have hl0 : (L1 == 0) = true := by rw [h0]; rfl
 have c0 : W2.cell? ⟨bf, 0, none⟩ = some (.func (.func 155) #[] #[pz bs', pz bh, pz bt']) := X1.out.bc
 have e155 : ∀ args w, (callFunc 155 args).run Tryz.prog w = .ok (.enter 155 args) w := enters_of Tryz.func155 (by kernel_rfl) rfl
 have C : Hid (1 = 1 → Calls Tryz.prog 155 #[pz bs', pz bh, pz bt'] W2 fun e w' => e = .returned (.tuple #[]) ∧ ∃ f', Cx (f.In X.act) N w f' (doneF X c n hm) ((w.heap.size, (rpc r vp).toArray, 49) :: [(bf, #[(.func (.func 155) #[] #[pz bs', pz bh, pz bt'])], 1), (bs', #[pz f.sb], 24), (bh, #[iw (hm : Int)], 3), (bt', #[uu c, uu n], 38)]) [(w.heap.size + 1, RZ, 41)] w' ∧ f'.sb = f.sb ∧ Bd f' (doneF X c n hm)) := fun _ => (fin155 (W := W2) X1.out.sc ⟨rm.sq, rm.la, rm.lo⟩ n c hm hh bs' bh bt' rfl (X1.out.bx (by simp)) (X1.out.bx (by simp)) (X1.out.bx (by simp))).mono fun e w' ⟨h1, va, vo, h2⟩ => ⟨h1, _, X1.out.next h2, rfl, HB.out.ask rfl⟩
 clear h hn rm k1 k2 k3 k4 hL hb hbd X0 hk h0
 go_enter Tryz.func156, Tryz.ntmps156
 go_wp2_with fail
 refine (C.out (by trivial)).mono ?_
 rintro e w3 ⟨rfl, f', x3, hsb, hbd⟩
 have X3 : Hid _ := x3
 have HF : Hid _ := And.intro hsb hbd
 clear x3 hsb hbd C c0 q0 k0 g0 g1 hW1 hW2
 go_wp2_with (refine wpList_store_row rfl 41 _ _ rfl (w.heap.size + 1) (rsc zS sy).toArray rfl rfl 41 _ (X3.out.bm mc) (by kernel_rfl) rfl hr ?_)
 refine bj X3.out ?_
 exact ej X3.out HF.out
end Go.Proofs.YtkdkgdollmmcnaaGreat
