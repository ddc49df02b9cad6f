/-
  The walk of PackWrites: of all values it answers true, and turns no memory that was there.
-/
import Derived.Test.YtgkbefeiknfjcaaRefWr
namespace Go.Proofs.Ytgkbefeiknfjcaa
open Go.RowKit

/-- What is written of a value. -/
def fmBody (x : Fm) : List UInt8 :=
  if x.k = 0 then numForm x.n else if x.k = 1 then textForm x.s else if x.k = 2 then flagForm (decide (9 < x.n)) else if x.k = 3 then stampForm x.p x.q else []
structure Fm.small (x : Fm) : Prop where
  s : x.s.length ≤ 5000
  p : x.p ≤ 281474976710656
  q : x.q ≤ 4095
def fBody (fs : List Fm) : List UInt8 := fs.flatMap fmBody

theorem fmBody_len (x : Fm) (h : x.small) (hok : x.ok) : (fmBody x).length ≤ 6000 := by
  have h1 := sz_le hok.n
  have h2 := sz_le (n := x.s.length) (by have := h.s; omega)
  have h3 := sz_le (n := x.p) (by have := h.p; omega)
  have h4 := sz_le (n := x.q) (by have := h.q; omega)
  have h5 := h.s
  unfold fmBody
  split
  · rw [numForm_length]; omega
  · split
    · rw [textForm, List.length_append, numForm_length]; omega
    · split
      · show 1 ≤ 6000; omega
      · split
        · rw [stampForm, List.length_append, numForm_length, numForm_length]; omega
        · show 0 ≤ 6000; omega

theorem ftake_more (fs : List Fm) (k : Nat) (h : k < fs.length) : fs.take (k + 1) = fs.take k ++ [fs.getD k dflt] := by
  rw [List.take_add_one]
  simp [List.getElem?_eq_getElem h, List.getD]
theorem fdrop_more (fs : List Fm) (k : Nat) (h : k < fs.length) : fs.drop k = fs.getD k dflt :: fs.drop (k + 1) := by
  rw [List.drop_eq_getElem_cons h]
  simp [List.getD, List.getElem?_eq_getElem h]
theorem fBody_snoc (fs : List Fm) (x : Fm) : fBody (fs ++ [x]) = fBody fs ++ fmBody x := by simp [fBody]
theorem fBody_cons (fs : List Fm) (x : Fm) : fBody (x :: fs) = fmBody x ++ fBody fs := by simp [fBody]

theorem five_kept {pb xb : Nat} {w w' : World} {c : Array Value} (h : w.heap[xb]? = some (.cells c 33 (0, 0))) (k : Kept pb w w') (hne : xb ≠ pb) : w'.heap[xb]? = some (.cells c 33 (0, 0)) :=
  k.other xb _ h hne (by intro cs fz; simp)

set_option maxHeartbeats 4000000 in
set_option maxRecDepth 100000 in
theorem writes3 (fs : List Fm) (ao : Option Addr) (b off cap : Nat) (w : World) (hao : 0 < fs.length → ao = some ⟨b, off, none⟩)
    (hcell : ∀ i, i < fs.length → FmAt w b off i (fs.getD i dflt) ∧ (fs.getD i dflt).ok) (hN : fs.length < 9223372036854775807) :
    Calls Try.prog 3 #[.slice ao fs.length cap] w fun e w' => e = .returned (.bool true) ∧ Below w.heap.size w w' := by
  have HC : Hid (∀ i, 1 = 1 → i < fs.length → FmAt w b off i (fs.getD i dflt) ∧ (fs.getD i dflt).ok) := fun i _ h => hcell i h
  have HA : Hid (1 = 1 → 0 < fs.length → ao = some ⟨b, off, none⟩) := fun _ => hao
  clear hcell hao
  by_cases h200 : (200 : Int) < fs.length
  · go_enter Try.func3, Try.ntmps3
    go_wp2_with (go_at_call 9; refine (awake9 _).mono ?_; rintro e w1 ⟨rfl, hb⟩; have HB : Hid (Below w.heap.size w w1) := hb; clear hb)
    go_ret
    exact ⟨rfl, HB.out⟩
  · go_enter Try.func3, Try.ntmps3
    go_wp2_with (go_at_call 9; refine (awake9 _).mono ?_; rintro e w1 ⟨rfl, hb⟩; have HB : Hid (Below w.heap.size w w1) := hb; clear hb)
    obtain ⟨pb, hpb⟩ : ∃ pb, pb = w1.heap.size := ⟨_, rfl⟩
    have hwp : w.heap.size ≤ pb := by rw [hpb]; exact HB.out.size
    have H1 : Hid (WrAt pb [] (w1.alloc (Obj.cells #[Value.slice none 0 0] 27)) ∧ Below w.heap.size w (w1.alloc (Obj.cells #[Value.slice none 0 0] 27))) := ⟨by rw [hpb]; exact wr_new w1, HB.out.alloc HB.out.size _⟩
    rw [← hpb]
    generalize w1.alloc (Obj.cells #[Value.slice none 0 0] 27) = W0 at H1 ⊢
    clear hpb HB
    go_loopw [4, 19] (fun s i wr => ∃ k : Nat, k ≤ fs.length ∧ i = .int .i64 k ∧ s = .string (bs (fBody (fs.take k))) ∧ WrAt pb (fBody (fs.take k)) wr ∧ (fBody (fs.take k)).length ≤ 6000 * k ∧ (∀ j, j < k → (fs.getD j dflt).small) ∧ Below w.heap.size w wr) (fun _ i _ => fs.length - (intOf i).toNat)
    case atStart => exact ⟨0, Nat.zero_le _, rfl, rfl, H1.out.1, Nat.zero_le _, fun j hj => absurd hj (Nat.not_lt_zero _), H1.out.2⟩
    case round =>
      obtain ⟨k, hk, rfl, rfl, hwr, hlen, hsm, hbel⟩ := hrel
      have H2 : Hid (WrAt pb (fBody (fs.take k)) wr ∧ (∀ j, j < k → (fs.getD j dflt).small) ∧ Below w.heap.size w wr) := ⟨hwr, hsm, hbel⟩
      clear hwr hsm hbel H1
      obtain ⟨L, hL⟩ : ∃ L, L = fBody (fs.take k) := ⟨_, rfl⟩
      rw [← hL] at hlen H2 ⊢
      have HL : Hid (L = fBody (fs.take k)) := hL
      clear hL
      by_cases hkl : k < fs.length
      · obtain ⟨hat, hok⟩ := HC.out k (by trivial) hkl
        obtain ⟨x, hx⟩ : ∃ x, x = fs.getD k dflt := ⟨_, rfl⟩
        rw [← hx] at hat hok
        have HX : Hid (x = fs.getD k dflt ∧ x.ok) := ⟨hx, hok⟩
        clear hx
        obtain rfl : ao = some ⟨b, off, none⟩ := HA.out (by trivial) (by omega)
        have hbw : b < w.heap.size := World.block_lt_of_cell? _ _ hat.1
        obtain ⟨y0, y1, y2, y3, y4⟩ := hat.on H2.out.2.2 hbw
        clear hat
        obtain ⟨ok0, ok1, ok2, ok3, ok4, ok5⟩ := hok
        have hbx := bs_size x.s
        by_cases g1 : (5000 : Int) < x.s.length
        · go_wp2
          go_ret
          exact ⟨rfl, H2.out.2.2.alloc H2.out.2.2.size _⟩
        · by_cases g2 : (281474976710656 : Int) < x.p
          · go_wp2
            go_ret
            exact ⟨rfl, H2.out.2.2.alloc H2.out.2.2.size _⟩
          · by_cases g3 : (4095 : Int) < x.q
            · go_wp2
              go_ret
              exact ⟨rfl, H2.out.2.2.alloc H2.out.2.2.size _⟩
            · have hsmall : x.small := ⟨by omega, by omega, by omega⟩
              go_wp2_with fail
              · skip
                obtain ⟨xb, hxb⟩ : ∃ xb, xb = wr.heap.size := ⟨_, rfl⟩
                have hpx : pb < xb := by rw [hxb]; exact H2.out.1.lt
                have HZ0 : Hid (WrAt pb L (wr.alloc (Obj.cells #[Value.int IntKind.i64 x.k, Value.int IntKind.u64 x.n, Value.string (bs x.s), Value.int IntKind.u64 x.p, Value.int IntKind.u32 x.q] 33)) ∧ (wr.alloc (Obj.cells #[Value.int IntKind.i64 x.k, Value.int IntKind.u64 x.n, Value.string (bs x.s), Value.int IntKind.u64 x.p, Value.int IntKind.u32 x.q] 33)).heap[xb]? = some (Obj.cells #[Value.int IntKind.i64 x.k, Value.int IntKind.u64 x.n, Value.string (bs x.s), Value.int IntKind.u64 x.p, Value.int IntKind.u32 x.q] 33 (0, 0)) ∧ Below w.heap.size w (wr.alloc (Obj.cells #[Value.int IntKind.i64 x.k, Value.int IntKind.u64 x.n, Value.string (bs x.s), Value.int IntKind.u64 x.p, Value.int IntKind.u32 x.q] 33))) :=
                  ⟨H2.out.1.alloc _, by rw [hxb]; exact heap_alloc_new wr _, H2.out.2.2.alloc H2.out.2.2.size _⟩
                rw [← hxb]
                have HSM : Hid (∀ j, 1 = 1 → j < k → (fs.getD j dflt).small) := fun j _ => H2.out.2.1 j
                clear hxb
                generalize wr.alloc (Obj.cells #[Value.int IntKind.i64 x.k, Value.int IntKind.u64 x.n, Value.string (bs x.s), Value.int IntKind.u64 x.p, Value.int IntKind.u32 x.q] 33) = W at HZ0 ⊢
                clear H2 y0 y1 y2 y3 y4
                have hbl := bs_size L
                have hkind : x.k = 0 := by simpa using (by assumption : (x.k == 0) = true)
                have hfm : fmBody x = numForm x.n := by simp [fmBody, hkind]
                have HFM : Hid (fmBody x = numForm x.n) := hfm
                clear hfm
                clear hkind
                have hfl := bs_size (numForm x.n)
                have hfl2 := fmBody_len x hsmall HX.out.2
                rw [HFM.out] at hfl2
                have hadd : bs L ++ bs (numForm x.n) = bs (L ++ numForm x.n) := bs_append _ _
                have hno : ¬ (9223372036854775807 < L.length + (numForm x.n).length) := by omega
                refine (num10 pb L x.n _ ok2 HZ0.out.1 (by omega)).mono ?_
                rintro e W1 ⟨rfl, h1, k1⟩
                have HZ1 : Hid (WrAt pb (L ++ numForm x.n) W1 ∧ W1.heap[xb]? = some (Obj.cells #[Value.int IntKind.i64 x.k, Value.int IntKind.u64 x.n, Value.string (bs x.s), Value.int IntKind.u64 x.p, Value.int IntKind.u32 x.q] 33 (0, 0)) ∧ Below w.heap.size w W1) :=
                  ⟨h1, five_kept HZ0.out.2.1 k1 (by omega), HZ0.out.2.2.trans (k1.below.mono hwp)⟩
                clear h1 k1
                obtain ⟨z0, z1, z2, z3, z4⟩ := five_cells HZ1.out.2.1
                go_wp2_with fail
                refine (refNum11 x.n _ ok2).mono ?_
                rintro e W2 ⟨rfl, hb2⟩
                have HZ2 : Hid (WrAt pb (L ++ numForm x.n) W2 ∧ Below w.heap.size w W2) := ⟨HZ1.out.1.on hb2, HZ1.out.2.2.trans (hb2.mono HZ1.out.2.2.size)⟩
                clear hb2 HZ1 z0 z1 z2 z3 z4
                go_wp2
                go_roundw
                case rel =>
                  have hnew : fBody (fs.take (k + 1)) = L ++ numForm x.n := by rw [ftake_more fs k hkl, fBody_snoc, ← HX.out.1, ← HL.out, HFM.out]
                  have hl2 : (L ++ numForm x.n).length ≤ 6000 * (k + 1) := by
                    have := fmBody_len x hsmall HX.out.2
                    rw [HFM.out] at this
                    rw [List.length_append]; omega
                  rw [← hnew] at HZ2
                  exact ⟨k + 1, by omega, by go_num, by rw [hnew], HZ2.out.1, by rw [hnew]; exact hl2, fun j hj => by
                    by_cases hjk : j = k
                    · subst hjk; rw [← HX.out.1]; exact hsmall
                    · exact HSM.out j (by trivial) (by omega), HZ2.out.2⟩
                case measure => simp [intOf]; omega
              · skip
                obtain ⟨xb, hxb⟩ : ∃ xb, xb = wr.heap.size := ⟨_, rfl⟩
                have hpx : pb < xb := by rw [hxb]; exact H2.out.1.lt
                have HZ0 : Hid (WrAt pb L (wr.alloc (Obj.cells #[Value.int IntKind.i64 x.k, Value.int IntKind.u64 x.n, Value.string (bs x.s), Value.int IntKind.u64 x.p, Value.int IntKind.u32 x.q] 33)) ∧ (wr.alloc (Obj.cells #[Value.int IntKind.i64 x.k, Value.int IntKind.u64 x.n, Value.string (bs x.s), Value.int IntKind.u64 x.p, Value.int IntKind.u32 x.q] 33)).heap[xb]? = some (Obj.cells #[Value.int IntKind.i64 x.k, Value.int IntKind.u64 x.n, Value.string (bs x.s), Value.int IntKind.u64 x.p, Value.int IntKind.u32 x.q] 33 (0, 0)) ∧ Below w.heap.size w (wr.alloc (Obj.cells #[Value.int IntKind.i64 x.k, Value.int IntKind.u64 x.n, Value.string (bs x.s), Value.int IntKind.u64 x.p, Value.int IntKind.u32 x.q] 33))) :=
                  ⟨H2.out.1.alloc _, by rw [hxb]; exact heap_alloc_new wr _, H2.out.2.2.alloc H2.out.2.2.size _⟩
                rw [← hxb]
                have HSM : Hid (∀ j, 1 = 1 → j < k → (fs.getD j dflt).small) := fun j _ => H2.out.2.1 j
                clear hxb
                generalize wr.alloc (Obj.cells #[Value.int IntKind.i64 x.k, Value.int IntKind.u64 x.n, Value.string (bs x.s), Value.int IntKind.u64 x.p, Value.int IntKind.u32 x.q] 33) = W at HZ0 ⊢
                clear H2 y0 y1 y2 y3 y4
                have hbl := bs_size L
                have hkind : x.k = 1 := by simpa using (by assumption : (x.k == 1) = true)
                have hfm : fmBody x = textForm x.s := by simp [fmBody, hkind]
                have HFM : Hid (fmBody x = textForm x.s) := hfm
                clear hfm
                clear hkind
                have hfl := bs_size (textForm x.s)
                have hfl2 := fmBody_len x hsmall HX.out.2
                rw [HFM.out] at hfl2
                have hadd : bs L ++ bs (textForm x.s) = bs (L ++ textForm x.s) := bs_append _ _
                have hno : ¬ (9223372036854775807 < L.length + (textForm x.s).length) := by omega
                refine (text12 pb L (bs x.s) _ HZ0.out.1 (by rw [bs_size]; omega)).mono ?_
                rintro e W1 ⟨rfl, h1, k1⟩
                have HZ1 : Hid (WrAt pb (L ++ textForm x.s) W1 ∧ W1.heap[xb]? = some (Obj.cells #[Value.int IntKind.i64 x.k, Value.int IntKind.u64 x.n, Value.string (bs x.s), Value.int IntKind.u64 x.p, Value.int IntKind.u32 x.q] 33 (0, 0)) ∧ Below w.heap.size w W1) :=
                  ⟨by rw [bs_size, bs_data] at h1; exact h1, five_kept HZ0.out.2.1 k1 (by omega), HZ0.out.2.2.trans (k1.below.mono hwp)⟩
                clear h1 k1
                obtain ⟨z0, z1, z2, z3, z4⟩ := five_cells HZ1.out.2.1
                go_wp2_with fail
                refine (refText13 x.s _ (by omega)).mono ?_
                rintro e W2 ⟨rfl, hb2⟩
                have HZ2 : Hid (WrAt pb (L ++ textForm x.s) W2 ∧ Below w.heap.size w W2) := ⟨HZ1.out.1.on hb2, HZ1.out.2.2.trans (hb2.mono HZ1.out.2.2.size)⟩
                clear hb2 HZ1 z0 z1 z2 z3 z4
                go_wp2
                go_roundw
                case rel =>
                  have hnew : fBody (fs.take (k + 1)) = L ++ textForm x.s := by rw [ftake_more fs k hkl, fBody_snoc, ← HX.out.1, ← HL.out, HFM.out]
                  have hl2 : (L ++ textForm x.s).length ≤ 6000 * (k + 1) := by
                    have := fmBody_len x hsmall HX.out.2
                    rw [HFM.out] at this
                    rw [List.length_append]; omega
                  rw [← hnew] at HZ2
                  exact ⟨k + 1, by omega, by go_num, by rw [hnew], HZ2.out.1, by rw [hnew]; exact hl2, fun j hj => by
                    by_cases hjk : j = k
                    · subst hjk; rw [← HX.out.1]; exact hsmall
                    · exact HSM.out j (by trivial) (by omega), HZ2.out.2⟩
                case measure => simp [intOf]; omega
              · skip
                obtain ⟨xb, hxb⟩ : ∃ xb, xb = wr.heap.size := ⟨_, rfl⟩
                have hpx : pb < xb := by rw [hxb]; exact H2.out.1.lt
                have HZ0 : Hid (WrAt pb L (wr.alloc (Obj.cells #[Value.int IntKind.i64 x.k, Value.int IntKind.u64 x.n, Value.string (bs x.s), Value.int IntKind.u64 x.p, Value.int IntKind.u32 x.q] 33)) ∧ (wr.alloc (Obj.cells #[Value.int IntKind.i64 x.k, Value.int IntKind.u64 x.n, Value.string (bs x.s), Value.int IntKind.u64 x.p, Value.int IntKind.u32 x.q] 33)).heap[xb]? = some (Obj.cells #[Value.int IntKind.i64 x.k, Value.int IntKind.u64 x.n, Value.string (bs x.s), Value.int IntKind.u64 x.p, Value.int IntKind.u32 x.q] 33 (0, 0)) ∧ Below w.heap.size w (wr.alloc (Obj.cells #[Value.int IntKind.i64 x.k, Value.int IntKind.u64 x.n, Value.string (bs x.s), Value.int IntKind.u64 x.p, Value.int IntKind.u32 x.q] 33))) :=
                  ⟨H2.out.1.alloc _, by rw [hxb]; exact heap_alloc_new wr _, H2.out.2.2.alloc H2.out.2.2.size _⟩
                rw [← hxb]
                have HSM : Hid (∀ j, 1 = 1 → j < k → (fs.getD j dflt).small) := fun j _ => H2.out.2.1 j
                clear hxb
                generalize wr.alloc (Obj.cells #[Value.int IntKind.i64 x.k, Value.int IntKind.u64 x.n, Value.string (bs x.s), Value.int IntKind.u64 x.p, Value.int IntKind.u32 x.q] 33) = W at HZ0 ⊢
                clear H2 y0 y1 y2 y3 y4
                have hbl := bs_size L
                rw [show decide ((9 : Int) < (x.n : Int)) = decide (9 < x.n) by rw [decide_eq_decide]; omega]
                have hkind : x.k = 2 := by simpa using (by assumption : (x.k == 2) = true)
                have hfm : fmBody x = flagForm (decide (9 < x.n)) := by simp [fmBody, hkind]
                have HFM : Hid (fmBody x = flagForm (decide (9 < x.n))) := hfm
                clear hfm
                clear hkind
                have hfl := bs_size (flagForm (decide (9 < x.n)))
                have hfl2 := fmBody_len x hsmall HX.out.2
                rw [HFM.out] at hfl2
                have hadd : bs L ++ bs (flagForm (decide (9 < x.n))) = bs (L ++ flagForm (decide (9 < x.n))) := bs_append _ _
                have hno : ¬ (9223372036854775807 < L.length + (flagForm (decide (9 < x.n))).length) := by omega
                refine (flag14 pb L (decide (9 < x.n)) _ HZ0.out.1 (by omega)).mono ?_
                rintro e W1 ⟨rfl, h1, k1⟩
                have HZ1 : Hid (WrAt pb (L ++ flagForm (decide (9 < x.n))) W1 ∧ W1.heap[xb]? = some (Obj.cells #[Value.int IntKind.i64 x.k, Value.int IntKind.u64 x.n, Value.string (bs x.s), Value.int IntKind.u64 x.p, Value.int IntKind.u32 x.q] 33 (0, 0)) ∧ Below w.heap.size w W1) :=
                  ⟨h1, five_kept HZ0.out.2.1 k1 (by omega), HZ0.out.2.2.trans (k1.below.mono hwp)⟩
                clear h1 k1
                obtain ⟨z0, z1, z2, z3, z4⟩ := five_cells HZ1.out.2.1
                go_wp2_with fail
                rw [show decide ((9 : Int) < (x.n : Int)) = decide (9 < x.n) by rw [decide_eq_decide]; omega]
                refine (refFlag15 (decide (9 < x.n)) _).mono ?_
                rintro e W2 ⟨rfl, hb2⟩
                have HZ2 : Hid (WrAt pb (L ++ flagForm (decide (9 < x.n))) W2 ∧ Below w.heap.size w W2) := by subst hb2; exact ⟨HZ1.out.1, HZ1.out.2.2⟩
                clear hb2 HZ1 z0 z1 z2 z3 z4
                go_wp2
                go_roundw
                case rel =>
                  have hnew : fBody (fs.take (k + 1)) = L ++ flagForm (decide (9 < x.n)) := by rw [ftake_more fs k hkl, fBody_snoc, ← HX.out.1, ← HL.out, HFM.out]
                  have hl2 : (L ++ flagForm (decide (9 < x.n))).length ≤ 6000 * (k + 1) := by
                    have := fmBody_len x hsmall HX.out.2
                    rw [HFM.out] at this
                    rw [List.length_append]; omega
                  rw [← hnew] at HZ2
                  exact ⟨k + 1, by omega, by go_num, by rw [hnew], HZ2.out.1, by rw [hnew]; exact hl2, fun j hj => by
                    by_cases hjk : j = k
                    · subst hjk; rw [← HX.out.1]; exact hsmall
                    · exact HSM.out j (by trivial) (by omega), HZ2.out.2⟩
                case measure => simp [intOf]; omega
              · skip
                obtain ⟨xb, hxb⟩ : ∃ xb, xb = wr.heap.size := ⟨_, rfl⟩
                have hpx : pb < xb := by rw [hxb]; exact H2.out.1.lt
                have HZ0 : Hid (WrAt pb L (wr.alloc (Obj.cells #[Value.int IntKind.i64 x.k, Value.int IntKind.u64 x.n, Value.string (bs x.s), Value.int IntKind.u64 x.p, Value.int IntKind.u32 x.q] 33)) ∧ (wr.alloc (Obj.cells #[Value.int IntKind.i64 x.k, Value.int IntKind.u64 x.n, Value.string (bs x.s), Value.int IntKind.u64 x.p, Value.int IntKind.u32 x.q] 33)).heap[xb]? = some (Obj.cells #[Value.int IntKind.i64 x.k, Value.int IntKind.u64 x.n, Value.string (bs x.s), Value.int IntKind.u64 x.p, Value.int IntKind.u32 x.q] 33 (0, 0)) ∧ Below w.heap.size w (wr.alloc (Obj.cells #[Value.int IntKind.i64 x.k, Value.int IntKind.u64 x.n, Value.string (bs x.s), Value.int IntKind.u64 x.p, Value.int IntKind.u32 x.q] 33))) :=
                  ⟨H2.out.1.alloc _, by rw [hxb]; exact heap_alloc_new wr _, H2.out.2.2.alloc H2.out.2.2.size _⟩
                rw [← hxb]
                have HSM : Hid (∀ j, 1 = 1 → j < k → (fs.getD j dflt).small) := fun j _ => H2.out.2.1 j
                clear hxb
                generalize wr.alloc (Obj.cells #[Value.int IntKind.i64 x.k, Value.int IntKind.u64 x.n, Value.string (bs x.s), Value.int IntKind.u64 x.p, Value.int IntKind.u32 x.q] 33) = W at HZ0 ⊢
                clear H2 y0 y1 y2 y3 y4
                have hbl := bs_size L
                have hkind : x.k = 3 := by simpa using (by assumption : (x.k == 3) = true)
                have hfm : fmBody x = stampForm x.p x.q := by simp [fmBody, hkind]
                have HFM : Hid (fmBody x = stampForm x.p x.q) := hfm
                clear hfm
                clear hkind
                have hfl := bs_size (stampForm x.p x.q)
                have hfl2 := fmBody_len x hsmall HX.out.2
                rw [HFM.out] at hfl2
                have hadd : bs L ++ bs (stampForm x.p x.q) = bs (L ++ stampForm x.p x.q) := bs_append _ _
                have hno : ¬ (9223372036854775807 < L.length + (stampForm x.p x.q).length) := by omega
                refine (stamp16 pb L x.p x.q _ ok4 ok5 HZ0.out.1 (by omega)).mono ?_
                rintro e W1 ⟨rfl, h1, k1⟩
                have HZ1 : Hid (WrAt pb (L ++ stampForm x.p x.q) W1 ∧ W1.heap[xb]? = some (Obj.cells #[Value.int IntKind.i64 x.k, Value.int IntKind.u64 x.n, Value.string (bs x.s), Value.int IntKind.u64 x.p, Value.int IntKind.u32 x.q] 33 (0, 0)) ∧ Below w.heap.size w W1) :=
                  ⟨h1, five_kept HZ0.out.2.1 k1 (by omega), HZ0.out.2.2.trans (k1.below.mono hwp)⟩
                clear h1 k1
                obtain ⟨z0, z1, z2, z3, z4⟩ := five_cells HZ1.out.2.1
                go_wp2_with fail
                refine (refStamp17 x.p x.q _ ok4 ok5).mono ?_
                rintro e W2 ⟨rfl, hb2⟩
                have HZ2 : Hid (WrAt pb (L ++ stampForm x.p x.q) W2 ∧ Below w.heap.size w W2) := ⟨HZ1.out.1.on hb2, HZ1.out.2.2.trans (hb2.mono HZ1.out.2.2.size)⟩
                clear hb2 HZ1 z0 z1 z2 z3 z4
                go_wp2
                go_roundw
                case rel =>
                  have hnew : fBody (fs.take (k + 1)) = L ++ stampForm x.p x.q := by rw [ftake_more fs k hkl, fBody_snoc, ← HX.out.1, ← HL.out, HFM.out]
                  have hl2 : (L ++ stampForm x.p x.q).length ≤ 6000 * (k + 1) := by
                    have := fmBody_len x hsmall HX.out.2
                    rw [HFM.out] at this
                    rw [List.length_append]; omega
                  rw [← hnew] at HZ2
                  exact ⟨k + 1, by omega, by go_num, by rw [hnew], HZ2.out.1, by rw [hnew]; exact hl2, fun j hj => by
                    by_cases hjk : j = k
                    · subst hjk; rw [← HX.out.1]; exact hsmall
                    · exact HSM.out j (by trivial) (by omega), HZ2.out.2⟩
                case measure => simp [intOf]; omega
              · skip
                obtain ⟨xb, hxb⟩ : ∃ xb, xb = wr.heap.size := ⟨_, rfl⟩
                have hpx : pb < xb := by rw [hxb]; exact H2.out.1.lt
                have HZ0 : Hid (WrAt pb L (wr.alloc (Obj.cells #[Value.int IntKind.i64 x.k, Value.int IntKind.u64 x.n, Value.string (bs x.s), Value.int IntKind.u64 x.p, Value.int IntKind.u32 x.q] 33)) ∧ (wr.alloc (Obj.cells #[Value.int IntKind.i64 x.k, Value.int IntKind.u64 x.n, Value.string (bs x.s), Value.int IntKind.u64 x.p, Value.int IntKind.u32 x.q] 33)).heap[xb]? = some (Obj.cells #[Value.int IntKind.i64 x.k, Value.int IntKind.u64 x.n, Value.string (bs x.s), Value.int IntKind.u64 x.p, Value.int IntKind.u32 x.q] 33 (0, 0)) ∧ Below w.heap.size w (wr.alloc (Obj.cells #[Value.int IntKind.i64 x.k, Value.int IntKind.u64 x.n, Value.string (bs x.s), Value.int IntKind.u64 x.p, Value.int IntKind.u32 x.q] 33))) :=
                  ⟨H2.out.1.alloc _, by rw [hxb]; exact heap_alloc_new wr _, H2.out.2.2.alloc H2.out.2.2.size _⟩
                have HSM : Hid (∀ j, 1 = 1 → j < k → (fs.getD j dflt).small) := fun j _ => H2.out.2.1 j
                clear hxb
                generalize wr.alloc (Obj.cells #[Value.int IntKind.i64 x.k, Value.int IntKind.u64 x.n, Value.string (bs x.s), Value.int IntKind.u64 x.p, Value.int IntKind.u32 x.q] 33) = W at HZ0 ⊢
                clear H2 y0 y1 y2 y3 y4
                have hbl := bs_size L
                have hfm : fmBody x = [] := by
                  have k0 : ¬ x.k = 0 := by simpa using (by assumption : (x.k == 0) = false)
                  have k1 : ¬ x.k = 1 := by simpa using (by assumption : (x.k == 1) = false)
                  have k2 : ¬ x.k = 2 := by simpa using (by assumption : (x.k == 2) = false)
                  have k3 : ¬ x.k = 3 := by simpa using (by assumption : (x.k == 3) = false)
                  simp [fmBody, k0, k1, k2, k3]
                have HFM : Hid (fmBody x = []) := hfm
                clear hfm
                have HZ2 : Hid (WrAt pb (L ++ []) W ∧ Below w.heap.size w W) := ⟨by rw [List.append_nil]; exact HZ0.out.1, HZ0.out.2.2⟩
                clear HZ0
                go_roundw
                case rel =>
                  have hnew : fBody (fs.take (k + 1)) = L ++ [] := by rw [ftake_more fs k hkl, fBody_snoc, ← HX.out.1, ← HL.out, HFM.out]
                  have hl2 : (L ++ []).length ≤ 6000 * (k + 1) := by
                    have := fmBody_len x hsmall HX.out.2
                    rw [HFM.out] at this
                    rw [List.length_append]; omega
                  rw [← hnew] at HZ2
                  exact ⟨k + 1, by omega, by go_num, by rw [hnew, List.append_nil], HZ2.out.1, by rw [hnew]; exact hl2, fun j hj => by
                    by_cases hjk : j = k
                    · subst hjk; rw [← HX.out.1]; exact hsmall
                    · exact HSM.out j (by trivial) (by omega), HZ2.out.2⟩
                case measure => simp [intOf]; omega
      · skip
        obtain rfl : k = fs.length := by omega
        have hLf : L = fBody fs := by rw [HL.out, List.take_length]
        have HSM : Hid (∀ j, 1 = 1 → j < fs.length → (fs.getD j dflt).small) := fun j _ => H2.out.2.1 j
        have hl9 : L.length ≤ 1200000 := by omega
        have HLF : Hid (L = fBody fs) := hLf
        clear hLf hlen
        go_wp2_with (go_at_call 18; refine (bytes18 pb _ _ H2.out.1).mono ?_; rintro e w3 ⟨rfl, rfl⟩)
        refine (new19 _ _).mono ?_
        rintro e w4 ⟨rfl, h1, k1⟩
        obtain ⟨rb, hrb⟩ : ∃ rb, rb = wr.heap.size := ⟨_, rfl⟩
        have hwr : w.heap.size ≤ rb := by rw [hrb]; exact H2.out.2.2.size
        have H4 : Hid (RdAt 66 rb ⟨fBody fs, 0⟩ w4 ∧ Below w.heap.size w w4) := ⟨by rw [hrb, ← HLF.out]; exact h1, H2.out.2.2.trans (k1.mono H2.out.2.2.size)⟩
        rw [← hrb]
        clear h1 k1 H2 hrb
        go_wp2_with fail
        go_loopw [96] (fun i wr => ∃ k : Nat, k ≤ fs.length ∧ i = .int .i64 k ∧ RdAt 66 rb ⟨fBody (fs.drop k), 0⟩ wr ∧ (fBody (fs.drop k)).length ≤ 1200000 ∧ Below w.heap.size w wr) (fun i _ => fs.length - (intOf i).toNat)
        case atStart => exact ⟨0, Nat.zero_le _, rfl, by rw [List.drop_zero]; exact H4.out.1, by rw [List.drop_zero, ← HLF.out]; exact hl9, H4.out.2⟩
        case round =>
          obtain ⟨k, hk, rfl, hrd, hdl, hbel⟩ := hrel
          have H5 : Hid (RdAt 66 rb ⟨fBody (fs.drop k), 0⟩ wr ∧ Below w.heap.size w wr) := ⟨hrd, hbel⟩
          clear hrd hbel H4
          by_cases hkl : k < fs.length
          · obtain ⟨hat, hok⟩ := HC.out k (by trivial) hkl
            have hsmall := HSM.out k (by trivial) hkl
            obtain ⟨x, hx⟩ : ∃ x, x = fs.getD k dflt := ⟨_, rfl⟩
            rw [← hx] at hat hok hsmall
            have hdrop : fBody (fs.drop k) = fmBody x ++ fBody (fs.drop (k + 1)) := by rw [fdrop_more fs k hkl, fBody_cons, ← hx]
            obtain ⟨R, hR⟩ : ∃ R, R = fBody (fs.drop (k + 1)) := ⟨_, rfl⟩
            rw [← hR] at hdrop
            rw [hdrop] at H5 hdl
            rw [List.length_append] at hdl
            have HR : Hid (R = fBody (fs.drop (k + 1))) := hR
            clear hx hdrop hR
            obtain rfl : ao = some ⟨b, off, none⟩ := HA.out (by trivial) (by omega)
            have hbw : b < w.heap.size := World.block_lt_of_cell? _ _ hat.1
            obtain ⟨y0, y1, y2, y3, y4⟩ := hat.on H5.out.2 hbw
            clear hat
            obtain ⟨ok0, ok1, ok2, ok3, ok4, ok5⟩ := hok
            obtain ⟨sm0, sm1, sm2⟩ := hsmall
            have hbx := bs_size x.s
            go_wp2_with fail
            · skip
              obtain ⟨xb, hxb⟩ : ∃ xb, xb = wr.heap.size := ⟨_, rfl⟩
              have hrx : rb < xb := by rw [hxb]; exact H5.out.1.lt
              have HZ0 : Hid (RdAt 66 rb ⟨fmBody x ++ R, 0⟩ (wr.alloc (Obj.cells #[Value.int IntKind.i64 x.k, Value.int IntKind.u64 x.n, Value.string (bs x.s), Value.int IntKind.u64 x.p, Value.int IntKind.u32 x.q] 33)) ∧ (wr.alloc (Obj.cells #[Value.int IntKind.i64 x.k, Value.int IntKind.u64 x.n, Value.string (bs x.s), Value.int IntKind.u64 x.p, Value.int IntKind.u32 x.q] 33)).heap[xb]? = some (Obj.cells #[Value.int IntKind.i64 x.k, Value.int IntKind.u64 x.n, Value.string (bs x.s), Value.int IntKind.u64 x.p, Value.int IntKind.u32 x.q] 33 (0, 0)) ∧ Below w.heap.size w (wr.alloc (Obj.cells #[Value.int IntKind.i64 x.k, Value.int IntKind.u64 x.n, Value.string (bs x.s), Value.int IntKind.u64 x.p, Value.int IntKind.u32 x.q] 33))) :=
                ⟨H5.out.1.alloc _, by rw [hxb]; exact heap_alloc_new wr _, H5.out.2.alloc H5.out.2.size _⟩
              rw [← hxb]
              clear hxb
              generalize wr.alloc (Obj.cells #[Value.int IntKind.i64 x.k, Value.int IntKind.u64 x.n, Value.string (bs x.s), Value.int IntKind.u64 x.p, Value.int IntKind.u32 x.q] 33) = W at HZ0 ⊢
              clear H5 y0 y1 y2 y3 y4
              have hkind : x.k = 0 := by simpa using (by assumption : (x.k == 0) = true)
              have hfm : fmBody x = numForm x.n := by simp [fmBody, hkind]
              rw [hfm] at HZ0
              clear hfm hkind
              obtain ⟨z0, z1, z2, z3, z4⟩ := five_cells HZ0.out.2.1
              have HF : Hid (rdNum x.n ⟨numForm x.n ++ R, 0⟩ = (x.n, ⟨R, 0⟩)) := num_form x.n x.n R ok2 (Nat.le_refl _)

              go_region_with (go_at_call 20; refine (num20' HF.out HZ0.out.1.drew (by dsimp only; rw [List.length_append, numForm_length]; have := sz_le ok2; omega)).mono ?_; rintro e W1 ⟨rfl, h1, k1⟩; have HZ1 : Hid (RdAt 66 rb ⟨R, 0⟩ W1 ∧ Below w.heap.size w W1) := ⟨h1, HZ0.out.2.2.drew.trans (k1.below (by omega) HZ0.out.2.2.size)⟩; have hx1 : W1.heap[xb]? = some (Obj.cells #[Value.int IntKind.i64 x.k, Value.int IntKind.u64 x.n, Value.string (bs x.s), Value.int IntKind.u64 x.p, Value.int IntKind.u32 x.q] 33 (0, 0)) := (k1.block xb (lt_of_block HZ0.out.2.1) (by omega)).trans HZ0.out.2.1; obtain ⟨v0, v1, v2, v3, v4⟩ := five_cells hx1; clear h1 k1 hx1)
              all_goals (clear z0 z1 z2 z3 z4; go_wp2; (go_roundw; (case rel => exact ⟨k + 1, by omega, by go_num, by rw [← HR.out]; exact HZ1.out.1, by rw [← HR.out]; omega, HZ1.out.2⟩); (case measure => simp [intOf]; omega)))
            · skip
              obtain ⟨xb, hxb⟩ : ∃ xb, xb = wr.heap.size := ⟨_, rfl⟩
              have hrx : rb < xb := by rw [hxb]; exact H5.out.1.lt
              have HZ0 : Hid (RdAt 66 rb ⟨fmBody x ++ R, 0⟩ (wr.alloc (Obj.cells #[Value.int IntKind.i64 x.k, Value.int IntKind.u64 x.n, Value.string (bs x.s), Value.int IntKind.u64 x.p, Value.int IntKind.u32 x.q] 33)) ∧ (wr.alloc (Obj.cells #[Value.int IntKind.i64 x.k, Value.int IntKind.u64 x.n, Value.string (bs x.s), Value.int IntKind.u64 x.p, Value.int IntKind.u32 x.q] 33)).heap[xb]? = some (Obj.cells #[Value.int IntKind.i64 x.k, Value.int IntKind.u64 x.n, Value.string (bs x.s), Value.int IntKind.u64 x.p, Value.int IntKind.u32 x.q] 33 (0, 0)) ∧ Below w.heap.size w (wr.alloc (Obj.cells #[Value.int IntKind.i64 x.k, Value.int IntKind.u64 x.n, Value.string (bs x.s), Value.int IntKind.u64 x.p, Value.int IntKind.u32 x.q] 33))) :=
                ⟨H5.out.1.alloc _, by rw [hxb]; exact heap_alloc_new wr _, H5.out.2.alloc H5.out.2.size _⟩
              rw [← hxb]
              clear hxb
              generalize wr.alloc (Obj.cells #[Value.int IntKind.i64 x.k, Value.int IntKind.u64 x.n, Value.string (bs x.s), Value.int IntKind.u64 x.p, Value.int IntKind.u32 x.q] 33) = W at HZ0 ⊢
              clear H5 y0 y1 y2 y3 y4
              have hkind : x.k = 1 := by simpa using (by assumption : (x.k == 1) = true)
              have hfm : fmBody x = textForm x.s := by simp [fmBody, hkind]
              rw [hfm] at HZ0
              clear hfm hkind
              obtain ⟨z0, z1, z2, z3, z4⟩ := five_cells HZ0.out.2.1
              have HF : Hid (rdText x.s.length x.s.length ⟨textForm x.s ++ R, 0⟩ = (x.s, ⟨R, 0⟩)) := text_form x.s R x.s.length x.s.length (by omega) (Int.le_refl _) (Int.le_refl _)

              go_region_with (go_at_call 21; refine (text21' HF.out HZ0.out.1.drew (by dsimp only; rw [List.length_append, textForm, List.length_append, numForm_length]; have := sz_le (n := x.s.length) (by omega); omega) (by omega) (by omega) (by omega) (by omega)).mono ?_; rintro e W1 ⟨rfl, h1, k1⟩; have HZ1 : Hid (RdAt 66 rb ⟨R, 0⟩ W1 ∧ Below w.heap.size w W1) := ⟨h1, HZ0.out.2.2.drew.trans (k1.below (by omega) HZ0.out.2.2.size)⟩; have hx1 : W1.heap[xb]? = some (Obj.cells #[Value.int IntKind.i64 x.k, Value.int IntKind.u64 x.n, Value.string (bs x.s), Value.int IntKind.u64 x.p, Value.int IntKind.u32 x.q] 33 (0, 0)) := (k1.block xb (lt_of_block HZ0.out.2.1) (by omega)).trans HZ0.out.2.1; obtain ⟨v0, v1, v2, v3, v4⟩ := five_cells hx1; clear h1 k1 hx1)
              all_goals (clear z0 z1 z2 z3 z4; go_wp2; (go_roundw; (case rel => exact ⟨k + 1, by omega, by go_num, by rw [← HR.out]; exact HZ1.out.1, by rw [← HR.out]; omega, HZ1.out.2⟩); (case measure => simp [intOf]; omega)))
            · skip
              obtain ⟨xb, hxb⟩ : ∃ xb, xb = wr.heap.size := ⟨_, rfl⟩
              have hrx : rb < xb := by rw [hxb]; exact H5.out.1.lt
              have HZ0 : Hid (RdAt 66 rb ⟨fmBody x ++ R, 0⟩ (wr.alloc (Obj.cells #[Value.int IntKind.i64 x.k, Value.int IntKind.u64 x.n, Value.string (bs x.s), Value.int IntKind.u64 x.p, Value.int IntKind.u32 x.q] 33)) ∧ (wr.alloc (Obj.cells #[Value.int IntKind.i64 x.k, Value.int IntKind.u64 x.n, Value.string (bs x.s), Value.int IntKind.u64 x.p, Value.int IntKind.u32 x.q] 33)).heap[xb]? = some (Obj.cells #[Value.int IntKind.i64 x.k, Value.int IntKind.u64 x.n, Value.string (bs x.s), Value.int IntKind.u64 x.p, Value.int IntKind.u32 x.q] 33 (0, 0)) ∧ Below w.heap.size w (wr.alloc (Obj.cells #[Value.int IntKind.i64 x.k, Value.int IntKind.u64 x.n, Value.string (bs x.s), Value.int IntKind.u64 x.p, Value.int IntKind.u32 x.q] 33))) :=
                ⟨H5.out.1.alloc _, by rw [hxb]; exact heap_alloc_new wr _, H5.out.2.alloc H5.out.2.size _⟩
              rw [← hxb]
              clear hxb
              generalize wr.alloc (Obj.cells #[Value.int IntKind.i64 x.k, Value.int IntKind.u64 x.n, Value.string (bs x.s), Value.int IntKind.u64 x.p, Value.int IntKind.u32 x.q] 33) = W at HZ0 ⊢
              clear H5 y0 y1 y2 y3 y4
              have hkind : x.k = 2 := by simpa using (by assumption : (x.k == 2) = true)
              have hfm : fmBody x = flagForm (decide ((9 : Int) < (x.n : Int))) := by simp only [fmBody, hkind]; rw [show decide ((9 : Int) < (x.n : Int)) = decide (9 < x.n) by rw [decide_eq_decide]; omega]; rfl
              rw [hfm] at HZ0
              clear hfm hkind
              obtain ⟨z0, z1, z2, z3, z4⟩ := five_cells HZ0.out.2.1
              have HF : Hid (rdFlag ⟨flagForm (decide ((9 : Int) < (x.n : Int))) ++ R, 0⟩ = (decide ((9 : Int) < (x.n : Int)), ⟨R, 0⟩)) := flag_form _ R

              go_region_with (go_at_call 22; refine (flag22' HF.out HZ0.out.1.drew).mono ?_; rintro e W1 ⟨rfl, h1, k1⟩; have HZ1 : Hid (RdAt 66 rb ⟨R, 0⟩ W1 ∧ Below w.heap.size w W1) := ⟨h1, HZ0.out.2.2.drew.trans (k1.below (by omega) HZ0.out.2.2.size)⟩; have hx1 : W1.heap[xb]? = some (Obj.cells #[Value.int IntKind.i64 x.k, Value.int IntKind.u64 x.n, Value.string (bs x.s), Value.int IntKind.u64 x.p, Value.int IntKind.u32 x.q] 33 (0, 0)) := (k1.block xb (lt_of_block HZ0.out.2.1) (by omega)).trans HZ0.out.2.1; obtain ⟨v0, v1, v2, v3, v4⟩ := five_cells hx1; clear h1 k1 hx1)
              all_goals (clear z0 z1 z2 z3 z4; go_wp2; (go_roundw; (case rel => exact ⟨k + 1, by omega, by go_num, by rw [← HR.out]; exact HZ1.out.1, by rw [← HR.out]; omega, HZ1.out.2⟩); (case measure => simp [intOf]; omega)))
            · skip
              obtain ⟨xb, hxb⟩ : ∃ xb, xb = wr.heap.size := ⟨_, rfl⟩
              have hrx : rb < xb := by rw [hxb]; exact H5.out.1.lt
              have HZ0 : Hid (RdAt 66 rb ⟨fmBody x ++ R, 0⟩ (wr.alloc (Obj.cells #[Value.int IntKind.i64 x.k, Value.int IntKind.u64 x.n, Value.string (bs x.s), Value.int IntKind.u64 x.p, Value.int IntKind.u32 x.q] 33)) ∧ (wr.alloc (Obj.cells #[Value.int IntKind.i64 x.k, Value.int IntKind.u64 x.n, Value.string (bs x.s), Value.int IntKind.u64 x.p, Value.int IntKind.u32 x.q] 33)).heap[xb]? = some (Obj.cells #[Value.int IntKind.i64 x.k, Value.int IntKind.u64 x.n, Value.string (bs x.s), Value.int IntKind.u64 x.p, Value.int IntKind.u32 x.q] 33 (0, 0)) ∧ Below w.heap.size w (wr.alloc (Obj.cells #[Value.int IntKind.i64 x.k, Value.int IntKind.u64 x.n, Value.string (bs x.s), Value.int IntKind.u64 x.p, Value.int IntKind.u32 x.q] 33))) :=
                ⟨H5.out.1.alloc _, by rw [hxb]; exact heap_alloc_new wr _, H5.out.2.alloc H5.out.2.size _⟩
              rw [← hxb]
              clear hxb
              generalize wr.alloc (Obj.cells #[Value.int IntKind.i64 x.k, Value.int IntKind.u64 x.n, Value.string (bs x.s), Value.int IntKind.u64 x.p, Value.int IntKind.u32 x.q] 33) = W at HZ0 ⊢
              clear H5 y0 y1 y2 y3 y4
              have hkind : x.k = 3 := by simpa using (by assumption : (x.k == 3) = true)
              have hfm : fmBody x = stampForm x.p x.q := by simp [fmBody, hkind]
              rw [hfm] at HZ0
              clear hfm hkind
              obtain ⟨z0, z1, z2, z3, z4⟩ := five_cells HZ0.out.2.1
              have HF : Hid (rdStamp ⟨stampForm x.p x.q ++ R, 0⟩ = ((x.p, x.q), ⟨R, 0⟩)) := stamp_form x.p x.q R sm1 sm2
              have h31 := fun wx => run_neq31 x.p x.q wx
              go_region_with (go_at_call 23; refine (stamp23' HF.out HZ0.out.1.drew (by dsimp only; rw [List.length_append, stampForm, List.length_append, numForm_length, numForm_length]; have := sz_le (n := x.p) ok4; have := sz_le (n := x.q) (by omega); omega)).mono ?_; rintro e W1 ⟨rfl, h1, k1⟩; have HZ1 : Hid (RdAt 66 rb ⟨R, 0⟩ W1 ∧ Below w.heap.size w W1) := ⟨h1, HZ0.out.2.2.drew.trans (k1.below (by omega) HZ0.out.2.2.size)⟩; have hx1 : W1.heap[xb]? = some (Obj.cells #[Value.int IntKind.i64 x.k, Value.int IntKind.u64 x.n, Value.string (bs x.s), Value.int IntKind.u64 x.p, Value.int IntKind.u32 x.q] 33 (0, 0)) := (k1.block xb (lt_of_block HZ0.out.2.1) (by omega)).trans HZ0.out.2.1; obtain ⟨v0, v1, v2, v3, v4⟩ := five_cells hx1; clear h1 k1 hx1)
              all_goals (clear z0 z1 z2 z3 z4; go_wp2; (go_roundw; (case rel => exact ⟨k + 1, by omega, by go_num, by rw [← HR.out]; exact HZ1.out.1, by rw [← HR.out]; omega, HZ1.out.2⟩); (case measure => simp [intOf]; omega)))
            · skip
              obtain ⟨xb, hxb⟩ : ∃ xb, xb = wr.heap.size := ⟨_, rfl⟩
              have hrx : rb < xb := by rw [hxb]; exact H5.out.1.lt
              have HZ0 : Hid (RdAt 66 rb ⟨fmBody x ++ R, 0⟩ (wr.alloc (Obj.cells #[Value.int IntKind.i64 x.k, Value.int IntKind.u64 x.n, Value.string (bs x.s), Value.int IntKind.u64 x.p, Value.int IntKind.u32 x.q] 33)) ∧ (wr.alloc (Obj.cells #[Value.int IntKind.i64 x.k, Value.int IntKind.u64 x.n, Value.string (bs x.s), Value.int IntKind.u64 x.p, Value.int IntKind.u32 x.q] 33)).heap[xb]? = some (Obj.cells #[Value.int IntKind.i64 x.k, Value.int IntKind.u64 x.n, Value.string (bs x.s), Value.int IntKind.u64 x.p, Value.int IntKind.u32 x.q] 33 (0, 0)) ∧ Below w.heap.size w (wr.alloc (Obj.cells #[Value.int IntKind.i64 x.k, Value.int IntKind.u64 x.n, Value.string (bs x.s), Value.int IntKind.u64 x.p, Value.int IntKind.u32 x.q] 33))) :=
                ⟨H5.out.1.alloc _, by rw [hxb]; exact heap_alloc_new wr _, H5.out.2.alloc H5.out.2.size _⟩
              clear hxb
              generalize wr.alloc (Obj.cells #[Value.int IntKind.i64 x.k, Value.int IntKind.u64 x.n, Value.string (bs x.s), Value.int IntKind.u64 x.p, Value.int IntKind.u32 x.q] 33) = W at HZ0 ⊢
              clear H5 y0 y1 y2 y3 y4
              have hfm : fmBody x = [] := by
                have k0 : ¬ x.k = 0 := by simpa using (by assumption : (x.k == 0) = false)
                have k1 : ¬ x.k = 1 := by simpa using (by assumption : (x.k == 1) = false)
                have k2 : ¬ x.k = 2 := by simpa using (by assumption : (x.k == 2) = false)
                have k3 : ¬ x.k = 3 := by simpa using (by assumption : (x.k == 3) = false)
                simp [fmBody, k0, k1, k2, k3]
              rw [hfm, List.nil_append] at HZ0
              clear hfm
              have HZ1 : Hid (RdAt 66 rb ⟨R, 0⟩ W ∧ Below w.heap.size w W) := ⟨HZ0.out.1, HZ0.out.2.2⟩
              clear HZ0
              (go_roundw; (case rel => exact ⟨k + 1, by omega, by go_num, by rw [← HR.out]; exact HZ1.out.1, by rw [← HR.out]; omega, HZ1.out.2⟩); (case measure => simp [intOf]; omega))
          · obtain rfl : k = fs.length := by omega
            rw [List.drop_length] at H5
            have hE : rdEnd ⟨fBody [], 0⟩ = 0 := rfl
            have hz : (fBody []).length = 0 := rfl
            go_wp2_with (first
              | (go_at_call 24; refine (left24 rb _ _ H5.out.1).mono ?_; rintro e w6 ⟨rfl, rfl⟩)
              | (go_at_call 25; refine (end25 rb _ _ H5.out.1).mono ?_; rintro e w6 ⟨rfl, rfl⟩))
            go_ret
            exact ⟨rfl, H5.out.2⟩

end Go.Proofs.Ytgkbefeiknfjcaa
