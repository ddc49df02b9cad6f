/-
  The walk of StoreNow.
-/
import Derived.Test.YtcfhkggijdjagaaFil
namespace Go.Proofs.Ytcfhkggijdjagaa
open Go.RowKit
variable {SA : Nat → Nat → (Nat → Prop) → Sk → World → Prop}

/-- The program's store, and blocks of the law's own that it doesn't write. -/
structure Pb (SA : Nat → Nat → (Nat → Prop) → Sk → World → Prop) (w : World) (p : Nat) (S : Sk) (Bx : List Nat) (W : World) : Prop where
  sa : ∃ B M, SA B p M S W ∧ w.heap.size ≤ B ∧ ∀ b ∈ Bx, ¬ M b ∧ b < W.heap.size
  tot : totS S < 10000
  bel : Below w.heap.size w W
theorem Pb.pw {w W : World} {p : Nat} {S : Sk} {Bx : List Nat} (h : Pb SA w p S Bx W) : Pw SA w p S W := by
  obtain ⟨B, M, h1, h2, _⟩ := h.sa
  exact ⟨⟨B, M, h1, h2⟩, h.tot, h.bel⟩
theorem Pw.pb {w W : World} {p : Nat} {S : Sk} (h : Pw SA w p S W) : Pb SA w p S [] W := by
  obtain ⟨B, M, h1, h2⟩ := h.sa
  exact ⟨⟨B, M, h1, h2, fun _ h => by cases h⟩, h.tot, h.bel⟩
theorem Pb.on (I : Ifs SA) {w W W' : World} {p : Nat} {S : Sk} {Bx : List Nat} (h : Pb SA w p S Bx W) (hb : Below W.heap.size W W') : Pb SA w p S Bx W' := by
  obtain ⟨B, M, hm, hB, hx⟩ := h.sa
  exact ⟨⟨B, M, I.keep hm (Kept.of_below (F := fun _ => False) hb) (fun _ _ h => h) (fun _ h => h.elim), hB, fun b hb' => ⟨(hx b hb').1, Nat.lt_of_lt_of_le (hx b hb').2 hb.size⟩⟩, h.tot, h.bel.trans (hb.mono h.bel.size)⟩
/-- A block made new lies outside. -/
theorem Pb.box (I : Ifs SA) {w W : World} {p : Nat} {S : Sk} {Bx : List Nat} (h : Pb SA w p S Bx W) (o : Obj) : Pb SA w p S (W.heap.size :: Bx) (W.alloc o) := by
  obtain ⟨B, M, hm, hB, hx⟩ := (h.on I (al o)).sa
  obtain ⟨B0, M0, hm0, hB0, hx0⟩ := h.sa
  refine ⟨⟨B0, M0, I.keep hm0 (Kept.of_below (F := fun _ => False) (al o)) (fun _ _ h => h) (fun _ h => h.elim), hB0, fun b hb' => ?_⟩, h.tot, (h.on I (al o)).bel⟩
  rcases List.mem_cons.1 hb' with rfl | hb'
  · exact ⟨fun hm => by have := (I.lt hm0 _ hm).2; omega, by simp⟩
  · exact ⟨(hx0 b hb').1, Nat.lt_of_lt_of_le (hx0 b hb').2 (al o).size⟩
theorem pb_put (I : Ifs SA) {w W : World} {p : Nat} {S : Sk} {Bx : List Nat} (k : List UInt8) (x : Ve) (h : Pb SA w p S Bx W) (ht : totS S < 9000) : Calls Try.prog 11 #[.pointer (some ⟨p, 0, none⟩), .string (bs k), veV x] W fun e w' => e = .returned (.int .i64 (putS k x S).2) ∧ Pb SA w p (putS k x S).1 Bx w' ∧ ∀ b ∈ Bx, w'.heap[b]? = W.heap[b]? := by
  obtain ⟨B, M, hm, hB, hx⟩ := h.sa
  refine (I.put k x hm h.tot).mono ?_
  rintro e w' ⟨rfl, M', hm', hk, hn⟩
  refine ⟨rfl, ⟨⟨B, M', hm', hB, fun b hb => ⟨fun hmb => ?_, Nat.lt_of_lt_of_le (hx b hb).2 hk.size⟩⟩, by have := tot_put (I.sok hm) k x; omega, h.bel.trans (hk.below h.bel.size (fun i hi => Nat.le_trans hB (I.lt hm i hi).1))⟩, fun b hb => hk.block b (hx b hb).2 (hx b hb).1⟩
  rcases hn b hmb with e | e
  · exact (hx b hb).1 e
  · have := (hx b hb).2; omega

/-- The greatest stamp. -/
def topx (val : List UInt8) : Ve := ⟨281474976710656, 4095, 0, 0, val, false⟩
theorem now_plain {S : Sk} (hS : SOk S) (ht : totS S < 1000) {k val : List UInt8} (hk : keyB k = true) (hv : val.length ≤ 256) (hn : ¬ newF (chainF k S) = (281474976710656, 4095)) :
    (putS k (topx val) S).2 = 0 ∧ seeF (chainF k (putS k (topx val) S).1) 281474976710656 4095 = some val ∧ seeF (chainF k (putS k (topx val) S).1) 281474976710656 4094 = seeF (chainF k S) 281474976710656 4094 := by
  have hC := chain_ch hS k
  have hlen := chain_tot hS k
  generalize hCe : chainF k S = C at *
  have hvok : vOk (topx val) = true := by simp [vOk, topx, hv]
  have htop : ∀ u ∈ C, ltS (topx val).p (topx val).l u = false := fun u hu => by
    have := hC.ok u hu
    simp only [vOk, Bool.and_eq_true, decide_eq_true_eq] at this
    rw [ltS_not]
    simp only [topx]
    omega
  have hhead : ∀ u r, C = u :: r → ¬ (u.p = 281474976710656 ∧ u.l = 4095) := fun u r e h => by
    apply hn
    unfold newF
    rw [if_pos (rightC_iff.2 hC), e]
    simp [h.1, h.2]
  have h0 : (putF C (topx val)).2 = 0 := by
    by_cases h : (putF C (topx val)).2 = 0
    · exact h
    · obtain ⟨u, r, e, h1, h2⟩ := top_no hC (by omega) hvok htop h
      exact absurd ⟨h1, h2⟩ (hhead u r e)
  have hp : (putS k (topx val) S).2 = 0 := by unfold putS; rw [if_pos hk, hCe, if_pos h0]
  have hc : chainF k (putS k (topx val) S).1 = (putF C (topx val)).1 := by rw [chain_put hS, if_pos ⟨rfl, hp⟩, hCe]
  obtain ⟨_, hD, _, hi, _⟩ := putF_ok (show putF C (topx val) = ((putF C (topx val)).1, 0) by rw [← h0])
  have hd : (putF C (topx val)).1 = topx val :: C := by
    rcases ins_top htop hi with e | ⟨_, r, e⟩
    · exact e
    · exact absurd ⟨rfl, rfl⟩ (hhead _ r e)
  rw [hd] at hD hc
  refine ⟨hp, ?_, ?_⟩
  · rw [hc, see_live hD]
    have : ltS 281474976710656 4095 (topx val) = false := by rw [ltS_not]; simp [topx]
    simp only [atR, this]
    rfl
  · rw [hc, see_live hD, see_live hC]
    have : ltS 281474976710656 4094 (topx val) = true := by rw [ltS_iff]; simp [topx]
    simp only [atR, this, if_true]

/-- The store, and the two stamps in their boxes. -/
structure Nw (SA : Nat → Nat → (Nat → Prop) → Sk → World → Prop) (w : World) (p : Nat) (S : Sk) (X Y : Nat) (W : World) : Prop where
  pb : Pb SA w p S [Y, X] W
  x : W.heap[X]? = some (.cells #[.int .u64 281474976710656, .int .u32 4095] 33 (0, 0))
  y : W.heap[Y]? = some (.cells #[.int .u64 281474976710656, .int .u32 4094] 33 (0, 0))
theorem Nw.on (I : Ifs SA) {w W W' : World} {p X Y : Nat} {S : Sk} (h : Nw SA w p S X Y W) (hb : Below W.heap.size W W') : Nw SA w p S X Y W' :=
  ⟨h.pb.on I hb, by rw [hb.block X (Array.getElem?_eq_some_iff.1 h.x).1]; exact h.x, by rw [hb.block Y (Array.getElem?_eq_some_iff.1 h.y).1]; exact h.y⟩
theorem Nw.cells {w W : World} {p X Y : Nat} {S : Sk} (h : Nw SA w p S X Y W) : W.cell? ⟨X, 0, none⟩ = some (.int .u64 281474976710656) ∧ W.cell? ⟨X, 1, none⟩ = some (.int .u32 4095) ∧ W.cell? ⟨Y, 0, none⟩ = some (.int .u64 281474976710656) ∧ W.cell? ⟨Y, 1, none⟩ = some (.int .u32 4094) ∧ Nw SA w p S X Y W :=
  ⟨block_cell h.x rfl, block_cell h.x rfl, block_cell h.y rfl, block_cell h.y rfl, h⟩
theorem Nw.dr (I : Ifs SA) {w W : World} {p X Y : Nat} {S : Sk} (h : Nw SA w p S X Y W) : Nw SA w p S X Y W.drew := h.on I (Below.refl _ _).drew
theorem nw_new (I : Ifs SA) {w W : World} {p : Nat} {S : Sk} (h : Pw SA w p S W) : Nw SA w p S W.heap.size (W.heap.size + 1) ((W.alloc (.cells #[.int .u64 281474976710656, .int .u32 4095] 33)).alloc (.cells #[.int .u64 281474976710656, .int .u32 4094] 33)) := by
  have h1 := (h.pb.box I (.cells #[.int .u64 281474976710656, .int .u32 4095] 33)).box I (.cells #[.int .u64 281474976710656, .int .u32 4094] 33)
  have e : (W.alloc (.cells #[.int .u64 281474976710656, .int .u32 4095] 33)).heap.size = W.heap.size + 1 := by simp
  rw [e] at h1
  refine ⟨h1, ?_, ?_⟩
  · rw [heap_alloc_old _ _ (by rw [e]; omega)]
    exact heap_alloc_new W _
  · have := heap_alloc_new (W.alloc (.cells #[.int .u64 281474976710656, .int .u32 4095] 33)) (.cells #[.int .u64 281474976710656, .int .u32 4094] 33)
    rw [e] at this
    exact this
theorem nw_put (I : Ifs SA) {w W : World} {p X Y : Nat} {S : Sk} (k : List UInt8) (x : Ve) (h : Nw SA w p S X Y W) (ht : totS S < 9000) : Calls Try.prog 11 #[.pointer (some ⟨p, 0, none⟩), .string (bs k), veV x] W fun e w' => e = .returned (.int .i64 (putS k x S).2) ∧ Nw SA w p (putS k x S).1 X Y w' := by
  refine (pb_put I k x h.pb ht).mono ?_
  rintro e w' ⟨rfl, h1, h2⟩
  exact ⟨rfl, h1, by rw [h2 X (by simp)]; exact h.x, by rw [h2 Y (by simp)]; exact h.y⟩

set_option maxHeartbeats 3200000 in
set_option maxRecDepth 100000 in
theorem now8 (I : Ifs SA) (B : Nat) (L : List Ac) (v : Value) (key val : List UInt8) (w : World) (hv : AcsAt B v L w) (hB : B ≤ w.heap.size) :
    Calls Try.prog 8 #[v, .string (bs key), .string (bs val)] w fun e w' => e = .returned (.bool true) ∧ Below w.heap.size w w' := by
  obtain ⟨ao, cap, rfl, hlc, hcm⟩ := hv.shape
  have CA : Hid (1 = 1 → Calls Try.prog 9 #[] w fun e w' => e = .returned (.bool true) ∧ Below w.heap.size w w') := fun _ => awake9 I w
  have CF : Hid (∀ W, Below w.heap.size w W → Calls Try.prog 26 #[.slice ao L.length cap] W fun e w' => ∃ p, e = .returned (.pointer (some ⟨p, 0, none⟩)) ∧ Pw SA w p (fillS [] (L.take 100)) w') := fun W hb => by
    refine (filled26 I B L _ W (RwAt.on hv (hb.mono hB)) (Nat.le_trans hB hb.size)).mono ?_
    rintro e w' ⟨p, rfl, hp⟩
    exact ⟨p, rfl, hp.le hb⟩
  obtain ⟨hS, hT⟩ := fill_sok (L := L.take 100) SOk.nil
  have hT2 : totS (fillS [] (L.take 100)) ≤ 100 := by
    have h2 : totS ([] : Sk) = 0 := rfl
    have h3 := ltake (L := L) (m := 100)
    omega
  have hks := bs_size key
  have hvs := bs_size val
  by_cases hk1 : key.length < 1
  · have h1 : (key.length : Int) < 1 := by omega
    clear hv hlc hcm CF hS hT hT2
    go_enter Try.func8, Try.ntmps8
    go_wp2_with fail
    refine (CA.out (by trivial)).mono ?_
    rintro e w1 ⟨rfl, hb⟩
    have H1 : Hid _ := hb
    clear hb
    go_wp2_with fail
    go_ret
    exact ⟨rfl, H1.out⟩
  · by_cases hk2 : 32 < key.length
    · have h1 : ¬ (key.length : Int) < 1 := by omega
      have h2 : (32 : Int) < key.length := by omega
      clear hv hlc hcm CF hS hT hT2
      go_enter Try.func8, Try.ntmps8
      go_wp2_with fail
      refine (CA.out (by trivial)).mono ?_
      rintro e w1 ⟨rfl, hb⟩
      have H1 : Hid _ := hb
      clear hb
      go_wp2_with fail
      go_ret
      exact ⟨rfl, H1.out⟩
    · have h1 : ¬ (key.length : Int) < 1 := by omega
      have h2 : ¬ (32 : Int) < key.length := by omega
      by_cases hv2 : 256 < val.length
      · have h3 : (256 : Int) < val.length := by omega
        clear hv hlc hcm CF hS hT hT2
        go_enter Try.func8, Try.ntmps8
        go_wp2_with fail
        refine (CA.out (by trivial)).mono ?_
        rintro e w1 ⟨rfl, hb⟩
        have H1 : Hid _ := hb
        clear hb
        go_wp2_with fail
        go_ret
        exact ⟨rfl, H1.out⟩
      · have h3 : ¬ (256 : Int) < val.length := by omega
        have hkb : keyB key = true := by simp [keyB]; omega
        have HN : Hid (¬ newF (chainF key (fillS [] (L.take 100))) = (281474976710656, 4095) → (putS key (topx val) (fillS [] (L.take 100))).2 = 0 ∧ seeF (chainF key (putS key (topx val) (fillS [] (L.take 100))).1) 281474976710656 4095 = some val ∧ seeF (chainF key (putS key (topx val) (fillS [] (L.take 100))).1) 281474976710656 4094 = seeF (chainF key (fillS [] (L.take 100))) 281474976710656 4094) := fun h => now_plain hS (by omega) hkb (by omega) h
        have HT2 : Hid _ := hT2
        generalize fillS [] (L.take 100) = S at *
        have CG : Hid (∀ p X Y S t u W, Nw SA w p S X Y W → Calls Try.prog 15 #[.pointer (some ⟨p, 0, none⟩), .string (bs key), .agg #[.int .u64 t, .int .u32 u]] W fun e w' => e = .returned (.tuple #[.string (bs (getV (seeF (chainF key S) t u)).1), .bool (getV (seeF (chainF key S) t u)).2]) ∧ Nw SA w p S X Y w') := fun p X Y S t u W h => by
          refine (pw_get I key t u h.pb.pw).mono ?_
          rintro e w' ⟨rfl, _, hb⟩
          exact ⟨rfl, h.on I hb⟩
        have CNw : Hid (∀ p X Y W, Nw SA w p S X Y W → Calls Try.prog 17 #[.pointer (some ⟨p, 0, none⟩), .string (bs key)] W fun e w' => e = .returned (.agg #[.int .u64 (newF (chainF key S)).1, .int .u32 (newF (chainF key S)).2]) ∧ Nw SA w p S X Y w') := fun p X Y W h => by
          refine (pw_newest I key h.pb.pw).mono ?_
          rintro e w' ⟨rfl, _, hb⟩
          exact ⟨rfl, h.on I hb⟩
        have CPu : Hid (∀ p X Y W, Nw SA w p S X Y W → Calls Try.prog 11 #[.pointer (some ⟨p, 0, none⟩), .string (bs key), .agg #[.int .u64 281474976710656, .int .u32 4095, .int .u32 0, .int .u32 0, .string (bs val), .bool false]] W fun e w' => e = .returned (.int .i64 (putS key (topx val) S).2) ∧ Nw SA w p (putS key (topx val) S).1 X Y w') := fun p X Y W h => nw_put I key (topx val) h (by have := HT2.out; omega)
        clear hv hlc hcm hS hT hT2 hk1 hk2 hv2 hkb
        go_enter Try.func8, Try.ntmps8
        go_wp2_with fail
        refine (CA.out (by trivial)).mono ?_
        rintro e w1 ⟨rfl, hb⟩
        have H1 : Hid (Below w.heap.size w w1) := hb
        clear hb
        go_wp2_with fail
        refine (CF.out _ H1.out).mono ?_
        rintro e w2 ⟨p, rfl, hp⟩
        have H2 : Hid (Nw SA w p S w2.heap.size (w2.heap.size + 1) ((w2.alloc (.cells #[.int .u64 281474976710656, .int .u32 4095] 33)).alloc (.cells #[.int .u64 281474976710656, .int .u32 4094] 33))) := nw_new I hp
        clear hp CF CA H1
        generalize newF (chainF key S) = nn at *
        obtain ⟨np, nl'⟩ := nn
        generalize hq0 : getV (seeF (chainF key S) 281474976710656 4094) = q0 at *
        have CG1 : Hid (∀ X Y W, Nw SA w p S X Y W → Calls Try.prog 15 #[.pointer (some ⟨p, 0, none⟩), .string (bs key), .agg #[.int .u64 281474976710656, .int .u32 4094]] W fun e w' => e = .returned (.tuple #[.string (bs q0.1), .bool q0.2]) ∧ Nw SA w p S X Y w') := fun X Y W h => by
          have := CG.out p X Y S 281474976710656 4094 W h
          rw [hq0] at this
          exact this
        have HQ0 : Hid (getV (seeF (chainF key S) 281474976710656 4094) = q0) := hq0
        clear hq0
        obtain ⟨o1, o2⟩ := q0
        dsimp only at CG1 CNw
        go_wp2_with fail
        obtain ⟨X, hX⟩ : ∃ X, w2.heap.size = X := ⟨_, rfl⟩
        obtain ⟨Y, hY⟩ : ∃ Y, X + 1 = Y := ⟨_, rfl⟩
        obtain ⟨W3, hW3⟩ : ∃ W3, (w2.alloc (.cells #[.int .u64 281474976710656, .int .u32 4095] 33)).alloc (.cells #[.int .u64 281474976710656, .int .u32 4094] 33) = W3 := ⟨_, rfl⟩
        rw [hW3] at H2 ⊢
        rw [hX] at H2 ⊢
        rw [hY] at H2 ⊢
        clear hX hY hW3
        refine (CG1.out X Y _ H2.out).mono ?_
        rintro e w4 ⟨rfl, h4⟩
        have H4 : Hid (Nw SA w p S X Y w4) := h4
        clear h4 H2
        obtain ⟨x0, x1, y0, y1, -⟩ := H4.out.cells
        have hrun := run_eql26 np nl' 281474976710656 4095
        by_cases hn : (np, nl') = ((281474976710656, 4095) : Int × Int)
        · have hq : eqB np nl' 281474976710656 4095 = true := by injection hn with e1 e2; simp [eqB, e1, e2]
          rw [hq] at hrun
          clear hq hn HN CPu CG CG1
          go_upto_region 9 with fail
          go_region_held3 (fun W => W.cell? ⟨X, 0, none⟩ = some (.int .u64 281474976710656) ∧ W.cell? ⟨X, 1, none⟩ = some (.int .u32 4095) ∧ W.cell? ⟨Y, 0, none⟩ = some (.int .u64 281474976710656) ∧ W.cell? ⟨Y, 1, none⟩ = some (.int .u32 4094) ∧ Nw SA w p S X Y W)
            ((with_reducible refine Nw.cells ?_; with_reducible repeat (first | exact H4.out | exact H5.out | refine Nw.dr I ?_)))
            (first
            | (go_at_call 17; refine (CNw.out p X Y _ (Nw.dr I H4.out)).mono ?_; rintro e w5 ⟨rfl, h5⟩; have H5 : Hid (Nw SA w p S X Y w5) := h5; clear h5))
          rename_i hHeld
          clear hHeld
          go_wp2_with fail
          go_ret
          exact ⟨rfl, H5.out.pb.bel⟩
        · have hq : eqB np nl' 281474976710656 4095 = false := by
            cases e : eqB np nl' 281474976710656 4095
            · rfl
            · simp [eqB] at e; exact absurd (by rw [e.1, e.2]) hn
          rw [hq] at hrun
          obtain ⟨hp0, hs1, hs2⟩ := HN.out hn
          have CPu2 : Hid (∀ W, Nw SA w p S X Y W → Calls Try.prog 11 #[.pointer (some ⟨p, 0, none⟩), .string (bs key), .agg #[.int .u64 281474976710656, .int .u32 4095, .int .u32 0, .int .u32 0, .string (bs val), .bool false]] W fun e w' => e = .returned (.int .i64 0) ∧ Nw SA w p (putS key (topx val) S).1 X Y w') := fun W h => by
            have := CPu.out p X Y W h
            rw [hp0] at this
            exact this
          have CG2 : Hid (∀ W, Nw SA w p (putS key (topx val) S).1 X Y W → Calls Try.prog 15 #[.pointer (some ⟨p, 0, none⟩), .string (bs key), .agg #[.int .u64 281474976710656, .int .u32 4095]] W fun e w' => e = .returned (.tuple #[.string (bs val), .bool true]) ∧ Nw SA w p (putS key (topx val) S).1 X Y w') := fun W h => by
            have := CG.out p X Y _ 281474976710656 4095 W h
            rw [hs1] at this
            exact this
          have CG3 : Hid (∀ W, Nw SA w p (putS key (topx val) S).1 X Y W → Calls Try.prog 15 #[.pointer (some ⟨p, 0, none⟩), .string (bs key), .agg #[.int .u64 281474976710656, .int .u32 4094]] W fun e w' => e = .returned (.tuple #[.string (bs o1), .bool o2]) ∧ Nw SA w p (putS key (topx val) S).1 X Y w') := fun W h => by
            have := CG.out p X Y _ 281474976710656 4094 W h
            rw [hs2, HQ0.out] at this
            exact this
          generalize (putS key (topx val) S).1 = S2 at *
          clear hq hn HN CPu CG CG1 hp0 hs1 hs2
          go_upto_region 9 with fail
          go_region_held3 (fun W => W.cell? ⟨X, 0, none⟩ = some (.int .u64 281474976710656) ∧ W.cell? ⟨X, 1, none⟩ = some (.int .u32 4095) ∧ W.cell? ⟨Y, 0, none⟩ = some (.int .u64 281474976710656) ∧ W.cell? ⟨Y, 1, none⟩ = some (.int .u32 4094) ∧ Nw SA w p S X Y W)
            ((with_reducible refine Nw.cells ?_; with_reducible repeat (first | exact H4.out | exact H5.out | refine Nw.dr I ?_)))
            (first
            | (go_at_call 17; refine (CNw.out p X Y _ (Nw.dr I H4.out)).mono ?_; rintro e w5 ⟨rfl, h5⟩; have H5 : Hid (Nw SA w p S X Y w5) := h5; clear h5))
          rename_i hHeld
          clear hHeld x0 x1 y0 y1
          obtain ⟨x0, x1, y0, y1, -⟩ := H5.out.cells
          go_wp2_with fail
          refine (CPu2.out _ H5.out).mono ?_
          rintro e w6 ⟨rfl, h6⟩
          have H6 : Hid (Nw SA w p S2 X Y w6) := h6
          clear h6 x0 x1 y0 y1 hrun H4 H5
          obtain ⟨x0, x1, y0, y1, -⟩ := H6.out.cells
          go_wp2_with fail
          refine (CG2.out _ H6.out).mono ?_
          rintro e w7 ⟨rfl, h7⟩
          have H7 : Hid (Nw SA w p S2 X Y w7) := h7
          clear h7 x0 x1 y0 y1 H6
          obtain ⟨x0, x1, y0, y1, -⟩ := H7.out.cells
          go_wp2_with fail
          refine (CG3.out _ H7.out).mono ?_
          rintro e w8 ⟨rfl, h8⟩
          have H8 : Hid (Nw SA w p S2 X Y w8) := h8
          clear h8 x0 x1 y0 y1 H7
          have q1 := bs_beq val val
          have q2 := bs_beq o1 o1
          rw [show (val == val) = true from by simp] at q1
          rw [show (o1 == o1) = true from by simp] at q2
          go_wp2_with fail
          go_ret
          exact ⟨rfl, H8.out.pb.bel⟩
end Go.Proofs.Ytcfhkggijdjagaa
