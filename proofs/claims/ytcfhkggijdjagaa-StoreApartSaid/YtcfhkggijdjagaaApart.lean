/-
  The walk of StoreApart.
-/
import Derived.Test.YtcfhkggijdjagaaTwo
namespace Go.Proofs.Ytcfhkggijdjagaa
open Go.RowKit
variable {SA : Nat → Nat → (Nat → Prop) → Sk → World → Prop}

/-- Two stores, a stamp in its box. -/
structure Ap (SA : Nat → Nat → (Nat → Prop) → Sk → World → Prop) (w : World) (p : Nat) (S : Sk) (q : Nat) (T : Sk) (X : Nat) (t u : Int) (W : World) : Prop where
  p2 : P2 SA w p S q T [X] W
  x : W.heap[X]? = some (.cells #[.int .u64 t, .int .u32 u] 33 (0, 0))
theorem Ap.on (I : Ifs SA) {w W W' : World} {p q X : Nat} {S T : Sk} {t u : Int} (h : Ap SA w p S q T X t u W) (hb : Below W.heap.size W W') : Ap SA w p S q T X t u W' := ⟨h.p2.on I hb, by rw [hb.block X (Array.getElem?_eq_some_iff.1 h.x).1]; exact h.x⟩
theorem Ap.cells {w W : World} {p q X : Nat} {S T : Sk} {t u : Int} (h : Ap SA w p S q T X t u W) : W.cell? ⟨X, 0, none⟩ = some (.int .u64 t) ∧ W.cell? ⟨X, 1, none⟩ = some (.int .u32 u) := ⟨block_cell h.x rfl, block_cell h.x rfl⟩
/-- And an act in its box. -/
structure Aq (SA : Nat → Nat → (Nat → Prop) → Sk → World → Prop) (w : World) (p : Nat) (S : Sk) (q : Nat) (T : Sk) (X : Nat) (t u : Int) (Z : Nat) (a : Ac) (W : World) : Prop where
  p2 : P2 SA w p S q T [Z, X] W
  x : W.heap[X]? = some (.cells #[.int .u64 t, .int .u32 u] 33 (0, 0))
  z : W.heap[Z]? = some (.cells #[.int .i64 a.what, .int .i64 a.limit, .string (bs a.key), .string (bs a.til), .int .u64 a.v.p, .int .u32 a.v.l, .int .u32 a.v.c, .int .u32 a.v.n, .string (bs a.v.val), .bool a.v.dead] 39 (0, 0))
theorem Aq.ap {w W : World} {p q X Z : Nat} {S T : Sk} {t u : Int} {a : Ac} (h : Aq SA w p S q T X t u Z a W) : Ap SA w p S q T X t u W := ⟨h.p2.drop (fun b hb => by simp at hb ⊢; exact .inr hb), h.x⟩
theorem Ap.act (I : Ifs SA) {w W : World} {p q X : Nat} {S T : Sk} {t u : Int} (h : Ap SA w p S q T X t u W) (a : Ac) : Aq SA w p S q T X t u W.heap.size a (W.alloc (.cells #[.int .i64 a.what, .int .i64 a.limit, .string (bs a.key), .string (bs a.til), .int .u64 a.v.p, .int .u32 a.v.l, .int .u32 a.v.c, .int .u32 a.v.n, .string (bs a.v.val), .bool a.v.dead] 39)) :=
  ⟨h.p2.box I _, (h.on I (al _)).x, heap_alloc_new W _⟩
theorem Aq.ten {w W : World} {p q X Z : Nat} {S T : Sk} {t u : Int} {a : Ac} (h : Aq SA w p S q T X t u Z a W) : W.cell? ⟨Z, 0, none⟩ = some (.int .i64 a.what) ∧ W.cell? ⟨Z, 1, none⟩ = some (.int .i64 a.limit) ∧ W.cell? ⟨Z, 2, none⟩ = some (.string (bs a.key)) ∧ W.cell? ⟨Z, 3, none⟩ = some (.string (bs a.til)) ∧ W.cell? ⟨Z, 4, none⟩ = some (.int .u64 a.v.p) ∧ W.cell? ⟨Z, 5, none⟩ = some (.int .u32 a.v.l) ∧ W.cell? ⟨Z, 6, none⟩ = some (.int .u32 a.v.c) ∧ W.cell? ⟨Z, 7, none⟩ = some (.int .u32 a.v.n) ∧ W.cell? ⟨Z, 8, none⟩ = some (.string (bs a.v.val)) ∧ W.cell? ⟨Z, 9, none⟩ = some (.bool a.v.dead) :=
  ⟨block_cell h.z rfl, block_cell h.z rfl, block_cell h.z rfl, block_cell h.z rfl, block_cell h.z rfl, block_cell h.z rfl, block_cell h.z rfl, block_cell h.z rfl, block_cell h.z rfl, block_cell h.z rfl⟩
theorem aq_put1 (I : Ifs SA) {w W : World} {p q X Z : Nat} {S T : Sk} {t u : Int} {a : Ac} (k : List UInt8) (x : Ve) (h : Aq SA w p S q T X t u Z a W) (ht : totS S < 9000) : Calls Try.prog 11 #[.pointer (some ⟨p, 0, none⟩), .string (bs k), veV x] W fun e w' => e = .returned (.int .i64 (putS k x S).2) ∧ Aq SA w p (putS k x S).1 q T X t u Z a w' := by
  refine (p2_put1 I k x h.p2 ht).mono ?_
  rintro e w' ⟨rfl, h1, h2⟩
  exact ⟨rfl, h1, by rw [h2 X (by simp)]; exact h.x, by rw [h2 Z (by simp)]; exact h.z⟩
theorem aq_put2 (I : Ifs SA) {w W : World} {p q X Z : Nat} {S T : Sk} {t u : Int} {a : Ac} (k : List UInt8) (x : Ve) (h : Aq SA w p S q T X t u Z a W) (ht : totS T < 9000) : Calls Try.prog 11 #[.pointer (some ⟨q, 0, none⟩), .string (bs k), veV x] W fun e w' => e = .returned (.int .i64 (putS k x T).2) ∧ Aq SA w p S q (putS k x T).1 X t u Z a w' := by
  refine (p2_put2 I k x h.p2 ht).mono ?_
  rintro e w' ⟨rfl, h1, h2⟩
  exact ⟨rfl, h1, by rw [h2 X (by simp)]; exact h.x, by rw [h2 Z (by simp)]; exact h.z⟩
theorem ap_new (I : Ifs SA) {w W W' : World} {p q X : Nat} {t u : Int} (h : Pb SA w p [] [X] W) (hx : W.heap[X]? = some (.cells #[.int .u64 t, .int .u32 u] 33 (0, 0))) (h2 : Pw SA W q [] W') : Ap SA w p [] q [] X t u W' :=
  ⟨h.join I h2, by rw [h2.bel.block X (Array.getElem?_eq_some_iff.1 hx).1]; exact hx⟩

set_option maxHeartbeats 3200000 in
set_option maxRecDepth 100000 in
theorem apart7 (I : Ifs SA) (B : Nat) (L : List Ac) (v : Value) (key : List UInt8) (t u : Int) (w : World) (hv : AcsAt B v L w) (hB : B ≤ w.heap.size) :
    Calls Try.prog 7 #[v, .string (bs key), .agg #[.int .u64 t, .int .u32 u]] w fun e w' => e = .returned (.bool true) ∧ Below w.heap.size w w' := by
  obtain ⟨ao, cap, rfl, hlc, hcm⟩ := hv.shape
  have HE : Hid (∀ W, Below w.heap.size w W → ∀ i, i < L.length → ∃ b off, ao = some ⟨b, off, none⟩ ∧ AcAt W b (off + i * 10) (L.getD i dac)) := fun W hb i hi => (AcsAt.el (RwAt.on hv (hb.mono hB)) hi)
  have CA : Hid (∀ W : World, 1 = 1 → Calls Try.prog 9 #[] W fun e w' => e = .returned (.bool true) ∧ Below W.heap.size W w') := fun W _ => awake9 I W
  have hL9 : L.length < 9223372036854775808 := by omega
  have HX0 : Hid ((w.alloc (.cells #[.int .u64 t, .int .u32 u] 33)).heap[w.heap.size]? = some (.cells #[.int .u64 t, .int .u32 u] 33 (0, 0))) := heap_alloc_new w _
  have HB0 : Hid (Below w.heap.size w (w.alloc (.cells #[.int .u64 t, .int .u32 u] 33))) := al _
  clear hv hlc hcm
  go_enter Try.func7, Try.ntmps7
  go_wp2_with fail
  refine (CA.out _ (by trivial)).mono ?_
  rintro e w1 ⟨rfl, hb⟩
  obtain ⟨W0, hW0⟩ : ∃ W0, w.alloc (.cells #[.int .u64 t, .int .u32 u] 33) = W0 := ⟨_, rfl⟩
  obtain ⟨X, hX⟩ : ∃ X, w.heap.size = X := ⟨_, rfl⟩
  rw [hW0] at HX0 HB0 hb
  rw [hX] at HX0
  have HX1 : Hid (w1.heap[X]? = some (.cells #[.int .u64 t, .int .u32 u] 33 (0, 0)) ∧ Below w.heap.size w w1) := ⟨by rw [hb.block X (Array.getElem?_eq_some_iff.1 HX0.out).1]; exact HX0.out, HB0.out.trans (hb.mono HB0.out.size)⟩
  have HXX : Hid (w.heap.size = X) := hX
  rw [hX]
  clear hb hW0 hX HX0 HB0 CA
  have C1 : Hid (1 = 1 → _) := fun _ => pb_new I (Bx := [X]) HX1.out.2 (fun b hb => by simp at hb; subst hb; exact (Array.getElem?_eq_some_iff.1 HX1.out.1).1)
  go_wp2_with fail
  refine (C1.out (by trivial)).mono ?_
  rintro e w2 ⟨p, rfl, hp2, hb2⟩
  have H2 : Hid (Pb SA w p [] [X] w2 ∧ w2.heap[X]? = some (.cells #[.int .u64 t, .int .u32 u] 33 (0, 0))) := ⟨hp2, by rw [hb2.block X (Array.getElem?_eq_some_iff.1 HX1.out.1).1]; exact HX1.out.1⟩
  clear hp2 hb2 C1
  have C2 : Hid (1 = 1 → Calls Try.prog 10 #[] w2 fun e w' => ∃ q, e = .returned (.pointer (some ⟨q, 0, none⟩)) ∧ Pw SA w2 q [] w') := fun _ => pw_new I (Below.refl _ _)
  go_wp2_with fail
  refine (C2.out (by trivial)).mono ?_
  rintro e w3 ⟨q, rfl, hq3⟩
  have H3 : Hid (Ap SA w p [] q [] X t u w3) := ap_new I H2.out.1 H2.out.2 hq3
  clear hq3 C2 H2 HX1
  go_wp2_with fail
  go_loopw [21] (fun i wr => ∃ (m : Nat) (S T : Sk), m ≤ L.length ∧ m ≤ 80 ∧ i = .int .i64 m ∧ Ap SA w p S q T X t u wr ∧ chainF key S = chainF key T ∧ totS S ≤ m ∧ totS T ≤ m) (fun i _ => L.length - (intOf i).toNat)
  case atStart => exact ⟨0, [], [], Nat.zero_le _, by omega, rfl, H3.out, rfl, by decide, by decide⟩
  case round =>
    obtain ⟨m, S, T, hm, hm80, rfl, hap, hst, htS, htT⟩ := hrel
    have HA : Hid (Ap SA w p S q T X t u wr) := hap
    have HST : Hid _ := hst
    clear hap hst
    have CGp : Hid (∀ W, Ap SA w p S q T X t u W → Calls Try.prog 15 #[.pointer (some ⟨p, 0, none⟩), .string (bs key), .agg #[.int .u64 t, .int .u32 u]] W fun e w' => e = .returned (.tuple #[.string (bs (getV (seeF (chainF key S) t u)).1), .bool (getV (seeF (chainF key S) t u)).2]) ∧ Ap SA w p S q T X t u w') := fun W h => by
      refine (pw_get I key t u h.p2.one).mono ?_
      rintro e w' ⟨rfl, _, hb⟩
      exact ⟨rfl, h.on I hb⟩
    have CGq : Hid (∀ W, Ap SA w p S q T X t u W → Calls Try.prog 15 #[.pointer (some ⟨q, 0, none⟩), .string (bs key), .agg #[.int .u64 t, .int .u32 u]] W fun e w' => e = .returned (.tuple #[.string (bs (getV (seeF (chainF key S) t u)).1), .bool (getV (seeF (chainF key S) t u)).2]) ∧ Ap SA w p S q T X t u w') := fun W h => by
      have := pw_get I key t u h.p2.two
      rw [← HST.out] at this
      refine this.mono ?_
      rintro e w' ⟨rfl, _, hb⟩
      exact ⟨rfl, h.on I hb⟩
    have CNp : Hid (∀ W, Ap SA w p S q T X t u W → Calls Try.prog 17 #[.pointer (some ⟨p, 0, none⟩), .string (bs key)] W fun e w' => e = .returned (.agg #[.int .u64 (newF (chainF key S)).1, .int .u32 (newF (chainF key S)).2]) ∧ Ap SA w p S q T X t u w') := fun W h => by
      refine (pw_newest I key h.p2.one).mono ?_
      rintro e w' ⟨rfl, _, hb⟩
      exact ⟨rfl, h.on I hb⟩
    have CNq : Hid (∀ W, Ap SA w p S q T X t u W → Calls Try.prog 17 #[.pointer (some ⟨q, 0, none⟩), .string (bs key)] W fun e w' => e = .returned (.agg #[.int .u64 (newF (chainF key S)).1, .int .u32 (newF (chainF key S)).2]) ∧ Ap SA w p S q T X t u w') := fun W h => by
      have := pw_newest I key h.p2.two
      rw [← HST.out] at this
      refine this.mono ?_
      rintro e w' ⟨rfl, _, hb⟩
      exact ⟨rfl, h.on I hb⟩
    have CCp : Hid (∀ W, Ap SA w p S q T X t u W → Calls Try.prog 19 #[.pointer (some ⟨p, 0, none⟩), .string (bs key)] W fun e w' => e = .returned (.int .i64 (chainF key S).length) ∧ Ap SA w p S q T X t u w') := fun W h => by
      refine (pw_count I key h.p2.one).mono ?_
      rintro e w' ⟨rfl, _, hb⟩
      exact ⟨rfl, h.on I hb⟩
    have CCq : Hid (∀ W, Ap SA w p S q T X t u W → Calls Try.prog 19 #[.pointer (some ⟨q, 0, none⟩), .string (bs key)] W fun e w' => e = .returned (.int .i64 (chainF key S).length) ∧ Ap SA w p S q T X t u w') := fun W h => by
      have := pw_count I key h.p2.two
      rw [← HST.out] at this
      refine this.mono ?_
      rintro e w' ⟨rfl, _, hb⟩
      exact ⟨rfl, h.on I hb⟩
    by_cases hml : m < L.length
    · obtain ⟨b, off, rfl, ha⟩ := HE.out _ HA.out.p2.bel m hml
      have hml' : (m : Int) < L.length := by omega
      have HAct : Hid _ := HA.out.act I (L.getD m dac)
      obtain ⟨c0, c1, c2, c3, c4, c5, c6, c7, c8, c9⟩ := ha
      by_cases h80 : m = 80
      · subst h80
        simp only [Nat.reduceMul] at c0 c1 c2 c3 c4 c5 c6 c7 c8 c9
        have HAe : Hid _ := HAct.out.ap
        generalize L.getD 80 dac = a at *
        obtain ⟨aw, alm, ak, atl, ⟨xp, xl, xc, xn, xs, xd⟩⟩ := a
        dsimp only at c0 c1 c2 c3 c4 c5 c6 c7 c8 c9 HAe
        have q1 := bs_beq (getV (seeF (chainF key S) t u)).1 (getV (seeF (chainF key S) t u)).1
        rw [show ((getV (seeF (chainF key S) t u)).1 == (getV (seeF (chainF key S) t u)).1) = true from by simp] at q1
        generalize getV (seeF (chainF key S) t u) = y at *
        generalize newF (chainF key S) = nn at *
        generalize (chainF key S).length = cn at *
        obtain ⟨o1, o2⟩ := y
        obtain ⟨np, nl'⟩ := nn
        dsimp only at CGp CGq CNp CNq q1
        have hrun := run_eql26 np nl' np nl'
        rw [show eqB np nl' np nl' = true from by simp [eqB]] at hrun
        obtain ⟨x0, x1⟩ := HA.out.cells
        have hXlt : X < wr.heap.size := World.block_lt_of_cell? _ _ x0
        clear HAct HE HST HA htS htT
        go_wp2_with fail
        refine (CGp.out _ HAe.out).mono ?_
        rintro e v1 ⟨rfl, h1⟩
        have E1 : Hid (Ap SA w p S q T X t u v1) := h1
        clear h1 x0 x1
        obtain ⟨x0, x1⟩ := E1.out.cells
        go_wp2_with fail
        refine (CGq.out _ E1.out).mono ?_
        rintro e v2 ⟨rfl, h2⟩
        have E2 : Hid (Ap SA w p S q T X t u v2) := h2
        clear h2 x0 x1 E1
        go_wp2_with fail
        refine (CNp.out _ E2.out).mono ?_
        rintro e v3 ⟨rfl, h3⟩
        have E3 : Hid (Ap SA w p S q T X t u v3) := h3
        clear h3 E2
        go_wp2_with fail
        refine (CNq.out _ E3.out).mono ?_
        rintro e v4 ⟨rfl, h4⟩
        have E4 : Hid (Ap SA w p S q T X t u v4) := h4
        clear h4 E3
        go_wp2_with fail
        refine (CCp.out _ E4.out).mono ?_
        rintro e v5 ⟨rfl, h5⟩
        have E5 : Hid (Ap SA w p S q T X t u v5) := h5
        clear h5 E4
        go_wp2_with fail
        refine (CCq.out _ E5.out).mono ?_
        rintro e v6 ⟨rfl, h6⟩
        have E6 : Hid (Ap SA w p S q T X t u v6) := h6
        clear h6 E5
        go_wp2_with fail
        go_ret
        exact ⟨rfl, E6.out.p2.bel⟩
      · have h80' : ((m : Int) == 80) = false := by simp; omega
        obtain ⟨hsS, hsT⟩ : SOk S ∧ SOk T := ⟨HA.out.p2.one.sok I, HA.out.p2.two.sok I⟩
        have HA1 : Hid (∀ v, chainF key (putS key v S).1 = chainF key (putS key v T).1) := fun v => apart_put hsS hsT v HST.out
        have HA2 : Hid (∀ k v, ¬ k = key → chainF key (putS k v S).1 = chainF key T) := fun k v h => by rw [apart_other hsS v h, HST.out]
        have HT1 : Hid (∀ k v, totS (putS k v S).1 ≤ m + 1 ∧ totS (putS k v T).1 ≤ m + 1) := fun k v => by
          have h1 := tot_put hsS k v
          have h2 := tot_put hsT k v
          omega
        generalize L.getD m dac = a at *
        obtain ⟨aw, alm, ak, atl, ⟨xp, xl, xc, xn, xs, xd⟩⟩ := a
        dsimp only at c0 c1 c2 c3 c4 c5 c6 c7 c8 c9
        have CP1 : Hid (∀ W Z, Aq SA w p S q T X t u Z ⟨aw, alm, ak, atl, ⟨xp, xl, xc, xn, xs, xd⟩⟩ W → Calls Try.prog 11 #[.pointer (some ⟨p, 0, none⟩), .string (bs ak), .agg #[.int .u64 xp, .int .u32 xl, .int .u32 xc, .int .u32 xn, .string (bs xs), .bool xd]] W fun e w' => e = .returned (.int .i64 (putS ak ⟨xp, xl, xc, xn, xs, xd⟩ S).2) ∧ Aq SA w p (putS ak ⟨xp, xl, xc, xn, xs, xd⟩ S).1 q T X t u Z ⟨aw, alm, ak, atl, ⟨xp, xl, xc, xn, xs, xd⟩⟩ w') := fun W Z h => aq_put1 I ak ⟨xp, xl, xc, xn, xs, xd⟩ h (by omega)
        have CP2 : Hid (∀ S W Z, Aq SA w p S q T X t u Z ⟨aw, alm, ak, atl, ⟨xp, xl, xc, xn, xs, xd⟩⟩ W → Calls Try.prog 11 #[.pointer (some ⟨q, 0, none⟩), .string (bs ak), .agg #[.int .u64 xp, .int .u32 xl, .int .u32 xc, .int .u32 xn, .string (bs xs), .bool xd]] W fun e w' => e = .returned (.int .i64 (putS ak ⟨xp, xl, xc, xn, xs, xd⟩ T).2) ∧ Aq SA w p S q (putS ak ⟨xp, xl, xc, xn, xs, xd⟩ T).1 X t u Z ⟨aw, alm, ak, atl, ⟨xp, xl, xc, xn, xs, xd⟩⟩ w') := fun S W Z h => aq_put2 I ak ⟨xp, xl, xc, xn, xs, xd⟩ h (by omega)
        clear CGp CGq CNp CNq CCp CCq hsS hsT htS
        have HTT : Hid (totS T ≤ m) := htT
        clear htT
        go_wp2_with fail
        refine (CP1.out _ _ HAct.out).mono ?_
        rintro e w5 ⟨rfl, h5⟩
        generalize wr.heap.size = Z at *
        have H5 : Hid (Aq SA w p (putS ak ⟨xp, xl, xc, xn, xs, xd⟩ S).1 q T X t u Z ⟨aw, alm, ak, atl, ⟨xp, xl, xc, xn, xs, xd⟩⟩ w5) := h5
        clear h5 c0 c1 c2 c3 c4 c5 c6 c7 c8 c9 HAct CP1
        obtain ⟨d0, d1, d2, d3, d4, d5, d6, d7, d8, d9⟩ := H5.out.ten
        dsimp only at d0 d1 d2 d3 d4 d5 d6 d7 d8 d9
        have q0 := bs_beq ak key
        by_cases hk : ak = key
        · subst hk
          rw [show (ak == ak) = true from by simp] at q0
          have CP3 : Hid (1 = 1 → _) := fun _ => CP2.out _ _ _ H5.out
          have HF : Hid _ := HA1.out ⟨xp, xl, xc, xn, xs, xd⟩
          have HFT : Hid _ := HT1.out ak ⟨xp, xl, xc, xn, xs, xd⟩
          generalize putS ak ⟨xp, xl, xc, xn, xs, xd⟩ S = PS at *
          generalize putS ak ⟨xp, xl, xc, xn, xs, xd⟩ T = PT at *
          clear HA1 HA2 HT1 CP2
          go_wp2_with fail
          refine (CP3.out (by trivial)).mono ?_
          rintro e w6 ⟨rfl, h6⟩
          have H6 : Hid (Ap SA w p PS.1 q PT.1 X t u w6) := h6.ap
          clear h6 d0 d1 d2 d3 d4 d5 d6 d7 d8 d9 CP3 H5
          go_wp2_with fail
          go_roundw
          case rel => exact ⟨m + 1, PS.1, PT.1, by omega, by omega, by go_num, H6.out, HF.out, HFT.out.1, HFT.out.2⟩
          case measure => simp [intOf]; omega
        · rw [show (ak == key) = false from by simp [hk]] at q0
          have HF : Hid _ := HA2.out ak ⟨xp, xl, xc, xn, xs, xd⟩ hk
          have HFT : Hid _ := HT1.out ak ⟨xp, xl, xc, xn, xs, xd⟩
          have H6 : Hid _ := H5.out.ap
          generalize putS ak ⟨xp, xl, xc, xn, xs, xd⟩ S = PS at *
          clear HA1 HA2 HT1 CP2 hk
          go_wp2_with fail
          go_roundw
          case rel => exact ⟨m + 1, PS.1, T, by omega, by omega, by go_num, H6.out, HF.out, HFT.out.1, by have := HTT.out; omega⟩
          case measure => simp [intOf]; omega
    · have hml' : ¬ (m : Int) < L.length := by omega
      have q1 := bs_beq (getV (seeF (chainF key S) t u)).1 (getV (seeF (chainF key S) t u)).1
      rw [show ((getV (seeF (chainF key S) t u)).1 == (getV (seeF (chainF key S) t u)).1) = true from by simp] at q1
      generalize getV (seeF (chainF key S) t u) = y at *
      generalize newF (chainF key S) = nn at *
      generalize (chainF key S).length = cn at *
      obtain ⟨o1, o2⟩ := y
      obtain ⟨np, nl'⟩ := nn
      dsimp only at CGp CGq CNp CNq q1
      have hrun := run_eql26 np nl' np nl'
      rw [show eqB np nl' np nl' = true from by simp [eqB]] at hrun
      clear HE HST htS htT
      obtain ⟨x0, x1⟩ := HA.out.cells
      go_wp2_with fail
      refine (CGp.out _ HA.out).mono ?_
      rintro e v1 ⟨rfl, h1⟩
      have E1 : Hid (Ap SA w p S q T X t u v1) := h1
      clear h1 x0 x1
      obtain ⟨x0, x1⟩ := E1.out.cells
      go_wp2_with fail
      refine (CGq.out _ E1.out).mono ?_
      rintro e v2 ⟨rfl, h2⟩
      have E2 : Hid (Ap SA w p S q T X t u v2) := h2
      clear h2 x0 x1 E1
      go_wp2_with fail
      refine (CNp.out _ E2.out).mono ?_
      rintro e v3 ⟨rfl, h3⟩
      have E3 : Hid (Ap SA w p S q T X t u v3) := h3
      clear h3 E2
      go_wp2_with fail
      refine (CNq.out _ E3.out).mono ?_
      rintro e v4 ⟨rfl, h4⟩
      have E4 : Hid (Ap SA w p S q T X t u v4) := h4
      clear h4 E3
      go_wp2_with fail
      refine (CCp.out _ E4.out).mono ?_
      rintro e v5 ⟨rfl, h5⟩
      have E5 : Hid (Ap SA w p S q T X t u v5) := h5
      clear h5 E4
      go_wp2_with fail
      refine (CCq.out _ E5.out).mono ?_
      rintro e v6 ⟨rfl, h6⟩
      have E6 : Hid (Ap SA w p S q T X t u v6) := h6
      clear h6 E5
      go_wp2_with fail
      go_ret
      exact ⟨rfl, E6.out.p2.bel⟩
end Go.Proofs.Ytcfhkggijdjagaa
