/-
  The walk of StoreRuns.
-/
import Derived.Test.YtcfhkggijdjagaaRun
namespace Go.Proofs.Ytcfhkggijdjagaa
open Go.RowKit
variable {SA : Nat → Nat → (Nat → Prop) → Sk → World → Prop}

theorem Pq.all {w W : World} {p rb Z : Nat} {S T : Sk} {aw alm xp xl xc xn : Int} {ak atl xs : List UInt8} {xd : Bool} (h : Pq SA w p rb S T Z ⟨aw, alm, ak, atl, ⟨xp, xl, xc, xn, xs, xd⟩⟩ W) : W.cell? ⟨Z, 1, none⟩ = some (.int .i64 alm) ∧ W.cell? ⟨Z, 2, none⟩ = some (.string (bs ak)) ∧ W.cell? ⟨Z, 3, none⟩ = some (.string (bs atl)) ∧ W.cell? ⟨Z, 4, none⟩ = some (.int .u64 xp) ∧ W.cell? ⟨Z, 5, none⟩ = some (.int .u32 xl) ∧ W.cell? ⟨Z, 6, none⟩ = some (.int .u32 xc) ∧ W.cell? ⟨Z, 7, none⟩ = some (.int .u32 xn) ∧ W.cell? ⟨Z, 8, none⟩ = some (.string (bs xs)) ∧ W.cell? ⟨Z, 9, none⟩ = some (.bool xd) ∧ Hid (∃ Sa Ta, Pq SA w p rb Sa Ta Z ⟨aw, alm, ak, atl, ⟨xp, xl, xc, xn, xs, xd⟩⟩ W) := by
  obtain ⟨c0, c1, c2, c3, c4, c5, c6, c7, c8, c9⟩ := h.ten
  exact ⟨c1, c2, c3, c4, c5, c6, c7, c8, c9, ⟨_, _, h⟩⟩
theorem Pq.five {w W : World} {p rb Z : Nat} {S T : Sk} {aw alm xp xl xc xn : Int} {ak atl xs : List UInt8} {xd : Bool} (h : Pq SA w p rb S T Z ⟨aw, alm, ak, atl, ⟨xp, xl, xc, xn, xs, xd⟩⟩ W) : W.cell? ⟨Z, 1, none⟩ = some (.int .i64 alm) ∧ W.cell? ⟨Z, 2, none⟩ = some (.string (bs ak)) ∧ W.cell? ⟨Z, 3, none⟩ = some (.string (bs atl)) ∧ W.cell? ⟨Z, 4, none⟩ = some (.int .u64 xp) ∧ W.cell? ⟨Z, 5, none⟩ = some (.int .u32 xl) ∧ Hid (Pq SA w p rb S T Z ⟨aw, alm, ak, atl, ⟨xp, xl, xc, xn, xs, xd⟩⟩ W) := by
  obtain ⟨c0, c1, c2, c3, c4, c5, c6, c7, c8, c9⟩ := h.ten
  exact ⟨c1, c2, c3, c4, c5, h⟩
/-- The end: the document's list lies where its box says. -/
structure Pl (SA : Nat → Nat → (Nat → Prop) → Sk → World → Prop) (w : World) (p rb : Nat) (S : Sk) (ra : Option Addr) (n rc : Nat) (W : World) : Prop where
  p3 : P3 SA w p rb S S [] W
  c : W.cell? ⟨rb, 0, none⟩ = some (.slice ra n rc)
  it : ∃ L, ItAt (.slice ra n rc) L S W
theorem Pl.on (I : Ifs SA) {w W W' : World} {p rb n rc : Nat} {ra : Option Addr} {S : Sk} (h : Pl SA w p rb S ra n rc W) (hb : Below W.heap.size W W') : Pl SA w p rb S ra n rc W' := by
  obtain ⟨L, h1⟩ := h.it
  exact ⟨h.p3.on I hb, by rw [hb.cell (World.block_lt_of_cell? _ _ h.c)]; exact h.c, L, h1.on hb⟩
theorem Pl.dr (I : Ifs SA) {w W : World} {p rb n rc : Nat} {ra : Option Addr} {S : Sk} (h : Pl SA w p rb S ra n rc W) : Pl SA w p rb S ra n rc W.drew := h.on I (Below.refl _ _).drew
theorem Pl.s {w W : World} {p rb n rc : Nat} {ra : Option Addr} {S : Sk} (h : Pl SA w p rb S ra n rc W) : W.cell? ⟨rb, 0, none⟩ = some (.slice ra n rc) ∧ Pl SA w p rb S ra n rc W := ⟨h.c, h⟩
theorem P3.pl {w W : World} {p rb : Nat} {S : Sk} (h : P3 SA w p rb S S [] W) : ∃ ra n rc, Pl SA w p rb S ra n rc W := by
  obtain ⟨ao, n, cap, L, h1, h2⟩ := h.list
  exact ⟨ao, n, cap, h, h1, L, h2⟩
theorem pl_items (I : Ifs SA) {w W : World} {p rb n rc : Nat} {ra : Option Addr} {S : Sk} (h : Pl SA w p rb S ra n rc W) : Calls Try.prog 25 #[.pointer (some ⟨p, 0, none⟩)] W fun e w' => ∃ v', e = .returned v' ∧ Pl SA w p rb S ra n rc w' ∧ ∃ L, ItAt v' L S w' := by
  refine (pw_items I h.p3.pw).mono ?_
  rintro e w' ⟨v', L, rfl, hi, _, hb⟩
  exact ⟨v', rfl, h.on I hb, L, hi⟩
theorem pl_same (I : Ifs SA) {w W : World} {p rb n rc : Nat} {ra : Option Addr} {S : Sk} {v' : Value} (h : Pl SA w p rb S ra n rc W) (hv : ∃ L, ItAt v' L S W) : Calls Try.prog 24 #[v', .slice ra n rc] W fun e w' => e = .returned (.bool true) ∧ Pl SA w p rb S ra n rc w' := by
  obtain ⟨L, hv⟩ := hv
  obtain ⟨M, hi⟩ := h.it
  refine (same24 L M S v' (.slice ra n rc) W hv hi).mono ?_
  rintro e w' ⟨rfl, hb⟩
  exact ⟨rfl, h.on I hb⟩

set_option maxHeartbeats 3200000 in
set_option maxRecDepth 100000 in
theorem runs3 (I : Ifs SA) (B : Nat) (L : List Ac) (v : Value) (w : World) (hv : AcsAt B v L w) (hB : B ≤ w.heap.size) :
    Calls Try.prog 3 #[v] w fun e w' => e = .returned (.bool true) ∧ Below w.heap.size w w' := by
  obtain ⟨ao, cap, rfl, hlc, hcm⟩ := hv.shape
  have HE : Hid (∀ W, Below w.heap.size w W → ∀ i, i < L.length → ∃ b off, ao = some ⟨b, off, none⟩ ∧ AcAt W b (off + i * 10) (L.getD i dac)) := fun W hb i hi => (AcsAt.el (RwAt.on hv (hb.mono hB)) hi)
  have CA : Hid (∀ W : World, 1 = 1 → Calls Try.prog 9 #[] W fun e w' => e = .returned (.bool true) ∧ Below W.heap.size W w') := fun W _ => awake9 I W
  have HM : Hid (L.length < 9223372036854775808) := by show _ < _; omega
  clear hv hlc hcm hB
  go_enter Try.func3, Try.ntmps3
  go_wp2_with fail
  refine (CA.out _ (by trivial)).mono ?_
  rintro e w1 ⟨rfl, hb1⟩
  have C1 : Hid (1 = 1 → _) := fun _ => pw_new I hb1
  clear CA hb1
  go_wp2_with fail
  refine (C1.out (by trivial)).mono ?_
  rintro e w2 ⟨p, rfl, hm2⟩
  have H2 : Hid (P3 SA w p w2.heap.size [] [] [] (w2.alloc (.cells #[.slice none 0 0] 29))) := p3_new I hm2
  clear hm2 C1
  go_wp2_with fail
  generalize w2.alloc (.cells #[.slice none 0 0] 29) = w3 at H2 ⊢
  generalize w2.heap.size = rb at H2 ⊢
  go_loopw [18] (fun i wr => ∃ (m : Nat) (S : Sk), m ≤ L.length ∧ m ≤ 150 ∧ i = .int .i64 m ∧ totS S ≤ m ∧ P3 SA w p rb S S [] wr) (fun i _ => L.length - (intOf i).toNat)
  case atStart => exact ⟨0, [], Nat.zero_le _, by omega, rfl, by decide, H2.out⟩
  case round =>
    obtain ⟨m, S, hm, hm150, rfl, htS, hp⟩ := hrel
    have HP : Hid _ := hp
    have HT : Hid _ := htS
    clear hp H2 htS
    by_cases hml : m < L.length
    · obtain ⟨b, off, rfl, ha⟩ := HE.out _ HP.out.bel m hml
      have hml' : (m : Int) < L.length := by omega
      have HB : Hid _ := HP.out.act I (L.getD m dac)
      obtain ⟨c0, c1, c2, c3, c4, c5, c6, c7, c8, c9⟩ := ha
      by_cases h150 : m = 150
      · subst h150
        simp only [Nat.reduceMul] at c0 c1 c2 c3 c4 c5 c6 c7 c8 c9
        have HP1 : Hid _ := HB.out.p3.drop
        generalize L.getD 150 dac = a at *
        obtain ⟨aw, alm, ak, atl, ⟨xp, xl, xc, xn, xs, xd⟩⟩ := a
        dsimp only at c0 c1 c2 c3 c4 c5 c6 c7 c8 c9 HP1 HB
        go_upto_region 20 with fail
        obtain ⟨ra, rn, rc, hpl⟩ := HP1.out.pl
        have HL : Hid _ := hpl
        clear hpl
        have CI : Hid (∀ W, Pl SA w p rb S ra rn rc W → _) := fun W h => pl_items I h
        have CS : Hid (∀ W v', Pl SA w p rb S ra rn rc W → (∃ L, ItAt v' L S W) → Calls Try.prog 24 #[v', .slice ra rn rc] W fun e w' => e = .returned (.bool true) ∧ Pl SA w p rb S ra rn rc w') := fun W v' h h' => pl_same I h h'
        clear HB HP HE HT c0 c1 c2 c3 c4 c5 c6 c7 c8 c9
        go_region_held3 (fun W => W.cell? ⟨rb, 0, none⟩ = some (.slice ra rn rc) ∧ Pl SA w p rb S ra rn rc W)
          ((with_reducible refine Pl.s ?_; with_reducible repeat (first | exact HL.out | exact H5.out.1 | exact H6.out | refine Pl.dr I ?_)))
          (first
          | (go_at_call 25; refine (CI.out _ (Pl.dr I HL.out)).mono ?_; rintro e w5 ⟨v5, rfl, h5⟩; have H5 : Hid (Pl SA w p rb S ra rn rc w5 ∧ ∃ L, ItAt v5 L S w5) := h5; clear h5)
          | (go_at_call 24; refine (CS.out _ v5 H5.out.1 H5.out.2).mono ?_; rintro e w6 ⟨rfl, h6⟩; have H6 : Hid (Pl SA w p rb S ra rn rc w6) := h6; clear h6))
        rename_i hHeld
        clear hHeld
        go_wp2_with fail
        go_ret
        exact ⟨rfl, H6.out.p3.bel⟩
      · have h150' : ((m : Int) == 150) = false := by simp; omega
        have hm2 : m < 150 := by omega
        clear h150 HP
        generalize L.getD m dac = a at *
        obtain ⟨aw, alm, ak, atl, ⟨xp, xl, xc, xn, xs, xd⟩⟩ := a
        dsimp only at c0 c1 c2 c3 c4 c5 c6 c7 c8 c9 HB
        go_upto_block 2 with fail
        clear c0 c1 c2 c3 c4 c5 c6 c7 c8 c9
        generalize wr.alloc (.cells #[.int .i64 aw, .int .i64 alm, .string (bs ak), .string (bs atl), .int .u64 xp, .int .u32 xl, .int .u32 xc, .int .u32 xn, .string (bs xs), .bool xd] 39) = w4 at HB ⊢
        generalize wr.heap.size = Z at HB ⊢
        go_cut [] (fun wc => ∃ S' : Sk, totS S' ≤ m + 1 ∧ Pq SA w p rb S' S' Z ⟨aw, alm, ak, atl, ⟨xp, xl, xc, xn, xs, xd⟩⟩ wc)
        case first =>
          obtain ⟨c0, c1, c2, c3, c4, c5, c6, c7, c8, c9⟩ := HB.out.ten
          dsimp only at c0 c1 c2 c3 c4 c5 c6 c7 c8 c9
          have hS := (HB.out.p3.pw).sok I
          by_cases hw0 : aw = 0
          · subst hw0
            have CP : Hid (∀ W, Pq SA w p rb S S Z ⟨0, alm, ak, atl, ⟨xp, xl, xc, xn, xs, xd⟩⟩ W → Calls Try.prog 11 #[.pointer (some ⟨p, 0, none⟩), .string (bs ak), .agg #[.int .u64 xp, .int .u32 xl, .int .u32 xc, .int .u32 xn, .string (bs xs), .bool xd]] W fun e w' => e = .returned (.int .i64 (putS ak ⟨xp, xl, xc, xn, xs, xd⟩ S).2) ∧ Pq SA w p rb (putS ak ⟨xp, xl, xc, xn, xs, xd⟩ S).1 S Z ⟨0, alm, ak, atl, ⟨xp, xl, xc, xn, xs, xd⟩⟩ w') := fun W h => pq_put1 I ak ⟨xp, xl, xc, xn, xs, xd⟩ h (by have := HT.out; omega)
            have CR : Hid (∀ W, Pq SA w p rb (putS ak ⟨xp, xl, xc, xn, xs, xd⟩ S).1 S Z ⟨0, alm, ak, atl, ⟨xp, xl, xc, xn, xs, xd⟩⟩ W → Calls Try.prog 12 #[.pointer (some ⟨rb, 0, none⟩), .string (bs ak), .agg #[.int .u64 xp, .int .u32 xl, .int .u32 xc, .int .u32 xn, .string (bs xs), .bool xd]] W fun e w' => e = .returned (.int .i64 (putS ak ⟨xp, xl, xc, xn, xs, xd⟩ S).2) ∧ Pq SA w p rb (putS ak ⟨xp, xl, xc, xn, xs, xd⟩ S).1 (putS ak ⟨xp, xl, xc, xn, xs, xd⟩ S).1 Z ⟨0, alm, ak, atl, ⟨xp, xl, xc, xn, xs, xd⟩⟩ w') := fun W h => pq_put2 I ak ⟨xp, xl, xc, xn, xs, xd⟩ h (by have := HT.out; omega)
            have HF : Hid (totS (putS ak ⟨xp, xl, xc, xn, xs, xd⟩ S).1 ≤ m + 1) := by show _ ≤ _; have := HT.out; have := tot_put hS ak ⟨xp, xl, xc, xn, xs, xd⟩; omega
            generalize putS ak ⟨xp, xl, xc, xn, xs, xd⟩ S = PS at *
            obtain ⟨S', er⟩ := PS
            dsimp only at CP CR HF
            clear hS HT HE
            go_upto_region 10 with fail
            go_region_held3 (fun W => W.cell? ⟨Z, 1, none⟩ = some (.int .i64 alm) ∧ W.cell? ⟨Z, 2, none⟩ = some (.string (bs ak)) ∧ W.cell? ⟨Z, 3, none⟩ = some (.string (bs atl)) ∧ W.cell? ⟨Z, 4, none⟩ = some (.int .u64 xp) ∧ W.cell? ⟨Z, 5, none⟩ = some (.int .u32 xl) ∧ W.cell? ⟨Z, 6, none⟩ = some (.int .u32 xc) ∧ W.cell? ⟨Z, 7, none⟩ = some (.int .u32 xn) ∧ W.cell? ⟨Z, 8, none⟩ = some (.string (bs xs)) ∧ W.cell? ⟨Z, 9, none⟩ = some (.bool xd) ∧ Hid (∃ Sa Ta, Pq SA w p rb Sa Ta Z ⟨0, alm, ak, atl, ⟨xp, xl, xc, xn, xs, xd⟩⟩ W))
              (with_reducible first | exact Pq.all (Pq.dr I HB.out) | exact Pq.all HB.out | exact Pq.all H5.out | exact Pq.all H6.out | exact Pq.all (Pq.dr I H5.out) | exact Pq.all (Pq.dr I H6.out))
              (first
              | (go_at_call 11; refine (CP.out _ (Pq.dr I HB.out)).mono ?_; rintro e w5 ⟨rfl, h5⟩; have H5 : Hid (Pq SA w p rb S' S Z ⟨0, alm, ak, atl, ⟨xp, xl, xc, xn, xs, xd⟩⟩ w5) := h5; clear h5)
              | (go_at_call 12; refine (CR.out _ H5.out).mono ?_; rintro e w6 ⟨rfl, h6⟩; have H6 : Hid (Pq SA w p rb S' S' Z ⟨0, alm, ak, atl, ⟨xp, xl, xc, xn, xs, xd⟩⟩ w6) := h6; clear h6))
            rename_i hHeld
            clear hHeld
            go_wp2_with fail
            go_meet
            exact ⟨S', HF.out, H6.out⟩
          · have hw0' : (aw == 0) = false := by rw [beq_eq_false_iff_ne]; exact hw0
            by_cases hw1 : aw = 1
            · subst hw1
              have CP : Hid (∀ W, Pq SA w p rb S S Z ⟨1, alm, ak, atl, ⟨xp, xl, xc, xn, xs, xd⟩⟩ W → _) := fun W h => pq_prune1 I xp xl h
              have CR : Hid (∀ W, Pq SA w p rb (pruneS xp xl S) S Z ⟨1, alm, ak, atl, ⟨xp, xl, xc, xn, xs, xd⟩⟩ W → _) := fun W h => pq_prune2 I xp xl h
              have HF : Hid (totS (pruneS xp xl S) ≤ m + 1) := by show _ ≤ _; have := HT.out; have := tot_prune xp xl hS.all; omega
              generalize pruneS xp xl S = S' at *
              generalize goneS xp xl S = gn at *
              clear hS HT HE hw0 hw0'
              go_upto_region 13 with fail
              go_region_held3 (fun W => W.cell? ⟨Z, 1, none⟩ = some (.int .i64 alm) ∧ W.cell? ⟨Z, 2, none⟩ = some (.string (bs ak)) ∧ W.cell? ⟨Z, 3, none⟩ = some (.string (bs atl)) ∧ W.cell? ⟨Z, 4, none⟩ = some (.int .u64 xp) ∧ W.cell? ⟨Z, 5, none⟩ = some (.int .u32 xl) ∧ W.cell? ⟨Z, 6, none⟩ = some (.int .u32 xc) ∧ W.cell? ⟨Z, 7, none⟩ = some (.int .u32 xn) ∧ W.cell? ⟨Z, 8, none⟩ = some (.string (bs xs)) ∧ W.cell? ⟨Z, 9, none⟩ = some (.bool xd) ∧ Hid (∃ Sa Ta, Pq SA w p rb Sa Ta Z ⟨1, alm, ak, atl, ⟨xp, xl, xc, xn, xs, xd⟩⟩ W))
                (with_reducible first | exact Pq.all (Pq.dr I HB.out) | exact Pq.all HB.out | exact Pq.all H5.out | exact Pq.all H6.out | exact Pq.all (Pq.dr I H5.out) | exact Pq.all (Pq.dr I H6.out))
                (first
                | (go_at_call 13; refine (CP.out _ (Pq.dr I HB.out)).mono ?_; rintro e w5 ⟨rfl, h5⟩; have H5 : Hid (Pq SA w p rb S' S Z ⟨1, alm, ak, atl, ⟨xp, xl, xc, xn, xs, xd⟩⟩ w5) := h5; clear h5)
                | (go_at_call 14; refine (CR.out _ H5.out).mono ?_; rintro e w6 ⟨rfl, h6⟩; have H6 : Hid (Pq SA w p rb S' S' Z ⟨1, alm, ak, atl, ⟨xp, xl, xc, xn, xs, xd⟩⟩ w6) := h6; clear h6))
              rename_i hHeld
              clear hHeld
              go_wp2_with fail
              go_meet
              exact ⟨S', HF.out, H6.out⟩
            · have hw1' : (aw == 1) = false := by rw [beq_eq_false_iff_ne]; exact hw1
              clear hw0 hw1
              go_wp2_with fail
              go_meet
              exact ⟨S, by have := HT.out; omega, HB.out⟩
        case rest =>
          obtain ⟨S', hS', hp'⟩ := hcut
          have H4 : Hid _ := hp'
          have HT4 : Hid _ := hS'
          clear hp' HB hS' HT
          have CG1 : Hid (∀ W, Pq SA w p rb S' S' Z ⟨aw, alm, ak, atl, ⟨xp, xl, xc, xn, xs, xd⟩⟩ W → _) := fun W h => pq_get1 I ak xp xl h
          have CG2 : Hid (∀ W, Pq SA w p rb S' S' Z ⟨aw, alm, ak, atl, ⟨xp, xl, xc, xn, xs, xd⟩⟩ W → _) := fun W h => pq_get2 I ak xp xl h
          have CN1 : Hid (∀ W, Pq SA w p rb S' S' Z ⟨aw, alm, ak, atl, ⟨xp, xl, xc, xn, xs, xd⟩⟩ W → _) := fun W h => pq_newest1 I ak h
          have CN2 : Hid (∀ W, Pq SA w p rb S' S' Z ⟨aw, alm, ak, atl, ⟨xp, xl, xc, xn, xs, xd⟩⟩ W → _) := fun W h => pq_newest2 I ak h
          have CC1 : Hid (∀ W, Pq SA w p rb S' S' Z ⟨aw, alm, ak, atl, ⟨xp, xl, xc, xn, xs, xd⟩⟩ W → _) := fun W h => pq_count1 I ak h
          have CC2 : Hid (∀ W, Pq SA w p rb S' S' Z ⟨aw, alm, ak, atl, ⟨xp, xl, xc, xn, xs, xd⟩⟩ W → _) := fun W h => pq_count2 ak h
          have CS1 : Hid (∀ W, Pq SA w p rb S' S' Z ⟨aw, alm, ak, atl, ⟨xp, xl, xc, xn, xs, xd⟩⟩ W → _) := fun W h => pq_scan1 I ak atl xp xl alm h
          have CS2 : Hid (∀ W v, Pq SA w p rb S' S' Z ⟨aw, alm, ak, atl, ⟨xp, xl, xc, xn, xs, xd⟩⟩ W → PsAt W.heap.size v (scanS ak atl xp xl alm S') W → _) := fun W v h h' => pq_scan2 I ak atl xp xl alm _ v h h'
          have CPs : Hid (∀ W v v', Pq SA w p rb S' S' Z ⟨aw, alm, ak, atl, ⟨xp, xl, xc, xn, xs, xd⟩⟩ W → PsAt W.heap.size v (scanS ak atl xp xl alm S') W → PsAt W.heap.size v' (scanS ak atl xp xl alm S') W → Calls Try.prog 21 #[v, v'] W fun e w' => e = .returned (.bool true) ∧ Pq SA w p rb S' S' Z ⟨aw, alm, ak, atl, ⟨xp, xl, xc, xn, xs, xd⟩⟩ w') := fun W v v' h h1 h2 => pq_pairs I h h1 h2
          have q1 := bs_beq (getV (seeF (chainF ak S') xp xl)).1 (getV (seeF (chainF ak S') xp xl)).1
          rw [show ((getV (seeF (chainF ak S') xp xl)).1 == (getV (seeF (chainF ak S') xp xl)).1) = true from by simp] at q1
          generalize scanS ak atl xp xl alm S' = Q at *
          generalize getV (seeF (chainF ak S') xp xl) = y at *
          generalize newF (chainF ak S') = nn at *
          generalize (chainF ak S').length = cn at *
          obtain ⟨o1, o2⟩ := y
          obtain ⟨np, nl'⟩ := nn
          dsimp only at CG1 CG2 CN1 CN2 q1
          have hrun := run_neq33 np nl' np nl'
          rw [show eqB np nl' np nl' = true from by simp [eqB]] at hrun
          obtain ⟨c0, c1, c2, c3, c4, c5, c6, c7, c8, c9⟩ := H4.out.ten
          dsimp only at c0 c1 c2 c3 c4 c5 c6 c7 c8 c9
          go_wp2_with fail
          refine (CG1.out _ H4.out).mono ?_
          rintro e w5 ⟨rfl, h5⟩
          have H5 : Hid (Pq SA w p rb S' S' Z ⟨aw, alm, ak, atl, ⟨xp, xl, xc, xn, xs, xd⟩⟩ w5) := h5
          clear h5 c0 c1 c2 c3 c4 c5 c6 c7 c8 c9 CG1
          obtain ⟨c0, c1, c2, c3, c4, c5, c6, c7, c8, c9⟩ := H5.out.ten
          dsimp only at c0 c1 c2 c3 c4 c5 c6 c7 c8 c9
          go_wp2_with fail
          refine (CG2.out _ H5.out).mono ?_
          rintro e w6 ⟨rfl, h6⟩
          have H6 : Hid (Pq SA w p rb S' S' Z ⟨aw, alm, ak, atl, ⟨xp, xl, xc, xn, xs, xd⟩⟩ w6) := h6
          clear h6 c0 c1 c2 c3 c4 c5 c6 c7 c8 c9 CG2 H4 H5
          go_upto_region 17 with fail
          go_region_held3 (fun W => W.cell? ⟨Z, 1, none⟩ = some (.int .i64 alm) ∧ W.cell? ⟨Z, 2, none⟩ = some (.string (bs ak)) ∧ W.cell? ⟨Z, 3, none⟩ = some (.string (bs atl)) ∧ W.cell? ⟨Z, 4, none⟩ = some (.int .u64 xp) ∧ W.cell? ⟨Z, 5, none⟩ = some (.int .u32 xl) ∧ Hid (Pq SA w p rb S' S' Z ⟨aw, alm, ak, atl, ⟨xp, xl, xc, xn, xs, xd⟩⟩ W))
            (with_reducible first | exact Pq.five (Pq.dr I H6.out) | exact Pq.five H6.out | exact Pq.five H7.out | exact Pq.five H8.out | exact Pq.five H9.out | exact Pq.five H10.out | exact Pq.five H11.out.2 | exact Pq.five H12.out.2.2 | exact Pq.five H13.out)
            (first
            | (go_at_call 17; refine (CN1.out _ (Pq.dr I H6.out)).mono ?_; rintro e w7 ⟨rfl, h7⟩; have H7 : Hid (Pq SA w p rb S' S' Z ⟨aw, alm, ak, atl, ⟨xp, xl, xc, xn, xs, xd⟩⟩ w7) := h7; clear h7)
            | (go_at_call 18; refine (CN2.out _ H7.out).mono ?_; rintro e w8 ⟨rfl, h8⟩; have H8 : Hid (Pq SA w p rb S' S' Z ⟨aw, alm, ak, atl, ⟨xp, xl, xc, xn, xs, xd⟩⟩ w8) := h8; clear h8)
            | (go_at_call 19; refine (CC1.out _ H8.out).mono ?_; rintro e w9 ⟨rfl, h9⟩; have H9 : Hid (Pq SA w p rb S' S' Z ⟨aw, alm, ak, atl, ⟨xp, xl, xc, xn, xs, xd⟩⟩ w9) := h9; clear h9)
            | (go_at_call 20; refine (CC2.out _ H9.out).mono ?_; rintro e w10 ⟨rfl, h10⟩; have H10 : Hid (Pq SA w p rb S' S' Z ⟨aw, alm, ak, atl, ⟨xp, xl, xc, xn, xs, xd⟩⟩ w10) := h10; clear h10)
            | (go_at_call 22; refine (CS1.out _ H10.out).mono ?_; rintro e w11 ⟨v11, rfl, h11⟩; have H11 : Hid (PsAt w11.heap.size v11 Q w11 ∧ Pq SA w p rb S' S' Z ⟨aw, alm, ak, atl, ⟨xp, xl, xc, xn, xs, xd⟩⟩ w11) := h11; clear h11)
            | (go_at_call 23; refine (CS2.out _ v11 H11.out.2 H11.out.1).mono ?_; rintro e w12 ⟨v12, rfl, h12⟩; have H12 : Hid (PsAt w12.heap.size v11 Q w12 ∧ PsAt w12.heap.size v12 Q w12 ∧ Pq SA w p rb S' S' Z ⟨aw, alm, ak, atl, ⟨xp, xl, xc, xn, xs, xd⟩⟩ w12) := h12; clear h12)
            | (go_at_call 21; refine (CPs.out _ v11 v12 H12.out.2.2 H12.out.1 H12.out.2.1).mono ?_; rintro e w13 ⟨rfl, h13⟩; have H13 : Hid (Pq SA w p rb S' S' Z ⟨aw, alm, ak, atl, ⟨xp, xl, xc, xn, xs, xd⟩⟩ w13) := h13; clear h13))
          rename_i hHeld
          clear hHeld
          have h63 := HM.out
          go_wp2_with fail
          go_roundw
          case rel => exact ⟨m + 1, S', by omega, by omega, by go_num, HT4.out, H13.out.p3.drop⟩
          case measure => simp [intOf]; omega
    · have hml' : ¬ (m : Int) < L.length := by omega
      go_upto_region 20 with fail
      obtain ⟨ra, rn, rc, hpl⟩ := HP.out.pl
      have HL : Hid _ := hpl
      clear hpl
      have CI : Hid (∀ W, Pl SA w p rb S ra rn rc W → _) := fun W h => pl_items I h
      have CS : Hid (∀ W v', Pl SA w p rb S ra rn rc W → (∃ L, ItAt v' L S W) → Calls Try.prog 24 #[v', .slice ra rn rc] W fun e w' => e = .returned (.bool true) ∧ Pl SA w p rb S ra rn rc w') := fun W v' h h' => pl_same I h h'
      clear HE HT
      go_region_held3 (fun W => W.cell? ⟨rb, 0, none⟩ = some (.slice ra rn rc) ∧ Pl SA w p rb S ra rn rc W)
        ((with_reducible refine Pl.s ?_; with_reducible repeat (first | exact HL.out | exact H5.out.1 | exact H6.out | refine Pl.dr I ?_)))
        (first
        | (go_at_call 25; refine (CI.out _ (Pl.dr I HL.out)).mono ?_; rintro e w5 ⟨v5, rfl, h5⟩; have H5 : Hid (Pl SA w p rb S ra rn rc w5 ∧ ∃ L, ItAt v5 L S w5) := h5; clear h5)
        | (go_at_call 24; refine (CS.out _ v5 H5.out.1 H5.out.2).mono ?_; rintro e w6 ⟨rfl, h6⟩; have H6 : Hid (Pl SA w p rb S ra rn rc w6) := h6; clear h6))
      rename_i hHeld
      clear hHeld
      go_wp2_with fail
      go_ret
      exact ⟨rfl, H6.out.p3.bel⟩
end Go.Proofs.Ytcfhkggijdjagaa
