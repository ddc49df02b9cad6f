/-
  The walk of StorePrunes.
-/
import Derived.Test.YtcfhkggijdjagaaTwo
namespace Go.Proofs.Ytcfhkggijdjagaa
open Go.RowKit
variable {SA : Nat → Nat → (Nat → Prop) → Sk → World → Prop}

theorem Pw.outside (I : Ifs SA) {w W W' : World} {p : Nat} {S : Sk} {Bx : List Nat} (h : Pw SA W p S W') (hb : Below w.heap.size w W) (hx : ∀ b ∈ Bx, b < W.heap.size) : Pb SA w p S Bx W' := by
  obtain ⟨B, M, hm, hB⟩ := h.sa
  exact ⟨⟨B, M, hm, Nat.le_trans hb.size hB, fun b hb' => ⟨fun hmb => by have := (I.lt hm b hmb).1; have := hx b hb'; omega, Nat.lt_of_lt_of_le (hx b hb') h.bel.size⟩⟩, h.tot, hb.trans (h.bel.mono hb.size)⟩
theorem tot_snoc {S : Sk} {m : Nat} (h : m < S.length) : totS (S.take (m + 1)) = totS (S.take m) + (S.getD m ds).2.length := by
  unfold totS
  rw [stk_snoc h, List.map_append, List.sum_append]
  simp
/-- Two stores, two stamps in their boxes. -/
structure Pu (SA : Nat → Nat → (Nat → Prop) → Sk → World → Prop) (w : World) (p : Nat) (S : Sk) (q : Nat) (T : Sk) (X Y : Nat) (s1 s2 t u : Int) (W : World) : Prop where
  p2 : P2 SA w p S q T [Y, X] W
  x : W.heap[X]? = some (.cells #[.int .u64 s1, .int .u32 s2] 33 (0, 0))
  y : W.heap[Y]? = some (.cells #[.int .u64 t, .int .u32 u] 33 (0, 0))
theorem Pu.on (I : Ifs SA) {w W W' : World} {p q X Y : Nat} {S T : Sk} {s1 s2 t u : Int} (h : Pu SA w p S q T X Y s1 s2 t u W) (hb : Below W.heap.size W W') : Pu SA w p S q T X Y s1 s2 t u W' :=
  ⟨h.p2.on I hb, by rw [hb.block X (Array.getElem?_eq_some_iff.1 h.x).1]; exact h.x, by rw [hb.block Y (Array.getElem?_eq_some_iff.1 h.y).1]; exact h.y⟩
theorem Pu.dr (I : Ifs SA) {w W : World} {p q X Y : Nat} {S T : Sk} {s1 s2 t u : Int} (h : Pu SA w p S q T X Y s1 s2 t u W) : Pu SA w p S q T X Y s1 s2 t u W.drew := h.on I (Below.refl _ _).drew
theorem Pu.cells {w W : World} {p q X Y : Nat} {S T : Sk} {s1 s2 t u : Int} (h : Pu SA w p S q T X Y s1 s2 t u W) : W.cell? ⟨X, 0, none⟩ = some (.int .u64 s1) ∧ W.cell? ⟨X, 1, none⟩ = some (.int .u32 s2) ∧ W.cell? ⟨Y, 0, none⟩ = some (.int .u64 t) ∧ W.cell? ⟨Y, 1, none⟩ = some (.int .u32 u) ∧ Pu SA w p S q T X Y s1 s2 t u W :=
  ⟨block_cell h.x rfl, block_cell h.x rfl, block_cell h.y rfl, block_cell h.y rfl, h⟩
theorem pu_prune (I : Ifs SA) {w W : World} {p q X Y : Nat} {S T : Sk} {s1 s2 t u : Int} (h : Pu SA w p S q T X Y s1 s2 t u W) : Calls Try.prog 13 #[.pointer (some ⟨q, 0, none⟩), .agg #[.int .u64 s1, .int .u32 s2]] W fun e w' => e = .returned (.int .i64 (goneS s1 s2 T)) ∧ Pu SA w p S q (pruneS s1 s2 T) X Y s1 s2 t u w' := by
  refine (p2_prune2 I s1 s2 h.p2).mono ?_
  rintro e w' ⟨rfl, h1, h2⟩
  exact ⟨rfl, h1, by rw [h2 X (by simp)]; exact h.x, by rw [h2 Y (by simp)]; exact h.y⟩
theorem pu_items1 (I : Ifs SA) {w W : World} {p q X Y : Nat} {S T : Sk} {s1 s2 t u : Int} (h : Pu SA w p S q T X Y s1 s2 t u W) : Calls Try.prog 25 #[.pointer (some ⟨p, 0, none⟩)] W fun e w' => ∃ ao cap L, e = .returned (.slice ao S.length cap) ∧ ItAt (.slice ao S.length cap) L S w' ∧ S.length ≤ cap ∧ Pu SA w p S q T X Y s1 s2 t u w' := by
  refine (pw_items I h.p2.one).mono ?_
  rintro e w' ⟨v', L, rfl, hi, _, hb⟩
  obtain ⟨ao, cap, rfl, hc, _⟩ := hi.shape
  exact ⟨ao, cap, L, rfl, hi, hc, h.on I hb⟩
theorem pu_items2 (I : Ifs SA) {w W : World} {p q X Y : Nat} {S T : Sk} {s1 s2 t u : Int} (h : Pu SA w p S q T X Y s1 s2 t u W) : Calls Try.prog 25 #[.pointer (some ⟨q, 0, none⟩)] W fun e w' => ∃ ao cap L, e = .returned (.slice ao T.length cap) ∧ ItAt (.slice ao T.length cap) L T w' ∧ T.length ≤ cap ∧ Pu SA w p S q T X Y s1 s2 t u w' := by
  refine (pw_items I h.p2.two).mono ?_
  rintro e w' ⟨v', L, rfl, hi, _, hb⟩
  obtain ⟨ao, cap, rfl, hc, _⟩ := hi.shape
  exact ⟨ao, cap, L, rfl, hi, hc, h.on I hb⟩
/-- Items, and the stores, in a world behind. -/
structure Pi (SA : Nat → Nat → (Nat → Prop) → Sk → World → Prop) (w : World) (p : Nat) (S : Sk) (q : Nat) (T : Sk) (X Y : Nat) (s1 s2 t u : Int) (v : Value) (L : Kv Sv) (R : Sk) (W : World) : Prop where
  pu : Pu SA w p S q T X Y s1 s2 t u W
  it : ItAt v L R W
theorem Pi.on (I : Ifs SA) {w W W' : World} {p q X Y : Nat} {S T R : Sk} {s1 s2 t u : Int} {v : Value} {L : Kv Sv} (h : Pi SA w p S q T X Y s1 s2 t u v L R W) (hb : Below W.heap.size W W') : Pi SA w p S q T X Y s1 s2 t u v L R W' := ⟨h.pu.on I hb, h.it.on hb⟩
theorem pu_new (I : Ifs SA) {w W1 W2 W3 : World} {p q X Y : Nat} {S T : Sk} {s1 s2 t u : Int} (hb : Below w.heap.size w W1) (hx : W1.heap[X]? = some (.cells #[.int .u64 s1, .int .u32 s2] 33 (0, 0))) (hy : W1.heap[Y]? = some (.cells #[.int .u64 t, .int .u32 u] 33 (0, 0))) (h1 : Pw SA W1 p S W2) (h2 : Pw SA W2 q T W3) : Pu SA w p S q T X Y s1 s2 t u W3 := by
  have hX := (Array.getElem?_eq_some_iff.1 hx).1
  have hY := (Array.getElem?_eq_some_iff.1 hy).1
  have hbb := h1.bel.trans (h2.bel.mono h1.bel.size)
  refine ⟨(h1.outside I hb (Bx := [Y, X]) (fun b hb' => by simp at hb'; rcases hb' with rfl | rfl; exact hY; exact hX)).join I h2, ?_, ?_⟩
  · rw [hbb.block X hX]; exact hx
  · rw [hbb.block Y hY]; exact hy

theorem prunes_plain {S : Sk} (hS : SOk S) {s1 s2 t u : Int} (h : ¬ (t < s1 ∨ t = s1 ∧ u < s2)) (k : List UInt8) : seeF (chainF k (pruneS s1 s2 (pruneS s1 s2 S))) t u = seeF (chainF k S) t u := by
  rw [chain_prune (pruneS_sok hS s1 s2), chain_prune hS, prune_again (chain_ch hS k), see_prune (chain_ch hS k) h]
theorem prunes_scan {S : Sk} (hS : SOk S) {s1 s2 t u : Int} (h : ¬ (t < s1 ∨ t = s1 ∧ u < s2)) (limit : Int) : scanS [] [] t u limit (pruneS s1 s2 (pruneS s1 s2 S)) = scanS [] [] t u limit S := by
  rw [scan_prune (pruneS_sok hS s1 s2) _ _ _ h, scan_prune hS _ _ _ h]

set_option maxHeartbeats 6400000 in
set_option maxRecDepth 100000 in
theorem prunes5 (I : Ifs SA) (B : Nat) (A : List Ac) (v : Value) (s1 s2 t u : Int) (w : World) (hv : AcsAt B v A w) (hB : B ≤ w.heap.size) :
    Calls Try.prog 5 #[v, .agg #[.int .u64 s1, .int .u32 s2], .agg #[.int .u64 t, .int .u32 u]] w fun e w' => e = .returned (.bool true) ∧ Below w.heap.size w w' := by
  obtain ⟨ao, cap, rfl, hlc, hcm⟩ := hv.shape
  have CA : Hid (∀ W : World, 1 = 1 → Calls Try.prog 9 #[] W fun e w' => e = .returned (.bool true) ∧ Below W.heap.size W w') := fun W _ => awake9 I W
  have CF : Hid (∀ W, Below w.heap.size w W → Calls Try.prog 26 #[.slice ao A.length cap] W fun e w' => ∃ p, e = .returned (.pointer (some ⟨p, 0, none⟩)) ∧ Pw SA W p (fillS [] (A.take 100)) w') := fun W hb => filled26 I B A _ W (RwAt.on hv (hb.mono hB)) (Nat.le_trans hB hb.size)
  obtain ⟨hS, hT⟩ := fill_sok (L := A.take 100) SOk.nil
  have hT2 : totS (fillS [] (A.take 100)) ≤ 100 := by
    have h2 : totS ([] : Sk) = 0 := rfl
    have h3 := ltake (L := A) (m := 100)
    omega
  generalize fillS [] (A.take 100) = S at *
  have HS : Hid (SOk S) := hS
  have HT2 : Hid _ := hT2
  have HX0 : Hid (((w.alloc (.cells #[.int .u64 s1, .int .u32 s2] 33)).alloc (.cells #[.int .u64 t, .int .u32 u] 33)).heap[w.heap.size]? = some (.cells #[.int .u64 s1, .int .u32 s2] 33 (0, 0)) ∧ ((w.alloc (.cells #[.int .u64 s1, .int .u32 s2] 33)).alloc (.cells #[.int .u64 t, .int .u32 u] 33)).heap[w.heap.size + 1]? = some (.cells #[.int .u64 t, .int .u32 u] 33 (0, 0)) ∧ Below w.heap.size w ((w.alloc (.cells #[.int .u64 s1, .int .u32 s2] 33)).alloc (.cells #[.int .u64 t, .int .u32 u] 33))) := by
    refine ⟨?_, ?_, ((Below.refl _ _).alloc (Nat.le_refl _) _).alloc (by simp) _⟩
    · rw [heap_alloc_old _ _ (by simp)]
      exact heap_alloc_new w _
    · have := heap_alloc_new (w.alloc (.cells #[.int .u64 s1, .int .u32 s2] 33)) (.cells #[.int .u64 t, .int .u32 u] 33)
      simpa using this
  clear hv hlc hcm hS hT hT2
  go_enter Try.func5, Try.ntmps5
  go_wp2_with fail
  refine (CA.out _ (by trivial)).mono ?_
  rintro e w1 ⟨rfl, hb⟩
  obtain ⟨W0, hW0⟩ : ∃ W0, (w.alloc (.cells #[.int .u64 s1, .int .u32 s2] 33)).alloc (.cells #[.int .u64 t, .int .u32 u] 33) = W0 := ⟨_, rfl⟩
  obtain ⟨X, hX⟩ : ∃ X, w.heap.size = X := ⟨_, rfl⟩
  obtain ⟨Y, hY⟩ : ∃ Y, X + 1 = Y := ⟨_, rfl⟩
  rw [hW0] at HX0 hb
  have HX1 : Hid (w1.heap[X]? = some (.cells #[.int .u64 s1, .int .u32 s2] 33 (0, 0)) ∧ w1.heap[Y]? = some (.cells #[.int .u64 t, .int .u32 u] 33 (0, 0)) ∧ Below w.heap.size w w1) := by
    obtain ⟨a1, a2, a3⟩ := HX0.out
    rw [hX] at a1 a2
    rw [hY] at a2
    exact ⟨by rw [hb.block X (Array.getElem?_eq_some_iff.1 a1).1]; exact a1, by rw [hb.block Y (Array.getElem?_eq_some_iff.1 a2).1]; exact a2, a3.trans (hb.mono a3.size)⟩
  rw [hX]
  rw [hY]
  clear hb hW0 hX hY HX0 CA
  have x0 : w1.cell? ⟨X, 0, none⟩ = some (.int .u64 s1) := block_cell HX1.out.1 rfl
  have x1 : w1.cell? ⟨X, 1, none⟩ = some (.int .u32 s2) := block_cell HX1.out.1 rfl
  have y0 : w1.cell? ⟨Y, 0, none⟩ = some (.int .u64 t) := block_cell HX1.out.2.1 rfl
  have y1 : w1.cell? ⟨Y, 1, none⟩ = some (.int .u32 u) := block_cell HX1.out.2.1 rfl
  go_upto_region 3 with fail
  go_cut [41] (fun z wc => wc = w1 ∧ ∃ b, z = .bool b ∧ (b = false → ¬ (t < s1 ∨ t = s1 ∧ u < s2)))
  case first =>
    by_cases h1 : t < s1
    · go_wp2_with fail
      go_meet
      exact ⟨rfl, true, rfl, fun h => by cases h⟩
    · by_cases h2 : t = s1
      · have h2' : (t == s1) = true := by simpa using h2
        by_cases h3 : u < s2
        · clear h2
          go_wp2_with fail
          go_meet
          exact ⟨rfl, true, rfl, fun h => by cases h⟩
        · have HF : Hid (¬ (t < s1 ∨ t = s1 ∧ u < s2)) := by show ¬ _; omega
          clear h2
          go_wp2_with fail
          go_meet
          exact ⟨rfl, false, rfl, fun _ => HF.out⟩
      · have h2' : (t == s1) = false := by simpa using h2
        have HF : Hid (¬ (t < s1 ∨ t = s1 ∧ u < s2)) := by show ¬ _; omega
        clear h2
        go_wp2_with fail
        go_meet
        exact ⟨rfl, false, rfl, fun _ => HF.out⟩
  case rest =>
    obtain ⟨rfl, z, rfl, hz⟩ := hcut
    cases z
    · have HLt : Hid (¬ (t < s1 ∨ t = s1 ∧ u < s2)) := hz rfl
      clear hz x0 x1 y0 y1
      go_wp2_with fail
      refine (CF.out _ HX1.out.2.2).mono ?_
      rintro e w2 ⟨p, rfl, h2⟩
      have H2 : Hid _ := h2
      clear h2
      go_wp2_with fail
      refine (CF.out _ (HX1.out.2.2.trans (H2.out.bel.mono HX1.out.2.2.size))).mono ?_
      rintro e w3 ⟨q, rfl, h3⟩
      have H3 : Hid (Pu SA w p S q S X Y s1 s2 t u w3) := pu_new I HX1.out.2.2 HX1.out.1 HX1.out.2.1 H2.out h3
      clear h3 H2 HX1 CF
      go_wp2_with fail
      refine (pu_items1 I H3.out).mono ?_
      rintro e w4 ⟨ai, ci, Li, rfl, hi4, hci, h4⟩
      have H4 : Hid (Pi SA w p S q S X Y s1 s2 t u (.slice ai S.length ci) Li S w4) := ⟨h4, hi4⟩
      clear hi4 h4 H3
      have hl63 : S.length < 9223372036854775808 := by have := len_tot HS.out.all; have := HT2.out; omega
      have HLT : Hid (∀ m, m < S.length → totS (S.take (m + 1)) = totS (S.take m) + (S.getD m ds).2.length) := fun m hm => tot_snoc hm
      have HTk : Hid (∀ m, totS (S.take m) ≤ 100) := fun m => by have h1 := tot_take S m; have h2 := HT2.out; omega
      have HTA : Hid (∀ m, S.length ≤ m → totS (S.take m) = totS S) := fun m hm => by rw [List.take_of_length_le hm]
      have HT0 : Hid (totS (S.take 0) = 0) := rfl
      go_wp2_with fail
      go_loopw [9, 49] (fun n i wr => ∃ m : Nat, m ≤ S.length ∧ i = .int .i64 m ∧ n = .int .i64 (totS (S.take m)) ∧ Pi SA w p S q S X Y s1 s2 t u (.slice ai S.length ci) Li S wr) (fun _ i _ => S.length - (intOf i).toNat)
      case atStart => exact ⟨0, Nat.zero_le _, rfl, by rw [HT0.out]; rfl, H4.out⟩
      case round =>
        obtain ⟨m, hm, rfl, rfl, hpi⟩ := hrel
        have HP : Hid (Pi SA w p S q S X Y s1 s2 t u (.slice ai S.length ci) Li S wr) := hpi
        clear hpi
        by_cases hml : m < S.length
        · obtain ⟨b, off, ca, cc, rfl, e0, e1, -⟩ := HP.out.it.el hml
          have hml' : (m : Int) < S.length := by omega
          have hst := HLT.out m hml
          have htk := HTk.out (m + 1)
          rw [hst] at htk
          have HSt : Hid _ := hst
          generalize totS (S.take m) = tm at *
          generalize S.getD m ds = x at *
          obtain ⟨a, c⟩ := x
          dsimp only at e0 e1 htk HSt
          have HP2 : Hid (Pi SA w p S q S X Y s1 s2 t u (.slice (some ⟨b, off, none⟩) S.length ci) Li S (wr.alloc (.cells #[.string (bs a), .slice ca c.length cc] 57))) := HP.out.on I (al _)
          clear hst HP
          go_wp2_with fail
          go_roundw
          case rel => exact ⟨m + 1, by omega, by go_num, by rw [HSt.out]; go_num, HP2.out⟩
          case measure => simp [intOf]; omega
        · have hml' : ¬ (m : Int) < S.length := by omega
          have hta := HTA.out m (by omega)
          rw [hta]
          have H5 : Hid (Pu SA w p S q S X Y s1 s2 t u wr) := HP.out.pu
          obtain ⟨x0, x1, y0, y1, -⟩ := H5.out.cells
          clear hta HP HLT HTk HTA HT0 H4
          go_wp2_with fail
          refine (pu_prune I H5.out).mono ?_
          rintro e w6 ⟨rfl, h6⟩
          have H6 : Hid (Pu SA w p S q (pruneS s1 s2 S) X Y s1 s2 t u w6) := h6
          clear h6 H5 x0 x1 y0 y1
          have hgt := tot_prune s1 s2 HS.out.all
          have hts := HT2.out
          have HPS : Hid (SOk (pruneS s1 s2 S)) := pruneS_sok HS.out s1 s2
          have HSee : Hid (∀ k, seeF (chainF k (pruneS s1 s2 (pruneS s1 s2 S))) t u = seeF (chainF k S) t u) := fun k => prunes_plain HS.out HLt.out k
          have HScan : Hid (scanS [] [] t u 40 (pruneS s1 s2 (pruneS s1 s2 S)) = scanS [] [] t u 40 S) := prunes_scan HS.out HLt.out 40
          have HGA : Hid (goneS s1 s2 (pruneS s1 s2 S) = 0) := gone_again HS.out s1 s2
          generalize pruneS s1 s2 S = T at *
          generalize goneS s1 s2 S = gn at *
          generalize totS S = tS at *
          have hTT : totS T ≤ 100 := by omega
          go_wp2_with fail
          refine (pu_items2 I H6.out).mono ?_
          rintro e w7 ⟨aj, cj, Lj, rfl, hi7, hcj, h7⟩
          have H7 : Hid (Pi SA w p S q T X Y s1 s2 t u (.slice aj T.length cj) Lj T w7) := ⟨h7, hi7⟩
          clear hi7 h7 H6
          have hl63' : T.length < 9223372036854775808 := by have := len_tot HPS.out.all; omega
          have HLT : Hid (∀ m, m < T.length → totS (T.take (m + 1)) = totS (T.take m) + (T.getD m ds).2.length) := fun m hm => tot_snoc hm
          have HTk : Hid (∀ m, totS (T.take m) ≤ totS T) := fun m => tot_take T m
          have HTA : Hid (∀ m, T.length ≤ m → totS (T.take m) = totS T) := fun m hm => by rw [List.take_of_length_le hm]
          have HT0 : Hid (totS (T.take 0) = 0) := rfl
          go_wp2_with fail
          go_loopw [9, 65] (fun n i wr => ∃ m : Nat, m ≤ T.length ∧ i = .int .i64 m ∧ n = .int .i64 ((tS : Int) - totS (T.take m)) ∧ Pi SA w p S q T X Y s1 s2 t u (.slice aj T.length cj) Lj T wr) (fun _ i _ => T.length - (intOf i).toNat)
          case atStart => exact ⟨0, Nat.zero_le _, rfl, by rw [HT0.out]; simp, H7.out⟩
          case round =>
            obtain ⟨m, hm, rfl, rfl, hpi⟩ := hrel
            have HP : Hid (Pi SA w p S q T X Y s1 s2 t u (.slice aj T.length cj) Lj T wr) := hpi
            clear hpi
            by_cases hml : m < T.length
            · obtain ⟨b, off, ca, cc, rfl, e0, e1, -⟩ := HP.out.it.el hml
              have hml' : (m : Int) < T.length := by omega
              have hst := HLT.out m hml
              have htk := HTk.out (m + 1)
              rw [hst] at htk
              have HSt : Hid _ := hst
              generalize totS (T.take m) = tm at *
              generalize T.getD m ds = x at *
              obtain ⟨a, c⟩ := x
              dsimp only at e0 e1 htk HSt
              have HP2 : Hid (Pi SA w p S q T X Y s1 s2 t u (.slice (some ⟨b, off, none⟩) T.length cj) Lj T (wr.alloc (.cells #[.string (bs a), .slice ca c.length cc] 57))) := HP.out.on I (al _)
              have HEq : Hid ((tS : Int) - tm - c.length = (tS : Int) - ((tm + c.length : Nat) : Int)) := by show _ = _; omega
              have hb1 : (0 : Int) ≤ (tS : Int) - tm - c.length := by omega
              have hb2 : (tS : Int) - tm - c.length ≤ 100 := by omega
              have hb3 : (0 : Int) ≤ (tS : Int) - tm := by omega
              have hb4 : (tS : Int) - tm ≤ 100 := by omega
              clear hst HP
              go_wp2_with fail
              go_roundw
              case rel => exact ⟨m + 1, by omega, by go_num, by rw [HSt.out, ← HEq.out], HP2.out⟩
              case measure => simp [intOf]; omega
            · have hml' : ¬ (m : Int) < T.length := by omega
              have hta := HTA.out m (by omega)
              rw [hta]
              have H8 : Hid (Pu SA w p S q T X Y s1 s2 t u wr) := HP.out.pu
              obtain ⟨x0, x1, y0, y1, -⟩ := H8.out.cells
              have hne : ((gn : Int) != (tS : Int) - totS T) = false := by simp; omega
              clear hta HP HLT HTk HTA HT0 H7
              have CPr : Hid (1 = 1 → _) := fun _ => pu_prune I H8.out
              rw [HGA.out] at CPr
              generalize pruneS s1 s2 T = T2 at *
              generalize totS T = tT at *
              go_wp2_with fail
              refine (CPr.out (by trivial)).mono ?_
              rintro e w9 ⟨rfl, h9⟩
              have H9 : Hid (Pu SA w p S q T2 X Y s1 s2 t u w9) := h9
              clear h9 H8 x0 x1 y0 y1 CPr
              go_wp2_with fail
              refine (pu_items1 I H9.out).mono ?_
              rintro e wa ⟨ak, ck, Lk, rfl, hia, hck, ha⟩
              have H10 : Hid (Pi SA w p S q T2 X Y s1 s2 t u (.slice ak S.length ck) Lk S wa) := ⟨ha, hia⟩
              clear hia ha H9
              have CG1 : Hid (∀ W a v Lk, Pi SA w p S q T2 X Y s1 s2 t u v Lk S W → Calls Try.prog 15 #[.pointer (some ⟨p, 0, none⟩), .string (bs a), .agg #[.int .u64 t, .int .u32 u]] W fun e w' => e = .returned (.tuple #[.string (bs (getV (seeF (chainF a S) t u)).1), .bool (getV (seeF (chainF a S) t u)).2]) ∧ Below W.heap.size W w') := fun W a v Lk h => by
                refine (pw_get I a t u h.pu.p2.one).mono ?_
                rintro e w' ⟨rfl, _, hb⟩
                exact ⟨rfl, hb⟩
              have CG2 : Hid (∀ W a v Lk, Pi SA w p S q T2 X Y s1 s2 t u v Lk S W → Calls Try.prog 15 #[.pointer (some ⟨q, 0, none⟩), .string (bs a), .agg #[.int .u64 t, .int .u32 u]] W fun e w' => e = .returned (.tuple #[.string (bs (getV (seeF (chainF a S) t u)).1), .bool (getV (seeF (chainF a S) t u)).2]) ∧ Below W.heap.size W w') := fun W a v Lk h => by
                have := pw_get I a t u h.pu.p2.two
                rw [HSee.out] at this
                refine this.mono ?_
                rintro e w' ⟨rfl, _, hb⟩
                exact ⟨rfl, hb⟩
              have CS1 : Hid (∀ W, Pu SA w p S q T2 X Y s1 s2 t u W → Calls Try.prog 22 #[.pointer (some ⟨p, 0, none⟩), .string ⟨#[]⟩, .string ⟨#[]⟩, .agg #[.int .u64 t, .int .u32 u], .int .i64 40] W fun e w' => ∃ v', e = .returned v' ∧ PsAt w'.heap.size v' (scanS [] [] t u 40 S) w' ∧ Pu SA w p S q T2 X Y s1 s2 t u w') := fun W h => by
                refine (pw_scan I [] [] t u 40 h.p2.one).mono ?_
                rintro e w' ⟨v', rfl, ho, _, hb⟩
                exact ⟨v', rfl, rw_own ho, h.on I hb⟩
              have CS2 : Hid (∀ W v1, Pu SA w p S q T2 X Y s1 s2 t u W → PsAt W.heap.size v1 (scanS [] [] t u 40 S) W → Calls Try.prog 22 #[.pointer (some ⟨q, 0, none⟩), .string ⟨#[]⟩, .string ⟨#[]⟩, .agg #[.int .u64 t, .int .u32 u], .int .i64 40] W fun e w' => ∃ v', e = .returned v' ∧ PsAt w'.heap.size v' (scanS [] [] t u 40 S) w' ∧ PsAt w'.heap.size v1 (scanS [] [] t u 40 S) w' ∧ Pu SA w p S q T2 X Y s1 s2 t u w') := fun W v1 h h1 => by
                have := pw_scan I [] [] t u 40 h.p2.two
                rw [HScan.out] at this
                refine this.mono ?_
                rintro e w' ⟨v', rfl, ho, _, hb⟩
                exact ⟨v', rfl, rw_own ho, RwAt.le (RwAt.on h1 hb) hb.size, h.on I hb⟩
              have CPs : Hid (∀ W v1 v2, Pu SA w p S q T2 X Y s1 s2 t u W → PsAt W.heap.size v1 (scanS [] [] t u 40 S) W → PsAt W.heap.size v2 (scanS [] [] t u 40 S) W → Calls Try.prog 21 #[v1, v2] W fun e w' => e = .returned (.bool true) ∧ Pu SA w p S q T2 X Y s1 s2 t u w') := fun W v1 v2 h h1 h2 => by
                have := pairs21 W.heap.size W.heap.size _ _ v1 v2 W h1 h2
                rw [show (scanS [] [] t u 40 S == scanS [] [] t u 40 S) = true from by simp] at this
                refine this.mono ?_
                rintro e w' ⟨rfl, hb⟩
                exact ⟨rfl, h.on I hb⟩
              generalize scanS [] [] t u 40 S = Q at *
              go_wp2_with fail
              go_loopw [87] (fun i wr => ∃ m : Nat, m ≤ S.length ∧ i = .int .i64 m ∧ Pi SA w p S q T2 X Y s1 s2 t u (.slice ak S.length ck) Lk S wr) (fun i _ => S.length - (intOf i).toNat)
              case atStart => exact ⟨0, Nat.zero_le _, rfl, H10.out⟩
              case round =>
                obtain ⟨m, hm, rfl, hpi⟩ := hrel
                have HP : Hid (Pi SA w p S q T2 X Y s1 s2 t u (.slice ak S.length ck) Lk S wr) := hpi
                clear hpi
                obtain ⟨x0, x1, y0, y1, -⟩ := HP.out.pu.cells
                by_cases hml : m < S.length
                · obtain ⟨b, off, ca, cc, rfl, e0, e1, -⟩ := HP.out.it.el hml
                  have hml' : (m : Int) < S.length := by omega
                  generalize S.getD m ds = x at *
                  obtain ⟨a, c⟩ := x
                  dsimp only at e0 e1
                  have HP2 : Hid (Pi SA w p S q T2 X Y s1 s2 t u (.slice (some ⟨b, off, none⟩) S.length ck) Lk S (wr.alloc (.cells #[.string (bs a), .slice ca c.length cc] 57))) := HP.out.on I (al _)
                  have HZ : Hid ((wr.alloc (.cells #[.string (bs a), .slice ca c.length cc] 57)).heap[wr.heap.size]? = some (.cells #[.string (bs a), .slice ca c.length cc] 57 (0, 0))) := heap_alloc_new wr _
                  have hYl : Y < wr.heap.size := World.block_lt_of_cell? _ _ y0
                  have CA1 : Hid (∀ W v Lk, Pi SA w p S q T2 X Y s1 s2 t u v Lk S W → _) := fun W v Lk h => CG1.out W a v Lk h
                  have CA2 : Hid (∀ W v Lk, Pi SA w p S q T2 X Y s1 s2 t u v Lk S W → _) := fun W v Lk h => CG2.out W a v Lk h
                  have q1 := bs_beq (getV (seeF (chainF a S) t u)).1 (getV (seeF (chainF a S) t u)).1
                  rw [show ((getV (seeF (chainF a S) t u)).1 == (getV (seeF (chainF a S) t u)).1) = true from by simp] at q1
                  generalize getV (seeF (chainF a S) t u) = y at *
                  obtain ⟨o1, o2⟩ := y
                  dsimp only at CA1 CA2 q1
                  clear HP
                  go_wp2_with fail
                  refine (CA1.out _ _ _ HP2.out).mono ?_
                  rintro e wb ⟨rfl, hb⟩
                  have HZ2 : Hid (wb.heap[wr.heap.size]? = some (.cells #[.string (bs a), .slice ca c.length cc] 57 (0, 0))) := by
                    show _ = _
                    rw [hb.block wr.heap.size (Array.getElem?_eq_some_iff.1 HZ.out).1]
                    exact HZ.out
                  have HP3 : Hid (Pi SA w p S q T2 X Y s1 s2 t u (.slice (some ⟨b, off, none⟩) S.length ck) Lk S wb) := HP2.out.on I hb
                  generalize wr.heap.size = Z at *
                  clear hb HP2 HZ x0 x1 y0 y1 e0 e1 CA1
                  have z0 : wb.cell? ⟨Z, 0, none⟩ = some (.string (bs a)) := block_cell HZ2.out rfl
                  obtain ⟨x0, x1, y0, y1, -⟩ := HP3.out.pu.cells
                  go_wp2_with fail
                  refine (CA2.out _ _ _ HP3.out).mono ?_
                  rintro e wd ⟨rfl, hb⟩
                  have HP4 : Hid (Pi SA w p S q T2 X Y s1 s2 t u (.slice (some ⟨b, off, none⟩) S.length ck) Lk S wd) := HP3.out.on I hb
                  clear hb HP3 HZ2 x0 x1 y0 y1 z0 CA2
                  go_wp2_with fail
                  go_roundw
                  case rel => exact ⟨m + 1, by omega, by go_num, HP4.out⟩
                  case measure => simp [intOf]; omega
                · have hml' : ¬ (m : Int) < S.length := by omega
                  have H11 : Hid (Pu SA w p S q T2 X Y s1 s2 t u wr) := HP.out.pu
                  clear HP CG1 CG2
                  go_upto_region 28 with fail
                  go_region_held3 (fun W => W.cell? ⟨X, 0, none⟩ = some (.int .u64 s1) ∧ W.cell? ⟨X, 1, none⟩ = some (.int .u32 s2) ∧ W.cell? ⟨Y, 0, none⟩ = some (.int .u64 t) ∧ W.cell? ⟨Y, 1, none⟩ = some (.int .u32 u) ∧ Pu SA w p S q T2 X Y s1 s2 t u W)
                    ((with_reducible refine Pu.cells ?_; with_reducible repeat (first | exact H11.out | exact H12.out.1 | exact H13.out.1 | exact H14.out | refine Pu.dr I ?_)))
                    (first
                    | (go_at_call_of 22 (Value.pointer (some ⟨p, 0, none⟩)); refine (CS1.out _ (Pu.dr I H11.out)).mono ?_; rintro e we ⟨v1, rfl, hp1, hu1⟩; have H12 : Hid (Pu SA w p S q T2 X Y s1 s2 t u we ∧ PsAt we.heap.size v1 Q we) := ⟨hu1, hp1⟩; clear hu1 hp1)
                    | (go_at_call_of 22 (Value.pointer (some ⟨q, 0, none⟩)); refine (CS2.out _ v1 H12.out.1 H12.out.2).mono ?_; rintro e wf ⟨v2, rfl, hp2, hp1, hu2⟩; have H13 : Hid (Pu SA w p S q T2 X Y s1 s2 t u wf ∧ PsAt wf.heap.size v1 Q wf ∧ PsAt wf.heap.size v2 Q wf) := ⟨hu2, hp1, hp2⟩; clear hu2 hp1 hp2)
                    | (go_at_call 21; refine (CPs.out _ v1 v2 H13.out.1 H13.out.2.1 H13.out.2.2).mono ?_; rintro e wg ⟨rfl, hu3⟩; have H14 : Hid (Pu SA w p S q T2 X Y s1 s2 t u wg) := hu3; clear hu3))
                  rename_i hHeld
                  clear hHeld
                  go_wp2_with fail
                  go_ret
                  exact ⟨rfl, H14.out.p2.bel⟩
    · go_wp2_with fail
      go_ret
      exact ⟨rfl, HX1.out.2.2⟩
end Go.Proofs.Ytcfhkggijdjagaa
