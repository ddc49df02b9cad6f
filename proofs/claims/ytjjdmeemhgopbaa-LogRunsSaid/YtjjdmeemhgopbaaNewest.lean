/-
  Contract of the log's newest: the area of the greatest generation, and what it tells.
-/
import Derived.Test.YtjjdmeemhgopbaaScan
import Derived.Test.YtjjdmeemhgopbaaHead
import Derived.Test.YtjjdmeemhgopbaaDRefAsk
namespace Go.Proofs.Ytjjdmeemhgopbaa
open Go.RowKit Go.Sort
open Drm (Dr Pt DrumAt DrumIn)

theorem results_new {cb : Nat} {x0 x1 x2 x3 : Value} {w : World} (h : CtIn cb x0 x1 x2 x3 w) {tmps : Array Value} (hp : tmps.getD 3 undef = .pointer (some ⟨cb, 0, none⟩)) :
    (results Try.f26 tmps).run Try.prog w = .ok (.tuple #[tmps.getD 2 undef, .agg #[x0, x1, x2, x3], tmps.getD 4 undef]) w := by
  have hp' : tmps[3]?.getD undef = .pointer (some ⟨cb, 0, none⟩) := by simpa using hp
  simp [results, hp', asAddr, load_ct h, Result.andThen]

theorem TxAt.widen {B B' : Nat} {V : Value} {L : List (List UInt8)} {w : World} (h : TxAt B V L w) (hb : B' ≤ B) : TxAt B' V L w := ⟨h.1, by
  rcases h.2 with h | ⟨g, cap, cur, h1, h2, h3⟩
  · exact .inl h
  · exact .inr ⟨g, cap, cur, h1, by omega, h3⟩⟩

/-- A content's block is written whole. -/
def set4 (w : World) (fb : Nat) (a b c d : Value) : World := (((w.setCell ⟨fb, 0, none⟩ a).setCell ⟨fb, 1, none⟩ b).setCell ⟨fb, 2, none⟩ c).setCell ⟨fb, 3, none⟩ d
theorem set4_ct {fb : Nat} {x0 x1 x2 x3 : Value} {w : World} (h : CtIn fb x0 x1 x2 x3 w) (a b c d : Value) : CtIn fb a b c d (set4 w fb a b c d) := (((h.set0 a).set1 b).set2 c).set3 d
theorem set4_tx {fb B : Nat} {V : Value} {L : List (List UInt8)} {w : World} (h : TxAt B V L w) (hb : fb < B) (a b c d : Value) : TxAt B V L (set4 w fb a b c d) := (((h.box hb 0 a).box hb 1 b).box hb 2 c).box hb 3 d
theorem set4_other {fb rb : Nat} {x0 x1 x2 x3 : Value} {w : World} (h : CtIn rb x0 x1 x2 x3 w) (hne : rb ≠ fb) (a b c d : Value) : CtIn rb x0 x1 x2 x3 (set4 w fb a b c d) := by
  unfold CtIn set4
  rw [Below.heap_setCell _ _ _ _ hne, Below.heap_setCell _ _ _ _ hne, Below.heap_setCell _ _ _ _ hne, Below.heap_setCell _ _ _ _ hne]
  exact h
theorem set4_below {fb B : Nat} {w0 w : World} (h : Below B w0 w) (hb : B ≤ fb) (a b c d : Value) : Below B w0 (set4 w fb a b c d) :=
  (((h.setCell (p := ⟨fb, 0, none⟩) hb a).setCell (p := ⟨fb, 1, none⟩) hb b).setCell (p := ⟨fb, 2, none⟩) hb c).setCell (p := ⟨fb, 3, none⟩) hb d

theorem newest_range (D : Dr) (k : Nat) : -1 ≤ (newestTo D k).1 ∧ (newestTo D k).1 < k := by
  induction k with
  | zero => exact ⟨Int.le_refl _, by show (-1 : Int) < 0; decide⟩
  | succ k ih =>
    rw [newestTo]
    split
    · exact ⟨by omega, by omega⟩
    · omega

set_option maxHeartbeats 1600000 in
theorem newest26 (pb : Nat) (D : Dr) (w : World) (hD : DrumAt pb D w) (hOk : D.Ok) (hdn : D.down = false) :
    Calls Try.prog 26 #[.pointer (some ⟨pb, 0, none⟩)] w fun e w' => (∃ V, e = .returned (.tuple #[.int .i64 (newestTo D 4).1, ctVal (newestTo D 4).2 V, .int .i64 0]) ∧ TxAt (w.heap.size + 1) V (newestTo D 4).2.recs w') ∧ Below w.heap.size w w' := by
  have HH : Hid (∀ (k : Nat) (wr : World), k < 4 → Below w.heap.size w wr → Calls Try.prog 37 #[.pointer (some ⟨pb, 0, none⟩), .int .i64 k] wr fun e w' => e = .returned (.bool (D.p k).there) ∧ wr = w') := fun k wr hk hb => by
    have := Drm.has15 pb D k wr (hD.on hb)
    rw [has_nat D k hk] at this
    exact this
  have HRd : Hid (∀ (k : Nat) (wr : World), k < 4 → (D.p k).there = true → Below w.heap.size w wr → Calls Try.prog 36 #[.pointer (some ⟨pb, 0, none⟩), .int .i64 k] wr fun e w' => e = .returned (.tuple #[.string (bs (D.p k).l), .int .i64 0]) ∧ wr = w') := fun k wr hk ht hb => by
    have := Drm.read10 pb D k wr (hD.on hb)
    rw [Drm.read_ok hdn hk ht] at this
    exact this
  have hln : ∀ k, k < 4 → (D.p k).l.length ≤ 1048576 := fun k hk => by
    have := D.len_le_used k hk
    have := hOk.fits
    have := hOk.room1
    omega
  have HLn : Hid _ := hln
  clear hln hD hOk hdn
  go_enter Try.func26, Try.ntmps26
  go_wp2_with fail
  obtain ⟨rb, hrb⟩ : ∃ rb, rb = w.heap.size := ⟨_, rfl⟩
  have HRB : Hid (rb = w.heap.size) := hrb
  rw [← hrb]
  have hw0 : CtIn rb (.int .u64 0) (.slice none 0 0) (.int .i64 0) (.int .i64 0) ((w.alloc (.cells #[.int .u64 0, .slice none 0 0, .int .i64 0, .int .i64 0] 71)).alloc (.cells #[.int .u64 0, .slice none 0 0, .int .i64 0, .int .i64 0] 71)) := by
    unfold CtIn
    rw [Below.heap_alloc _ _ rb (by rw [hrb]; simp), hrb]
    exact heap_alloc_new w _
  have hw1 : CtIn (rb + 1) (.int .u64 0) (.slice none 0 0) (.int .i64 0) (.int .i64 0) ((w.alloc (.cells #[.int .u64 0, .slice none 0 0, .int .i64 0, .int .i64 0] 71)).alloc (.cells #[.int .u64 0, .slice none 0 0, .int .i64 0, .int .i64 0] 71)) := by
    rw [hrb]
    exact heap_alloc2_new w _ _
  have hb0 : Below rb w ((w.alloc (.cells #[.int .u64 0, .slice none 0 0, .int .i64 0, .int .i64 0] 71)).alloc (.cells #[.int .u64 0, .slice none 0 0, .int .i64 0, .int .i64 0] 71)) := by
    rw [hrb]
    exact ((Below.refl _ _).alloc (Nat.le_refl _) _).alloc (by simp) _
  generalize (w.alloc (.cells #[.int .u64 0, .slice none 0 0, .int .i64 0, .int .i64 0] 71)).alloc (.cells #[.int .u64 0, .slice none 0 0, .int .i64 0, .int .i64 0] 71) = w0 at hw0 hw1 hb0 ⊢
  have H0 : Hid _ := And.intro hw0 (And.intro hw1 hb0)
  clear hw0 hw1 hb0 hrb
  go_wp2_with fail
  go_loopw [5, 12] (fun a i wr => ∃ k : Nat, k ≤ 4 ∧ i = .int .i64 k ∧ a = .int .i64 (newestTo D k).1 ∧ ∃ V, CtIn (rb + 1) (.int .u64 (newestTo D k).2.gen) V (.int .i64 (newestTo D k).2.fin) (.int .i64 (newestTo D k).2.beh) wr ∧ TxAt (rb + 2) V (newestTo D k).2.recs wr ∧ CtIn rb (.int .u64 0) (.slice none 0 0) (.int .i64 0) (.int .i64 0) wr ∧ Below rb w wr) (fun _ i _ => 4 - (intOf i).toNat)
  case atStart => exact ⟨0, by omega, rfl, rfl, _, H0.out.2.1, tx_nil _ _, H0.out.1, H0.out.2.2⟩
  case round =>
    obtain ⟨k, hk, rfl, rfl, V, h1, h2, h3, h4⟩ := hrel
    have HR : Hid (CtIn (rb + 1) (.int .u64 (newestTo D k).2.gen) V (.int .i64 (newestTo D k).2.fin) (.int .i64 (newestTo D k).2.beh) wr ∧ TxAt (rb + 2) V (newestTo D k).2.recs wr ∧ CtIn rb (.int .u64 0) (.slice none 0 0) (.int .i64 0) (.int .i64 0) wr ∧ Below rb w wr) := ⟨h1, h2, h3, h4⟩
    clear h1 h2 h3 h4
    by_cases hlt : k < 4
    · have hsucc : newestTo D (k + 1) = if (D.p k).there = true ∧ (scanOf (D.p k).l).2 = true ∧ ((newestTo D k).1 = -1 ∨ (newestTo D k).2.gen < (scanOf (D.p k).l).1.gen) then ((k : Int), (scanOf (D.p k).l).1) else newestTo D k := rfl
      have HH1 : Hid (1 = 1 → Calls Try.prog 37 #[.pointer (some ⟨pb, 0, none⟩), .int .i64 k] wr fun e w' => e = .returned (.bool (D.p k).there) ∧ wr = w') := fun _ => HH.out k wr hlt (HRB.out ▸ HR.out.2.2.2)
      obtain ⟨b, hb⟩ : ∃ b, (D.p k).there = b := ⟨_, rfl⟩
      rw [hb] at HH1 hsucc
      cases b with
      | false =>
        have hs : newestTo D (k + 1) = newestTo D k := by rw [hsucc, if_neg (by simp)]
        have HS : Hid _ := hs
        clear hsucc hs hb
        go_wp2_with (go_at_call 37; refine (HH1.out (by trivial)).mono ?_; rintro e w1 ⟨rfl, rfl⟩)
        go_roundw
        case rel => exact ⟨k + 1, by omega, by go_num, by rw [HS.out], V, by rw [HS.out]; exact HR.out.1, by rw [HS.out]; exact HR.out.2.1, HR.out.2.2⟩
        case measure => simp [intOf]; omega
      | true =>
        have HR1 : Hid (1 = 1 → Calls Try.prog 36 #[.pointer (some ⟨pb, 0, none⟩), .int .i64 k] wr fun e w' => e = .returned (.tuple #[.string (bs (D.p k).l), .int .i64 0]) ∧ wr = w') := fun _ => HRd.out k wr hlt hb (HRB.out ▸ HR.out.2.2.2)
        have HSc : Hid (∀ w, 1 = 1 → Calls Try.prog 46 #[.string (bs (D.p k).l)] w fun e w' => (∃ V, e = .returned (.tuple #[ctVal (scanOf (D.p k).l).1 V, .bool (scanOf (D.p k).l).2]) ∧ TxAt (w.heap.size + 1) V (scanOf (D.p k).l).1.recs w') ∧ Below w.heap.size w w') := fun w _ => scan46 _ w (HLn.out k hlt)
        clear hb
        have hrg := newest_range D k
        obtain ⟨nw, hnw⟩ : ∃ nw, newestTo D k = nw := ⟨_, rfl⟩
        rw [hnw] at HR hsucc hrg
        rw [hnw]
        have HNW : Hid _ := hnw
        clear hnw
        generalize bs (D.p k).l = hl at *
        generalize scanOf (D.p k).l = sc at *
        obtain ⟨ar, c⟩ := nw
        obtain ⟨c', ok⟩ := sc
        dsimp only at HR hsucc HSc hrg ⊢
        have HSU : Hid _ := hsucc
        clear hsucc
        go_wp2_with (first
          | (go_at_call 37; refine (HH1.out (by trivial)).mono ?_; rintro e w1 ⟨rfl, rfl⟩)
          | (go_at_call 36; refine (HR1.out (by trivial)).mono ?_; rintro e w1 ⟨rfl, rfl⟩)
          | fail)
        refine (HSc.out _ (by trivial)).mono ?_
        rintro e w1 ⟨⟨V', rfl, ht⟩, hb1⟩
        have H1 : Hid (CtIn (rb + 1) (.int .u64 c.gen) V (.int .i64 c.fin) (.int .i64 c.beh) w1 ∧ TxAt (rb + 2) V c.recs w1 ∧ CtIn rb (.int .u64 0) (.slice none 0 0) (.int .i64 0) (.int .i64 0) w1 ∧ Below rb w w1 ∧ TxAt (rb + 2) V' c'.recs w1 ∧ rb + 1 < w1.heap.size) := ⟨HR.out.1.on hb1, HR.out.2.1.on hb1, HR.out.2.2.1.on hb1, HR.out.2.2.2.trans (hb1.mono (by have := HR.out.1.lt; omega)), ⟨ht.1, by
          rcases ht.2 with h | ⟨g, cap, cur, h1, h2, h3⟩
          · exact .inl h
          · exact .inr ⟨g, cap, cur, h1, by have := HR.out.1.lt; omega, h3⟩⟩, by have := HR.out.1.lt; have := hb1.size; omega⟩
        clear ht hb1
        unfold ctVal
        obtain ⟨ao', cp', rfl⟩ := tx_shape H1.out.2.2.2.2.1
        obtain ⟨ao, cp, rfl⟩ := tx_shape H1.out.2.1
        have hE : Below w1.heap.size w1 (w1.alloc (.cells #[.int .u64 c'.gen, .slice ao' c'.recs.length cp', .int .i64 c'.fin, .int .i64 c'.beh] 71)) := (Below.refl _ _).alloc (Nat.le_refl _) _
        have hT2 : CtIn w1.heap.size (.int .u64 c'.gen) (.slice ao' c'.recs.length cp') (.int .i64 c'.fin) (.int .i64 c'.beh) (w1.alloc (.cells #[.int .u64 c'.gen, .slice ao' c'.recs.length cp', .int .i64 c'.fin, .int .i64 c'.beh] 71)) := heap_alloc_new w1 _
        have hF2 := H1.out.1.on hE
        have H2 : Hid (CtIn (rb + 1) (.int .u64 c.gen) (.slice ao c.recs.length cp) (.int .i64 c.fin) (.int .i64 c.beh) (w1.alloc (.cells #[.int .u64 c'.gen, .slice ao' c'.recs.length cp', .int .i64 c'.fin, .int .i64 c'.beh] 71)) ∧ TxAt (rb + 2) (.slice ao c.recs.length cp) c.recs (w1.alloc (.cells #[.int .u64 c'.gen, .slice ao' c'.recs.length cp', .int .i64 c'.fin, .int .i64 c'.beh] 71)) ∧ CtIn rb (.int .u64 0) (.slice none 0 0) (.int .i64 0) (.int .i64 0) (w1.alloc (.cells #[.int .u64 c'.gen, .slice ao' c'.recs.length cp', .int .i64 c'.fin, .int .i64 c'.beh] 71)) ∧ Below rb w (w1.alloc (.cells #[.int .u64 c'.gen, .slice ao' c'.recs.length cp', .int .i64 c'.fin, .int .i64 c'.beh] 71)) ∧ TxAt (rb + 2) (.slice ao' c'.recs.length cp') c'.recs (w1.alloc (.cells #[.int .u64 c'.gen, .slice ao' c'.recs.length cp', .int .i64 c'.fin, .int .i64 c'.beh] 71))) :=
          ⟨hF2, H1.out.2.1.on hE, H1.out.2.2.1.on hE, H1.out.2.2.2.1.trans (hE.mono (by have := H1.out.2.2.2.2.2; omega)), H1.out.2.2.2.2.1.on hE⟩
        obtain ⟨t0, t1, t2, t3, tf⟩ := hT2.cells
        obtain ⟨f0, f1, f2, f3, ff⟩ := hF2.cells
        clear hE hT2 hF2
        have hway : (ok = false ∨ ok = true ∧ ar ≠ -1 ∧ ¬ ((c.gen : Int) < c'.gen)) ∨ (ok = true ∧ ar = -1) ∨ (ok = true ∧ ar ≠ -1 ∧ (c.gen : Int) < c'.gen) := by
          cases ok with
          | false => exact .inl (.inl rfl)
          | true =>
            by_cases h1 : ar = -1
            · exact .inr (.inl ⟨rfl, h1⟩)
            · by_cases h2 : (c.gen : Int) < c'.gen
              · exact .inr (.inr ⟨rfl, h1, h2⟩)
              · exact .inl (.inr ⟨rfl, h1, h2⟩)
        rcases hway with hno | hyes | hyes
        · have HS : Hid (newestTo D (k + 1) = (ar, c)) := by
            show _ = _
            rw [HSU.out, if_neg]
            rintro ⟨_, h1, h2⟩
            rcases hno with h | ⟨h, h3, h4⟩
            · rw [h] at h1; exact absurd h1 (by decide)
            · rcases h2 with h2 | h2
              · exact h3 h2
              · exact h4 (by omega)
          clear HSU
          have hrel2 : ∃ k1 : Nat, k1 ≤ 4 ∧ Value.int .i64 ((k : Int) + 1) = .int .i64 k1 ∧ Value.int .i64 ar = .int .i64 (newestTo D k1).1 ∧ ∃ V, CtIn (rb + 1) (.int .u64 (newestTo D k1).2.gen) V (.int .i64 (newestTo D k1).2.fin) (.int .i64 (newestTo D k1).2.beh) (w1.alloc (.cells #[.int .u64 c'.gen, .slice ao' c'.recs.length cp', .int .i64 c'.fin, .int .i64 c'.beh] 71)) ∧ TxAt (rb + 2) V (newestTo D k1).2.recs (w1.alloc (.cells #[.int .u64 c'.gen, .slice ao' c'.recs.length cp', .int .i64 c'.fin, .int .i64 c'.beh] 71)) ∧ CtIn rb (.int .u64 0) (.slice none 0 0) (.int .i64 0) (.int .i64 0) (w1.alloc (.cells #[.int .u64 c'.gen, .slice ao' c'.recs.length cp', .int .i64 c'.fin, .int .i64 c'.beh] 71)) ∧ Below rb w (w1.alloc (.cells #[.int .u64 c'.gen, .slice ao' c'.recs.length cp', .int .i64 c'.fin, .int .i64 c'.beh] 71)) :=
            ⟨k + 1, by omega, by simp, by rw [HS.out], _, by rw [HS.out]; exact H2.out.1, by rw [HS.out]; exact H2.out.2.1, H2.out.2.2.1, H2.out.2.2.2.1⟩
          have HX : Hid _ := hrel2
          clear hrel2
          rcases hno with rfl | ⟨rfl, h3, h4⟩
          · go_wp2_with fail
            go_roundw
            case rel => exact HX.out
            case measure => simp [intOf]; omega
          · have h3' : (ar == -1) = false := by simpa using h3
            clear h3
            go_wp2_with fail
            go_roundw
            case rel => exact HX.out
            case measure => simp [intOf]; omega
        · obtain ⟨rfl, rfl⟩ := hyes
          have HS : Hid (newestTo D (k + 1) = ((k : Int), c')) := by
            show _ = _
            rw [HSU.out, if_pos (by simp)]
          clear HSU
          go_wp2_with fail
          go_region
          go_wp2_with fail
          go_roundw
          case rel => exact ⟨k + 1, by omega, by go_num, by rw [HS.out], _, by rw [HS.out]; exact set4_ct H2.out.1 (.int .u64 c'.gen) (.slice ao' c'.recs.length cp') (.int .i64 c'.fin) (.int .i64 c'.beh), by rw [HS.out]; exact set4_tx H2.out.2.2.2.2 (by omega) (.int .u64 c'.gen) (.slice ao' c'.recs.length cp') (.int .i64 c'.fin) (.int .i64 c'.beh), set4_other H2.out.2.2.1 (by omega) (.int .u64 c'.gen) (.slice ao' c'.recs.length cp') (.int .i64 c'.fin) (.int .i64 c'.beh), (set4_below H2.out.2.2.2.1 (by omega) (.int .u64 c'.gen) (.slice ao' c'.recs.length cp') (.int .i64 c'.fin) (.int .i64 c'.beh)).drew⟩
          case measure => simp [intOf]; omega
        · obtain ⟨rfl, h3, h4⟩ := hyes
          have HS : Hid (newestTo D (k + 1) = ((k : Int), c')) := by
            show _ = _
            rw [HSU.out, if_pos (by simp; omega)]
          clear HSU
          have h3' : (ar == -1) = false := by simpa using h3
          clear h3
          go_wp2_with fail
          go_region
          go_wp2_with fail
          go_roundw
          case rel => exact ⟨k + 1, by omega, by go_num, by rw [HS.out], _, by rw [HS.out]; exact set4_ct H2.out.1 (.int .u64 c'.gen) (.slice ao' c'.recs.length cp') (.int .i64 c'.fin) (.int .i64 c'.beh), by rw [HS.out]; exact set4_tx H2.out.2.2.2.2 (by omega) (.int .u64 c'.gen) (.slice ao' c'.recs.length cp') (.int .i64 c'.fin) (.int .i64 c'.beh), set4_other H2.out.2.2.1 (by omega) (.int .u64 c'.gen) (.slice ao' c'.recs.length cp') (.int .i64 c'.fin) (.int .i64 c'.beh), (set4_below H2.out.2.2.2.1 (by omega) (.int .u64 c'.gen) (.slice ao' c'.recs.length cp') (.int .i64 c'.fin) (.int .i64 c'.beh)).drew⟩
          case measure => simp [intOf]; omega
    · have HE : Hid (k = 4) := (by omega : k = 4)
      obtain ⟨ao, cp, rfl⟩ := tx_shape HR.out.2.1
      obtain ⟨f0, f1, f2, f3, ff⟩ := HR.out.1.cells
      obtain ⟨r0, r1, r2, r3, rf⟩ := HR.out.2.2.1.cells
      obtain ⟨nw, hnw⟩ : ∃ nw, newestTo D k = nw := ⟨_, rfl⟩
      rw [hnw] at HR f0 f1 f2 f3 ⊢
      have HNW : Hid (newestTo D 4 = nw) := by
        show _ = _
        rw [← hnw, HE.out]
      clear hnw
      obtain ⟨ar, c⟩ := nw
      dsimp only at HR f0 f1 f2 f3 ⊢
      go_wp2_with fail
      go_region
      go_wp2_with fail
      (try simp only [Exit.inBlock, Exit.then]); refine bodyPost_ret (results_new (cb := rb) (w := (set4 wr rb (.int .u64 c.gen) (.slice ao c.recs.length cp) (.int .i64 c.fin) (.int .i64 c.beh)).drew) (set4_ct HR.out.2.2.1 (.int .u64 c.gen) (.slice ao c.recs.length cp) (.int .i64 c.fin) (.int .i64 c.beh)) rfl) rfl ?_
      rw [HNW.out, ← HRB.out]
      refine ⟨⟨_, rfl, ?_⟩, (set4_below HR.out.2.2.2 (by omega) (.int .u64 c.gen) (.slice ao c.recs.length cp) (.int .i64 c.fin) (.int .i64 c.beh)).drew⟩
      exact (set4_tx HR.out.2.1 (by omega) (.int .u64 c.gen) (.slice ao c.recs.length cp) (.int .i64 c.fin) (.int .i64 c.beh)).widen (by omega)

end Go.Proofs.Ytjjdmeemhgopbaa
