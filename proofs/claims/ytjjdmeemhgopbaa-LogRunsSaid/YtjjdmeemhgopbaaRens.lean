/-
  The walk of LogRenews: whatever lists and text it is given it answers true, and turns no memory that was there.
-/
import Derived.Test.YtjjdmeemhgopbaaApnd
namespace Go.Proofs.Ytjjdmeemhgopbaa
open Go.RowKit Go.Sort
open Drm (Dr Pt DrumAt DrumIn)

/-- A list of lists of texts among the arguments. -/
def ArgLists (v : Value) (Ls : List (List (List UInt8))) (w : World) : Prop :=
  ∃ ao cap, v = .slice ao Ls.length cap ∧ (0 < Ls.length → ∃ b o, ao = some ⟨b, o, none⟩ ∧ ∀ i, i < Ls.length → ∃ vi, w.cell? ⟨b, o + i, none⟩ = some vi ∧ ArgStrs vi (Ls.getD i []) w)
theorem ArgLists.on {v : Value} {Ls : List (List (List UInt8))} {w w' : World} (h : ArgLists v Ls w) (hb : Below w.heap.size w w') : ArgLists v Ls w' := by
  obtain ⟨ao, cap, rfl, h⟩ := h
  refine ⟨ao, cap, rfl, fun h0 => ?_⟩
  obtain ⟨b, o, rfl, hc⟩ := h h0
  refine ⟨b, o, rfl, fun i hi => ?_⟩
  obtain ⟨vi, h1, h2⟩ := hc i hi
  exact ⟨vi, cell_below h1 hb (World.block_lt_of_cell? _ _ h1), h2.on hb⟩

/-- What the law counts of a list's first j texts. -/
def cnt (X : List (List UInt8)) (j : Nat) : Nat := ((X.take j).map fun r => r.length + 20).sum
theorem cnt_succ (X : List (List UInt8)) (j : Nat) (h : j < X.length) : cnt X (j + 1) = cnt X j + ((X.getD j []).length + 20) := by
  have e : X.take (j + 1) = X.take j ++ [X.getD j []] := by
    rw [List.take_add_one]
    simp [List.getElem?_eq_getElem h, List.getD]
  unfold cnt
  rw [e, List.map_append, List.sum_append]
  rfl
theorem cnt_le (X : List (List UInt8)) (j : Nat) (hj : j ≤ X.length) (h : ∀ i, i < j → (X.getD i []).length ≤ 100) : cnt X j ≤ 120 * j := by
  induction j with
  | zero => simp [cnt]
  | succ j ih =>
    rw [cnt_succ X j (by omega)]
    have := ih (by omega) (fun i hi => h i (by omega))
    have := h j (by omega)
    omega
theorem copies_cnt (X : List (List UInt8)) (j : Nat) (hj : j ≤ X.length) (h : ∀ i, i < j → (X.getD i []).length ≤ 100) : (copies (X.take j)).length ≤ cnt X j ∧ (copies (X.take j)).length ≤ 107 * j := by
  induction j with
  | zero => simp [cnt, copies]
  | succ j ih =>
    rw [cnt_succ X j (by omega), copies_take X j (by omega), List.length_append]
    have h1 := ih (by omega) (fun i hi => h i (by omega))
    have h2 := h j (by omega)
    rw [frame_small _ (by rw [List.length_cons]; omega), List.length_cons]
    omega

/-- A renewal that fits, where fuel has no limit. -/
theorem renew_ok {D : Dr} {a g : Nat} {R L : List (List UInt8)} (h : Holds D a g R) (hd : D.down = false) (hO : D.Ok) (hf : D.fuel < 0) (hg : g + 1 < 18446744073709551616) (hL : Fit L) (hfit : ¬ D.room - D.used < (headOf (g + 1) L).length) :
    ∃ (s : Nat) (D' : Dr), renewF D a g L = (0, ((s : Int), g + 1), D') ∧ Holds D' s (g + 1) L ∧ D'.down = false ∧ D'.Ok ∧ D'.room = D.room ∧ D'.fuel = D.fuel ∧ (D'.p s).l = headOf (g + 1) L := by
  have hOy := renewF_ok hO a g L
  rcases renew_keeps (L := L) h hd hO hg (Nat.le_refl _) with ⟨h1, _, s, h2, h3, h4, h5, h6, h7⟩ | ⟨⟨_, h2⟩ | ⟨_, _, h2⟩, _⟩ | ⟨_, h2, _⟩
  · refine ⟨s, (renewF D a g L).2.2, ?_, h3, h4, hOy, h5, h6 hf, h7⟩
    rw [← h1, ← h2]
  · exact absurd hL h2
  · exact absurd h2 hfit
  · omega

set_option maxHeartbeats 3200000 in
set_option maxRecDepth 100000 in
theorem renews6 (v : Value) (Ls : List (List (List UInt8))) (more : List UInt8) (w : World) (hv : ArgLists v Ls w) :
    Calls Try.prog 6 #[v, .string (bs more)] w fun e w' => e = .returned (.bool true) ∧ Below w.heap.size w w' := by
  have HAw : Hid (∀ w, 1 = 1 → Calls Try.prog 7 #[] w fun e w' => e = .returned (.bool true) ∧ Below w.heap.size w w') := fun w _ => awake7 w
  obtain ⟨Q, hQ⟩ : ∃ Q : Ending → World → Prop, Q = fun e w' => e = .returned (.bool true) ∧ Below w.heap.size w w' := ⟨_, rfl⟩
  rw [← hQ]
  have HQ : Hid (∀ w', Below w.heap.size w w' → Q (.returned (.bool true)) w') := fun w' h => by rw [hQ]; exact ⟨rfl, h⟩
  clear hQ
  have HV : Hid (ArgLists v Ls w) := hv
  have hms : (bs more).size = more.length := bs_size _
  obtain ⟨ao, cap, rfl, hvx⟩ := hv
  clear hvx
  by_cases hg : Ls.length ≤ 20 ∧ more.length ≤ 100
  · obtain ⟨hg1, hg2⟩ := hg
    have hg1' : ¬ (20 : Int) < Ls.length := by omega
    have hg2' : ¬ (100 : Int) < more.length := by omega
    obtain ⟨D1, ho1, hh1, hd1, hf1, hr1, hl1⟩ := open_new (room := 20000) (by omega)
    have hO0 : (Dr.new 20000).Ok := Drm.Dr.Ok.new 20000 (by omega) (by omega)
    have hO1 := ok_open hO0 ho1
    have C1 : Hid (∀ pb w, DrumAt pb (Dr.new 20000) w → Calls Try.prog 11 #[.pointer (some ⟨pb, 0, none⟩)] w fun e w' => ∃ lb V, e = .returned (.tuple #[.pointer (some ⟨lb, 0, none⟩), V, .int .i64 0]) ∧ LgAt lb pb 0 1 D1 w' ∧ TxAt w.heap.size V [] w' ∧ w.heap.size ≤ lb ∧ Drm.Kept pb w w') := fun pb w h => open_ok pb w h hO0 rfl ho1
    have hlen1 : (D1.p 0).l.length ≤ 550 := by rw [hl1, head_len 1 [] (by decide)]; decide
    have HD1 : Hid (Holds D1 0 1 [] ∧ D1.down = false ∧ D1.Ok ∧ D1.room = 20000 ∧ D1.fuel = -1 ∧ (D1.p 0).l.length ≤ 550) := ⟨hh1, hd1, hO1, hr1, hf1, hlen1⟩
    clear ho1 hh1 hd1 hf1 hr1 hl1 hO0 hO1 hlen1
    go_enter Try.func6, Try.ntmps6
    go_wp2_with fail
    refine (HAw.out _ (by trivial)).mono ?_
    rintro e w1 ⟨rfl, hb1⟩
    have H1 : Hid (Below w.heap.size w w1) := hb1
    clear hb1
    go_wp2_with fail
    refine (Drm.new8 20000 _ (by omega) (by omega)).mono ?_
    obtain ⟨pb, hpb⟩ : ∃ pb, pb = w1.heap.size := ⟨_, rfl⟩
    rw [← hpb]
    rintro e w2 ⟨rfl, hD2, hb2⟩
    have H2 : Hid (DrumAt pb (Dr.new 20000) w2 ∧ Below w.heap.size w w2 ∧ w.heap.size ≤ pb) := ⟨hD2, H1.out.trans (hb2.mono (by rw [hpb]; exact H1.out.size)), by rw [hpb]; exact H1.out.size⟩
    clear hD2 hb2 hpb H1
    go_wp2_with fail
    refine (C1.out pb _ H2.out.1).mono ?_
    rintro e w3 ⟨lb, V0, rfl, hL3, hV3, hlb, k3⟩
    obtain ⟨ao0, cp0, rfl⟩ := tx_shape hV3
    have hwp := H2.out.2.2
    have H3 : Hid (LgAt lb pb 0 1 D1 w3 ∧ Below w.heap.size w w3) := ⟨hL3, H2.out.2.1.trans (k3.below.mono hwp)⟩
    clear hL3 hV3 hlb k3 H2 C1
    go_wp2_with fail
    go_loopw [10, 42] (fun vl i wr => ∃ (k a : Nat) (D : Dr) (X : List (List UInt8)), k ≤ Ls.length ∧ i = .int .i64 k ∧ StrsAt pb vl X wr ∧ X.length ≤ 5 ∧ (∀ i, i < X.length → (X.getD i []).length ≤ 100) ∧ LgAt lb pb a (k + 1) D wr ∧ (Holds D a (k + 1) X ∧ D.down = false ∧ D.Ok ∧ D.room = 20000 ∧ D.fuel = -1 ∧ (D.p a).l.length ≤ 550) ∧ Below w.heap.size w wr) (fun _ i _ => Ls.length - (intOf i).toNat)
    case atStart => exact ⟨0, 0, D1, [], by omega, rfl, StrsAt.nil _ _, by decide, fun i hi => absurd hi (by simp), H3.out.1, HD1.out, H3.out.2⟩
    case round =>
      obtain ⟨k, a, D, X, hk, rfl, hT, hX5, hX100, hLg, hDs, hB⟩ := hrel
      have HR : Hid (StrsAt pb u10 X wr ∧ LgAt lb pb a (k + 1) D wr ∧ (Holds D a (k + 1) X ∧ D.down = false ∧ D.Ok ∧ D.room = 20000 ∧ D.fuel = -1 ∧ (D.p a).l.length ≤ 550) ∧ Below w.heap.size w wr ∧ (∀ i, i < X.length → (X.getD i []).length ≤ 100)) := ⟨hT, hLg, hDs, hB, hX100⟩
      obtain ⟨ax, cx, rfl, _⟩ := hT
      clear hLg hDs hB H3 HD1 hX100
      by_cases hlt : k < Ls.length
      · obtain ⟨_, _, hsl, hx⟩ := HV.out
        injection hsl with e1 _ e3
        subst e1
        subst e3
        obtain ⟨b, o, rfl, hc⟩ := hx (by omega)
        obtain ⟨vi, hck0, hvi0⟩ := hc k hlt
        have hck := cell_below hck0 HR.out.2.2.2.1 (World.block_lt_of_cell? _ _ hck0)
        clear hc hx hck0
        generalize Ls.getD k [] = Y at *
        have HVi : Hid (ArgStrs vi Y w) := hvi0
        have hvi := hvi0.on HR.out.2.2.2.1
        clear hvi0
        obtain ⟨ay, cy, rfl, hyx⟩ := hvi
        have HYx : Hid _ := hyx
        clear hyx
        go_wp2_with fail
        go_loop [13, 48] (fun n j => ∃ i : Nat, i ≤ Y.length ∧ j = .int .i64 i ∧ n = .int .i64 (cnt Y i) ∧ (∀ q, q < i → (Y.getD q []).length ≤ 100) ∧ (0 < i → Y.length ≤ 5)) (fun _ j => Y.length - (intOf j).toNat)
        case atStart => exact ⟨0, by omega, rfl, rfl, fun q hq => absurd hq (by omega), fun h => absurd h (by omega)⟩
        case round =>
          obtain ⟨i, hi, rfl, rfl, hall, h5⟩ := hrel
          have HA : Hid (∀ q, q < i → (Y.getD q []).length ≤ 100) := hall
          have HA5 : Hid (0 < i → Y.length ≤ 5) := h5
          clear hall h5
          by_cases hil : i < Y.length
          · obtain ⟨b2, o2, rfl, hc2⟩ := HYx.out (by omega)
            have hci := hc2 i hil
            have hsz : (bs (Y.getD i [])).size = (Y.getD i []).length := bs_size _
            have HCn : Hid (cnt Y (i + 1) = cnt Y i + ((Y.getD i []).length + 20)) := cnt_succ Y i hil
            have HN : Hid ((Y.getD i []).length ≤ 100 → ∀ q, q < i + 1 → (Y.getD q []).length ≤ 100) := fun h q hq => by
              by_cases hqi : q = i
              · subst hqi; exact h
              · exact HA.out q (by omega)
            clear hc2
            generalize Y.getD i [] = r at *
            by_cases hr : 100 < r.length
            · have hr' : (100 : Int) < r.length := by omega
              go_wp2_with fail
              exact HQ.out _ HR.out.2.2.2.1
            · have hr' : ¬ (100 : Int) < r.length := by omega
              by_cases hy5 : 5 < Y.length
              · have hy5' : (5 : Int) < Y.length := by omega
                go_wp2_with fail
                exact HQ.out _ HR.out.2.2.2.1
              · have hy5' : ¬ (5 : Int) < Y.length := by omega
                have hcb := cnt_le Y i hi HA.out
                generalize cnt Y i = n at *
                have hadd : IntKind.i64.wrap ((r.length : Int) + 20) = (r.length : Int) + 20 := by
                  simp [IntKind.wrap, IntKind.bits, IntKind.signed]
                  omega
                have hadd2 : IntKind.i64.wrap ((n : Int) + ((r.length : Int) + 20)) = ((n + (r.length + 20) : Nat) : Int) := by
                  simp [IntKind.wrap, IntKind.bits, IntKind.signed]
                  omega
                have HX : Hid _ := HN.out (by omega)
                go_wp2_with fail
                go_round
                case rel => exact ⟨i + 1, by omega, by go_num, by rw [HCn.out]; first | rfl | (simp; done) | go_num, HX.out, fun _ => by omega⟩
                case measure => simp [intOf]; omega
          · have HF : Hid (Y.length ≤ 5 ∧ (∀ q, q < Y.length → (Y.getD q []).length ≤ 100) ∧ cnt Y i = cnt Y Y.length) := ⟨by
              by_cases h0 : 0 < i
              · exact HA5.out h0
              · omega, fun q hq => HA.out q (by omega), by rw [show i = Y.length by omega]⟩
            obtain ⟨hh, hd, hO, hro, hfu, hln⟩ := HR.out.2.2.1
            have hus := hh.used hO
            have hfm : (frameOf (82 :: more)).length = more.length + 7 := by rw [frame_small _ (by rw [List.length_cons]; omega), List.length_cons]
            obtain ⟨D2, ha2, hh2, hd2, hO2, hr2, hf2, hl2⟩ := append_ok (r := more) hh hd hO (by omega) (by omega) (by rw [hro, hus, hfm]; omega)
            have hus2 := hh2.used hO2
            have hln2 : (D2.p a).l.length ≤ 657 := by rw [hl2, List.length_append, hfm]; omega
            have hcp := copies_cnt Y Y.length (Nat.le_refl _) HF.out.2.1
            rw [List.take_length] at hcp
            have hY5 := HF.out.1
            have hhl : (headOf (k + 1 + 1) Y).length = 15 + (copies Y).length := head_len _ _ (by omega)
            have hfY : Fit Y := is_fit fun q hq => by have := HF.out.2.1 q hq; omega
            obtain ⟨s3, D3, ha3, hh3, hd3, hO3, hr3, hf3, hl3⟩ := renew_ok (L := Y) hh2 hd2 hO2 (by omega) (by omega) hfY (by rw [hr2, hro, hus2, hhl]; omega)
            have hus3 := hh3.used hO3
            have hrd3 := hh3.read hd3
            have hcn := cnt_le Y Y.length (Nat.le_refl _) HF.out.2.1
            rw [← HF.out.2.2] at hcp hcn
            have hsz3 : (D3.p s3).l.length = 15 + (copies Y).length := by rw [hl3, hhl]
            have hub3 : D3.used ≤ 1048576 := by rw [hus3, hsz3]; omega
            have CA : Hid (1 = 1 → Calls Try.prog 18 #[.pointer (some ⟨lb, 0, none⟩), .string (bs more)] wr fun e w' => e = .returned (.int .i64 0) ∧ LgAt lb pb a (k + 1) D2 w' ∧ Drm.Kept pb wr w') := fun _ => by
              have := append18 lb pb (k + 1) a D more wr HR.out.2.1 hO
              rw [ha2] at this
              exact this
            have CR : Hid (∀ w', LgAt lb pb a (k + 1) D2 w' → StrsAt pb (.slice ay Y.length cy) Y w' → Calls Try.prog 20 #[.pointer (some ⟨lb, 0, none⟩), .slice ay Y.length cy] w' (RenPost lb pb w' (0, ((s3 : Int), k + 1 + 1), D3))) := fun w' h1 h2 => by
              have := renew20 lb pb (k + 1) a D2 Y _ w' h1 hO2 h2 (by omega)
              rw [ha3] at this
              exact this
            obtain ⟨sz3, hsz3'⟩ : ∃ sz3, (D3.p s3).l.length = sz3 := ⟨_, rfl⟩
            have CS : Hid (∀ w', LgAt lb pb s3 (k + 1 + 1) D3 w' → Calls Try.prog 23 #[.pointer (some ⟨lb, 0, none⟩)] w' fun e w1 => e = .returned (.int .i64 sz3) ∧ Below w'.heap.size w' w1) := fun w' h => by
              have := size23 lb pb (k + 1 + 1) s3 D3 w' h
              rw [hrd3] at this
              rw [← hsz3']
              exact this
            have CU : Hid (∀ w', DrumAt pb D3 w' → Calls Try.prog 25 #[.pointer (some ⟨pb, 0, none⟩)] w' fun e w1 => e = .returned (.int .i64 sz3) ∧ w' = w1) := fun w' h => by
              have := Drm.used14 pb D3 w' h hub3
              rw [hus3, hsz3'] at this
              exact this
            have HD3 : Hid (Holds D3 s3 (k + 1 + 1) Y ∧ D3.down = false ∧ D3.Ok ∧ D3.room = 20000 ∧ D3.fuel = -1 ∧ (D3.p s3).l.length ≤ 550) := ⟨hh3, hd3, hO3, by rw [hr3, hr2, hro], by rw [hf3, hf2, hfu], by rw [hsz3]; omega⟩
            have hcmp : ¬ ((cnt Y i : Int) + 40 < (sz3 : Int)) := by rw [hsz3] at hsz3'; omega
            generalize cnt Y i = n at *
            have hadd : IntKind.i64.wrap ((n : Int) + 40) = (n : Int) + 40 := by
              simp [IntKind.wrap, IntKind.bits, IntKind.signed]
              omega
            clear hh hd hO hro hfu hln hus hfm ha2 hh2 hd2 hO2 hr2 hf2 hl2 hus2 hln2 hcp hhl hfY ha3 hh3 hd3 hO3 hr3 hf3 hl3 hus3 hrd3 hsz3 hub3 hsz3'
            go_wp2_with fail
            refine (CA.out (by trivial)).mono ?_
            rintro e w4 ⟨rfl, hL4, k4⟩
            have H4 : Hid (LgAt lb pb a (k + 1) D2 w4 ∧ StrsAt pb (.slice ay Y.length cy) Y w4 ∧ Below w.heap.size w w4) := ⟨hL4, (HVi.out.strs hwp HR.out.2.2.2.1).kept k4, HR.out.2.2.2.1.trans (k4.below.mono hwp)⟩
            clear hL4 k4
            go_wp2_with fail
            refine (CR.out _ H4.out.1 H4.out.2.1).mono ?_
            rintro e w5 ⟨rfl, hL5, k5⟩
            have H5 : Hid (LgAt lb pb s3 (k + 1 + 1) D3 w5 ∧ StrsAt pb (.slice ay Y.length cy) Y w5 ∧ Below w.heap.size w w5) := ⟨hL5, H4.out.2.1.keep2 H4.out.1.blk k5, H4.out.2.2.trans (k5.below.mono hwp)⟩
            clear hL5 k5
            go_wp2_with fail
            refine (CS.out _ H5.out.1).mono ?_
            rintro e w6 ⟨rfl, hb6⟩
            have H6 : Hid (LgAt lb pb s3 (k + 1 + 1) D3 w6 ∧ StrsAt pb (.slice ay Y.length cy) Y w6 ∧ Below w.heap.size w w6) := ⟨H5.out.1.on hb6, H5.out.2.1.on hb6, H5.out.2.2.trans (hb6.mono H5.out.2.2.size)⟩
            clear hb6
            go_wp2_with fail
            refine (CU.out _ H6.out.1.drum).mono ?_
            rintro e w6' ⟨rfl, rfl⟩
            go_wp2_with fail
            refine (CS.out _ H6.out.1).mono ?_
            rintro e w7 ⟨rfl, hb7⟩
            have H7 : Hid (LgAt lb pb s3 (k + 1 + 1) D3 w7 ∧ StrsAt pb (.slice ay Y.length cy) Y w7 ∧ Below w.heap.size w w7) := ⟨H6.out.1.on hb7, H6.out.2.1.on hb7, H6.out.2.2.trans (hb7.mono H6.out.2.2.size)⟩
            clear hb7
            go_wp2_with fail
            go_roundw
            case rel => exact ⟨k + 1, s3, D3, Y, by omega, by go_num, H7.out.2.1, hY5, HF.out.2.1, H7.out.1, HD3.out, H7.out.2.2⟩
            case measure => simp [intOf]; omega
      · obtain ⟨hh, hd, hO, hro, hfu, hln⟩ := HR.out.2.2.1
        have hus := hh.used hO
        have hfm : (frameOf (82 :: more)).length = more.length + 7 := by rw [frame_small _ (by rw [List.length_cons]; omega), List.length_cons]
        obtain ⟨D2, ha2, hh2, hd2, hO2, hr2, hf2, hl2⟩ := append_ok (r := more) hh hd hO (by omega) (by omega) (by rw [hro, hus, hfm]; omega)
        obtain ⟨D4, ho4, hh4, hd4, _, _⟩ := holds_at hh2 hO2 []
        obtain ⟨g1, hg1e⟩ : ∃ g1, g1 = k + 1 := ⟨_, rfl⟩
        have hgne : ((g1 : Int) != 1 + (Ls.length : Int)) = false := by simp; omega
        have hwr1 : IntKind.i64.wrap (1 + (Ls.length : Int)) = 1 + (Ls.length : Int) := by
          simp [IntKind.wrap, IntKind.bits, IntKind.signed]
          omega
        have hwr2 : IntKind.u64.wrap (1 + (Ls.length : Int)) = 1 + (Ls.length : Int) := by
          simp [IntKind.wrap, IntKind.bits, IntKind.signed]
          omega
        rw [← hg1e] at HR ho4 hh4 hh2
        have CG : Hid (∀ lb' a' w', LbAt lb' pb a' g1 w' → Calls Try.prog 22 #[.pointer (some ⟨lb', 0, none⟩)] w' fun e w1 => e = .returned (.int .u64 g1) ∧ w' = w1) := fun lb' a' w' h => gen22 lb' pb g1 a' w' h
        have CA : Hid (1 = 1 → Calls Try.prog 18 #[.pointer (some ⟨lb, 0, none⟩), .string (bs more)] wr fun e w' => e = .returned (.int .i64 0) ∧ LgAt lb pb a g1 D2 w' ∧ Drm.Kept pb wr w') := fun _ => by
          have := append18 lb pb g1 a D more wr HR.out.2.1 hO
          rw [ha2] at this
          exact this
        have CF : Hid (∀ w', DrumAt pb D2 w' → Calls Try.prog 15 #[.pointer (some ⟨pb, 0, none⟩), .slice none 0 0] w' fun e w1 => e = .returned (.tuple #[]) ∧ DrumAt pb (D2.fall []) w1 ∧ Drm.Kept pb w' w1) := fun w' h => Drm.fall26 pb D2 (.slice none 0 0) [] w' h hO2 (Drm.KeepAt.nil _ _) (fun i => by simp) (by simp)
        have CO : Hid (∀ w', DrumAt pb (D2.fall []) w' → Calls Try.prog 11 #[.pointer (some ⟨pb, 0, none⟩)] w' fun e w1 => ∃ lb V, e = .returned (.tuple #[.pointer (some ⟨lb, 0, none⟩), V, .int .i64 0]) ∧ LgAt lb pb a g1 D4 w1 ∧ TxAt w'.heap.size V (X ++ [more]) w1 ∧ w'.heap.size ≤ lb ∧ Drm.Kept pb w' w1) := fun w' h => open_ok pb w' h (hO2.fall []) rfl ho4
        clear hh hd hO hro hfu hln hus hfm ha2 hh2 hd2 hO2 hr2 hf2 hl2 ho4 hh4 hd4 hg1e
        go_wp2_with fail
        refine (CG.out _ _ _ HR.out.2.1.blk).mono ?_
        rintro e wr' ⟨rfl, rfl⟩
        go_wp2_with fail
        refine (CA.out (by trivial)).mono ?_
        rintro e w4 ⟨rfl, hL4, k4⟩
        have H4 : Hid (LgAt lb pb a g1 D2 w4 ∧ StrsAt pb (.slice ax X.length cx) X w4 ∧ Below w.heap.size w w4) := ⟨hL4, HR.out.1.kept k4, HR.out.2.2.2.1.trans (k4.below.mono hwp)⟩
        clear hL4 k4
        go_wp2_with fail
        refine (CF.out _ H4.out.1.drum).mono ?_
        rintro e w5 ⟨rfl, hD5, k5⟩
        have H5 : Hid (LgAt lb pb a g1 (D2.fall []) w5 ∧ StrsAt pb (.slice ax X.length cx) X w5 ∧ Below w.heap.size w w5 ∧ pb < w5.heap.size) := ⟨H4.out.1.kept hD5 k5, H4.out.2.1.kept k5, H4.out.2.2.trans (k5.below.mono hwp), hD5.lt⟩
        clear hD5 k5
        go_wp2_with fail
        refine (CO.out _ H5.out.1.drum).mono ?_
        rintro e w6 ⟨lb6, V6, rfl, hL6, hV6, hlb6, k6⟩
        obtain ⟨a6, c6, rfl⟩ := tx_shape hV6
        have H6 : Hid (LgAt lb pb a g1 D4 w6 ∧ LgAt lb6 pb a g1 D4 w6 ∧ StrsAt pb (.slice ax X.length cx) X w6 ∧ Below w.heap.size w w6 ∧ StrsAt pb (.slice a6 (X ++ [more]).length c6) (X ++ [more]) w6) := ⟨H5.out.1.kept hL6.drum k6, hL6, H5.out.2.1.kept k6, H5.out.2.2.1.trans (k6.below.mono hwp), hV6.strs H5.out.2.2.2⟩
        clear hL6 hV6 hlb6 k6
        go_wp2_with fail
        refine (CG.out _ _ _ H6.out.2.1.blk).mono ?_
        rintro e w6' ⟨rfl, rfl⟩
        go_wp2_with fail
        refine (CG.out _ _ _ H6.out.1.blk).mono ?_
        rintro e w6' ⟨rfl, rfl⟩
        have hpb6 : pb < w6.heap.size := H6.out.1.drum.lt
        have hE6 : Below w6.heap.size w6 (w6.alloc (.cells #[] 9)) := (Below.refl _ _).alloc (Nat.le_refl _) _
        have HE6 : Hid _ := hE6
        clear hE6
        go_wp2_with (at_builtin; first
          | (refine wpList_append_strs rfl (.tmp 121) (.tmp 122) rfl pb w6.heap.size [] X _ _ rfl rfl (own_empty w6 w6.heap.size (Nat.le_refl _)) (H6.out.2.2.1.on HE6.out) (by simp) (by simp; omega) ?_; intro v7 w7 ht7 hg7; rw [List.nil_append] at ht7; obtain ⟨a7, c7, rfl⟩ := tx_shape ht7; have H7 : Hid (TxAt w6.heap.size (.slice a7 X.length c7) X w7 ∧ Below w6.heap.size w6 w7) := ⟨ht7, HE6.out.grown hg7 (by simp) (fun k hk => own_le hk)⟩; have hsz7 := H7.out.2.size; clear ht7 hg7)
          | (refine wpList_append_strs rfl (.tmp 123) (.tmp 125) rfl pb w6.heap.size X [more] _ _ rfl rfl (H7.out.1.on ((Below.refl _ _).alloc (Nat.le_refl _) _)) (strs_one w7 more (by omega)) (by simp; omega) (by simp; omega) ?_; intro v8 w8 ht8 hg8; obtain ⟨a8, c8, rfl⟩ := tx_shape ht8; have H8 : Hid (TxAt w6.heap.size (.slice a8 (X ++ [more]).length c8) (X ++ [more]) w8 ∧ Below w6.heap.size w6 w8) := ⟨ht8, (H7.out.2.alloc hsz7 _).grown hg8 (by simp; omega) (fun k hk => by have := (World.ownsRow.lt H7.out.1 k hk).1; omega)⟩; clear ht8 hg8))
        have CSm : Hid (1 = 1 → Calls Try.prog 13 #[.slice a6 (X.length + 1) c6, .slice a8 (X.length + 1) c8] w8 fun e w' => e = .returned (.bool true) ∧ Below w8.heap.size w8 w') := fun _ => by
          have := same13 pb pb (X ++ [more]) (X ++ [more]) _ _ w8 (H6.out.2.2.2.2.on H8.out.2) (H8.out.1.strs hpb6) (by simp; omega)
          rw [decide_eq_true rfl, show (X ++ [more]).length = X.length + 1 by simp] at this
          exact this
        refine (CSm.out (by trivial)).mono ?_
        rintro e w9 ⟨rfl, hb9⟩
        have H9 : Hid (Below w.heap.size w w9) := (H6.out.2.2.2.1.trans (H8.out.2.mono H6.out.2.2.2.1.size)).trans (hb9.mono (by have := H6.out.2.2.2.1.size; have := H8.out.2.size; omega))
        clear hb9
        go_wp2_with fail
        exact HQ.out _ H9.out
  · have hway : (20 : Int) < Ls.length ∨ (¬ (20 : Int) < Ls.length ∧ (100 : Int) < more.length) := by omega
    clear hg
    rcases hway with h1 | ⟨h1, h2⟩
    all_goals
      go_enter Try.func6, Try.ntmps6
      go_wp2_with (go_at_call 7; refine (HAw.out _ (by trivial)).mono ?_; rintro e w1 ⟨rfl, hb1⟩; have H1 : Hid (Below w.heap.size w w1) := hb1; clear hb1)
      exact HQ.out _ H1.out

end Go.Proofs.Ytjjdmeemhgopbaa
