/-
  DrumSure's walk.
-/
import Derived.Test.YtlgmnjjjaplgcaaSure
namespace Go.Proofs.Ytlgmnjjjaplgcaa
open Go.RowKit

set_option maxHeartbeats 2000000 in
set_option maxRecDepth 100000 in
theorem sure4 (acts : List Ac) (ao : Option Addr) (b off cap : Nat) (w : World)
    (hao : 0 < acts.length → ao = some ⟨b, off, none⟩) (hcell : ∀ i, i < acts.length → AcAt w b off i (acts.getD i dflt) ∧ (acts.getD i dflt).ok) (hN : acts.length < 9223372036854775807) :
    Calls Try.prog 4 #[.slice ao acts.length cap] w fun e w' => e = .returned (.bool true) ∧ Below w.heap.size w w' := by
  have HC : Hid (∀ i, 1 = 1 → i < acts.length → AcAt w b off i (acts.getD i dflt) ∧ (acts.getD i dflt).ok) := fun i _ h => hcell i h
  have HA : Hid (1 = 1 → 0 < acts.length → ao = some ⟨b, off, none⟩) := fun _ => hao
  clear hcell hao
  go_enter Try.func4, Try.ntmps4
  go_wp2_with fail
  refine (awake7 _).mono ?_
  rintro e w1 ⟨rfl, k1⟩
  have K1 : Hid (Below w.heap.size w w1) := k1
  clear k1
  go_wp2_with fail
  refine (new8 100000 _ (by omega) (by omega)).mono ?_
  rintro e w2 ⟨rfl, h2, k2⟩
  obtain ⟨pb, hpb⟩ : ∃ pb, pb = w1.heap.size := ⟨_, rfl⟩
  rw [← hpb] at h2 k2 ⊢
  have HP : Hid (w.heap.size ≤ pb) := by
    have := K1.out.size
    show _ ≤ _
    omega
  have H2 : Hid (DrumAt pb (Dr.new 100000) w2 ∧ Below w.heap.size w w2) := ⟨h2, K1.out.trans (k2.mono (by rw [hpb]; exact K1.out.size))⟩
  clear hpb h2 k2 K1
  go_wp2_with fail
  refine (lay11 pb _ 1 _ H2.out.1 (Dr.Ok.new 100000 (by omega) (by omega))).mono ?_
  have HI : Hid (SuInv [] 0 ((Dr.new 100000).lay 1).2) := su_start
  generalize (Dr.new 100000).lay 1 = r at *
  obtain ⟨r1, D1⟩ := r
  dsimp only at HI ⊢
  rintro e w3 ⟨rfl, h3, k3⟩
  have H3 : Hid (DrumAt pb D1 w3 ∧ Below w.heap.size w w3) := ⟨h3, H2.out.2.trans (k3.below.mono HP.out)⟩
  clear H2 h3 k3
  go_wp2_with fail
  go_loopw [5, 6, 26] (fun al su i wr => ∃ (k : Nat) (D : Dr) (l : List UInt8) (s : Nat), k ≤ acts.length ∧ i = .int .i64 k ∧ al = .string (bs l) ∧ su = .int .i64 s ∧ DrumAt pb D wr ∧ SuInv l s D ∧ Below w.heap.size w wr) (fun _ _ i _ => acts.length - (intOf i).toNat)
  case atStart => exact ⟨0, D1, [], 0, Nat.zero_le _, rfl, rfl, rfl, H3.out.1, HI.out, H3.out.2⟩
  case round =>
    obtain ⟨k, D, l, s, hk, rfl, rfl, rfl, hD, hI, hbel⟩ := hrel
    have HW : Hid (DrumAt pb D wr ∧ SuInv l s D ∧ Below w.heap.size w wr) := ⟨hD, hI, hbel⟩
    have hle := hI.le
    have hsz := bs_size l
    clear hD hI hbel H3 HI
    by_cases hkl : k < acts.length
    · obtain ⟨hat, hok⟩ := HC.out k (by trivial) hkl
      obtain ⟨x, hx⟩ : ∃ x, x = acts.getD k dflt := ⟨_, rfl⟩
      rw [← hx] at hat hok
      clear hx
      obtain rfl : ao = some ⟨b, off, none⟩ := HA.out (by trivial) (by omega)
      obtain ⟨y0, y1, y2, y3, y4⟩ := hat.on HW.out.2.2
      have HX : Hid (ArgKeep w x.kv x.keep ∧ x.ok) := ⟨hat.keep, hok⟩
      clear hat hok
      obtain ⟨what, area, n, text, keep, kv⟩ := x
      dsimp only at y0 y1 y2 y3 y4
      obtain ⟨ka, kc, hkv, _⟩ := id HX.out.1
      dsimp only at hkv
      subst hkv
      have hszt := bs_size text
      obtain ⟨bk, hbk⟩ : ∃ bk : Bool, ((k : Int) == 100) = bk := ⟨_, rfl⟩
      cases bk
      · by_cases hskip : what < 3 ∨ 6 < what ∨ 500 < text.length
        · rcases (by omega : what < 3 ∨ (¬ what < 3 ∧ 6 < what) ∨ (¬ what < 3 ∧ ¬ 6 < what ∧ 500 < (text.length : Int))) with h1 | ⟨h1, h2⟩ | ⟨h1, h2, h3⟩
          all_goals
            clear hskip
            go_wp2
            go_roundw
            case rel => exact ⟨k + 1, D, l, s, by omega, by go_num, rfl, rfl, HW.out.1.alloc _, HW.out.2.1, HW.out.2.2.alloc HW.out.2.2.size _⟩
            case measure => simp [intOf]; omega
        · have h1 : ¬ what < 3 := by omega
          have h2 : ¬ 6 < what := by omega
          have h3 : ¬ 500 < (text.length : Int) := by omega
          clear hskip
          go_wp2_with fail
          have HBx : Hid (SuBox pb wr.heap.size ⟨what, area, n, text, keep, .slice ka keep.length kc⟩ D w (wr.alloc (.cells #[.int .i64 what, .int .i64 1, .int .i64 n, .string (bs text), .slice ka keep.length kc] 39))) := su_box (c := ⟨what, area, n, text, keep, .slice ka keep.length kc⟩) HW.out.1 HW.out.2.2
          generalize (wr.alloc (.cells #[.int .i64 what, .int .i64 1, .int .i64 n, .string (bs text), .slice ka keep.length kc] 39)) = W at HBx ⊢
          have hxb : pb < wr.heap.size := HW.out.1.lt
          obtain ⟨xb, hxe⟩ : ∃ xb, xb = wr.heap.size := ⟨_, rfl⟩
          rw [← hxe] at HBx hxb ⊢
          clear hxe y0 y1 y2 y3 y4
          refine (do22 pb D ⟨what, 1, n, text, keep, .slice ka keep.length kc⟩ _ HBx.out.drum HW.out.2.1.ok ⟨HX.out.2.n0, HX.out.2.n1, HX.out.2.keep0, HX.out.2.keep1⟩ (HX.out.1.at HBx.out.bel HP.out)).mono ?_
          rcases (by omega : what = 3 ∨ what = 4 ∨ what = 5 ∨ what = 6) with rfl | rfl | rfl | rfl
          · rw [show D.act ⟨3, 1, n, text, keep, .slice ka keep.length kc⟩ = D.write 1 text from by simp [Dr.act]]
            have HI2 : Hid (((D.write 1 text).1 = 0 → SuInv (l ++ text) s (D.write 1 text).2) ∧ ((D.write 1 text).1 ≠ 0 → SuInv l s (D.write 1 text).2)) := ⟨HW.out.2.1.write_ok text, HW.out.2.1.write_no text⟩
            generalize D.write 1 text = r at *
            obtain ⟨r2, D2⟩ := r
            dsimp only at HI2 ⊢
            rintro e w6 ⟨rfl, h6, k6⟩
            have H6 : Hid (SuBox pb xb ⟨3, area, n, text, keep, .slice ka keep.length kc⟩ D2 w w6) := HBx.out.next hxb HP.out h6 k6
            clear h6 k6
            obtain ⟨z0, z1, z2, z3, z4⟩ := five_cells H6.out.box
            dsimp only at z0 z1 z2 z3 z4
            by_cases hr : r2 = 0
            · subst hr
              go_wp2
              go_roundw
              case rel => exact ⟨k + 1, D2, l ++ text, s, by omega, by go_num, by rw [bs_append], rfl, H6.out.drum, HI2.out.1 (by trivial), H6.out.bel⟩
              case measure => simp [intOf]; omega
            · have hrb : (r2 == 0) = false := by simp [hr]
              have HR : Hid (r2 ≠ 0) := hr
              clear hr
              go_wp2
              go_roundw
              case rel => exact ⟨k + 1, D2, l, s, by omega, by go_num, rfl, rfl, H6.out.drum, HI2.out.2 HR.out, H6.out.bel⟩
              case measure => simp [intOf]; omega
          · rw [show D.act ⟨4, 1, n, text, keep, .slice ka keep.length kc⟩ = D.sync 1 from by simp [Dr.act]]
            have HI2 : Hid (((D.sync 1).1 = 0 → SuInv l l.length (D.sync 1).2) ∧ ((D.sync 1).1 ≠ 0 → SuInv l s (D.sync 1).2)) := ⟨HW.out.2.1.sync_ok, HW.out.2.1.sync_no⟩
            generalize D.sync 1 = r at *
            obtain ⟨r2, D2⟩ := r
            dsimp only at HI2 ⊢
            rintro e w6 ⟨rfl, h6, k6⟩
            have H6 : Hid (SuBox pb xb ⟨4, area, n, text, keep, .slice ka keep.length kc⟩ D2 w w6) := HBx.out.next hxb HP.out h6 k6
            clear h6 k6
            obtain ⟨z0, z1, z2, z3, z4⟩ := five_cells H6.out.box
            dsimp only at z0 z1 z2 z3 z4
            by_cases hr : r2 = 0
            · subst hr
              go_wp2
              go_roundw
              case rel => exact ⟨k + 1, D2, l, l.length, by omega, by go_num, rfl, by go_num, H6.out.drum, HI2.out.1 (by trivial), H6.out.bel⟩
              case measure => simp [intOf]; omega
            · have hrb : (r2 == 0) = false := by simp [hr]
              have HR : Hid (r2 ≠ 0) := hr
              clear hr
              go_wp2
              go_roundw
              case rel => exact ⟨k + 1, D2, l, s, by omega, by go_num, rfl, rfl, H6.out.drum, HI2.out.2 HR.out, H6.out.bel⟩
              case measure => simp [intOf]; omega
          · rw [show D.act ⟨5, 1, n, text, keep, .slice ka keep.length kc⟩ = (0, { D with fuel := n }) from by simp [Dr.act]]
            have HI2 : Hid (SuInv l s { D with fuel := n }) := HW.out.2.1.fuelled n HX.out.2.n0 HX.out.2.n1
            generalize ({ D with fuel := n } : Dr) = D2 at *
            rintro e w6 ⟨rfl, h6, k6⟩
            have H6 : Hid (SuBox pb xb ⟨5, area, n, text, keep, .slice ka keep.length kc⟩ D2 w w6) := HBx.out.next hxb HP.out h6 k6
            clear h6 k6
            obtain ⟨z0, z1, z2, z3, z4⟩ := five_cells H6.out.box
            dsimp only at z0 z1 z2 z3 z4
            go_wp2
            go_roundw
            case rel => exact ⟨k + 1, D2, l, s, by omega, by go_num, rfl, rfl, H6.out.drum, HI2.out, H6.out.bel⟩
            case measure => simp [intOf]; omega
          · rw [show D.act ⟨6, 1, n, text, keep, .slice ka keep.length kc⟩ = (0, D.fall keep) from by simp [Dr.act]]
            rintro e w6 ⟨rfl, h6, k6⟩
            have H6 : Hid (SuBox pb xb ⟨6, area, n, text, keep, .slice ka keep.length kc⟩ (D.fall keep) w w6) := HBx.out.next hxb HP.out h6 k6
            clear h6 k6
            obtain ⟨z0, z1, z2, z3, z4⟩ := five_cells H6.out.box
            dsimp only at z0 z1 z2 z3 z4
            have hlf := HW.out.2.1.left keep
            have HI2 : Hid (SuInv (l.take (D.left keep 1)) (D.left keep 1) (D.fall keep) ∧ (D.fall keep).read 1 = (l.take (D.left keep 1), 0)) := ⟨HW.out.2.1.fall keep, HW.out.2.1.read keep⟩
            have hsz2 : (bs (l.take (D.left keep 1))).size = D.left keep 1 := by
              rw [bs_size, List.length_take]
              omega
            have hex : (bs l).extract 0 (D.left keep 1) = bs (l.take (D.left keep 1)) := bs_take l _
            generalize D.left keep 1 = lf at *
            generalize l.take lf = l2 at *
            generalize D.fall keep = D2 at *
            go_wp2_with fail
            refine (read10 pb _ 1 _ H6.out.drum).mono ?_
            rw [HI2.out.2]
            rintro e w7 ⟨rfl, rfl⟩
            go_wp2
            go_roundw
            case rel => exact ⟨k + 1, D2, l2, lf, by omega, by go_num, rfl, by go_num, H6.out.drum, HI2.out.1, H6.out.bel⟩
            case measure => simp [intOf]; omega
      · go_wp2_with fail
        refine (fall26 pb _ _ [] _ (HW.out.1.alloc _) HW.out.2.1.ok (KeepAt.nil _ _) (by simp) (by simp)).mono ?_
        rintro e w6 ⟨rfl, h6, k6⟩
        have H6 : Hid (DrumAt pb (D.fall []) w6 ∧ Below w.heap.size w w6) := ⟨h6, (HW.out.2.2.alloc HW.out.2.2.size _).trans (k6.below.mono HP.out)⟩
        clear h6 k6
        go_wp2_with fail
        refine (read10 pb _ 1 _ H6.out.1).mono ?_
        rw [HW.out.2.1.read, HW.out.2.1.left_nil]
        rintro e w7 ⟨rfl, rfl⟩
        have hex : (bs l).extract 0 s = bs (l.take s) := bs_take l s
        generalize l.take s = l2 at *
        go_wp2
        go_ret
        exact ⟨rfl, H6.out.2⟩
    · go_wp2_with fail
      refine (fall26 pb _ _ [] _ HW.out.1 HW.out.2.1.ok (KeepAt.nil _ _) (by simp) (by simp)).mono ?_
      rintro e w6 ⟨rfl, h6, k6⟩
      have H6 : Hid (DrumAt pb (D.fall []) w6 ∧ Below w.heap.size w w6) := ⟨h6, HW.out.2.2.trans (k6.below.mono HP.out)⟩
      clear h6 k6
      go_wp2_with fail
      refine (read10 pb _ 1 _ H6.out.1).mono ?_
      rw [HW.out.2.1.read, HW.out.2.1.left_nil]
      rintro e w7 ⟨rfl, rfl⟩
      have hex : (bs l).extract 0 s = bs (l.take s) := bs_take l s
      generalize l.take s = l2 at *
      go_wp2
      go_ret
      exact ⟨rfl, H6.out.2⟩

end Go.Proofs.Ytlgmnjjjaplgcaa
