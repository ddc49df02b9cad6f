/-
  The document's store: a key's chain is set, or goes.
-/
import Derived.Test.YtcfhkggijdjagaaRst
import Derived.Test.YtcfhkggijdjagaaSetp
namespace Go.Proofs.Ytcfhkggijdjagaa
open Go.RowKit

theorem info57 : (Try.prog.info? 57).map (fun i => (i.zero, i.size, i.bytes)) = some (some (.agg #[.string ⟨#[]⟩, .slice none 0 0]), 2, 40) := by kernel_rfl
theorem it_one (w : World) (k : List UInt8) (s : Sv) : RwAt (w.heap.size + 1) 2 (.slice (some ⟨w.heap.size, 0, none⟩) 1 1) 1 (itc [(k, s)]) (w.alloc (.cells #[.string (bs k), .slice s.1 s.2.1 s.2.2] 57)) := by
  refine ⟨_, 1, rfl, rfl, Nat.le_refl _, by omega, fun _ => ⟨w.heap.size, 0, rfl, fun _ => Nat.lt_succ_self _, fun j u hj => ?_⟩⟩
  match j, hj with
  | 0, hj => simp [itc] at hj; subst hj; simp [go_sem]
  | 1, hj => simp [itc] at hj; subst hj; simp [go_sem]
  | j + 2, hj => simp [itc] at hj
/-- One item more, behind a row of the call's own. -/
theorem it_ow {base n : Nat} {sa : Option Addr} {sc : Nat} {l : Kv Sv} {w : World} (k : List UInt8) (s : Sv) (ho : w.ownsRow base 57 2 (.slice sa n sc) n (itc l)) (hb : base ≤ w.heap.size) (hl : n < 1000000) :
    Ow base 57 2 (.slice sa n sc) n (itc l) (w.heap.size + 1) (.slice (some ⟨w.heap.size, 0, none⟩) 1 1) 1 (itc [(k, s)]) (w.alloc (.cells #[.string (bs k), .slice s.1 s.2.1 s.2.2] 57)) :=
  ⟨World.ownsRow.alloc ho _, it_one w k s, itc_one _, Nat.le_trans hb (by simp), by omega⟩
theorem it_more {base : Nat} {v' : Value} {l : Kv Sv} {w' : World} {k : List UInt8} {s : Sv} (h : w'.ownsRow base 57 2 v' (l.length + 1) (itc l ++ itc [(k, s)])) : w'.ownsRow base 57 2 v' (l ++ [(k, s)]).length (itc (l ++ [(k, s)])) := by
  rw [itc_append, List.length_append]
  exact h
/-- What is there of the document's store in every world behind. -/
theorem RefAt.all {B rb : Nat} {ao : Option Addr} {cap : Nat} {L : Kv Sv} {w : World} (h : RefAt B rb (.slice ao L.length cap) L w) : ∀ w', Below w.heap.size w w' → w'.cell? ⟨rb, 0, none⟩ = some (.slice ao L.length cap) ∧ w'.frozen? ⟨rb, 0, none⟩ = false ∧ ∀ i, i < L.length → ∃ g, ao = some ⟨g, 0, none⟩ ∧ w'.cell? ⟨g, i * 2, none⟩ = some (.string (bs (L.getD i dk).1)) ∧ w'.cell? ⟨g, i * 2 + 1, none⟩ = some (.slice (L.getD i dk).2.1 (L.getD i dk).2.2.1 (L.getD i dk).2.2.2) :=
  fun _ hb => ⟨(h.on hb).cell, (h.on hb).frozen, fun _ hi => (h.on hb).el hi⟩
/-- The box holds another row, of the call's own. -/
theorem RefAt.again {B rb : Nat} {sl sl' : Value} {L L' : Kv Sv} {w w' : World} (h : RefAt B rb sl L w) (hb : Below w.heap.size w w') (ho : w'.ownsRow w.heap.size 57 2 sl' L'.length (itc L')) (hs : Srt L') :
    RefAt B rb sl' L' (w'.setCell ⟨rb, 0, none⟩ sl') ∧ Kept (fun i => i = rb) w (w'.setCell ⟨rb, 0, none⟩ sl') ∧ ∀ i, sl'.ownBlock = some i → w.heap.size ≤ i := by
  have hrb : rb < w.heap.size := (h.lt (.inl rfl)).2
  have hBw : B ≤ w.heap.size := Nat.le_of_lt (Nat.lt_of_le_of_lt h.lo hrb)
  have hn : ∀ i, sl'.ownBlock = some i → w.heap.size ≤ i := fun i hi => (World.ownsRow.lt ho i hi).1
  have ks := set_kept' w' rb 0 sl'
  refine ⟨⟨?_, own_le (own_kept ho ks (fun k e e2 => by have := hn k e; omega)) hBw, h.lo, fun e => by have := hn rb e; omega, hs⟩, (Kept.of_below hb).trans ks (fun i e => .inl e), hn⟩
  exact block_set _ ((h.on hb).box)

set_option maxHeartbeats 3200000 in
set_option maxRecDepth 100000 in
theorem set34 (B rb : Nat) (sl : Value) (L : Kv Sv) (k : List UInt8) (s : Sv) (w : World) (h : RefAt B rb sl L w) (hl : L.length < 500000) (hs0 : 0 < s.2.1) :
    Calls Try.prog 35 #[.pointer (some ⟨rb, 0, none⟩), .string (bs k), .slice s.1 s.2.1 s.2.2] w fun e w' => e = .returned (.tuple #[]) ∧ ∃ sl', RefAt B rb sl' (setF k s L) w' ∧ Kept (fun i => i = rb) w w' ∧ ∀ i, sl'.ownBlock = some i → w.heap.size ≤ i := by
  obtain ⟨i0, hin, hi0, hi1, hi2⟩ := info_parts info57
  obtain ⟨ao, cap, rfl, hlc, hcm⟩ := h.shape
  have HA : Hid _ := h.all
  have HS : Hid (Srt L) := h.srt
  have HF : Hid (∀ (w' : World) (sl' : Value), Below w.heap.size w w' → w'.ownsRow w.heap.size 57 2 sl' (setF k s L).length (itc (setF k s L)) → ∃ sl'', RefAt B rb sl'' (setF k s L) (w'.setCell ⟨rb, 0, none⟩ sl') ∧ Kept (fun i => i = rb) w (w'.setCell ⟨rb, 0, none⟩ sl') ∧ ∀ i, sl''.ownBlock = some i → w.heap.size ≤ i) := fun w' sl' hb ho => ⟨sl', h.again hb ho (setF_srt h.srt)⟩
  have hL9 : L.length < 9223372036854775808 := by omega
  have HL : Hid _ := hl
  have hs1 : ((s.2.1 : Int) == 0) = false := by simp; omega
  clear h hlc hcm hl
  go_enter Try.func35, Try.ntmps35
  go_wp2_with fail
  go_loopw [6, 7, 8] (fun v d i wr => ∃ (m : Nat) (done : Bool) (l : Kv Sv), m ≤ L.length ∧ i = .int .i64 m ∧ d = .bool done ∧ accS k s L m done l ∧ l.length ≤ m + 1 ∧ wr.ownsRow w.heap.size 57 2 v l.length (itc l) ∧ Below w.heap.size w wr) (fun _ _ i _ => L.length - (intOf i).toNat)
  case atStart => exact ⟨0, false, [], Nat.zero_le _, rfl, rfl, acc_start k s L, by simp, own_nil _ _ _ _, Below.refl _ _⟩
  case round =>
    obtain ⟨m, done, l, hm, rfl, rfl, hacc, hll, hown, hbr⟩ := hrel
    obtain ⟨sa, sc, rfl, -, -, -, -⟩ := rw_own hown
    have HO : Hid _ := hown
    have HB : Hid _ := hbr
    clear hown hbr
    have hlm : l.length < 1000000 := by have := HL.out; omega
    obtain ⟨c0, f0, hel⟩ := HA.out _ HB.out
    by_cases hml : m < L.length
    · obtain ⟨g, rfl, e0, e1⟩ := hel m hml
      clear hel
      have hml' : (m : Int) < L.length := by omega
      have K1 : Hid (done = false → ltK (L.getD m dk).1 k = true → accS k s L (m + 1) false (l ++ [L.getD m dk])) := fun e hx => acc_low (e ▸ hacc) hml hx
      have K2 : Hid (done = false → (L.getD m dk).1 = k → accS k s L (m + 1) true (l ++ [(k, s)])) := fun e hx => acc_eq HS.out (e ▸ hacc) hml hx
      have K3 : Hid (done = false → ltK k (L.getD m dk).1 = true → accS k s L (m + 1) true (l ++ [(k, s)] ++ [L.getD m dk])) := fun e hx => acc_high HS.out (e ▸ hacc) hml hx
      have K4 : Hid (done = true → ltK k (L.getD m dk).1 = true ∧ accS k s L (m + 1) true (l ++ [L.getD m dk])) := fun e => acc_on HS.out (e ▸ hacc) hml
      have HE2 : Hid (∀ w', Below w.heap.size w w' → w'.cell? ⟨rb, 0, none⟩ = some (.slice (some ⟨g, 0, none⟩) L.length cap) ∧ w'.cell? ⟨g, m * 2, none⟩ = some (.string (bs (L.getD m dk).1)) ∧ w'.cell? ⟨g, m * 2 + 1, none⟩ = some (.slice (L.getD m dk).2.1 (L.getD m dk).2.2.1 (L.getD m dk).2.2.2)) := fun w' hb => by
        obtain ⟨a1, _, a3⟩ := HA.out w' hb
        obtain ⟨g', hg', a4, a5⟩ := a3 m hml
        injection hg' with hg'
        injection hg' with hg'
        subst hg'
        exact ⟨a1, a4, a5⟩
      have K5 : Hid (done = false → l.length ≤ m) := fun e => by
        subst e
        rcases hacc with ⟨_, rfl, _⟩ | ⟨h0, _⟩
        · exact List.length_take_le _ _
        · cases h0
      clear hacc
      generalize L.getD m dk = x at *
      obtain ⟨a, t⟩ := x
      dsimp only at e0 e1 K1 K2 K3 K4 HE2
      have q0 := bs_beq a k
      have q1 := bl a k
      cases done
      · by_cases h1 : ltK a k = true
        · have HAcc : Hid (accS k s L (m + 1) false (l ++ [(a, t)])) := K1.out rfl h1
          rw [h1] at q1
          have hne : (a == k) = false := by simpa using ltK_ne h1
          rw [hne] at q0
          clear h1 hne K1 K2 K3 K4 HE2
          have HOw : Hid (Ow w.heap.size 57 2 (.slice sa (l.length) sc) (l.length) (itc l) (wr.heap.size + 1) (.slice (some ⟨wr.heap.size, 0, none⟩) 1 1) 1 (itc [(a, t)]) (wr.alloc (.cells #[.string (bs a), .slice t.1 t.2.1 t.2.2] 57))) := it_ow a t HO.out HB.out.size (by omega)
          go_wp2_with (at_builtin; refine wpList_append_rw HOw.out Try.underlying27 hin hi0 hi1 hi2 rfl (by decide) (by decide) (.tmp 51) (.tmp 59) rfl rfl rfl rfl ?_)
          intro v' w2 hown hg hat
          have HB2 : Hid (Below w.heap.size w w2) := below_own (HB.out.alloc HB.out.size _) HOw.out.size HOw.out.own hg
          obtain ⟨sa2, sc2, rfl, -, -, -, -⟩ := rw_own hown
          have HO2 : Hid (w2.ownsRow w.heap.size 57 2 (.slice sa2 (l.length + 1) sc2) (l.length + 1) (itc (l ++ [(a, t)]))) := by
            rw [itc_append]
            exact hown
          clear hown hg hat HOw
          go_wp2_with fail
          go_roundw
          case rel => exact ⟨m + 1, false, l ++ [(a, t)], by omega, by go_num, rfl, HAcc.out, by simp; omega, by rw [List.length_append]; exact HO2.out, HB2.out⟩
          case measure => simp [intOf]; omega
        · have h1' : ltK a k = false := by simpa using h1
          rw [h1'] at q1
          by_cases h2 : a = k
          · have HAcc : Hid (accS k s L (m + 1) true (l ++ [(k, s)])) := K2.out rfl h2
            have heq : (a == k) = true := by simpa using h2
            rw [heq] at q0
            clear h1 h1' h2 heq K1 K2 K3 K4
            have HOw : Hid (Ow w.heap.size 57 2 (.slice sa (l.length) sc) (l.length) (itc l) (wr.heap.size + 1) (.slice (some ⟨wr.heap.size, 0, none⟩) 1 1) 1 (itc [(k, s)]) (wr.alloc (.cells #[.string (bs k), .slice s.1 s.2.1 s.2.2] 57))) := it_ow k s HO.out HB.out.size (by omega)
            go_wp2_with (at_builtin; refine wpList_append_rw HOw.out Try.underlying27 hin hi0 hi1 hi2 rfl (by decide) (by decide) (.tmp 35) (.tmp 39) rfl rfl rfl rfl ?_)
            intro v' w2 hown hg hat
            have HB2 : Hid (Below w.heap.size w w2) := below_own (HB.out.alloc HB.out.size _) HOw.out.size HOw.out.own hg
            obtain ⟨sa2, sc2, rfl, -, -, -, -⟩ := rw_own hown
            have HO2 : Hid (w2.ownsRow w.heap.size 57 2 (.slice sa2 (l.length + 1) sc2) (l.length + 1) (itc (l ++ [(k, s)]))) := by
              rw [itc_append]
              exact hown
            clear hown hg hat HOw
            obtain ⟨d0, d1, d2⟩ := HE2.out _ HB2.out
            clear HE2 e0 e1 c0
            go_wp2_with fail
            go_roundw
            case rel => exact ⟨m + 1, true, l ++ [(k, s)], by omega, by go_num, rfl, HAcc.out, by simp; omega, by rw [List.length_append]; exact HO2.out, HB2.out⟩
            case measure => simp [intOf]; omega
          · have h3 : ltK k a = true := by
              cases e : ltK k a
              · exact absurd (ltK_tri h1' e) h2
              · rfl
            have HAcc : Hid (accS k s L (m + 1) true (l ++ [(k, s)] ++ [(a, t)])) := K3.out rfl h3
            have hne : (a == k) = false := by simpa using h2
            rw [hne] at q0
            clear h1 h1' h2 h3 hne K1 K2 K3 K4
            have HOw : Hid (Ow w.heap.size 57 2 (.slice sa (l.length) sc) (l.length) (itc l) (wr.heap.size + 1) (.slice (some ⟨wr.heap.size, 0, none⟩) 1 1) 1 (itc [(k, s)]) (wr.alloc (.cells #[.string (bs k), .slice s.1 s.2.1 s.2.2] 57))) := it_ow k s HO.out HB.out.size (by omega)
            go_wp2_with (at_builtin; refine wpList_append_rw HOw.out Try.underlying27 hin hi0 hi1 hi2 rfl (by decide) (by decide) (.tmp 35) (.tmp 39) rfl rfl rfl rfl ?_)
            intro v' w2 hown hg hat
            have HB2 : Hid (Below w.heap.size w w2) := below_own (HB.out.alloc HB.out.size _) HOw.out.size HOw.out.own hg
            obtain ⟨sa2, sc2, rfl, -, -, -, -⟩ := rw_own hown
            have HO2 : Hid (w2.ownsRow w.heap.size 57 2 (.slice sa2 (l.length + 1) sc2) (l.length + 1) (itc (l ++ [(k, s)]))) := by
              rw [itc_append]
              exact hown
            clear hown hg hat HOw
            obtain ⟨d0, d1, d2⟩ := HE2.out _ HB2.out
            clear HE2 e0 e1 c0
            obtain ⟨l2, hl2⟩ : ∃ l2, l ++ [(k, s)] = l2 := ⟨_, rfl⟩
            have hl2e : l2.length = l.length + 1 := by rw [← hl2]; simp
            have hlm5 := K5.out (by trivial)
            have hl2m : l.length + 1 < 1000000 := by have := HL.out; omega
            rw [hl2] at HO2 HAcc
            have HOw : Hid (Ow w.heap.size 57 2 (.slice sa2 (l.length + 1) sc2) (l.length + 1) (itc l2) (w2.heap.size + 1) (.slice (some ⟨w2.heap.size, 0, none⟩) 1 1) 1 (itc [(a, t)]) (w2.alloc (.cells #[.string (bs a), .slice t.1 t.2.1 t.2.2] 57))) := it_ow a t HO2.out HB2.out.size (by omega)
            go_wp2_with (at_builtin; refine wpList_append_rw HOw.out Try.underlying27 hin hi0 hi1 hi2 rfl (by decide) (by decide) (.tmp 51) (.tmp 59) rfl rfl rfl rfl ?_)
            intro v' w3 hown hg hat
            have HB3 : Hid (Below w.heap.size w w3) := below_own (HB2.out.alloc HB2.out.size _) HOw.out.size HOw.out.own hg
            obtain ⟨sa3, sc3, rfl, -, -, -, -⟩ := rw_own hown
            have HO3 : Hid (w3.ownsRow w.heap.size 57 2 (.slice sa3 (l.length + 1 + 1) sc3) (l.length + 1 + 1) (itc (l2 ++ [(a, t)]))) := by
              rw [itc_append]
              exact hown
            clear hown hg hat HOw
            clear hl2
            go_wp2_with fail
            go_roundw
            case rel => exact ⟨m + 1, true, l2 ++ [(a, t)], by omega, by go_num, rfl, HAcc.out, by simp; omega, by rw [List.length_append, hl2e]; exact HO3.out, HB3.out⟩
            case measure => simp [intOf]; omega
      · obtain ⟨h3, hacc⟩ := K4.out rfl
        have HAcc : Hid (accS k s L (m + 1) true (l ++ [(a, t)])) := hacc
        have hne : (a == k) = false := by simpa using (ltK_ne h3).symm
        rw [hne] at q0
        clear h3 hne hacc K1 K2 K3 K4 HE2
        have HOw : Hid (Ow w.heap.size 57 2 (.slice sa (l.length) sc) (l.length) (itc l) (wr.heap.size + 1) (.slice (some ⟨wr.heap.size, 0, none⟩) 1 1) 1 (itc [(a, t)]) (wr.alloc (.cells #[.string (bs a), .slice t.1 t.2.1 t.2.2] 57))) := it_ow a t HO.out HB.out.size (by omega)
        go_wp2_with (at_builtin; refine wpList_append_rw HOw.out Try.underlying27 hin hi0 hi1 hi2 rfl (by decide) (by decide) (.tmp 51) (.tmp 59) rfl rfl rfl rfl ?_)
        intro v' w2 hown hg hat
        have HB2 : Hid (Below w.heap.size w w2) := below_own (HB.out.alloc HB.out.size _) HOw.out.size HOw.out.own hg
        obtain ⟨sa2, sc2, rfl, -, -, -, -⟩ := rw_own hown
        have HO2 : Hid (w2.ownsRow w.heap.size 57 2 (.slice sa2 (l.length + 1) sc2) (l.length + 1) (itc (l ++ [(a, t)]))) := by
          rw [itc_append]
          exact hown
        clear hown hg hat HOw
        go_wp2_with fail
        go_roundw
        case rel => exact ⟨m + 1, true, l ++ [(a, t)], by omega, by go_num, rfl, HAcc.out, by simp; omega, by rw [List.length_append]; exact HO2.out, HB2.out⟩
        case measure => simp [intOf]; omega
    · have hml' : ¬ (m : Int) < L.length := by omega
      have hend := acc_end hacc (by omega)
      clear hacc hel
      cases done
      · have HEnd : Hid (l ++ [(k, s)] = setF k s L) := hend
        clear hend
        have HOw : Hid (Ow w.heap.size 57 2 (.slice sa (l.length) sc) (l.length) (itc l) (wr.heap.size + 1) (.slice (some ⟨wr.heap.size, 0, none⟩) 1 1) 1 (itc [(k, s)]) (wr.alloc (.cells #[.string (bs k), .slice s.1 s.2.1 s.2.2] 57))) := it_ow k s HO.out HB.out.size (by omega)
        go_wp2_with (at_builtin; refine wpList_append_rw HOw.out Try.underlying27 hin hi0 hi1 hi2 rfl (by decide) (by decide) (.tmp 63) (.tmp 67) rfl rfl rfl rfl ?_)
        intro v' w2 hown hg hat
        have HB2 : Hid (Below w.heap.size w w2) := below_own (HB.out.alloc HB.out.size _) HOw.out.size HOw.out.own hg
        obtain ⟨sa2, sc2, rfl, -, -, -, -⟩ := rw_own hown
        have HO2 : Hid (w2.ownsRow w.heap.size 57 2 (.slice sa2 (l.length + 1) sc2) (l.length + 1) (itc (l ++ [(k, s)]))) := by
          rw [itc_append]
          exact hown
        clear hown hg hat HOw
        obtain ⟨d0, d1, -⟩ := HA.out _ HB2.out
        have HX : Hid (∃ sl'', RefAt B rb sl'' (setF k s L) (w2.setCell ⟨rb, 0, none⟩ (.slice sa2 (l.length + 1) sc2)) ∧ Kept (fun i => i = rb) w (w2.setCell ⟨rb, 0, none⟩ (.slice sa2 (l.length + 1) sc2)) ∧ ∀ i, sl''.ownBlock = some i → w.heap.size ≤ i) := HF.out w2 _ HB2.out (by rw [← HEnd.out, List.length_append]; exact HO2.out)
        clear HF HA c0 f0
        go_wp2_with fail
        refine bodyPost_end (results_none Try.results35 _ _ _) rfl ?_
        exact ⟨rfl, HX.out⟩
      · have HEnd : Hid (l = setF k s L) := hend
        have HX : Hid (∃ sl'', RefAt B rb sl'' (setF k s L) (wr.setCell ⟨rb, 0, none⟩ (.slice sa l.length sc)) ∧ Kept (fun i => i = rb) w (wr.setCell ⟨rb, 0, none⟩ (.slice sa l.length sc)) ∧ ∀ i, sl''.ownBlock = some i → w.heap.size ≤ i) := HF.out wr _ HB.out (by rw [← HEnd.out]; exact HO.out)
        clear HF HA hend HEnd
        go_wp2_with fail
        refine bodyPost_end (results_none Try.results35 _ _ _) rfl ?_
        exact ⟨rfl, HX.out⟩

set_option maxHeartbeats 3200000 in
set_option maxRecDepth 100000 in
theorem set34_cut (B rb : Nat) (sl : Value) (L : Kv Sv) (k : List UInt8) (s : Sv) (w : World) (h : RefAt B rb sl L w) (hl : L.length < 500000) (hs0 : s.2.1 = 0) :
    Calls Try.prog 35 #[.pointer (some ⟨rb, 0, none⟩), .string (bs k), .slice s.1 s.2.1 s.2.2] w fun e w' => e = .returned (.tuple #[]) ∧ ∃ sl', RefAt B rb sl' (cutF k L) w' ∧ Kept (fun i => i = rb) w w' ∧ ∀ i, sl'.ownBlock = some i → w.heap.size ≤ i := by
  obtain ⟨i0, hin, hi0, hi1, hi2⟩ := info_parts info57
  obtain ⟨ao, cap, rfl, hlc, hcm⟩ := h.shape
  have HA : Hid _ := h.all
  have HF : Hid (∀ (w' : World) (sl' : Value), Below w.heap.size w w' → w'.ownsRow w.heap.size 57 2 sl' (cutF k L).length (itc (cutF k L)) → ∃ sl'', RefAt B rb sl'' (cutF k L) (w'.setCell ⟨rb, 0, none⟩ sl') ∧ Kept (fun i => i = rb) w (w'.setCell ⟨rb, 0, none⟩ sl') ∧ ∀ i, sl''.ownBlock = some i → w.heap.size ≤ i) := fun w' sl' hb ho => ⟨sl', h.again hb ho (cutF_srt h.srt)⟩
  have HC : Hid (∀ m, m < L.length → cutF k (L.take (m + 1)) = if (L.getD m dk).1 == k then cutF k (L.take m) else cutF k (L.take m) ++ [L.getD m dk]) := fun m hm => cut_snoc h.srt hm
  have hL9 : L.length < 9223372036854775808 := by omega
  have HL : Hid _ := hl
  have hs1 : ((s.2.1 : Int) == 0) = true := by simp [hs0]
  clear h hlc hcm hl hs0
  go_enter Try.func35, Try.ntmps35
  go_wp2_with fail
  go_loopw [6, 7, 8] (fun v d i wr => ∃ (m : Nat) (l : Kv Sv), m ≤ L.length ∧ i = .int .i64 m ∧ d = .bool true ∧ l = cutF k (L.take m) ∧ l.length ≤ m ∧ wr.ownsRow w.heap.size 57 2 v l.length (itc l) ∧ Below w.heap.size w wr) (fun _ _ i _ => L.length - (intOf i).toNat)
  case atStart => exact ⟨0, [], Nat.zero_le _, rfl, rfl, rfl, by simp, own_nil _ _ _ _, Below.refl _ _⟩
  case round =>
    obtain ⟨m, l, hm, rfl, rfl, hacc, hll, hown, hbr⟩ := hrel
    obtain ⟨sa, sc, rfl, -, -, -, -⟩ := rw_own hown
    have HO : Hid _ := hown
    have HB : Hid _ := hbr
    clear hown hbr
    have hlm : l.length < 1000000 := by have := HL.out; omega
    obtain ⟨c0, f0, hel⟩ := HA.out _ HB.out
    by_cases hml : m < L.length
    · obtain ⟨g, rfl, e0, e1⟩ := hel m hml
      clear hel
      have hml' : (m : Int) < L.length := by omega
      have hst := HC.out m hml
      rw [← hacc] at hst
      clear hacc
      generalize L.getD m dk = x at *
      obtain ⟨a, t⟩ := x
      dsimp only at e0 e1 hst
      have q0 := bs_beq a k
      by_cases hak : (a == k) = true
      · rw [hak] at q0
        rw [if_pos hak] at hst
        have HAcc : Hid (l = cutF k (L.take (m + 1))) := hst.symm
        clear hak hst
        go_wp2_with fail
        go_roundw
        case rel => exact ⟨m + 1, l, by omega, by go_num, rfl, HAcc.out, by omega, HO.out, HB.out⟩
        case measure => simp [intOf]; omega
      · have hak' : (a == k) = false := by simpa using hak
        rw [hak'] at q0
        rw [if_neg hak] at hst
        have HAcc : Hid (l ++ [(a, t)] = cutF k (L.take (m + 1))) := hst.symm
        clear hak hak' hst
        have HOw : Hid (Ow w.heap.size 57 2 (.slice sa (l.length) sc) (l.length) (itc l) (wr.heap.size + 1) (.slice (some ⟨wr.heap.size, 0, none⟩) 1 1) 1 (itc [(a, t)]) (wr.alloc (.cells #[.string (bs a), .slice t.1 t.2.1 t.2.2] 57))) := it_ow a t HO.out HB.out.size (by omega)
        go_wp2_with (at_builtin; refine wpList_append_rw HOw.out Try.underlying27 hin hi0 hi1 hi2 rfl (by decide) (by decide) (.tmp 51) (.tmp 59) rfl rfl rfl rfl ?_)
        intro v' w2 hown hg hat
        have HB2 : Hid (Below w.heap.size w w2) := below_own (HB.out.alloc HB.out.size _) HOw.out.size HOw.out.own hg
        obtain ⟨sa2, sc2, rfl, -, -, -, -⟩ := rw_own hown
        have HO2 : Hid (w2.ownsRow w.heap.size 57 2 (.slice sa2 (l.length + 1) sc2) (l.length + 1) (itc (l ++ [(a, t)]))) := by
          rw [itc_append]
          exact hown
        clear hown hg hat HOw
        go_wp2_with fail
        go_roundw
        case rel => exact ⟨m + 1, l ++ [(a, t)], by omega, by go_num, rfl, HAcc.out, by simp; omega, by rw [List.length_append]; exact HO2.out, HB2.out⟩
        case measure => simp [intOf]; omega
    · have hml' : ¬ (m : Int) < L.length := by omega
      rw [List.take_of_length_le (by omega)] at hacc
      have HX : Hid (∃ sl'', RefAt B rb sl'' (cutF k L) (wr.setCell ⟨rb, 0, none⟩ (.slice sa l.length sc)) ∧ Kept (fun i => i = rb) w (wr.setCell ⟨rb, 0, none⟩ (.slice sa l.length sc)) ∧ ∀ i, sl''.ownBlock = some i → w.heap.size ≤ i) := HF.out wr _ HB.out (by rw [← hacc]; exact HO.out)
      clear HF HA hacc hel
      go_wp2_with fail
      refine bodyPost_end (results_none Try.results35 _ _ _) rfl ?_
      exact ⟨rfl, HX.out⟩
end Go.Proofs.Ytcfhkggijdjagaa
