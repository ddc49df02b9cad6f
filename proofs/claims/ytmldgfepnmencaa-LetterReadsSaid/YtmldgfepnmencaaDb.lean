/-
  The document's comparison of requests.
-/
import Derived.Test.YtmldgfepnmencaaDa
namespace Go.Proofs.Ytmldgfepnmencaa
open Go.RowKit Go.Sort

theorem sameQ_rest (a b : Rq) : sameQ a b = (eqL eqW a.ws b.ws && (eqL eqT a.sk b.sk && ((a.k == b.k) && (a.c == b.c && a.n == b.n) && (a.sp == b.sp && a.sl == b.sl) && (a.ap == b.ap && a.al == b.al) && (a.key == b.key) && (a.to == b.to) && (a.lim == b.lim) && (a.pt == b.pt)))) := by
  unfold sameQ
  simp only [Bool.and_assoc]
set_option maxHeartbeats 6400000 in
set_option maxRecDepth 100000 in
theorem asks34 (a b : Rq) (wa sa xa ta : Option Addr) (wc sc xc tc : Nat) (w : World) (ha : QAt w.heap.size a (.slice wa a.ws.length wc) (.slice sa a.sk.length sc) w) (hb : QAt w.heap.size b (.slice xa b.ws.length xc) (.slice ta b.sk.length tc) w) :
    Calls Try.prog 34 #[.agg #[.int .i64 a.k, .int .u32 (a.c : Int), .int .u32 (a.n : Int), .int .u64 (a.sp : Int), .int .u32 (a.sl : Int), .int .u64 (a.ap : Int), .int .u32 (a.al : Int), .string (bs a.key), .string (bs a.to), .int .i64 a.lim, .int .u8 (a.pt : Int), .slice wa a.ws.length wc, .slice sa a.sk.length sc], .agg #[.int .i64 b.k, .int .u32 (b.c : Int), .int .u32 (b.n : Int), .int .u64 (b.sp : Int), .int .u32 (b.sl : Int), .int .u64 (b.ap : Int), .int .u32 (b.al : Int), .string (bs b.key), .string (bs b.to), .int .i64 b.lim, .int .u8 (b.pt : Int), .slice xa b.ws.length xc, .slice ta b.sk.length tc]] w fun e w' => e = .returned (.bool (sameQ a b)) ∧ Below w.heap.size w w' := by
  obtain ⟨hla, hma⟩ := ha.ws.cap
  obtain ⟨hlb, hmb⟩ := hb.ws.cap
  obtain ⟨hka, hna⟩ := ha.sk.cap
  obtain ⟨hkb, hnb⟩ := hb.sk.cap
  have HA : Hid (∀ W, Below w.heap.size w W → ∀ i, i < a.ws.length → ∃ b off, wa = some ⟨b, off, none⟩ ∧ WtAt W b (off + i * 3) (a.ws.getD i dw)) := fun W hW i hi => (ha.ws.on hW).el hi
  have HB : Hid (∀ W, Below w.heap.size w W → ∀ i, i < b.ws.length → ∃ c off, xa = some ⟨c, off, none⟩ ∧ WtAt W c (off + i * 3) (b.ws.getD i dw)) := fun W hW i hi => (hb.ws.on hW).el hi
  have KA : Hid (∀ W, Below w.heap.size w W → ∀ i, i < a.sk.length → ∃ b off, sa = some ⟨b, off, none⟩ ∧ TtAt W b (off + i * 2) (a.sk.getD i dt)) := fun W hW i hi => (ha.sk.on hW).el hi
  have KB : Hid (∀ W, Below w.heap.size w W → ∀ i, i < b.sk.length → ∃ c off, ta = some ⟨c, off, none⟩ ∧ TtAt W c (off + i * 2) (b.sk.getD i dt)) := fun W hW i hi => (hb.sk.on hW).el hi
  have hL1 : a.ws.length < 9223372036854775808 := by omega
  have hL2 : b.ws.length < 9223372036854775808 := by omega
  have hL3 : a.sk.length < 9223372036854775808 := by omega
  have hL4 : b.sk.length < 9223372036854775808 := by omega
  have H0 : Hid _ := tw_new w #[.int .i64 a.k, .int .u32 (a.c : Int), .int .u32 (a.n : Int), .int .u64 (a.sp : Int), .int .u32 (a.sl : Int), .int .u64 (a.ap : Int), .int .u32 (a.al : Int), .string (bs a.key), .string (bs a.to), .int .i64 a.lim, .int .u8 (a.pt : Int), .slice wa a.ws.length wc, .slice sa a.sk.length sc] #[.int .i64 b.k, .int .u32 (b.c : Int), .int .u32 (b.n : Int), .int .u64 (b.sp : Int), .int .u32 (b.sl : Int), .int .u64 (b.ap : Int), .int .u32 (b.al : Int), .string (bs b.key), .string (bs b.to), .int .i64 b.lim, .int .u8 (b.pt : Int), .slice xa b.ws.length xc, .slice ta b.sk.length tc] 31
  obtain ⟨W0, hW0⟩ : ∃ W0, w.alloc (.cells #[.int .i64 a.k, .int .u32 (a.c : Int), .int .u32 (a.n : Int), .int .u64 (a.sp : Int), .int .u32 (a.sl : Int), .int .u64 (a.ap : Int), .int .u32 (a.al : Int), .string (bs a.key), .string (bs a.to), .int .i64 a.lim, .int .u8 (a.pt : Int), .slice wa a.ws.length wc, .slice sa a.sk.length sc] 31) = W0 := ⟨_, rfl⟩
  obtain ⟨W1, hW1⟩ : ∃ W1, W0.alloc (.cells #[.int .i64 b.k, .int .u32 (b.c : Int), .int .u32 (b.n : Int), .int .u64 (b.sp : Int), .int .u32 (b.sl : Int), .int .u64 (b.ap : Int), .int .u32 (b.al : Int), .string (bs b.key), .string (bs b.to), .int .i64 b.lim, .int .u8 (b.pt : Int), .slice xa b.ws.length xc, .slice ta b.sk.length tc] 31) = W1 := ⟨_, rfl⟩
  obtain ⟨ba, hba⟩ : ∃ ba, w.heap.size = ba := ⟨_, rfl⟩
  obtain ⟨bb, hbb⟩ : ∃ bb, ba + 1 = bb := ⟨_, rfl⟩
  have hsz : W0.heap.size = bb := by rw [← hbb, ← hba, ← hW0]; simp
  have T1 : Hid (Tw w ba bb #[.int .i64 a.k, .int .u32 (a.c : Int), .int .u32 (a.n : Int), .int .u64 (a.sp : Int), .int .u32 (a.sl : Int), .int .u64 (a.ap : Int), .int .u32 (a.al : Int), .string (bs a.key), .string (bs a.to), .int .i64 a.lim, .int .u8 (a.pt : Int), .slice wa a.ws.length wc, .slice sa a.sk.length sc] #[.int .i64 b.k, .int .u32 (b.c : Int), .int .u32 (b.n : Int), .int .u64 (b.sp : Int), .int .u32 (b.sl : Int), .int .u64 (b.ap : Int), .int .u32 (b.al : Int), .string (bs b.key), .string (bs b.to), .int .i64 b.lim, .int .u8 (b.pt : Int), .slice xa b.ws.length xc, .slice ta b.sk.length tc] 31 W1) := by
    rw [← hW1, ← hW0, ← hbb, ← hba]
    exact H0.out
  have HS : Hid (sameQ a b = (eqL eqW a.ws b.ws && (eqL eqT a.sk b.sk && ((a.k == b.k) && (a.c == b.c && a.n == b.n) && (a.sp == b.sp && a.sl == b.sl) && (a.ap == b.ap && a.al == b.al) && (a.key == b.key) && (a.to == b.to) && (a.lim == b.lim) && (a.pt == b.pt))))) := sameQ_rest a b
  have WNL : Hid (a.ws.length ≠ b.ws.length → eqL eqW a.ws b.ws = false) := eqL_len eqW_iff
  have WST : Hid (a.ws.length = b.ws.length → ∀ m, m < a.ws.length → eqL eqW (a.ws.drop m) (b.ws.drop m) = (eqW (a.ws.getD m dw) (b.ws.getD m dw) && eqL eqW (a.ws.drop (m + 1)) (b.ws.drop (m + 1)))) := fun h m hm => eqL_step h hm
  have WEN : Hid (a.ws.length = b.ws.length → ∀ m, a.ws.length ≤ m → eqL eqW (a.ws.drop m) (b.ws.drop m) = true) := fun h m hm => by rw [List.drop_eq_nil_of_le hm, List.drop_eq_nil_of_le (by omega)]; rfl
  have WE0 : Hid (eqL eqW (a.ws.drop 0) (b.ws.drop 0) = eqL eqW a.ws b.ws) := rfl
  have KNL : Hid (a.sk.length ≠ b.sk.length → eqL eqT a.sk b.sk = false) := eqL_len eqT_iff
  have KST : Hid (a.sk.length = b.sk.length → ∀ m, m < a.sk.length → eqL eqT (a.sk.drop m) (b.sk.drop m) = (eqT (a.sk.getD m dt) (b.sk.getD m dt) && eqL eqT (a.sk.drop (m + 1)) (b.sk.drop (m + 1)))) := fun h m hm => eqL_step h hm
  have KEN : Hid (a.sk.length = b.sk.length → ∀ m, a.sk.length ≤ m → eqL eqT (a.sk.drop m) (b.sk.drop m) = true) := fun h m hm => by rw [List.drop_eq_nil_of_le hm, List.drop_eq_nil_of_le (by omega)]; rfl
  have KE0 : Hid (eqL eqT (a.sk.drop 0) (b.sk.drop 0) = eqL eqT a.sk b.sk) := rfl
  clear ha hb hla hma hlb hmb hka hna hkb hnb H0
  have a11 : W1.cell? ⟨ba, 11, none⟩ = some (.slice wa a.ws.length wc) := block_cell T1.out.xa rfl
  have b11 : W1.cell? ⟨bb, 11, none⟩ = some (.slice xa b.ws.length xc) := block_cell T1.out.xb rfl
  have a12 : W1.cell? ⟨ba, 12, none⟩ = some (.slice sa a.sk.length sc) := block_cell T1.out.xa rfl
  have b12 : W1.cell? ⟨bb, 12, none⟩ = some (.slice ta b.sk.length tc) := block_cell T1.out.xb rfl
  generalize sameQ a b = y at *
  by_cases hlen : a.ws.length = b.ws.length
  rotate_left
  · have hlen' : ((a.ws.length : Int) != (b.ws.length : Int)) = true := by simp; omega
    have HY : Hid (y = false) := by rw [HS.out, WNL.out hlen]; rfl
    clear hlen
    go_enter Try.func34, Try.ntmps34
    go_wp2_with fail
    clear hba
    go_ret
    exact ⟨by rw [HY.out]; rfl, T1.out.bel⟩
  have HLW : Hid (a.ws.length = b.ws.length) := hlen
  have hlen' : ((a.ws.length : Int) != (b.ws.length : Int)) = false := by simp [hlen]
  clear hlen
  by_cases hlen : a.sk.length = b.sk.length
  rotate_left
  · have hlen2 : ((a.sk.length : Int) != (b.sk.length : Int)) = true := by simp; omega
    have HY : Hid (y = false) := by show _ = _; rw [HS.out, KNL.out hlen]; simp
    clear hlen
    go_enter Try.func34, Try.ntmps34
    go_wp2_with fail
    clear hba
    go_ret
    exact ⟨by rw [HY.out]; rfl, T1.out.bel⟩
  have HLK : Hid (a.sk.length = b.sk.length) := hlen
  have hlen2 : ((a.sk.length : Int) != (b.sk.length : Int)) = false := by simp [hlen]
  clear hlen
  go_enter Try.func34, Try.ntmps34
  go_wp2_with fail
  clear hW0 hW1 hba hbb a11 b11 a12 b12 hsz
  go_loopw [5] (fun i wr => ∃ m : Nat, m ≤ a.ws.length ∧ i = .int .i64 m ∧ Tw w ba bb #[.int .i64 a.k, .int .u32 (a.c : Int), .int .u32 (a.n : Int), .int .u64 (a.sp : Int), .int .u32 (a.sl : Int), .int .u64 (a.ap : Int), .int .u32 (a.al : Int), .string (bs a.key), .string (bs a.to), .int .i64 a.lim, .int .u8 (a.pt : Int), .slice wa a.ws.length wc, .slice sa a.sk.length sc] #[.int .i64 b.k, .int .u32 (b.c : Int), .int .u32 (b.n : Int), .int .u64 (b.sp : Int), .int .u32 (b.sl : Int), .int .u64 (b.ap : Int), .int .u32 (b.al : Int), .string (bs b.key), .string (bs b.to), .int .i64 b.lim, .int .u8 (b.pt : Int), .slice xa b.ws.length xc, .slice ta b.sk.length tc] 31 wr ∧ eqL eqW (a.ws.drop m) (b.ws.drop m) = eqL eqW a.ws b.ws) (fun i _ => a.ws.length - (intOf i).toNat)
  case atStart => exact ⟨0, Nat.zero_le _, rfl, T1.out, WE0.out⟩
  case round =>
    obtain ⟨m, hm, rfl, ht, he⟩ := hrel
    have HT : Hid (Tw w ba bb #[.int .i64 a.k, .int .u32 (a.c : Int), .int .u32 (a.n : Int), .int .u64 (a.sp : Int), .int .u32 (a.sl : Int), .int .u64 (a.ap : Int), .int .u32 (a.al : Int), .string (bs a.key), .string (bs a.to), .int .i64 a.lim, .int .u8 (a.pt : Int), .slice wa a.ws.length wc, .slice sa a.sk.length sc] #[.int .i64 b.k, .int .u32 (b.c : Int), .int .u32 (b.n : Int), .int .u64 (b.sp : Int), .int .u32 (b.sl : Int), .int .u64 (b.ap : Int), .int .u32 (b.al : Int), .string (bs b.key), .string (bs b.to), .int .i64 b.lim, .int .u8 (b.pt : Int), .slice xa b.ws.length xc, .slice ta b.sk.length tc] 31 wr) := ht
    have HE : Hid (eqL eqW (a.ws.drop m) (b.ws.drop m) = eqL eqW a.ws b.ws) := he
    clear ht he T1
    have a11 : wr.cell? ⟨ba, 11, none⟩ = some (.slice wa a.ws.length wc) := block_cell HT.out.xa rfl
    have b11 : wr.cell? ⟨bb, 11, none⟩ = some (.slice xa b.ws.length xc) := block_cell HT.out.xb rfl
    by_cases hml : m < a.ws.length
    · obtain ⟨c1, o1, rfl, d0, d1, d2⟩ := HA.out wr HT.out.bel m hml
      obtain ⟨c2, o2, rfl, f0, f1, f2⟩ := HB.out wr HT.out.bel m (by have := HLW.out; omega)
      have hml1 : (m : Int) < a.ws.length := by omega
      have hml2 : (m : Int) < b.ws.length := by have := HLW.out; omega
      have HSm : Hid _ := WST.out HLW.out m hml
      have HQ : Hid (m + 1 ≤ a.ws.length) := hml
      have hq := run_neq65 (a.ws.getD m dw) (b.ws.getD m dw)
      obtain ⟨z, hz⟩ : ∃ z, eqW (a.ws.getD m dw) (b.ws.getD m dw) = z := ⟨_, rfl⟩
      rw [hz] at hq HSm
      clear hz
      generalize a.ws.getD m dw = x at *
      generalize b.ws.getD m dw = u at *
      have HF : Hid (wr.cell? ⟨ba, 11, none⟩ = some (.slice (some ⟨c1, o1, none⟩) a.ws.length wc) ∧ wr.cell? ⟨bb, 11, none⟩ = some (.slice (some ⟨c2, o2, none⟩) b.ws.length xc) ∧ wr.cell? ⟨c1, o1 + m * 3, none⟩ = some (.string (bs x.key)) ∧ wr.cell? ⟨c1, o1 + m * 3 + 1, none⟩ = some (.string (bs x.val)) ∧ wr.cell? ⟨c1, o1 + m * 3 + 2, none⟩ = some (.bool x.dead) ∧ wr.cell? ⟨c2, o2 + m * 3, none⟩ = some (.string (bs u.key)) ∧ wr.cell? ⟨c2, o2 + m * 3 + 1, none⟩ = some (.string (bs u.val)) ∧ wr.cell? ⟨c2, o2 + m * 3 + 2, none⟩ = some (.bool u.dead)) := ⟨a11, b11, d0, d1, d2, f0, f1, f2⟩
      clear hlen' hlen2
      go_upto_region 6 with fail
      go_region_held3 (fun W => W.cell? ⟨ba, 11, none⟩ = some (.slice (some ⟨c1, o1, none⟩) a.ws.length wc) ∧ W.cell? ⟨bb, 11, none⟩ = some (.slice (some ⟨c2, o2, none⟩) b.ws.length xc) ∧ W.cell? ⟨c1, o1 + m * 3, none⟩ = some (.string (bs x.key)) ∧ W.cell? ⟨c1, o1 + m * 3 + 1, none⟩ = some (.string (bs x.val)) ∧ W.cell? ⟨c1, o1 + m * 3 + 2, none⟩ = some (.bool x.dead) ∧ W.cell? ⟨c2, o2 + m * 3, none⟩ = some (.string (bs u.key)) ∧ W.cell? ⟨c2, o2 + m * 3 + 1, none⟩ = some (.string (bs u.val)) ∧ W.cell? ⟨c2, o2 + m * 3 + 2, none⟩ = some (.bool u.dead))
        (exact HF.out) (fail)
      rename_i hHeld
      clear hHeld a11 b11 d0 d1 d2 f0 f1 f2 hq HF
      cases z
      · have HY : Hid (y = false) := by
          have h1 := HSm.out
          rw [HE.out] at h1
          rw [HS.out, h1]
          rfl
        go_wp2_with fail
        go_ret
        exact ⟨by rw [HY.out]; rfl, HT.out.bel.drew⟩
      · have HE1 : Hid (eqL eqW (a.ws.drop (m + 1)) (b.ws.drop (m + 1)) = eqL eqW a.ws b.ws) := by
          have h1 := HSm.out
          rw [HE.out] at h1
          rw [h1]
          rfl
        go_wp2_with fail
        go_roundw
        case rel => exact ⟨m + 1, HQ.out, by go_num, HT.out.on (Below.refl _ _).drew, HE1.out⟩
        case measure => simp [intOf]; omega
    · have hml1 : ¬ (m : Int) < a.ws.length := by omega
      have HW : Hid (eqL eqW a.ws b.ws = true) := HE.out.symm.trans (WEN.out HLW.out m (by omega))
      have HY : Hid (y = (eqL eqT a.sk b.sk && ((a.k == b.k) && (a.c == b.c && a.n == b.n) && (a.sp == b.sp && a.sl == b.sl) && (a.ap == b.ap && a.al == b.al) && (a.key == b.key) && (a.to == b.to) && (a.lim == b.lim) && (a.pt == b.pt)))) := by
        rw [HS.out, HW.out]
        rfl
      clear hlen' hlen2 b11
      go_wp2_with fail
      clear a11 HA HB WNL WST WEN WE0 HS HW HE hml hml1 hm
      go_loopw [6] (fun i wr => ∃ m : Nat, m ≤ a.sk.length ∧ i = .int .i64 m ∧ Tw w ba bb #[.int .i64 a.k, .int .u32 (a.c : Int), .int .u32 (a.n : Int), .int .u64 (a.sp : Int), .int .u32 (a.sl : Int), .int .u64 (a.ap : Int), .int .u32 (a.al : Int), .string (bs a.key), .string (bs a.to), .int .i64 a.lim, .int .u8 (a.pt : Int), .slice wa a.ws.length wc, .slice sa a.sk.length sc] #[.int .i64 b.k, .int .u32 (b.c : Int), .int .u32 (b.n : Int), .int .u64 (b.sp : Int), .int .u32 (b.sl : Int), .int .u64 (b.ap : Int), .int .u32 (b.al : Int), .string (bs b.key), .string (bs b.to), .int .i64 b.lim, .int .u8 (b.pt : Int), .slice xa b.ws.length xc, .slice ta b.sk.length tc] 31 wr ∧ eqL eqT (a.sk.drop m) (b.sk.drop m) = eqL eqT a.sk b.sk) (fun i _ => a.sk.length - (intOf i).toNat)
      case atStart => exact ⟨0, Nat.zero_le _, rfl, HT.out, KE0.out⟩
      case round =>
        obtain ⟨m, hm, rfl, ht, he⟩ := hrel
        clear HT
        have HT : Hid (Tw w ba bb #[.int .i64 a.k, .int .u32 (a.c : Int), .int .u32 (a.n : Int), .int .u64 (a.sp : Int), .int .u32 (a.sl : Int), .int .u64 (a.ap : Int), .int .u32 (a.al : Int), .string (bs a.key), .string (bs a.to), .int .i64 a.lim, .int .u8 (a.pt : Int), .slice wa a.ws.length wc, .slice sa a.sk.length sc] #[.int .i64 b.k, .int .u32 (b.c : Int), .int .u32 (b.n : Int), .int .u64 (b.sp : Int), .int .u32 (b.sl : Int), .int .u64 (b.ap : Int), .int .u32 (b.al : Int), .string (bs b.key), .string (bs b.to), .int .i64 b.lim, .int .u8 (b.pt : Int), .slice xa b.ws.length xc, .slice ta b.sk.length tc] 31 wr) := ht
        have HE : Hid (eqL eqT (a.sk.drop m) (b.sk.drop m) = eqL eqT a.sk b.sk) := he
        clear ht he
        have a12 : wr.cell? ⟨ba, 12, none⟩ = some (.slice sa a.sk.length sc) := block_cell HT.out.xa rfl
        have b12 : wr.cell? ⟨bb, 12, none⟩ = some (.slice ta b.sk.length tc) := block_cell HT.out.xb rfl
        by_cases hml : m < a.sk.length
        · obtain ⟨c1, o1, rfl, d0, d1⟩ := KA.out wr HT.out.bel m hml
          obtain ⟨c2, o2, rfl, f0, f1⟩ := KB.out wr HT.out.bel m (by have := HLK.out; omega)
          have hml1 : (m : Int) < a.sk.length := by omega
          have hml2 : (m : Int) < b.sk.length := by have := HLK.out; omega
          have HSm : Hid _ := KST.out HLK.out m hml
          have HQ : Hid (m + 1 ≤ a.sk.length) := hml
          have hq := run_neq24 (a.sk.getD m dt) (b.sk.getD m dt)
          obtain ⟨z, hz⟩ : ∃ z, eqT (a.sk.getD m dt) (b.sk.getD m dt) = z := ⟨_, rfl⟩
          rw [hz] at hq HSm
          clear hz
          generalize a.sk.getD m dt = x at *
          generalize b.sk.getD m dt = u at *
          have HF : Hid (wr.cell? ⟨ba, 12, none⟩ = some (.slice (some ⟨c1, o1, none⟩) a.sk.length sc) ∧ wr.cell? ⟨bb, 12, none⟩ = some (.slice (some ⟨c2, o2, none⟩) b.sk.length tc) ∧ wr.cell? ⟨c1, o1 + m * 2, none⟩ = some (.int .u32 (x.c : Int)) ∧ wr.cell? ⟨c1, o1 + m * 2 + 1, none⟩ = some (.int .u32 (x.n : Int)) ∧ wr.cell? ⟨c2, o2 + m * 2, none⟩ = some (.int .u32 (u.c : Int)) ∧ wr.cell? ⟨c2, o2 + m * 2 + 1, none⟩ = some (.int .u32 (u.n : Int))) := ⟨a12, b12, d0, d1, f0, f1⟩
          go_upto_region 11 with fail
          go_region_held3 (fun W => W.cell? ⟨ba, 12, none⟩ = some (.slice (some ⟨c1, o1, none⟩) a.sk.length sc) ∧ W.cell? ⟨bb, 12, none⟩ = some (.slice (some ⟨c2, o2, none⟩) b.sk.length tc) ∧ W.cell? ⟨c1, o1 + m * 2, none⟩ = some (.int .u32 (x.c : Int)) ∧ W.cell? ⟨c1, o1 + m * 2 + 1, none⟩ = some (.int .u32 (x.n : Int)) ∧ W.cell? ⟨c2, o2 + m * 2, none⟩ = some (.int .u32 (u.c : Int)) ∧ W.cell? ⟨c2, o2 + m * 2 + 1, none⟩ = some (.int .u32 (u.n : Int)))
            (exact HF.out) (fail)
          rename_i hHeld
          clear hHeld a12 b12 d0 d1 f0 f1 hq HF
          cases z
          · have HZ : Hid (y = false) := by
              have h1 := HSm.out
              rw [HE.out] at h1
              rw [HY.out, h1]
              rfl
            go_wp2_with fail
            go_ret
            exact ⟨by rw [HZ.out]; rfl, HT.out.bel.drew⟩
          · have HE1 : Hid (eqL eqT (a.sk.drop (m + 1)) (b.sk.drop (m + 1)) = eqL eqT a.sk b.sk) := by
              have h1 := HSm.out
              rw [HE.out] at h1
              rw [h1]
              rfl
            go_wp2_with fail
            go_roundw
            case rel => exact ⟨m + 1, HQ.out, by go_num, HT.out.on (Below.refl _ _).drew, HE1.out⟩
            case measure => simp [intOf]; omega
        · have hml1 : ¬ (m : Int) < a.sk.length := by omega
          have HW : Hid (eqL eqT a.sk b.sk = true) := HE.out.symm.trans (KEN.out HLK.out m (by omega))
          have HZ : Hid (y = ((a.k == b.k) && (a.c == b.c && a.n == b.n) && (a.sp == b.sp && a.sl == b.sl) && (a.ap == b.ap && a.al == b.al) && (a.key == b.key) && (a.to == b.to) && (a.lim == b.lim) && (a.pt == b.pt))) := by
            rw [HY.out, HW.out]
            rfl
          clear b12
          have p0 : wr.cell? ⟨ba, 0, none⟩ = some (.int .i64 a.k) := block_cell HT.out.xa rfl
          have p1 : wr.cell? ⟨ba, 1, none⟩ = some (.int .u32 (a.c : Int)) := block_cell HT.out.xa rfl
          have p2 : wr.cell? ⟨ba, 2, none⟩ = some (.int .u32 (a.n : Int)) := block_cell HT.out.xa rfl
          have p3 : wr.cell? ⟨ba, 3, none⟩ = some (.int .u64 (a.sp : Int)) := block_cell HT.out.xa rfl
          have p4 : wr.cell? ⟨ba, 4, none⟩ = some (.int .u32 (a.sl : Int)) := block_cell HT.out.xa rfl
          have p5 : wr.cell? ⟨ba, 5, none⟩ = some (.int .u64 (a.ap : Int)) := block_cell HT.out.xa rfl
          have p6 : wr.cell? ⟨ba, 6, none⟩ = some (.int .u32 (a.al : Int)) := block_cell HT.out.xa rfl
          have p7 : wr.cell? ⟨ba, 7, none⟩ = some (.string (bs a.key)) := block_cell HT.out.xa rfl
          have p8 : wr.cell? ⟨ba, 8, none⟩ = some (.string (bs a.to)) := block_cell HT.out.xa rfl
          have p9 : wr.cell? ⟨ba, 9, none⟩ = some (.int .i64 a.lim) := block_cell HT.out.xa rfl
          have p10 : wr.cell? ⟨ba, 10, none⟩ = some (.int .u8 (a.pt : Int)) := block_cell HT.out.xa rfl
          have q0 : wr.cell? ⟨bb, 0, none⟩ = some (.int .i64 b.k) := block_cell HT.out.xb rfl
          have q1 : wr.cell? ⟨bb, 1, none⟩ = some (.int .u32 (b.c : Int)) := block_cell HT.out.xb rfl
          have q2 : wr.cell? ⟨bb, 2, none⟩ = some (.int .u32 (b.n : Int)) := block_cell HT.out.xb rfl
          have q3 : wr.cell? ⟨bb, 3, none⟩ = some (.int .u64 (b.sp : Int)) := block_cell HT.out.xb rfl
          have q4 : wr.cell? ⟨bb, 4, none⟩ = some (.int .u32 (b.sl : Int)) := block_cell HT.out.xb rfl
          have q5 : wr.cell? ⟨bb, 5, none⟩ = some (.int .u64 (b.ap : Int)) := block_cell HT.out.xb rfl
          have q6 : wr.cell? ⟨bb, 6, none⟩ = some (.int .u32 (b.al : Int)) := block_cell HT.out.xb rfl
          have q7 : wr.cell? ⟨bb, 7, none⟩ = some (.string (bs b.key)) := block_cell HT.out.xb rfl
          have q8 : wr.cell? ⟨bb, 8, none⟩ = some (.string (bs b.to)) := block_cell HT.out.xb rfl
          have q9 : wr.cell? ⟨bb, 9, none⟩ = some (.int .i64 b.lim) := block_cell HT.out.xb rfl
          have q10 : wr.cell? ⟨bb, 10, none⟩ = some (.int .u8 (b.pt : Int)) := block_cell HT.out.xb rfl
          have e1 := run_eql24 a.c a.n b.c b.n
          have e2 := run_eql27 a.sp a.sl b.sp b.sl
          have e3 := run_eql27 a.ap a.al b.ap b.al
          have e4 := bs_beq a.key b.key
          have e5 := bs_beq a.to b.to
          have e7 := nat_beq a.pt b.pt
          obtain ⟨z0, hz0⟩ : ∃ z, (a.k == b.k) = z := ⟨_, rfl⟩
          obtain ⟨z1, hz1⟩ : ∃ z, (a.c == b.c && a.n == b.n) = z := ⟨_, rfl⟩
          obtain ⟨z2, hz2⟩ : ∃ z, (a.sp == b.sp && a.sl == b.sl) = z := ⟨_, rfl⟩
          obtain ⟨z3, hz3⟩ : ∃ z, (a.ap == b.ap && a.al == b.al) = z := ⟨_, rfl⟩
          obtain ⟨z4, hz4⟩ : ∃ z, (a.key == b.key) = z := ⟨_, rfl⟩
          obtain ⟨z5, hz5⟩ : ∃ z, (a.to == b.to) = z := ⟨_, rfl⟩
          obtain ⟨z6, hz6⟩ : ∃ z, (a.lim == b.lim) = z := ⟨_, rfl⟩
          obtain ⟨z7, hz7⟩ : ∃ z, (a.pt == b.pt) = z := ⟨_, rfl⟩
          rw [hz0, hz1, hz2, hz3, hz4, hz5, hz6, hz7] at HZ
          rw [hz1] at e1
          rw [hz2] at e2
          rw [hz3] at e3
          rw [hz4] at e4
          rw [hz5] at e5
          rw [hz7] at e7
          clear hz1 hz2 hz3 hz4 hz5 hz7
          cases z0
          · go_wp2_with fail
            go_ret
            exact ⟨by rw [HZ.out]; rfl, HT.out.bel⟩
          cases z1
          · go_wp2_with fail
            go_ret
            exact ⟨by rw [HZ.out]; rfl, HT.out.bel⟩
          cases z2
          · go_wp2_with fail
            go_ret
            exact ⟨by rw [HZ.out]; rfl, HT.out.bel⟩
          cases z3
          · go_wp2_with fail
            go_ret
            exact ⟨by rw [HZ.out]; rfl, HT.out.bel⟩
          cases z4
          · go_wp2_with fail
            go_ret
            exact ⟨by rw [HZ.out]; rfl, HT.out.bel⟩
          cases z5
          · go_wp2_with fail
            go_ret
            exact ⟨by rw [HZ.out]; rfl, HT.out.bel⟩
          cases z6
          · go_wp2_with fail
            go_ret
            exact ⟨by rw [HZ.out]; rfl, HT.out.bel⟩
          cases z7
          · go_wp2_with fail
            go_ret
            exact ⟨by rw [HZ.out]; rfl, HT.out.bel⟩
          · go_wp2_with fail
            go_ret
            exact ⟨by rw [HZ.out]; rfl, HT.out.bel⟩
end Go.Proofs.Ytmldgfepnmencaa
