/-
  Contracts of strconv.FormatUint at base 10 and of the two Text functions: a stamp's text is both parts in base 10 with a point between, whoever writes it.
-/
import Derived.Test.YtdhpcgjkhhldhaaDoorShelf
import Derived.Test.YtdhpcgjkhhldhaaDoorDec
import Derived.Test.YtdhpcgjkhhldhaaDoorNext
import Derived.Lib.QuietBelow
import Derived.Lib.Walk
import Derived.Lib.AppendIntMem
import Derived.BigCall
import Derived.BigGuard
import Derived.Lib.IndexBytes
import Derived.Deep.Draws
import Derived.Laws.Strings3
namespace Go.Proofs.YtdhpcgjkhhldhaaDoor
open Go.RowKit Go.Sort Go.Lib

theorem holds_zero0 (w : World) (T : TypeId) (nd : Nat) (hs : nd ≤ 24) : Holds (fun (b : UInt8) => Value.int .u8 (b.toNat : Int)) (w.alloc (.cells zeros24 T)) w.heap.size 0 (Array.replicate nd (0 : UInt8)) := fun j hj => by
  have hj' : j < nd := by simpa using hj
  refine ⟨?_, World.frozen?_alloc_new _ _ _ _⟩
  rw [World.cell?_alloc_new, zeros24_at _ (by omega), getElem!_pos _ j hj]
  simp

theorem fin_below (w : World) (o : Obj) (dk : Array UInt8) (k : Nat) : Below w.heap.size w ((putRow (fun (b : UInt8) => Value.int .u8 (b.toNat : Int)) (w.alloc o) w.heap.size 0 dk).drewN k) := by
  rw [alloc_eq_grow]
  obtain ⟨os', _, e⟩ := putRow_grow_new (fun (b : UInt8) => Value.int .u8 (b.toNat : Int)) w #[o] w.heap.size 0 dk (Nat.le_refl _)
  rw [e]
  exact below_regrown w (w.drawn + k) os'

/-- The library's table of powers of ten. -/
def Tab (w : World) : Prop := TabIs Tryd.prog w "internal/strconv.uint64pow10" .u64 pow10Tab

set_option maxHeartbeats 1000000 in
set_option maxRecDepth 100000 in
theorem fmt26 (u : Nat) (hu64 : u < 18446744073709551616) (w : World) (htab : Tab w) :
    Calls Tryd.prog 26 #[.int .u64 u, .int .i64 10] w fun e w' => e = .returned (.string ⟨(decDigits u).toArray⟩) ∧ Below w.heap.size w w' := by
  by_cases hs : u < 100
  · go_enter Tryd.func26, Tryd.ntmps26
    go_wp2_with (go_at_call 30; refine (Tryd.internal_strconv_small u hs _).mono ?_; rintro e w' ⟨rfl, rfl⟩)
    go_ret
    exact ⟨rfl, Below.refl _ _⟩
  · have hu1 : 1 ≤ u := by omega
    have hnd20 : nDigits u ≤ 20 := nDigits_le u 19 (by omega)
    have hal : Tryd.prog.arrayLen 59 = 24 := by kernel_rfl
    have hsl1 : ∀ W, (Instr.sliceAt 59 (.pointer (some ⟨w.heap.size, 0, none⟩)) none (some (.int .i64 (nDigits u : Int))) none).run Tryd.prog W = .ok (.slice (some ⟨w.heap.size, 0, none⟩) (nDigits u) 24) W := fun W => by
      rw [run_sliceAt_array_h W 59 ⟨w.heap.size, 0, none⟩ (by kernel_rfl) .i64 (nDigits u : Int) (by omega) (by rw [hal]; omega)]
      go_simp
    have hH0 := holds_zero0 w 59 (nDigits u) (by omega)
    have hfmt := Tryd.internal_strconv_formatBase10 w.heap.size 0 24 u (Array.replicate (nDigits u) 0) (w.alloc (.cells zeros24 59)) hH0 (by rw [Array.size_replicate]; exact lt_pow_nDigits u) hu64 (by rw [Array.size_replicate]; omega)
    rw [Array.size_replicate] at hfmt
    have HH0 := hid hH0
    clear hH0 hal
    go_enter Tryd.func26, Tryd.ntmps26
    go_wp2_with (first
      | (go_at_call 31; refine (Tryd.internal_strconv_numDigits u hu1 hu64 _ (tabIs_alloc htab _)).mono ?_; rintro e w' ⟨rfl, rfl⟩))
    refine hfmt.mono ?_
    rintro e w' ⟨rfl, k, v', dk, rfl, hF⟩
    have hcv : (convert 57 9 (.slice (some ⟨w.heap.size, 0, none⟩) (nDigits u) 24)).run Tryd.prog ((putRow (fun (b : UInt8) => Value.int .u8 (b.toNat : Int)) (w.alloc (.cells zeros24 59)) w.heap.size 0 dk).drewN k) = .ok (.string ⟨(decDigits u).toArray⟩) ((putRow (fun (b : UInt8) => Value.int .u8 (b.toNat : Int)) (w.alloc (.cells zeros24 59)) w.heap.size 0 dk).drewN k) := by
      have h := run_convert_bytes_back (P := Tryd.prog) ((putRow (fun (b : UInt8) => Value.int .u8 (b.toNat : Int)) (w.alloc (.cells zeros24 59)) w.heap.size 0 dk).drewN k) 57 9 5 ⟨w.heap.size, 0, none⟩ 24 (decDigits u) Tryd.underlying57 Tryd.underlying5 Tryd.underlying9 (fun j hj => by
        rw [row_is_numeral hF j hj, add_plain, World.cell?_drewN]
        exact cell?_putRow (fun (b : UInt8) => Value.int .u8 (b.toNat : Int)) _ w.heap.size 0 _ dk HH0.out (by rw [hF.size, Array.size_replicate]) j (by rw [hF.size]; rw [decDigits_length] at hj; exact hj))
      rw [decDigits_length] at h
      exact h
    go_wp2
    go_ret
    exact ⟨rfl, fin_below w _ dk k⟩

set_option maxHeartbeats 400000 in
theorem fmt21 (u : Nat) (hu64 : u < 18446744073709551616) (w : World) (htab : Tab w) :
    Calls Tryd.prog 21 #[.int .u64 u, .int .i64 10] w fun e w' => e = .returned (.string ⟨(decDigits u).toArray⟩) ∧ Below w.heap.size w w' := by
  go_enter Tryd.func21, Tryd.ntmps21
  go_wp2_with fail
  refine (fmt26 u hu64 _ htab).mono ?_
  rintro e w' ⟨rfl, hb⟩
  go_wp2
  go_ret
  exact ⟨rfl, hb⟩

theorem Tab.on {w w' : World} (h : Tab w) (hb : Below w.heap.size w w') : Tab w' := tabBelow_of_tabIs h w' hb
theorem Tab.al {w : World} (h : Tab w) (o : Obj) : Tab (w.alloc o) := tabIs_alloc h o

theorem str_join (x y : List UInt8) : (⟨x.toArray⟩ ++ ⟨#[46]⟩ ++ ⟨y.toArray⟩ : ByteArray) = ⟨(x ++ 46 :: y).toArray⟩ := by
  apply ByteArray.ext
  simp [ByteArray.data_append]

set_option maxHeartbeats 400000 in
theorem text16 (p l : Nat) (hp : p < 18446744073709551616) (hl : l < 4294967296) (w : World) (htab : Tab w) :
    Calls Tryd.prog 16 #[.agg #[.int .u64 p, .int .u32 l]] w fun e w' => e = .returned (.string ⟨(textL p l).toArray⟩) ∧ Below w.heap.size w w' := by
  have dp : (decDigits p).length ≤ 20 := by rw [decDigits_length]; exact nDigits_le p 19 (by omega)
  have dl : (decDigits l).length ≤ 20 := by rw [decDigits_length]; exact nDigits_le l 19 (by omega)
  have n1 : ¬ 9223372036854775807 < (decDigits p).length + 1 := by omega
  have n2 : ¬ 9223372036854775807 < (decDigits p).length + 1 + (decDigits l).length := by omega
  have hwr : IntKind.u64.wrap (l : Int) = (l : Int) := by rw [IntKind.wrap_u64]; omega
  have HT : Hid (Tab (w.alloc (.cells #[.int .u64 p, .int .u32 l] 25))) := Tab.al htab _
  go_enter Tryd.func16, Tryd.ntmps16
  go_wp2
  have k0 := cell_regrown (w := w.alloc (.cells #[.int .u64 p, .int .u32 l] 25)) (a := ⟨w.heap.size, 0, none⟩) (v := .int .u64 p) (by simp [go_sem])
  have k1 := cell_regrown (w := w.alloc (.cells #[.int .u64 p, .int .u32 l] 25)) (a := ⟨w.heap.size, 1, none⟩) (v := .int .u32 l) (by simp [go_sem])
  have cP : Hid (∀ d os, Calls Tryd.prog 21 #[.int .u64 p, .int .i64 10] (grow (redrawn (w.alloc (.cells #[.int .u64 p, .int .u32 l] 25)) d) os) fun e w'' => e = .returned (.string ⟨(decDigits p).toArray⟩) ∧ ∃ q : Regrown, w'' = grow (redrawn (w.alloc (.cells #[.int .u64 p, .int .u32 l] 25)) q.d) q.os) := fun d os => Calls.regrown_of (fmt21 p hp _ (HT.out.on (below_regrown _ d os)))
  have cL : Hid (∀ d os, Calls Tryd.prog 21 #[.int .u64 l, .int .i64 10] (grow (redrawn (w.alloc (.cells #[.int .u64 p, .int .u32 l] 25)) d) os) fun e w'' => e = .returned (.string ⟨(decDigits l).toArray⟩) ∧ ∃ q : Regrown, w'' = grow (redrawn (w.alloc (.cells #[.int .u64 p, .int .u32 l] 25)) q.d) q.os) := fun d os => Calls.regrown_of (fmt21 l (by omega) _ (HT.out.on (below_regrown _ d os)))
  refine wp_region_quiet_below (by kernel_rfl) (by kernel_rfl) ?_
  quiet_step (fail)
  quiet_step (fail)
  quiet_step (exact cP.out _ _)
  quiet_step (fail)
  quiet_step (fail)
  quiet_step (fail)
  quiet_step (fail)
  quiet_step (exact cL.out _ _)
  quiet_step (fail)
  quiet_step (fail)
  refine wpQuiet_nil ?_
  intro _ hw'
  obtain ⟨⟨dq, osq⟩, hw''⟩ := hw'
  subst hw''
  go_wp2
  go_ret
  refine ⟨?_, ((Below.refl _ _).alloc (Nat.le_refl _) _).trans ((below_regrown _ dq osq).mono (by simp))⟩
  unfold textL
  rw [← str_join]
  rfl

/-- The byte of a digit. -/
def digC (k : Nat) : UInt8 := UInt8.ofNat (48 + k)
theorem dec_step (u : Nat) (h : ¬ u < 10) : (⟨(decDigits (u / 10)).toArray⟩ ++ ⟨#[digC (u % 10)]⟩ : ByteArray) = ⟨(decDigits u).toArray⟩ := by
  rw [dec_big h]
  apply ByteArray.ext
  simp [ByteArray.data_append, digC]

theorem dec_bnd (u : Nat) (h : u < 18446744073709551616) : (decDigits u).length ≤ 20 := by
  rw [decDigits_length]; exact nDigits_le u 19 (by omega)

set_option maxHeartbeats 400000 in
theorem digits25 (u : Nat) : ∀ (_hu64 : u < 18446744073709551616) (w : World),
    Calls Tryd.prog 25 #[.int .u64 u] w fun e w' => e = .returned (.string ⟨(decDigits u).toArray⟩) ∧ Below w.heap.size w w' := by
  induction u using Nat.strongRecOn with
  | ind u ih =>
    intro hu64 w
    have hcv : (convert 57 9 (.slice (some ⟨w.heap.size, 0, none⟩) 1 1)).run Tryd.prog (w.alloc (.cells #[.int .u8 (48 + (u : Int) % 10)] 5)) = .ok (.string ⟨#[digC (u % 10)]⟩) (w.alloc (.cells #[.int .u8 (48 + (u : Int) % 10)] 5)) := by
      refine run_convert_bytes_back (P := Tryd.prog) (w.alloc (.cells #[.int .u8 (48 + (u : Int) % 10)] 5)) 57 9 5 ⟨w.heap.size, 0, none⟩ 1 [digC (u % 10)] Tryd.underlying57 Tryd.underlying5 Tryd.underlying9 (fun j hj => ?_)
      have hj0 : j = 0 := by simp at hj; exact hj
      subst hj0
      rw [add_plain]
      have e : (((digC (u % 10)).toNat : Nat) : Int) = 48 + (u : Int) % 10 := by unfold digC; rw [dig_ofNat _ (by omega)]; omega
      simp [go_sem]
      exact e.symm
    by_cases h : u < 10
    · clear ih
      go_enter Tryd.func25, Tryd.ntmps25
      go_wp2
      go_ret
      refine ⟨?_, (Below.refl _ _).alloc (Nat.le_refl _) _⟩
      have e : u % 10 = u := by omega
      have e2 : decDigits u = [digC (u % 10)] := by rw [decDigits_one h, e]; rfl
      rw [e2]
      first | rfl | (rw [e]; rfl)
    · have IH : Hid (∀ m, m < u → ∀ (_hu64 : m < 18446744073709551616) (w : World), Calls Tryd.prog 25 #[.int .u64 m] w fun e w' => e = .returned (.string ⟨(decDigits m).toArray⟩) ∧ Below w.heap.size w w') := ih
      clear ih
      have hd := dec_bnd (u / 10) (by omega)
      have n1 : ¬ 9223372036854775807 < (decDigits (u / 10)).length + 1 := by omega
      go_enter Tryd.func25, Tryd.ntmps25
      go_wp2_with fail
      rw [show ((u : Int) / 10) = ((u / 10 : Nat) : Int) by omega]
      refine (IH.out (u / 10) (by omega) (by omega) _).mono ?_
      rintro e w' ⟨rfl, hb⟩
      go_wp2
      go_ret
      refine ⟨?_, ((Below.refl _ _).alloc (Nat.le_refl _) _).trans (hb.mono (by simp))⟩
      rw [← dec_step u h]
      rfl

set_option maxHeartbeats 400000 in
theorem text19 (p l : Nat) (hp : p < 18446744073709551616) (hl : l < 4294967296) (w : World) :
    Calls Tryd.prog 19 #[.agg #[.int .u64 p, .int .u32 l]] w fun e w' => e = .returned (.string ⟨(textL p l).toArray⟩) ∧ Below w.heap.size w w' := by
  have dp := dec_bnd p hp
  have dl := dec_bnd l (by omega)
  have n1 : ¬ 9223372036854775807 < (decDigits p).length + 1 := by omega
  have n2 : ¬ 9223372036854775807 < (decDigits p).length + 1 + (decDigits l).length := by omega
  have hwr : IntKind.u64.wrap (l : Int) = (l : Int) := by rw [IntKind.wrap_u64]; omega
  go_enter Tryd.func19, Tryd.ntmps19
  go_wp2
  have k0 := cell_regrown (w := w.alloc (.cells #[.int .u64 p, .int .u32 l] 25)) (a := ⟨w.heap.size, 0, none⟩) (v := .int .u64 p) (by simp [go_sem])
  have k1 := cell_regrown (w := w.alloc (.cells #[.int .u64 p, .int .u32 l] 25)) (a := ⟨w.heap.size, 1, none⟩) (v := .int .u32 l) (by simp [go_sem])
  have cP : Hid (∀ d os, Calls Tryd.prog 25 #[.int .u64 p] (grow (redrawn (w.alloc (.cells #[.int .u64 p, .int .u32 l] 25)) d) os) fun e w'' => e = .returned (.string ⟨(decDigits p).toArray⟩) ∧ ∃ q : Regrown, w'' = grow (redrawn (w.alloc (.cells #[.int .u64 p, .int .u32 l] 25)) q.d) q.os) := fun d os => Calls.regrown_of (digits25 p hp _)
  have cL : Hid (∀ d os, Calls Tryd.prog 25 #[.int .u64 l] (grow (redrawn (w.alloc (.cells #[.int .u64 p, .int .u32 l] 25)) d) os) fun e w'' => e = .returned (.string ⟨(decDigits l).toArray⟩) ∧ ∃ q : Regrown, w'' = grow (redrawn (w.alloc (.cells #[.int .u64 p, .int .u32 l] 25)) q.d) q.os) := fun d os => Calls.regrown_of (digits25 l (by omega) _)
  refine wp_region_quiet_below (by kernel_rfl) (by kernel_rfl) ?_
  quiet_step (fail)
  quiet_step (fail)
  quiet_step (exact cP.out _ _)
  quiet_step (fail)
  quiet_step (fail)
  quiet_step (fail)
  quiet_step (fail)
  quiet_step (exact cL.out _ _)
  quiet_step (fail)
  quiet_step (fail)
  refine wpQuiet_nil ?_
  intro _ hw'
  obtain ⟨⟨dq, osq⟩, hw''⟩ := hw'
  subst hw''
  go_wp2
  go_ret
  refine ⟨?_, ((Below.refl _ _).alloc (Nat.le_refl _) _).trans ((below_regrown _ dq osq).mono (by simp))⟩
  unfold textL
  rw [← str_join]
  rfl

set_option maxHeartbeats 1000000 in
set_option maxRecDepth 100000 in
/-- Cut at a point, whatever the text's length. -/
theorem cut27 (s : ByteArray) (w : World) (hs : s.size ≤ 140737488355328) :
    Calls Tryd.prog 27 #[.string s, .string ⟨#[46]⟩] w fun e w' => e = .returned (.tuple #[.string ⟨(cut s.data.toList [46]).1.toArray⟩, .string ⟨(cut s.data.toList [46]).2.1.toArray⟩, .bool (cut s.data.toList [46]).2.2]) ∧ ∃ n, w' = w.drewN n := by
  have hone := index_one s.data.toList 46
  rcases indexB_cases s ⟨#[46]⟩ with hix | ⟨i, hix, hroom⟩
  · obtain ⟨e1, e2, e3⟩ := cutB_miss s ⟨#[46]⟩ hix
    have hix' : indexByte s.data.toList 46 = -1 := hone.symm.trans hix
    rw [show (({ data := #[46] } : ByteArray).data.toList) = [46] from rfl] at e1 e2 e3
    rw [e1, e2, e3]
    clear e1 e2 e3 hone hix
    have HI := hid hix'
    clear hix'
    go_enter Tryd.func27, Tryd.ntmps27
    go_wp2_with fail
    refine (Tryd.stringslite_Index_one s 46 _).mono ?_
    rw [HI.out]
    rintro e w' ⟨rfl, rfl⟩
    go_wp2
    go_ret3
    exact ⟨rfl, 0, rfl⟩
  · obtain ⟨e1, e2, e3⟩ := cutB_hit s ⟨#[46]⟩ i hix
    have hix' : indexByte s.data.toList 46 = (i : Int) := hone.symm.trans hix
    rw [show (({ data := #[46] } : ByteArray).data.toList) = [46] from rfl] at e1 e2 e3
    have hroom' : i + 1 ≤ s.size := hroom
    rw [e1, e2, e3]
    clear e1 e2 e3 hone hix hroom
    have HI := hid hix'
    clear hix'
    have c1 : (0 : Int) ≤ ↑i := by omega
    have c2 : (↑i : Int) ≤ ↑s.size := by omega
    have c3 : (0 : Int) ≤ ↑i + 1 := by omega
    have c4 : (↑i + 1 : Int) ≤ ↑s.size := by omega
    go_enter Tryd.func27, Tryd.ntmps27
    go_wp2_with fail
    refine (Tryd.stringslite_Index_one s 46 _).mono ?_
    rw [HI.out]
    rintro e w' ⟨rfl, rfl⟩
    go_wp2
    go_region
    go_wp2
    go_ret3
    exact ⟨rfl, 1, rfl⟩

set_option maxHeartbeats 400000 in
theorem cut22 (s : ByteArray) (w : World) (hs : s.size ≤ 140737488355328) :
    Calls Tryd.prog 22 #[.string s, .string ⟨#[46]⟩] w fun e w' => e = .returned (.tuple #[.string ⟨(cut s.data.toList [46]).1.toArray⟩, .string ⟨(cut s.data.toList [46]).2.1.toArray⟩, .bool (cut s.data.toList [46]).2.2]) ∧ ∃ n, w' = w.drewN n := by
  go_enter Tryd.func22, Tryd.ntmps22
  go_wp2_with fail
  refine (cut27 s _ hs).mono ?_
  rintro e w' ⟨rfl, n, rfl⟩
  go_wp2
  go_ret3
  exact ⟨rfl, n, rfl⟩
end Go.Proofs.YtdhpcgjkhhldhaaDoor
