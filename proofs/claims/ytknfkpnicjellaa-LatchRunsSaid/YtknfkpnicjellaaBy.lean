/-
  The document's table: By, Same.
-/
import Derived.Test.YtknfkpnicjellaaIr
namespace Go.Proofs.Ytknfkpnicjellaa
open Go.RowKit

theorem own_nil (base e size : Nat) (w : World) : w.ownsRow base e size (.slice none 0 0) 0 [] := World.ownsRow_nil w base e size
theorem below_own {base e size : Nat} {v : Value} {n : Nat} {cs : List Value} {a w w' : World} (hb : Below base a w) (hs : base ≤ w.heap.size) (hI : w.ownsRow base e size v n cs) (hg : w.grownBy w' v.ownBlock) : Below base a w' :=
  hb.grown hg hs fun k hk => (World.ownsRow.lt hI k hk).1
theorem info49 : (Try.prog.info? 49).map (fun i => (i.zero, i.size, i.bytes)) = some (some (.agg #[.int .u32 0, .int .u32 0, .int .u64 0, .int .u32 0, .int .u64 0, .int .u32 0, .string ⟨#[]⟩, .string ⟨#[]⟩, .string ⟨#[]⟩, .bool false]), 10, 96) := by kernel_rfl
theorem run_eql32 (p l q m : Int) (w : World) : (binOp .eql 32 (.agg #[.int .u32 p, .int .u32 l]) (.agg #[.int .u32 q, .int .u32 m])).run Try.prog w = .ok (.bool (p == q && l == m)) w := by
  by_cases h : p = q <;> by_cases h2 : l = m <;> simp [go_sem, h, h2]
theorem in_ow {base n : Nat} {sa : Option Addr} {sc : Nat} {l : Tb} {w : World} (x : List UInt8 × Ii) (ho : w.ownsRow base 49 10 (.slice sa n sc) n (rowC inc l)) (hb : base ≤ w.heap.size) (hl : n < 1000000) :
    Ow base 49 10 (.slice sa n sc) n (rowC inc l) (w.heap.size + 1) (.slice (some ⟨w.heap.size, 0, none⟩) 1 1) 1 (rowC inc [x]) (w.alloc (.cells (inc x).toArray 49)) :=
  ⟨World.ownsRow.alloc ho _, row_one inc 10 inc_len x 49 w (fun j u hj => block_cell (heap_alloc_new w _) (by simpa using hj)), rowC_cells inc inc_one _, Nat.le_trans hb (by simp), by omega⟩

set_option maxHeartbeats 800000 in
theorem by22 (B rb : Nat) (sl : Value) (T : Tb) (c n : Int) (w : World) (h : RtAt B rb sl T w) (hl : T.length < 100000) :
    Calls Try.prog 22 #[.pointer (some ⟨rb, 0, none⟩), .agg #[.int .u32 c, .int .u32 n]] w fun e w' => ∃ v', e = .returned v' ∧ w'.ownsRow w.heap.size 49 10 v' (byF c n T).length (rowC inc (byF c n T)) ∧ Below w.heap.size w w' := by
  obtain ⟨i0, hin, hi0, hi1, hi2⟩ := info_parts info49
  obtain ⟨ao, cap, rfl, hlc, hcm⟩ := h.is.shape
  have HR : Hid (RtAt B rb (.slice ao T.length cap) T w) := h
  have c0 := h.cell
  have hL9 : T.length < 9223372036854775808 := by omega
  clear h hlc hcm
  go_enter Try.func22, Try.ntmps22
  go_wp2_with fail
  obtain ⟨W0, hW0⟩ : ∃ W0, w.alloc (.cells #[.int .u32 c, .int .u32 n] 32) = W0 := ⟨_, rfl⟩
  have HB0 : Hid (W0.heap[w.heap.size]? = some (.cells #[.int .u32 c, .int .u32 n] 32 (0, 0)) ∧ Below w.heap.size w W0) := by rw [← hW0]; exact ⟨heap_alloc_new w _, al _⟩
  rw [hW0]
  obtain ⟨bx, hbx⟩ : ∃ bx, w.heap.size = bx := ⟨_, rfl⟩
  have HBX : Hid (w.heap.size = bx) := hbx
  have HEW : Hid (∀ W, Below W0.heap.size W0 W → W.cell? ⟨w.heap.size, 0, none⟩ = some (.int .u32 c) ∧ W.cell? ⟨w.heap.size, 1, none⟩ = some (.int .u32 n) ∧ W.cell? ⟨rb, 0, none⟩ = some (.slice ao T.length cap) ∧ ∀ i, i < T.length → ∃ b off, ao = some ⟨b, off, none⟩ ∧ InAt W b (off + i * 10) (T.getD i di)) := fun W hb => by
    have hx : W.heap[w.heap.size]? = some (.cells #[.int .u32 c, .int .u32 n] 32 (0, 0)) := by rw [hb.block _ (Array.getElem?_eq_some_iff.1 HB0.out.1).1]; exact HB0.out.1
    have hr := (HR.out.on HB0.out.2).on hb
    exact ⟨block_cell hx rfl, block_cell hx rfl, hr.cell, fun i hi => hr.is.el hi⟩
  rw [hbx] at HEW ⊢
  clear hW0 hbx c0 HR
  go_loopw [5, 6] (fun vv i wr => ∃ m : Nat, m ≤ T.length ∧ i = .int .i64 m ∧ wr.ownsRow W0.heap.size 49 10 vv (byF c n (T.take m)).length (rowC inc (byF c n (T.take m))) ∧ Below W0.heap.size W0 wr) (fun _ i _ => T.length - (intOf i).toNat)
  case atStart => exact ⟨0, Nat.zero_le _, rfl, own_nil _ _ _ _, Below.refl _ _⟩
  case round =>
    obtain ⟨m, hm, rfl, hown, hbr⟩ := hrel
    obtain ⟨sa, sc, rfl, -, -, -, -⟩ := rw_own hown
    have HO : Hid _ := hown
    have HB : Hid (Below W0.heap.size W0 wr) := hbr
    obtain ⟨x0, x1, d0, hel⟩ := HEW.out wr hbr
    clear hown hbr
    by_cases hml : m < T.length
    · obtain ⟨b, off, rfl, e0, e1, e2, e3, e4, e5, e6, e7, e8, e9⟩ := hel m hml
      have hml' : (m : Int) < T.length := by omega
      have hst := by_snoc (c := c) (n := n) hml
      have hln : (byF c n (T.take m)).length < 100000 := by have h1 := len_by c n (T.take m); have h2 := List.length_take_le m T; omega
      obtain ⟨R, hR⟩ : ∃ R, byF c n (T.take m) = R := ⟨_, rfl⟩
      obtain ⟨R1, hR1⟩ : ∃ R1, byF c n (T.take (m + 1)) = R1 := ⟨_, rfl⟩
      rw [hR] at HO hst hln
      rw [hR1] at hst
      have HR1 : Hid (byF c n (T.take (m + 1)) = R1) := hR1
      rw [hR]
      clear hR hR1 hel
      generalize T.getD m di = x at *
      obtain ⟨a, s⟩ := x
      dsimp only at e0 e1 e2 e3 e4 e5 e6 e7 e8 e9 hst
      have hq := run_eql32 s.c s.n c n
      have HF : Hid (wr.cell? ⟨bx, 0, none⟩ = some (.int .u32 c) ∧ wr.cell? ⟨bx, 1, none⟩ = some (.int .u32 n) ∧ wr.cell? ⟨rb, 0, none⟩ = some (.slice (some ⟨b, off, none⟩) T.length cap) ∧ wr.cell? ⟨b, off + m * 10, none⟩ = some (.int .u32 s.c) ∧ wr.cell? ⟨b, off + m * 10 + 1, none⟩ = some (.int .u32 s.n)) := ⟨x0, x1, d0, e0, e1⟩
      have HI : Hid (InAt wr.drew b (off + m * 10) (a, s) ∧ wr.drew.cell? ⟨rb, 0, none⟩ = some (.slice (some ⟨b, off, none⟩) T.length cap)) := ⟨⟨e0, e1, e2, e3, e4, e5, e6, e7, e8, e9⟩, d0⟩
      have HBd : Hid (Below W0.heap.size W0 wr.drew) := HB.out.drew
      have HOd : Hid (wr.drew.ownsRow W0.heap.size 49 10 (.slice sa R.length sc) R.length (rowC inc R)) := HO.out
      have HGo : Hid (∀ z : Bool, (s.c == c && s.n == n) = z → ofBy c n s = z) := fun z h => h
      generalize hz : (s.c == c && s.n == n) = z at hq
      have hof := HGo.out z hz
      clear e2 e3 e4 e5 e6 e7 e8 e9 hz HGo HO HB
      go_upto_region 5 with fail
      go_region_held3 (fun W => W.cell? ⟨bx, 0, none⟩ = some (.int .u32 c) ∧ W.cell? ⟨bx, 1, none⟩ = some (.int .u32 n) ∧ W.cell? ⟨rb, 0, none⟩ = some (.slice (some ⟨b, off, none⟩) T.length cap) ∧ W.cell? ⟨b, off + m * 10, none⟩ = some (.int .u32 s.c) ∧ W.cell? ⟨b, off + m * 10 + 1, none⟩ = some (.int .u32 s.n))
        (exact HF.out) (fail)
      rename_i hHeld
      clear hHeld x0 x1 d0 e0 e1 hq HF
      generalize wr.drew = wd at *
      obtain ⟨⟨e0, e1, e2, e3, e4, e5, e6, e7, e8, e9⟩, d0⟩ := HI.out
      dsimp only at e0 e1 e2 e3 e4 e5 e6 e7 e8 e9
      have HB : Hid (Below W0.heap.size W0 wd) := HBd.out
      have HO : Hid (wd.ownsRow W0.heap.size 49 10 (.slice sa R.length sc) R.length (rowC inc R)) := HOd.out
      clear HBd HOd HI
      cases z
      · rw [if_neg (by rw [hof]; simp)] at hst
        have HS : Hid (R1 = R) := by show _ = _; rw [hst, List.append_nil]
        clear hst hof
        go_wp2_with fail
        go_roundw
        case rel => exact ⟨m + 1, by omega, by go_num, by rw [HR1.out, HS.out]; exact HO.out, HB.out⟩
        case measure => simp [intOf]; omega
      · rw [if_pos hof] at hst
        have HS : Hid (R1 = R ++ [(a, s)]) := hst
        have HOw : Hid (Ow W0.heap.size 49 10 (.slice sa R.length sc) R.length (rowC inc R) (wd.heap.size + 1) (.slice (some ⟨wd.heap.size, 0, none⟩) 1 1) 1 (rowC inc [(a, s)]) (wd.alloc (.cells #[.int .u32 s.c, .int .u32 s.n, .int .u64 s.sp, .int .u32 s.sl, .int .u64 s.mp, .int .u32 s.ml, .string (bs s.prim), .string (bs a), .string (bs s.val), .bool s.dead] 49))) := in_ow (a, s) HO.out HB.out.size (by omega)
        clear hst hof
        go_wp2_with (at_builtin; refine wpList_append_rw HOw.out Try.underlying27 hin hi0 hi1 hi2 rfl (by decide) (by decide) (.tmp 26) (.tmp 34) rfl rfl rfl rfl ?_)
        intro v' w4 hown hg hat
        have HB4 : Hid (Below W0.heap.size W0 w4) := below_own (HB.out.alloc HB.out.size _) HOw.out.size HOw.out.own hg
        obtain ⟨sa4, sc4, rfl, -, -, -, -⟩ := rw_own hown
        have HO4 : Hid (w4.ownsRow W0.heap.size 49 10 (.slice sa4 (R.length + 1) sc4) (R ++ [(a, s)]).length (rowC inc (R ++ [(a, s)]))) := by
          rw [rowC_append, List.length_append]
          exact hown
        clear hown hg hat HOw d0 e0 e1 e2 e3 e4 e5 e6 e7 e8 e9
        go_wp2_with fail
        go_roundw
        case rel => exact ⟨m + 1, by omega, by go_num, by rw [HR1.out, HS.out]; exact HO4.out, HB4.out⟩
        case measure => simp [intOf]; omega
    · have hml' : ¬ (m : Int) < T.length := by omega
      have HZ : Hid (byF c n T = byF c n (T.take m)) := by show _ = _; rw [List.take_of_length_le (by omega)]
      have HBw : Hid (Below w.heap.size w wr) := HB0.out.2.trans (HB.out.mono HB0.out.2.size)
      have HOw : Hid (wr.ownsRow w.heap.size 49 10 (.slice sa (byF c n (T.take m)).length sc) (byF c n (T.take m)).length (rowC inc (byF c n (T.take m)))) := own_le HO.out HB0.out.2.size
      clear hel
      go_wp2_with fail
      rw [HZ.out]
      go_ret
      exact ⟨_, rfl, HOw.out, HBw.out⟩
end Go.Proofs.Ytknfkpnicjellaa
