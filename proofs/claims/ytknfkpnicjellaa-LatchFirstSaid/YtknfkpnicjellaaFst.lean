/-
  The document's table: First.
-/
import Derived.Test.YtknfkpnicjellaaRse
namespace Go.Proofs.Ytknfkpnicjellaa
open Go.RowKit

/-- What First answers. -/
def fsV : Option (List UInt8 × Ii) → Value
  | some x => .tuple #[inV x, .bool true]
  | none => .tuple #[inV ([], zi), .bool false]
/-- First's boxes: the reader's stamp, the answer. -/
structure Fb (bx : Nat) (ap aq : Int) (w W : World) : Prop where
  b0 : W.heap[bx]? = some (.cells #[.int .u64 ap, .int .u32 aq] 35 (0, 0))
  b1 : W.heap[bx + 1]? = some (.cells #[.int .u32 0, .int .u32 0, .int .u64 0, .int .u32 0, .int .u64 0, .int .u32 0, .string ⟨#[]⟩, .string ⟨#[]⟩, .string ⟨#[]⟩, .bool false] 49 (0, 0))
  bel : Below bx w W
theorem Fb.on {bx : Nat} {ap aq : Int} {w W W' : World} (h : Fb bx ap aq w W) (e : w.heap.size = bx) (hb : Below W.heap.size W W') : Fb bx ap aq w W' :=
  ⟨by rw [hb.block bx (Array.getElem?_eq_some_iff.1 h.b0).1]; exact h.b0, by rw [hb.block (bx + 1) (Array.getElem?_eq_some_iff.1 h.b1).1]; exact h.b1, bel_on e h.bel hb⟩
theorem Fb.two {bx : Nat} {ap aq : Int} {w W : World} (h : Fb bx ap aq w W) : W.cell? ⟨bx, 0, none⟩ = some (.int .u64 ap) ∧ W.cell? ⟨bx, 1, none⟩ = some (.int .u32 aq) := ⟨block_cell h.b0 rfl, block_cell h.b0 rfl⟩
theorem in_new (w : World) (k : List UInt8) (x : Ii) : InAt (w.alloc (.cells #[.int .u32 x.c, .int .u32 x.n, .int .u64 x.sp, .int .u32 x.sl, .int .u64 x.mp, .int .u32 x.ml, .string (bs x.prim), .string (bs k), .string (bs x.val), .bool x.dead] 49)) w.heap.size 0 (k, x) := by
  have hc := heap_alloc_new w (.cells #[.int .u32 x.c, .int .u32 x.n, .int .u64 x.sp, .int .u32 x.sl, .int .u64 x.mp, .int .u32 x.ml, .string (bs x.prim), .string (bs k), .string (bs x.val), .bool x.dead] 49)
  exact ⟨block_cell hc rfl, block_cell hc rfl, block_cell hc rfl, block_cell hc rfl, block_cell hc rfl, block_cell hc rfl, block_cell hc rfl, block_cell hc rfl, block_cell hc rfl, block_cell hc rfl⟩

set_option maxHeartbeats 3200000 in
set_option maxRecDepth 100000 in
theorem first18 (B rb : Nat) (s0 : Value) (T : Tb) (lo hi : List UInt8) (ap aq : Int) (but : List (Int × Int)) (v : Value) (w : World) (h : RtAt B rb s0 T w) (hv : TsAt B v but w) (hl : T.length < 100000) :
    Calls Try.prog 18 #[.pointer (some ⟨rb, 0, none⟩), .string (bs lo), .string (bs hi), .agg #[.int .u64 ap, .int .u32 aq], v] w fun e w' => e = .returned (fsV (firstF lo hi ap aq but T)) ∧ Below w.heap.size w w' := by
  obtain ⟨ao, cap, rfl, hlc, hcm⟩ := h.is.shape
  obtain ⟨va, vc, rfl, -, -⟩ := hv.shape
  have hBw : B ≤ w.heap.size := by have := (h.lt (.inl rfl)); omega
  have H : Hid (RtAt B rb (.slice ao T.length cap) T w) := h
  have CA : Hid (∀ c n W, Below w.heap.size w W → Calls Try.prog 46 #[.slice va but.length vc, .agg #[.int .u32 c, .int .u32 n]] W fun e w' => e = .returned (.bool (but.contains (c, n))) ∧ Below W.heap.size W w') := fun c n W hW => among41 B but _ c n W (RwAt.on hv (hW.mono hBw)) (Nat.le_trans hBw hW.size)
  have CL : Hid (∀ mp ml W, Calls Try.prog 45 #[.agg #[.int .u64 ap, .int .u32 aq], .agg #[.int .u64 mp, .int .u32 ml]] W fun e w' => e = .returned (.bool (lessB ap aq mp ml)) ∧ Below W.heap.size W w') := fun mp ml W => lessR ap aq mp ml W
  have HSt : Hid (∀ m, m < T.length → firstN (standsB lo hi ap aq but) T m = none → firstN (standsB lo hi ap aq but) T (m + 1) = if standsB lo hi ap aq but (T.getD m di) then some (T.getD m di) else none) := fun m hm h0 => by rw [firstN_step hm, h0]
  have HAt : Hid (∀ m, m < T.length → firstN (standsB lo hi ap aq but) T m = none → standsB lo hi ap aq but (T.getD m di) = true → firstF lo hi ap aq but T = some (T.getD m di)) := fun m hm h0 h1 => first_at hm h0 h1
  have HEnd : Hid (∀ m, T.length ≤ m → firstN (standsB lo hi ap aq but) T m = firstF lo hi ap aq but T) := fun m hm => firstN_end hm
  have H0 : Hid (firstN (standsB lo hi ap aq but) T 0 = none) := rfl
  have HX : Hid (Fb w.heap.size ap aq w ((w.alloc (.cells #[.int .u64 ap, .int .u32 aq] 35)).alloc (.cells #[.int .u32 0, .int .u32 0, .int .u64 0, .int .u32 0, .int .u64 0, .int .u32 0, .string ⟨#[]⟩, .string ⟨#[]⟩, .string ⟨#[]⟩, .bool false] 49))) := by
    obtain ⟨h1, h2, h3⟩ := two_boxes w (.cells #[.int .u64 ap, .int .u32 aq] 35) (.cells #[.int .u32 0, .int .u32 0, .int .u64 0, .int .u32 0, .int .u64 0, .int .u32 0, .string ⟨#[]⟩, .string ⟨#[]⟩, .string ⟨#[]⟩, .bool false] 49)
    exact ⟨h1, h2, h3⟩
  generalize firstF lo hi ap aq but T = Y at *
  have hL9 : T.length < 100000 := hl
  clear h hv hlc hcm hBw hl
  go_enter Try.func18, Try.ntmps18
  go_wp2_with fail
  obtain ⟨W0, hW0⟩ : ∃ W0, ((w.alloc (.cells #[.int .u64 ap, .int .u32 aq] 35)).alloc (.cells #[.int .u32 0, .int .u32 0, .int .u64 0, .int .u32 0, .int .u64 0, .int .u32 0, .string ⟨#[]⟩, .string ⟨#[]⟩, .string ⟨#[]⟩, .bool false] 49)) = W0 := ⟨_, rfl⟩
  rw [hW0] at HX ⊢
  clear hW0
  obtain ⟨bx, hbx⟩ : ∃ bx, w.heap.size = bx := ⟨_, rfl⟩
  have HBX : Hid (w.heap.size = bx) := hbx
  rw [hbx] at HX CA ⊢
  clear hbx
  go_loopw [12] (fun i wr => Fb bx ap aq w wr ∧ ∃ m : Nat, m ≤ T.length ∧ i = .int .i64 m ∧ firstN (standsB lo hi ap aq but) T m = none) (fun i _ => T.length - (intOf i).toNat)
  case atStart => exact ⟨HX.out, 0, Nat.zero_le _, rfl, H0.out⟩
  case round =>
    obtain ⟨hfb, m, hm, rfl, hno⟩ := hrel
    have HB : Hid (Fb bx ap aq w wr) := hfb
    have HR : Hid (RtAt B rb (.slice ao T.length cap) T wr) := H.out.on (by rw [HBX.out]; exact hfb.bel)
    have d0 := HR.out.cell
    have HNo : Hid (firstN (standsB lo hi ap aq but) T m = none) := hno
    clear hfb hno HX
    by_cases hml : m < T.length
    · obtain ⟨b, off, rfl, e0, e1, e2, e3, e4, e5, e6, e7, e8, e9⟩ := HR.out.is.el hml
      have hml' : (m : Int) < T.length := by omega
      have HSm : Hid _ := HSt.out m hml HNo.out
      have HAm : Hid _ := HAt.out m hml HNo.out
      generalize T.getD m di = x at *
      obtain ⟨a, s⟩ := x
      dsimp only at e0 e1 e2 e3 e4 e5 e6 e7 e8 e9
      have HI : Hid (InAt (wr.alloc (.cells #[.int .u32 s.c, .int .u32 s.n, .int .u64 s.sp, .int .u32 s.sl, .int .u64 s.mp, .int .u32 s.ml, .string (bs s.prim), .string (bs a), .string (bs s.val), .bool s.dead] 49)) wr.heap.size 0 (a, s) ∧ Fb bx ap aq w (wr.alloc (.cells #[.int .u32 s.c, .int .u32 s.n, .int .u64 s.sp, .int .u32 s.sl, .int .u64 s.mp, .int .u32 s.ml, .string (bs s.prim), .string (bs a), .string (bs s.val), .bool s.dead] 49))) := ⟨in_new wr a s, HB.out.on HBX.out (al _)⟩
      have q1 := bl a lo
      have q2 := bl lo a
      have q3 := bl a hi
      have q4 : (bs hi).toList.isEmpty = hi.isEmpty := by rw [bs_list]
      have q5 := bs_beq a lo
      have CL1 : Hid (∀ W, _) := fun W => CL.out s.mp s.ml W
      have CA1 : Hid (∀ W, Below bx w W → _) := fun W hW => CA.out s.c s.n W hW
      have HSb : Hid (standsB lo hi ap aq but (a, s) = ((!ltK a lo && (hi.isEmpty || ltK a hi)) && !lessB ap aq s.mp s.ml && !but.contains (s.c, s.n))) := by
        show (inR lo hi a && !ltT ap aq s.mp s.ml && !but.contains (s.c, s.n)) = _
        rw [lt_less]
        rfl
      generalize standsB lo hi ap aq but (a, s) = sb at *
      generalize but.contains (s.c, s.n) = zc at *
      generalize lessB ap aq s.mp s.ml = zl at *
      generalize ltK a lo = z1 at *
      generalize ltK a hi = z3 at *
      generalize hi.isEmpty = z4 at *
      clear q2 q5
      obtain ⟨wn, hwn⟩ : ∃ wn, wr.heap.size = wn := ⟨_, rfl⟩
      have HWN : Hid (wr.heap.size = wn) := hwn
      have HNext : Hid (sb = false → ∀ W, Fb bx ap aq w W → Fb bx ap aq w W ∧ ∃ k : Nat, k ≤ T.length ∧ (Value.int .i64 ((m + 1 : Nat) : Int)) = .int .i64 k ∧ firstN (standsB lo hi ap aq but) T k = none) := fun h W hW => ⟨hW, m + 1, by omega, rfl, by rw [HSm.out, h]; simp⟩
      clear hwn
      cases z1
      · by_cases hst : z4 = false ∧ z3 = false
        · obtain ⟨rfl, rfl⟩ := hst
          have HN : Hid _ := HNext.out (by rw [HSb.out]; simp)
          go_wp2_with fail
          go_roundw
          case rel => exact HN.out _ HI.out.2
          case measure => simp [intOf]; omega
        · have harms : z4 = true ∨ z4 = false ∧ z3 = true := by cases z4 <;> cases z3 <;> simp at hst ⊢
          have HSb2 : Hid (sb = (!zl && !zc)) := by
            show _ = _
            rw [HSb.out]
            rcases harms with rfl | ⟨rfl, rfl⟩ <;> simp
          clear hst HSb
          rcases harms with rfl | ⟨rfl, rfl⟩
          all_goals
            obtain ⟨y0, y1⟩ := HI.out.2.two
            go_wp2_with fail
            refine (CL1.out _).mono ?_
            rintro e w1 ⟨rfl, hb1⟩
            have H1 : Hid (InAt w1 wr.heap.size 0 (a, s) ∧ Fb bx ap aq w w1) := ⟨HI.out.1.on hb1, HI.out.2.on HBX.out hb1⟩
            clear hb1 y0 y1 CL1 HI
            cases zl
            · have c0 := H1.out.1.c0
              have c1 := H1.out.1.c1
              simp only [Nat.zero_add] at c1
              go_wp2_with fail
              refine (CA1.out _ H1.out.2.bel).mono ?_
              rintro e w2 ⟨rfl, hb2⟩
              have H2 : Hid (InAt w2 wr.heap.size 0 (a, s) ∧ Fb bx ap aq w w2) := ⟨H1.out.1.on hb2, H1.out.2.on HBX.out hb2⟩
              clear hb2 CA1 H1 c0 c1
              cases zc
              · have hY := HAm.out (by rw [HSb2.out]; simp)
                subst hY
                obtain ⟨i0, i1, i2, i3, i4, i5, i6, i7, i8, i9⟩ := H2.out.1
                simp only [Nat.zero_add] at i0 i1 i2 i3 i4 i5 i6 i7 i8 i9
                obtain ⟨z0, z1, z2, z3', z4', z5, z6, z7, z8, z9, zf⟩ := zero_cells H2.out.2.b1
                have f0 := zf 0
                have f1 := zf 1
                have f2 := zf 2
                have f3 := zf 3
                have f4 := zf 4
                have f5 := zf 5
                have f6 := zf 6
                have f7 := zf 7
                have f8 := zf 8
                have f9 := zf 9
                have HI2 : Hid _ := ten_set (a, s) H2.out.2.b1
                have HBw : Hid _ := ten_below (a, s) (b := bx + 1) H2.out.2.bel (by omega)
                clear zf
                go_wp2_with fail
                obtain ⟨g0, g1, g2, g3, g4, g5, g6, g7, g8, g9⟩ := HI2.out
                simp only [Nat.zero_add] at g0 g1 g2 g3 g4 g5 g6 g7 g8 g9
                refine bodyPost_ret (v := fsV (some (a, s))) (by simp [results, Try.results18, go_sem, g0, g1, g2, g3, g4, g5, g6, g7, g8, g9, fsV, inV]) rfl ?_
                exact ⟨rfl, by rw [HBX.out]; exact HBw.out⟩
              · have HN : Hid _ := HNext.out (by rw [HSb2.out]; simp)
                go_wp2_with fail
                go_roundw
                case rel => exact HN.out _ H2.out.2
                case measure => simp [intOf]; omega
            · have HN : Hid _ := HNext.out (by rw [HSb2.out]; simp)
              go_wp2_with fail
              go_roundw
              case rel => exact HN.out _ H1.out.2
              case measure => simp [intOf]; omega
      · have HN : Hid _ := HNext.out (by rw [HSb.out]; simp)
        go_wp2_with fail
        go_roundw
        case rel => exact HN.out _ HI.out.2
        case measure => simp [intOf]; omega
    · have hml' : ¬ (m : Int) < T.length := by omega
      have hz := HEnd.out m (by omega)
      rw [HNo.out] at hz
      subst hz
      obtain ⟨z0, z1, z2, z3, z4, z5, z6, z7, z8, z9, zf⟩ := zero_cells HB.out.b1
      have f0 := zf 0
      have f1 := zf 1
      have f2 := zf 2
      have f3 := zf 3
      have f4 := zf 4
      have f5 := zf 5
      have f6 := zf 6
      have f7 := zf 7
      have f8 := zf 8
      have f9 := zf 9
      have HI : Hid _ := ten_set ([], zi) HB.out.b1
      have HBw : Hid _ := ten_below ([], zi) (b := bx + 1) HB.out.bel (by omega)
      clear zf
      go_wp2_with fail
      obtain ⟨g0, g1, g2, g3, g4, g5, g6, g7, g8, g9⟩ := HI.out
      simp only [Nat.zero_add, zi, show bs [] = ⟨#[]⟩ from rfl] at g0 g1 g2 g3 g4 g5 g6 g7 g8 g9
      refine bodyPost_ret (v := fsV none) (by simp [results, Try.results18, go_sem, g0, g1, g2, g3, g4, g5, g6, g7, g8, g9, fsV, inV, zi, show bs [] = ⟨#[]⟩ from rfl]) rfl ?_
      exact ⟨rfl, by rw [HBX.out]; exact HBw.out⟩
end Go.Proofs.Ytknfkpnicjellaa
