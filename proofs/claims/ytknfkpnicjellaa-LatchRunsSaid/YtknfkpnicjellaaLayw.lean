/-
  The document's table: Lay, walked.
-/
import Derived.Test.YtknfkpnicjellaaLay
namespace Go.Proofs.Ytknfkpnicjellaa
open Go.RowKit

theorem bel_on {w W W' : World} {bx : Nat} (e : w.heap.size = bx) (h : Below bx w W) (hb : Below W.heap.size W W') : Below bx w W' := h.trans (hb.mono (e ▸ h.size))

set_option maxHeartbeats 3200000 in
set_option maxRecDepth 100000 in
theorem lay11 (B rb : Nat) (s0 : Value) (T : Tb) (c n sp sl mp ml : Int) (prim : List UInt8) (L : List Wr) (v : Value) (w : World) (h : RtAt B rb s0 T w) (hv : WsAt B v L w) (hl : T.length < 99000) :
    Calls Try.prog 11 #[.pointer (some ⟨rb, 0, none⟩), .agg #[.int .u32 c, .int .u32 n], .agg #[.int .u64 sp, .int .u32 sl], .agg #[.int .u64 mp, .int .u32 ml], .string (bs prim), v] w fun e w' => e = .returned (.int .i64 (layF (rightB sp sl && rightB mp ml && kOk prim) c n sp sl mp ml prim L T).2) ∧ RtPost B rb s0 (layF (rightB sp sl && rightB mp ml && kOk prim) c n sp sl mp ml prim L T).1 w w' := by
  obtain ⟨va, vc, rfl, hlc, hcm⟩ := hv.shape
  have hBw : B ≤ w.heap.size := by have := (h.lt (.inl rfl)); omega
  have HRb : Hid (rb < w.heap.size) := (h.lt (.inl rfl)).2
  have HT : Hid (TOk T) := h.ok
  have H : Hid (RtAt B rb s0 T w) := h
  have HEl : Hid (∀ W, Kept (fun i => i = rb) w W → ∀ i, i < L.length → ∃ b off, va = some ⟨b, off, none⟩ ∧ WrAt W b (off + i * 3) (L.getD i dw)) := fun W hW i hi => (hv.on (hW.below hBw (fun k e => e ▸ h.lo))).el hi
  have CR : Hid (∀ W, Below w.heap.size w W → Calls Try.prog 25 #[.slice va L.length vc] W fun e w' => e = .returned (.bool (rightW L)) ∧ Below W.heap.size W w') := fun W hW => right25 B L _ W (hv.on (hW.mono hBw)) (Nat.le_trans hBw hW.size)
  have C1 : Hid (∀ W, Calls Try.prog 35 #[.agg #[.int .u64 sp, .int .u32 sl]] W fun e w' => e = .returned (.bool (rightB sp sl)) ∧ Below W.heap.size W w') := fun W => rightR sp sl W
  have C2 : Hid (∀ W, Calls Try.prog 35 #[.agg #[.int .u64 mp, .int .u32 ml]] W fun e w' => e = .returned (.bool (rightB mp ml)) ∧ Below W.heap.size W w') := fun W => rightR mp ml W
  have C3 : Hid (∀ W, Calls Try.prog 36 #[.string (bs prim)] W fun e w' => e = .returned (.bool (kOk prim)) ∧ w' = W) := fun W => key32 prim W
  have CB : Hid (∀ W, Below w.heap.size w W → Calls Try.prog 22 #[.pointer (some ⟨rb, 0, none⟩), .agg #[.int .u32 c, .int .u32 n]] W fun e w' => ∃ ya yc, e = .returned (.slice ya (byF c n T).length yc) ∧ Below W.heap.size W w') := fun W hW => by
    refine (by22 B rb s0 T c n W (h.on hW) (by omega)).mono ?_
    rintro e w' ⟨v', rfl, ho, hb⟩
    obtain ⟨ya, yc, rfl, _⟩ := rw_own ho
    exact ⟨ya, yc, rfl, hb⟩
  have HArg : Hid ((rightW L && (rightB sp sl && rightB mp ml && kOk prim)) = false → layF (rightB sp sl && rightB mp ml && kOk prim) c n sp sl mp ml prim L T = (T, 1)) := lay_arg
  have HBy : Hid ((rightW L && (rightB sp sl && rightB mp ml && kOk prim)) = true → 0 < (byF c n T).length → layF (rightB sp sl && rightB mp ml && kOk prim) c n sp sl mp ml prim L T = (T, 40)) := lay_by
  have HBusy : Hid ((rightW L && (rightB sp sl && rightB mp ml && kOk prim)) = true → ∀ m, m < L.length → (getF (L.getD m dw).key T).isSome = true → layF (rightB sp sl && rightB mp ml && kOk prim) c n sp sl mp ml prim L T = (T, 40)) := fun h m => lay_busy h
  have HOk : Hid ((rightW L && (rightB sp sl && rightB mp ml && kOk prim)) = true → (byF c n T).length = 0 → (∀ m, m < L.length → (getF (L.getD m dw).key T).isSome = false) → layF (rightB sp sl && rightB mp ml && kOk prim) c n sp sl mp ml prim L T = (laidF (mkI c n sp sl mp ml prim) L T, 0)) := lay_ok
  generalize layF (rightB sp sl && rightB mp ml && kOk prim) c n sp sl mp ml prim L T = Y at *
  obtain ⟨b0, hb0⟩ : ∃ b0, rightW L = b0 := ⟨_, rfl⟩
  have HB0 : Hid (rightW L = b0) := hb0
  rw [hb0] at CR HArg HBy HBusy HOk
  generalize rightB sp sl = b1 at *
  generalize rightB mp ml = b2 at *
  generalize kOk prim = b3 at *
  generalize hbl : (byF c n T).length = nb at *
  have hnb : nb < 100000 := by have := len_by c n T; omega
  have HL : Hid (T.length < 99000) := hl
  have hL9 : L.length < 9223372036854775808 := by omega
  have HX : Hid (Lx w.heap.size c n sp sl mp ml (((w.alloc (.cells #[.int .u32 c, .int .u32 n] 32)).alloc (.cells #[.int .u64 sp, .int .u32 sl] 35)).alloc (.cells #[.int .u64 mp, .int .u32 ml] 35)) ∧ Below w.heap.size w (((w.alloc (.cells #[.int .u32 c, .int .u32 n] 32)).alloc (.cells #[.int .u64 sp, .int .u32 sl] 35)).alloc (.cells #[.int .u64 mp, .int .u32 ml] 35))) := by
    obtain ⟨h1, h2, h3, h4⟩ := three_boxes w (.cells #[.int .u32 c, .int .u32 n] 32) (.cells #[.int .u64 sp, .int .u32 sl] 35) (.cells #[.int .u64 mp, .int .u32 ml] 35)
    exact ⟨⟨h1, h2, h3⟩, h4⟩
  clear h hv hb0 hbl hl hlc hcm hBw
  go_enter Try.func11, Try.ntmps11
  go_wp2_with fail
  obtain ⟨W0, hW0⟩ : ∃ W0, (((w.alloc (.cells #[.int .u32 c, .int .u32 n] 32)).alloc (.cells #[.int .u64 sp, .int .u32 sl] 35)).alloc (.cells #[.int .u64 mp, .int .u32 ml] 35)) = W0 := ⟨_, rfl⟩
  rw [hW0] at HX ⊢
  clear hW0
  obtain ⟨bx, hbx⟩ : ∃ bx, w.heap.size = bx := ⟨_, rfl⟩
  have HBX : Hid (w.heap.size = bx) := hbx
  rw [hbx] at HX CR CB HRb ⊢
  clear hbx
  refine (CR.out _ HX.out.2).mono ?_
  rintro e w1 ⟨rfl, hb1⟩
  have H1 : Hid (Lx bx c n sp sl mp ml w1 ∧ Below bx w w1) := ⟨HX.out.1.on hb1, bel_on HBX.out HX.out.2 hb1⟩
  clear hb1 CR HX
  have HSelf : Hid (∀ W, Below bx w W → RtPost B rb s0 T w W) := fun W hW => H.out.self (by rw [HBX.out]; exact hW)
  cases b0
  · have hY := HArg.out (by simp)
    subst hY
    go_wp2_with fail
    go_ret
    exact ⟨rfl, HSelf.out _ H1.out.2⟩
  obtain ⟨x0, x1, x2, x3, x4, x5⟩ := H1.out.1.six
  go_wp2_with fail
  refine (C1.out _).mono ?_
  rintro e w2 ⟨rfl, hb2⟩
  have H2 : Hid (Lx bx c n sp sl mp ml w2 ∧ Below bx w w2) := ⟨H1.out.1.on hb2, bel_on HBX.out H1.out.2 hb2⟩
  clear hb2 C1 H1 x0 x1 x2 x3 x4 x5
  cases b1
  · have hY := HArg.out (by simp)
    subst hY
    go_wp2_with fail
    go_ret
    exact ⟨rfl, HSelf.out _ H2.out.2⟩
  obtain ⟨x0, x1, x2, x3, x4, x5⟩ := H2.out.1.six
  go_wp2_with fail
  refine (C2.out _).mono ?_
  rintro e w3 ⟨rfl, hb3⟩
  have H3 : Hid (Lx bx c n sp sl mp ml w3 ∧ Below bx w w3) := ⟨H2.out.1.on hb3, bel_on HBX.out H2.out.2 hb3⟩
  clear hb3 C2 H2 x0 x1 x2 x3 x4 x5
  cases b2
  · have hY := HArg.out (by simp)
    subst hY
    go_wp2_with fail
    go_ret
    exact ⟨rfl, HSelf.out _ H3.out.2⟩
  obtain ⟨x0, x1, x2, x3, x4, x5⟩ := H3.out.1.six
  go_wp2_with fail
  refine (C3.out _).mono ?_
  rintro e w4 ⟨rfl, rfl⟩
  cases b3
  · have hY := HArg.out (by simp)
    subst hY
    go_wp2_with fail
    go_ret
    exact ⟨rfl, HSelf.out _ H3.out.2⟩
  have HBy' : Hid _ := HBy.out (by simp)
  have HBusy' : Hid _ := HBusy.out (by simp)
  have HOk' : Hid _ := HOk.out (by simp)
  clear HArg HBy HBusy HOk C3
  go_wp2_with fail
  refine (CB.out _ H3.out.2).mono ?_
  rintro e w5 ⟨ya, yc, rfl, hb5⟩
  have H5 : Hid (Lx bx c n sp sl mp ml w5 ∧ Below bx w w5) := ⟨H3.out.1.on hb5, bel_on HBX.out H3.out.2 hb5⟩
  clear hb5 CB H3 x0 x1 x2 x3 x4 x5
  by_cases hnz : 0 < nb
  · have hY := HBy'.out hnz
    subst hY
    have hnz' : (0 : Int) < nb := by omega
    go_wp2_with fail
    go_ret
    exact ⟨rfl, HSelf.out _ H5.out.2⟩
  have hn0 : nb = 0 := by omega
  subst hn0
  have HOk2 : Hid _ := HOk'.out rfl
  clear HOk' HBy' hnz
  have CO : Hid (∀ k W, Below bx w W → Calls Try.prog 20 #[.pointer (some ⟨rb, 0, none⟩), .string (bs k)] W fun e w' => e = .returned (ofV k (getF k T)) ∧ Below W.heap.size W w') := fun k W hW => of20 B rb s0 T k W (H.out.on (by rw [HBX.out]; exact hW))
  go_wp2_with fail
  go_loopw [13] (fun i wr => (Lx bx c n sp sl mp ml wr ∧ Below bx w wr) ∧ ∃ m : Nat, m ≤ L.length ∧ i = .int .i64 m ∧ ∀ j, j < m → (getF (L.getD j dw).key T).isSome = false) (fun i _ => L.length - (intOf i).toNat)
  case atStart => exact ⟨H5.out, 0, Nat.zero_le _, rfl, fun _ h => by omega⟩
  case round =>
    obtain ⟨hx, m, hm, rfl, hall⟩ := hrel
    have H6 : Hid (Lx bx c n sp sl mp ml wr ∧ Below bx w wr) := hx
    have HA : Hid (∀ j, j < m → (getF (L.getD j dw).key T).isSome = false) := hall
    clear hx hall H5
    by_cases hml : m < L.length
    · obtain ⟨b, off, rfl, e0, -, -⟩ := HEl.out wr (Kept.of_below (by rw [HBX.out]; exact H6.out.2)) m hml
      have hml' : (m : Int) < L.length := by omega
      have HN : Hid ((getF (L.getD m dw).key T).isSome = false → ∀ j, j < m + 1 → (getF (L.getD j dw).key T).isSome = false) := fun h j hj => by
        by_cases e : j = m
        · subst e; exact h
        · exact HA.out j (by omega)
      have HZ : Hid _ := HBusy'.out m hml
      generalize (L.getD m dw).key = k at *
      have CX : Hid (1 = 1 → _) := fun _ => CO.out k wr H6.out.2
      generalize getF k T = y at *
      cases y with
      | none =>
        have HN2 : Hid _ := HN.out rfl
        simp only [ofV, inV, zi] at CX
        clear HN HZ
        go_wp2_with fail
        refine (CX.out (by trivial)).mono ?_
        rintro e w7 ⟨rfl, hb7⟩
        have H7 : Hid (Lx bx c n sp sl mp ml w7 ∧ Below bx w w7) := ⟨H6.out.1.on hb7, bel_on HBX.out H6.out.2 hb7⟩
        clear hb7 CX e0 H6
        go_wp2_with fail
        go_roundw
        case rel => exact ⟨⟨H7.out.1.on (al _), bel_on HBX.out H7.out.2 (al _)⟩, m + 1, by omega, by go_num, HN2.out⟩
        case measure => simp [intOf]; omega
      | some x =>
        have hY := HZ.out rfl
        subst hY
        simp only [ofV, inV] at CX
        clear HN HZ
        go_wp2_with fail
        refine (CX.out (by trivial)).mono ?_
        rintro e w7 ⟨rfl, hb7⟩
        have H7 : Hid (Below bx w w7) := bel_on HBX.out H6.out.2 hb7
        clear hb7 CX e0 H6
        go_wp2_with fail
        go_ret
        exact ⟨rfl, HSelf.out _ (bel_on HBX.out H7.out (al _))⟩
    · have hml' : ¬ (m : Int) < L.length := by omega
      have hY := HOk2.out (fun j hj => HA.out j (by omega))
      subst hY
      have HNew : Hid (∀ j, j < L.length → getF (L.getD j dw).key (laidF (mkI c n sp sl mp ml prim) (L.take j) T) = none ∧ kOk (L.getD j dw).key = true ∧ laidF (mkI c n sp sl mp ml prim) (L.take (j + 1)) T = setF (L.getD j dw).key (mkI c n sp sl mp ml prim (L.getD j dw)) (laidF (mkI c n sp sl mp ml prim) (L.take j) T)) := fun j hj =>
        ⟨laid_new HT.out HB0.out hj (HA.out j (by omega)), wOk_key ((right_parts HB0.out).1 _ (getD_memW hj)), by rw [wtk_snoc hj, laid_snoc]⟩
      have HLen : Hid (∀ j, (laidF (mkI c n sp sl mp ml prim) (L.take j) T).length < 100000) := fun j => by
        have h1 := laid_le (f := mkI c n sp sl mp ml prim) (l := L.take j) HT.out.srt
        have h2 := (right_parts HB0.out).2.2.2
        have h3 : (L.take j).length ≤ L.length := by rw [List.length_take]; omega
        have := HL.out
        omega
      have HY0 : Hid (Ly B rb s0 bx c n sp sl mp ml w (laidF (mkI c n sp sl mp ml prim) (L.take 0) T) s0 wr) := ⟨H.out.on (by rw [HBX.out]; exact H6.out.2), H6.out.1, Kept.of_below (by rw [HBX.out]; exact H6.out.2), fun _ h => .inl h⟩
      clear H6 HA HOk2 HBusy' CO HSelf
      go_wp2_with fail
      go_loopw [16] (fun i wq => ∃ (j : Nat) (sl' : Value), j ≤ L.length ∧ i = .int .i64 j ∧ Ly B rb s0 bx c n sp sl mp ml w (laidF (mkI c n sp sl mp ml prim) (L.take j) T) sl' wq) (fun i _ => L.length - (intOf i).toNat)
      case atStart => exact ⟨0, s0, Nat.zero_le _, rfl, HY0.out⟩
      case round =>
        obtain ⟨j, sl', hj, rfl, hly⟩ := hrel
        have HY1 : Hid _ := hly
        clear hly HY0
        by_cases hjl : j < L.length
        · have hjl' : (j : Int) < L.length := by omega
          obtain ⟨b, off, rfl, e0, e1, e2⟩ := HEl.out _ HY1.out.kept j hjl
          obtain ⟨hn1, hk1, hs1⟩ := HNew.out j hjl
          have hlen := HLen.out j
          have CP : Hid (∀ W, Ly B rb s0 bx c n sp sl mp ml w (laidF (mkI c n sp sl mp ml prim) (L.take j) T) sl' W → Calls Try.prog 37 #[.pointer (some ⟨rb, 0, none⟩), inV ((L.getD j dw).key, mkI c n sp sl mp ml prim (L.getD j dw))] W fun e w' => e = .returned (.tuple #[]) ∧ ∃ sl2, Ly B rb s0 bx c n sp sl mp ml w (laidF (mkI c n sp sl mp ml prim) (L.take (j + 1)) T) sl2 w') := fun W hW => by
            refine (put33 B rb sl' _ _ (mkI c n sp sl mp ml prim (L.getD j dw)) W hW.rt hlen hk1 hn1).mono ?_
            rintro e w' ⟨rfl, sl2, h1, h2, h3⟩
            refine ⟨rfl, sl2, ?_⟩
            rw [hs1]
            exact hW.put HRb.out h1 h2 h3
          generalize laidF (mkI c n sp sl mp ml prim) (L.take j) T = T1 at *
          obtain ⟨T2, hT2⟩ : ∃ T2, laidF (mkI c n sp sl mp ml prim) (L.take (j + 1)) T = T2 := ⟨_, rfl⟩
          have HT2 : Hid (laidF (mkI c n sp sl mp ml prim) (L.take (j + 1)) T = T2) := hT2
          rw [hT2] at CP
          clear hT2 hs1 hn1 hk1 hlen
          have HEx : Hid (∀ W, Kept (fun i => i = rb) w W → W.cell? ⟨b, off + j * 3, none⟩ = some (.string (bs (L.getD j dw).key)) ∧ W.cell? ⟨b, off + j * 3 + 1, none⟩ = some (.string (bs (L.getD j dw).val)) ∧ W.cell? ⟨b, off + j * 3 + 2, none⟩ = some (.bool (L.getD j dw).dead)) := fun W hW => by
            obtain ⟨b', off', e, h0, h1, h2⟩ := HEl.out W hW j hjl
            simp only [Option.some.injEq, Addr.mk.injEq] at e
            obtain ⟨rfl, rfl, _⟩ := e
            exact ⟨h0, h1, h2⟩
          generalize L.getD j dw = x at *
          obtain ⟨xk, xv, xd⟩ := x
          simp only [inV, mkI] at CP
          dsimp only at HEx
          dsimp only at e0 e1 e2
          obtain ⟨x0, x1, x2, x3, x4, x5⟩ := HY1.out.bxs.six
          have HK : Hid (wr.cell? ⟨bx, 0, none⟩ = some (.int .u32 c) ∧ wr.cell? ⟨bx, 1, none⟩ = some (.int .u32 n) ∧ wr.cell? ⟨bx + 1, 0, none⟩ = some (.int .u64 sp) ∧ wr.cell? ⟨bx + 1, 1, none⟩ = some (.int .u32 sl) ∧ wr.cell? ⟨bx + 2, 0, none⟩ = some (.int .u64 mp) ∧ wr.cell? ⟨bx + 2, 1, none⟩ = some (.int .u32 ml) ∧ wr.cell? ⟨b, off + j * 3, none⟩ = some (.string (bs xk)) ∧ wr.cell? ⟨b, off + j * 3 + 1, none⟩ = some (.string (bs xv)) ∧ wr.cell? ⟨b, off + j * 3 + 2, none⟩ = some (.bool xd)) := ⟨x0, x1, x2, x3, x4, x5, e0, e1, e2⟩
          have HY1d : Hid (Ly B rb s0 bx c n sp sl mp ml w T1 sl' wr.drew) := HY1.out.on (Below.refl _ _).drew
          have HEj : Hid (∀ W, Kept (fun i => i = rb) w W → W.cell? ⟨b, off + j * 3, none⟩ = some (.string (bs xk)) ∧ W.cell? ⟨b, off + j * 3 + 1, none⟩ = some (.string (bs xv)) ∧ W.cell? ⟨b, off + j * 3 + 2, none⟩ = some (.bool xd)) := fun W hW => HEx.out W hW
          go_wp2_with fail
          go_region_held3 (fun W => W.cell? ⟨bx, 0, none⟩ = some (.int .u32 c) ∧ W.cell? ⟨bx, 1, none⟩ = some (.int .u32 n) ∧ W.cell? ⟨bx + 1, 0, none⟩ = some (.int .u64 sp) ∧ W.cell? ⟨bx + 1, 1, none⟩ = some (.int .u32 sl) ∧ W.cell? ⟨bx + 2, 0, none⟩ = some (.int .u64 mp) ∧ W.cell? ⟨bx + 2, 1, none⟩ = some (.int .u32 ml) ∧ W.cell? ⟨b, off + j * 3, none⟩ = some (.string (bs xk)) ∧ W.cell? ⟨b, off + j * 3 + 1, none⟩ = some (.string (bs xv)) ∧ W.cell? ⟨b, off + j * 3 + 2, none⟩ = some (.bool xd))
            (first | exact HK.out | exact HK2.out)
            (first
            | (go_at_call 37; refine (CP.out _ HY1d.out).mono ?_; rintro e w8 ⟨rfl, sl2, h8⟩; have H8 : Hid (Ly B rb s0 bx c n sp sl mp ml w T2 sl2 w8) := h8; have HK2 : Hid (w8.cell? ⟨bx, 0, none⟩ = some (.int .u32 c) ∧ w8.cell? ⟨bx, 1, none⟩ = some (.int .u32 n) ∧ w8.cell? ⟨bx + 1, 0, none⟩ = some (.int .u64 sp) ∧ w8.cell? ⟨bx + 1, 1, none⟩ = some (.int .u32 sl) ∧ w8.cell? ⟨bx + 2, 0, none⟩ = some (.int .u64 mp) ∧ w8.cell? ⟨bx + 2, 1, none⟩ = some (.int .u32 ml) ∧ w8.cell? ⟨b, off + j * 3, none⟩ = some (.string (bs xk)) ∧ w8.cell? ⟨b, off + j * 3 + 1, none⟩ = some (.string (bs xv)) ∧ w8.cell? ⟨b, off + j * 3 + 2, none⟩ = some (.bool xd)) := (by obtain ⟨g0, g1, g2, g3, g4, g5⟩ := h8.bxs.six; exact ⟨g0, g1, g2, g3, g4, g5, HEj.out w8 h8.kept⟩); clear h8))
          rename_i hHeld
          clear hHeld x0 x1 x2 x3 x4 x5 e0 e1 e2 HK HY1 HY1d
          go_wp2_with fail
          go_roundw
          case rel => exact ⟨j + 1, sl2, by omega, by go_num, by rw [HT2.out]; exact H8.out⟩
          case measure => simp [intOf]; omega
        · have hjl' : ¬ (j : Int) < L.length := by omega
          have HP : Hid (RtPost B rb s0 (laidF (mkI c n sp sl mp ml prim) L T) w wr) := by
            have := HY1.out.post
            rw [List.take_of_length_le (by omega)] at this
            exact this
          clear HY1
          go_wp2_with fail
          go_ret
          exact ⟨rfl, HP.out⟩
end Go.Proofs.Ytknfkpnicjellaa
