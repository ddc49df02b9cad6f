/-
  The walk of LogKeeps: whatever acts it is given it answers true, and turns no memory that was there.
-/
import Derived.Test.YtjjdmeemhgopbaaMay
namespace Go.Proofs.Ytjjdmeemhgopbaa
open Go.RowKit Go.Sort
open Drm (Dr Pt DrumAt DrumIn)

/-- What the law knows of the drum D, the log's value and the lists that may be: a log that is up and holds the one list; or a drum that is down, which opens with one of them. -/
def KeepInv (pb G : Nat) (strict : Bool) (lv : Value) (M : List (List (List UInt8))) (D : Dr) (w : World) : Prop :=
  (∃ (lb a g : Nat) (R : List (List UInt8)), lv = .pointer (some ⟨lb, 0, none⟩) ∧ LbAt lb pb a g w ∧ pb < lb ∧ Holds D a g R ∧ D.down = false ∧ g ≤ G ∧ M = [R]) ∨
  (D.down = true ∧ (∃ p, lv = .pointer p) ∧ (strict = true → lv = .pointer none) ∧ M ≠ [] ∧ ∀ keep, ∃ R, R ∈ M ∧ Opens (D.fall keep) R G)

theorem KeepInv.on {pb G : Nat} {s : Bool} {lv : Value} {M : List (List (List UInt8))} {D : Dr} {w w' : World} (h : KeepInv pb G s lv M D w) (hb : Below w.heap.size w w') : KeepInv pb G s lv M D w' := by
  rcases h with ⟨lb, a, g, R, h1, h2, h3⟩ | h
  · exact .inl ⟨lb, a, g, R, h1, h2.on hb, h3⟩
  · exact .inr h

theorem KeepInv.weaken {pb G : Nat} {lv : Value} {M : List (List (List UInt8))} {D : Dr} {w : World} (h : KeepInv pb G true lv M D w) : KeepInv pb (G + 1) false lv M D w := by
  rcases h with ⟨lb, a, g, R, h1, h2, h3, h4, h5, h6, h7⟩ | ⟨h1, h2, _, h4, h5⟩
  · exact .inl ⟨lb, a, g, R, h1, h2, h3, h4, h5, by omega, h7⟩
  · refine .inr ⟨h1, h2, fun h => absurd h (by decide), h4, fun keep => ?_⟩
    obtain ⟨R, hR, a, g, hg, ho⟩ := h5 keep
    exact ⟨R, hR, a, g, by omega, ho⟩

theorem KeepInv.fuelled {pb G : Nat} {s : Bool} {lv : Value} {M : List (List (List UInt8))} {D : Dr} {w : World} (h : KeepInv pb G s lv M D w) (n : Int) : KeepInv pb G s lv M { D with fuel := n } w := by
  rcases h with ⟨lb, a, g, R, h1, h2, h3, h4, h5⟩ | h
  · exact .inl ⟨lb, a, g, R, h1, h2, h3, ⟨h4.lt, h4.there, h4.log, h4.sure, h4.alone⟩, h5⟩
  · exact .inr h
theorem KeepInv.kept {pb G : Nat} {s : Bool} {lv : Value} {M : List (List (List UInt8))} {D : Dr} {w w' : World} (h : KeepInv pb G s lv M D w) (hk : Drm.Kept pb w w') : KeepInv pb G s lv M D w' := by
  rcases h with ⟨lb, a, g, R, h1, h2, h3⟩ | h
  · exact .inl ⟨lb, a, g, R, h1, h2.kept h3.1 hk, h3⟩
  · exact .inr h

theorem in_more {M : List (List (List UInt8))} {R : List (List UInt8)} {q : Nat} (h : q < M.length) : decide (R ∈ M.take (q + 1)) = (decide (R ∈ M.take q) || decide (M.getD q [] = R)) := by
  have e : M.take (q + 1) = M.take q ++ [M.getD q []] := by
    rw [List.take_add_one]
    simp [List.getElem?_eq_getElem h, List.getD]
  rw [e, ← Bool.decide_or]
  congr 1
  rw [List.mem_append, List.mem_singleton]
  exact propext ⟨fun h => h.imp_right Eq.symm, fun h => h.imp_right Eq.symm⟩

theorem Opens.more {D : Dr} {R : List (List UInt8)} {G G' : Nat} (h : Opens D R G) (hG : G ≤ G') : Opens D R G' := by
  obtain ⟨a, g, h1, h2⟩ := h
  exact ⟨a, g, by omega, h2⟩

set_option maxHeartbeats 16000000 in
set_option maxRecDepth 100000 in
theorem keeps4 (acts : List Ac) (ao : Option Addr) (b off cap : Nat) (w : World) (hao : 0 < acts.length → ao = some ⟨b, off, none⟩) (hcell : ∀ i, i < acts.length → AcAt w b off i (acts.getD i dflt) ∧ (acts.getD i dflt).ok) (hn : acts.length < 9223372036854775807) :
    Calls Try.prog 4 #[.slice ao acts.length cap] w fun e w' => e = .returned (.bool true) ∧ Below w.heap.size w w' := by
  have HAw : Hid (∀ w, 1 = 1 → Calls Try.prog 7 #[] w fun e w' => e = .returned (.bool true) ∧ Below w.heap.size w w') := fun w _ => awake7 w
  obtain ⟨Q, hQ⟩ : ∃ Q : Ending → World → Prop, Q = fun e w' => e = .returned (.bool true) ∧ Below w.heap.size w w' := ⟨_, rfl⟩
  rw [← hQ]
  have HQ : Hid (∀ w', Below w.heap.size w w' → Q (.returned (.bool true)) w') := fun w' h => by rw [hQ]; exact ⟨rfl, h⟩
  clear hQ
  have HO : Hid (0 < acts.length → ao = some ⟨b, off, none⟩) := hao
  have HC : Hid (∀ i, i < acts.length → AcAt w b off i (acts.getD i dflt) ∧ (acts.getD i dflt).ok) := hcell
  clear hao hcell
  have CSm : Hid (∀ w1, Below w.heap.size w w1 → Calls Try.prog 10 #[.slice ao acts.length cap] w1 fun e w' => (∃ r, e = .returned (.bool r) ∧ (r = true → ∀ i, i < acts.length → (acts.getD i dflt).list.length ≤ 50)) ∧ Below w1.heap.size w1 w') := fun w1 hb => small10 acts ao b off cap w1 HO.out (fun i hi => (HC.out i hi).1.later hb) hn
  obtain ⟨D1, ho1, hh1, hd1, hf1, hr1, hl1⟩ := open_new (room := 400000) (by omega)
  have hO0 : (Dr.new 400000).Ok := Drm.Dr.Ok.new 400000 (by omega) (by omega)
  have hO1 := ok_open hO0 ho1
  have C1 : Hid (∀ pb w, DrumAt pb (Dr.new 400000) w → Calls Try.prog 11 #[.pointer (some ⟨pb, 0, none⟩)] w fun e w' => ∃ lb V, e = .returned (.tuple #[.pointer (some ⟨lb, 0, none⟩), V, .int .i64 0]) ∧ LgAt lb pb 0 1 D1 w' ∧ TxAt w.heap.size V [] w' ∧ w.heap.size ≤ lb ∧ Drm.Kept pb w w') := fun pb w h => open_ok pb w h hO0 rfl ho1
  have HD1 : Hid (Holds D1 0 1 [] ∧ D1.down = false ∧ D1.Ok) := ⟨hh1, hd1, hO1⟩
  clear ho1 hh1 hd1 hf1 hr1 hl1 hO0 hO1
  go_enter Try.func4, Try.ntmps4
  go_wp2_with fail
  refine (HAw.out _ (by trivial)).mono ?_
  rintro e w1 ⟨rfl, hb1⟩
  have H1 : Hid (Below w.heap.size w w1) := hb1
  clear hb1
  go_wp2_with fail
  refine (CSm.out _ H1.out).mono ?_
  rintro e w1s ⟨⟨r, rfl, hr⟩, hb1s⟩
  have H1s : Hid (Below w.heap.size w w1s) := H1.out.trans (hb1s.mono H1.out.size)
  have HSm : Hid _ := hr
  clear hb1s hr H1 CSm
  cases r with
  | false =>
    go_wp2_with fail
    exact HQ.out _ H1s.out
  | true =>
    have HSm2 : Hid (∀ i, i < acts.length → (acts.getD i dflt).list.length ≤ 50) := HSm.out (by trivial)
    clear HSm
    go_wp2_with fail
    refine (Drm.new8 400000 _ (by omega) (by omega)).mono ?_
    obtain ⟨pb, hpb⟩ : ∃ pb, pb = w1s.heap.size := ⟨_, rfl⟩
    rw [← hpb]
    rintro e w2 ⟨rfl, hD2, hb2⟩
    have H2 : Hid (DrumAt pb (Dr.new 400000) w2 ∧ Below w.heap.size w w2 ∧ w.heap.size ≤ pb) := ⟨hD2, H1s.out.trans (hb2.mono (by rw [hpb]; exact H1s.out.size)), by rw [hpb]; exact H1s.out.size⟩
    clear hD2 hb2 hpb H1s
    go_wp2_with fail
    refine (C1.out pb _ H2.out.1).mono ?_
    rintro e w3 ⟨lb0, V0, rfl, hL3, hV3, hlb, k3⟩
    obtain ⟨ao0, cp0, rfl⟩ := tx_shape hV3
    have hwp := H2.out.2.2
    have H3 : Hid (LgAt lb0 pb 0 1 D1 w3 ∧ Below w.heap.size w w3) := ⟨hL3, H2.out.2.1.trans (k3.below.mono hwp)⟩
    clear hL3 hV3 hlb k3 H2 C1
    have hal : Below w3.heap.size w3 (w3.alloc (.cells #[.slice none 0 0] 33)) := (Below.refl _ _).alloc (Nat.le_refl _) _
    have H4 : Hid (KeepInv pb 1 true (.pointer (some ⟨lb0, 0, none⟩)) [[]] D1 (w3.alloc (.cells #[.slice none 0 0] 33)) ∧ MayAt pb (.slice (some ⟨w3.heap.size, 0, none⟩) 1 1) [[]] (w3.alloc (.cells #[.slice none 0 0] 33)) ∧ DrumAt pb D1 (w3.alloc (.cells #[.slice none 0 0] 33)) ∧ D1.Ok ∧ Below w.heap.size w (w3.alloc (.cells #[.slice none 0 0] 33))) :=
      ⟨.inl ⟨lb0, 0, 1, [], rfl, H3.out.1.blk.on hal, H3.out.1.ne, HD1.out.1, HD1.out.2.1, Nat.le_refl _, rfl⟩, may_new w3 _ [] (StrsAt.nil _ _) H3.out.1.drum.lt, H3.out.1.drum.on hal, HD1.out.2.2, H3.out.2.trans (hal.mono H3.out.2.size)⟩
    clear hal H3 HD1
    go_wp2_with fail
    go_loopw [5, 8, 40] (fun lv mv i wr => ∃ (k : Nat) (D : Dr) (M : List (List (List UInt8))), k ≤ acts.length ∧ i = .int .i64 k ∧ M.length ≤ k + 1 ∧ (∀ R ∈ M, R.length ≤ k + 51) ∧ k ≤ 60 ∧ KeepInv pb (k + 1) true lv M D wr ∧ MayAt pb mv M wr ∧ DrumAt pb D wr ∧ D.Ok ∧ Below w.heap.size w wr) (fun _ _ i _ => acts.length - (intOf i).toNat)
    case atStart => exact ⟨0, D1, [[]], by omega, rfl, Nat.le_refl _, by simp, by omega, H4.out.1, H4.out.2.1, H4.out.2.2.1, H4.out.2.2.2.1, H4.out.2.2.2.2⟩
    case round =>
      obtain ⟨k, D, M, hk, rfl, hMk, hMl, hk60, hKI, hMay, hDr, hOk, hB⟩ := hrel
      obtain ⟨am, cm, rfl⟩ := hMay.shape
      obtain ⟨lp, hlp⟩ : ∃ lp, u5 = .pointer lp := by
        rcases hKI with ⟨lb, _, _, _, h1, _⟩ | ⟨_, ⟨p, h1⟩, _⟩
        · exact ⟨_, h1⟩
        · exact ⟨_, h1⟩
      subst hlp
      have HML : Hid _ := hMl
      clear hMl
      have HR : Hid (KeepInv pb (k + 1) true (.pointer lp) M D wr ∧ MayAt pb (.slice am M.length cm) M wr ∧ DrumAt pb D wr ∧ D.Ok ∧ Below w.heap.size w wr) := ⟨hKI, hMay, hDr, hOk, hB⟩
      clear hKI hMay hDr hOk hB H4
      by_cases hlt : k < acts.length
      · obtain rfl := HO.out (by omega)
        obtain ⟨z0, z1, z2, z3, z4⟩ := (HC.out k hlt).1.on HR.out.2.2.2.2
        have HS : Hid (ArgStrs (acts.getD k dflt).lv (acts.getD k dflt).list w ∧ (acts.getD k dflt).list.length ≤ 50) := ⟨(HC.out k hlt).1.strs, HSm2.out k hlt⟩
        have HKp : Hid (ArgKeep w (acts.getD k dflt).kv (acts.getD k dflt).keep ∧ (acts.getD k dflt).ok) := ⟨(HC.out k hlt).1.keeps, (HC.out k hlt).2⟩
        generalize acts.getD k dflt = c at *
        obtain ⟨what, nn, text, list, lv, keep, kv⟩ := c
        dsimp only at z0 z1 z2 z3 z4 HS HKp
        obtain ⟨al, cl1, rfl, _⟩ := HS.out.1
        obtain ⟨ka, kc, rfl, _⟩ := HKp.out.1
        obtain ⟨xb, hxb⟩ : ∃ xb, xb = wr.heap.size := ⟨_, rfl⟩
        have hbx : (wr.alloc (.cells #[.int .i64 what, .int .i64 nn, .string (bs text), .slice al list.length cl1, .slice ka keep.length kc] 43)).heap[xb]? = some (.cells #[.int .i64 what, .int .i64 nn, .string (bs text), .slice al list.length cl1, .slice ka keep.length kc] 43 (0, 0)) := by rw [hxb]; exact heap_alloc_new wr _
        have hal : Below wr.heap.size wr (wr.alloc (.cells #[.int .i64 what, .int .i64 nn, .string (bs text), .slice al list.length cl1, .slice ka keep.length kc] 43)) := (Below.refl _ _).alloc (Nat.le_refl _) _
        have HB : Hid (KeepInv pb (k + 1) true (.pointer lp) M D (wr.alloc (.cells #[.int .i64 what, .int .i64 nn, .string (bs text), .slice al list.length cl1, .slice ka keep.length kc] 43)) ∧ MayAt pb (.slice am M.length cm) M (wr.alloc (.cells #[.int .i64 what, .int .i64 nn, .string (bs text), .slice al list.length cl1, .slice ka keep.length kc] 43)) ∧ DrumAt pb D (wr.alloc (.cells #[.int .i64 what, .int .i64 nn, .string (bs text), .slice al list.length cl1, .slice ka keep.length kc] 43)) ∧ D.Ok ∧ Below w.heap.size w (wr.alloc (.cells #[.int .i64 what, .int .i64 nn, .string (bs text), .slice al list.length cl1, .slice ka keep.length kc] 43)) ∧ (wr.alloc (.cells #[.int .i64 what, .int .i64 nn, .string (bs text), .slice al list.length cl1, .slice ka keep.length kc] 43)).heap[xb]? = some (.cells #[.int .i64 what, .int .i64 nn, .string (bs text), .slice al list.length cl1, .slice ka keep.length kc] 43 (0, 0)) ∧ pb < xb) :=
          ⟨HR.out.1.on hal, HR.out.2.1.on hal, HR.out.2.2.1.on hal, HR.out.2.2.2.1, HR.out.2.2.2.2.trans (hal.mono HR.out.2.2.2.2.size), hbx, by rw [hxb]; exact HR.out.2.2.1.lt⟩
        obtain ⟨y0, y1, y2, y3, y4⟩ := five_cells hbx
        clear hal hbx
        by_cases hk6 : k = 60
        · have hk6' : ((k : Int) == 60) = true := by simp; omega
          rw [hxb] at y0 y1 y2 y3 y4
          clear hk6
          go_wp2_with fail
          exact HQ.out _ HB.out.2.2.2.2.1
        · have hk6' : ((k : Int) == 60) = false := by simp; omega
          obtain ⟨M0, hM0⟩ : ∃ M0, M.getD 0 [] = M0 := ⟨_, rfl⟩
          have hMp : 0 < M.length := by
            rcases HR.out.1 with ⟨_, _, _, _, _, _, _, _, _, _, h⟩ | ⟨_, _, _, h, _⟩
            · rw [h]; simp
            · exact List.length_pos_iff.2 h
          obtain ⟨am2, mb, cp2, hms, hmb, hmc⟩ := HB.out.2.1.cells
          injection hms with e1 _ e3
          clear e3
          subst e1
          obtain rfl := hmb hMp
          obtain ⟨u0, hu0, hus0⟩ := hmc 0 hMp
          rw [hM0] at hus0
          have HU0 : Hid (StrsAt pb u0 M0 (wr.alloc (.cells #[.int .i64 what, .int .i64 nn, .string (bs text), .slice al list.length cl1, .slice ka keep.length kc] 43)) ∧ M.getD 0 [] = M0) := ⟨hus0, hM0⟩
          obtain ⟨a0, c0, rfl, _⟩ := hus0
          clear hmc hM0 hmb
          have HXB : Hid (xb = wr.heap.size) := hxb
          rw [hxb] at y0 y1 y2 y3 y4
          clear hxb
          have hM0l : M0.length ≤ k + 51 := by
            rw [← HU0.out.2]
            exact HML.out _ (by simp [List.getD, List.getElem?_eq_getElem hMp])
          have hM0m : M0 ∈ M := by
            rw [← HU0.out.2]
            simp [List.getD, List.getElem?_eq_getElem hMp]
          have HM0 : Hid _ := hM0m
          clear hM0m
          obtain ⟨wx, hwx⟩ : ∃ wx, wx = wr.alloc (.cells #[.int .i64 what, .int .i64 nn, .string (bs text), .slice al list.length cl1, .slice ka keep.length kc] 43) := ⟨_, rfl⟩
          go_upto_block 2 with fail
          rw [← hwx]
          rw [← hwx] at HB HU0 y0 y1 y2 y3 y4 hu0
          rw [← HXB.out]
          rw [← HXB.out] at y0 y1 y2 y3 y4
          clear hwx
          go_cut [5, 8] (fun lv mv wc => ∃ D' M', M'.length ≤ k + 2 ∧ (∀ R ∈ M', R.length ≤ k + 52) ∧ KeepInv pb (k + 2) false lv M' D' wc ∧ MayAt pb mv M' wc ∧ DrumAt pb D' wc ∧ D'.Ok ∧ Below w.heap.size w wc)
          case first =>
            rcases (by omega : what = 0 ∨ what = 1 ∨ what = 2 ∨ what = 3 ∨ (what ≠ 0 ∧ what ≠ 1 ∧ what ≠ 2 ∧ what ≠ 3)) with rfl | rfl | rfl | rfl | ⟨hw0, hw1, hw2, hw3⟩
            · have hal0 : ∀ wy, Below wx.heap.size wx wy → StrsAt pb (.slice a0 M0.length c0) M0 wy := fun wy h => HU0.out.1.on h
              have HAL : Hid _ := hal0
              have hy2 : ∀ wy, Below wx.heap.size wx wy → wy.cell? ⟨xb, 2, none⟩ = some (.string (bs text)) := fun wy h => cell_below y2 h (World.block_lt_of_cell? _ _ y2)
              have HY2 : Hid _ := hy2
              have hpx : pb < wx.heap.size := HB.out.2.2.1.lt
              clear hal0 hy2
              have HLN : Hid ((M0 ++ [text]).length = M0.length + 1) := by show _ = _; simp
              go_upto_region 17 with fail
              go_cut [12] (fun t wc => ∃ a8 c8, t = .slice a8 (M0.length + 1) c8 ∧ StrsAt pb t (M0 ++ [text]) wc ∧ Below wx.heap.size wx wc)
              case first =>
                have ya := HY2.out (wx.alloc (.cells #[] 9)) ((Below.refl _ _).alloc (Nat.le_refl _) _)
                go_region_law (first
                  | (refine step_append_strs rfl (.tmp 54) (.tmp 55) rfl pb wx.heap.size [] M0 (.slice (some ⟨wx.heap.size, 0, none⟩) 0 0) (.slice a0 M0.length c0) (by simp [Act.eval]) (by simp [Act.eval]) (by first | exact own_empty _ _ (by simp) | exact (own_empty _ _ (by simp)).on (Below.refl _ _).drew) (HAL.out _ (by first | exact ((Below.refl _ _).drew).alloc (by simp) _ | exact ((Below.refl _ _).alloc (by simp) _).drew)) (by simp) (by simp; omega) ?_; intro v7 w7 ht7 hg7; rw [List.nil_append] at ht7; obtain ⟨a7, c7, hv7⟩ := tx_shape ht7; subst hv7; have H7 : Hid (TxAt wx.heap.size (.slice a7 M0.length c7) M0 w7 ∧ Below wx.heap.size wx w7) := ⟨ht7, Below.grown (by first | exact ((Below.refl _ _).drew).alloc (by simp) _ | exact ((Below.refl _ _).alloc (by simp) _).drew) hg7 (by simp) (fun k hk => own_le hk)⟩; have y27 := HY2.out w7 H7.out.2; have hsz7 := H7.out.2.size; clear ht7 hg7)
                  | (refine step_append_strs rfl (.tmp 54) (.tmp 55) rfl pb wx.heap.size [] M0 (.slice (some ⟨wx.heap.size, 0, none⟩) 0 0) (.slice a0 M0.length c0) (by simp [Act.eval]) (by simp [Act.eval]) (((own_empty wx wx.heap.size (by simp)).on ((Below.refl _ (wx.alloc (.cells #[] 9))).alloc (by simp) (.cells #[.string (bs text)] 9))).on (Below.refl _ _).drew) (HAL.out _ (((Below.refl _ _).alloc (by simp) _).alloc (by simp) _).drew) (by simp; omega) (by simp; omega) ?_; intro v7 w7 ht7 hg7; rw [List.nil_append] at ht7; obtain ⟨a7, c7, hv7⟩ := tx_shape ht7; subst hv7; have H7 : Hid (TxAt wx.heap.size (.slice a7 M0.length c7) M0 w7 ∧ Below wx.heap.size wx w7) := ⟨ht7, (((Below.refl _ _).alloc (by simp) _).alloc (by simp) _).drew.grown hg7 (by simp; omega) (fun k hk => own_le hk)⟩; have H59 : Hid (StrsAt pb (.slice (some ⟨wx.heap.size + 1, 0, none⟩) 1 1) [text] w7) := ((strs_one2 (w := wx.alloc (.cells #[] 9)) (by simp) text (by omega)).on (Below.refl _ _).drew).apart hg7 (by simp [Value.ownBlock]); have hsz7 := H7.out.2.size; clear ht7 hg7)
                  | (refine step_append_strs rfl (.tmp 54) (.tmp 55) rfl pb wx.heap.size [] M0 (.slice (some ⟨wx.heap.size + 1, 0, none⟩) 0 0) (.slice a0 M0.length c0) (by simp [Act.eval]) (by simp [Act.eval]) ((own_empty2 (w := wx.alloc (.cells #[.string (bs text)] 9)) (by simp) (by omega)).on (Below.refl _ _).drew) (HAL.out _ (((Below.refl _ _).alloc (by simp) _).alloc (by simp) _).drew) (by simp; omega) (by simp; omega) ?_; intro v7 w7 ht7 hg7; rw [List.nil_append] at ht7; obtain ⟨a7, c7, hv7⟩ := tx_shape ht7; subst hv7; have H7 : Hid (TxAt wx.heap.size (.slice a7 M0.length c7) M0 w7 ∧ Below wx.heap.size wx w7) := ⟨ht7, (((Below.refl _ _).alloc (by simp) _).alloc (by simp) _).drew.grown hg7 (by simp; omega) (fun k hk => by have := own_le hk; omega)⟩; have H59 : Hid (StrsAt pb (.slice (some ⟨wx.heap.size, 0, none⟩) 1 1) [text] w7) := (((strs_one2 (w := wx) rfl text hpx).on ((Below.refl _ (wx.alloc (.cells #[.string (bs text)] 9))).alloc (by simp) (.cells #[] 9))).on (Below.refl _ _).drew).apart hg7 (by simp [Value.ownBlock]); have hsz7 := H7.out.2.size; clear ht7 hg7)
                  | (refine step_append_strs rfl (.tmp 56) (.tmp 59) rfl pb wx.heap.size M0 [text] (.slice a7 M0.length c7) (.slice (some ⟨w7.heap.size, 0, none⟩) 1 1) (by simp [Act.eval]) (by simp [Act.eval]) (H7.out.1.on ((Below.refl _ _).alloc (Nat.le_refl _) _)) (strs_one w7 text (by omega)) (by simp; omega) (by simp; omega) ?_; intro v8 w8 ht8 hg8; obtain ⟨a8, c8, hv8⟩ := tx_shape ht8; rw [HLN.out] at hv8; subst hv8; have H8 : Hid (StrsAt pb (.slice a8 (M0.length + 1) c8) (M0 ++ [text]) w8 ∧ Below wx.heap.size wx w8) := ⟨ht8.strs hpx, (H7.out.2.alloc hsz7 _).grown hg8 (by simp; omega) (fun k hk => by have := (World.ownsRow.lt H7.out.1 k hk).1; omega)⟩; have y28 := HY2.out w8 H8.out.2; clear ht8 hg8)
                  | (refine step_append_strs rfl (.tmp 56) (.tmp 59) rfl pb wx.heap.size M0 [text] (.slice a7 M0.length c7) _ (by simp [Act.eval]) (by simp [Act.eval]) H7.out.1 H59.out (by omega) (by simp; omega) ?_; intro v8 w8 ht8 hg8; obtain ⟨a8, c8, hv8⟩ := tx_shape ht8; rw [HLN.out] at hv8; subst hv8; have H8 : Hid (StrsAt pb (.slice a8 (M0.length + 1) c8) (M0 ++ [text]) w8 ∧ Below wx.heap.size wx w8) := ⟨ht8.strs hpx, H7.out.2.grown hg8 (by omega) (fun k hk => by have := (World.ownsRow.lt H7.out.1 k hk).1; omega)⟩; have y28 := HY2.out w8 H8.out.2; clear ht8 hg8))
                all_goals
                  go_wp2_with fail
                  go_meet
                  exact ⟨_, _, rfl, H8.out.1, H8.out.2⟩
              case rest =>
                obtain ⟨a8, c8, rfl, hst8, hb8⟩ := hcut
                obtain ⟨NX, hNX⟩ : ∃ NX, NX = M0 ++ [text] := ⟨_, rfl⟩
                rw [← hNX] at hst8
                have H8 : Hid (StrsAt pb (.slice a8 (M0.length + 1) c8) NX wc ∧ Below wx.heap.size wx wc) := ⟨hst8, hb8⟩
                have y28 := HY2.out wc hb8
                have hNXl : NX.length = M0.length + 1 := by rw [hNX]; simp
                clear hst8 hb8 y0 y1 y2 y3 y4
                have H9 : Hid (StrsAt pb (.slice a8 (M0.length + 1) c8) NX wc ∧ Below w.heap.size w wc ∧ KeepInv pb (k + 2) false (.pointer lp) M D wc ∧ MayAt pb (.slice (some ⟨mb, 0, none⟩) M.length cm) M wc ∧ DrumAt pb D wc ∧ pb < wc.heap.size) := ⟨H8.out.1, HB.out.2.2.2.2.1.trans (H8.out.2.mono HB.out.2.2.2.2.1.size), (HB.out.1.on H8.out.2).weaken, HB.out.2.1.on H8.out.2, HB.out.2.2.1.on H8.out.2, by have := H8.out.2.size; omega⟩
                have HNX : Hid (NX = M0 ++ [text] ∧ NX.length ≤ k + 52) := ⟨hNX, by omega⟩
                clear hNX hNXl
                rcases HB.out.1 with ⟨lb, a, g, R, hlp, hLb, hpl, hH, hd, hg, hMR⟩ | ⟨hd, _, hst, hMne, hop⟩
                · injection hlp with hlp
                  subst hlp
                  have hM0R : M0 = R := by rw [← HU0.out.2, hMR]; rfl
                  have CA : Hid (1 = 1 → Calls Try.prog 18 #[.pointer (some ⟨lb, 0, none⟩), .string (bs text)] wc fun e w1 => e = .returned (.int .i64 (appendF D a text).1) ∧ LgAt lb pb a g (appendF D a text).2 w1 ∧ Drm.Kept pb wc w1) := fun _ => append18 lb pb g a D text wc ⟨hLb.on H8.out.2, H9.out.2.2.2.2.1, hpl⟩ HB.out.2.2.2.1
                  have hkp := append_keeps (r := text) (G := k + 2) hH hd HB.out.2.2.2.1 (by omega)
                  have hok := appendF_ok HB.out.2.2.2.1 (a : Int) text
                  generalize appendF D a text = y at *
                  obtain ⟨x, D2⟩ := y
                  dsimp only at hkp CA hok
                  rcases hkp with ⟨rfl, _, h3, h4, _, _, _⟩ | ⟨hno, rfl⟩ | ⟨rfl, _, h2, h3⟩
                  · have HDn : Hid (Holds D2 a g NX ∧ D2.down = false ∧ D2.Ok ∧ pb < lb ∧ g ≤ k + 2) := ⟨by rw [HNX.out.1, hM0R]; exact h3, h4, hok, hpl, by omega⟩
                    clear h3 h4 hok hH hd hg hLb hpl hMR hM0R
                    go_wp2_with fail
                    refine (CA.out (by trivial)).mono ?_
                    rintro e w9 ⟨rfl, hL9, k9⟩
                    have Ha : Hid (StrsAt pb (.slice a8 (M0.length + 1) c8) NX w9 ∧ LgAt lb pb a g D2 w9 ∧ Below w.heap.size w w9) := ⟨H9.out.1.kept k9, hL9, H9.out.2.1.trans (k9.below.mono hwp)⟩
                    clear hL9 k9
                    go_wp2_with fail
                    go_meet
                    have hal9 : Below w9.heap.size w9 (w9.alloc (.cells #[.slice a8 (M0.length + 1) c8] 33)) := (Below.refl _ _).alloc (Nat.le_refl _) _
                    exact ⟨D2, [NX], by simp, fun R' hR' => by rw [List.mem_singleton.1 hR']; exact HNX.out.2, .inl ⟨lb, a, g, NX, rfl, Ha.out.2.1.blk.on hal9, HDn.out.2.2.2.1, HDn.out.1, HDn.out.2.1, HDn.out.2.2.2.2, rfl⟩, may_new w9 _ NX Ha.out.1 Ha.out.2.1.drum.lt, Ha.out.2.1.drum.on hal9, HDn.out.2.2.1, Ha.out.2.2.trans (hal9.mono Ha.out.2.2.size)⟩
                  · have hx : x = 3 ∨ x = 10 := by
                      rcases hno with ⟨h, _⟩ | ⟨h, _⟩
                      · exact .inl h
                      · exact .inr h
                    have HOk : Hid _ := hok
                    clear hno hok hH hd hg hLb hpl hMR hM0R
                    rcases hx with rfl | rfl
                    all_goals
                      go_wp2_with fail
                      refine (CA.out (by trivial)).mono ?_
                      rintro e w9 ⟨rfl, hL9, k9⟩
                      have Ha : Hid (KeepInv pb (k + 2) false (.pointer (some ⟨lb, 0, none⟩)) M D2 w9 ∧ MayAt pb (.slice (some ⟨mb, 0, none⟩) M.length cm) M w9 ∧ DrumAt pb D2 w9 ∧ Below w.heap.size w w9) := ⟨H9.out.2.2.1.kept k9, H9.out.2.2.2.1.kept k9, hL9.drum, H9.out.2.1.trans (k9.below.mono hwp)⟩
                      clear hL9 k9
                      go_wp2_with fail
                      go_meet
                      exact ⟨D2, M, by omega, fun R' hR' => by have := HML.out R' hR'; omega, Ha.out.1, Ha.out.2.1, Ha.out.2.2.1, HOk.out, Ha.out.2.2.2⟩
                  · have HDn : Hid (D2.down = true ∧ D2.Ok ∧ ∀ keep, ∃ R', R' ∈ M ++ [NX] ∧ Opens (D2.fall keep) R' (k + 2)) := ⟨h2, hok, fun keep => by
                      rcases h3 keep with h | h
                      · exact ⟨R, by rw [hMR]; simp, h⟩
                      · exact ⟨NX, by simp, by rw [HNX.out.1, hM0R]; exact h⟩⟩
                    clear h2 h3 hok hH hd hg hLb hpl hMR hM0R
                    go_wp2_with fail
                    refine (CA.out (by trivial)).mono ?_
                    rintro e w9 ⟨rfl, hL9, k9⟩
                    have Ha : Hid (StrsAt pb (.slice a8 (M0.length + 1) c8) NX w9 ∧ DrumAt pb D2 w9 ∧ Below w.heap.size w w9 ∧ MayAt pb (.slice (some ⟨mb, 0, none⟩) M.length cm) M w9 ∧ pb < w9.heap.size) := ⟨H9.out.1.kept k9, hL9.drum, H9.out.2.1.trans (k9.below.mono hwp), H9.out.2.2.2.1.kept k9, hL9.drum.lt⟩
                    clear hL9 k9
                    go_wp2_with (at_builtin; refine wpList_append_may rfl (.tmp 73) (.tmp 75) rfl pb M NX _ (.slice a8 (M0.length + 1) c8) rfl rfl Ha.out.2.2.2.1 Ha.out.1 Ha.out.2.2.2.2 (by omega) ?_; intro vb wb hMb hgb; have Hb : Hid _ := And.intro hMb hgb; clear hMb hgb)
                    go_meet
                    have hal9 : Below w9.heap.size w9 (w9.alloc (.cells #[.slice a8 (M0.length + 1) c8] 33)) := (Below.refl _ _).alloc (Nat.le_refl _) _
                    refine ⟨D2, M ++ [NX], by rw [List.length_append]; show M.length + 1 ≤ _; omega, fun R' hR' => ?_, .inr ⟨HDn.out.1, ⟨_, rfl⟩, fun h => absurd h (by decide), by simp, HDn.out.2.2⟩, Hb.out.1, DrumAt.grown (Ha.out.2.1.on hal9) Hb.out.2 (may_row2 (Ha.out.2.2.2.1.on hal9)), HDn.out.2.1, (Ha.out.2.2.1.trans (hal9.mono Ha.out.2.2.1.size)).grown Hb.out.2 (by have := Ha.out.2.2.1.size; simp; omega) (fun k hk => by have := (may_row Ha.out.2.2.2.1 k hk).1; omega)⟩
                    rcases List.mem_append.1 hR' with h | h
                    · have := HML.out R' h; omega
                    · rw [List.mem_singleton.1 h]; exact HNX.out.2
                · have hlpn := hst rfl
                  injection hlpn with hlpn
                  subst hlpn
                  have HDn : Hid (D.down = true ∧ ∀ keep, ∃ R', R' ∈ M ++ [NX] ∧ Opens (D.fall keep) R' (k + 2)) := ⟨hd, fun keep => by
                    obtain ⟨R', h1, h2⟩ := hop keep
                    exact ⟨R', by simp [h1], h2.more (by omega)⟩⟩
                  clear hd hst hMne hop
                  have CA : Hid (1 = 1 → Calls Try.prog 18 #[.pointer none, .string (bs text)] wc fun e w1 => e = .returned (.int .i64 11) ∧ wc = w1) := fun _ => append18_nil _ _
                  go_wp2_with fail
                  refine (CA.out (by trivial)).mono ?_
                  rintro e w9 ⟨rfl, rfl⟩
                  go_wp2_with (at_builtin; refine wpList_append_may rfl (.tmp 73) (.tmp 75) rfl pb M NX _ (.slice a8 (M0.length + 1) c8) rfl rfl H9.out.2.2.2.1 H9.out.1 H9.out.2.2.2.2.2 (by omega) ?_; intro vb wb hMb hgb; have Hb : Hid _ := And.intro hMb hgb; clear hMb hgb)
                  go_meet
                  have hal9 : Below wc.heap.size wc (wc.alloc (.cells #[.slice a8 (M0.length + 1) c8] 33)) := (Below.refl _ _).alloc (Nat.le_refl _) _
                  refine ⟨D, M ++ [NX], by rw [List.length_append]; show M.length + 1 ≤ _; omega, fun R' hR' => ?_, .inr ⟨HDn.out.1, ⟨_, rfl⟩, fun h => absurd h (by decide), by simp, HDn.out.2⟩, Hb.out.1, DrumAt.grown (H9.out.2.2.2.2.1.on hal9) Hb.out.2 (may_row2 (H9.out.2.2.2.1.on hal9)), HB.out.2.2.2.1, (H9.out.2.1.trans (hal9.mono H9.out.2.1.size)).grown Hb.out.2 (by have := H9.out.2.1.size; simp; omega) (fun k hk => by have := (may_row H9.out.2.2.2.1 k hk).1; omega)⟩
                  rcases List.mem_append.1 hR' with h | h
                  · have := HML.out R' h; omega
                  · rw [List.mem_singleton.1 h]; exact HNX.out.2
            · have hpx : pb < wx.heap.size := HB.out.2.2.1.lt
              have hE6 : Below wx.heap.size wx (wx.alloc (.cells #[] 9)) := (Below.refl _ _).alloc (Nat.le_refl _) _
              have HE6 : Hid (Below wx.heap.size wx (wx.alloc (.cells #[] 9))) := hE6
              have HLS : Hid (StrsAt pb (.slice al list.length cl1) list wx) := HS.out.1.strs hwp HB.out.2.2.2.2.1
              have hl50 := HS.out.2
              have hy3 : ∀ wy, Below wx.heap.size wx wy → wy.cell? ⟨xb, 3, none⟩ = some (.slice al list.length cl1) := fun wy h => cell_below y3 h (World.block_lt_of_cell? _ _ y3)
              have HY3 : Hid _ := hy3
              have ya := hy3 _ hE6
              clear hE6 hy3
              go_wp2_with (at_builtin; refine wpList_append_strs rfl (.tmp 79) (.tmp 81) rfl pb wx.heap.size [] list _ _ rfl rfl (own_empty wx wx.heap.size (Nat.le_refl _)) (HLS.out.on HE6.out) (by simp) (by simp; omega) ?_; intro v7 w7 ht7 hg7; rw [List.nil_append] at ht7; obtain ⟨a7, c7, hv7⟩ := tx_shape ht7; subst hv7; have H8 : Hid (StrsAt pb (.slice a7 list.length c7) list w7 ∧ Below wx.heap.size wx w7) := ⟨ht7.strs hpx, HE6.out.grown hg7 (by simp) (fun k hk => own_le hk)⟩; have y27 := HY3.out w7 H8.out.2; clear ht7 hg7)
              clear y0 y1 y2 y3 y4 ya
              have H9 : Hid (StrsAt pb (.slice a7 list.length c7) list w7 ∧ Below w.heap.size w w7 ∧ KeepInv pb (k + 2) false (.pointer lp) M D w7 ∧ MayAt pb (.slice (some ⟨mb, 0, none⟩) M.length cm) M w7 ∧ DrumAt pb D w7 ∧ pb < w7.heap.size ∧ StrsAt pb (.slice al list.length cl1) list w7) := ⟨H8.out.1, HB.out.2.2.2.2.1.trans (H8.out.2.mono HB.out.2.2.2.2.1.size), (HB.out.1.on H8.out.2).weaken, HB.out.2.1.on H8.out.2, HB.out.2.2.1.on H8.out.2, by have := H8.out.2.size; omega, HLS.out.on H8.out.2⟩
              rcases HB.out.1 with ⟨lb, a, g, R, hlp, hLb, hpl, hH, hd, hg, hMR⟩ | ⟨hd, _, hst, hMne, hop⟩
              · injection hlp with hlp
                subst hlp
                have CA : Hid (1 = 1 → Calls Try.prog 20 #[.pointer (some ⟨lb, 0, none⟩), .slice al list.length cl1] w7 (RenPost lb pb w7 (renewF D a g list))) := fun _ => renew20 lb pb g a D list _ w7 ⟨hLb.on H8.out.2, H9.out.2.2.2.2.1, hpl⟩ HB.out.2.2.2.1 H9.out.2.2.2.2.2.2 (by omega)
                have HLb : Hid (LbAt lb pb a g w7) := hLb.on H8.out.2
                have hkp := renew_keeps (L := list) (G := k + 2) hH hd HB.out.2.2.2.1 (by omega) (by omega)
                have hok := renewF_ok HB.out.2.2.2.1 (a : Int) g list
                unfold RenKeeps at hkp
                generalize renewF D a g list = y at *
                obtain ⟨x, ⟨a2, g2⟩, D2⟩ := y
                dsimp only at hkp CA hok
                rcases hkp with ⟨rfl, _, s2, h2, h3, h4, _, _, _⟩ | ⟨hno, h2, hor⟩ | ⟨rfl, _, h2, h3⟩
                · injection h2 with h2 h2'
                  subst h2 h2'
                  have HDn : Hid (Holds D2 s2 (g + 1) list ∧ D2.down = false ∧ D2.Ok ∧ pb < lb ∧ g + 1 ≤ k + 2) := ⟨h3, h4, hok, hpl, by omega⟩
                  clear h3 h4 hok hH hd hg hLb hpl hMR
                  go_wp2_with fail
                  refine (CA.out (by trivial)).mono ?_
                  rintro e w9 ⟨rfl, hL9, k9⟩
                  have Ha : Hid (StrsAt pb (.slice a7 list.length c7) list w9 ∧ LgAt lb pb s2 (g + 1) D2 w9 ∧ Below w.heap.size w w9) := ⟨H9.out.1.keep2 HLb.out k9, hL9, H9.out.2.1.trans (k9.below.mono hwp)⟩
                  clear hL9 k9
                  go_wp2_with fail
                  go_meet
                  have hal9 : Below w9.heap.size w9 (w9.alloc (.cells #[.slice a7 list.length c7] 33)) := (Below.refl _ _).alloc (Nat.le_refl _) _
                  exact ⟨D2, [list], by simp, fun R' hR' => by rw [List.mem_singleton.1 hR']; omega, .inl ⟨lb, s2, g + 1, list, rfl, Ha.out.2.1.blk.on hal9, HDn.out.2.2.2.1, HDn.out.1, HDn.out.2.1, HDn.out.2.2.2.2, rfl⟩, may_new w9 _ list Ha.out.1 Ha.out.2.1.drum.lt, Ha.out.2.1.drum.on hal9, HDn.out.2.2.1, Ha.out.2.2.trans (hal9.mono Ha.out.2.2.size)⟩
                · have hx : x = 3 ∨ x = 10 := by
                    rcases hno with ⟨h, _⟩ | ⟨h, _⟩
                    · exact .inl h
                    · exact .inr h
                  injection h2 with h2 h2'
                  rw [h2, h2'] at CA
                  clear h2 h2'
                  have HDn : Hid (D2.Ok ∧ pb < lb ∧ g ≤ k + 2 ∧ M = [R] ∧ (Holds D2 a g R ∧ D2.down = false ∨ D2.down = true ∧ ∀ keep, Opens (D2.fall keep) R (k + 2))) := ⟨hok, hpl, by omega, hMR, by
                    rcases hor with ⟨h3, h4, _⟩ | ⟨_, h3, h4⟩
                    · exact .inl ⟨h3, h4⟩
                    · exact .inr ⟨h3, h4⟩⟩
                  clear hno hok hH hd hg hLb hpl hMR hor
                  rcases hx with rfl | rfl
                  all_goals
                    go_wp2_with fail
                    refine (CA.out (by trivial)).mono ?_
                    rintro e w9 ⟨rfl, hL9, k9⟩
                    have Ha : Hid (LgAt lb pb a g D2 w9 ∧ MayAt pb (.slice (some ⟨mb, 0, none⟩) M.length cm) M w9 ∧ Below w.heap.size w w9) := ⟨hL9, H9.out.2.2.2.1.keep2 HLb.out k9, H9.out.2.1.trans (k9.below.mono hwp)⟩
                    clear hL9 k9
                    go_wp2_with fail
                    go_meet
                    refine ⟨D2, M, by omega, fun R' hR' => by have := HML.out R' hR'; omega, ?_, Ha.out.2.1, Ha.out.1.drum, HDn.out.1, Ha.out.2.2⟩
                    rcases HDn.out.2.2.2.2 with ⟨h3, h4⟩ | ⟨h3, h4⟩
                    · exact .inl ⟨lb, a, g, R, rfl, Ha.out.1.blk, HDn.out.2.1, h3, h4, HDn.out.2.2.1, HDn.out.2.2.2.1⟩
                    · exact .inr ⟨h3, ⟨_, rfl⟩, fun h => absurd h (by decide), by rw [HDn.out.2.2.2.1]; simp, fun keep => ⟨R, by rw [HDn.out.2.2.2.1]; simp, h4 keep⟩⟩
                · have HDn : Hid (D2.down = true ∧ D2.Ok ∧ ∀ keep, ∃ R', R' ∈ M ++ [list] ∧ Opens (D2.fall keep) R' (k + 2)) := ⟨h2, hok, fun keep => by
                    rcases h3 keep with h | h
                    · exact ⟨R, by rw [hMR]; simp, h⟩
                    · exact ⟨list, by simp, h⟩⟩
                  clear h2 h3 hok hH hd hg hLb hpl hMR
                  go_wp2_with fail
                  refine (CA.out (by trivial)).mono ?_
                  rintro e w9 ⟨rfl, hL9, k9⟩
                  have Ha : Hid (StrsAt pb (.slice a7 list.length c7) list w9 ∧ DrumAt pb D2 w9 ∧ Below w.heap.size w w9 ∧ MayAt pb (.slice (some ⟨mb, 0, none⟩) M.length cm) M w9 ∧ pb < w9.heap.size) := ⟨H9.out.1.keep2 HLb.out k9, hL9.drum, H9.out.2.1.trans (k9.below.mono hwp), H9.out.2.2.2.1.keep2 HLb.out k9, hL9.drum.lt⟩
                  clear hL9 k9
                  go_wp2_with (at_builtin; refine wpList_append_may rfl (.tmp 95) (.tmp 97) rfl pb M list _ (.slice a7 list.length c7) rfl rfl Ha.out.2.2.2.1 Ha.out.1 Ha.out.2.2.2.2 (by omega) ?_; intro vb wb hMb hgb; have Hb : Hid _ := And.intro hMb hgb; clear hMb hgb)
                  go_meet
                  have hal9 : Below w9.heap.size w9 (w9.alloc (.cells #[.slice a7 list.length c7] 33)) := (Below.refl _ _).alloc (Nat.le_refl _) _
                  refine ⟨D2, M ++ [list], by rw [List.length_append]; show M.length + 1 ≤ _; omega, fun R' hR' => ?_, .inr ⟨HDn.out.1, ⟨_, rfl⟩, fun h => absurd h (by decide), by simp, HDn.out.2.2⟩, Hb.out.1, DrumAt.grown (Ha.out.2.1.on hal9) Hb.out.2 (may_row2 (Ha.out.2.2.2.1.on hal9)), HDn.out.2.1, (Ha.out.2.2.1.trans (hal9.mono Ha.out.2.2.1.size)).grown Hb.out.2 (by have := Ha.out.2.2.1.size; simp; omega) (fun k hk => by have := (may_row Ha.out.2.2.2.1 k hk).1; omega)⟩
                  rcases List.mem_append.1 hR' with h | h
                  · have := HML.out R' h; omega
                  · rw [List.mem_singleton.1 h]; omega
              · have hlpn := hst rfl
                injection hlpn with hlpn
                subst hlpn
                have HDn : Hid (D.down = true ∧ ∀ keep, ∃ R', R' ∈ M ++ [list] ∧ Opens (D.fall keep) R' (k + 2)) := ⟨hd, fun keep => by
                  obtain ⟨R', h1, h2⟩ := hop keep
                  exact ⟨R', by simp [h1], h2.more (by omega)⟩⟩
                clear hd hst hMne hop
                have CA : Hid (1 = 1 → Calls Try.prog 20 #[.pointer none, .slice al list.length cl1] w7 fun e w1 => e = .returned (.int .i64 11) ∧ w7 = w1) := fun _ => renew20_nil _ _
                go_wp2_with fail
                refine (CA.out (by trivial)).mono ?_
                rintro e w9 ⟨rfl, rfl⟩
                go_wp2_with (at_builtin; refine wpList_append_may rfl (.tmp 95) (.tmp 97) rfl pb M list _ (.slice a7 list.length c7) rfl rfl H9.out.2.2.2.1 H9.out.1 H9.out.2.2.2.2.2.1 (by omega) ?_; intro vb wb hMb hgb; have Hb : Hid _ := And.intro hMb hgb; clear hMb hgb)
                go_meet
                have hal9 : Below w7.heap.size w7 (w7.alloc (.cells #[.slice a7 list.length c7] 33)) := (Below.refl _ _).alloc (Nat.le_refl _) _
                refine ⟨D, M ++ [list], by rw [List.length_append]; show M.length + 1 ≤ _; omega, fun R' hR' => ?_, .inr ⟨HDn.out.1, ⟨_, rfl⟩, fun h => absurd h (by decide), by simp, HDn.out.2⟩, Hb.out.1, DrumAt.grown (H9.out.2.2.2.2.1.on hal9) Hb.out.2 (may_row2 (H9.out.2.2.2.1.on hal9)), HB.out.2.2.2.1, (H9.out.2.1.trans (hal9.mono H9.out.2.1.size)).grown Hb.out.2 (by have := H9.out.2.1.size; simp; omega) (fun k hk => by have := (may_row H9.out.2.2.2.1 k hk).1; omega)⟩
                rcases List.mem_append.1 hR' with h | h
                · have := HML.out R' h; omega
                · rw [List.mem_singleton.1 h]; omega
            · have CFu : Hid (1 = 1 → Calls Try.prog 17 #[.pointer (some ⟨pb, 0, none⟩), .int .i64 nn] wx fun e w' => e = .returned (.tuple #[]) ∧ DrumAt pb { D with fuel := nn } w' ∧ Drm.Kept pb wx w') := fun _ => Drm.fuel27 pb D nn wx HB.out.2.2.1
              go_wp2_with fail
              refine (CFu.out (by trivial)).mono ?_
              rintro e w9 ⟨rfl, hD9, k9⟩
              have H9 : Hid (KeepInv pb (k + 2) false (.pointer lp) M { D with fuel := nn } w9 ∧ MayAt pb (.slice (some ⟨mb, 0, none⟩) M.length cm) M w9 ∧ DrumAt pb { D with fuel := nn } w9 ∧ ({ D with fuel := nn } : Dr).Ok ∧ Below w.heap.size w w9) := ⟨(HB.out.1.weaken.fuelled nn).kept k9, HB.out.2.1.kept k9, hD9, HB.out.2.2.2.1.fuelled nn HKp.out.2.n0 HKp.out.2.n1, HB.out.2.2.2.2.1.trans (k9.below.mono hwp)⟩
              clear hD9 k9
              go_wp2_with fail
              go_meet
              exact ⟨_, M, by omega, fun R hR => by have := HML.out R hR; omega, H9.out.1, H9.out.2.1, H9.out.2.2.1, H9.out.2.2.2.1, H9.out.2.2.2.2⟩
            · obtain ⟨R, hRM, a4, g4, hg4, D4, ho4, hh4, hd4, _, _⟩ : ∃ R, R ∈ M ∧ Opens (D.fall keep) R (k + 1) := by
                rcases HB.out.1 with ⟨lb, a, g, R, _, _, _, h4, _, h6, h7⟩ | ⟨_, _, _, _, h5⟩
                · exact ⟨R, by rw [h7]; simp, holds_opens h4 HB.out.2.2.2.1 h6 keep⟩
                · exact h5 keep
              have hO4 := ok_open (HB.out.2.2.2.1.fall keep) ho4
              have hRl := HML.out R hRM
              have CF : Hid (1 = 1 → Calls Try.prog 15 #[.pointer (some ⟨pb, 0, none⟩), .slice ka keep.length kc] wx fun e w1 => e = .returned (.tuple #[]) ∧ DrumAt pb (D.fall keep) w1 ∧ Drm.Kept pb wx w1) := fun _ => Drm.fall26 pb D _ keep wx HB.out.2.2.1 HB.out.2.2.2.1 (HKp.out.1.at HB.out.2.2.2.2.1 hwp) HKp.out.2.keep HKp.out.2.len
              have CO : Hid (∀ w', DrumAt pb (D.fall keep) w' → Calls Try.prog 11 #[.pointer (some ⟨pb, 0, none⟩)] w' fun e w1 => ∃ lb V, e = .returned (.tuple #[.pointer (some ⟨lb, 0, none⟩), V, .int .i64 0]) ∧ LgAt lb pb a4 g4 D4 w1 ∧ TxAt w'.heap.size V R w1 ∧ w'.heap.size ≤ lb ∧ Drm.Kept pb w' w1) := fun w' h => open_ok pb w' h (HB.out.2.2.2.1.fall keep) rfl ho4
              have HD4 : Hid (Holds D4 a4 g4 R ∧ D4.down = false ∧ D4.Ok ∧ g4 ≤ k + 1 ∧ R ∈ M) := ⟨hh4, hd4, hO4, hg4, hRM⟩
              clear ho4 hh4 hd4 hO4 hg4 hRM
              go_wp2_with fail
              refine (CF.out (by trivial)).mono ?_
              rintro e w5 ⟨rfl, hD5, k5⟩
              have H5 : Hid (MayAt pb (.slice (some ⟨mb, 0, none⟩) M.length cm) M w5 ∧ DrumAt pb (D.fall keep) w5 ∧ Below w.heap.size w w5 ∧ pb < w5.heap.size) := ⟨HB.out.2.1.kept k5, hD5, HB.out.2.2.2.2.1.trans (k5.below.mono hwp), hD5.lt⟩
              clear hD5 k5
              go_wp2_with fail
              refine (CO.out _ H5.out.2.1).mono ?_
              rintro e w6 ⟨lb6, V6, rfl, hL6, hV6, hlb6, k6⟩
              obtain ⟨a6, c6, rfl⟩ := tx_shape hV6
              have H6 : Hid (MayAt pb (.slice (some ⟨mb, 0, none⟩) M.length cm) M w6 ∧ LgAt lb6 pb a4 g4 D4 w6 ∧ Below w.heap.size w w6 ∧ StrsAt pb (.slice a6 R.length c6) R w6) := ⟨H5.out.1.kept k6, hL6, H5.out.2.2.1.trans (k6.below.mono hwp), hV6.strs H5.out.2.2.2⟩
              clear hL6 hV6 hlb6 k6
              go_wp2_with fail
              go_loopw [17, 119] (fun f j wq => ∃ q : Nat, q ≤ M.length ∧ j = .int .i64 q ∧ f = .bool (decide (R ∈ M.take q)) ∧ Below w6.heap.size w6 wq) (fun _ j _ => M.length - (intOf j).toNat)
              case atStart => exact ⟨0, by omega, rfl, by simp, Below.refl _ _⟩
              case round =>
                obtain ⟨q, hq, rfl, rfl, hbq⟩ := hrel
                have HBq : Hid (Below w6.heap.size w6 wr) := hbq
                clear hbq
                by_cases hql : q < M.length
                · obtain ⟨ao2, mb2, cp2, hms2, hmb2, hmc2⟩ := (H6.out.1.on HBq.out).cells
                  injection hms2 with e1 _ e3
                  clear e3
                  obtain ⟨uq, huq, husq⟩ := hmc2 q hql
                  have hmbe := hmb2 (by omega)
                  rw [← e1] at hmbe
                  injection hmbe with hmbe
                  injection hmbe with hmbe _
                  subst hmbe
                  have HSame : Hid (1 = 1 → Calls Try.prog 13 #[uq, .slice a6 R.length c6] wr fun e w' => e = .returned (.bool (decide (M.getD q [] = R))) ∧ Below wr.heap.size wr w') := fun _ => same13 pb pb (M.getD q []) R _ _ wr husq (H6.out.2.2.2.on HBq.out) (by have := HML.out (M.getD q []) (by simp [List.getD, List.getElem?_eq_getElem hql]); omega)
                  have hin := in_more (R := R) hql
                  generalize M.getD q [] = Rq at husq HSame hin
                  obtain ⟨aq, cq, rfl, _⟩ := husq
                  obtain ⟨f, hf⟩ : ∃ f, decide (R ∈ M.take q) = f := ⟨_, rfl⟩
                  obtain ⟨f2, hf2⟩ : ∃ f2, decide (Rq = R) = f2 := ⟨_, rfl⟩
                  rw [hf, hf2] at hin
                  rw [hf]
                  rw [hf2] at HSame
                  have HIN : Hid (decide (R ∈ M.take (q + 1)) = (f || f2)) := hin
                  clear hin hf hf2 hmc2 hmb2 e1
                  cases f with
                  | true =>
                    go_wp2_with fail
                    go_roundw
                    case rel => exact ⟨q + 1, by omega, by go_num, by rw [HIN.out]; rfl, HBq.out⟩
                    case measure => simp [intOf]; omega
                  | false =>
                    go_wp2_with fail
                    refine (HSame.out (by trivial)).mono ?_
                    rintro e w8 ⟨rfl, hb8⟩
                    have H8 : Hid (Below w6.heap.size w6 w8) := HBq.out.trans (hb8.mono HBq.out.size)
                    clear hb8
                    go_wp2_with fail
                    go_roundw
                    case rel => exact ⟨q + 1, by omega, by go_num, by rw [HIN.out]; simp, H8.out⟩
                    case measure => simp [intOf]; omega
                · have hfq : decide (R ∈ M.take q) = true := by
                    rw [List.take_of_length_le (by omega)]
                    exact decide_eq_true HD4.out.2.2.2.2
                  rw [hfq]
                  clear hfq
                  have hsz6 := HBq.out.size
                  have hal7 : Below wr.heap.size wr (wr.alloc (.cells #[.slice a6 R.length c6] 33)) := (Below.refl _ _).alloc (Nat.le_refl _) _
                  have H7 : Hid (KeepInv pb (k + 2) false (.pointer (some ⟨lb6, 0, none⟩)) [R] D4 (wr.alloc (.cells #[.slice a6 R.length c6] 33)) ∧ MayAt pb (.slice (some ⟨wr.heap.size, 0, none⟩) 1 1) [R] (wr.alloc (.cells #[.slice a6 R.length c6] 33)) ∧ DrumAt pb D4 (wr.alloc (.cells #[.slice a6 R.length c6] 33)) ∧ Below w.heap.size w (wr.alloc (.cells #[.slice a6 R.length c6] 33))) :=
                    ⟨.inl ⟨lb6, a4, g4, R, rfl, (H6.out.2.1.blk.on HBq.out).on hal7, H6.out.2.1.ne, HD4.out.1, HD4.out.2.1, by have := HD4.out.2.2.2.1; omega, rfl⟩, may_new wr _ R (H6.out.2.2.2.on HBq.out) (H6.out.2.1.on HBq.out).drum.lt, (H6.out.2.1.on HBq.out).drum.on hal7, (H6.out.2.2.1.trans (HBq.out.mono H6.out.2.2.1.size)).trans (hal7.mono (by have := H6.out.2.2.1.size; omega))⟩
                  clear hal7
                  go_wp2_with fail
                  go_meet
                  exact ⟨D4, [R], by simp, fun R' hR' => by rw [List.mem_singleton.1 hR']; omega, H7.out.1, H7.out.2.1, H7.out.2.2.1, HD4.out.2.2.1, H7.out.2.2.2⟩
            · have q0 : (what == 0) = false := by simpa using hw0
              have q1 : (what == 1) = false := by simpa using hw1
              have q2 : (what == 2) = false := by simpa using hw2
              have q3 : (what == 3) = false := by simpa using hw3
              clear hw0 hw1 hw2 hw3
              go_wp2_with fail
              go_meet
              exact ⟨D, M, by omega, fun R hR => by have := HML.out R hR; omega, HB.out.1.weaken, HB.out.2.1, HB.out.2.2.1, HB.out.2.2.2.1, HB.out.2.2.2.2.1⟩
          case rest =>
            obtain ⟨D', M', hl1, hl2, hKI, hMy, hDr, hO', hBl⟩ := hcut
            obtain ⟨am', cm', rfl⟩ := hMy.shape
            have HZ : Hid (MayAt pb (.slice am' M'.length cm') M' wc ∧ DrumAt pb D' wc ∧ D'.Ok ∧ Below w.heap.size w wc ∧ ∀ R ∈ M', R.length ≤ k + 52) := ⟨hMy, hDr, hO', hBl, hl2⟩
            have CD : Hid (1 = 1 → Calls Try.prog 24 #[.pointer (some ⟨pb, 0, none⟩)] wc fun e w' => e = .returned (.bool D'.down) ∧ wc = w') := fun _ => by
              obtain ⟨vs, h⟩ := HZ.out.2.1
              exact Drm.down13 pb _ wc h.down
            clear hMy hDr hO' hBl hl2 y0 y1 y2 y3 y4 HB HU0 hu0
            cases hdn : D'.down with
            | true =>
              rw [hdn] at CD
              obtain ⟨p5, hp5, hne, hop⟩ : ∃ p5, u5 = .pointer p5 ∧ M' ≠ [] ∧ ∀ keep, ∃ R, R ∈ M' ∧ Opens (D'.fall keep) R (k + 2) := by
                rcases hKI with ⟨_, _, _, _, _, _, _, _, h, _⟩ | ⟨_, ⟨p, h1⟩, _, h2, h3⟩
                · rw [hdn] at h; exact absurd h (by decide)
                · exact ⟨p, h1, h2, h3⟩
              subst hp5
              have HN : Hid (D'.down = true ∧ M' ≠ [] ∧ ∀ keep, ∃ R, R ∈ M' ∧ Opens (D'.fall keep) R (k + 2)) := ⟨hdn, hne, hop⟩
              clear hKI hdn hne hop
              go_wp2_with (go_at_call 24; refine (CD.out (by trivial)).mono ?_; rintro e w9 ⟨rfl, rfl⟩)
              go_roundw
              case rel => exact ⟨k + 1, D', M', by omega, by go_num, hl1, HZ.out.2.2.2.2, by omega, .inr ⟨HN.out.1, ⟨_, rfl⟩, fun _ => rfl, HN.out.2.1, HN.out.2.2⟩, HZ.out.1, HZ.out.2.1, HZ.out.2.2.1, HZ.out.2.2.2.1⟩
              case measure => simp [intOf]; omega
            | false =>
              rw [hdn] at CD
              obtain ⟨lb5, hp5, hKI2⟩ : ∃ lb5, u5 = .pointer (some ⟨lb5, 0, none⟩) ∧ KeepInv pb (k + 2) true u5 M' D' wc := by
                rcases hKI with ⟨lb, a, g, R, h1, h2⟩ | ⟨h, _⟩
                · exact ⟨lb, h1, .inl ⟨lb, a, g, R, h1, h2⟩⟩
                · rw [hdn] at h; exact absurd h (by decide)
              subst hp5
              have HN : Hid (KeepInv pb (k + 2) true (.pointer (some ⟨lb5, 0, none⟩)) M' D' wc) := hKI2
              clear hKI hdn hKI2
              go_wp2_with (go_at_call 24; refine (CD.out (by trivial)).mono ?_; rintro e w9 ⟨rfl, rfl⟩)
              go_roundw
              case rel => exact ⟨k + 1, D', M', by omega, by go_num, hl1, HZ.out.2.2.2.2, by omega, HN.out, HZ.out.1, HZ.out.2.1, HZ.out.2.2.1, HZ.out.2.2.2.1⟩
              case measure => simp [intOf]; omega
      · go_wp2_with fail
        exact HQ.out _ HR.out.2.2.2.2

end Go.Proofs.Ytjjdmeemhgopbaa
