/-
  The document's store: what it has in memory; Put.
-/
import Derived.Test.YtcfhkggijdjagaaRset
import Derived.Test.YtcfhkggijdjagaaCRefPut
import Derived.Test.YtcfhkggijdjagaaCPutv
namespace Go.Proofs.Ytcfhkggijdjagaa
open Go.RowKit

theorem Chs.get {w : World} (k : List UInt8) : ∀ {L : Kv Sv} {S : Sk}, Chs w L S → VsAt w.heap.size (svV ((getF k L).getD (none, 0, 0))) (chainF k S) w
  | [], [], _ => vs_nil _ _
  | (a, s) :: L, (q, c) :: S, h => by
    obtain ⟨rfl, h1, h2⟩ := h
    unfold chainF getF
    by_cases e : (a == k) = true
    · rw [if_pos e, if_pos e]; exact h1
    · rw [if_neg e, if_neg e]; exact Chs.get k h2
theorem Chs.set {w : World} {k : List UInt8} {s : Sv} {c : List Ve} (hv : VsAt w.heap.size (svV s) c w) : ∀ {L : Kv Sv} {S : Sk}, Chs w L S → Chs w (setF k s L) (setF k c S)
  | [], [], _ => ⟨rfl, hv, trivial⟩
  | (a, t) :: L, (q, d) :: S, h => by
    obtain ⟨rfl, h1, h2⟩ := h
    unfold setF
    by_cases e : ltK a k = true
    · rw [if_pos e, if_pos e]; exact ⟨rfl, h1, Chs.set hv h2⟩
    · rw [if_neg e, if_neg e]
      by_cases e2 : (a == k) = true
      · rw [if_pos e2, if_pos e2]; exact ⟨rfl, hv, h2⟩
      · rw [if_neg e2, if_neg e2]; exact ⟨rfl, hv, rfl, h1, h2⟩
theorem Chs.cut {w : World} (k : List UInt8) : ∀ {L : Kv Sv} {S : Sk}, Chs w L S → Chs w (cutF k L) (cutF k S)
  | [], [], _ => trivial
  | (a, t) :: L, (q, d) :: S, h => by
    obtain ⟨rfl, h1, h2⟩ := h
    unfold cutF
    by_cases e : (a == k) = true
    · rw [if_pos e, if_pos e]; exact h2
    · rw [if_neg e, if_neg e]; exact ⟨rfl, h1, Chs.cut k h2⟩

/-- The document's store in memory. -/
structure Rs (B rb : Nat) (sl : Value) (L : Kv Sv) (S : Sk) (w : World) : Prop where
  ref : RefAt B rb sl L w
  chs : Chs w L S
  sok : SOk S
def RsAt (B rb : Nat) (F : Nat → Prop) (S : Sk) (w : World) : Prop := ∃ sl L, Rs B rb sl L S w ∧ F = foot rb sl
theorem RefAt.noVe {B rb : Nat} {sl : Value} {L : Kv Sv} {w : World} (h : RefAt B rb sl L w) : NoVe w rb := noVe_small h.box (by simp)
theorem Rs.on {B rb : Nat} {sl : Value} {L : Kv Sv} {S : Sk} {w w' : World} (h : Rs B rb sl L S w) (hb : Below w.heap.size w w') : Rs B rb sl L S w' := ⟨h.ref.on hb, h.chs.on hb, h.sok⟩
theorem Rs.kept {B rb : Nat} {sl : Value} {L : Kv Sv} {S : Sk} {w w' : World} {G : Nat → Prop} (h : Rs B rb sl L S w) (hk : Kept G w w') (hF : ∀ k, foot rb sl k → ¬ G k) (hG : ∀ k, G k → NoVe w k) : Rs B rb sl L S w' := ⟨h.ref.kept hk hF, Chs.kept hk hG h.chs, h.sok⟩
theorem RsAt.on {B rb : Nat} {F : Nat → Prop} {S : Sk} {w w' : World} (h : RsAt B rb F S w) (hb : Below w.heap.size w w') : RsAt B rb F S w' := by
  obtain ⟨sl, L, h1, h2⟩ := h
  exact ⟨sl, L, h1.on hb, h2⟩

/-- A key's chain is another one now. -/
theorem Rs.set34 {B rb : Nat} {sl : Value} {L : Kv Sv} {S : Sk} {w : World} (h : Rs B rb sl L S w) (hl : S.length < 500000) {k : List UInt8} {s : Sv} {c : List Ve} (hv : VsAt w.heap.size (svV s) c w) (hc : Ch c) (hne : c ≠ []) :
    Calls Try.prog 35 #[.pointer (some ⟨rb, 0, none⟩), .string (bs k), .slice s.1 s.2.1 s.2.2] w fun e w' => e = .returned (.tuple #[]) ∧ ∃ sl' L', Rs B rb sl' L' (setF k c S) w' ∧ Kept (fun i => i = rb) w w' ∧ ∀ i, sl'.ownBlock = some i → w.heap.size ≤ i := by
  have hlen : s.2.1 = c.length := by
    obtain ⟨ao, cap, e, _⟩ := hv
    simp only [svV, Value.slice.injEq] at e
    exact e.2.1
  refine (Go.Proofs.Ytcfhkggijdjagaa.set34 B rb sl L k s w h.ref (by rw [h.chs.len]; exact hl) (by rw [hlen]; exact List.length_pos_iff.2 hne)).mono ?_
  rintro e w' ⟨rfl, sl', h1, hk, hn⟩
  have hG : ∀ i, i = rb → NoVe w i := fun i e => e ▸ h.ref.noVe
  refine ⟨rfl, sl', _, ⟨h1, Chs.set ((VsAt.kept hv hk hG).le hk.size) (Chs.kept hk hG h.chs), setF_srt h.sok.srt, fun x hx => ?_⟩, hk, hn⟩
  rcases setF_keys hx with rfl | hx
  · exact ⟨hc, hne⟩
  · exact h.sok.all x hx
theorem Rs.cut34 {B rb : Nat} {sl : Value} {L : Kv Sv} {S : Sk} {w : World} (h : Rs B rb sl L S w) (hl : S.length < 500000) {k : List UInt8} {s : Sv} (hs : s.2.1 = 0) :
    Calls Try.prog 35 #[.pointer (some ⟨rb, 0, none⟩), .string (bs k), .slice s.1 s.2.1 s.2.2] w fun e w' => e = .returned (.tuple #[]) ∧ ∃ sl' L', Rs B rb sl' L' (cutF k S) w' ∧ Kept (fun i => i = rb) w w' ∧ ∀ i, sl'.ownBlock = some i → w.heap.size ≤ i := by
  refine (set34_cut B rb sl L k s w h.ref (by rw [h.chs.len]; exact hl) hs).mono ?_
  rintro e w' ⟨rfl, sl', h1, hk, hn⟩
  have hG : ∀ i, i = rb → NoVe w i := fun i e => e ▸ h.ref.noVe
  exact ⟨rfl, sl', _, ⟨h1, Chs.cut k (Chs.kept hk hG h.chs), cutF_srt h.sok.srt, fun x hx => h.sok.all x (cutF_sub hx)⟩, hk, hn⟩

set_option maxHeartbeats 1600000 in
theorem put12 (B rb : Nat) (F : Nat → Prop) (S : Sk) (k : List UInt8) (x : Ve) (w : World) (h : RsAt B rb F S w) (hl : S.length < 500000) :
    Calls Try.prog 12 #[.pointer (some ⟨rb, 0, none⟩), .string (bs k), veV x] w fun e w' => e = .returned (.int .i64 (putS k x S).2) ∧ ∃ F', RsAt B rb F' (putS k x S).1 w' ∧ Kept (fun i => i = rb) w w' ∧ ∀ i, F' i → F i ∨ w.heap.size ≤ i := by
  obtain ⟨sl, L, hr, rfl⟩ := h
  obtain ⟨xp, xl, xc, xn, xs, xd⟩ := x
  have HB0 : Hid (Below w.heap.size w (w.alloc (.cells #[.int .u64 xp, .int .u32 xl, .int .u32 xc, .int .u32 xn, .string (bs xs), .bool xd] 37))) := (Below.refl _ _).alloc (Nat.le_refl _) _
  have CK : Hid (∀ W : World, 1 = 1 → Calls Try.prog 32 #[.string (bs k)] W fun e w' => e = .returned (.bool (keyB k)) ∧ w' = W) := fun W _ => key31 k W
  by_cases hk : keyB k = true
  · rw [hk] at CK
    obtain ⟨s0, hs0⟩ : ∃ s0, (getF k L).getD (none, 0, 0) = s0 := ⟨_, rfl⟩
    have HR : Hid (Rs B rb sl L S w) := hr
    have CC : Hid (∀ W, Below w.heap.size w W → Calls Try.prog 34 #[.pointer (some ⟨rb, 0, none⟩), .string (bs k)] W fun e w' => e = .returned (.slice s0.1 s0.2.1 s0.2.2) ∧ w' = W) := fun W hb => by
      have := chain33 B rb sl L k W (hr.ref.on hb)
      rw [hs0] at this
      exact this
    have CP : Hid (∀ W, Below w.heap.size w W → Calls Try.prog 33 #[.slice s0.1 s0.2.1 s0.2.2, veV ⟨xp, xl, xc, xn, xs, xd⟩] W fun e w' => ∃ v', e = .returned (.tuple #[v', .int .i64 (putF (chainF k S) ⟨xp, xl, xc, xn, xs, xd⟩).2]) ∧ VsAt w'.heap.size v' (putF (chainF k S) ⟨xp, xl, xc, xn, xs, xd⟩).1 w' ∧ Below W.heap.size W w') := fun W hb => by
      have hv := Chs.get k (hr.chs.on hb)
      rw [hs0] at hv
      exact refPut9 W.heap.size (chainF k S) _ ⟨xp, xl, xc, xn, xs, xd⟩ W hv (Nat.le_refl _)
    have HZ : Hid ((putF (chainF k S) ⟨xp, xl, xc, xn, xs, xd⟩).2 = 0 → Ch (putF (chainF k S) ⟨xp, xl, xc, xn, xs, xd⟩).1 ∧ (putF (chainF k S) ⟨xp, xl, xc, xn, xs, xd⟩).1 ≠ []) := fun h0 => ⟨(put_good h0).1, (put_good h0).2.1⟩
    have HP : Hid (putS k ⟨xp, xl, xc, xn, xs, xd⟩ S = if (putF (chainF k S) ⟨xp, xl, xc, xn, xs, xd⟩).2 = 0 then (setF k (putF (chainF k S) ⟨xp, xl, xc, xn, xs, xd⟩).1 S, 0) else (S, (putF (chainF k S) ⟨xp, xl, xc, xn, xs, xd⟩).2)) := by show _ = _; unfold putS; rw [if_pos hk]
    have HBx : Hid (Bx w w.heap.size ⟨xp, xl, xc, xn, xs, xd⟩ (w.alloc (.cells #[.int .u64 xp, .int .u32 xl, .int .u32 xc, .int .u32 xn, .string (bs xs), .bool xd] 37))) := ⟨ve_new _ _ _ _ _ _ _, (Below.refl _ _).alloc (Nat.le_refl _) _⟩
    have HL : Hid _ := hl
    generalize putS k ⟨xp, xl, xc, xn, xs, xd⟩ S = Y at *
    generalize hpq : putF (chainF k S) ⟨xp, xl, xc, xn, xs, xd⟩ = P at *
    clear hpq hs0 hr hk hl
    obtain ⟨D, er⟩ := P
    dsimp only at CP HZ HP
    simp only [veV] at CP ⊢
    go_enter Try.func12, Try.ntmps12
    go_wp2_with fail
    refine (CK.out _ (by trivial)).mono ?_
    rintro e w1 ⟨rfl, rfl⟩
    go_wp2_with fail
    obtain ⟨W0, hW0⟩ : ∃ W0, w.alloc (.cells #[.int .u64 xp, .int .u32 xl, .int .u32 xc, .int .u32 xn, .string (bs xs), .bool xd] 37) = W0 := ⟨_, rfl⟩
    rw [hW0] at HBx HB0 ⊢
    obtain ⟨bx, hbx⟩ : ∃ bx, w.heap.size = bx := ⟨_, rfl⟩
    rw [hbx] at HBx
    have HBX : Hid (w.heap.size = bx) := hbx
    clear hW0
    rw [hbx]
    clear hbx
    have h7 := HBx.out.s7
    obtain ⟨x0, x1, x2, x3, x4, x5, -⟩ := h7
    go_region_held3 (fun W => W.cell? ⟨bx, 0, none⟩ = some (.int .u64 xp) ∧ W.cell? ⟨bx, 1, none⟩ = some (.int .u32 xl) ∧ W.cell? ⟨bx, 2, none⟩ = some (.int .u32 xc) ∧ W.cell? ⟨bx, 3, none⟩ = some (.int .u32 xn) ∧ W.cell? ⟨bx, 4, none⟩ = some (.string (bs xs)) ∧ W.cell? ⟨bx, 5, none⟩ = some (.bool xd) ∧ Bx w bx ⟨xp, xl, xc, xn, xs, xd⟩ W)
      (first | exact HBx.out.s7 | exact HBx.out.dr.s7 | exact H2.out.1.s7)
      (first
      | (go_at_call 34; refine (CC.out _ HBx.out.dr.bel).mono ?_; rintro e W1 ⟨rfl, rfl⟩)
      | (go_at_call 33; refine (CP.out _ HBx.out.dr.bel).mono ?_; rintro e W2 ⟨v2, rfl, hv2, hb2⟩; have H2 : Hid (Bx w bx ⟨xp, xl, xc, xn, xs, xd⟩ W2 ∧ VsAt W2.heap.size v2 D W2) := ⟨HBx.out.dr.on hb2, hv2⟩; clear hv2 hb2))
    rename_i hHeld
    clear hHeld x0 x1 x2 x3 x4 x5 CC CP CK HBx
    have HR2 : Hid (Rs B rb sl L S W2) := HR.out.on H2.out.1.bel
    by_cases he : er = 0
    · have hY := HP.out
      rw [if_pos he] at hY
      subst hY
      have hZ := HZ.out he
      subst he
      obtain ⟨ao, cap, rfl, -⟩ := H2.out.2
      have CS : Hid (1 = 1 → _) := fun _ => Rs.set34 HR2.out HL.out (k := k) (s := (ao, D.length, cap)) (c := D) H2.out.2 hZ.1 hZ.2
      have HB2 : Hid (Below w.heap.size w W2) := H2.out.1.bel
      clear hZ HZ HP H2 HR HR2
      try dsimp only at CS
      go_wp2_with fail
      refine (CS.out (by trivial)).mono ?_
      rintro e w3 ⟨rfl, sl', L', hr3, hk3, hn3⟩
      have H3 : Hid (∃ F', RsAt B rb F' (setF k D S) w3 ∧ Kept (fun i => i = rb) w w3 ∧ ∀ i, F' i → foot rb sl i ∨ w.heap.size ≤ i) := ⟨_, ⟨sl', L', hr3, rfl⟩, (Kept.of_below HB2.out).trans hk3 (fun i e => .inl e), fun i hi => by
        rcases hi with e | e
        · exact .inl (.inl e)
        · exact .inr (Nat.le_trans HB2.out.size (hn3 i e))⟩
      clear hr3 hk3 hn3 CS
      go_wp2_with fail
      go_ret
      exact ⟨rfl, H3.out⟩
    · have hY := HP.out
      rw [if_neg he] at hY
      subst hY
      obtain ⟨ao, cap, rfl, -⟩ := H2.out.2
      have he' : (er != 0) = true := by simpa using he
      have HB2 : Hid (Below w.heap.size w W2) := H2.out.1.bel
      clear HZ HP H2 HR he
      try dsimp only
      go_wp2_with fail
      go_ret
      exact ⟨rfl, _, ⟨sl, L, HR2.out, rfl⟩, Kept.of_below HB2.out, fun i hi => .inl hi⟩
  · have hk' : keyB k = false := by simpa using hk
    have HX : Hid (putS k ⟨xp, xl, xc, xn, xs, xd⟩ S = (S, 1)) := by show _ = _; unfold putS; rw [if_neg hk]
    have HR : Hid (Rs B rb sl L S w) := hr
    rw [hk'] at CK
    rw [HX.out]
    clear hr hk hk' HX
    simp only [veV]
    go_enter Try.func12, Try.ntmps12
    go_wp2_with fail
    refine (CK.out _ (by trivial)).mono ?_
    rintro e w1 ⟨rfl, rfl⟩
    go_wp2_with fail
    go_ret
    exact ⟨rfl, _, ⟨sl, L, HR.out.on HB0.out, rfl⟩, Kept.of_below HB0.out, fun i hi => .inl hi⟩
end Go.Proofs.Ytcfhkggijdjagaa
