/-
  The document's store: Prune.
-/
import Derived.Test.YtcfhkggijdjagaaRscan
import Derived.Test.YtcfhkggijdjagaaCRefPrune
namespace Go.Proofs.Ytcfhkggijdjagaa
open Go.RowKit

/-- The store when the first m items are pruned. -/
def midS (p l : Int) (S : Sk) (m : Nat) : Sk := pruneS p l (S.take m) ++ S.drop m
theorem mid_zero (p l : Int) (S : Sk) : midS p l S 0 = S := by simp [midS, pruneS]
theorem mid_end {p l : Int} {S : Sk} {m : Nat} (h : S.length ≤ m) : midS p l S m = pruneS p l S := by
  unfold midS
  rw [List.take_of_length_le h, List.drop_eq_nil_of_le h, List.append_nil]
theorem sdr_step {S : Sk} {m : Nat} (h : m < S.length) : S.drop m = S.getD m ds :: S.drop (m + 1) := by
  rw [List.drop_eq_getElem_cons h]
  simp [List.getD, h]
theorem prune_snoc {p l : Int} {S : Sk} {m : Nat} (h : m < S.length) : pruneS p l (S.take (m + 1)) = pruneS p l (S.take m) ++ (if (pruneF (S.getD m ds).2 p l).isEmpty then [] else [((S.getD m ds).1, pruneF (S.getD m ds).2 p l)]) := by
  unfold pruneS
  rw [stk_snoc h, List.filterMap_append]
  congr 1
  simp only [List.filterMap_cons, List.filterMap_nil, prune1]
  split <;> rename_i e <;> split at e <;> simp_all
theorem gone_snoc {p l : Int} {S : Sk} {m : Nat} (h : m < S.length) : goneS p l (S.take (m + 1)) = goneS p l (S.take m) + ((S.getD m ds).2.length - (pruneF (S.getD m ds).2 p l).length) := by
  unfold goneS
  rw [stk_snoc h, List.map_append, List.sum_append]
  simp
theorem mid_srt {p l : Int} {S : Sk} {m : Nat} (hS : Srt S) (h : m < S.length) : Srt (pruneS p l (S.take m) ++ ((S.getD m ds).1, (S.getD m ds).2) :: S.drop (m + 1)) := by
  have e : S = S.take m ++ ((S.getD m ds).1, (S.getD m ds).2) :: S.drop (m + 1) := by
    have := sdr_step h
    rw [show ((S.getD m ds).1, (S.getD m ds).2) = S.getD m ds from rfl, ← this, List.take_append_drop]
  rw [e] at hS
  obtain ⟨h1, h2, h3, h4⟩ := srt_parts hS
  refine srt_join (pruneS_srt p l h1) h2 (fun x hx => ?_) h4
  obtain ⟨y, hy, rfl, _⟩ := pruneS_mem.1 hx
  exact h3 y hy
theorem mid_set {p l : Int} {S : Sk} {m : Nat} (hS : Srt S) (h : m < S.length) (hne : pruneF (S.getD m ds).2 p l ≠ []) : setF (S.getD m ds).1 (pruneF (S.getD m ds).2 p l) (midS p l S m) = midS p l S (m + 1) := by
  unfold midS
  have e1 := prune_snoc (p := p) (l := l) h
  have hs := mid_srt (p := p) (l := l) hS h
  rw [sdr_step h]
  generalize S.getD m ds = x at *
  obtain ⟨a, c⟩ := x
  dsimp only at *
  have hi : ¬ (ltK a a = true) := by simp [ltK_irrefl]
  rw [set_parts hs, if_neg hi, if_neg hi, e1, if_neg (by simpa using hne)]
  simp
theorem mid_cut {p l : Int} {S : Sk} {m : Nat} (hS : Srt S) (h : m < S.length) (hne : pruneF (S.getD m ds).2 p l = []) : cutF (S.getD m ds).1 (midS p l S m) = midS p l S (m + 1) := by
  unfold midS
  have e1 := prune_snoc (p := p) (l := l) h
  have hs := mid_srt (p := p) (l := l) hS h
  rw [sdr_step h]
  generalize S.getD m ds = x at *
  obtain ⟨a, c⟩ := x
  dsimp only at *
  have hi : ¬ (ltK a a = true) := by simp [ltK_irrefl]
  rw [cut_parts hs, if_neg hi, if_neg hi, e1, if_pos (by simpa using hne)]
  simp
theorem mid_len (p l : Int) (S : Sk) (m : Nat) : (midS p l S m).length ≤ S.length := by
  have h1 : (pruneS p l (S.take m)).length ≤ (S.take m).length := List.length_filterMap_le _ _
  have h2 : (S.take m ++ S.drop m).length = S.length := by rw [List.take_append_drop]
  rw [List.length_append] at h2
  unfold midS
  rw [List.length_append]
  omega
theorem gone_le {p l : Int} : ∀ {S : Sk}, goneS p l S ≤ totS S
  | [] => Nat.le_refl _
  | x :: r => by
    have := gone_le (p := p) (l := l) (S := r)
    simp only [goneS, totS, List.map_cons, List.sum_cons] at this ⊢
    omega
theorem tot_take (S : Sk) (m : Nat) : totS (S.take m) ≤ totS S := by
  have h : totS (S.take m ++ S.drop m) = totS (S.take m) + totS (S.drop m) := by
    unfold totS
    rw [List.map_append, List.sum_append]
  rw [List.take_append_drop] at h
  omega

/-- Three cells, and what was there at w is as it was. -/
structure C3 (w : World) (a b c : Addr) (u v x : Value) (W : World) : Prop where
  c0 : W.cell? a = some u
  c1 : W.cell? b = some v
  c2 : W.cell? c = some x
  bel : Below w.heap.size w W
theorem C3.on {w W W' : World} {a b c : Addr} {u v x : Value} (h : C3 w a b c u v x W) (hb : Below W.heap.size W W') : C3 w a b c u v x W' :=
  ⟨by rw [hb.cell (World.block_lt_of_cell? _ _ h.c0)]; exact h.c0, by rw [hb.cell (World.block_lt_of_cell? _ _ h.c1)]; exact h.c1, by rw [hb.cell (World.block_lt_of_cell? _ _ h.c2)]; exact h.c2, h.bel.trans (hb.mono h.bel.size)⟩
theorem C3.dr {w W : World} {a b c : Addr} {u v x : Value} (h : C3 w a b c u v x W) : C3 w a b c u v x W.drew := h.on (Below.refl _ _).drew
theorem C3.all {w W : World} {a b c : Addr} {u v x : Value} (h : C3 w a b c u v x W) : W.cell? a = some u ∧ W.cell? b = some v ∧ W.cell? c = some x ∧ C3 w a b c u v x W := ⟨h.c0, h.c1, h.c2, h⟩

set_option maxHeartbeats 3200000 in
set_option maxRecDepth 100000 in
theorem prune14 (B rb : Nat) (F : Nat → Prop) (S : Sk) (p l : Int) (w : World) (h : RsAt B rb F S w) (hl : S.length < 500000) (ht : totS S < 1000000) :
    Calls Try.prog 14 #[.pointer (some ⟨rb, 0, none⟩), .agg #[.int .u64 p, .int .u32 l]] w fun e w' => e = .returned (.int .i64 (goneS p l S)) ∧ ∃ F', RsAt B rb F' (pruneS p l S) w' ∧ Kept (fun i => i = rb) w w' ∧ ∀ i, F' i → F i ∨ w.heap.size ≤ i := by
  obtain ⟨sl, L, hr, rfl⟩ := h
  obtain ⟨ao, cap, rfl, hlc, hcm⟩ := hr.ref.shape
  have hrb : rb < w.heap.size := (hr.ref.lt (.inl rfl)).2
  have hgb : ∀ g, ao = some ⟨g, 0, none⟩ → g ≠ rb := fun g e e2 => hr.ref.ne (by subst e; subst e2; rfl)
  have c0 := hr.ref.cell
  have HE : Hid (∀ wr, Kept (fun i => i = rb) w wr → ∀ m, m < L.length → ∃ g, ao = some ⟨g, 0, none⟩ ∧ wr.cell? ⟨g, m * 2, none⟩ = some (.string (bs (S.getD m ds).1)) ∧ wr.cell? ⟨g, m * 2 + 1, none⟩ = some (.slice (L.getD m dk).2.1 (L.getD m dk).2.2.1 (L.getD m dk).2.2.2) ∧ (L.getD m dk).2.2.1 = (S.getD m ds).2.length ∧ VsAt wr.heap.size (.slice (L.getD m dk).2.1 (L.getD m dk).2.2.1 (L.getD m dk).2.2.2) (S.getD m ds).2 wr) := fun wr hk m hm => by
    obtain ⟨g, e, e0, e1⟩ := hr.ref.el hm
    have hne := hgb g e
    obtain ⟨k1, k2⟩ := hr.chs.at m hm
    have hv := (VsAt.kept k2 hk (fun i e => e ▸ hr.ref.noVe)).le hk.size
    refine ⟨g, e, ?_, hk.cell e1 hne, ?_, hv⟩
    · have k1' : (L.getD m dk).1 = (S.getD m ds).1 := k1
      rw [← k1']
      exact hk.cell e0 hne
    · obtain ⟨a2, c2, e2, _⟩ := hv
      simp only [svV, Value.slice.injEq] at e2
      exact e2.2.1
  have HLS : Hid (L.length = S.length) := hr.chs.len
  have HSok : Hid (SOk S) := hr.sok
  have HT : Hid (Tx w w.heap.size p l (w.alloc (.cells #[.int .u64 p, .int .u32 l] 33))) := tx_new w p l
  have HR0 : Hid (Rs B rb (.slice ao L.length cap) L S w) := hr
  have HM0 : Hid (midS p l S 0 = S) := mid_zero p l S
  have HG0 : Hid (goneS p l (S.take 0) = 0) := rfl
  have hL9 : L.length < 9223372036854775808 := by omega
  have HL : Hid _ := hl
  have HTt : Hid _ := ht
  clear hr hlc hcm hl ht hgb
  go_enter Try.func14, Try.ntmps14
  go_wp2_with fail
  obtain ⟨W0, hW0⟩ : ∃ W0, w.alloc (.cells #[.int .u64 p, .int .u32 l] 33) = W0 := ⟨_, rfl⟩
  rw [hW0] at HT ⊢
  obtain ⟨bx, hbx⟩ : ∃ bx, w.heap.size = bx := ⟨_, rfl⟩
  rw [hbx] at HT
  rw [hbx]
  have HBX : Hid (w.heap.size = bx) := hbx
  have hbr : bx ≠ rb := by omega
  clear hbx hW0 hrb
  go_loopw [5, 7] (fun n i wr => ∃ (m : Nat) (sl' : Value) (L' : Kv Sv), m ≤ L.length ∧ i = .int .i64 m ∧ n = .int .i64 (goneS p l (S.take m)) ∧ Rs B rb sl' L' (midS p l S m) wr ∧ Kept (fun i => i = rb) W0 wr ∧ ∀ i, sl'.ownBlock = some i → foot rb (.slice ao L.length cap) i ∨ w.heap.size ≤ i) (fun _ i _ => L.length - (intOf i).toNat)
  case atStart => exact ⟨0, _, L, Nat.zero_le _, rfl, by rw [HG0.out]; rfl, by rw [HM0.out]; exact HR0.out.on HT.out.bel, Kept.refl _ _, fun i hi => .inl (.inr hi)⟩
  case round =>
    obtain ⟨m, sl', L', hm, rfl, rfl, hrs, hk, hnew⟩ := hrel
    have hkw : Kept (fun i => i = rb) w wr := (Kept.of_below HT.out.bel).trans hk (fun i e => .inl e)
    by_cases hml : m < L.length
    · obtain ⟨g, rfl, e0, e1, elen, hv⟩ := HE.out wr hkw m hml
      have hml' : (m : Int) < L.length := by omega
      have hms : m < S.length := by rw [← HLS.out]; exact hml
      have hgn := gone_snoc (p := p) (l := l) hms
      have HSet : Hid (pruneF (S.getD m ds).2 p l ≠ [] → setF (S.getD m ds).1 (pruneF (S.getD m ds).2 p l) (midS p l S m) = midS p l S (m + 1)) := fun hne => mid_set HSok.out.srt hms hne
      have HCut : Hid (pruneF (S.getD m ds).2 p l = [] → cutF (S.getD m ds).1 (midS p l S m) = midS p l S (m + 1)) := fun hne => mid_cut HSok.out.srt hms hne
      have hch := (HSok.out.all _ (getD_mem hms)).1
      have HPC : Hid (Ch (pruneF (S.getD m ds).2 p l)) := (prune_ch hch p l).2
      have hple := prune_le hch p l
      have hgb : goneS p l (S.take m) < 1000000 := by
        have := gone_le (p := p) (l := l) (S := S.take m)
        have := tot_take S m
        have := HTt.out
        omega
      have hcl : (S.getD m ds).2.length ≤ 1000 := hch.len
      have hx0 := hk.cell HT.out.c0 hbr
      have hx1 := hk.cell HT.out.c1 hbr
      have HEE : Hid (∀ W, Kept (fun i => i = rb) w W → W.cell? ⟨g, m * 2, none⟩ = some (.string (bs (S.getD m ds).1)) ∧ W.cell? ⟨g, m * 2 + 1, none⟩ = some (.slice (L.getD m dk).2.1 (L.getD m dk).2.2.1 (L.getD m dk).2.2.2)) := fun W hkW => by
        obtain ⟨g', hg', a0, a1, _⟩ := HE.out W hkW m hml
        injection hg' with hg'
        injection hg' with hg'
        subst hg'
        exact ⟨a0, a1⟩
      have HMl : Hid ((midS p l S m).length < 500000) := by have h1 := mid_len p l S m; have h2 := HL.out; show _ < _; omega
      generalize goneS p l (S.take m) = gn at *
      obtain ⟨gn1, hgn1⟩ : ∃ gn1, goneS p l (S.take (m + 1)) = gn1 := ⟨_, rfl⟩
      have HGn : Hid (goneS p l (S.take (m + 1)) = gn1) := hgn1
      rw [hgn1] at hgn
      clear hgn1
      generalize (L.getD m dk).2 = t at *
      generalize S.getD m ds = x at *
      obtain ⟨a, c⟩ := x
      obtain ⟨t1, t2, t3⟩ := t
      dsimp only at e0 e1 elen hv hgn HSet HCut HPC hple hch hcl HEE
      subst elen
      have CP : Hid (1 = 1 → Calls Try.prog 39 #[.slice t1 c.length t3, .agg #[.int .u64 p, .int .u32 l]] wr.drew fun e w' => ∃ v', e = .returned v' ∧ VsAt w'.heap.size v' (pruneF c p l) w' ∧ Below wr.drew.heap.size wr.drew w') := fun _ => refPrune18 wr.drew.heap.size c _ p l wr.drew (VsAt.on hv (Below.refl _ _).drew) (Nat.le_refl _)
      have H3 : Hid (C3 wr ⟨g, m * 2 + 1, none⟩ ⟨bx, 0, none⟩ ⟨bx, 1, none⟩ (.slice t1 c.length t3) (.int .u64 p) (.int .u32 l) wr) := ⟨e1, hx0, hx1, Below.refl _ _⟩
      have HRs : Hid (Rs B rb sl' L' (midS p l S m) wr) := hrs
      have HKK : Hid (Kept (fun i => i = rb) W0 wr ∧ Kept (fun i => i = rb) w wr) := ⟨hk, hkw⟩
      have HNew : Hid _ := hnew
      generalize pruneF c p l = D at *
      clear hrs hk hkw hnew hv hch hms
      go_upto_region 6 with fail
      go_region_held3 (fun W => W.cell? ⟨g, m * 2 + 1, none⟩ = some (.slice t1 c.length t3) ∧ W.cell? ⟨bx, 0, none⟩ = some (.int .u64 p) ∧ W.cell? ⟨bx, 1, none⟩ = some (.int .u32 l) ∧ C3 wr ⟨g, m * 2 + 1, none⟩ ⟨bx, 0, none⟩ ⟨bx, 1, none⟩ (.slice t1 c.length t3) (.int .u64 p) (.int .u32 l) W)
        ((with_reducible refine C3.all ?_; with_reducible repeat (first | exact H3.out | exact H4.out.1 | refine C3.dr ?_)))
        (first
        | (go_at_call 39; refine (CP.out (by trivial)).mono ?_; rintro e w2 ⟨v2, rfl, hv2, hb2⟩; have H4 : Hid (C3 wr ⟨g, m * 2 + 1, none⟩ ⟨bx, 0, none⟩ ⟨bx, 1, none⟩ (.slice t1 c.length t3) (.int .u64 p) (.int .u32 l) w2 ∧ VsAt w2.heap.size v2 D w2) := ⟨H3.out.dr.on hb2, hv2⟩; clear hv2 hb2))
      rename_i hHeld
      clear hHeld
      have HB2 : Hid (Below wr.heap.size wr w2) := H4.out.1.bel
      have HR2 : Hid (Rs B rb sl' L' (midS p l S m) w2) := HRs.out.on HB2.out
      have hkw2 : Kept (fun i => i = rb) w w2 := HKK.out.2.trans (Kept.of_below (F := fun i => i = rb) HB2.out) (fun i e => .inl e)
      obtain ⟨d0, d1⟩ := HEE.out w2 hkw2
      have HK2 : Hid (Kept (fun i => i = rb) W0 w2) := HKK.out.1.trans (Kept.of_below (F := fun i => i = rb) HB2.out) (fun i e => .inl e)
      obtain ⟨da, dc, rfl, -⟩ := H4.out.2
      have HV2 : Hid (VsAt w2.heap.size (svV (da, D.length, dc)) D w2) := H4.out.2
      have CS : Hid (1 = 1 → Calls Try.prog 35 #[.pointer (some ⟨rb, 0, none⟩), .string (bs a), .slice da D.length dc] w2 fun e w' => e = .returned (.tuple #[]) ∧ ∃ sl2 L2, Rs B rb sl2 L2 (midS p l S (m + 1)) w' ∧ Kept (fun i => i = rb) w2 w' ∧ ∀ i, sl2.ownBlock = some i → w2.heap.size ≤ i) := fun _ => by
        by_cases hD : D = []
        · have := Rs.cut34 HR2.out HMl.out (k := a) (s := (da, D.length, dc)) (by rw [hD]; rfl)
          rw [HCut.out hD] at this
          exact this
        · have := Rs.set34 HR2.out HMl.out (k := a) (s := (da, D.length, dc)) HV2.out HPC.out hD
          rw [HSet.out hD] at this
          exact this
      have HGe : Hid ((gn : Int) + c.length - D.length = gn1) := by show _ = _; omega
      have hdl : D.length ≤ 1000 := by omega
      clear H4 HRs e0 e1 hx0 hx1 CP H3 HEE hkw2 HV2 HSet HCut HPC hgn
      go_wp2_with fail
      refine (CS.out (by trivial)).mono ?_
      rintro e w3 ⟨rfl, sl2, L2, hr3, hk3, hn3⟩
      have HR3 : Hid (Rs B rb sl2 L2 (midS p l S (m + 1)) w3) := hr3
      have HK3 : Hid (Kept (fun i => i = rb) W0 w3) := HK2.out.trans hk3 (fun i e => .inl e)
      have HN3 : Hid (∀ i, sl2.ownBlock = some i → foot rb (.slice (some ⟨g, 0, none⟩) L.length cap) i ∨ w.heap.size ≤ i) := fun i hi => .inr (Nat.le_trans HT.out.bel.size (Nat.le_trans HK2.out.size (hn3 i hi)))
      clear hr3 hk3 hn3 CS
      go_wp2_with fail
      go_roundw
      case rel => exact ⟨m + 1, sl2, L2, by omega, by go_num, by rw [HGn.out, ← HGe.out], HR3.out, HK3.out, HN3.out⟩
      case measure => simp [intOf]; omega
    · have hml' : ¬ (m : Int) < L.length := by omega
      have hms : S.length ≤ m := by rw [← HLS.out]; omega
      have HX : Hid (goneS p l (S.take m) = goneS p l S ∧ ∃ F', RsAt B rb F' (pruneS p l S) wr ∧ Kept (fun i => i = rb) w wr ∧ ∀ i, F' i → foot rb (.slice ao L.length cap) i ∨ w.heap.size ≤ i) := by
        rw [mid_end hms] at hrs
        refine ⟨by rw [List.take_of_length_le hms], _, ⟨sl', L', hrs, rfl⟩, hkw, fun i hi => ?_⟩
        rcases hi with e | e
        · exact .inl (.inl e)
        · exact hnew i e
      clear hrs hkw hnew hk hms
      go_wp2_with fail
      go_ret
      rw [HX.out.1]
      exact ⟨rfl, HX.out.2⟩
end Go.Proofs.Ytcfhkggijdjagaa
