/-
  The program's store: Prune.
-/
import Derived.Test.YtcfhkggijdjagaaSeg
namespace Go.Proofs.Ytcfhkggijdjagaa
open Go.RowKit

/-- The store in a loop over its keys: a stamp's box bx, the keys' row v. -/
structure Slp (B p q bx : Nat) (t : Tr) (sp sl : Int) (v : Value) (K : List (List UInt8)) (w : World) (T : Sk) (t' : Tr) (W : World) : Prop where
  so : So B p q t' T W
  new : ∀ i, footS p q t' i → footS p q t i ∨ w.heap.size ≤ i
  kept : Kept (footS p q t) w W
  x : W.heap[bx]? = some (.cells #[.int .u64 sp, .int .u32 sl] 33 (0, 0))
  xn : ¬ footS p q t' bx
  own : W.ownsRow w.heap.size 9 1 v K.length (kc K)
  on : ∀ k, v.ownBlock = some k → ¬ footS p q t' k
theorem own_lt {base e size n k : Nat} {v : Value} {cs : List Value} {w : World} (h : w.ownsRow base e size v n cs) (hk : v.ownBlock = some k) : base ≤ k ∧ k < w.heap.size := World.ownsRow.lt h k hk
theorem Slp.step {B p q bx : Nat} {t t' : Tr} {sp sl : Int} {v : Value} {K : List (List UInt8)} {w W W' : World} {T : Sk} (h : Slp B p q bx t sp sl v K w T t' W) (hb : Below W.heap.size W W') : Slp B p q bx t sp sl v K w T t' W' :=
  ⟨h.so.on hb, h.new, h.kept.trans (Kept.of_below (F := fun _ => False) hb) (fun _ h => h.elim), by rw [hb.block bx (Array.getElem?_eq_some_iff.1 h.x).1]; exact h.x, h.xn, own_on h.own hb, h.on⟩
theorem Slp.post {B p q bx : Nat} {t t' : Tr} {sp sl : Int} {v : Value} {K : List (List UInt8)} {w W W' : World} {T T' : Sk} (h : Slp B p q bx t sp sl v K w T t' W) (hp : McPost B q t' T' W W') (hkl : ∀ x ∈ T', x.1.length ≤ 32) : ∃ t'', Slp B p q bx t sp sl v K w T' t'' W' := by
  obtain ⟨t'', h1, hk, hn⟩ := h.so.post hp hkl
  have hs := h.kept.size
  refine ⟨t'', h1, fun i hi => ?_, h.kept.trans hk h.new, ?_, fun hf => ?_, own_kept h.own hk h.on, fun k hk' hf => ?_⟩
  · rcases hn i hi with e | e
    · exact h.new i e
    · exact .inr (by omega)
  · rw [hk.block bx (Array.getElem?_eq_some_iff.1 h.x).1 h.xn]; exact h.x
  · rcases hn bx hf with e | e
    · exact h.xn e
    · have := (Array.getElem?_eq_some_iff.1 h.x).1; omega
  · rcases hn k hf with e | e
    · exact h.on k hk' e
    · have := (own_lt h.own hk').2; omega
theorem Slp.key {B p q bx : Nat} {t t' : Tr} {sp sl : Int} {ao : Option Addr} {n cap : Nat} {K : List (List UInt8)} {w W : World} {T : Sk} (hn : n = K.length) (h : Slp B p q bx t sp sl (.slice ao n cap) K w T t' W) {m : Nat} (hm : m < n) : ∃ b off, ao = some ⟨b, off, none⟩ ∧ W.cell? ⟨b, off + m, none⟩ = some (.string (bs (K.getD m []))) := by
  subst hn
  obtain ⟨b, off, e, _, hc⟩ := RwAt.cellAt (rw_own h.own) (j := m) (by rw [kc_length]; exact hm)
  exact ⟨b, off, e, hc m _ (by simp [kc, List.getD, hm])⟩
theorem Slp.stamp {B p q bx : Nat} {t t' : Tr} {sp sl : Int} {v : Value} {K : List (List UInt8)} {w W : World} {T : Sk} (h : Slp B p q bx t sp sl v K w T t' W) : W.cell? ⟨bx, 0, none⟩ = some (.int .u64 sp) ∧ W.cell? ⟨bx, 1, none⟩ = some (.int .u32 sl) ∧ W.cell? ⟨p, 0, none⟩ = some (.pointer (some ⟨q, 0, none⟩)) := ⟨block_cell h.x rfl, block_cell h.x rfl, h.so.cell⟩
theorem Slp.out {B p q bx : Nat} {t t' : Tr} {sp sl : Int} {v : Value} {K : List (List UInt8)} {w W : World} {T : Sk} (h : Slp B p q bx t sp sl v K w T t' W) : SoPost B p (footS p q t) T w W := ⟨_, ⟨q, t', h.so, rfl⟩, h.kept, h.new⟩
/-- Where the loop begins. -/
theorem Slp.begin {B p q : Nat} {t : Tr} {sp sl : Int} {v : Value} {K : List (List UInt8)} {w W W' : World} {S : Sk} (h : So B p q t S w) (hx : W.heap[w.heap.size]? = some (.cells #[.int .u64 sp, .int .u32 sl] 33 (0, 0))) (hb : Below w.heap.size w W) (ho : W'.ownsRow W.heap.size 9 1 v K.length (kc K)) (hb' : Below W.heap.size W W') : Slp B p q w.heap.size t sp sl v K w S t W' := by
  have hbb := hb.trans (hb'.mono hb.size)
  refine ⟨h.on hbb, fun i hi => .inl hi, Kept.of_below hbb, ?_, fun hf => ?_, own_le ho hb.size, fun k hk hf => ?_⟩
  · rw [hb'.block w.heap.size (Array.getElem?_eq_some_iff.1 hx).1]; exact hx
  · have := (h.lt _ hf).2; omega
  · have h1 := (own_lt ho hk).1; have := (h.lt _ hf).2; have := hb.size; omega

theorem prT_kl {p l : Int} {S : Sk} (m : Nat) (h : ∀ x ∈ S, x.1.length ≤ 32) : ∀ x ∈ prT p l S m, x.1.length ≤ 32 := fun x hx => by
  unfold prT at hx
  rcases List.mem_append.1 hx with hx | hx
  · obtain ⟨y, hy, rfl, _⟩ := pruneS_mem.1 hx
    exact h y (List.mem_of_mem_take hy)
  · exact h x (List.mem_of_mem_drop hx)

set_option maxHeartbeats 1600000 in
theorem so_prune {B p q : Nat} {t : Tr} {S : Sk} {w : World} (sp sl : Int) (h : So B p q t S w) (ht : totS S < 10000) :
    Calls Try.prog 13 #[.pointer (some ⟨p, 0, none⟩), .agg #[.int .u64 sp, .int .u32 sl]] w fun e w' => e = .returned (.int .i64 (goneS sp sl S)) ∧ SoPost B p (footS p q t) (pruneS sp sl S) w w' := by
  have HS : Hid (So B p q t S w) := h
  have HX : Hid ((w.alloc (.cells #[.int .u64 sp, .int .u32 sl] 33)).heap[w.heap.size]? = some (.cells #[.int .u64 sp, .int .u32 sl] 33 (0, 0)) ∧ Below w.heap.size w (w.alloc (.cells #[.int .u64 sp, .int .u32 sl] 33))) := ⟨heap_alloc_new w _, al _⟩
  have HT : Hid (totS S < 10000) := ht
  have CK : Hid (∀ W, Below w.heap.size w W → Calls Try.prog 36 #[.pointer (some ⟨p, 0, none⟩)] W fun e w' => ∃ ka kp, e = .returned (.slice ka S.length kp) ∧ w'.ownsRow W.heap.size 9 1 (.slice ka S.length kp) (S.map (·.1)).length (kc (S.map (·.1))) ∧ Below W.heap.size W w') := fun W hb => so_keys (h.on hb) ht
  clear h ht
  go_enter Try.func13, Try.ntmps13
  go_wp2_with fail
  refine (CK.out _ HX.out.2).mono ?_
  rintro e W2 ⟨ka, kp, rfl, ho2, hb2⟩
  have HL : Hid (Slp B p q w.heap.size t sp sl (.slice ka S.length kp) (S.map (·.1)) w S t W2) := Slp.begin HS.out HX.out.1 HX.out.2 ho2 hb2
  have HSok : Hid (SOk S) := HS.out.mc.sok
  have HKl : Hid (∀ x ∈ S, x.1.length ≤ 32) := HS.out.kl
  clear ho2 hb2 HX CK HS
  have hkp : S.length < 10000 := by have := len_tot HSok.out.all; have := HT.out; omega
  generalize hbx : w.heap.size = bx at *
  have HBX : Hid _ := hbx
  clear hbx
  go_wp2_with fail
  go_loopw [5, 13] (fun n i wr => ∃ (m : Nat) (t' : Tr), m ≤ S.length ∧ i = .int .i64 m ∧ n = .int .i64 (goneS sp sl (S.take m)) ∧ Slp B p q bx t sp sl (.slice ka S.length kp) (S.map (·.1)) w (prT sp sl S m) t' wr) (fun _ i _ => S.length - (intOf i).toNat)
  case atStart => exact ⟨0, t, Nat.zero_le _, rfl, rfl, HL.out⟩
  case round =>
    obtain ⟨m, t', hm, rfl, rfl, hsl⟩ := hrel
    have H3 : Hid _ := hsl
    clear hsl HL
    by_cases hml : m < S.length
    · have hml' : (m : Int) < S.length := by omega
      have hgn := gone_snoc (p := sp) (l := sl) hml
      have hch : Ch (S.getD m ds).2 := (HSok.out.all _ (getD_mem hml)).1
      have HPC : Hid (Ch (pruneF (S.getD m ds).2 sp sl)) := (prune_ch hch sp sl).2
      have hple := prune_le hch sp sl
      have hgb : goneS sp sl (S.take m) < 1000000 := by
        have := gone_le (p := sp) (l := sl) (S := S.take m)
        have := tot_take S m
        have := HT.out
        omega
      have hcl : (S.getD m ds).2.length ≤ 1000 := hch.len
      have HTm : Hid (totS (prT sp sl S m) < 10000) := by show _ < _; have := prT_tot (p := sp) (l := sl) m HSok.out; have := HT.out; omega
      have HSet : Hid (¬ pruneF (S.getD m ds).2 sp sl = [] → setF (S.getD m ds).1 (pruneF (S.getD m ds).2 sp sl) (prT sp sl S m) = prT sp sl S (m + 1)) := prT_set HSok.out hml
      have HCut : Hid (pruneF (S.getD m ds).2 sp sl = [] → cutF (S.getD m ds).1 (prT sp sl S m) = prT sp sl S (m + 1)) := prT_cut HSok.out hml
      have HCh : Hid (chainF (S.getD m ds).1 (prT sp sl S m) = (S.getD m ds).2) := prT_chain HSok.out hml
      obtain ⟨b, off, rfl, e0⟩ := H3.out.key (by simp) hml
      rw [map_at S hml] at e0
      obtain ⟨gn1, hgn1⟩ : ∃ gn1, goneS sp sl (S.take (m + 1)) = gn1 := ⟨_, rfl⟩
      have HGn : Hid (goneS sp sl (S.take (m + 1)) = gn1) := hgn1
      rw [hgn1] at hgn
      clear hgn1
      generalize goneS sp sl (S.take m) = gn at *
      generalize S.getD m ds = x at *
      obtain ⟨a, c⟩ := x
      dsimp only at e0 hgn HSet HCut HPC hple hch hcl HCh
      have CG : Hid (1 = 1 → Calls Try.prog 30 #[.pointer (some ⟨p, 0, none⟩), .string (bs a)] wr fun e w' => ∃ ao cap, e = .returned (.slice ao c.length cap) ∧ VsAt w'.heap.size (.slice ao c.length cap) c w' ∧ Slp B p q bx t sp sl (.slice (some ⟨b, off, none⟩) S.length kp) (S.map (·.1)) w (prT sp sl S m) t' w') := fun _ => by
        have := so_of a H3.out.so
        rw [HCh.out] at this
        refine Calls.mono this ?_
        rintro e w' ⟨ao, cap, rfl, hv, hb⟩
        exact ⟨ao, cap, rfl, hv, H3.out.step hb⟩
      have CP : Hid (∀ W ao cap, VsAt W.heap.size (.slice ao c.length cap) c W → Slp B p q bx t sp sl (.slice (some ⟨b, off, none⟩) S.length kp) (S.map (·.1)) w (prT sp sl S m) t' W → Calls Try.prog 37 #[.slice ao c.length cap, .agg #[.int .u64 sp, .int .u32 sl]] W fun e w' => ∃ ao2 cap2, e = .returned (.slice ao2 (pruneF c sp sl).length cap2) ∧ VsAt w'.heap.size (.slice ao2 (pruneF c sp sl).length cap2) (pruneF c sp sl) w' ∧ Slp B p q bx t sp sl (.slice (some ⟨b, off, none⟩) S.length kp) (S.map (·.1)) w (prT sp sl S m) t' w') := fun W ao cap hv hs => by
        refine (prune17 W.heap.size c _ sp sl W hv (Nat.le_refl _)).mono ?_
        rintro e w' ⟨v', rfl, hv', hb⟩
        obtain ⟨ao2, cap2, rfl, h9⟩ := hv'
        exact ⟨ao2, cap2, rfl, ⟨ao2, cap2, rfl, h9⟩, hs.step hb⟩
      have CC : Hid (∀ W, Slp B p q bx t sp sl (.slice (some ⟨b, off, none⟩) S.length kp) (S.map (·.1)) w (prT sp sl S m) t' W → pruneF c sp sl = [] → Calls Try.prog 38 #[.pointer (some ⟨q, 0, none⟩), .string (bs a)] W fun e w' => ∃ g t'', e = .returned (.bool g) ∧ Slp B p q bx t sp sl (.slice (some ⟨b, off, none⟩) S.length kp) (S.map (·.1)) w (prT sp sl S (m + 1)) t'' w') := fun W hs hD => by
        refine (mc_cut a hs.so.mc HTm.out).mono ?_
        rintro e w' ⟨rfl, hp⟩
        rw [HCut.out hD] at hp
        obtain ⟨t'', h9⟩ := hs.post hp (prT_kl (m + 1) HKl.out)
        exact ⟨_, t'', rfl, h9⟩
      have CS : Hid (∀ W ao cap, Slp B p q bx t sp sl (.slice (some ⟨b, off, none⟩) S.length kp) (S.map (·.1)) w (prT sp sl S m) t' W → VsAt W.heap.size (.slice ao (pruneF c sp sl).length cap) (pruneF c sp sl) W → ¬ pruneF c sp sl = [] → Calls Try.prog 31 #[.pointer (some ⟨q, 0, none⟩), .string (bs a), .slice ao (pruneF c sp sl).length cap] W fun e w' => ∃ t'', e = .returned (.tuple #[]) ∧ Slp B p q bx t sp sl (.slice (some ⟨b, off, none⟩) S.length kp) (S.map (·.1)) w (prT sp sl S (m + 1)) t'' w') := fun W ao cap hs hv hD => by
        refine (mc_set a hs.so.mc HTm.out hv HPC.out hD).mono ?_
        rintro e w' ⟨rfl, hp⟩
        rw [HSet.out hD] at hp
        obtain ⟨t'', h9⟩ := hs.post hp (prT_kl (m + 1) HKl.out)
        exact ⟨t'', rfl, h9⟩
      generalize pruneF c sp sl = D at *
      have hdl : D.length ≤ 1000 := by omega
      have HGe : Hid ((gn : Int) + (c.length - D.length) = gn1) := by show _ = _; omega
      obtain ⟨y0, y1, y2⟩ := H3.out.stamp
      clear HSet HCut HPC hgn HCh HTm hch
      go_wp2_with fail
      refine (CG.out (by trivial)).mono ?_
      rintro e w4 ⟨ao, cap, rfl, hv4, h4⟩
      have H4 : Hid (VsAt w4.heap.size (.slice ao c.length cap) c w4 ∧ Slp B p q bx t sp sl (.slice (some ⟨b, off, none⟩) S.length kp) (S.map (·.1)) w (prT sp sl S m) t' w4) := ⟨hv4, h4⟩
      clear hv4 h4 CG e0 y0 y1 y2 H3
      obtain ⟨y0, y1, y2⟩ := H4.out.2.stamp
      go_wp2_with fail
      refine (CP.out _ _ _ H4.out.1 H4.out.2).mono ?_
      rintro e w5 ⟨ao2, cap2, rfl, hv5, h5⟩
      have H5 : Hid (VsAt w5.heap.size (.slice ao2 D.length cap2) D w5 ∧ Slp B p q bx t sp sl (.slice (some ⟨b, off, none⟩) S.length kp) (S.map (·.1)) w (prT sp sl S m) t' w5) := ⟨hv5, h5⟩
      clear hv5 h5 CP y0 y1 y2 H4
      obtain ⟨y0, y1, y2⟩ := H5.out.2.stamp
      by_cases hD : D = []
      · have CX : Hid (1 = 1 → _) := fun _ => CC.out w5 H5.out.2 hD
        have hD0 : D.length = 0 := by rw [hD]; rfl
        generalize D.length = dn at *
        subst hD0
        clear CC CS
        go_wp2_with fail
        refine (CX.out (by trivial)).mono ?_
        rintro e w6 ⟨g6, t6, rfl, h6⟩
        have H6 : Hid _ := h6
        clear h6 CX y0 y1 y2 H5
        go_wp2_with fail
        go_roundw
        case rel => exact ⟨m + 1, t6, by omega, by go_num, by rw [HGn.out, ← HGe.out]; simp, H6.out⟩
        case measure => simp [intOf]; omega
      · have CX : Hid (1 = 1 → _) := fun _ => CS.out w5 ao2 cap2 H5.out.2 H5.out.1 hD
        have hD0 : ((D.length : Int) == 0) = false := by
          rw [beq_eq_false_iff_ne]
          have := List.length_pos_iff.2 hD
          omega
        clear CC CS
        go_wp2_with fail
        refine (CX.out (by trivial)).mono ?_
        rintro e w6 ⟨t6, rfl, h6⟩
        have H6 : Hid _ := h6
        clear h6 CX y0 y1 y2 H5
        go_wp2_with fail
        go_roundw
        case rel => exact ⟨m + 1, t6, by omega, by go_num, by rw [HGn.out, ← HGe.out], H6.out⟩
        case measure => simp [intOf]; omega
    · have hml' : ¬ (m : Int) < S.length := by omega
      have HZ : Hid (goneS sp sl (S.take m) = goneS sp sl S ∧ SoPost B p (footS p q t) (pruneS sp sl S) w wr) := by
        have h9 := H3.out.out
        rw [prT_end (by omega)] at h9
        exact ⟨by rw [List.take_of_length_le (by omega)], h9⟩
      clear H3
      go_wp2_with fail
      go_ret
      rw [HZ.out.1]
      exact ⟨rfl, HZ.out.2⟩
end Go.Proofs.Ytcfhkggijdjagaa
