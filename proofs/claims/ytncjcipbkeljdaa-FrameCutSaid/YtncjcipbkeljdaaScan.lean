/-
  Contracts of frame.Scan and of the document's: all frames from the beginning on, and how many bytes they take.
-/
import Derived.Test.YtncjcipbkeljdaaLists
namespace Go.Proofs.Ytncjcipbkeljdaa
open Go.RowKit Go.Sort

/-- From the place t on the frames are those behind L. -/
def ScanTo (s : List UInt8) (L : List (List UInt8)) (t : Nat) : Prop := t ≤ s.length ∧ rdScan s = (L ++ (rdScan (s.drop t)).1, t + (rdScan (s.drop t)).2)

theorem scanTo_zero (s : List UInt8) : ScanTo s [] 0 := ⟨Nat.zero_le _, by simp⟩
theorem ScanTo.more {s : List UInt8} {L : List (List UInt8)} {t : Nat} (h : ScanTo s L t) {p : List UInt8} {n : Nat} (hn : rdNext (s.drop t) = (p, n, 0)) : ScanTo s (L ++ [p]) (t + n) ∧ 6 ≤ n ∧ t + n ≤ s.length := by
  have hp := next_pos (l := s.drop t) (by rw [hn])
  have hm := scan_more (l := s.drop t) (by rw [hn])
  rw [hn] at hp hm
  dsimp only at hp hm
  rw [List.length_drop] at hp
  have h1 := h.1
  refine ⟨⟨by omega, ?_⟩, hp.1, by omega⟩
  rw [h.2, hm]
  dsimp only
  rw [List.drop_drop, List.append_assoc, Nat.add_assoc]
  rfl
theorem ScanTo.done {s : List UInt8} {L : List (List UInt8)} {t : Nat} (h : ScanTo s L t) (hn : (rdNext (s.drop t)).2.2 ≠ 0) : rdScan s = (L, t) := by
  rw [h.2, scan_end hn]
  simp
theorem ScanTo.len {s : List UInt8} {L : List (List UInt8)} {t : Nat} (h : ScanTo s L t) : L.length ≤ s.length := by
  have := scan_len s
  rw [h.2, List.length_append] at this
  omega

set_option maxHeartbeats 1600000 in
theorem refScan15 (s : List UInt8) (w : World) (hs : s.length ≤ 1000000) :
    Calls Try.prog 15 #[.string (bs s)] w fun e w' => (∃ v, e = .returned (.tuple #[v, .int .i64 (rdScan s).2]) ∧ TxAt w.heap.size v (rdScan s).1 w') ∧ Below w.heap.size w w' := by
  obtain ⟨i0, hi, hz0, hz1, hz2⟩ := info_parts info9
  have hsz := bs_size s
  go_enter Try.func15, Try.ntmps15
  go_wp2_with fail
  go_loopw [4, 5] (fun v a wr => ∃ (V : Value) (L : List (List UInt8)) (t : Nat), v = V ∧ a = .int .i64 t ∧ TxAt w.heap.size V L wr ∧ Below w.heap.size w wr ∧ ScanTo s L t) (fun _ a _ => s.length - (intOf a).toNat)
  case atStart => exact ⟨_, [], 0, rfl, rfl, tx_nil _ _, Below.refl _ _, scanTo_zero s⟩
  case round =>
    obtain ⟨V, L, t, hVe, rfl, htx, hbel, hsc⟩ := hrel
    have hVe' := hVe.symm
    clear hVe
    subst hVe'
    have hts := hsc.1
    have hLl := hsc.len
    obtain ⟨ao, cp, rfl⟩ := tx_shape htx
    have hdr := bs_drop s t
    rw [hsz] at hdr
    obtain ⟨D, hD⟩ : ∃ D, D = s.drop t := ⟨_, rfl⟩
    rw [← hD] at hdr
    have hDl : D.length ≤ s.length := by rw [hD, List.length_drop]; omega
    have c11 := fun w => refNext11 D w (by omega)
    have hmore := fun p n h => hsc.more (p := p) (n := n) h
    have hdone := hsc.done
    rw [← hD] at hmore hdone
    obtain ⟨⟨p, n, x⟩, hz⟩ : ∃ z, z = rdNext D := ⟨_, rfl⟩
    rw [← hz] at c11 hmore hdone
    have HC : Hid (∀ w, 1 = 1 → Calls Try.prog 11 #[.string (bs D)] w fun e w' => e = .returned (.tuple #[.string (bs p), .int .i64 n, .int .i64 x]) ∧ Below w.heap.size w w') := fun w _ => c11 w
    have HT : Hid (TxAt w.heap.size (.slice ao L.length cp) L wr ∧ Below w.heap.size w wr) := ⟨htx, hbel⟩
    have hws := hbel.size
    clear c11 hz hD htx hbel hsc
    by_cases hx : x = 0
    · subst hx
      obtain ⟨hsc2, hn6, htn⟩ := hmore p n rfl
      have HS : Hid (ScanTo s (L ++ [p]) (t + n)) := hsc2
      clear hmore hdone hsc2
      go_wp2_with fail
      refine (HC.out _ (by trivial)).mono ?_
      rintro e w2 ⟨rfl, hb2⟩
      have H2 : Hid (TxAt w.heap.size (.slice ao L.length cp) L w2 ∧ Below w.heap.size w w2) := ⟨HT.out.1.on hb2, HT.out.2.trans (hb2.mono hws)⟩
      have hws2 := H2.out.2.size
      clear hb2
      go_wp2_with (at_builtin; refine wpList_append_own _ rfl (.tmp 21) (.tmp 23) 30 rfl w.heap.size 9 i0 (.string ⟨#[]⟩) 1 16 Try.underlying30 hi hz0 hz1 hz2 rfl (by decide) (.slice ao L.length cp) L.length (sl L) rfl (World.ownsRow.alloc H2.out.1 _) ⟨w2.heap.size, 0, none⟩ 1 1 [.string (bs p)] rfl rfl (one_new _ _ _) (str_one _) (by unfold maxLen; omega) (by omega) (by simp; omega) ?_; intro v' w3 hown' hgrow _; have HG : Hid _ := And.intro hown' hgrow; clear hown' hgrow)
      go_roundw
      case rel =>
        refine ⟨_, L ++ [p], t + n, rfl, by go_num, ?_, ?_, HS.out⟩
        · have := HG.out.1
          unfold TxAt
          rw [sl_snoc, List.length_append]
          exact this
        · exact (H2.out.2.alloc hws2 _).grown HG.out.2 (by simp; omega) (fun k hk => by have := (World.ownsRow.alloc H2.out.1 (.cells #[.string (bs p)] 9)).lt k hk; omega)
      case measure => simp [intOf]; omega
    · have hx' : ((x : Int) != 0) = true := by simp; omega
      have hr := hdone hx
      have HR : Hid (rdScan s = (L, t)) := hr
      clear hmore hdone hr
      go_wp2_with (go_at_call 11; refine (HC.out _ (by trivial)).mono ?_; rintro e w2 ⟨rfl, hb2⟩; have H2 : Hid (TxAt w.heap.size (.slice ao L.length cp) L w2 ∧ Below w.heap.size w w2) := ⟨HT.out.1.on hb2, HT.out.2.trans (hb2.mono hws)⟩; clear hb2)
      go_ret2
      rw [HR.out]
      exact ⟨⟨_, rfl, H2.out.1⟩, H2.out.2⟩

end Go.Proofs.Ytncjcipbkeljdaa
