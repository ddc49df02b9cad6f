/-
  Contract of frame.Scan, by its labels.
-/
import Derived.Test.YtncjcipbkeljdaaScan
namespace Go.Proofs.Ytncjcipbkeljdaa
open Go.RowKit Go.Sort

/-- The frame at both labels. -/
def AtLab (s : List UInt8) (V : Value) (t : Nat) (a : Act) : Prop :=
  ∃ u6 u7 u8 u9 u10 u11 u12 u13 u14 u15 u16 u17 u18 u19 u20 u21 u22 u23 u24 u25 u26 u27 : Value, a = { tmps := #[.string (bs s), undef, .slice none 0 0, .int .i64 0, V, .int .i64 t, u6, u7, u8, u9, u10, u11, u12, u13, u14, u15, u16, u17, u18, u19, u20, u21, u22, u23, u24, u25, u26, u27], defers := [] }

theorem atLab {s : List UInt8} {V x5 : Value} {t : Nat} {u6 u7 u8 u9 u10 u11 u12 u13 u14 u15 u16 u17 u18 u19 u20 u21 u22 u23 u24 u25 u26 u27 : Value} (h5 : x5 = .int .i64 t) : AtLab s V t { tmps := #[.string (bs s), undef, .slice none 0 0, .int .i64 0, V, x5, u6, u7, u8, u9, u10, u11, u12, u13, u14, u15, u16, u17, u18, u19, u20, u21, u22, u23, u24, u25, u26, u27], defers := [] } := by
  subst h5
  exact ⟨u6, u7, u8, u9, u10, u11, u12, u13, u14, u15, u16, u17, u18, u19, u20, u21, u22, u23, u24, u25, u26, u27, rfl⟩

set_option maxHeartbeats 1600000 in
set_option maxRecDepth 100000 in
theorem scan14 (s : List UInt8) (w : World) (hs : s.length ≤ 1000000) :
    Calls Try.prog 14 #[.string (bs s)] w fun e w' => (∃ v, e = .returned (.tuple #[v, .int .i64 (rdScan s).2]) ∧ TxAt w.heap.size v (rdScan s).1 w') ∧ Below w.heap.size w w' := by
  obtain ⟨i0, hi, hz0, hz1, hz2⟩ := info_parts info9
  have hsz := bs_size s
  go_enter Try.func14, Try.ntmps14
  go_wp2
  refine scope_labels (fun l a' w' => ∃ V L t, TxAt w.heap.size V L w' ∧ Below w.heap.size w w' ∧ AtLab s V t a' ∧ (l = 0 ∧ ScanTo s L t ∨ l = 1 ∧ rdScan s = (L, t)))
    (fun l a' _ => if l = 1 then 0 else 2000000 - (intOf (a'.tmps.getD 5 undef)).toNat) ?_ ?_
  · rintro l a' w' ⟨V, L, t, htx, hbel, hat, ⟨rfl, hsc⟩ | ⟨rfl, hr⟩⟩
    · obtain ⟨u6, u7, u8, u9, u10, u11, u12, u13, u14, u15, u16, u17, u18, u19, u20, u21, u22, u23, u24, u25, u26, u27, rfl⟩ := hat
      refine ⟨_, rfl, ?_⟩
      have hts := hsc.1
      have hLl := hsc.len
      obtain ⟨ao, cp, rfl⟩ := tx_shape htx
      have hdr := bs_drop s t
      rw [hsz] at hdr
      obtain ⟨D, hD⟩ : ∃ D, D = s.drop t := ⟨_, rfl⟩
      rw [← hD] at hdr
      have hDl : D.length ≤ s.length := by rw [hD, List.length_drop]; omega
      have c10 := fun w => next10 D w (by omega)
      have hmore := fun p n h => hsc.more (p := p) (n := n) h
      have hdone := hsc.done
      rw [← hD] at hmore hdone
      obtain ⟨⟨p, n, x⟩, hz⟩ : ∃ z, z = rdNext D := ⟨_, rfl⟩
      rw [← hz] at c10 hmore hdone
      have HC : Hid (∀ w, 1 = 1 → Calls Try.prog 10 #[.string (bs D)] w fun e w' => e = .returned (.tuple #[.string (bs p), .int .i64 n, .int .i64 x]) ∧ Below w.heap.size w w') := fun w _ => c10 w
      have HT : Hid (TxAt w.heap.size (.slice ao L.length cp) L w' ∧ Below w.heap.size w w') := ⟨htx, hbel⟩
      have hws := hbel.size
      clear c10 hz hD htx hbel hsc
      by_cases hx : x = 0
      · subst hx
        obtain ⟨hsc2, hn6, htn⟩ := hmore p n rfl
        have HS : Hid (ScanTo s (L ++ [p]) (t + n)) := hsc2
        clear hmore hdone hsc2
        go_wp2_with fail
        refine (HC.out _ (by trivial)).mono ?_
        rintro e w2 ⟨rfl, hb2⟩
        have H2 : Hid (TxAt w.heap.size (.slice ao L.length cp) L w2 ∧ Below w.heap.size w w2) := ⟨HT.out.1.on hb2, HT.out.2.trans (hb2.mono hws)⟩
        have hws2 := H2.out.2.size
        clear hb2
        go_wp2_with (at_builtin; refine wpList_append_own _ rfl (.tmp 19) (.tmp 21) 30 rfl w.heap.size 9 i0 (.string ⟨#[]⟩) 1 16 Try.underlying30 hi hz0 hz1 hz2 rfl (by decide) (.slice ao L.length cp) L.length (sl L) rfl (World.ownsRow.alloc H2.out.1 _) ⟨w2.heap.size, 0, none⟩ 1 1 [.string (bs p)] rfl rfl (one_new _ _ _) (str_one _) (by unfold maxLen; omega) (by omega) (by simp; omega) ?_; intro v' w3 hown' hgrow _; have HG : Hid _ := And.intro hown' hgrow; clear hown' hgrow)
        go_step3
        have htx3 : TxAt w.heap.size v' (L ++ [p]) w3 := by
          have := HG.out.1
          unfold TxAt
          rw [sl_snoc, List.length_append]
          exact this
        have hb3 : Below w.heap.size w w3 := (H2.out.2.alloc hws2 _).grown HG.out.2 (by simp; omega) (fun k hk => by have := (World.ownsRow.alloc H2.out.1 (.cells #[.string (bs p)] 9)).lt k hk; omega)
        refine ⟨⟨v', L ++ [p], t + n, htx3, hb3, atLab (by go_num), .inl ⟨rfl, HS.out⟩⟩, ?_⟩
        simp [intOf]
        omega
      · have hx' : ((x : Int) != 0) = true := by simp; omega
        have hr := hdone hx
        have HR : Hid (rdScan s = (L, t)) := hr
        clear hmore hdone hr
        go_wp2_with (go_at_call 10; refine (HC.out _ (by trivial)).mono ?_; rintro e w2 ⟨rfl, hb2⟩; have H2 : Hid (TxAt w.heap.size (.slice ao L.length cp) L w2 ∧ Below w.heap.size w w2) := ⟨HT.out.1.on hb2, HT.out.2.trans (hb2.mono hws)⟩; clear hb2)
        go_step3
        refine ⟨⟨_, L, t, H2.out.1, H2.out.2, atLab rfl, .inr ⟨rfl, HR.out⟩⟩, ?_⟩
        simp [intOf]
        omega
    · obtain ⟨u6, u7, u8, u9, u10, u11, u12, u13, u14, u15, u16, u17, u18, u19, u20, u21, u22, u23, u24, u25, u26, u27, rfl⟩ := hat
      refine ⟨_, rfl, ?_⟩
      obtain ⟨ao, cp, rfl⟩ := tx_shape htx
      have HT : Hid (TxAt w.heap.size (.slice ao L.length cp) L w' ∧ Below w.heap.size w w' ∧ rdScan s = (L, t)) := ⟨htx, hbel, hr⟩
      clear htx hbel hr
      go_wp2
      simp only [onJump]
      go_ret2
      rw [HT.out.2.2]
      exact ⟨⟨_, rfl, HT.out.1⟩, HT.out.2.1⟩
  · intro hp
    have HP : Hid _ := hp
    clear hp
    go_wp2
    go_step3
    rename_i K hK
    refine hK _ _ ?_
    exact HP.out 0 _ _ _ rfl ⟨_, [], 0, tx_nil _ _, Below.refl _ _, atLab rfl, .inl ⟨rfl, scanTo_zero s⟩⟩

end Go.Proofs.Ytncjcipbkeljdaa
