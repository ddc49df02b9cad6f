/-
  Contract of the log's scan: by its labels.
-/
import Derived.Test.YtjjdmeemhgopbaaLo
import Derived.Test.YtjjdmeemhgopbaaLeaf
import Derived.Test.YtjjdmeemhgopbaaLists
import Derived.Laws.ResultCell
namespace Go.Proofs.Ytjjdmeemhgopbaa
open Go.RowKit Go.Sort

/-- .. where the text at a label may use the contracts of labels of a lower measure. -/
theorem scope_labels2 {P : Program} {a : Act} {w : World} {Q : Exit → Act → World → Prop} {c : Code} (J : Nat → Act → World → Prop) (μ : Nat → Act → World → Nat)
    (pass : ∀ l a w, J l a w → (∀ l1 a1 w1 rest1, findLabel c l1 = some (Code.skip.seq rest1) → J l1 a1 w1 → μ l1 a1 w1 < μ l a w → rest1.wp P (onJump (fun l' a' w' => J l' a' w' ∧ μ l' a' w' < μ l a w) Q) a1 w1) →
      ∃ rest, findLabel c l = some (Code.skip.seq rest) ∧ rest.wp P (onJump (fun l' a' w' => J l' a' w' ∧ μ l' a' w' < μ l a w) Q) a w)
    (first : (∀ l a w rest, findLabel c l = some (Code.skip.seq rest) → J l a w → rest.wp P (onJump J Q) a w) → c.wp P (onJump J Q) a w) : (Code.scope c).wp P Q a w := by
  refine scope_labels J μ ?_ first
  have key : ∀ n l a w, μ l a w = n → J l a w → ∃ rest, findLabel c l = some (Code.skip.seq rest) ∧ rest.wp P (onJump (fun l' a' w' => J l' a' w' ∧ μ l' a' w' < μ l a w) Q) a w := by
    intro n
    induction n using Nat.strongRecOn with
    | ind n ih =>
      intro l a w hn hJ
      refine pass l a w hJ ?_
      intro l1 a1 w1 rest1 hf1 hJ1 hlt
      obtain ⟨r, hr, hwp⟩ := ih (μ l1 a1 w1) (by omega) l1 a1 w1 rfl hJ1
      rw [hf1] at hr
      injection hr with hr
      injection hr with _ hr
      subst hr
      refine Code.wp_mono ?_ hwp
      intro e a2 w2 hq
      cases e with
      | goto l' => exact ⟨hq.1, by have := hq.2; omega⟩
      | normal => exact hq
      | exit id => exact hq
      | ret => exact hq
      | panic ch => exact hq
      | outgrown => exact hq
  exact fun l a w hJ => key _ l a w rfl hJ

/-- A content's value. -/
def ctVal (c : Ct) (V : Value) : Value := .agg #[.int .u64 c.gen, V, .int .i64 c.fin, .int .i64 c.beh]

/-- A content's cells. -/
def CtIn (cb : Nat) (x0 x1 x2 x3 : Value) (w : World) : Prop := w.heap[cb]? = some (.cells #[x0, x1, x2, x3] 71 (0, 0))
section
variable {cb : Nat} {x0 x1 x2 x3 : Value} {w : World}
theorem CtIn.lt (h : CtIn cb x0 x1 x2 x3 w) : cb < w.heap.size := lt_of_block h
theorem CtIn.cells (h : CtIn cb x0 x1 x2 x3 w) : w.cell? ⟨cb, 0, none⟩ = some x0 ∧ w.cell? ⟨cb, 1, none⟩ = some x1 ∧ w.cell? ⟨cb, 2, none⟩ = some x2 ∧ w.cell? ⟨cb, 3, none⟩ = some x3 ∧ ∀ k, w.frozen? ⟨cb, k, none⟩ = false := by
  unfold CtIn at h
  refine ⟨?_, ?_, ?_, ?_, fun k => ?_⟩ <;> simp [World.cell?, World.frozen?, h]
theorem CtIn.on {w' : World} (h : CtIn cb x0 x1 x2 x3 w) (hb : Below w.heap.size w w') : CtIn cb x0 x1 x2 x3 w' := by
  unfold CtIn
  rw [hb.block cb h.lt]
  exact h
theorem ct_set {w : World} {b k : Nat} {cs : Array Value} {t : TypeId} {u : Value} (h : w.heap[b]? = some (.cells cs t (0, 0))) : (w.setCell ⟨b, k, none⟩ u).heap[b]? = some (.cells (cs.setIfInBounds k u) t (0, 0)) := by
  have hlt := lt_of_block h
  have h' : w.heap[b] = .cells cs t (0, 0) := by simpa [Array.getElem?_eq_getElem hlt] using h
  show (w.heap.modify b _)[b]? = _
  rw [Array.getElem?_eq_getElem (by simpa using hlt), Array.getElem_modify_self, h']
  rfl
theorem CtIn.set0 (h : CtIn cb x0 x1 x2 x3 w) (u : Value) : CtIn cb u x1 x2 x3 (w.setCell ⟨cb, 0, none⟩ u) := ct_set h
theorem CtIn.set1 (h : CtIn cb x0 x1 x2 x3 w) (u : Value) : CtIn cb x0 u x2 x3 (w.setCell ⟨cb, 1, none⟩ u) := ct_set h
theorem CtIn.set2 (h : CtIn cb x0 x1 x2 x3 w) (u : Value) : CtIn cb x0 x1 u x3 (w.setCell ⟨cb, 2, none⟩ u) := ct_set h
theorem CtIn.set3 (h : CtIn cb x0 x1 x2 x3 w) (u : Value) : CtIn cb x0 x1 x2 u (w.setCell ⟨cb, 3, none⟩ u) := ct_set h
theorem TxAt.box {B : Nat} {V : Value} {L : List (List UInt8)} (h : TxAt B V L w) (hb : cb < B) (k : Nat) (u : Value) : TxAt B V L (w.setCell ⟨cb, k, none⟩ u) :=
  ownsRow_setCell_other h (fun e => by have := (World.ownsRow.lt h cb e).1; omega) _
end

/-- The frame at the labels. -/
def AtS (s : List UInt8) (cb : Nat) (a : Act) : Prop := a.defers = [] ∧ a.tmps.size = 83 ∧ a.tmps.getD 0 undef = .string (bs s) ∧ a.tmps.getD 2 undef = .pointer (some ⟨cb, 0, none⟩)
theorem all83 (u : Nat → Value) : ((List.range 83).map u).toArray = #[u 0, u 1, u 2, u 3, u 4, u 5, u 6, u 7, u 8, u 9, u 10, u 11, u 12, u 13, u 14, u 15, u 16, u 17, u 18, u 19, u 20, u 21, u 22, u 23, u 24, u 25, u 26, u 27, u 28, u 29, u 30, u 31, u 32, u 33, u 34, u 35, u 36, u 37, u 38, u 39, u 40, u 41, u 42, u 43, u 44, u 45, u 46, u 47, u 48, u 49, u 50, u 51, u 52, u 53, u 54, u 55, u 56, u 57, u 58, u 59, u 60, u 61, u 62, u 63, u 64, u 65, u 66, u 67, u 68, u 69, u 70, u 71, u 72, u 73, u 74, u 75, u 76, u 77, u 78, u 79, u 80, u 81, u 82] := rfl
theorem AtS.spelt {s : List UInt8} {cb : Nat} {a : Act} (h : AtS s cb a) : ∃ u : Nat → Value, a = { tmps := #[.string (bs s), u 1, .pointer (some ⟨cb, 0, none⟩), u 3, u 4, u 5, u 6, u 7, u 8, u 9, u 10, u 11, u 12, u 13, u 14, u 15, u 16, u 17, u 18, u 19, u 20, u 21, u 22, u 23, u 24, u 25, u 26, u 27, u 28, u 29, u 30, u 31, u 32, u 33, u 34, u 35, u 36, u 37, u 38, u 39, u 40, u 41, u 42, u 43, u 44, u 45, u 46, u 47, u 48, u 49, u 50, u 51, u 52, u 53, u 54, u 55, u 56, u 57, u 58, u 59, u 60, u 61, u 62, u 63, u 64, u 65, u 66, u 67, u 68, u 69, u 70, u 71, u 72, u 73, u 74, u 75, u 76, u 77, u 78, u 79, u 80, u 81, u 82], defers := [] } := by
  obtain ⟨tmps, defers⟩ := a
  obtain ⟨h1, h2, h3, h4⟩ := h
  dsimp only at h1 h2 h3 h4
  subst h1
  refine ⟨fun i => tmps.getD i undef, ?_⟩
  have e : tmps = ((List.range 83).map fun i => tmps.getD i undef).toArray := by
    apply Array.ext
    · simp [h2]
    · intro i hi hi2
      simp [Array.getD, hi]
  have e2 := e.trans (all83 _)
  rw [h3, h4] at e2
  rw [← e2]

/-- What is there at a label: none 0, copied 1, appended 2. -/
structure LabAt (s : List UInt8) (cb : Nat) (w : World) (l : Nat) (V : Value) (L : List (List UInt8)) (t g : Nat) (w' : World) : Prop where
  ct : CtIn cb (.int .u64 g) V (.int .i64 t) (.int .i64 0) w'
  tx : TxAt (cb + 1) V L w'
  below : Below cb w w'
  le : t ≤ s.length
  len : L.length ≤ t
  tells : l = 0 ∧ lgOf s = none ∨ l = 1 ∧ lgOf s = (match cop s L t with | none => none | some x => some (g, app s x.1 x.2)) ∨ l = 2 ∧ lgOf s = some (g, app s L t)

/-- The log's end, as it lies in the cell. -/
def finAt (cb : Nat) (w : World) : Nat := (intOf ((w.cell? ⟨cb, 2, none⟩).getD undef)).toNat
theorem finAt_of {cb t : Nat} {x0 x1 x3 : Value} {w : World} (h : CtIn cb x0 x1 (.int .i64 t) x3 w) : finAt cb w = t := by
  unfold finAt
  rw [h.cells.2.2.1]
  simp [intOf]

theorem info71 : (Try.prog.info? 71).map (·.size) = some 4 := by kernel_rfl
theorem load_ct {cb : Nat} {x0 x1 x2 x3 : Value} {w : World} (h : CtIn cb x0 x1 x2 x3 w) : (loadVar 71 ⟨cb, 0, none⟩).run Try.prog w = .ok (.agg #[x0, x1, x2, x3]) w :=
  run_loadVar_row w cb 71 71 #[x0, x1, x2, x3] (0, 0) _ h Try.underlying71 rfl info71
theorem results_ct {cb : Nat} {x0 x1 x2 x3 : Value} {w : World} (h : CtIn cb x0 x1 x2 x3 w) {tmps : Array Value} (hp : tmps.getD 2 undef = .pointer (some ⟨cb, 0, none⟩)) :
    (results Try.f46 tmps).run Try.prog w = .ok (.tuple #[.agg #[x0, x1, x2, x3], tmps.getD 3 undef]) w := by
  rw [results_cell_tmp rfl, hp]
  simp [asAddr, Result.andThen, load_ct h]

theorem lg_not {s : List UInt8} (h : (nx s).1 ≠ 71) : lgOf s = none := by unfold lgOf; rw [if_neg h]
theorem lg_nonum {s : List UInt8} (h : numB (nx s).2.1 = false) : lgOf s = none := by
  unfold lgOf
  split
  · rw [numOf_no h]
  · rfl
theorem lg_num {s : List UInt8} (h1 : (nx s).1 = 71) (h : numB (nx s).2.1 = true) : lgOf s = (match cop s [] (nx s).2.2 with | none => none | some x => some ((rdNum 18446744073709551615 ⟨(nx s).2.1, 0⟩).1, app s x.1 x.2)) := by
  unfold lgOf
  rw [if_pos h1, numOf_yes h]
  rfl

theorem nx_rest (l : List UInt8) : (nx l).2.1.length < 16384 := by
  unfold nx
  split
  · decide
  · next h =>
    have h0 : (rdNext l).2.2 = 0 := by
      by_cases h1 : (rdNext l).2.2 = 0
      · exact h1
      · exact absurd (.inl h1) h
    have h1 : (rdNext l).1 ≠ [] := fun e => h (.inr e)
    have h2 := (next_ok (l := l) (p := (rdNext l).1) (t := (rdNext l).2.1) (by rw [← h0])).1
    dsimp only
    have h3 : 0 < (rdNext l).1.length := List.length_pos_iff.2 h1
    rw [List.length_tail]
    omega

theorem u8_ne {k : UInt8} {n : Nat} (h : k ≠ UInt8.ofNat n) : ((k.toNat : Int) == (n : Int)) = false := by
  have : k.toNat ≠ n := fun e => h (by rw [← e]; simp)
  simp
  omega
theorem u8_yes {k : UInt8} {n : Nat} (hn : n < 256) (h : k = UInt8.ofNat n) : ((k.toNat : Int) == (n : Int)) = true := by
  subst h
  rw [u8_of n hn]
  simp

theorem one_new2 {w : World} {n : Nat} (h : w.heap.size = n) (u : Value) (e : TypeId) : ∀ j x, [u][j]? = some x → (w.alloc (.cells #[u] e)).cell? ((⟨n, 0, none⟩ : Addr).add j) = some x := by
  subst h
  exact one_new w u e

/-- Behind an append to the content's row of records. -/
theorem grown_ct {cb g t : Nat} {ao : Option Addr} {cp : Nat} {L : List (List UInt8)} {r : List UInt8} {w w1 w3 : World} {v' : Value} (hc : CtIn cb (.int .u64 g) (.slice ao L.length cp) (.int .i64 t) (.int .i64 0) w1) (ht : TxAt (cb + 1) (.slice ao L.length cp) L w1) (hb : Below cb w w1)
    (hown : w3.ownsRow (cb + 1) 9 1 v' (L.length + 1) (sl L ++ [.string (bs r)])) (hg : (w1.alloc (.cells #[.string (bs r)] 9)).grownBy w3 (Value.ownBlock (.slice ao L.length cp))) :
    ∃ ao2 cp2, v' = .slice ao2 (L.length + 1) cp2 ∧ CtIn cb (.int .u64 g) (.slice ao L.length cp) (.int .i64 t) (.int .i64 0) w3 ∧ TxAt (cb + 1) v' (L ++ [r]) w3 ∧ Below cb w w3 := by
  have h3 : TxAt (cb + 1) v' (L ++ [r]) w3 := by
    unfold TxAt
    rw [sl_snoc, List.length_append]
    exact hown
  obtain ⟨ao2, cp2, e⟩ := tx_shape h3
  rw [List.length_append] at e
  have hlt := hc.lt
  have hne : Value.ownBlock (.slice ao L.length cp) ≠ some cb := fun e => by have := (World.ownsRow.lt ht cb e).1; omega
  refine ⟨ao2, cp2, e, ?_, h3, ?_⟩
  · unfold CtIn
    rw [hg.block cb (by simp; omega) (fun e => hne e.symm), Below.heap_alloc w1 _ cb hlt]
    exact hc
  · exact (hb.alloc (by omega) _).grown hg (by simp; omega) (fun k hk => by have := (World.ownsRow.lt ht k hk).1; omega)

set_option maxHeartbeats 1600000 in
set_option maxRecDepth 100000 in
theorem scan46 (s : List UInt8) (w : World) (hs : s.length ≤ 1048576) :
    Calls Try.prog 46 #[.string (bs s)] w fun e w' => (∃ V, e = .returned (.tuple #[ctVal (scanOf s).1 V, .bool (scanOf s).2]) ∧ TxAt (w.heap.size + 1) V (scanOf s).1.recs w') ∧ Below w.heap.size w w' := by
  obtain ⟨i0, hi, hz0, hz1, hz2⟩ := info_parts info9
  have hsz := bs_size s
  obtain ⟨cb, hcb⟩ : ∃ cb, cb = w.heap.size := ⟨_, rfl⟩
  rw [← hcb]
  have HCB : Hid (cb = w.heap.size) := hcb
  clear hcb
  go_enter Try.func46, Try.ntmps46
  go_wp2_with fail
  rw [← HCB.out]
  have hct0 : CtIn cb (.int .u64 0) (.slice none 0 0) (.int .i64 0) (.int .i64 0) (w.alloc (.cells #[.int .u64 0, .slice none 0 0, .int .i64 0, .int .i64 0] 71)) := by rw [HCB.out]; exact heap_alloc_new w _
  have hb0 : Below cb w (w.alloc (.cells #[.int .u64 0, .slice none 0 0, .int .i64 0, .int .i64 0] 71)) := by rw [HCB.out]; exact (Below.refl _ _).alloc (Nat.le_refl _) _
  generalize w.alloc (.cells #[.int .u64 0, .slice none 0 0, .int .i64 0, .int .i64 0] 71) = w0 at hct0 hb0 ⊢
  refine scope_labels2 (fun l a' w' => AtS s cb a' ∧ ∃ V L t g, LabAt s cb w l V L t g w')
    (fun l _ w' => if l = 0 then 0 else if l = 1 then 4000000 - finAt cb w' else 2000000 - finAt cb w') ?_ ?_
  · clear hct0 hb0
    rintro l a' w' ⟨hat, V, L, t, g, hl⟩ hp
    obtain ⟨u, rfl⟩ := hat.spelt
    clear hat
    have hfin := finAt_of hl.ct
    obtain ⟨hct, htx, hbel, hle, hlen, ⟨rfl, hr⟩ | ⟨rfl, hr⟩ | ⟨rfl, hr⟩⟩ := hl
    · refine ⟨_, rfl, ?_⟩
      clear hp hfin
      obtain ⟨c0, c1, c2, c3, cf⟩ := hct.cells
      have hC := (((hct.set0 (.int .u64 0)).set1 (.slice none 0 0)).set2 (.int .i64 0)).set3 (.int .i64 0)
      have hBb := (((hbel.setCell (p := ⟨cb, 0, none⟩) (Nat.le_refl _) (.int .u64 0)).setCell (p := ⟨cb, 1, none⟩) (Nat.le_refl _) (.slice none 0 0)).setCell (p := ⟨cb, 2, none⟩) (Nat.le_refl _) (.int .i64 0)).setCell (p := ⟨cb, 3, none⟩) (Nat.le_refl _) (.int .i64 0)
      have H : Hid (CtIn cb (.int .u64 0) (.slice none 0 0) (.int .i64 0) (.int .i64 0) ((((w'.setCell ⟨cb, 0, none⟩ (.int .u64 0)).setCell ⟨cb, 1, none⟩ (.slice none 0 0)).setCell ⟨cb, 2, none⟩ (.int .i64 0)).setCell ⟨cb, 3, none⟩ (.int .i64 0)) ∧ Below cb w ((((w'.setCell ⟨cb, 0, none⟩ (.int .u64 0)).setCell ⟨cb, 1, none⟩ (.slice none 0 0)).setCell ⟨cb, 2, none⟩ (.int .i64 0)).setCell ⟨cb, 3, none⟩ (.int .i64 0)) ∧ lgOf s = none) := ⟨hC, hBb, hr⟩
      clear hct htx hbel hr hC hBb
      go_wp2
      simp only [onJump]
      refine bodyPost_ret (results_ct H.out.1 rfl) rfl ?_
      rw [scan_none H.out.2.2]
      exact ⟨⟨_, rfl, tx_nil _ _⟩, H.out.2.1⟩
    · refine ⟨_, rfl, ?_⟩
      obtain ⟨ao, cp, rfl⟩ := tx_shape htx
      have hdr := bs_drop s t
      rw [hsz] at hdr
      have hmore := cop_more (l := s) (R := L) (a := t)
      have hend := cop_end (l := s) (R := L) (a := t)
      have hnone := cop_none (l := s) (R := L) (a := t)
      have hnl := nx_le (s.drop t)
      have hrl := nx_rest (s.drop t)
      have hpos := nx_pos (l := s.drop t)
      have hDl : (s.drop t).length = s.length - t := List.length_drop
      generalize s.drop t = D at *
      obtain ⟨k, r, n, hnx⟩ : ∃ k r n, nx D = (k, r, n) := ⟨_, _, _, rfl⟩
      have HN : Hid (1 = 1 → Calls Try.prog 68 #[.string (bs D)] w' fun e w1 => e = .returned (.tuple #[.int .u8 k.toNat, .string (bs r), .int .i64 n]) ∧ Below w'.heap.size w' w1) := fun _ => by
        have := next68 D w' (by omega)
        rw [hnx] at this
        exact this
      rw [hnx] at hmore hend hnone hnl hrl hpos
      dsimp only at hmore hend hnone hnl hrl hpos
      clear hnx
      have HP : Hid _ := hp
      clear hp
      have hwc := hct.lt
      have H0 : Hid (CtIn cb (.int .u64 g) (.slice ao L.length cp) (.int .i64 t) (.int .i64 0) w' ∧ TxAt (cb + 1) (.slice ao L.length cp) L w' ∧ Below cb w w') := ⟨hct, htx, hbel⟩
      obtain ⟨c0, c1, c2, c3, cf⟩ := hct.cells
      clear hct htx hbel
      obtain ⟨m, hm⟩ : ∃ m, m = t + n := ⟨_, rfl⟩
      rw [← hm] at hmore hend
      have hw1 : ∀ w1, Below w'.heap.size w' w1 → CtIn cb (.int .u64 g) (.slice ao L.length cp) (.int .i64 (m : Int)) (.int .i64 0) (w1.setCell ⟨cb, 2, none⟩ (.int .i64 (m : Int))) ∧ TxAt (cb + 1) (.slice ao L.length cp) L (w1.setCell ⟨cb, 2, none⟩ (.int .i64 (m : Int))) ∧ Below cb w (w1.setCell ⟨cb, 2, none⟩ (.int .i64 (m : Int))) := fun w1 hb => ⟨(H0.out.1.on hb).set2 _, (H0.out.2.1.on hb).box (by omega) _ _, (H0.out.2.2.trans (hb.mono (by omega))).setCell (p := ⟨cb, 2, none⟩) (Nat.le_refl _) _⟩
      have HW : Hid _ := hw1
      clear hw1
      have hadd : IntKind.i64.wrap ((t : Int) + n) = ((m : Nat) : Int) := by
        rw [hm]
        simp [IntKind.wrap, IntKind.bits, IntKind.signed]
        omega
      have hm6 : 6 ≤ n → t + 6 ≤ m := by omega
      have hml : m ≤ s.length := by omega
      have hmt : t ≤ m := by omega
      clear hm
      by_cases hk : k = 67
      · have hk' : ((k.toNat : Int) == 67) = true := u8_yes (n := 67) (by decide) hk
        have hr2 : lgOf s = (match cop s (L ++ [r]) m with | none => none | some x => some (g, app s x.1 x.2)) := by rw [← hmore hk]; exact hr
        have HR : Hid _ := hr2
        have hn6 := hm6 (hpos (by rw [hk]; decide))
        clear hmore hend hnone hpos hr hr2 hk
        go_wp2_with fail
        refine (HN.out (by trivial)).mono ?_
        rintro e w1 ⟨rfl, hb1⟩
        obtain ⟨e0, e1, e2, e3, ef⟩ := (H0.out.1.on hb1).cells
        have H1 : Hid _ := HW.out w1 hb1
        obtain ⟨d0, d1, d2, d3, df⟩ := H1.out.1.cells
        clear hb1
        go_wp2_with (at_builtin; refine wpList_append_own _ rfl (.tmp 42) (.tmp 44) 33 rfl (cb + 1) 9 i0 (.string ⟨#[]⟩) 1 16 Try.underlying33 hi hz0 hz1 hz2 rfl (by decide) (.slice ao L.length cp) L.length (sl L) rfl (World.ownsRow.alloc H1.out.2.1 _) ⟨_, 0, none⟩ 1 1 [.string (bs r)] rfl rfl (one_new2 (by simp) _ _) (str_one _) (by unfold maxLen; omega) (by omega) (by have := H1.out.1.lt; simp at this ⊢; omega) ?_; intro v' w3 hown' hgrow _; obtain ⟨ao2, cp2, rfl, h3c, h3t, h3b⟩ := grown_ct H1.out.1 H1.out.2.1 H1.out.2.2 hown' hgrow; have H3 : Hid _ := And.intro (h3c.set1 (.slice ao2 (L.length + 1) cp2)) (And.intro (h3t.box (Nat.lt_succ_self cb) 1 (.slice ao2 (L.length + 1) cp2)) (h3b.setCell (p := ⟨cb, 1, none⟩) (Nat.le_refl _) (.slice ao2 (L.length + 1) cp2))); obtain ⟨f0, f1, f2, f3, ff⟩ := h3c.cells; clear hown' hgrow h3c h3t h3b)
        go_step3
        refine ⟨⟨⟨rfl, rfl, rfl, rfl⟩, _, L ++ [r], m, g, ⟨H3.out.1, H3.out.2.1, H3.out.2.2, by omega, by rw [List.length_append]; show L.length + 1 ≤ _; omega, .inr (.inl ⟨rfl, HR.out⟩)⟩⟩, ?_⟩
        rw [finAt_of H3.out.1, hfin]
        simp
        omega
      · have hk' : ((k.toNat : Int) == 67) = false := u8_ne (n := 67) hk
        by_cases hke : k = 69 ∧ r = []
        · obtain ⟨hk2, rfl⟩ := hke
          have hk3 : ((k.toNat : Int) != 69) = false := by have := u8_yes (n := 69) (by decide) hk2; simpa using this
          have hr2 : lgOf s = some (g, app s L m) := by rw [hr, hend hk2 rfl]
          have HR : Hid _ := hr2
          have hre := bs_nil_empty
          clear hmore hend hnone hpos hr hr2 hk hk2
          go_wp2_with fail
          refine (HN.out (by trivial)).mono ?_
          rintro e w1 ⟨rfl, hb1⟩
          obtain ⟨e0, e1, e2, e3, ef⟩ := (H0.out.1.on hb1).cells
          have H1 : Hid _ := HW.out w1 hb1
          obtain ⟨d0, d1, d2, d3, df⟩ := H1.out.1.cells
          clear hb1
          go_wp2_with fail
          go_step3
          rename_i K hK
          refine hK _ _ ?_
          refine HP.out 2 _ _ _ rfl ⟨⟨rfl, rfl, rfl, rfl⟩, _, L, m, g, ⟨H1.out.1, H1.out.2.1, H1.out.2.2, by omega, by omega, .inr (.inr ⟨rfl, HR.out⟩)⟩⟩ ?_
          rw [finAt_of H1.out.1, hfin]
          simp
          omega
        · have hr2 : lgOf s = none := by rw [hr, hnone hk hke]
          have HR : Hid _ := hr2
          have hpk : (((k.toNat : Int) != 69) = true) ∨ (((k.toNat : Int) != 69) = false ∧ (bs r).toList.isEmpty = false) := by
            by_cases h1 : k = 69
            · right
              refine ⟨by have := u8_yes (n := 69) (by decide) h1; simpa using this, ?_⟩
              rw [bs_empty]
              cases r with
              | nil => exact absurd ⟨h1, rfl⟩ hke
              | cons b r => rfl
            · left
              have := u8_ne (n := 69) h1
              simpa using this
          clear hmore hend hnone hpos hr hr2 hk hke
          rcases hpk with h1 | ⟨h1, h2⟩
          all_goals
            go_wp2_with fail
            refine (HN.out (by trivial)).mono ?_
            rintro e w1 ⟨rfl, hb1⟩
            obtain ⟨e0, e1, e2, e3, ef⟩ := (H0.out.1.on hb1).cells
            have H1 : Hid _ := HW.out w1 hb1
            obtain ⟨d0, d1, d2, d3, df⟩ := H1.out.1.cells
            clear hb1
            go_wp2_with fail
            go_step3
            refine ⟨⟨⟨rfl, rfl, rfl, rfl⟩, _, L, m, g, ⟨H1.out.1, H1.out.2.1, H1.out.2.2, by omega, by omega, .inl ⟨rfl, HR.out⟩⟩⟩, ?_⟩
            simp [hfin]
            omega
    · refine ⟨_, rfl, ?_⟩
      clear hp
      obtain ⟨ao, cp, rfl⟩ := tx_shape htx
      have hdr := bs_drop s t
      rw [hsz] at hdr
      have hmore := app_more (l := s) (R := L) (a := t)
      have hend := app_end (l := s) (R := L) (a := t)
      have hnl := nx_le (s.drop t)
      have hrl := nx_rest (s.drop t)
      have hpos := nx_pos (l := s.drop t)
      have hDl : (s.drop t).length = s.length - t := List.length_drop
      generalize s.drop t = D at *
      obtain ⟨k, r, n, hnx⟩ : ∃ k r n, nx D = (k, r, n) := ⟨_, _, _, rfl⟩
      have HN : Hid (1 = 1 → Calls Try.prog 68 #[.string (bs D)] w' fun e w1 => e = .returned (.tuple #[.int .u8 k.toNat, .string (bs r), .int .i64 n]) ∧ Below w'.heap.size w' w1) := fun _ => by
        have := next68 D w' (by omega)
        rw [hnx] at this
        exact this
      rw [hnx] at hmore hend hnl hrl hpos
      dsimp only at hmore hend hnl hrl hpos
      clear hnx
      have hwc := hct.lt
      have H0 : Hid (CtIn cb (.int .u64 g) (.slice ao L.length cp) (.int .i64 t) (.int .i64 0) w' ∧ TxAt (cb + 1) (.slice ao L.length cp) L w' ∧ Below cb w w') := ⟨hct, htx, hbel⟩
      obtain ⟨c0, c1, c2, c3, cf⟩ := hct.cells
      clear hct htx hbel
      obtain ⟨m, hm⟩ : ∃ m, m = t + n := ⟨_, rfl⟩
      rw [← hm] at hmore
      have hadd : IntKind.i64.wrap ((t : Int) + n) = ((m : Nat) : Int) := by
        rw [hm]
        simp [IntKind.wrap, IntKind.bits, IntKind.signed]
        omega
      have hm6 : 6 ≤ n → t + 6 ≤ m := by omega
      have hml : m ≤ s.length := by omega
      have hmt : t ≤ m := by omega
      clear hm
      have hsub : IntKind.i64.wrap ((s.length : Int) - t) = ((s.length - t : Nat) : Int) := by
        simp [IntKind.wrap, IntKind.bits, IntKind.signed]
        omega
      by_cases hk : k = 82
      · have hk' : ((k.toNat : Int) == 82) = true := u8_yes (n := 82) (by decide) hk
        have hr2 : lgOf s = some (g, app s (L ++ [r]) m) := by rw [← hmore hk]; exact hr
        have HR : Hid _ := hr2
        have hn6 := hm6 (hpos (by rw [hk]; decide))
        clear hmore hend hpos hr hr2 hk hsub
        go_wp2_with fail
        refine (HN.out (by trivial)).mono ?_
        rintro e w1 ⟨rfl, hb1⟩
        have H1 : Hid _ := And.intro (H0.out.1.on hb1) (And.intro (H0.out.2.1.on hb1) (H0.out.2.2.trans (hb1.mono (by omega))))
        obtain ⟨d0, d1, d2, d3, df⟩ := H1.out.1.cells
        clear hb1
        go_wp2_with (at_builtin; refine wpList_append_own _ rfl (.tmp 65) (.tmp 67) 33 rfl (cb + 1) 9 i0 (.string ⟨#[]⟩) 1 16 Try.underlying33 hi hz0 hz1 hz2 rfl (by decide) (.slice ao L.length cp) L.length (sl L) rfl (World.ownsRow.alloc H1.out.2.1 _) ⟨_, 0, none⟩ 1 1 [.string (bs r)] rfl rfl (one_new _ _ _) (str_one _) (by unfold maxLen; omega) (by omega) (by have := H1.out.1.lt; simp at this ⊢; omega) ?_; intro v' w3 hown' hgrow _; obtain ⟨ao2, cp2, rfl, h3c, h3t, h3b⟩ := grown_ct H1.out.1 H1.out.2.1 H1.out.2.2 hown' hgrow; have h4c := h3c.set1 (.slice ao2 (L.length + 1) cp2); have H3 : Hid _ := And.intro (h4c.set2 (.int .i64 (m : Int))) (And.intro ((h3t.box (Nat.lt_succ_self cb) 1 (.slice ao2 (L.length + 1) cp2)).box (Nat.lt_succ_self cb) 2 (.int .i64 (m : Int))) ((h3b.setCell (p := ⟨cb, 1, none⟩) (Nat.le_refl _) (.slice ao2 (L.length + 1) cp2)).setCell (p := ⟨cb, 2, none⟩) (Nat.le_refl _) (.int .i64 (m : Int)))); obtain ⟨f0, f1, f2, f3, ff⟩ := h3c.cells; obtain ⟨g0, g1, g2, g3, gf⟩ := h4c.cells; clear hown' hgrow h3c h3t h3b h4c)
        go_step3
        refine ⟨⟨⟨rfl, rfl, rfl, rfl⟩, _, L ++ [r], m, g, ⟨H3.out.1, H3.out.2.1, H3.out.2.2, by omega, by rw [List.length_append]; show L.length + 1 ≤ _; omega, .inr (.inr ⟨rfl, HR.out⟩)⟩⟩, ?_⟩
        rw [finAt_of H3.out.1, hfin]
        simp
        omega
      · have hk' : ((k.toNat : Int) == 82) = false := u8_ne (n := 82) hk
        have hr2 : lgOf s = some (g, L, t) := by rw [hr, hend hk]
        have HR : Hid _ := hr2
        clear hmore hend hpos hr hr2 hk hadd hfin
        go_wp2_with fail
        refine (HN.out (by trivial)).mono ?_
        rintro e w1 ⟨rfl, hb1⟩
        have h1c := H0.out.1.on hb1
        have h1t := H0.out.2.1.on hb1
        have h1b := H0.out.2.2.trans (hb1.mono (by omega))
        obtain ⟨d0, d1, d2, d3, df⟩ := h1c.cells
        have h2c := h1c.set3 (.int .i64 ((s.length - t : Nat) : Int))
        have h2t := h1t.box (Nat.lt_succ_self cb) 3 (.int .i64 ((s.length - t : Nat) : Int))
        have h2b := h1b.setCell (p := ⟨cb, 3, none⟩) (Nat.le_refl _) (.int .i64 ((s.length - t : Nat) : Int))
        obtain ⟨e0, e1, e2, e3, ef⟩ := h2c.cells
        have H3 : Hid _ := And.intro ((((h2c.set0 (.int .u64 g)).set1 (.slice ao L.length cp)).set2 (.int .i64 t)).set3 (.int .i64 ((s.length - t : Nat) : Int))) (And.intro ((((h2t.box (Nat.lt_succ_self cb) 0 (.int .u64 g)).box (Nat.lt_succ_self cb) 1 (.slice ao L.length cp)).box (Nat.lt_succ_self cb) 2 (.int .i64 t)).box (Nat.lt_succ_self cb) 3 (.int .i64 ((s.length - t : Nat) : Int))) ((((h2b.setCell (p := ⟨cb, 0, none⟩) (Nat.le_refl _) (.int .u64 g)).setCell (p := ⟨cb, 1, none⟩) (Nat.le_refl _) (.slice ao L.length cp)).setCell (p := ⟨cb, 2, none⟩) (Nat.le_refl _) (.int .i64 t)).setCell (p := ⟨cb, 3, none⟩) (Nat.le_refl _) (.int .i64 ((s.length - t : Nat) : Int))))
        clear hb1 h1c h1t h1b h2c h2t h2b
        go_wp2
        simp only [onJump]
        refine bodyPost_ret (results_ct H3.out.1 rfl) rfl ?_
        rw [scan_some HR.out]
        exact ⟨⟨_, rfl, H3.out.2.1⟩, H3.out.2.2⟩
  · intro hp
    have HP : Hid _ := hp
    clear hp
    obtain ⟨k, r, n, hnx⟩ : ∃ k r n, nx s = (k, r, n) := ⟨_, _, _, rfl⟩
    have HN : Hid (1 = 1 → Calls Try.prog 68 #[.string (bs s)] w0 fun e w' => e = .returned (.tuple #[.int .u8 k.toNat, .string (bs r), .int .i64 n]) ∧ Below w0.heap.size w0 w') := fun _ => by
      have := next68 s w0 (by omega)
      rw [hnx] at this
      exact this
    have hnl : n ≤ s.length := by have := nx_le s; rw [hnx] at this; exact this
    have hrl : r.length < 16384 := by have := nx_rest s; rw [hnx] at this; exact this
    have H0 : Hid (CtIn cb (.int .u64 0) (.slice none 0 0) (.int .i64 0) (.int .i64 0) w0 ∧ Below cb w w0 ∧ cb < w0.heap.size) := ⟨hct0, hb0, hct0.lt⟩
    clear hct0 hb0
    by_cases hk : k = 71
    · have hk' : ((k.toNat : Int) != 71) = false := by have := u8_yes (n := 71) (by decide) hk; simpa using this
      have HM : Hid (∀ w, 1 = 1 → Calls Try.prog 69 #[.string (bs r)] w fun e w' => e = .returned (.tuple #[.int .u64 (rdNum 18446744073709551615 ⟨r, 0⟩).1, .bool (numB r)]) ∧ Below w.heap.size w w') := fun w _ => number69 r w (by omega)
      have hyes : numB r = true → lgOf s = (match cop s [] n with | none => none | some x => some ((rdNum 18446744073709551615 ⟨r, 0⟩).1, app s x.1 x.2)) := fun h => by
        have := lg_num (s := s) (by rw [hnx]; exact hk) (by rw [hnx]; exact h)
        rw [hnx] at this
        exact this
      have hno : numB r = false → lgOf s = none := fun h => lg_nonum (by rw [hnx]; exact h)
      generalize (rdNum 18446744073709551615 ⟨r, 0⟩).1 = g at *
      cases hb : numB r with
      | true =>
        rw [hb] at HM
        have HL : Hid _ := hyes hb
        clear hyes hno hb hnx hk
        go_wp2_with (go_at_call 68; refine (HN.out (by trivial)).mono ?_; rintro e w1 ⟨rfl, hb1⟩)
        go_wp2_with fail
        refine (HM.out _ (by trivial)).mono ?_
        rintro e w2 ⟨rfl, hb2⟩
        have hB2 : Below cb w w2 := (H0.out.2.1.trans (hb1.mono (Nat.le_of_lt H0.out.2.2))).trans (hb2.mono (by have := hb1.size; have := H0.out.2.2; omega))
        have hC2 := (H0.out.1.on hb1).on hb2
        obtain ⟨c0, c1, c2, c3, cf⟩ := hC2.cells
        have hC3 := hC2.set0 (.int .u64 g)
        obtain ⟨d0, d1, d2, d3, df⟩ := hC3.cells
        have hC4 := hC3.set2 (.int .i64 n)
        have HC : Hid (CtIn cb (.int .u64 g) (.slice none 0 0) (.int .i64 n) (.int .i64 0) ((w2.setCell ⟨cb, 0, none⟩ (.int .u64 g)).setCell ⟨cb, 2, none⟩ (.int .i64 n)) ∧ Below cb w ((w2.setCell ⟨cb, 0, none⟩ (.int .u64 g)).setCell ⟨cb, 2, none⟩ (.int .i64 n))) := ⟨hC4, (hB2.setCell (p := ⟨cb, 0, none⟩) (Nat.le_refl _) _).setCell (p := ⟨cb, 2, none⟩) (Nat.le_refl _) _⟩
        clear hC2 hC3 hC4 hb1 hb2 hB2
        go_wp2_with fail
        go_step3
        rename_i K hK
        refine hK _ _ ?_
        exact HP.out 1 _ _ _ rfl ⟨⟨rfl, rfl, rfl, rfl⟩, _, [], n, g, ⟨HC.out.1, tx_nil _ _, HC.out.2, hnl, Nat.zero_le _, .inr (.inl ⟨rfl, HL.out⟩)⟩⟩
      | false =>
        rw [hb] at HM
        have HL : Hid (lgOf s = none) := hno hb
        clear hyes hno hb hnx hk
        go_wp2_with (go_at_call 68; refine (HN.out (by trivial)).mono ?_; rintro e w1 ⟨rfl, hb1⟩)
        go_wp2_with fail
        refine (HM.out _ (by trivial)).mono ?_
        rintro e w2 ⟨rfl, hb2⟩
        have hB2 : Below cb w w2 := (H0.out.2.1.trans (hb1.mono (Nat.le_of_lt H0.out.2.2))).trans (hb2.mono (by have := hb1.size; have := H0.out.2.2; omega))
        have hC2 := (H0.out.1.on hb1).on hb2
        obtain ⟨c0, c1, c2, c3, cf⟩ := hC2.cells
        have HC : Hid (CtIn cb (.int .u64 g) (.slice none 0 0) (.int .i64 0) (.int .i64 0) (w2.setCell ⟨cb, 0, none⟩ (.int .u64 g)) ∧ Below cb w (w2.setCell ⟨cb, 0, none⟩ (.int .u64 g))) := ⟨hC2.set0 _, hB2.setCell (p := ⟨cb, 0, none⟩) (Nat.le_refl _) _⟩
        clear hC2 hb1 hb2 hB2
        go_wp2_with fail
        go_step3
        exact ⟨⟨rfl, rfl, rfl, rfl⟩, _, [], 0, g, ⟨HC.out.1, tx_nil _ _, HC.out.2, Nat.zero_le _, Nat.zero_le _, .inl ⟨rfl, HL.out⟩⟩⟩
    · have hk' : ((k.toNat : Int) != 71) = true := by have := u8_ne (n := 71) hk; simpa using this
      have hlg : lgOf s = none := lg_not (by rw [hnx]; exact hk)
      have HL : Hid (lgOf s = none) := hlg
      clear hlg hnx
      go_wp2_with (go_at_call 68; refine (HN.out (by trivial)).mono ?_; rintro e w1 ⟨rfl, hb1⟩)
      go_step3
      refine ⟨⟨rfl, rfl, rfl, rfl⟩, .slice none 0 0, [], 0, 0, ⟨H0.out.1.on hb1, tx_nil _ _, H0.out.2.1.trans (hb1.mono (Nat.le_of_lt H0.out.2.2)), Nat.zero_le _, Nat.zero_le _, .inl ⟨rfl, HL.out⟩⟩⟩

end Go.Proofs.Ytjjdmeemhgopbaa
