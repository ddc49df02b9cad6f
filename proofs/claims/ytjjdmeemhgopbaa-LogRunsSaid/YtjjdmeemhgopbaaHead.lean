/-
  Contracts of the log's head and lay: the frames that a log begins with, written into a new area.
-/
import Derived.Test.YtjjdmeemhgopbaaLeaf
import Derived.Test.YtjjdmeemhgopbaaPuts
import Derived.Test.YtjjdmeemhgopbaaLists
import Derived.Test.YtjjdmeemhgopbaaShelf2
namespace Go.Proofs.Ytjjdmeemhgopbaa
open Go.RowKit Go.Sort
open Drm (Dr Pt DrumAt DrumIn)

/-- A list of texts that is read alone, and stays where the drum in block pb is turned. -/
def StrsAt (pb : Nat) (v : Value) (R : List (List UInt8)) (w : World) : Prop :=
  ∃ ao cap, v = .slice ao R.length cap ∧ (0 < R.length → ∃ b o, ao = some ⟨b, o, none⟩ ∧ b ≠ pb ∧ (∀ i, i < R.length → w.cell? ⟨b, o + i, none⟩ = some (.string (bs (R.getD i [])))) ∧ (b < pb ∨ ∃ cs fz, w.heap[b]? = some (.cells cs 9 fz)))

theorem Drm.Kept.of_below {pb : Nat} {w w' : World} (hp : pb < w.heap.size) (h : Below w.heap.size w w') : Drm.Kept pb w w' :=
  ⟨h.mono (Nat.le_of_lt hp), fun k o hk _ _ => by rw [h.block k (lt_of_block hk)]; exact hk⟩
theorem StrsAt.nil (pb : Nat) (w : World) : StrsAt pb (.slice none 0 0) [] w := ⟨none, 0, rfl, fun h => absurd h (by simp)⟩
theorem StrsAt.on {pb : Nat} {v : Value} {R : List (List UInt8)} {w w' : World} (h : StrsAt pb v R w) (hb : Below w.heap.size w w') : StrsAt pb v R w' := by
  obtain ⟨ao, cap, rfl, h⟩ := h
  refine ⟨ao, cap, rfl, fun h0 => ?_⟩
  obtain ⟨b, o, rfl, hne, hc, hor⟩ := h h0
  have hlt : b < w.heap.size := World.block_lt_of_cell? _ _ (hc 0 h0)
  refine ⟨b, o, rfl, hne, fun i hi => ?_, ?_⟩
  · have := hc i hi
    unfold World.cell? at this ⊢
    dsimp only at this ⊢
    rw [hb.block b hlt]
    exact this
  · rcases hor with h1 | ⟨cs, fz, h1⟩
    · exact .inl h1
    · exact .inr ⟨cs, fz, by rw [hb.block b hlt]; exact h1⟩
theorem StrsAt.kept {pb : Nat} {v : Value} {R : List (List UInt8)} {w w' : World} (h : StrsAt pb v R w) (hk : Drm.Kept pb w w') : StrsAt pb v R w' := by
  obtain ⟨ao, cap, rfl, h⟩ := h
  refine ⟨ao, cap, rfl, fun h0 => ?_⟩
  obtain ⟨b, o, rfl, hne, hc, hor⟩ := h h0
  have hblk : w'.heap[b]? = w.heap[b]? := by
    rcases hor with h1 | ⟨cs, fz, h1⟩
    · exact hk.below.block b h1
    · rw [h1]
      exact hk.other b _ h1 hne (by intro cs' fz' e; injection e with _ e _; exact absurd e (by decide))
  refine ⟨b, o, rfl, hne, fun i hi => ?_, ?_⟩
  · have := hc i hi
    unfold World.cell? at this ⊢
    dsimp only at this ⊢
    rw [hblk]
    exact this
  · rcases hor with h1 | ⟨cs, fz, h1⟩
    · exact .inl h1
    · exact .inr ⟨cs, fz, by rw [hblk]; exact h1⟩
theorem TxAt.strs {B pb : Nat} {v : Value} {R : List (List UInt8)} {w : World} (h : TxAt B v R w) (hp : pb < B) : StrsAt pb v R w := by
  have hh := h
  rcases h.2 with ⟨rfl, h0⟩ | ⟨g, cap, cur, rfl, hB, hg, _⟩
  · exact ⟨none, 0, by rw [h0], fun h => by omega⟩
  · refine ⟨_, _, rfl, fun h0 => ⟨g, 0, rfl, by omega, fun i hi => ?_, .inr ⟨_, _, hg⟩⟩⟩
    have := World.ownsRow.cells hh (g := g) rfl i (.string (bs (R.getD i []))) (by simp [sl, hi])
    simpa [Addr.add_lit] using this

theorem copies_take (R : List (List UInt8)) (k : Nat) (h : k < R.length) : copies (R.take (k + 1)) = copies (R.take k) ++ frameOf (67 :: R.getD k []) := by
  have e : R.take (k + 1) = R.take k ++ [R.getD k []] := by
    rw [List.take_add_one]
    simp [List.getElem?_eq_getElem h, List.getD]
  rw [e, copies_snoc]
theorem copies_len (R : List (List UInt8)) (k : Nat) (h : Fit R) (hk : k ≤ R.length) : (copies (R.take k)).length ≤ 16020 * k := by
  induction k with
  | zero => simp [copies]
  | succ k ih =>
    rw [copies_take R k (by omega), List.length_append, frameOf_len, List.length_cons]
    have h1 := ih (by omega)
    have h2 := h (R.getD k []) (by simp [List.getD, List.getElem?_eq_getElem (by omega : k < R.length)])
    have h3 := sz_small (n := (R.getD k []).length + 1) (by omega)
    omega

theorem byteCells_cl (l : List UInt8) : Lib.byteCells l = cl l := rfl

/-- A builder of the call's own, in block bb, that holds these bytes. -/
def BdAt (bb : Nat) (l : List UInt8) (w : World) : Prop := Lib.IsBuilder 123 5 bb bb (cl l) w
theorem bd_on {bb : Nat} {p : Value} {l : List Value} {w w' : World} (h : Lib.BuilderAt 123 5 bb bb p l w) (hb : Below w.heap.size w w') : Lib.BuilderAt 123 5 bb bb p l w' := by
  have hlt := h.lt
  obtain ⟨h1, v, h2, h3, h4⟩ := h
  exact ⟨h1, v, by rw [hb.block bb hlt, h2], h3.kept (row := none) ⟨hb.os, hb.tape, hb.output, hb.size, fun k hk _ => hb.block k hk⟩ (by cases v.ownBlock <;> simp), h4⟩
theorem BdAt.on {bb : Nat} {l : List UInt8} {w w' : World} (h : BdAt bb l w) (hb : Below w.heap.size w w') : BdAt bb l w' := by
  rcases h with h | h
  · exact .inl (bd_on h hb)
  · exact .inr (bd_on h hb)
theorem BdAt.lt {bb : Nat} {l : List UInt8} {w : World} (h : BdAt bb l w) : bb < w.heap.size := by
  rcases h with h | h
  · exact h.lt
  · exact h.lt
theorem bd_new (w : World) : BdAt w.heap.size [] (w.alloc (.cells #[.pointer none, .slice none 0 0] 123)) :=
  .inl ⟨Nat.le_refl _, _, heap_alloc_new w _, World.ownsRow_nil _ _ _ _, by simp [Value.ownBlock]⟩
theorem bdWrite (bb : Nat) (l s : List UInt8) (w : World) (h : BdAt bb l w) (hl : l.length + s.length ≤ 140737488355328) :
    Calls Try.prog 73 #[.pointer (some ⟨bb, 0, none⟩), .string (bs s)] w fun e w' => e = .returned (.tuple #[.int .i64 s.length, .nilIface]) ∧ BdAt bb (l ++ s) w' ∧ Below bb w w' := by
  have := write73 bb bb (cl l) (bs s) w h (by rw [cl_length, bs_size]; exact hl) (Nat.le_of_lt h.lt)
  refine this.mono ?_
  rintro e w' ⟨rfl, h1, h2⟩
  refine ⟨by rw [bs_size], .inr ?_, h2⟩
  rw [cl_append]
  rw [strCells_bs, bs_data] at h1
  exact h1

theorem wrap40i (K : Int) (k : Nat) (c : UInt8) (r : List UInt8) (w : World) (hK : (k : Int) = K) (hc : UInt8.ofNat k = c) (hk : k < 256) (hr : r.length < 16384) :
    Calls Try.prog 40 #[.int .u8 K, .string (bs r)] w fun e w' => e = .returned (.string (bs (frameOf (c :: r)))) ∧ Below w.heap.size w w' := by
  subst hK hc
  exact wrap40 k r w hk hr

set_option maxHeartbeats 1600000 in
theorem head48 (pb g : Nat) (R : List (List UInt8)) (v : Value) (w : World) (hg : g < 18446744073709551616) (hR : Fit R) (hn : R.length ≤ 1000) (hv : StrsAt pb v R w) :
    Calls Try.prog 48 #[.int .u64 g, v] w fun e w' => e = .returned (.string (bs (headOf g R))) ∧ Below w.heap.size w w' := by
  obtain ⟨ao, cap, rfl, hvx⟩ := hv
  have hnf : (numForm g).length ≤ 9 := by rw [numForm_length]; exact sz_le hg
  have hfg : (frameOf (71 :: numForm g)).length ≤ 20 := by
    rw [frameOf_len, List.length_cons]
    have := sz_small (n := (numForm g).length + 1) (by omega)
    omega
  go_enter Try.func48, Try.ntmps48
  go_wp2_with fail
  obtain ⟨nb, hnb⟩ : ∃ nb, nb = w.heap.size := ⟨_, rfl⟩
  have h72 := num10 nb [] g (w.alloc (.cells #[.slice none 0 0] 119)) hg (by rw [hnb]; exact wr_new w) (by simp)
  rw [← hnb]
  refine h72.mono ?_
  clear h72
  rintro e w1 ⟨rfl, h1, k1⟩
  rw [List.nil_append] at h1
  have H1 : Hid (WrAt nb (numForm g) w1 ∧ Below nb w w1 ∧ nb = w.heap.size) := ⟨h1, by rw [hnb]; exact ((Below.refl _ _).alloc (Nat.le_refl _) _).trans (k1.below.mono (by omega)), hnb⟩
  clear h1 k1 hnb
  have hnf2 := hnf
  generalize hNF : numForm g = nf at *
  go_wp2_with fail
  obtain ⟨bb, hbb⟩ : ∃ bb, bb = w1.heap.size := ⟨_, rfl⟩
  have hw2 : BdAt bb [] (w1.alloc (.cells #[.pointer none, .slice none 0 0] 123)) := by rw [hbb]; exact bd_new w1
  have hb2 : Below nb w (w1.alloc (.cells #[.pointer none, .slice none 0 0] 123)) := H1.out.2.1.alloc (by rw [H1.out.2.2]; exact H1.out.2.1.size) _
  have hwr2 : WrAt nb nf (w1.alloc (.cells #[.pointer none, .slice none 0 0] 123)) := H1.out.1.alloc _
  have hnb2 : nb ≤ bb := by rw [hbb, H1.out.2.2]; exact H1.out.2.1.size
  rw [← hbb]
  generalize w1.alloc (.cells #[.pointer none, .slice none 0 0] 123) = w2 at *
  refine (bytes18 nb nf w2 hwr2).mono ?_
  rintro e w2' ⟨rfl, rfl⟩
  have H2 : Hid (BdAt bb [] w2 ∧ Below nb w w2 ∧ nb = w.heap.size) := ⟨hw2, hb2, H1.out.2.2⟩
  clear hw2 hb2 hwr2 hbb H1
  go_wp2_with fail
  obtain ⟨FG, hFG⟩ : ∃ FG, FG = frameOf (71 :: nf) := ⟨_, rfl⟩
  have hWG := wrap40i 71 71 71 nf w2 rfl rfl (by decide) (by omega)
  rw [← hFG] at hfg hWG
  have HFG : Hid (FG = frameOf (71 :: nf) ∧ numForm g = nf) := ⟨hFG, hNF⟩
  refine hWG.mono ?_
  clear hWG hFG hNF
  rintro e w3 ⟨rfl, hb3⟩
  have H3 : Hid (BdAt bb [] w3 ∧ Below nb w w3 ∧ nb = w.heap.size) := ⟨H2.out.1.on hb3, H2.out.2.1.trans (hb3.mono (by have := H2.out.1.lt; omega)), H2.out.2.2⟩
  clear H2 hb3
  go_wp2_with fail
  refine (bdWrite bb [] FG w3 H3.out.1 (by simp; omega)).mono ?_
  rintro e w4 ⟨rfl, h4, hb4⟩
  rw [List.nil_append] at h4
  have H4 : Hid (BdAt bb FG w4 ∧ Below nb w w4 ∧ nb = w.heap.size ∧ FG = frameOf (71 :: nf) ∧ numForm g = nf) := ⟨h4, H3.out.2.1.trans (hb4.mono hnb2), H3.out.2.2, HFG.out⟩
  clear H3 hb4 h4
  go_wp2_with fail
  go_loopw [16] (fun i wr => ∃ k : Nat, k ≤ R.length ∧ i = .int .i64 k ∧ BdAt bb (FG ++ copies (R.take k)) wr ∧ Below nb w wr) (fun i _ => R.length - (intOf i).toNat)
  case atStart => exact ⟨0, by omega, rfl, by rw [List.take_zero, show copies [] = [] from rfl, List.append_nil]; exact H4.out.1, H4.out.2.1⟩
  case round =>
    obtain ⟨k, hk, rfl, hwr, hbel⟩ := hrel
    have HR : Hid (BdAt bb (FG ++ copies (R.take k)) wr ∧ Below nb w wr ∧ bb < wr.heap.size) := ⟨hwr, hbel, hwr.lt⟩
    have hcl := copies_len R k hR hk
    clear hwr hbel
    by_cases hlt : k < R.length
    · obtain ⟨b, o, rfl, hne, hc, hor⟩ := hvx (by omega)
      have hck : wr.cell? ⟨b, o + k, none⟩ = some (.string (bs (R.getD k []))) := by
        have h1 := hc k hlt
        have h2 : b < w.heap.size := World.block_lt_of_cell? _ _ h1
        unfold World.cell? at h1 ⊢
        dsimp only at h1 ⊢
        rw [HR.out.2.1.block b (by rw [H4.out.2.2.1]; exact h2)]
        exact h1
      have hrk : (R.getD k []).length ≤ 16000 := hR _ (by simp [List.getD, List.getElem?_eq_getElem hlt])
      have HT : Hid (copies (R.take (k + 1)) = copies (R.take k) ++ frameOf (67 :: R.getD k [])) := copies_take R k hlt
      have hfl : (frameOf (67 :: R.getD k [])).length ≤ 16020 := by
        rw [frameOf_len, List.length_cons]
        have := sz_small (n := (R.getD k []).length + 1) (by omega)
        omega
      clear hc hor hvx
      generalize copies (R.take k) = CP at *
      generalize R.getD k [] = rk at *
      have HW : Hid (∀ w, 1 = 1 → Calls Try.prog 40 #[.int .u8 67, .string (bs rk)] w fun e w' => e = .returned (.string (bs (frameOf (67 :: rk)))) ∧ Below w.heap.size w w') := fun w _ => wrap40i 67 67 67 rk w rfl rfl (by decide) (by omega)
      generalize frameOf (67 :: rk) = FK at *
      go_wp2_with fail
      refine (HW.out _ (by trivial)).mono ?_
      rintro e w5 ⟨rfl, hb5⟩
      have H5 : Hid (BdAt bb (FG ++ CP) w5 ∧ Below nb w w5) := ⟨HR.out.1.on hb5, HR.out.2.1.trans (hb5.mono (by have := HR.out.2.2; omega))⟩
      clear hb5
      go_wp2_with fail
      refine (bdWrite bb (FG ++ CP) FK w5 H5.out.1 (by rw [List.length_append]; omega)).mono ?_
      rintro e w6 ⟨rfl, h6, hb6⟩
      have H6 : Hid (BdAt bb (FG ++ copies (R.take (k + 1))) w6 ∧ Below nb w w6) := ⟨by rw [HT.out, ← List.append_assoc]; exact h6, H5.out.2.trans (hb6.mono hnb2)⟩
      clear h6 hb6
      go_wp2_with fail
      go_roundw
      case rel => exact ⟨k + 1, by omega, by go_num, H6.out.1, H6.out.2⟩
      case measure => simp [intOf]; omega
    · have hkR : R.take k = R := List.take_of_length_le (by omega)
      rw [hkR] at HR hcl
      have HW : Hid (∀ w, 1 = 1 → Calls Try.prog 40 #[.int .u8 69, .string ⟨#[]⟩] w fun e w' => e = .returned (.string (bs (frameOf [69]))) ∧ Below w.heap.size w w') := fun w _ => wrap40i 69 69 69 [] w rfl rfl (by decide) (by decide)
      have hE : (frameOf [69]).length = 7 := by rw [frameOf_len]; rfl
      have HH : Hid (headOf g R = FG ++ (copies R ++ frameOf [69])) := by
        show _ = _
        unfold headOf
        rw [H4.out.2.2.2.1, ← H4.out.2.2.2.2]
      clear hkR hvx
      generalize copies R = CP at *
      generalize frameOf [69] = FE at *
      go_wp2_with fail
      refine (HW.out _ (by trivial)).mono ?_
      rintro e w5 ⟨rfl, hb5⟩
      have H5 : Hid (BdAt bb (FG ++ CP) w5 ∧ Below nb w w5) := ⟨HR.out.1.on hb5, HR.out.2.1.trans (hb5.mono (by have := HR.out.2.2; omega))⟩
      clear hb5
      go_wp2_with fail
      refine (bdWrite bb (FG ++ CP) FE w5 H5.out.1 (by rw [List.length_append]; omega)).mono ?_
      rintro e w6 ⟨rfl, h6, hb6⟩
      have H6 : Hid (BdAt bb (FG ++ CP ++ FE) w6 ∧ Below nb w w6) := ⟨h6, H5.out.2.trans (hb6.mono hnb2)⟩
      clear h6 hb6
      go_wp2_with fail
      refine (Try.Builder_String_any bb bb (FG ++ CP ++ FE) w6 H6.out.1 (Nat.le_of_lt H6.out.1.lt)).mono ?_
      rintro e w7 ⟨rfl, hb7⟩
      have H7 : Hid (Below nb w w7) := H6.out.2.trans (hb7.mono hnb2)
      clear hb7
      go_wp2_with fail
      go_ret
      rw [HH.out, ← H4.out.2.2.1]
      exact ⟨rfl, H7.out⟩

theorem layF_ok {D : Dr} (h : D.Ok) (a : Int) (g : Nat) (R : List (List UInt8)) : (layF D a g R).2.Ok := by
  unfold layF
  split
  · exact h.lay a
  · exact putF_ok (h.lay a) _ _

set_option maxHeartbeats 800000 in
theorem lay28 (pb : Nat) (D : Dr) (a : Int) (g : Nat) (R : List (List UInt8)) (v : Value) (w : World) (hD : DrumAt pb D w) (hOk : D.Ok) (hg : g < 18446744073709551616) (hR : Fit R) (hn : R.length ≤ 1000) (hv : StrsAt pb v R w) :
    Calls Try.prog 28 #[.pointer (some ⟨pb, 0, none⟩), .int .i64 a, .int .u64 g, v] w fun e w' => e = .returned (.int .i64 (layF D a g R).1) ∧ DrumAt pb (layF D a g R).2 w' ∧ Drm.Kept pb w w' := by
  obtain ⟨x, D1, hx⟩ : ∃ x D1, D.lay a = (x, D1) := ⟨_, _, rfl⟩
  have hok1 : D1.Ok := by have := hOk.lay a; rw [hx] at this; exact this
  have HL : Hid (1 = 1 → Calls Try.prog 47 #[.pointer (some ⟨pb, 0, none⟩), .int .i64 a] w fun e w' => e = .returned (.int .i64 x) ∧ DrumAt pb D1 w' ∧ Drm.Kept pb w w') := fun _ => by
    have := Drm.lay11 pb D a w hD hOk
    rw [hx] at this
    exact this
  by_cases h0 : x = 0
  · subst h0
    have hp : layF D a g R = putF D1 a (headOf g R) := by unfold layF; rw [hx]; simp
    rw [hp]
    have HH : Hid (∀ w1, StrsAt pb v R w1 → Calls Try.prog 48 #[.int .u64 g, v] w1 fun e w' => e = .returned (.string (bs (headOf g R))) ∧ Below w1.heap.size w1 w') := fun w1 h1 => head48 pb g R v w1 hg hR hn h1
    have HP : Hid (∀ w1, DrumAt pb D1 w1 → Calls Try.prog 39 #[.pointer (some ⟨pb, 0, none⟩), .int .i64 a, .string (bs (headOf g R))] w1 fun e w' => e = .returned (.int .i64 (putF D1 a (headOf g R)).1) ∧ DrumAt pb (putF D1 a (headOf g R)).2 w' ∧ Drm.Kept pb w1 w') := fun w1 h1 => put39 pb D1 a _ w1 h1 hok1
    have HV : Hid (StrsAt pb v R w) := hv
    clear hp hx hok1 hD hOk hv hR
    generalize (putF D1 a (headOf g R)).1 = y at *
    generalize (putF D1 a (headOf g R)).2 = D2 at *
    generalize bs (headOf g R) = HB at *
    go_enter Try.func28, Try.ntmps28
    go_wp2_with fail
    refine (HL.out (by trivial)).mono ?_
    rintro e w1 ⟨rfl, h1, k1⟩
    have H1 : Hid (DrumAt pb D1 w1 ∧ Drm.Kept pb w w1 ∧ StrsAt pb v R w1) := ⟨h1, k1, HV.out.kept k1⟩
    clear h1 k1
    go_wp2_with fail
    refine (HH.out _ H1.out.2.2).mono ?_
    rintro e w2 ⟨rfl, hb2⟩
    have H2 : Hid (DrumAt pb D1 w2 ∧ Drm.Kept pb w w2) := ⟨H1.out.1.on hb2, H1.out.2.1.trans (Drm.Kept.of_below H1.out.1.lt hb2)⟩
    clear hb2
    go_wp2_with fail
    refine (HP.out _ H2.out.1).mono ?_
    rintro e w3 ⟨rfl, h3, k3⟩
    have H3 : Hid (DrumAt pb D2 w3 ∧ Drm.Kept pb w w3) := ⟨h3, H2.out.2.trans k3⟩
    clear h3 k3
    go_wp2_with fail
    go_ret
    exact ⟨rfl, H3.out⟩
  · have hp : layF D a g R = (x, D1) := by unfold layF; rw [hx]; simp [h0]
    rw [hp]
    dsimp only
    have hx' : (x != 0) = true := by simp [h0]
    clear hp hx hok1 hD hOk h0 hv hR
    go_enter Try.func28, Try.ntmps28
    go_wp2_with (go_at_call 47; refine (HL.out (by trivial)).mono ?_; rintro e w1 ⟨rfl, h1, k1⟩)
    go_ret
    exact ⟨rfl, h1, k1⟩

end Go.Proofs.Ytjjdmeemhgopbaa
