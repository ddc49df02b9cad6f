/-
  Contract of awake: it answers true, and turns no memory that was there.
-/
import Derived.Test.YtgkbefeiknfjcaaMethods
namespace Go.Proofs.Ytgkbefeiknfjcaa
open Go.RowKit

theorem ownsRow_of_blocks {w w' : World} {base : Nat} {v : Value} {n : Nat} {xs : List Value} (h : w.ownsRow base 5 1 v n xs) (hb : ∀ (g : Nat) (cs : Array Value), w.heap[g]? = some (Obj.cells cs 5 (0, 0)) → w'.heap[g]? = some (Obj.cells cs 5 (0, 0))) : w'.ownsRow base 5 1 v n xs := by
  refine ⟨h.1, ?_⟩
  rcases h.2 with h2 | ⟨g, cap, cur, hv, hg, hh, r⟩
  · exact .inl h2
  · exact .inr ⟨g, cap, cur, hv, hg, hb g cur hh, r⟩

theorem WrAt.sole {pb rb : Nat} {l : List UInt8} {st : St} {w w' : World} (h : WrAt pb l w) (hr : RdAt 66 rb st w) (hs : Sole rb w w') : WrAt pb l w' := by
  obtain ⟨v, hv, hown⟩ := h
  refine ⟨v, ?_, ownsRow_of_blocks hown ?_⟩
  · rw [hs.block pb (lt_of_block hv) (by rintro rfl; unfold RdAt at hr; rw [hv] at hr; simp at hr), hv]
  · intro g cs hg
    rw [hs.block g (lt_of_block hg) (by rintro rfl; unfold RdAt at hr; rw [hg] at hr; simp at hr), hg]

theorem WrAt.on {pb : Nat} {l : List UInt8} {w w' : World} (h : WrAt pb l w) (hb : Below w.heap.size w w') : WrAt pb l w' := by
  obtain ⟨v, hv, hown⟩ := h
  refine ⟨v, ?_, ownsRow_of_blocks hown ?_⟩
  · rw [hb.block pb (lt_of_block hv), hv]
  · intro g cs hg
    rw [hb.block g (lt_of_block hg), hg]

theorem RdAt.lt {T rb : Nat} {st : St} {w : World} (h : RdAt T rb st w) : rb < w.heap.size := lt_of_block h
theorem RdAt.on {T rb : Nat} {st : St} {w w' : World} (h : RdAt T rb st w) (hb : Below w.heap.size w w') : RdAt T rb st w' := by
  unfold RdAt
  rw [hb.block rb h.lt]
  exact h

/-- A new Writer. -/
theorem wr_new (w : World) : WrAt w.heap.size [] (w.alloc (.cells #[.slice none 0 0] 27)) := ⟨_, heap_alloc_new w _, World.ownsRow_nil _ _ _ _⟩

theorem form256 : numForm 256 = [249, 1, 0] := by
  simp [numForm, nb_pos, nb_zero, dg_pos, dg_zero]
theorem form2 : numForm 2 = [2] := by simp [numForm]

theorem awake_num : rdNum 300 ⟨[249, 1, 0, 2, 97, 98], 0⟩ = (256, ⟨[2, 97, 98], 0⟩) := by
  simp [rdNum, rdFirst, vl, sz, nb_pos, nb_zero]
theorem awake_text : rdText 1 5 ⟨[2, 97, 98], 0⟩ = ([97, 98], ⟨[], 0⟩) := by
  simp [rdText, rdNum, rdFirst]

set_option maxHeartbeats 1600000 in
theorem awake9 (w : World) : Calls Try.prog 9 #[] w fun e w' => e = .returned (.bool true) ∧ Below w.heap.size w w' := by
  go_enter Try.func9, Try.ntmps9
  go_wp2_with fail
  refine (num10 w.heap.size [] 256 _ (by omega) (wr_new w) (by simp)).mono ?_
  rintro e w1 ⟨rfl, h1, k1⟩
  rw [form256] at h1
  have H1 : Hid (WrAt w.heap.size [249, 1, 0] w1 ∧ Below w.heap.size w w1) := ⟨h1, ((Below.refl _ _).alloc (Nat.le_refl _) _).trans k1.below⟩
  clear h1 k1
  go_wp2_with fail
  refine (text12 w.heap.size [249, 1, 0] ⟨#[97, 98]⟩ _ H1.out.1 (by decide)).mono ?_
  rintro e w2 ⟨rfl, h1, k1⟩
  have e2 : [249, 1, 0] ++ (numForm (ByteArray.size ⟨#[97, 98]⟩) ++ (⟨#[97, 98]⟩ : ByteArray).data.toList) = [249, 1, 0, 2, 97, 98] := by
    rw [show ByteArray.size ⟨#[97, 98]⟩ = 2 from rfl, form2]; rfl
  rw [e2] at h1
  have H2 : Hid (WrAt w.heap.size [249, 1, 0, 2, 97, 98] w2 ∧ Below w.heap.size w w2) := ⟨h1, H1.out.2.trans k1.below⟩
  clear h1 k1 H1 e2
  go_wp2_with (go_at_call 18; refine (bytes18 w.heap.size _ _ H2.out.1).mono ?_; rintro e w1 ⟨rfl, rfl⟩)
  refine (new19 _ _).mono ?_
  rintro e w3 ⟨rfl, h1, k1⟩
  obtain ⟨rb, hrb⟩ : ∃ rb, rb = w2.heap.size := ⟨_, rfl⟩
  rw [← hrb] at h1 k1 ⊢
  have hlt : w.heap.size < rb := by rw [hrb]; exact H2.out.1.lt
  have H3 : Hid (WrAt w.heap.size [249, 1, 0, 2, 97, 98] w3 ∧ RdAt 66 rb ⟨[249, 1, 0, 2, 97, 98], 0⟩ w3 ∧ Below w.heap.size w w3) :=
    ⟨H2.out.1.on (hrb ▸ k1), h1, H2.out.2.trans (k1.mono (by omega))⟩
  clear h1 k1 H2 hrb
  go_wp2_with fail
  refine (num20 rb _ 300 _ H3.out.2.1 (by decide)).mono ?_
  rintro e w4 ⟨rfl, h1, k1⟩
  rw [awake_num] at h1
  rw [awake_num]
  have H4 : Hid (WrAt w.heap.size [249, 1, 0, 2, 97, 98] w4 ∧ RdAt 66 rb ⟨[2, 97, 98], 0⟩ w4 ∧ Below w.heap.size w w4) :=
    ⟨H3.out.1.sole H3.out.2.1 k1, h1, H3.out.2.2.trans (k1.below (by omega) H3.out.2.2.size)⟩
  clear h1 k1 H3
  go_wp2_with fail
  refine (text21 rb _ 1 5 _ H4.out.2.1 (by decide) (by decide) (by decide) (by decide) (by decide)).mono ?_
  rintro e w5 ⟨rfl, h1, k1⟩
  rw [awake_text] at h1
  rw [awake_text]
  have H5 : Hid (WrAt w.heap.size [249, 1, 0, 2, 97, 98] w5 ∧ RdAt 66 rb ⟨[], 0⟩ w5 ∧ Below w.heap.size w w5) :=
    ⟨H4.out.1.sole H4.out.2.1 k1, h1, H4.out.2.2.trans (k1.below (by omega) H4.out.2.2.size)⟩
  clear h1 k1 H4
  have t1 : ((bs [249, 1, 0, 2, 97, 98]).toList == [249, 1, 0, 2, 97, 98]) = true := by rw [toList_list, bs_data]; decide
  have t2 : ((bs [97, 98]).toList == [97, 98]) = true := by rw [toList_list, bs_data]; decide
  go_wp2_with (first
    | (go_at_call 18; refine (bytes18 w.heap.size _ _ H5.out.1).mono ?_; rintro e w1 ⟨rfl, rfl⟩)
    | (go_at_call 25; refine (end25 rb _ _ H5.out.2.1).mono ?_; rintro e w1 ⟨rfl, rfl⟩))
  go_ret
  exact ⟨rfl, H5.out.2.2⟩

end Go.Proofs.Ytgkbefeiknfjcaa
