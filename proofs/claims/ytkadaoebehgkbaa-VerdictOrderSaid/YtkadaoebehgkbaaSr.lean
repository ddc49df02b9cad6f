/-
  slices.SortFunc of a row of verdicts.
-/
import Derived.Test.YtkadaoebehgkbaaCp
import Derived.Test.YtkadaoebehgkbaaShp
import Derived.Shelf.SlSortCmp.NoneTotal
namespace Go.Proofs.Ytkadaoebehgkbaa
open Go.RowKit Go.Sort Go.Shelf

theorem lt_cf (x y : Vd) : ltOf cfV x y = ltT x.c x.n y.c y.n := by
  rw [Bool.eq_iff_iff, ltT_iff]
  unfold ltOf cfV orI cpI
  rw [decide_eq_true_iff]
  by_cases h1 : x.c < y.c
  · rw [if_pos h1]; simp [h1]
  · rw [if_neg h1]
    by_cases h2 : y.c < x.c
    · rw [if_pos h2]
      constructor
      · intro h; simp at h
      · intro h; omega
    · rw [if_neg h2, if_pos rfl]
      by_cases h3 : x.n < y.n
      · rw [if_pos h3]
        constructor
        · intro _; omega
        · intro _; decide
      · rw [if_neg h3]
        constructor
        · intro h
          split at h <;> simp at h
        · intro h; omega
theorem swo_cf : SWO (ltOf cfV) := {
  irrefl := fun x => by rw [lt_cf]; exact ltT_irrefl _ _
  trans := fun x y z h1 h2 => by rw [lt_cf] at *; exact ltT_trans h1 h2
  ntrans := fun x y z h1 h2 => by
    rw [lt_cf, ← Bool.not_eq_true, ltT_iff] at *
    omega }
theorem cmpLays [Inhabited Vd] (blk off size : Nat) (w : World) : CmpLays Try.prog 33 #[] vdc 8 cfV blk off size w :=
  fun _ _ _ _ x y => cmp33 x y _
theorem flat_row [Inhabited Vd] (m : Bk) (j : Nat) (hj : j < m.length * 8) : (rowC vdc m)[j]? = some ((flatK vdc 8 m.toArray)[j]!) := by
  have h1 : j / 8 < m.length := by omega
  have h2 : j % 8 < 8 := Nat.mod_lt _ (by omega)
  rw [get_flatK vdc 8 m.toArray j (by simpa using hj)]
  have e := rowC_get vdc_len dv m (j / 8) (j % 8) h1 h2
  rw [show j / 8 * 8 + j % 8 = j from by omega] at e
  rw [e]
  have e2 : m.toArray[j / 8]! = m.getD (j / 8) dv := by simp [List.getD, h1]
  rw [e2]
  have h3 : j % 8 < (vdc (m.getD (j / 8) dv)).length := h2
  rw [List.getElem?_eq_getElem h3, getElem!_pos (vdc (m.getD (j / 8) dv)) (j % 8) h3]
theorem perm_of [Inhabited Vd] {d d' : Array Vd} (h : PermIn 0 d.size d d') : d'.toList.Perm d.toList := by
  obtain ⟨h1, _, h3⟩ := h
  rw [show d'.extract 0 d.size = d' from by rw [← h1]; simp, show d.extract 0 d.size = d from by simp] at h3
  exact h3
theorem sorted_of [Inhabited Vd] {d : Array Vd} (h : SortedIn (ltOf cfV) 0 d.size d) : d.toList.Pairwise fun x y => ltT y.c y.n x.c x.n = false := by
  refine List.pairwise_iff_getElem.2 (fun i j hi hj hij => ?_)
  have hi' : i < d.size := by simpa using hi
  have hj' : j < d.size := by simpa using hj
  have := h i j (Nat.zero_le _) hij hj'
  rw [lt_cf, getElem!_pos d j hj', getElem!_pos d i hi'] at this
  simpa using this

theorem sort38 (base g cap : Nat) (m : Bk) (w : World) (h : w.ownsRow base 37 8 (.slice (some ⟨g, 0, none⟩) m.length cap) m.length (rowC vdc m)) (hl : m.length < 100000) :
    Calls Try.prog 38 #[.slice (some ⟨g, 0, none⟩) m.length cap, .func (.func 33) #[] #[]] w fun e w' => e = .returned (.tuple #[]) ∧ ∃ L, L.Perm m ∧ (L.Pairwise fun x y => ltT y.c y.n x.c x.n = false) ∧ VsAt w'.heap.size (.slice (some ⟨g, 0, none⟩) m.length cap) L w' ∧ Kept (fun i => i = g) w w' := by
  haveI : Inhabited Vd := ⟨dv⟩
  rcases h.2 with ⟨e, _⟩ | ⟨g', cap', cur, e, hb, hg, hnc, hcm, hcs, ht⟩
  · simp at e
  simp only [Value.slice.injEq, Option.some.injEq, Addr.mk.injEq, true_and, and_true] at e
  obtain ⟨rfl, rfl⟩ := e
  have hlt : g < w.heap.size := (Array.getElem?_eq_some_iff.1 hg).1
  have hH : HoldsK vdc 8 w g 0 m.toArray := fun j hj => by
    have hj' : j < m.length * 8 := by simpa using hj
    refine ⟨?_, ?_⟩
    · have := World.ownsRow.cells h (g := g) rfl j _ (flat_row m j hj')
      rw [Addr.add_lit] at this
      exact this
    · unfold World.frozen?
      rw [hg]
      simp
  have eg : ∀ args w, (callFunc 33 args).run Try.prog w = .ok (.enter 33 args) w := enters_of Try.func33 (by kernel_rfl) rfl
  have hcon := AnyQ.slices_SortFunc Try.sortV 8 Try.isAgg37 Try.sizeOf37 vdc (fun _ => rfl) vdc_one cfV swo_cf 33 #[] g 0 cap m.toArray w eg (cmpLays g 0 m.toArray.size w) hH hlt (by simp; omega)
  rw [List.size_toArray] at hcon
  change Calls Try.prog 38 #[.slice (some ⟨g, 0, none⟩) m.length cap, .func (.func 33) #[] #[]] w _ at hcon
  refine hcon.mono ?_
  rintro e w' ⟨rfl, d', n, os, hp, hs, rfl⟩
  have hsz : d'.size = m.length := by have := hp.1; simpa using this
  have hp' : d'.toList.Perm m := by
    have := perm_of (d := m.toArray) (d' := d') (by rw [List.size_toArray]; exact hp)
    simpa using this
  have hH' := holdsK_sortWorldK vdc 8 w g 0 n m.toArray d' os hlt hH (by simp [hsz])
  have hz : w.heap.size ≤ (sortWorldK vdc 8 w g 0 n d' os).heap.size := size_sortWorldK_c vdc 8 w g 0 n d' os
  refine ⟨rfl, d'.toList, hp', sorted_of (by rw [hsz]; exact hs), ?_, ?_⟩
  · have hdl : d'.toList.length = m.length := by simpa using hsz
    unfold VsAt
    rw [hdl]
    refine ⟨_, cap, rfl, by rw [rowC_length vdc_len, hdl], hnc, by unfold maxLen at hcm; omega, fun _ => ⟨g, 0, rfl, fun _ => Nat.lt_of_lt_of_le hlt hz, fun j u hj => ?_⟩⟩
    have hj' : j < d'.toList.length * 8 := by
      have := (List.getElem?_eq_some_iff.1 hj).1
      rwa [rowC_length vdc_len] at this
    have f := flat_row d'.toList j hj'
    rw [hj] at f
    have c := (hH' j (by simpa [flatK] using hj')).1
    rw [c]
    simp only [Array.toArray_toList] at f
    exact f.symm
  · refine ⟨rfl, rfl, rfl, hz, fun k hk hn => ?_⟩
    unfold sortWorldK
    rw [heap_grow_old _ _ (by rw [size_putRowK]; exact hk)]
    unfold putRowK putRow mapBlock
    simp only [Sort.ahead]
    rw [Array.getElem?_modify, if_neg (Ne.symm hn)]
theorem sort38_nil (ao : Option Addr) (cap : Nat) (w : World) : Calls Try.prog 38 #[.slice ao 0 cap, .func (.func 33) #[] #[]] w fun e w' => e = .returned (.tuple #[]) ∧ w' = w :=
  AnyF.slices_SortFunc_none Try.sortV ao cap (.func (.func 33) #[] #[]) w
end Go.Proofs.Ytkadaoebehgkbaa
