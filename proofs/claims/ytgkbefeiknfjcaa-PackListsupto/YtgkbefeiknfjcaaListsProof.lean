/-
  The law PackLists holds where its list is of bulk at most 1048576: it returns true, and its argument reads as it read before.
-/
import Derived.Test.YtgkbefeiknfjcaaStructs
import Derived.Test.YtgkbefeiknfjcaaLists
import Derived.Deep.Strs
import Derived.JoinedCond
namespace Go.Proofs.Ytgkbefeiknfjcaa
open Go.ChangeShapes Go.WideShapes Go.ChangeAt Go.RowKit Go.Joins Go.Deep
open Go.ChangeMaps (open_string shut_string)
namespace PackListsRow
theorem own : ownKnob Try.prog.godebug = none := by kernel_rfl
theorem laidOut : laidOutB Try.prog = true := by kernel_rfl

theorem bulk_texts {H : Type} (ls : List (List UInt8)) : Rows.uptoBulkAll (ls.map fun l => (DataW.lit (.string l) : DataW H)) = tot ls + ls.length := by
  induction ls with
  | nil => simp [Rows.uptoBulkAll, tot]
  | cons s ls ih => rw [List.map_cons, Rows.uptoBulkAll, ih, tot_cons, Rows.uptoBulk, List.length_cons]; omega

theorem bulk_list {H : Type} (ls : List (List UInt8)) (sp : List (DataW H)) (h : Rows.uptoSmall H [.slice (ls.map fun l => (DataW.lit (.string l) : DataW H)) sp] = true) : tot ls ≤ 1048576 ∧ ls.length ≤ 1048576 := by
  have h1 := of_decide_eq_true h
  simp only [Rows.uptoBulkAll, Rows.uptoBulk, bulk_texts] at h1
  omega

theorem contract (H : Type) (enc : TypeId × Value → H) (W : World) (base : Nat) (args : Array Value) (ds gs : List (DataW H)) (before : List MemPlace)
    (hval : ∀ (j : Nat) t v, Try.f8.params[j]? = some t → args[j]? = some v → Value.okWide Try.prog W .any base t v)
    (hW : DataW.Whole enc Try.prog Try.f8.params.toList Rows.packListsSpec.vars false W args.toList ds gs before) (hk : Rows.uptoSmall H (ds ++ gs) = true) :
    Calls Try.prog 8 args W fun e W' => ∃ v, e = .returned v ∧ Rows.packListsSpec.post enc Try.prog Try.f8 false true false false W args v W' := by
  have hW' := hW
  obtain ⟨p, q, hA0, hV, rfl, hfz, hnd⟩ := hW
  have hA : DataW.TrodAll enc Try.prog W 0 (fun _ => true) true Try.f8.params.toList args.toList ds p := hA0
  rw [Try.params8] at hA hval
  obtain ⟨v0, d0, rfl, rfl, h0⟩ := trodAll_one hA
  obtain ⟨rfl, rfl⟩ := trodVars_none hV
  obtain ⟨a0, len, cap, rfl⟩ := okWide_slice Try.underlying62 (hval 0 62 v0 rfl rfl)
  have h0k := h0
  obtain ⟨fuel, hf⟩ := h0
  clear hA0 hA
  simp only [List.append_nil] at hW' hk
  have fin : ∀ (ls : List (List UInt8)) (b off : Nat), len = ls.length → (0 < ls.length → a0 = some ⟨b, off, none⟩) → (∀ i, i < ls.length → W.cell? ⟨b, off + i, none⟩ = some (.string (bs (ls.getD i [])))) → ls.length ≤ 1048576 → tot ls ≤ 1048576 →
      (∀ x ∈ p, x.block < W.heap.size) →
      Calls Try.prog 8 #[.slice a0 len cap] W fun e W' => ∃ v, e = .returned v ∧ Rows.packListsSpec.post enc Try.prog Try.f8 false true false false W #[.slice a0 len cap] v W' := by
    intro ls b off hlen hao hcell hN hT hlt
    subst hlen
    refine (lists8 ls a0 b off cap W hao hcell hN hT).mono fun e W' ⟨he, bel⟩ => ?_
    subst he
    exact ⟨_, rfl, _, _, _, _, _, [], hW', trodAll_mk1 (shut_bool Try.underlying4 _), trodAll_mk1 (Below.trod laidOut (by kernel_rfl) (of_decide_eq_true (by kernel_rfl)) h0k bel hlt), rfl, bel.frame _, fun h => by cases h⟩
  have hlt : ∀ x ∈ p, x.block < W.heap.size := fun x hx => by simpa using hW'.lt x hx
  rcases open_strs Try.underlying62 Try.underlying9 c9 hf with ⟨hcs, hx⟩ | ⟨a, len', cap', m, Sx, hcs, _, hl, hm, hmm, hx, hcell⟩
  · simp [Value.cells] at hcs
    obtain ⟨rfl, rfl, rfl⟩ := hcs
    exact fin [] 0 0 rfl (fun h => absurd h (by simp)) (fun i hi => absurd hi (by simp)) (by simp) (by simp [tot]) hlt
  · simp [Value.cells] at hcs
    obtain ⟨rfl, rfl, rfl⟩ := hcs
    simp only [if_true] at hmm
    obtain rfl : cap = m := hmm.symm
    simp only [Prod.mk.injEq] at hx
    obtain ⟨rfl, rfl⟩ := hx
    obtain ⟨b, off, spot⟩ := a
    have e1 : (List.range len).map (fun i => (DataW.lit (.string (Sx i).data.toList) : DataW H)) = ((List.range len).map fun i => (Sx i).data.toList).map fun l => DataW.lit (.string l) := by rw [List.map_map]; rfl
    rw [e1] at hk
    obtain ⟨hT, hN⟩ := bulk_list _ _ hk
    refine fin ((List.range len).map fun i => (Sx i).data.toList) b off (by simp) ?_ ?_ hN hT hlt
    · intro h
      have hc := (hcell 0 (by simp at h; omega)).1
      have hspot : spot = none := by simpa [Addr.add] using World.cell?_spot hc
      rw [hspot]
    · intro i hi
      have hi' : i < len := by simpa using hi
      have hc0 := (hcell 0 (by omega)).1
      have hspot : spot = none := by simpa [Addr.add] using World.cell?_spot hc0
      subst hspot
      have hc := (hcell i (by omega)).1
      rw [add_plain] at hc
      rw [hc]
      congr 2
      simp [List.getD, hi', bs_of]

set_option maxRecDepth 100000 in
theorem lifted (os : Os) (started : os.Started) (H : Type) (enc : TypeId × Value → H) (F : Stop.Interp) :
    ReturnsInHanded {} Try.checked os 8 .any ((Rows.OpenSpec.upto Rows.packListsSpec).pre6 enc Try.prog Try.f8 Rows.packListsUptoRow.domain false) (((Rows.OpenSpec.upto Rows.packListsSpec).at F).post enc Try.prog Try.f8 false true false false) := by
  refine returnsInHanded_of_cond (C := Try.checked) (s := Rows.OpenSpec.upto Rows.packListsSpec) (k := Rows.uptoSmall) rfl own started (by kernel_rfl) Try.func8
    (OpenSpec.witness (enc := enc) (C := Try.checked) (s := Rows.OpenSpec.upto Rows.packListsSpec) (k := Rows.uptoSmall) rfl false ⟨#[], #[.slice none 0 0], []⟩ 8 (by kernel_rfl) (by kernel_rfl) (by kernel_rfl)
      (x := ([.nil], [], [])) (by kernel_rfl) rfl (by kernel_rfl)) ?_
  intro W base args ds gs before hval hW _ hk _
  exact contract H enc W base args ds gs before hval hW hk
end PackListsRow

theorem packLists_holds : Rows.PackListsUptoSaid :=
  OpenClaim.holds_of_cond 8 Try.f8 rfl rfl rfl rfl rfl rfl rfl ⟨rfl, rfl, rfl, rfl, rfl⟩ rfl rfl rfl rfl rfl (by kernel_rfl) Try.func8 (by kernel_rfl)
    (of_decide_eq_true (by kernel_rfl)) (by unfold Func.isWrapper; first | (rw [if_pos (by decide +kernel)]; kernel_rfl) | (rw [if_neg (by decide +kernel)]; exact ⟨rfl, rfl⟩))
    (fun os started H enc _ F => PackListsRow.lifted os started H enc F)
#print axioms packLists_holds
end Go.Proofs.Ytgkbefeiknfjcaa
