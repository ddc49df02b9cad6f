/-
  The document's Get, Set, Cut.
-/
import Derived.Test.YtogkgibneddngaaIts
namespace Go.Proofs.Ytogkgibneddngaa
open Go.RowKit

theorem info54 : (Try.prog.info? 56).map (fun i => (i.zero, i.size, i.bytes)) = some (some (.agg #[.string ⟨#[]⟩, .int .i64 0]), 2, 24) := by kernel_rfl

theorem get_at {k : List UInt8} {L : Kv} (h : Srt L) : getF k L = if thereB k L then some (L.getD (placeN k L) dk).2 else none := by
  rw [get_place h]
  unfold thereB
  cases hx : L[placeN k L]? with
  | none => rfl
  | some x =>
    dsimp only
    have e : L.getD (placeN k L) dk = x := by simp [List.getD, hx]
    rw [e]
theorem there_lt {k : List UInt8} {L : Kv} (h : thereB k L = true) : placeN k L < L.length ∧ (L.getD (placeN k L) dk).1 = k := by
  unfold thereB at h
  cases hx : L[placeN k L]? with
  | none => rw [hx] at h; cases h
  | some x =>
    rw [hx] at h
    refine ⟨(List.getElem?_eq_some_iff.1 hx).1, ?_⟩
    rw [show L.getD (placeN k L) dk = x from by simp [List.getD, hx]]
    simpa using h

set_option maxHeartbeats 800000 in
theorem refGet14 (B rb : Nat) (sl : Value) (L : Kv) (k : List UInt8) (w : World) (h : RefAt B rb sl L w) :
    Calls Try.prog 14 #[.pointer (some ⟨rb, 0, none⟩), .string (bs k)] w fun e w' => e = .returned (.tuple #[.int .i64 ((getF k L).getD 0), .bool (getF k L).isSome]) ∧ Below w.heap.size w w' := by
  obtain ⟨ao, cap, rfl, hlc, hcm⟩ := h.shape
  have H : Hid (RefAt B rb (.slice ao L.length cap) L w) := h
  have CP : Hid (1 = 1 → _) := fun _ => place21 B rb _ L k w h
  have HG : Hid _ := get_at (k := k) h.srt
  have HL : Hid (thereB k L = true → placeN k L < L.length) := fun h => (there_lt h).1
  clear h hlc hcm
  generalize getF k L = y at *
  generalize placeN k L = m at *
  generalize thereB k L = z at *
  go_enter Try.func14, Try.ntmps14
  go_wp2_with fail
  refine (CP.out (by trivial)).mono ?_
  rintro e w1 ⟨rfl, hb1⟩
  have H1 : Hid (RefAt B rb (.slice ao L.length cap) L w1) := H.out.on hb1
  have HB1 : Hid _ := hb1
  clear hb1 CP
  cases z
  · go_wp2_with fail
    rw [HG.out]
    refine bodyPost_ret (v := .tuple #[.int .i64 0, .bool false]) (by simp [results, Try.results14, go_sem]) rfl ?_
    exact ⟨rfl, HB1.out⟩
  · have hml : m < L.length := HL.out rfl
    obtain ⟨g, rfl, e0, e1⟩ := H1.out.el hml
    have c0 := H1.out.cell
    generalize (L.getD m dk).2 = u at *
    have hml' : (m : Int) < L.length := by omega
    go_wp2_with fail
    rw [HG.out]
    refine bodyPost_ret (v := .tuple #[.int .i64 u, .bool true]) (by simp [results, Try.results14, go_sem]) rfl ?_
    exact ⟨rfl, HB1.out⟩

/-- One cell of an owned row is written. -/
theorem own_set {base e size g n cap : Nat} {cs : List Value} {w : World} (h : w.ownsRow base e size (.slice (some ⟨g, 0, none⟩) n cap) n cs) (j : Nat) (u : Value) : (w.setCell ⟨g, j, none⟩ u).ownsRow base e size (.slice (some ⟨g, 0, none⟩) n cap) n (cs.set j u) := by
  rcases h.2 with ⟨h0, _⟩ | ⟨g', cap', cur, e', hg, hh, h1, h2, h3, h4⟩
  · cases h0
  · simp only [Value.slice.injEq, Option.some.injEq, Addr.mk.injEq] at e'
    obtain ⟨⟨rfl, _⟩, _, rfl⟩ := e'
    refine ⟨by rw [List.length_set]; exact h.1, .inr ⟨g, cap, cur.setIfInBounds j u, rfl, hg, ?_, h1, h2, by simpa using h3, ?_⟩⟩
    · show (w.heap.modify g _)[g]? = _
      rw [Array.getElem?_modify, if_pos rfl, hh]
      rfl
    · rw [Array.toList_setIfInBounds, ← h4, List.take_set]
theorem set_kept (F : Nat → Prop) (w : World) (a : Addr) (u : Value) (h : F a.block) : Kept F w (w.setCell a u) := by
  have hb : Below a.block w (w.setCell a u) := (Below.refl _ _).setCell (Nat.le_refl _) u
  refine ⟨hb.os, hb.tape, hb.output, hb.size, fun k hk hF => ?_⟩
  exact Below.heap_setCell _ _ _ _ (fun e => hF (e ▸ h))
theorem box_set {w : World} {rb : Nat} {sl u : Value} (h : w.heap[rb]? = some (.cells #[sl] 29 (0, 0))) : (w.setCell ⟨rb, 0, none⟩ u).heap[rb]? = some (.cells #[u] 29 (0, 0)) := by
  show (w.heap.modify rb _)[rb]? = _
  rw [Array.getElem?_modify, if_pos rfl, h]
  rfl
theorem own_frozen {base e size g n cap : Nat} {cs : List Value} {w : World} (h : w.ownsRow base e size (.slice (some ⟨g, 0, none⟩) n cap) n cs) (j : Nat) : w.frozen? ⟨g, j, none⟩ = false := by
  rcases h.2 with ⟨h0, _⟩ | ⟨g', cap', cur, e', hg, hh, h1, h2, h3, h4⟩
  · cases h0
  · simp only [Value.slice.injEq, Option.some.injEq, Addr.mk.injEq] at e'
    obtain ⟨⟨rfl, _⟩, _, rfl⟩ := e'
    unfold World.frozen?
    rw [hh]
    simp
end Go.Proofs.Ytogkgibneddngaa
