/-
  Set, Cut of the program's map; all that the laws ask of it.
-/
import Derived.Test.YtogkgibneddngaaMp
namespace Go.Proofs.Ytogkgibneddngaa
open Go.RowKit

/-- What Set and Cut leave. -/
def Post (B p : Nat) (F : Nat → Prop) (L : Kv) (w W : World) : Prop := ∃ F', MapAt B p F' L W ∧ Kept F w W ∧ ∀ i, F' i → F i ∨ w.heap.size ≤ i
def foot8 (p : Nat) (t : Tr) : Nat → Prop := fun i => i = p ∨ i ∈ t.blocks

theorem Mp.upd {B p : Nat} {t t' : Tr} {L : Kv} {w w1 : World} (h : Mp B p t w) (g : Tg t L w t' w1) (hs : Srt L) (n : Int) (hn : n = L.length) :
    Post B p (foot8 p t) L w ((w1.setCell ⟨p, 0, none⟩ t'.ptr).setCell ⟨p, 1, none⟩ (.int .i64 n)) := by
  have hp : p < w.heap.size := (Array.getElem?_eq_some_iff.1 h.box).1
  have h1 : w1.heap[p]? = some (.cells #[t.ptr, .int .i64 t.toL.length] 50 (0, 0)) := by rw [g.kept.block p hp h.pn]; exact h.box
  have k1 := set_kept' w1 p 0 t'.ptr
  have k2 := set_kept' (w1.setCell ⟨p, 0, none⟩ t'.ptr) p 1 (.int .i64 n)
  have kk := k1.trans k2 (fun i e => .inl e)
  have pn : p ∉ t'.blocks := fun hi => by
    rcases g.sub p hi with e | e
    · exact h.pn e
    · omega
  refine ⟨_, ⟨t', ⟨?_, TrAt.kept kk g.ok (fun i hi e => pn (e ▸ hi)), by rw [g.el]; exact hs, g.hk, pn, g.nd, h.low.1, fun i hi => ?_⟩, g.el, rfl⟩, ?_, fun i hi => ?_⟩
  · rw [g.el, ← hn]
    exact block_set _ (block_set _ h1)
  · rcases g.sub i hi with e | e
    · exact h.low.2 i e
    · have := h.low.1; omega
  · exact (g.kept.mono (fun i hi => .inr hi)).trans kk (fun i e => .inl (.inl e))
  · rcases hi with e | e
    · exact .inl (.inl e)
    · rcases g.sub i e with e | e
      · exact .inl (.inr e)
      · exact .inr e

theorem Mp.put {B p b : Nat} {t : Tr} {w : World} {k : List UInt8} (v : Int) (h : Mp B p t w) (hf : findT k t = some b) : Post B p (foot8 p t) (setF k v t.toL) w (w.setCell ⟨b, 1, none⟩ (.int .i64 v)) := by
  have hb := find_in hf
  have hs : (findT k t).isSome = true := by rw [hf]; rfl
  have hl : (putT k v t).toL = setF k v t.toL := put_toL h.srt hs
  have hlen : (putT k v t).toL.length = t.toL.length := by rw [hl, len_set h.srt, if_pos (by rw [← find_get h.srt]; exact hs)]
  have kk := set_kept' w b 1 (.int .i64 v)
  refine ⟨_, ⟨putT k v t, ⟨?_, put_at h.ok h.nd hf, by rw [hl]; exact setF_srt h.srt, put_hk k v h.hk, by rw [put_blocks]; exact h.pn, by rw [put_blocks]; exact h.nd, by rw [put_blocks]; exact h.low⟩, hl, rfl⟩, ?_, fun i hi => .inl ?_⟩
  · rw [put_ptr, hlen, kk.block p (Array.getElem?_eq_some_iff.1 h.box).1 (fun e => h.pn (e ▸ hb))]
    exact h.box
  · exact kk.mono (fun i e => .inr (e ▸ hb))
  · rw [put_blocks] at hi
    exact hi

set_option maxHeartbeats 800000 in
theorem set9 {B p : Nat} {t : Tr} {w : World} (k : List UInt8) (v : Int) (h : Mp B p t w) (hl : t.toL.length < 100000) : Calls Try.prog 9 #[.pointer (some ⟨p, 0, none⟩), .string (bs k), .int .i64 v] w fun e w' => e = .returned (.tuple #[]) ∧ Post B p (foot8 p t) (setF k v t.toL) w w' := by
  have CF : Hid (1 = 1 → Calls Try.prog 20 #[.pointer (some ⟨p, 0, none⟩), .string (bs k)] w fun e w' => e = .returned (ptrO (findT k t)) ∧ w' = w) := fun _ => find20 p k t w h.cells.1 h.ok
  have hg := find_get (k := k) h.srt
  cases hf : findT k t with
  | some b =>
    rw [hf] at CF
    have HP : Hid (Post B p (foot8 p t) (setF k v t.toL) w (w.setCell ⟨b, 1, none⟩ (.int .i64 v))) := h.put v hf
    obtain ⟨q, u, x, l, r, hb, -⟩ := find_at h.srt h.ok hf
    obtain ⟨-, c1, -, -, -⟩ := nd_cells hb
    have f1 := block_frozen hb 1
    simp only [ptrO] at CF
    clear h hg hf hb hl
    generalize setF k v t.toL = L at *
    generalize foot8 p t = F at *
    go_enter Try.func9, Try.ntmps9
    go_wp2_with fail
    refine (CF.out (by trivial)).mono ?_
    rintro e w' ⟨rfl, rfl⟩
    go_wp2_with fail
    refine bodyPost_ret (results_none Try.results9 _ _ _) rfl ?_
    exact ⟨rfl, HP.out⟩
  | none =>
    rw [hf] at CF hg
    have hn : getF k t.toL = none := by
      cases e : getF k t.toL with
      | none => rfl
      | some v => rw [e] at hg; cases hg
    have CW : Hid (1 = 1 → Calls Try.prog 21 #[t.ptr, .string (bs k), .int .i64 v] w fun e w1 => ∃ o, e = .returned (.pointer o) ∧ w1.cell? ⟨p, 0, none⟩ = some t.ptr ∧ w1.cell? ⟨p, 1, none⟩ = some (.int .i64 t.toL.length) ∧ w1.frozen? ⟨p, 0, none⟩ = false ∧ w1.frozen? ⟨p, 1, none⟩ = false ∧ Hid (Post B p (foot8 p t) (setF k v t.toL) w ((w1.setCell ⟨p, 0, none⟩ (.pointer o)).setCell ⟨p, 1, none⟩ (.int .i64 (t.toL.length + 1))))) := fun _ => by
      refine (with21 k v t w h.ok h.nd h.hk h.srt hn hl).mono ?_
      rintro e w1 ⟨t', rfl, g⟩
      obtain ⟨o, ho⟩ := t'.is_ptr
      have h1 : w1.heap[p]? = some (.cells #[t.ptr, .int .i64 t.toL.length] 50 (0, 0)) := by rw [g.kept.block p (Array.getElem?_eq_some_iff.1 h.box).1 h.pn]; exact h.box
      refine ⟨o, by rw [ho], block_cell h1 rfl, block_cell h1 rfl, block_frozen h1 _, block_frozen h1 _, ?_⟩
      have := h.upd g (setF_srt h.srt) (t.toL.length + 1) (by rw [len_set h.srt, hn]; rfl)
      rw [ho] at this
      exact this
    obtain ⟨c0, c1⟩ := h.cells
    simp only [ptrO] at CF
    have hl' : ((t.toL.length : Nat) : Int) < 100000 := by omega
    clear h hg hn hf hl
    generalize setF k v t.toL = L at *
    generalize foot8 p t = F at *
    obtain ⟨tp, hto⟩ := t.is_ptr
    rw [hto] at CW c0
    clear hto
    generalize t.toL.length = n at *
    go_enter Try.func9, Try.ntmps9
    go_wp2_with fail
    refine (CF.out (by trivial)).mono ?_
    rintro e w' ⟨rfl, rfl⟩
    go_wp2_with fail
    refine (CW.out (by trivial)).mono ?_
    rintro e w1 ⟨o, rfl, d0, d1, f0, f1, HP⟩
    clear CW CF c0 c1
    go_wp2_with fail
    refine bodyPost_end (results_none Try.results9 _ _ _) rfl ?_
    exact ⟨rfl, HP.out⟩
set_option maxHeartbeats 400000 in
theorem set9_nil (k : List UInt8) (v : Int) (w : World) : Calls Try.prog 9 #[.pointer none, .string (bs k), .int .i64 v] w fun e w' => e = .returned (.tuple #[]) ∧ Below w.heap.size w w' := by
  go_enter Try.func9, Try.ntmps9
  go_wp2_with fail
  refine bodyPost_ret (results_none Try.results9 _ _ _) rfl ?_
  exact ⟨rfl, Below.refl _ _⟩

set_option maxHeartbeats 800000 in
theorem cut11 {B p : Nat} {t : Tr} {w : World} (k : List UInt8) (h : Mp B p t w) (hl : t.toL.length < 100000) : Calls Try.prog 11 #[.pointer (some ⟨p, 0, none⟩), .string (bs k)] w fun e w' => e = .returned (.bool (getF k t.toL).isSome) ∧ Post B p (foot8 p t) (cutF k t.toL) w w' := by
  have CF : Hid (1 = 1 → Calls Try.prog 20 #[.pointer (some ⟨p, 0, none⟩), .string (bs k)] w fun e w' => e = .returned (ptrO (findT k t)) ∧ w' = w) := fun _ => find20 p k t w h.cells.1 h.ok
  have hg := find_get (k := k) h.srt
  rw [← hg]
  cases hf : findT k t with
  | none =>
    rw [hf] at CF hg
    have hn : getF k t.toL = none := by
      cases e : getF k t.toL with
      | none => rfl
      | some v => rw [e] at hg; cases hg
    have HP : Hid (Post B p (foot8 p t) (cutF k t.toL) w w) := ⟨_, ⟨t, h, (cut_none hn).symm, rfl⟩, Kept.refl _ _, fun i hi => .inl hi⟩
    simp only [ptrO] at CF
    clear h hg hn hf hl
    generalize cutF k t.toL = L at *
    generalize foot8 p t = F at *
    go_enter Try.func11, Try.ntmps11
    go_wp2_with fail
    refine (CF.out (by trivial)).mono ?_
    rintro e w' ⟨rfl, rfl⟩
    go_wp2_with fail
    go_ret
    exact ⟨rfl, HP.out⟩
  | some b =>
    rw [hf] at CF hg
    have hs : (getF k t.toL).isSome = true := hg.symm
    have hpos : 0 < t.toL.length := by
      cases e : t.toL with
      | nil => rw [e] at hs; cases hs
      | cons a l => simp
    have CW : Hid (1 = 1 → Calls Try.prog 23 #[t.ptr, .string (bs k)] w fun e w1 => ∃ o, e = .returned (.pointer o) ∧ w1.cell? ⟨p, 0, none⟩ = some t.ptr ∧ w1.cell? ⟨p, 1, none⟩ = some (.int .i64 t.toL.length) ∧ w1.frozen? ⟨p, 0, none⟩ = false ∧ w1.frozen? ⟨p, 1, none⟩ = false ∧ Hid (Post B p (foot8 p t) (cutF k t.toL) w ((w1.setCell ⟨p, 0, none⟩ (.pointer o)).setCell ⟨p, 1, none⟩ (.int .i64 (t.toL.length - 1))))) := fun _ => by
      refine (without23 t k w h.ok h.nd h.hk h.srt hs hl).mono ?_
      rintro e w1 ⟨t', rfl, g⟩
      obtain ⟨o, ho⟩ := t'.is_ptr
      have h1 : w1.heap[p]? = some (.cells #[t.ptr, .int .i64 t.toL.length] 50 (0, 0)) := by rw [g.kept.block p (Array.getElem?_eq_some_iff.1 h.box).1 h.pn]; exact h.box
      refine ⟨o, by rw [ho], block_cell h1 rfl, block_cell h1 rfl, block_frozen h1 _, block_frozen h1 _, ?_⟩
      have := h.upd g (cutF_srt h.srt) (t.toL.length - 1) (by rw [len_cut h.srt, if_pos hs]; omega)
      rw [ho] at this
      exact this
    obtain ⟨c0, c1⟩ := h.cells
    simp only [ptrO] at CF
    have hl' : ((t.toL.length : Nat) : Int) < 100000 := by omega
    clear h hg hf hl hs hpos
    generalize cutF k t.toL = L at *
    generalize foot8 p t = F at *
    obtain ⟨tp, hto⟩ := t.is_ptr
    rw [hto] at CW c0
    clear hto
    generalize t.toL.length = n at *
    go_enter Try.func11, Try.ntmps11
    go_wp2_with fail
    refine (CF.out (by trivial)).mono ?_
    rintro e w' ⟨rfl, rfl⟩
    go_wp2_with fail
    refine (CW.out (by trivial)).mono ?_
    rintro e w1 ⟨o, rfl, d0, d1, f0, f1, HP⟩
    clear CW CF c0 c1
    go_wp2_with fail
    go_ret
    exact ⟨rfl, HP.out⟩
set_option maxHeartbeats 400000 in
theorem cut11_nil (k : List UInt8) (w : World) : Calls Try.prog 11 #[.pointer none, .string (bs k)] w fun e w' => e = .returned (.bool false) ∧ Below w.heap.size w w' := by
  have CF : Hid (1 = 1 → Calls Try.prog 20 #[.pointer none, .string (bs k)] w fun e w' => e = .returned (.pointer none) ∧ w' = w) := fun _ => find20_nil k w
  go_enter Try.func11, Try.ntmps11
  go_wp2_with fail
  refine (CF.out (by trivial)).mono ?_
  rintro e w' ⟨rfl, rfl⟩
  go_wp2_with fail
  go_ret
  exact ⟨rfl, Below.refl _ _⟩

/-- All that the laws ask. -/
theorem mapIfc : Ifc MapAt where
  lt := by
    rintro B p F L w ⟨t, h, rfl, rfl⟩ k (rfl | hk)
    · exact ⟨h.low.1, (Array.getElem?_eq_some_iff.1 h.box).1⟩
    · exact ⟨h.low.2 k hk, h.ok.lt k hk⟩
  keep := by
    rintro B p F G L w w' ⟨t, h, rfl, rfl⟩ hk hF
    exact ⟨t, h.kept hk (hF p (.inl rfl)) (fun i hi => hF i (.inr hi)), rfl, rfl⟩
  srt := by
    rintro B p F L w ⟨t, h, rfl, rfl⟩
    exact h.srt
  new := new8
  set := by
    rintro B p F L w k v ⟨t, h, rfl, rfl⟩ hl
    exact set9 k v h hl
  cut := by
    rintro B p F L w k ⟨t, h, rfl, rfl⟩ hl
    exact cut11 k h hl
  get := by
    rintro B p F L w k ⟨t, h, rfl, rfl⟩ _
    exact get13 k h
  len := by
    rintro B p F L w ⟨t, h, rfl, rfl⟩ _
    exact len15 h
  keys := by
    rintro B p F L w lo hi limit ⟨t, h, rfl, rfl⟩ hl
    exact keys17 lo hi limit h hl
  set0 := set9_nil
  cut0 := cut11_nil
  get0 := get13_nil
  len0 := len15_nil
  keys0 := keys17_nil
end Go.Proofs.Ytogkgibneddngaa
