/-
  The document's table: Lay.
-/
import Derived.Test.YtknfkpnicjellaaPut
namespace Go.Proofs.Ytknfkpnicjellaa
open Go.RowKit

theorem laid_snoc {f : Wr → Ii} {x : Wr} : ∀ {L : List Wr} {T : Tb}, laidF f (L ++ [x]) T = setF x.key (f x) (laidF f L T)
  | [], _ => rfl
  | y :: L, T => by
    show laidF f (L ++ [x]) (setF y.key (f y) T) = _
    rw [laid_snoc]
    rfl
theorem wtk_snoc {L : List Wr} {m : Nat} (h : m < L.length) : L.take (m + 1) = L.take m ++ [L.getD m dw] := by
  rw [List.take_succ_eq_append_getElem h]
  simp [List.getD, h]
theorem lay_arg {r : Bool} {c n sp sl mp ml : Int} {prim : List UInt8} {l : List Wr} {T : Tb} (h : (rightW l && r) = false) : layF r c n sp sl mp ml prim l T = (T, 1) := by
  unfold layF
  rw [if_neg (by rw [h]; simp)]
theorem lay_by {r : Bool} {c n sp sl mp ml : Int} {prim : List UInt8} {l : List Wr} {T : Tb} (h : (rightW l && r) = true) (hb : 0 < (byF c n T).length) : layF r c n sp sl mp ml prim l T = (T, 40) := by
  unfold layF
  rw [if_pos h, if_neg]
  intro e
  simp only [Bool.and_eq_true, List.isEmpty_iff] at e
  rw [e.1] at hb
  simp at hb
theorem lay_busy {r : Bool} {c n sp sl mp ml : Int} {prim : List UInt8} {l : List Wr} {T : Tb} {m : Nat} (h : (rightW l && r) = true) (hm : m < l.length) (hb : (getF (l.getD m dw).key T).isSome = true) : layF r c n sp sl mp ml prim l T = (T, 40) := by
  unfold layF
  rw [if_pos h, if_neg]
  intro e
  simp only [Bool.and_eq_true, List.all_eq_true] at e
  have := e.2 _ (getD_memW hm)
  rw [Option.isNone_iff_eq_none] at this
  rw [this] at hb
  cases hb
theorem lay_ok {r : Bool} {c n sp sl mp ml : Int} {prim : List UInt8} {l : List Wr} {T : Tb} (h : (rightW l && r) = true) (hb : (byF c n T).length = 0) (hk : ∀ m, m < l.length → (getF (l.getD m dw).key T).isSome = false) : layF r c n sp sl mp ml prim l T = (laidF (mkI c n sp sl mp ml prim) l T, 0) := by
  unfold layF
  rw [if_pos h, if_pos]
  simp only [Bool.and_eq_true, List.all_eq_true, List.isEmpty_iff]
  refine ⟨List.eq_nil_of_length_eq_zero hb, fun x hx => ?_⟩
  obtain ⟨i, hi, rfl⟩ := List.mem_iff_getElem.1 hx
  have := hk i hi
  simpa [List.getD, hi] using this
/-- The m-th key is new behind the first m ones. -/
theorem laid_new {f : Wr → Ii} {l : List Wr} {T : Tb} {m : Nat} (hT : TOk T) (hr : rightW l = true) (hm : m < l.length) (hk : (getF (l.getD m dw).key T).isSome = false) : getF (l.getD m dw).key (laidF f (l.take m) T) = none := by
  have hn := nodup_keys.1 (right_parts hr).2.1
  rw [laid_other hT.srt]
  · cases h : getF (l.getD m dw).key T with
    | none => rfl
    | some x => rw [h] at hk; cases hk
  · intro x hx e
    obtain ⟨i, hi, rfl⟩ := List.mem_iff_getElem.1 hx
    rw [List.length_take] at hi
    have := hn i m (by omega) hm
    apply this
    rw [← e]
    simp [List.getD, show i < l.length by omega]
theorem laid_ok {f : Wr → Ii} {l : List Wr} {T : Tb} (m : Nat) (hT : TOk T) (hr : rightW l = true) : TOk (laidF f (l.take m) T) := ⟨laid_srt hT.srt, laid_keys (fun x hx => wOk_key ((right_parts hr).1 x (List.mem_of_mem_take hx))) hT.keys⟩
theorem laid_le {f : Wr → Ii} : ∀ {l : List Wr} {T : Tb}, Srt T → (laidF f l T).length ≤ T.length + l.length
  | [], _, _ => Nat.le_refl _
  | w :: l, T, h => by
    unfold laidF
    have := laid_le (f := f) (l := l) (T := setF w.key (f w) T) (setF_srt h)
    have h2 : (setF w.key (f w) T).length ≤ T.length + 1 := by
      rw [len_set h]
      split <;> omega
    simp only [List.length_cons]
    omega

/-- Lay's boxes: by, start, min. -/
structure Lx (bx : Nat) (c n sp sl mp ml : Int) (W : World) : Prop where
  b0 : W.heap[bx]? = some (.cells #[.int .u32 c, .int .u32 n] 32 (0, 0))
  b1 : W.heap[bx + 1]? = some (.cells #[.int .u64 sp, .int .u32 sl] 35 (0, 0))
  b2 : W.heap[bx + 2]? = some (.cells #[.int .u64 mp, .int .u32 ml] 35 (0, 0))
theorem Lx.kept {bx : Nat} {c n sp sl mp ml : Int} {F : Nat → Prop} {W W' : World} (h : Lx bx c n sp sl mp ml W) (hk : Kept F W W') (hF : ∀ i, bx ≤ i → i ≤ bx + 2 → ¬ F i) : Lx bx c n sp sl mp ml W' :=
  ⟨by rw [hk.block bx (Array.getElem?_eq_some_iff.1 h.b0).1 (hF _ (by omega) (by omega))]; exact h.b0, by rw [hk.block (bx + 1) (Array.getElem?_eq_some_iff.1 h.b1).1 (hF _ (by omega) (by omega))]; exact h.b1, by rw [hk.block (bx + 2) (Array.getElem?_eq_some_iff.1 h.b2).1 (hF _ (by omega) (by omega))]; exact h.b2⟩
theorem Lx.on {bx : Nat} {c n sp sl mp ml : Int} {W W' : World} (h : Lx bx c n sp sl mp ml W) (hb : Below W.heap.size W W') : Lx bx c n sp sl mp ml W' := h.kept (F := fun _ => False) (Kept.of_below hb) (fun _ _ _ h => h)
theorem Lx.six {bx : Nat} {c n sp sl mp ml : Int} {W : World} (h : Lx bx c n sp sl mp ml W) : W.cell? ⟨bx, 0, none⟩ = some (.int .u32 c) ∧ W.cell? ⟨bx, 1, none⟩ = some (.int .u32 n) ∧ W.cell? ⟨bx + 1, 0, none⟩ = some (.int .u64 sp) ∧ W.cell? ⟨bx + 1, 1, none⟩ = some (.int .u32 sl) ∧ W.cell? ⟨bx + 2, 0, none⟩ = some (.int .u64 mp) ∧ W.cell? ⟨bx + 2, 1, none⟩ = some (.int .u32 ml) :=
  ⟨block_cell h.b0 rfl, block_cell h.b0 rfl, block_cell h.b1 rfl, block_cell h.b1 rfl, block_cell h.b2 rfl, block_cell h.b2 rfl⟩
/-- The table as a call leaves it. -/
def RtPost (B rb : Nat) (s0 : Value) (T : Tb) (w w' : World) : Prop := ∃ sl', RtAt B rb sl' T w' ∧ Kept (fun i => i = rb) w w' ∧ ∀ i, foot rb sl' i → foot rb s0 i ∨ w.heap.size ≤ i
theorem RtAt.self {B rb : Nat} {s0 : Value} {T : Tb} {w w' : World} (h : RtAt B rb s0 T w) (hb : Below w.heap.size w w') : RtPost B rb s0 T w w' := ⟨s0, h.on hb, Kept.of_below hb, fun _ hi => .inl hi⟩

/-- The table while writes are laid. -/
structure Ly (B rb : Nat) (s0 : Value) (bx : Nat) (c n sp sl mp ml : Int) (w : World) (T : Tb) (sl' : Value) (W : World) : Prop where
  rt : RtAt B rb sl' T W
  bxs : Lx bx c n sp sl mp ml W
  kept : Kept (fun i => i = rb) w W
  new : ∀ i, foot rb sl' i → foot rb s0 i ∨ w.heap.size ≤ i
theorem Ly.on {B rb : Nat} {s0 sl' : Value} {bx : Nat} {c n sp sl mp ml : Int} {w W W' : World} {T : Tb} (h : Ly B rb s0 bx c n sp sl mp ml w T sl' W) (hb : Below W.heap.size W W') : Ly B rb s0 bx c n sp sl mp ml w T sl' W' :=
  ⟨h.rt.on hb, h.bxs.on hb, h.kept.trans (Kept.of_below (F := fun _ => False) hb) (fun _ h => h.elim), h.new⟩
theorem Ly.put {B rb : Nat} {s0 sl' sl2 : Value} {bx : Nat} {c n sp sl mp ml : Int} {w W W' : World} {T T' : Tb} (h : Ly B rb s0 bx c n sp sl mp ml w T sl' W) (hrb : rb < bx) (h1 : RtAt B rb sl2 T' W') (hk : Kept (fun i => i = rb) W W') (hn : ∀ i, sl2.ownBlock = some i → W.heap.size ≤ i) : Ly B rb s0 bx c n sp sl mp ml w T' sl2 W' := by
  refine ⟨h1, h.bxs.kept hk (fun i h1 _ e => by omega), h.kept.trans hk (fun i hi => .inl hi), fun i hi => ?_⟩
  rcases hi with e | e
  · exact .inl (.inl e)
  · exact .inr (Nat.le_trans h.kept.size (hn i e))
theorem Ly.post {B rb : Nat} {s0 sl' : Value} {bx : Nat} {c n sp sl mp ml : Int} {w W : World} {T : Tb} (h : Ly B rb s0 bx c n sp sl mp ml w T sl' W) : RtPost B rb s0 T w W := ⟨sl', h.rt, h.kept, h.new⟩
end Go.Proofs.Ytknfkpnicjellaa
