/-
  Contracts of Write's closures: a text is put behind an area's row.
-/
import Derived.Test.YtjjdmeemhgopbaaDSettle
namespace Go.Proofs.Ytjjdmeemhgopbaa.Drm
open Go.RowKit

/-- A text appended to a row: it lies where the row lay, or in a new block. -/
theorem append_str (w : World) (base : Nat) (ty : TypeId) (i : TypeInfo) (hi : Try.prog.info? 5 = some i) (hz : i.zero = some (.int .u8 0)) (hsize : i.size = 1) (hby : i.bytes = 1)
    (v : Value) (l : List UInt8) (hown : w.ownsRow base 5 1 v l.length (cl l)) (s : List UInt8) (hl : l.length + s.length ≤ 140737488355328) (hbase : base ≤ w.heap.size) :
    ∃ v' w', (Builtin.append_ #[64, 9] ty #[v, .string (bs s)]).run Try.prog w = .ok v' w' ∧ w'.ownsRow base 5 1 v' (l ++ s).length (cl (l ++ s)) ∧ w.grownBy w' v.ownBlock ∧
      ∀ k, v'.ownBlock = some k → v.ownBlock = some k ∨ w.heap.size ≤ k := by
  have hm : l.length + (bs s).size ≤ maxLen := by rw [bs_size]; unfold maxLen; omega
  have hb : l.length + (bs s).size ≤ 140737488355328 := by rw [bs_size]; exact hl
  obtain ⟨v', w', hr, h1, h2, _⟩ := Lib.run_append_own_string (P := Try.prog) w base 64 9 ty 5 i Try.underlying64 Try.underlying9 hi hz hsize hby v l.length (cl l) hown (bs s) hm hb hbase
  refine ⟨v', w', hr, ?_, h2, ?_⟩
  · rw [bs_size, strCells_bs, bs_data, ← cl_append, ← List.length_append] at h1
    exact h1
  · intro k hk
    rcases hown.2 with ⟨rfl, h0⟩ | ⟨g, cap, cur, rfl, hbg, hg, hnc, hcm, hcs, htake⟩
    · have hn : w.ownsRow w.heap.size 5 1 (.slice none 0 0) l.length (cl l) := ⟨hown.1, .inl ⟨rfl, h0⟩⟩
      obtain ⟨v2, w2, hr2, h12, _, _⟩ := Lib.run_append_own_string (P := Try.prog) w w.heap.size 64 9 ty 5 i Try.underlying64 Try.underlying9 hi hz hsize hby _ l.length (cl l) hn (bs s) hm hb (Nat.le_refl _)
      rw [hr] at hr2
      injection hr2 with e1 e2
      subst e1
      exact .inr (h12.lt k hk).1
    · by_cases hroom : l.length + (bs s).size ≤ cap
      · have hr2 := Lib.run_append_room_string (P := Try.prog) w 64 9 ty 5 i Try.underlying64 Try.underlying9 hi hsize g l.length cap cur hg (bs s) hroom (by rw [hcs]; omega)
        rw [hr] at hr2
        injection hr2 with e1 e2
        subst e1
        exact .inl hk
      · have hr2 := Lib.run_append_grow_string (P := Try.prog) w 64 9 ty 5 i (.int .u8 0) Try.underlying64 Try.underlying9 hi hz ⟨g, 0, none⟩ l.length cap (cl l) (by rw [hsize, cl_length]; omega) (hown.cells (g := g) rfl) (bs s) (by omega) (by unfold maxLen at hm; omega) (by rw [hby]; exact growslice_fits (by omega) (by omega))
        rw [hr] at hr2
        injection hr2 with e1 e2
        subst e1
        simp only [Value.ownBlock, Option.some.injEq] at hk
        exact .inr (by omega)

theorem step_append_str {ops : Array Oper} {o : Oper} {a : Act} {w : World} {K : Act → World → Prop} {Q : Exit → Act → World → Prop} {E : Prop}
    (hgd : o.guard = none) (sl x : Operand) (hop : o.op = .call { callee := .builtin .append, args := #[sl, x], argTypes := #[64, 9] })
    (base : Nat) (v : Value) (l s : List UInt8) (hs : a.eval sl = v) (hx : a.eval x = .string (bs s)) (hown : w.ownsRow base 5 1 v l.length (cl l))
    (hl : l.length + s.length ≤ 140737488355328) (hbase : base ≤ w.heap.size)
    (h : ∀ v' w', w'.ownsRow base 5 1 v' (l ++ s).length (cl (l ++ s)) → w.grownBy w' v.ownBlock → (∀ k, v'.ownBlock = some k → v.ownBlock = some k ∨ w.heap.size ≤ k) → K (a.put o.dst v') w') :
    if Region.wanted o (yielded ops a.tmps) = true then Oper.wp Try.prog o a w K Q else E := by
  obtain ⟨i0, hi, hz0, hz1, hz2⟩ := info_parts info5
  have hw : Region.wanted o (yielded ops a.tmps) = true := by simp [Region.wanted, hgd]
  rw [if_pos hw]
  obtain ⟨v', w', hr, h2, h3, h4⟩ := append_str w base o.type i0 hi hz0 hz1 hz2 v l hown s hl hbase
  unfold Oper.wp execOp
  simp only [hop, resolve, invoke, builtin, Sem.run_bind, Sem.run_pure, Result.andThen_ok, List.map_toArray, List.map_cons, List.map_nil, hs, hx, hr]
  exact h v' w' h2 h3 h4

theorem row_at (D : Dr) (vs : Nat → Value) (a : Nat) (ha : a < 4) : (dcells D vs)[a * 3 + 1]? = some (vs a) := by
  rcases four ha with rfl | rfl | rfl | rfl <;> rfl

theorem grown_blk {pb : Nat} {D : Dr} {vs : Nat → Value} {w w1 : World} {a : Nat} {v : Value} (h : DrumIn pb D vs w) (ha : a < 4) (hv : vs a = v) (hg : w.drew.grownBy w1 v.ownBlock) : w1.heap[pb]? = some (.cells (dcells D vs) 69 (0, 0)) := by
  subst hv
  rw [hg.block pb h.lt (fun e => h.not_own a ha e.symm)]
  exact h.blk

set_option maxHeartbeats 800000 in
theorem write35 (pb : Nat) (D : Dr) (a sb : Nat) (s : List UInt8) (w : World) (hD : DrumAt pb D w) (ha : a < 4) (hs : w.cell? ⟨sb, 0, none⟩ = some (.string (bs s))) (hl : (D.p a).l.length + s.length ≤ 140737488355328) :
    Calls Try.prog 78 #[.pointer (some ⟨pb, a * 3, none⟩), .pointer (some ⟨sb, 0, none⟩)] w fun e w' => e = .returned (.tuple #[]) ∧ DrumAt pb (D.set a { D.p a with l := (D.p a).l ++ s }) w' ∧ Kept pb w w' := by
  obtain ⟨vs, hD⟩ := hD
  have hr := hD.row a ha
  have hf := hD.free
  have hlt := hD.lt
  obtain ⟨ao, cp, hv, hcp⟩ := own_shape (hD.own a ha)
  rw [hv] at hr
  have HD : Hid (DrumIn pb D vs w ∧ vs a = .slice ao (D.p a).l.length cp) := ⟨hD, hv⟩
  have HO : Hid (w.drew.ownsRow (pb + 1) 5 1 (.slice ao (D.p a).l.length cp) (D.p a).l.length (cl (D.p a).l)) := by
    have := (hD.own a ha).drew
    rw [hv] at this
    exact this
  clear hv hD
  go_enter Try.func78, Try.ntmps78
  go_wp2_with fail
  go_region_law (refine step_append_str rfl (.tmp 7) (.tmp 8) rfl (pb + 1) (.slice ao (D.p a).l.length cp) (D.p a).l s (by simp [Act.eval]) (by simp [Act.eval]) HO.out hl hlt ?_; intro v' w1 hown' hgrow hnew; obtain ⟨ao', cp', hv', _⟩ := own_shape hown'; subst hv'; have HG : Hid _ := And.intro hgrow (And.intro hown' hnew); have hD1 := grown_blk HD.out.1 ha HD.out.2 hgrow; have c1 := blk_cell (k := a * 3 + 1) hD1 (row_at D vs a ha); have f1 := fun k => blk_free (k := k) hD1; clear hown' hgrow hnew hD1)
  all_goals
    go_end0
    rw [← HD.out.2] at HG
    obtain ⟨vs', _, h1, h2⟩ := (HD.out.1.on (Below.refl _ _).drew).set_row a ha HG.out.1 HG.out.2.1 HG.out.2.2
    rw [List.length_append] at h1 h2
    exact ⟨rfl, ⟨vs', h1⟩, (Kept.refl _ _).drew.trans h2⟩

theorem quiet_same {f : Nat} {args : Array Value} {w : World} {v : Value} (h : Calls Try.prog f args w fun e w' => e = .returned v ∧ w = w') : Calls Try.prog f args w fun e w' => e = .returned v ∧ w' = w :=
  h.mono fun _ _ h => ⟨h.1, h.2.symm⟩

set_option maxHeartbeats 800000 in
theorem write34 (pb : Nat) (D : Dr) (a sb db : Nat) (s : List UInt8) (w : World) (hD : DrumAt pb D w) (ha : a < 4) (hOk : D.Ok) (hs : w.cell? ⟨sb, 0, none⟩ = some (.string (bs s))) (hd : w.cell? ⟨db, 0, none⟩ = some (.pointer (some ⟨pb, 0, none⟩))) :
    Calls Try.prog 77 #[.pointer (some ⟨pb, a * 3, none⟩), .pointer (some ⟨sb, 0, none⟩), .pointer (some ⟨db, 0, none⟩)] w fun e w' => e = .returned (.int .i64 (if (D.p a).there = true then (if D.room - D.used < s.length then 10 else 0) else 12)) ∧ Below w.heap.size w w' := by
  have hu := hOk.fits
  have h0 := hOk.room0
  have h1 := hOk.room1
  have HU : Hid (1 = 1 → ∀ n, Calls Try.prog 25 #[.pointer (some ⟨pb, 0, none⟩)] (w.drewN n) fun e w' => e = .returned (.int .i64 D.used) ∧ w' = w.drewN n) := fun _ n => quiet_same (used14 pb D _ (hD.on (below_drewN (Below.refl _ _) n)) (by omega))
  obtain ⟨vs, hD⟩ := hD
  have hc := hD.there a ha
  have hr := hD.room
  clear hD
  generalize (D.p a).there = b at *
  generalize D.room = room at *
  generalize D.used = used at *
  cases b with
  | false =>
    go_enter Try.func77, Try.ntmps77
    go_wp2_with (go_at_call 51; refine (missing30 pb _ _ _ hc).mono ?_; rintro e w1 ⟨rfl, rfl⟩)
    go_ret
    exact ⟨rfl, Below.refl _ _⟩
  | true =>
    by_cases hfull : room - (used : Int) < s.length
    · rw [show (if true = true then (if room - (used : Int) < s.length then (10 : Int) else 0) else 12) = 10 from by simp [hfull]]
      go_enter Try.func77, Try.ntmps77
      go_wp2_with (go_at_call 51; refine (missing30 pb _ _ _ hc).mono ?_; rintro e w1 ⟨rfl, rfl⟩)
      have hsz := bs_size s
      go_quiet ((go_at_call 25; exact Calls.quiet_of_same (HU.out (by trivial) _)))
      go_wp2
      go_ret
      exact ⟨rfl, below_drewN (Below.refl _ _) _⟩
    · rw [show (if true = true then (if room - (used : Int) < s.length then (10 : Int) else 0) else 12) = 0 from by simp [hfull]]
      go_enter Try.func77, Try.ntmps77
      go_wp2_with (go_at_call 51; refine (missing30 pb _ _ _ hc).mono ?_; rintro e w1 ⟨rfl, rfl⟩)
      have hsz := bs_size s
      go_quiet ((go_at_call 25; exact Calls.quiet_of_same (HU.out (by trivial) _)))
      go_wp2
      go_ret
      exact ⟨rfl, below_drewN (Below.refl _ _) _⟩

end Go.Proofs.Ytjjdmeemhgopbaa.Drm
