/-
  PlaceTells, walked.
-/
import Derived.Test.YtdiellljplcjfaaOn
namespace Go.Proofs.Ytdiellljplcjfaa
open Go.RowKit Go.Sort

theorem block_cell {w : World} {b j : Nat} {cs : Array Value} {ty : TypeId} {u : Value} (h : w.heap[b]? = some (.cells cs ty (0, 0))) (hj : cs[j]? = some u) : w.cell? ⟨b, j, none⟩ = some u := by
  unfold World.cell?
  rw [h]
  exact hj
theorem ord_same {x : Nat} {a : Int} (h : Fw x a) (ha : a.natAbs < 2 ^ 53) : FloatKind.f64.format.order x (floatOfInt .f64 a) = some .eq := by
  have := h.order (fw_int a ha)
  rw [f64f, this, Int.compare_eq_eq.2 rfl]
/-- Two numbers in a box. -/
structure Bt (w : World) (b : Nat) (s t : Int) (W : World) : Prop where
  bel : Below w.heap.size w W
  x : W.heap[b]? = some (.cells #[.int .i64 s, .int .i64 t] 22 (0, 0))
theorem Bt.on {w W W' : World} {b : Nat} {s t : Int} (h : Bt w b s t W) (hb : Below W.heap.size W W') : Bt w b s t W' :=
  ⟨h.bel.trans (hb.mono h.bel.size), by rw [hb.block b (Array.getElem?_eq_some_iff.1 h.x).1]; exact h.x⟩
theorem bt_new (w : World) (s t : Int) : Bt w w.heap.size s t (w.alloc (.cells #[.int .i64 s, .int .i64 t] 22)) := ⟨al _, heap_alloc_new w _⟩
set_option maxHeartbeats 1600000 in
set_option maxRecDepth 100000 in
theorem tells3 (I : Ifp) (key : List UInt8) (n s t : Int) (w : World) (hk : key.length ≤ 140737488355328) (n0 : -9223372036854775808 ≤ n) (n1 : n ≤ 9223372036854775807) (s0 : -9223372036854775808 ≤ s) (s1 : s ≤ 9223372036854775807) (t0 : -9223372036854775808 ≤ t) (t1 : t ≤ 9223372036854775807) : Calls Try.prog 3 #[.string (bs key), .int .i64 n, .agg #[.int .i64 s, .int .i64 t]] w fun e w' => e = .returned (.bool true) ∧ Below w.heap.size w w' := by
  have H0 : Hid _ := bt_new w s t
  obtain ⟨W1, hW1⟩ : ∃ W1, w.alloc (.cells #[.int .i64 s, .int .i64 t] 22) = W1 := ⟨_, rfl⟩
  obtain ⟨b, hb⟩ : ∃ b, w.heap.size = b := ⟨_, rfl⟩
  have H1 : Hid (Bt w b s t W1) := by rw [← hb, ← hW1]; exact H0.out
  have CA : Hid (∀ W : World, 1 = 1 → Calls Try.prog 8 #[] W fun e w' => e = .returned (.bool true) ∧ Below W.heap.size W w') := fun W _ => awake8 I W
  have CR : Hid (∀ W : World, 1 = 1 → Calls Try.prog 9 #[.string (bs key)] W fun r w' => r = .returned (.tuple #[.int .i64 (walkF key).1, .int .i64 (walkF key).2]) ∧ W = w') := fun W _ => walk9 key W
  have CW : Hid (∀ W : World, 1 = 1 → Calls Try.prog 10 #[.string (bs key)] W fun r w' => (∃ x y, r = .returned (.complex .f64 x y) ∧ Cw x y (walkF key)) ∧ Below W.heap.size W w') := fun W _ => wk' I key W (by omega)
  have CS : Hid (∀ W : World, 1 = 1 → Calls Try.prog 11 #[.string (bs key), .int .i64 n] W fun r w' => r = .returned (.tuple #[.int .i64 (shardF key n).1, .int .i64 (shardF key n).2]) ∧ Below W.heap.size W w') := fun W _ => I.sh key n W (by omega) n0 n1
  have CT : Hid (∀ W : World, 1 = 1 → Calls Try.prog 12 #[.string (bs key), .int .i64 n] W fun r w' => r = .returned (.tuple #[.int .i64 (shardF key n).1, .int .i64 (shardF key n).2]) ∧ W = w') := fun W _ => shard12 key n W
  have CN : Hid (∀ W : World, 1 = 1 → Calls Try.prog 13 #[.int .i64 s, .int .i64 t] W fun r w' => r = .returned (.tuple #[.int .i64 (nodeF s t).1, .int .i64 (nodeF s t).2]) ∧ Below W.heap.size W w') := fun W _ => I.nd s t W s0 s1 t0 t1
  have CM : Hid (∀ W : World, 1 = 1 → Calls Try.prog 14 #[.int .i64 s, .int .i64 t] W fun r w' => r = .returned (.tuple #[.int .i64 (nodeF s t).1, .int .i64 (nodeF s t).2]) ∧ W = w') := fun W _ => node14 s t W
  have HSC : Hid _ := shard_code key n
  have HSR : Hid _ := shard_range key n
  have bd := walkF_bound key
  generalize walkF key = p at *
  generalize nodeF s t = q at *
  generalize shardF key n = u at *
  obtain ⟨px, py⟩ := p
  obtain ⟨qa, qb⟩ := q
  obtain ⟨ua, ub⟩ := u
  dsimp only at *
  clear H0 hk n0 n1 s0 s1 t0 t1
  go_enter Try.func3, Try.ntmps3
  go_wp2_with fail
  refine (CA.out _ (by trivial)).mono ?_
  rintro r w1 ⟨rfl, hb1⟩
  have H2 : Hid (Bt w b s t w1) := H1.out.on hb1
  clear hb1 CA H1 hb hW1
  go_wp2_with fail
  refine (CR.out _ (by trivial)).mono ?_
  rintro r wx ⟨rfl, rfl⟩
  clear CR
  go_wp2_with fail
  refine (CW.out _ (by trivial)).mono ?_
  rintro r w2 ⟨⟨x, y, rfl, hc⟩, hb2⟩
  have H3 : Hid (Bt w b s t w2) := H2.out.on hb2
  have e1 : FloatKind.f64.format.order x (floatOfInt .f64 px) = some .eq := ord_same hc.re (by omega)
  have e2 : FloatKind.f64.format.order y (floatOfInt .f64 py) = some .eq := ord_same hc.im (by omega)
  clear hb2 CW H2 hc bd
  go_wp2_with fail
  refine (CS.out _ (by trivial)).mono ?_
  rintro r w3 ⟨rfl, hb3⟩
  have H4 : Hid (Bt w b s t w3) := H3.out.on hb3
  clear hb3 CS H3
  go_wp2_with fail
  refine (CT.out _ (by trivial)).mono ?_
  rintro r wx ⟨rfl, rfl⟩
  clear CT
  have p0 : w3.cell? ⟨b, 0, none⟩ = some (.int .i64 s) := block_cell H4.out.x rfl
  have p1 : w3.cell? ⟨b, 1, none⟩ = some (.int .i64 t) := block_cell H4.out.x rfl
  go_wp2_with fail
  refine (CN.out _ (by trivial)).mono ?_
  rintro r w4 ⟨rfl, hb4⟩
  have H5 : Hid (Bt w b s t w4) := H4.out.on hb4
  clear hb4 CN H4 p0 p1
  have p0 : w4.cell? ⟨b, 0, none⟩ = some (.int .i64 s) := block_cell H5.out.x rfl
  have p1 : w4.cell? ⟨b, 1, none⟩ = some (.int .i64 t) := block_cell H5.out.x rfl
  go_wp2_with fail
  refine (CM.out _ (by trivial)).mono ?_
  rintro r wx ⟨rfl, rfl⟩
  clear CM p0 p1
  rcases HSC.out with ⟨h0, _⟩ | ⟨h0, _⟩
  · subst h0
    obtain ⟨g0, g1⟩ := HSR.out rfl
    clear HSC HSR
    go_wp2_with fail
    go_ret
    exact ⟨rfl, H5.out.bel⟩
  · obtain ⟨rfl, rfl⟩ : ua = 0 ∧ ub = 1 := by simpa using h0
    clear HSC HSR h0
    go_wp2_with fail
    go_ret
    exact ⟨rfl, H5.out.bel⟩
end Go.Proofs.Ytdiellljplcjfaa
