import Derived.WalkSpells
import Derived.WalkLawsBesides
import Derived.BigQuiet
import Derived.Deep.QuietTactic
import Derived.Lib.QuietBelow
import Derived.Lib.Strings
import Derived.Maps.AppendAt
import Derived.OwnWalk
import Derived.Deep.RegionHeld3
import Derived.Deep.DeepCutAuto
import Derived.Deep.CutBlock
import Derived.Test.YtkdkgdollmmcnaaGreatWab
set_option maxHeartbeats 4000000
set_option maxRecDepth 100000
set_option linter.unusedVariables false
set_option linter.unusedSimpArgs false
namespace Go.Proofs.YtkdkgdollmmcnaaGreat
open Go.RowKit
theorem al {W : World} (o : Obj) : Below W.heap.size W (W.alloc o) := (Below.refl _ _).alloc (Nat.le_refl _) _
theorem bs_list (a : List UInt8) : (bs a).toList = a := by rw [ByteArray.toList_eq, bs_data]
theorem bs_beq (a b : List UInt8) : ((bs a).toList == (bs b).toList) = (a == b) := by rw [bs_list, bs_list]
structure Kept (F : Nat → Prop) (w w' : World) : Prop where
 os : w'.os = w.os
 tape : w'.tape = w.tape
 output : w'.output = w.output
 size : w.heap.size ≤ w'.heap.size
 block : ∀ k, k < w.heap.size → ¬ F k → w'.heap[k]? = w.heap[k]?
theorem Kept.refl (F : Nat → Prop) (w : World) : Kept F w w := ⟨rfl, rfl, rfl, Nat.le_refl _, fun _ _ _ => rfl⟩
theorem Kept.of_below {F : Nat → Prop} {w w' : World} (h : Below w.heap.size w w') : Kept F w w' := ⟨h.os, h.tape, h.output, h.size, fun k hk _ => h.block k hk⟩
theorem Kept.below {F : Nat → Prop} {B : Nat} {w w' : World} (h : Kept F w w') (hB : B ≤ w.heap.size) (hF : ∀ k, F k → B ≤ k) : Below B w w' :=
 ⟨h.os, h.tape, h.output, h.size, fun k hk => h.block k (Nat.lt_of_lt_of_le hk hB) (fun hf => absurd (hF k hf) (by omega))⟩
theorem Kept.trans {F G : Nat → Prop} {a b c : World} (h : Kept F a b) (k : Kept G b c) (hG : ∀ i, G i → F i ∨ a.heap.size ≤ i) : Kept F a c :=
 ⟨k.os.trans h.os, k.tape.trans h.tape, k.output.trans h.output, Nat.le_trans h.size k.size, fun i hi hF => (k.block i (Nat.lt_of_lt_of_le hi h.size) (fun hg => by rcases hG i hg with h1 | h1; exact hF h1; omega)).trans (h.block i hi hF)⟩
theorem Kept.cell {F : Nat → Prop} {w w' : World} (h : Kept F w w') {b o : Nat} {v : Value} (hc : w.cell? ⟨b, o, none⟩ = some v) (hb : ¬ F b) : w'.cell? ⟨b, o, none⟩ = some v := by
 have hl : b < w.heap.size := World.block_lt_of_cell? _ _ hc
 unfold World.cell? at hc ⊢
 rw [h.block b hl hb]
 exact hc
theorem Kept.drew {F : Nat → Prop} {w w' : World} (h : Kept F w w') : Kept F w w'.drew := ⟨h.os, h.tape, h.output, h.size, h.block⟩
theorem Kept.mono {F G : Nat → Prop} {w w' : World} (h : Kept F w w') (hF : ∀ i, F i → G i) : Kept G w w' := ⟨h.os, h.tape, h.output, h.size, fun k hk hn => h.block k hk (fun hf => hn (hF k hf))⟩
def RwAt (B size : Nat) (v : Value) (n : Nat) (cs : List Value) (w : World) : Prop :=
 ∃ ao cap, v = .slice ao n cap ∧ cs.length = n * size ∧ n ≤ cap ∧ cap ≤ 9223372036854775807 ∧ (0 < cap → ∃ b off, ao = some ⟨b, off, none⟩ ∧ (0 < n → b < B) ∧ ∀ j u, cs[j]? = some u → w.cell? ⟨b, off + j, none⟩ = some u)
theorem RwAt.kept {B size : Nat} {v : Value} {n : Nat} {cs : List Value} {w w' : World} {F : Nat → Prop} (h : RwAt B size v n cs w) (hk : Kept F w w') (hF : ∀ k, F k → B ≤ k) : RwAt B size v n cs w' := by
 obtain ⟨ao, cap, rfl, hl, hm, hc, h⟩ := h
 refine ⟨ao, cap, rfl, hl, hm, hc, fun h0 => ?_⟩
 obtain ⟨b, off, rfl, hb, hcell⟩ := h h0
 refine ⟨b, off, rfl, hb, fun j u hj => ?_⟩
 have hjl : j < cs.length := (List.getElem?_eq_some_iff.1 hj).1
 have hn : 0 < n := by
  rcases Nat.eq_zero_or_pos n with h1 | h1
  ·subst h1; omega
  ·exact h1
 exact hk.cell (hcell j u hj) (fun hf => by have := hF b hf; have := hb hn; omega)
theorem RwAt.on {B size : Nat} {v : Value} {n : Nat} {cs : List Value} {w w' : World} (h : RwAt B size v n cs w) (hb : Below B w w') : RwAt B size v n cs w' := by
 obtain ⟨ao, cap, rfl, hl, hm, hc, h⟩ := h
 refine ⟨ao, cap, rfl, hl, hm, hc, fun h0 => ?_⟩
 obtain ⟨b, off, rfl, hbl, hcell⟩ := h h0
 refine ⟨b, off, rfl, hbl, fun j u hj => ?_⟩
 have hjl : j < cs.length := (List.getElem?_eq_some_iff.1 hj).1
 have hn : 0 < n := by
  rcases Nat.eq_zero_or_pos n with h1 | h1
  ·subst h1; omega
  ·exact h1
 rw [hb.cell (p := ⟨b, off + j, none⟩) (hbl hn)]
 exact hcell j u hj
theorem RwAt.le {B B' size : Nat} {v : Value} {n : Nat} {cs : List Value} {w : World} (h : RwAt B size v n cs w) (hB : B ≤ B') : RwAt B' size v n cs w := by
 obtain ⟨ao, cap, rfl, hl, hm, hc, h⟩ := h
 refine ⟨ao, cap, rfl, hl, hm, hc, fun h0 => ?_⟩
 obtain ⟨b, off, rfl, hb, hcell⟩ := h h0
 exact ⟨b, off, rfl, fun h1 => Nat.lt_of_lt_of_le (hb h1) hB, hcell⟩
theorem RwAt.nil (B size : Nat) (w : World) : RwAt B size sy 0 [] w := ⟨none, 0, rfl, by simp, Nat.le_refl _, by omega, fun h => absurd h (by omega)⟩
theorem RwAt.cellAt {B size : Nat} {ao : Option Addr} {cap n : Nat} {cs : List Value} {w : World} (h : RwAt B size (.slice ao n cap) n cs w) {j : Nat} (hj : j < cs.length) : ∃ b off, ao = some ⟨b, off, none⟩ ∧ b < B ∧ ∀ j u, cs[j]? = some u → w.cell? ⟨b, off + j, none⟩ = some u := by
 obtain ⟨ao', cap', e, hl, hm, hc, h⟩ := h
 simp only [Value.slice.injEq] at e
 obtain ⟨rfl, _, rfl⟩ := e
 have hn : 0 < n := by
  rcases Nat.eq_zero_or_pos n with h1 | h1
  ·subst h1; omega
  ·exact h1
 obtain ⟨b, off, rfl, hb, hcell⟩ := h (by omega)
 exact ⟨b, off, rfl, hb hn, hcell⟩
theorem RwAt.take {B size : Nat} {ao : Option Addr} {cap n : Nat} {cs : List Value} {w : World} (h : RwAt B size (.slice ao n cap) n cs w) {k : Nat} (hk : k ≤ n) : RwAt B size (.slice ao k cap) k (cs.take (k * size)) w := by
 obtain ⟨ao', cap', e, hl, hm, hc, h⟩ := h
 simp only [Value.slice.injEq] at e
 obtain ⟨rfl, _, rfl⟩ := e
 have hks : k * size ≤ n * size := Nat.mul_le_mul_right _ hk
 refine ⟨ao, cap, rfl, by rw [List.length_take]; omega, by omega, hc, fun h0 => ?_⟩
 obtain ⟨b, off, rfl, hb, hcell⟩ := h h0
 refine ⟨b, off, rfl, fun h1 => hb (by omega), fun j u hj => hcell j u ?_⟩
 rw [List.getElem?_take] at hj
 split at hj
 ·exact hj
 ·cases hj
theorem rw_own {base e size : Nat} {v : Value} {n : Nat} {cs : List Value} {w : World} (h : w.ownsRow base e size v n cs) : RwAt w.heap.size size v n cs w := by
 rcases h.2 with ⟨rfl, h0⟩ | ⟨g, cap, cur, rfl, hb, hg, hnc, hcm, hcs, ht⟩
 ·subst h0
  have : cs = [] := List.eq_nil_of_length_eq_zero (by simpa using h.1)
  subst this
  exact RwAt.nil _ _ _
 ·refine ⟨_, cap, rfl, h.1, hnc, by unfold maxLen at hcm; omega, fun _ => ⟨g, 0, rfl, fun _ => (Array.getElem?_eq_some_iff.1 hg).1, fun j u hj => ?_⟩⟩
  have := World.ownsRow.cells h (g := g) rfl j u hj
  rw [Addr.add_lit] at this
  exact this
theorem own_on {base e size : Nat} {v : Value} {n : Nat} {cs : List Value} {w w' : World} (h : w.ownsRow base e size v n cs) (hb : Below w.heap.size w w') : w'.ownsRow base e size v n cs := by
 refine ⟨h.1, ?_⟩
 rcases h.2 with h0 | ⟨g, cap, cur, e, hg, hh, h1, h2, h3, h4⟩
 ·exact .inl h0
 ·exact .inr ⟨g, cap, cur, e, hg, by rw [hb.block g (Array.getElem?_eq_some_iff.1 hh).1]; exact hh, h1, h2, h3, h4⟩
theorem own_kept {base e size : Nat} {v : Value} {n : Nat} {cs : List Value} {w w' : World} {F : Nat → Prop} (h : w.ownsRow base e size v n cs) (hk : Kept F w w') (hF : ∀ k, v.ownBlock = some k → ¬ F k) : w'.ownsRow base e size v n cs := by
 refine ⟨h.1, ?_⟩
 rcases h.2 with h0 | ⟨g, cap, cur, rfl, hg, hh, h1, h2, h3, h4⟩
 ·exact .inl h0
 ·exact .inr ⟨g, cap, cur, rfl, hg, by rw [hk.block g (Array.getElem?_eq_some_iff.1 hh).1 (hF g rfl)]; exact hh, h1, h2, h3, h4⟩
theorem grown_kept {w w' : World} {row : Option Nat} (h : w.grownBy w' row) : Kept (fun k => row = some k) w w' := ⟨h.os, h.tape, h.output, h.size, fun k hk hn => h.block k hk (fun e => hn e.symm)⟩
structure Ow (base e size : Nat) (v : Value) (n : Nat) (xs : List Value) (B : Nat) (vx : Value) (m : Nat) (cs : List Value) (w : World) : Prop where
 own : w.ownsRow base e size v n xs
 new : RwAt B size vx m cs w
 one : ∀ u ∈ cs, u.oneCell' = true
 size : base ≤ w.heap.size
 len : n + m ≤ 1048576
theorem run_append_rw {P : Program} {base t ty e size bytes B n m : Nat} {v vx : Value} {xs cs : List Value} {i : TypeInfo} {z : Value} {w : World} (ht : P.underlying t = some (.slice e)) (hi : P.info? e = some i) (hz : i.zero = some z)
  (hsize : i.size = size) (hby : i.bytes = bytes) (hzs : z.cells.size = size) (hsz : 0 < size) (hb : bytes ≤ 1000) (H : Ow base e size v n xs B vx m cs w) :
  ∃ v' w', (Builtin.append_ #[t, t] ty #[v, vx]).run P w = .ok v' w' ∧ w'.ownsRow base e size v' (n + m) (xs ++ cs) ∧ w.grownBy w' v.ownBlock ∧ (v'.ownBlock = v.ownBlock ∨ v'.ownBlock = some w.heap.size) := by
 obtain ⟨ax, cx, rfl, hl, hm, hc, hx⟩ := H.new
 have hlen := H.len
 have hbb : (n + m) * bytes ≤ 140737488355328 := by
  have : (n + m) * bytes ≤ 1048576 * 1000 := Nat.mul_le_mul hlen hb
  omega
 have hm0 : ax = none → m = 0 := fun h => by
  subst h
  rcases Nat.eq_zero_or_pos m with h1 | h1
  ·exact h1
  ·obtain ⟨b, o, e, _⟩ := hx (by omega)
   cases e
 cases ax with
 | none =>
  have h0 := hm0 rfl
  subst h0
  have hcs : cs = [] := List.eq_nil_of_length_eq_zero (by simpa using hl)
  subst hcs
  refine ⟨v, w, ?_, by simpa using H.own, ⟨rfl, rfl, rfl, Nat.le_refl _, fun _ _ _ => rfl⟩, .inl rfl⟩
  rcases H.own.2 with ⟨rfl, _⟩ | ⟨g, cap, cur, rfl, _, _, hnc, _⟩
  ·simp [Builtin.append_, run_underlying ht, sizeOf, typeInfo, hi, Builtin.lenOf, Builtin.firstCells]
  ·simp [Builtin.append_, run_underlying ht, sizeOf, typeInfo, hi, Builtin.lenOf, Builtin.firstCells, hnc, storeCells]
 | some ad =>
  have hnews : ∀ j u, cs[j]? = some u → w.cell? (ad.add j) = some u := by
   intro j u hj
   have hjl : j < cs.length := (List.getElem?_eq_some_iff.1 hj).1
   have hn : 0 < m := by
    rcases Nat.eq_zero_or_pos m with h1 | h1
    ·subst h1; omega
    ·exact h1
   obtain ⟨b, off, e, _, hcell⟩ := hx (by omega)
   injection e with e
   subst e
   rw [Addr.add_lit]
   exact hcell j u hj
  obtain ⟨v', w', h1, h2, h3, _, h5⟩ := run_append_own_at (P := P) w base t ty e i z size bytes ht hi hz hsize hby hzs hsz v n xs H.own ad m cx cs hl hnews H.one (by unfold maxLen; omega) hbb H.size
  exact ⟨v', w', h1, h2, h3, h5⟩
theorem wpList_append_rw {P : Program} {base t e size bytes B n m : Nat} {v vx : Value} {xs cs : List Value} {i : TypeInfo} {z : Value} {ops : Array Oper} {rest : List Oper} {o : Oper} {a : Act} {Q : Exit → Act → World → Prop} {w : World} (H : Ow base e size v n xs B vx m cs w)
  (ht : P.underlying t = some (.slice e)) (hi : P.info? e = some i) (hz : i.zero = some z) (hsize : i.size = size) (hby : i.bytes = bytes) (hzs : z.cells.size = size) (hsz : 0 < size) (hb : bytes ≤ 1000)
  (s x : Operand) (ho : o.op = .call { callee := .builtin .append, args := #[s, x], argTypes := #[t, t] }) (hw : Region.wanted o (yielded ops a.tmps) = true) (hs : a.eval s = v) (hx : a.eval x = vx)
  (h : ∀ v' w', w'.ownsRow base e size v' (n + m) (xs ++ cs) → w.grownBy w' v.ownBlock → (v'.ownBlock = v.ownBlock ∨ v'.ownBlock = some w.heap.size) → wpList P ops Q rest (a.put o.dst v') w') : wpList P ops Q (o :: rest) a w :=
 wpList_step fun K hK => by
  rw [if_pos hw]
  obtain ⟨v', w', hr, h2, h3, h4⟩ := run_append_rw (ty := o.type) ht hi hz hsize hby hzs hsz hb H
  unfold Oper.wp execOp
  simp only [ho, resolve, invoke, builtin, Sem.run_bind, Sem.run_pure, Result.andThen_ok, List.map_toArray, List.map_cons, List.map_nil, hs, hx, hr]
  exact hK _ _ (h v' w' h2 h3 h4)
section
variable {α : Type} (vc : α → List Value)
def rowC (L : List α) : List Value := L.flatMap vc
theorem rowC_one (x : α) : rowC vc [x] = vc x := by simp [rowC]
theorem rowC_cons (x : α) (L : List α) : rowC vc (x :: L) = vc x ++ rowC vc L := by simp [rowC]
theorem rowC_append (L R : List α) : rowC vc (L ++ R) = rowC vc L ++ rowC vc R := by simp [rowC]
theorem rowC_cells (h : ∀ a, ∀ u ∈ vc a, u.oneCell' = true) (L : List α) : ∀ u ∈ rowC vc L, u.oneCell' = true := fun u hu => by
 obtain ⟨a, _, ha⟩ := List.mem_flatMap.1 hu
 exact h a u ha
variable {vc} {sz : Nat}
theorem rowC_length (hsz : ∀ a, (vc a).length = sz) (L : List α) : (rowC vc L).length = L.length * sz := by
 induction L with
 | nil => simp [rowC]
 | cons a L ih => rw [rowC_cons, List.length_append, ih, hsz, List.length_cons, Nat.succ_mul]; omega
theorem rowC_get (hsz : ∀ a, (vc a).length = sz) (d : α) : ∀ (L : List α) (i j : Nat), i < L.length → j < sz → (rowC vc L)[i * sz + j]? = (vc (L.getD i d))[j]?
 | [], _, _, h, _ => absurd h (by simp)
 | a :: r, 0, j, _, hj => by
  rw [rowC_cons, Nat.zero_mul, Nat.zero_add, List.getElem?_append_left (by rw [hsz]; exact hj)]
  rfl
 | a :: r, i + 1, j, h, hj => by
  rw [rowC_cons, List.getElem?_append_right (by rw [hsz, Nat.succ_mul]; omega), hsz, show (i + 1) * sz + j - sz = i * sz + j from by rw [Nat.succ_mul]; omega, rowC_get hsz d r i j (by simpa using h) hj]
  rfl
theorem rowC_take (hsz : ∀ a, (vc a).length = sz) : ∀ (L : List α) (k : Nat), (rowC vc L).take (k * sz) = rowC vc (L.take k)
 | [], k => by simp [rowC]
 | a :: r, 0 => by simp [rowC]
 | a :: r, k + 1 => by
  rw [rowC_cons, List.take_succ_cons, rowC_cons, List.take_append, hsz, List.take_of_length_le (by rw [hsz, Nat.succ_mul]; omega), show (k + 1) * sz - sz = k * sz from by rw [Nat.succ_mul]; omega, rowC_take hsz r k]
theorem rowC_drop (hsz : ∀ a, (vc a).length = sz) : ∀ (L : List α) (k : Nat), (rowC vc L).drop (k * sz) = rowC vc (L.drop k)
 | [], k => by simp [rowC]
 | a :: r, 0 => by simp [rowC]
 | a :: r, k + 1 => by
  rw [rowC_cons, List.drop_succ_cons, List.drop_append, hsz, List.drop_of_length_le (by rw [hsz, Nat.succ_mul]; omega), show (k + 1) * sz - sz = k * sz from by rw [Nat.succ_mul]; omega, rowC_drop hsz r k]
  rfl
theorem rowC_el (hsz : ∀ a, (vc a).length = sz) (d : α) (h0 : 0 < sz) {B : Nat} {ao : Option Addr} {cap n : Nat} {L : List α} {w : World} (hn : n = L.length) (h : RwAt B sz (.slice ao n cap) n (rowC vc L) w) {i : Nat} (hi : i < n) : ∃ b off, ao = some ⟨b, off, none⟩ ∧ ∀ j u, j < sz → (vc (L.getD i d))[j]? = some u → w.cell? ⟨b, off + i * sz + j, none⟩ = some u := by
 subst hn
 have hlt : i * sz < (rowC vc L).length := by rw [rowC_length hsz]; exact Nat.mul_lt_mul_of_pos_right hi h0
 obtain ⟨b, off, e, _, hc⟩ := RwAt.cellAt h (j := i * sz) hlt
 refine ⟨b, off, e, fun j u hj hu => ?_⟩
 rw [Nat.add_assoc]
 exact hc _ _ (by rw [rowC_get hsz d L i j hi hj]; exact hu)
end
theorem row_one {α : Type} (vc : α → List Value) (sz : Nat) (hsz : ∀ a, (vc a).length = sz) (x : α) (ty : TypeId) (w : World) (hc : ∀ j u, (vc x)[j]? = some u → (w.alloc (.cells (vc x).toArray ty)).cell? ⟨w.heap.size, j, none⟩ = some u) : RwAt (w.heap.size + 1) sz (.slice (some ⟨w.heap.size, 0, none⟩) 1 1) 1 (rowC vc [x]) (w.alloc (.cells (vc x).toArray ty)) := by
 rw [rowC_one]
 refine ⟨_, 1, rfl, by rw [hsz, Nat.one_mul], Nat.le_refl _, by omega, fun _ => ⟨w.heap.size, 0, rfl, fun _ => Nat.lt_succ_self _, fun j u hj => ?_⟩⟩
 rw [Nat.zero_add]
 exact hc j u hj
end Go.Proofs.YtkdkgdollmmcnaaGreat
