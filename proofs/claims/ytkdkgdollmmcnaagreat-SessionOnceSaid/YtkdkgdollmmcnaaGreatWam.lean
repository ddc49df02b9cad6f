import Derived.Lib.SliceRun
import Derived.Deep.WholeRow
import Derived.Test.YtkdkgdollmmcnaaGreatWaj
set_option maxHeartbeats 4000000
set_option maxRecDepth 100000
set_option linter.unusedVariables false
set_option linter.unusedSimpArgs false
namespace Go.Proofs.YtkdkgdollmmcnaaGreat
open Go.RowKit Go.Sort
section
variable {α : Type} {vc : α → List Value} {sz : Nat} {base e g cap : Nat} {L : List α} {W : World}
theorem own_there (h : W.ownsRow base e sz (.slice (some ⟨g, 0, none⟩) L.length cap) L.length (rowC vc L)) : ∃ cur, W.heap[g]? = some (.cells cur e (0, 0)) ∧ cur.size = cap * sz ∧ L.length ≤ cap ∧ cap ≤ maxLen ∧ base ≤ g ∧ cur.toList.take (L.length * sz) = rowC vc L := by
 rcases h.2 with ⟨h0, _⟩ | ⟨g', cap', cur, h0, h1, h2, h3, h4, h5, h6⟩
 ·cases h0
 ·injection h0 with e1 _ e3
  injection e1 with e1
  injection e1 with e1
  subst e1; subst e3
  exact ⟨cur, h2, h5, h3, h4, h1, h6⟩
theorem own_range (hsz : ∀ a, (vc a).length = sz) (d : α) (h : W.ownsRow base e sz (.slice (some ⟨g, 0, none⟩) L.length cap) L.length (rowC vc L)) {i : Nat} (hi : i < L.length) : W.rangeAt g (i * sz) (vc (L.getD i d)) := fun j v hv => by
 have hj : j < sz := by
  have := (List.getElem?_eq_some_iff.1 hv).1
  rw [hsz] at this
  exact this
 have := World.ownsRow.cells h (g := g) rfl (i * sz + j) v (by rw [rowC_get hsz d L i j hi hj]; exact hv)
 rw [Addr.add_lit, Nat.zero_add] at this
 exact this
theorem rowC_set (hsz : ∀ a, (vc a).length = sz) (x : α) : ∀ (L : List α) (i : Nat), i < L.length → rowC vc (L.set i x) = (rowC vc L).take (i * sz) ++ vc x ++ (rowC vc L).drop (i * sz + sz)
 | [], i, h => absurd h (by simp)
 | a :: r, 0, h => by
  rw [List.set_cons_zero, rowC_cons, rowC_cons, Nat.zero_mul, List.take_zero, List.nil_append, Nat.zero_add, List.drop_append, hsz]
  simp [hsz]
 | a :: r, i + 1, h => by
  rw [List.set_cons_succ, rowC_cons, rowC_set hsz x r i (by simpa using h), rowC_cons, Nat.succ_mul, List.take_append, List.drop_append, hsz]
  rw [List.take_of_length_le (l := vc a) (by rw [hsz]; omega), List.drop_of_length_le (l := vc a) (by rw [hsz]; omega)]
  rw [show i * sz + sz - sz = i * sz from by omega, show i * sz + sz + sz - sz = i * sz + sz from by omega]
  simp
theorem own_put (hsz : ∀ a, (vc a).length = sz) (h : W.ownsRow base e sz (.slice (some ⟨g, 0, none⟩) L.length cap) L.length (rowC vc L)) {i : Nat} (hi : i < L.length) (x : α) : (W.setCells g (i * sz) (vc x)).ownsRow base e sz (.slice (some ⟨g, 0, none⟩) (L.set i x).length cap) (L.set i x).length (rowC vc (L.set i x)) := by
 obtain ⟨cur, h1, h2, h3, h4, h5, h6⟩ := own_there h
 have hm : i * sz + sz ≤ L.length * sz := by
  have := Nat.mul_le_mul_right sz hi
  rw [Nat.succ_mul] at this
  exact this
 have hc : L.length * sz ≤ cur.size := by rw [h2]; exact Nat.mul_le_mul_right _ h3
 have hb := setCells_box (vc x) (i * sz) W cur h1 (by rw [hsz]; omega)
 refine ⟨by rw [rowC_length hsz], .inr ⟨g, cap, _, rfl, h5, hb, by rw [List.length_set]; exact h3, h4, ?_, ?_⟩⟩
 ·rw [← h2]
  simp [hsz]
  omega
 ·rw [rowC_set hsz x L i hi, ← h6, hsz, List.length_set]
  simp only [List.toList_toArray]
  rw [List.take_append, List.take_of_length_le (by simp [hsz]; omega)]
  congr 1
  ·congr 1
   rw [List.take_take, Nat.min_eq_left (by omega)]
  ·rw [List.drop_take]
   congr 1
   simp [hsz]
   omega
theorem own_cut (hsz : ∀ a, (vc a).length = sz) (h : W.ownsRow base e sz (.slice (some ⟨g, 0, none⟩) L.length cap) L.length (rowC vc L)) {k : Nat} (hk : k ≤ L.length) : W.ownsRow base e sz (.slice (some ⟨g, 0, none⟩) k cap) k (rowC vc (L.take k)) := by
 obtain ⟨cur, h1, h2, h3, h4, h5, h6⟩ := own_there h
 refine ⟨by rw [rowC_length hsz, List.length_take, Nat.min_eq_left hk], .inr ⟨g, cap, cur, rfl, h5, h1, by omega, h4, h2, ?_⟩⟩
 rw [← rowC_take hsz, ← h6, List.take_take, Nat.min_eq_left (Nat.mul_le_mul_right _ hk)]
theorem own_wipe {k : Nat} {xs zs : List Value} (h : W.ownsRow base e sz (.slice (some ⟨g, 0, none⟩) k cap) k xs) (hz : k * sz + zs.length ≤ cap * sz) : (W.setCells g (k * sz) zs).ownsRow base e sz (.slice (some ⟨g, 0, none⟩) k cap) k xs := by
 rcases h.2 with ⟨h0, _⟩ | ⟨g', cap', cur, h0, h1, h2, h3, h4, h5, h6⟩
 ·cases h0
 injection h0 with e1 _ e3
 injection e1 with e1
 injection e1 with e1
 subst e1; subst e3
 have hk : k * sz ≤ cap * sz := Nat.mul_le_mul_right _ h3
 have hb := setCells_box zs (k * sz) W cur h2 (by rw [h5]; exact hz)
 refine ⟨h.1, .inr ⟨g, cap, _, rfl, h1, hb, h3, h4, ?_, ?_⟩⟩
 ·rw [← h5]
  simp
  omega
 ·simp only [List.toList_toArray]
  rw [List.append_assoc, List.take_append, List.take_of_length_le (by simp; omega), ← h6]
  simp [List.length_take]
  have : min (k * sz) cur.size = k * sz := by omega
  simp [this]
end
theorem zero_one {cs : Array Value} (h : ∀ u ∈ cs, u.oneCell' = true) (n : Nat) : ∀ u ∈ (Builtin.zeroCells cs n).toList, u.oneCell' = true := fun u hu => by
 simp only [Builtin.zeroCells] at hu
 simp at hu
 obtain ⟨i, hi, rfl⟩ := hu
 rcases Nat.eq_zero_or_pos cs.size with h0 | h0
 ·rw [h0] at hi
  simp at hi
 ·have hm : i % cs.size < cs.size := Nat.mod_lt _ h0
  first
  | (rw [getElem!_pos cs (i % cs.size) hm]; exact h _ (Array.getElem_mem hm))
  | (simp [hm]; exact h _ (Array.getElem_mem hm))
theorem run_clear_rows {P : Program} (w : World) (t e ty : TypeId) (z : Value) (ht : P.underlying t = some (.slice e)) (hv : ∀ w, (zeroValue e).run P w = .ok z w) (h1 : ∀ u ∈ z.cells, u.oneCell' = true) (b o n c sz : Nat) (hs : z.cells.size = sz) (hc : w.there b o (n * sz)) :
  ∃ zs : List Value, zs.length = n * sz ∧ (Builtin.clear_ #[t] ty #[.slice (some ⟨b, o, none⟩) n c]).run P w = .ok (.tuple #[]) (w.setCells b o zs) := by
 rcases Nat.eq_zero_or_pos n with h0 | h0
 ·subst h0
  exact ⟨[], by simp, by simp [Builtin.clear_, run_underlying ht]; rfl⟩
 ·have hl : (Builtin.zeroCells z.cells n).toList.length = n * sz := by
   simp [Builtin.zeroCells, hs]
   try exact Nat.mul_comm _ _
  have hst := run_storeCells_cells (P := P) b o (Builtin.zeroCells z.cells n).toList 0 w (by rw [hl]; exact fun j hj => by simpa using (hc j hj).1) (by rw [hl]; exact fun j hj => by simpa using (hc j hj).2) (zero_one h1 n)
  simp only [Nat.add_zero] at hst
  obtain ⟨m, rfl⟩ : ∃ m, n = m + 1 := ⟨n - 1, by omega⟩
  exact ⟨_, hl, by simp [Builtin.clear_, run_underlying ht, hv, hst]⟩
theorem wpList_clear_rows {P : Program} {ops : Array Oper} {rest : List Oper} {o : Oper} {a : Act} {Q : Exit → Act → World → Prop} {w : World} {t e : TypeId} {z : Value} {b off n c sz : Nat} (ht : P.underlying t = some (.slice e)) (hv : ∀ w, (zeroValue e).run P w = .ok z w) (h1 : ∀ u ∈ z.cells, u.oneCell' = true) (hs : z.cells.size = sz)
  (s : Operand) (ho : o.op = .call { callee := .builtin .clear, args := #[s], argTypes := #[t] }) (hw : Region.wanted o (yielded ops a.tmps) = true) (hx : a.eval s = .slice (some ⟨b, off, none⟩) n c) (hc : w.there b off (n * sz))
  (h : ∀ zs : List Value, zs.length = n * sz → wpList P ops Q rest (a.put o.dst (.tuple #[])) (w.setCells b off zs)) : wpList P ops Q (o :: rest) a w :=
 wpList_step fun K hK => by
  rw [if_pos hw]
  obtain ⟨zs, hl, hr⟩ := run_clear_rows (P := P) w t e o.type z ht hv h1 b off n c sz hs hc
  unfold Oper.wp execOp
  simp only [ho, resolve, invoke, builtin, Sem.run_bind, Sem.run_pure, Result.andThen_ok, List.map_toArray, List.map_cons, List.map_nil, hx, hr]
  exact hK _ _ (h zs hl)
def IdxOf {α : Type} (p : α → Bool) (L : List α) (d : α) (i : Int) : Prop := (i = -1 ∧ ∀ j, j < L.length → p (L.getD j d) = false) ∨ ∃ m : Nat, i = (m : Int) ∧ m + 1 ≤ L.length ∧ p (L.getD m d) = true ∧ ∀ j, j < m → p (L.getD j d) = false
theorem rw_range {α : Type} {vc : α → List Value} {sz : Nat} (hsz : ∀ a, (vc a).length = sz) (d : α) (h0 : 0 < sz) {B : Nat} {ao : Option Addr} {cap : Nat} {L : List α} {w : World} (h : RwAt B sz (.slice ao L.length cap) L.length (rowC vc L) w) {i : Nat} (hi : i < L.length) : ∃ b off, ao = some ⟨b, off, none⟩ ∧ w.rangeAt b (off + i * sz) (vc (L.getD i d)) := by
 obtain ⟨b, off, e, hc⟩ := rowC_el hsz d h0 rfl h hi
 refine ⟨b, off, e, fun j v hv => ?_⟩
 have hj : j < sz := by
  have := (List.getElem?_eq_some_iff.1 hv).1
  rw [hsz] at this
  exact this
 exact hc j v hj hv
theorem idx47 {α : Type} (vc : α → List Value) (hsz : ∀ a, (vc a).length = 33) (d : α) (f : Nat) (cf : Array Value) (p : α → Bool) (L : List α) (v : Value) (w : World) (hL : RwAt w.heap.size 33 v L.length (rowC vc L) w) (ef : ∀ args w, (callFunc f args).run Tryz.prog w = .ok (.enter f args) w)
  (HF : Hid (∀ (x : α) W, Below w.heap.size w W → Calls Tryz.prog f (#[.agg (vc x).toArray] ++ cf) W fun e w' => e = .returned (.bool (p x)) ∧ Below W.heap.size W w')) :
  Calls Tryz.prog 47 #[v, .func (.func f) #[] cf] w fun e w' => ∃ i : Int, e = .returned (iw i) ∧ IdxOf p L d i ∧ Below w.heap.size w w' := by
 have HL : Hid (RwAt w.heap.size 33 v L.length (rowC vc L) w) := hL
 obtain ⟨ao, cap, rfl, -, hlc, hcm, -⟩ := hL
 have hL9 : L.length < 9223372036854775808 := by omega
 have HE : Hid (∀ W, Below w.heap.size w W → ∀ i, i < L.length → ∃ b off, ao = some ⟨b, off, none⟩ ∧ W.rangeAt b (off + i * 33) (vc (L.getD i d))) := fun W hW i hi => rw_range hsz d (by decide) (HL.out.on hW) hi
 clear hlc hcm HL
 have hi : ∀ x, (Tryz.prog.info? 99).map (·.size) = some (vc x).length := fun x => by rw [hsz]; kernel_rfl
 have HI : Hid (∀ x, (Tryz.prog.info? 99).map (·.size) = some (vc x).length) := hi
 clear hi
 go_enter Tryz.func47, Tryz.ntmps47
 go_wp2_with fail
 go_loopw [8] (fun i wr => Below w.heap.size w wr ∧ ∃ m : Nat, m ≤ L.length ∧ i = iw m ∧ Hid (∀ j, j < m → p (L.getD j d) = false)) (fun i _ => L.length - (intOf i).toNat)
 case atStart => exact ⟨Below.refl _ _, 0, Nat.zero_le _, rfl, fun j hj => absurd hj (by omega)⟩
 case round =>
  obtain ⟨hbr, m, hm, rfl, hy⟩ := hrel
  have HBr : Hid (Below w.heap.size w wr) := hbr
  by_cases hml : m < L.length
  ·obtain ⟨b, off, rfl, er⟩ := HE.out wr hbr m hml
   have ER : Hid _ := er
   have hml' : (m : Int) < L.length := by omega
   have hm9 : ¬ (m : Int) < 0 := by omega
   have HQ : Hid (m + 1 ≤ L.length) := hml
   obtain ⟨x, hx⟩ := xj (L.getD m d)
   rw [hx] at ER
   have CF : Hid (1 = 1 → _) := fun _ => HF.out x wr hbr
   obtain ⟨z, hz⟩ := xj (p x)
   rw [hz] at CF
   have HX : Hid (L.getD m d = x ∧ p x = z) := ⟨hx, hz⟩
   clear hz hx hbr er HE
   cases z
   ·go_wp2_with (refine wpList_load_mid rfl 99 _ rfl b (off + m * 33) rfl (vc x) _ ER.out Tryz.underlying99 rfl (HI.out x) ?_)
    refine (CF.out (by trivial)).mono ?_
    rintro e w1 ⟨rfl, hb1⟩
    have HB1 : Hid (Below w.heap.size w w1) := HBr.out.trans (hb1.mono HBr.out.size)
    clear hb1 CF ER
    go_wp2_with fail
    go_roundw
    case rel => exact ⟨HB1.out, m + 1, HQ.out, by go_num, fun j hj => by
     rcases Nat.lt_or_ge j m with h1 | h1
     ·exact hy.out j h1
     ·have : j = m := by omega
      subst this
      rw [HX.out.1]
      exact HX.out.2⟩
    case measure => simp [intOf]; omega
   ·go_wp2_with (refine wpList_load_mid rfl 99 _ rfl b (off + m * 33) rfl (vc x) _ ER.out Tryz.underlying99 rfl (HI.out x) ?_)
    refine (CF.out (by trivial)).mono ?_
    rintro e w1 ⟨rfl, hb1⟩
    have HB1 : Hid (Below w.heap.size w w1) := HBr.out.trans (hb1.mono HBr.out.size)
    clear hb1 CF ER
    go_wp2_with fail
    go_ret
    exact ⟨_, rfl, .inr ⟨m, rfl, HQ.out, by rw [HX.out.1]; exact HX.out.2, hy.out⟩, HB1.out⟩
  ·have hml' : ¬ (m : Int) < L.length := by omega
   have HM : Hid (m = L.length) := by show _ = _; omega
   clear hbr
   go_wp2_with fail
   go_ret
   exact ⟨_, rfl, .inl ⟨rfl, fun j hj => hy.out j (by rw [HM.out]; exact hj)⟩, HBr.out⟩
structure Df119 {α : Type} (vc : α → List Value) (p : α → Bool) (L : List α) (base g cap : Nat) (w : World) (i j : Nat) (S : List α) (W : World) : Prop where
 len : S.length = L.length
 tk : S.take i = (L.take j).filter fun x => !p x
 dr : S.drop j = L.drop j
 own : W.ownsRow base 99 33 (.slice (some ⟨g, 0, none⟩) S.length cap) S.length (rowC vc S)
 kp : Kept (fun k => k = g) w W
 ij : i < j
 jl : j ≤ L.length
theorem Df119.on {α : Type} {vc : α → List Value} {p : α → Bool} {L S : List α} {base g cap i j : Nat} {w W W' : World} (h : Df119 vc p L base g cap w i j S W) (hb : Below W.heap.size W W') : Df119 vc p L base g cap w i j S W' :=
 ⟨h.len, h.tk, h.dr, own_on h.own hb, h.kp.trans (Kept.of_below (F := fun _ => False) hb) (fun _ e => e.elim), h.ij, h.jl⟩
theorem take_filter_succ {α : Type} {L : List α} {d : α} {m : Nat} (q : α → Bool) (h : m < L.length) : (L.take (m + 1)).filter q = (L.take m).filter q ++ (if q (L.getD m d) then [L.getD m d] else []) := by
 rw [List.take_add_one, List.getElem?_eq_getElem h, List.filter_append]
 have e : L.getD m d = L[m] := by simp [List.getD, h]
 rw [e]
 congr 1
 cases hq : q L[m] <;> simp [hq]
theorem Df119.skip {α : Type} {vc : α → List Value} {p : α → Bool} {L S : List α} {base g cap i j : Nat} {w W : World} {d : α} (h : Df119 vc p L base g cap w i j S W) (hj : j < L.length) (hp : p (L.getD j d) = true) : Df119 vc p L base g cap w i (j + 1) S W :=
 ⟨h.len, by rw [take_filter_succ (d := d) _ hj, hp, h.tk]; simp, by rw [← List.drop_drop, ← List.drop_drop, h.dr], h.own, h.kp, by have := h.ij; omega, hj⟩
theorem Df119.put {α : Type} {vc : α → List Value} (hsz : ∀ a, (vc a).length = 33) {p : α → Bool} {L S : List α} {base g cap i j : Nat} {w W : World} {d : α} (h : Df119 vc p L base g cap w i j S W) (hj : j < L.length) (hp : p (L.getD j d) = false) : Df119 vc p L base g cap w (i + 1) (j + 1) (S.set i (L.getD j d)) (W.setCells g (i * 33) (vc (L.getD j d))) := by
 have h1 := h.ij
 have h2 := h.len
 refine ⟨by rw [List.length_set]; exact h.len, ?_, ?_, own_put hsz h.own (by omega) _, h.kp.trans (setCells_kept g _ _ W) (fun _ e => .inl e), by omega, hj⟩
 ·rw [take_filter_succ (d := d) _ hj, hp, ← h.tk]
  have hi : i < S.length := by omega
  rw [List.take_add_one, List.take_set, List.set_eq_of_length_le (by simp; omega)]
  simp [List.getElem?_set, hi]
 ·have hd : ∀ a, (S.set i a).drop (j + 1) = S.drop (j + 1) := fun a => by rw [List.drop_set, if_pos (by omega)]
  rw [hd, ← List.drop_drop, ← List.drop_drop, h.dr]
theorem Df119.get {α : Type} {vc : α → List Value} {p : α → Bool} {L S : List α} {base g cap i j : Nat} {w W : World} (d : α) (h : Df119 vc p L base g cap w i j S W) (hj : j < L.length) : S.getD j d = L.getD j d := by
 have := congrArg (fun l => l[0]?) h.dr
 simp only [List.getElem?_drop, Nat.add_zero] at this
 simp only [List.getD, this]
theorem filter_all {α : Type} {L : List α} {p : α → Bool} {d : α} (h : ∀ j, j < L.length → p (L.getD j d) = false) : (L.filter fun x => !p x) = L := by
 rw [List.filter_eq_self]
 intro x hx
 obtain ⟨j, hj, rfl⟩ := List.mem_iff_getElem.1 hx
 have := h j hj
 simp [List.getD, hj] at this
 simp [this]
theorem Df119.first {α : Type} {vc : α → List Value} {p : α → Bool} {L : List α} {base g cap m : Nat} {w W : World} {d : α} (h : W.ownsRow base 99 33 (.slice (some ⟨g, 0, none⟩) L.length cap) L.length (rowC vc L)) (hk : Kept (fun k => k = g) w W) (hm : m + 1 ≤ L.length) (hp : p (L.getD m d) = true) (ha : ∀ j, j < m → p (L.getD j d) = false) : Df119 vc p L base g cap w m (m + 1) L W := by
 refine ⟨rfl, ?_, rfl, h, hk, by omega, hm⟩
 rw [take_filter_succ (d := d) _ hm, hp]
 simp only [Bool.not_true, Bool.false_eq_true, if_false, List.append_nil]
 refine (List.filter_eq_self.2 ?_).symm
 intro x hx
 obtain ⟨j, hj, rfl⟩ := List.mem_iff_getElem.1 hx
 rw [List.length_take] at hj
 have := ha j (by omega)
 rw [List.getElem_take]
 simpa [List.getD, show j < L.length by omega] using this
theorem zv99 : ∀ w, (zeroValue 99).run Tryz.prog w = .ok (((Tryz.prog.info? 99).bind TypeInfo.zero).getD undef) w := fun w => rfl
theorem delf119 {α : Type} (vc : α → List Value) (hsz : ∀ a, (vc a).length = 33) (h1c : ∀ a, ∀ u ∈ vc a, u.oneCell' = true) (d : α) (f : Nat) (cf : Array Value) (p : α → Bool) (base : Nat) (L : List α) (v : Value) (w : World) (hL : w.ownsRow base 99 33 v L.length (rowC vc L)) (ef : ∀ args w, (callFunc f args).run Tryz.prog w = .ok (.enter f args) w)
  (HF : Hid (∀ (x : α) W, Kept (fun k => v.ownBlock = some k) w W → Calls Tryz.prog f (#[.agg (vc x).toArray] ++ cf) W fun e w' => e = .returned (.bool (p x)) ∧ Below W.heap.size W w')) :
  Calls Tryz.prog 119 #[v, .func (.func f) #[] cf] w fun e w' => ∃ v', e = .returned v' ∧ w'.ownsRow base 99 33 v' (L.filter fun x => !p x).length (rowC vc (L.filter fun x => !p x)) ∧ v'.ownBlock = v.ownBlock ∧ Kept (fun k => v.ownBlock = some k) w w' := by
 have C : Hid (1 = 1 → Calls Tryz.prog 47 #[v, .func (.func f) #[] cf] w fun e w' => ∃ i : Int, e = .returned (iw i) ∧ IdxOf p L d i ∧ Below w.heap.size w w') := fun _ => idx47 vc hsz d f cf p L v w (rw_own hL) ef (fun x W hb => HF.out x W (Kept.of_below hb))
 have HL : Hid (w.ownsRow base 99 33 v L.length (rowC vc L)) := hL
 obtain ⟨ao, cap, rfl, -, hlc, hcm, -⟩ := rw_own hL
 clear hL
 go_enter Tryz.func119, Tryz.ntmps119
 go_wp2_with fail
 refine (C.out (by trivial)).mono ?_
 rintro e w1 ⟨i, rfl, hi, hb1⟩
 have HL1 : Hid (w1.ownsRow base 99 33 (.slice ao L.length cap) L.length (rowC vc L)) := own_on HL.out hb1
 have HB1 : Hid (Below w.heap.size w w1) := hb1
 clear C HL hb1
 rcases hi with ⟨rfl, hall⟩ | ⟨m, rfl, hm, hp, ha⟩
 ·have HE : Hid ((L.filter fun x => !p x) = L) := filter_all hall
  clear hall HF
  go_wp2_with fail
  go_ret
  rw [HE.out]
  exact ⟨_, rfl, HL1.out, rfl, Kept.of_below HB1.out⟩
 ·obtain ⟨g, rfl⟩ : ∃ g, ao = some ⟨g, 0, none⟩ := by
   rcases HL1.out.2 with ⟨e, h0⟩ | ⟨g, cap', cur, e, -⟩
   ·omega
   ·injection e with e
    exact ⟨g, e⟩
  have HD : Hid (Df119 vc p L base g cap w m (m + 1) L w1) := Df119.first HL1.out (Kept.of_below HB1.out) hm hp ha
  have HF2 : Hid (∀ (x : α) W, Kept (fun k => k = g) w W → Calls Tryz.prog f (#[.agg (vc x).toArray] ++ cf) W fun e w' => e = .returned (.bool (p x)) ∧ Below W.heap.size W w') := fun x W hk => HF.out x W (hk.mono (fun k e => by rw [e]; rfl))
  have hm1 : ¬ ((m : Int) == -1) = true := by simp
  have hm2 : ((m : Int) == -1) = false := by simp
  clear HF HL1 HB1 hp ha hm1
  go_wp2_with fail
  have hcap : L.length < 9223372036854775808 := by omega
  have hi : Hid (∀ x, (Tryz.prog.info? 99).map (·.size) = some (vc x).length) := fun x => by rw [hsz]; kernel_rfl
  have hi2 : Hid (∀ x, (Tryz.prog.info? 99).map (·.size) = some (vc x).toArray.size) := fun x => by rw [List.size_toArray, hsz]; kernel_rfl
  have hal : Hid (∀ x, (vc x).toArray.all (·.oneCell') = true) := fun x => by
   rw [Array.all_eq_true']
   intro u hu
   exact h1c x u (by simpa using hu)
  have hs2 : Hid (∀ x, (vc x).toArray.size = 33) := fun x => by rw [List.size_toArray, hsz]
  go_loopw [6, 5] (fun jv iv wr => ∃ (j i : Nat) (S : List α), jv = iw j ∧ iv = iw i ∧ j ≤ L.length ∧ Hid (Df119 vc p L base g cap w i j S wr)) (fun jv _ _ => L.length - (intOf jv).toNat)
  case atStart => exact ⟨m + 1, m, L, by go_num, rfl, hm, HD.out⟩
  case round =>
   obtain ⟨j, i, S, rfl, rfl, hj, HE⟩ := hrel
   clear HD hm2 hm
   have hij : i < j := HE.out.ij
   by_cases hjl : j < L.length
   ·have hjl1 : (j : Int) < L.length := by omega
    have HQ : Hid (j + 1 ≤ L.length) := hjl
    obtain ⟨x, hx⟩ := xj (L.getD j d)
    have ER : Hid (wr.rangeAt g (j * 33) (vc x)) := by
     have e := own_range hsz d HE.out.own (i := j) (by rw [HE.out.len]; exact hjl)
     rw [HE.out.get d hjl, hx] at e
     exact e
    obtain ⟨W2, hW2⟩ := xj (wr.alloc (.cells (vc x).toArray 99))
    have H2 : Hid (Df119 vc p L base g cap w i j S W2) := by rw [← hW2]; exact HE.out.on (al _)
    have X2 : Hid (W2.heap[wr.heap.size]? = some (.cells (vc x).toArray 99 (0, 0))) := by rw [← hW2]; exact heap_alloc_new wr _
    have CF : Hid (1 = 1 → _) := fun _ => HF2.out x W2 H2.out.kp
    obtain ⟨z, hz⟩ := xj (p x)
    rw [hz] at CF
    have HX : Hid (L.getD j d = x ∧ p x = z) := ⟨hx, hz⟩
    clear hz hx HE
    have hi0 : ¬ (j : Int) < 0 := by omega
    have hi1 : ¬ (i : Int) < 0 := by omega
    have hil1 : (i : Int) < L.length := by omega
    cases z
    ·have HS : Hid _ := fun W3 (h3 : Df119 vc p L base g cap w i j S W3) => h3.put hsz (d := d) HQ.out (by rw [HX.out.1]; exact HX.out.2)
     rw [HX.out.1] at HS
     go_wp2_with (first
     | (refine wpList_load_mid rfl 99 _ rfl g (j * 33) rfl (vc x) _ ER.out Tryz.underlying99 rfl (hi.out x) ?_)
     | (refine wpList_store_row rfl 99 _ _ rfl wr.heap.size (vc x).toArray rfl rfl 99 _ (heap_alloc_new wr _) (hi2.out x) (hs2.out x).symm (hal.out x) ?_; rewrite [World.setRow_alloc_new, hW2])
     | (refine wpList_load_row rfl 99 _ rfl wr.heap.size rfl 99 _ (0, 0) _ X2.out Tryz.underlying99 rfl (hi2.out x) ?_))
     refine (CF.out (by trivial)).mono ?_
     rintro e w3 ⟨rfl, hb3⟩
     have H3 : Hid (Df119 vc p L base g cap w i j S w3) := H2.out.on hb3
     have X3 : Hid (w3.heap[wr.heap.size]? = some (.cells (vc x).toArray 99 (0, 0))) := by show _ = _; rw [hb3.block _ (lt_blk X2.out)]; exact X2.out
     have T3 : Hid (w3.there g (i * 33) (vc x).toArray.size) := by
      obtain ⟨cur, e1, e2, e3, -⟩ := own_there H3.out.own
      refine there_box e1 ?_
      rw [hs2.out, e2]
      have e4 := H3.out.len
      have : (i + 1) * 33 ≤ cap * 33 := Nat.mul_le_mul_right _ (by omega)
      rw [Nat.succ_mul] at this
      exact this
     have H4 : Hid _ := HS.out _ H3.out
     obtain ⟨W4, hW4⟩ := xj (w3.setCells g (i * 33) (vc x))
     rw [hW4] at H4
     clear hb3 H2 X2 CF ER HS H3 hW2
     go_wp2_with (first
      | (refine wpList_load_row rfl 99 _ rfl wr.heap.size rfl 99 _ (0, 0) _ X3.out Tryz.underlying99 rfl (hi2.out x) ?_)
      | (refine wpList_store_mid rfl 99 _ _ rfl g (i * 33) (vc x).toArray rfl rfl T3.out (hi2.out x) (hal.out x) ?_; rewrite [List.toList_toArray, hW4]))
     go_roundw
     case rel => exact ⟨j + 1, i + 1, _, by go_num, by go_num, HQ.out, H4.out⟩
     case measure => simp [intOf]; omega
    ·have HS : Hid _ := H2.out.skip (d := d) HQ.out (by rw [HX.out.1]; exact HX.out.2)
     go_wp2_with (first
     | (refine wpList_load_mid rfl 99 _ rfl g (j * 33) rfl (vc x) _ ER.out Tryz.underlying99 rfl (hi.out x) ?_)
     | (refine wpList_store_row rfl 99 _ _ rfl wr.heap.size (vc x).toArray rfl rfl 99 _ (heap_alloc_new wr _) (hi2.out x) (hs2.out x).symm (hal.out x) ?_; rewrite [World.setRow_alloc_new, hW2])
     | (refine wpList_load_row rfl 99 _ rfl wr.heap.size rfl 99 _ (0, 0) _ X2.out Tryz.underlying99 rfl (hi2.out x) ?_))
     refine (CF.out (by trivial)).mono ?_
     rintro e w3 ⟨rfl, hb3⟩
     have H3 : Hid (Df119 vc p L base g cap w i (j + 1) S w3) := HS.out.on hb3
     clear hb3 H2 X2 CF ER HS hW2
     go_wp2_with fail
     go_roundw
     case rel => exact ⟨j + 1, i, S, by go_num, rfl, HQ.out, H3.out⟩
     case measure => simp [intOf]; omega
   ·have hjl1 : ¬ (j : Int) < L.length := by omega
    have hje : j = L.length := by omega
    have hi1 : ¬ (i : Int) < 0 := by omega
    have hil : (i : Int) ≤ L.length := by omega
    have hicap : ¬ cap = i := by omega
    have hic2 : (i : Int) ≤ cap := by omega
    have T3 : Hid (wr.there g (i * 33) ((L.length - i) * 33)) := by
     obtain ⟨cur, e1, e2, e3, -⟩ := own_there HE.out.own
     refine there_box e1 ?_
     rw [e2, ← Nat.add_mul]
     exact Nat.mul_le_mul_right _ (by omega)
    have HK : Hid (∀ zs : List Value, zs.length = (L.length - i) * 33 → (wr.setCells g (i * 33) zs).ownsRow base 99 33 (.slice (some ⟨g, 0, none⟩) i cap) i (rowC vc (L.filter fun x => !p x)) ∧ (L.filter fun x => !p x).length = i ∧ Kept (fun k => k = g) w (wr.setCells g (i * 33) zs)) := fun zs hz => by
     have e0 := HE.out.tk
     rw [hje, List.take_of_length_le (Nat.le_refl _)] at e0
     have e1 := HE.out.len
     have e2 : (L.filter fun x => !p x).length = i := by rw [← e0, List.length_take]; omega
     have e3 := own_cut hsz HE.out.own (k := i) (by omega)
     rw [e0] at e3
     refine ⟨own_wipe e3 ?_, e2, HE.out.kp.trans (setCells_kept g zs _ wr) (fun _ e => .inl e)⟩
     rw [hz, ← Nat.add_mul]
     exact Nat.mul_le_mul_right _ (by omega)
    clear HE HF2 hi hi2 hal hs2
    have z1 : Hid (∀ u ∈ (((Tryz.prog.info? 99).bind TypeInfo.zero).getD undef).cells, u.oneCell' = true) := by
     show ∀ u ∈ _, _
     intro u hu
     have hz : (((Tryz.prog.info? 99).bind TypeInfo.zero).getD undef).cells.all (·.oneCell') = true := by kernel_rfl
     exact (Array.all_eq_true'.1 hz) u hu
    have z2 : Hid ((((Tryz.prog.info? 99).bind TypeInfo.zero).getD undef).cells.size = 33) := by show _ = _; kernel_rfl
    go_wp2_with (refine wpList_clear_rows Tryz.underlying75 zv99 z1.out z2.out (.tmp 38) rfl rfl rfl T3.out ?_; intro zs hzs; have HZ : Hid _ := HK.out zs hzs; clear hzs HK)
    go_ret
    exact ⟨_, rfl, by rw [HZ.out.2.1]; exact HZ.out.1, rfl, HZ.out.2.2.mono (fun k e => by rw [e]; rfl)⟩
theorem own_shift {α : Type} {vc : α → List Value} {sz : Nat} {base e g cap : Nat} {L : List α} {W : World} (hsz : ∀ a, (vc a).length = sz) (h : W.ownsRow base e sz (.slice (some ⟨g, 0, none⟩) L.length cap) L.length (rowC vc L)) {i : Nat} (hi : i < L.length) :
  (W.setCells g (i * sz) (rowC vc (L.drop (i + 1)))).ownsRow base e sz (.slice (some ⟨g, 0, none⟩) (L.length - 1) cap) (L.length - 1) (rowC vc (L.eraseIdx i)) := by
 obtain ⟨cur, h1, h2, h3, h4, h5, h6⟩ := own_there h
 have hl : (rowC vc (L.drop (i + 1))).length = (L.length - (i + 1)) * sz := by rw [rowC_length hsz, List.length_drop]
 have hm : i * sz + (L.length - (i + 1)) * sz = (L.length - 1) * sz := by rw [← Nat.add_mul]; congr 1; omega
 have hc : (L.length - 1) * sz ≤ cur.size := by rw [h2]; exact Nat.mul_le_mul_right _ (by omega)
 have hlc : L.length * sz ≤ cur.size := by rw [h2]; exact Nat.mul_le_mul_right _ h3
 have his : i * sz ≤ L.length * sz := Nat.mul_le_mul_right _ (by omega)
 have hb := setCells_box (rowC vc (L.drop (i + 1))) (i * sz) W cur h1 (by rw [hl, hm]; exact hc)
 have hel : (L.eraseIdx i).length = L.length - 1 := by rw [List.length_eraseIdx]; simp [hi]
 refine ⟨by rw [rowC_length hsz, hel], .inr ⟨g, cap, _, rfl, h5, hb, by omega, h4, ?_, ?_⟩⟩
 ·rw [← h2]
  simp [hl]
  omega
 ·rw [List.eraseIdx_eq_take_drop_succ, rowC_append, ← rowC_take hsz, ← h6]
  rw [List.take_append, List.take_of_length_le (by simp [hl]; omega)]
  rw [List.take_take, Nat.min_eq_left his]
  rw [List.append_right_eq_self.2]
  rw [List.take_eq_nil_iff]
  left
  simp [hl]
  omega
theorem delete50 {α : Type} (vc : α → List Value) (hsz : ∀ a, (vc a).length = 33) (h1c : ∀ a, ∀ u ∈ vc a, u.oneCell' = true) (d : α) (base : Nat) (L : List α) (v : Value) (w : World) (hL : w.ownsRow base 99 33 v L.length (rowC vc L)) (i : Nat) (hi : i < L.length) :
  Calls Tryz.prog 50 #[v, iw (i : Int), iw ((i : Int) + 1)] w fun e w' => ∃ v', e = .returned v' ∧ w'.ownsRow base 99 33 v' (L.length - 1) (rowC vc (L.eraseIdx i)) ∧ v'.ownBlock = v.ownBlock ∧ Kept (fun k => v.ownBlock = some k) w w' := by
 obtain ⟨ao, cap, rfl, -, hlc, hcm, -⟩ := rw_own hL
 obtain ⟨g, rfl⟩ : ∃ g, ao = some ⟨g, 0, none⟩ := by
  rcases hL.2 with ⟨e, h0⟩ | ⟨g, cap', cur, e, -⟩
  ·omega
  ·injection e with e
   exact ⟨g, e⟩
 obtain ⟨i9, z9, jin, j1, j2, j3, j4⟩ := info99
 have HN : Hid ((rowC vc (L.drop (i + 1))).length = (L.length - (i + 1)) * 33) := by show _ = _; rw [rowC_length hsz, List.length_drop]
 have HO : Hid (∀ u ∈ rowC vc (L.drop (i + 1)), u.oneCell' = true) := rowC_cells vc h1c _
 have HR : Hid (∀ j u, (rowC vc (L.drop (i + 1)))[j]? = some u → w.drew.cell? ⟨g, (i + 1) * 33 + j, none⟩ = some u) := fun j u hj => by
  have e := World.ownsRow.cells hL.drew (g := g) rfl ((i + 1) * 33 + j) u (by rw [← rowC_drop hsz, List.getElem?_drop] at hj; exact hj)
  rw [Addr.add_lit, Nat.zero_add] at e
  exact e
 have HS : Hid (∀ j, j < (rowC vc (L.drop (i + 1))).length → (w.drew.cell? ⟨g, 0 + i * 33 + j, none⟩).isSome = true ∧ w.drew.frozen? ⟨g, 0 + i * 33 + j, none⟩ = false) := fun j hj => by
  obtain ⟨cur, e1, e2, e3, -⟩ := own_there hL.drew
  rw [HN.out] at hj
  have hx : (L.length - (i + 1)) * 33 + i * 33 ≤ cap * 33 := by rw [← Nat.add_mul]; exact Nat.mul_le_mul_right _ (by omega)
  have := there_box (o := i * 33) (n := (L.length - (i + 1)) * 33) e1 (by rw [e2]; omega) j hj
  rw [Nat.zero_add]
  exact this
 have HW : Hid ((w.drew.setCells g (i * 33) (rowC vc (L.drop (i + 1)))).ownsRow base 99 33 (.slice (some ⟨g, 0, none⟩) (L.length - 1) cap) (L.length - 1) (rowC vc (L.eraseIdx i))) := own_shift hsz hL.drew hi
 have HK : Hid (Kept (fun k => k = g) w (w.drew.setCells g (i * 33) (rowC vc (L.drop (i + 1))))) := (Kept.of_below (Below.refl _ _).drew).trans (setCells_kept g _ _ _) (fun _ e => .inl e)
 have a1 : ¬ (i : Int) < 0 := by omega
 have a2 : (i : Int) ≤ (i : Int) + 1 := by omega
 have a3 : (i : Int) + 1 ≤ L.length := by omega
 have a4 : (L.length : Int) ≤ cap := by omega
 have a5 : (i : Int) ≤ cap := by omega
 have a6 : ((i : Int) == (i : Int) + 1) = false := by simp; omega
 have a7 : ¬ (i : Int) + 1 < 0 := by omega
 have a9 : (0 : Int) ≤ (i : Int) + 1 := by omega
 have a8 : (L.length : Int) < 9223372036854775808 := by omega
 have hK0 : Hid (∀ zs : List Value, zs.length = 1 * 33 → ((w.drew.setCells g (i * 33) (rowC vc (L.drop (i + 1)))).setCells g ((L.length - 1) * 33) zs).ownsRow base 99 33 (.slice (some ⟨g, 0, none⟩) (L.length - 1) cap) (L.length - 1) (rowC vc (L.eraseIdx i)) ∧ Kept (fun k => k = g) w ((w.drew.setCells g (i * 33) (rowC vc (L.drop (i + 1)))).setCells g ((L.length - 1) * 33) zs)) := fun zs hz => by
  refine ⟨own_wipe HW.out ?_, HK.out.trans (setCells_kept g zs _ _) (fun _ e => .inl e)⟩
  rw [hz, ← Nat.add_mul]
  exact Nat.mul_le_mul_right _ (by omega)
 have T3 : Hid ((w.drew.setCells g (i * 33) (rowC vc (L.drop (i + 1)))).there g ((L.length - 1) * 33) (1 * 33)) := by
  rcases HW.out.2 with ⟨e, _⟩ | ⟨g', cap', cur, e, -, e1, -, -, e2, -⟩
  ·cases e
  ·injection e with e _ e3
   injection e with e
   injection e with e
   subst e
   subst e3
   refine there_box e1 ?_
   rw [e2, ← Nat.add_mul]
   exact Nat.mul_le_mul_right _ (by omega)
 have z1 : Hid (∀ u ∈ (((Tryz.prog.info? 99).bind TypeInfo.zero).getD undef).cells, u.oneCell' = true) := by
  show ∀ u ∈ _, _
  intro u hu
  have hz : (((Tryz.prog.info? 99).bind TypeInfo.zero).getD undef).cells.all (·.oneCell') = true := by kernel_rfl
  exact (Array.all_eq_true'.1 hz) u hu
 have z2 : Hid ((((Tryz.prog.info? 99).bind TypeInfo.zero).getD undef).cells.size = 33) := by show _ = _; kernel_rfl
 clear hL
 obtain ⟨W2, hW2⟩ := xj (w.drew.setCells g (i * 33) (rowC vc (L.drop (i + 1))))
 rw [hW2] at T3 hK0
 have HW2 : Hid (w.drew.setCells g (0 + i * 33) (rowC vc (L.drop (i + 1))) = W2) := by show _ = _; rw [Nat.zero_add]; exact hW2
 have b1 : ((L.length - 1 : Nat) : Int) ≤ L.length := by omega
 have b2 : ¬ ((L.length - 1 : Nat) : Int) < 0 := by omega
 have b3 : i + (L.length - (i + 1)) = L.length - 1 := by omega
 have b4 : L.length - (L.length - 1) = 1 := by omega
 have b5 : ¬ cap = L.length - 1 := by omega
 clear HW HK hW2
 by_cases hc0 : cap = i + 1
 ·subst hc0
  go_enter Tryz.func50, Tryz.ntmps50
  go_upto_region 5 with fail
  refine wp_region_held_drew (S := (fun _ => True)) (by kernel_rfl) trivial (fun hHeld => ?_)
  refine tq 0 ?_
  refine tq 1 ?_
  refine tq 2 ?_
  refine tq 3 ?_
  refine tq 4 ?_
  refine tq 5 ?_
  refine rd 6 (fun K hK => ?_)
  refine step_append_room rfl (.tmp 22) (.tmp 25) 75 rfl 99 i9 33 Tryz.underlying75 jin j2 g 0 i (i + 1) (by simp [Act.eval, Act.put]) ⟨g, 0, none⟩ (L.length - (i + 1)) 0 (rowC vc (L.drop (i + 1))) (by simp [Act.eval, Act.put]; omega) HN.out (fun j u hj => by have := (List.getElem?_eq_some_iff.1 hj).1; rw [HN.out] at this; omega) HO.out (by omega) HS.out ?_
  rw [HW2.out, b3]
  refine kj hK trivial (fun hHeld => ?_)
  clear hK K
  refine tq 7 ?_
  refine wpAnyH_done (by kernel_rfl) ?_ _
  go_wp2_with (refine wpList_clear_rows Tryz.underlying75 zv99 z1.out z2.out (.tmp 31) rfl rfl rfl T3.out ?_; intro zs hzs; have HZ : Hid _ := hK0.out zs hzs; clear hzs hK0)
  go_ret
  exact ⟨_, rfl, HZ.out.1, rfl, HZ.out.2.mono (fun k e => by rw [e]; rfl)⟩
 ·go_enter Tryz.func50, Tryz.ntmps50
  go_upto_region 5 with fail
  refine wp_region_held_drew (S := (fun _ => True)) (by kernel_rfl) trivial (fun hHeld => ?_)
  refine tq 0 ?_
  refine tq 1 ?_
  refine tq 2 ?_
  refine tq 3 ?_
  refine tq 4 ?_
  refine tq 5 ?_
  refine rd 6 (fun K hK => ?_)
  refine step_append_room rfl (.tmp 22) (.tmp 25) 75 rfl 99 i9 33 Tryz.underlying75 jin j2 g 0 i cap (by simp [Act.eval, Act.put]) ⟨g, (i + 1) * 33, none⟩ (L.length - (i + 1)) (cap - (i + 1)) (rowC vc (L.drop (i + 1))) (by simp [Act.eval, Act.put]) HN.out (fun j u hj => by rw [Addr.add_lit]; exact HR.out j u hj) HO.out (by omega) HS.out ?_
  rw [HW2.out, b3]
  refine kj hK trivial (fun hHeld => ?_)
  clear hK K
  refine tq 7 ?_
  refine wpAnyH_done (by kernel_rfl) ?_ _
  go_wp2_with (refine wpList_clear_rows Tryz.underlying75 zv99 z1.out z2.out (.tmp 31) rfl rfl rfl T3.out ?_; intro zs hzs; have HZ : Hid _ := hK0.out zs hzs; clear hzs hK0)
  go_ret
  exact ⟨_, rfl, HZ.out.1, rfl, HZ.out.2.mono (fun k e => by rw [e]; rfl)⟩
end Go.Proofs.YtkdkgdollmmcnaaGreat
