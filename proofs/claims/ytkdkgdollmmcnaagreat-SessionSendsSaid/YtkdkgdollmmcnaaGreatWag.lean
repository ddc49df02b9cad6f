import Derived.Laws.MakeOwn
import Derived.Test.YtkdkgdollmmcnaaGreatWaf
set_option maxHeartbeats 4000000
set_option maxRecDepth 100000
set_option linter.unusedVariables false
set_option linter.unusedSimpArgs false
namespace Go.Proofs.YtkdkgdollmmcnaaGreat.Pla
open Go.RowKit Go.Sort
theorem step_append_rw {P : Program} {base t e size bytes B n m : Nat} {v vx : Value} {xs cs : List Value} {i : TypeInfo} {z : Value} {ops : Array Oper} {o : Oper} {a : Act} {K : Act → World → Prop} {Q : Exit → Act → World → Prop} {E : Prop} {w : World} (H : Ow base e size v n xs B vx m cs w)
  (ht : P.underlying t = some (.slice e)) (hi : P.info? e = some i) (hz : i.zero = some z) (hsize : i.size = size) (hby : i.bytes = bytes) (hzs : z.cells.size = size) (hsz : 0 < size) (hb : bytes ≤ 1000)
  (s x : Operand) (ho : o.op = .call { callee := .builtin .append, args := #[s, x], argTypes := #[t, t] }) (hw : Region.wanted o (yielded ops a.tmps) = true) (hs : a.eval s = v) (hx : a.eval x = vx)
  (h : ∀ v' w', w'.ownsRow base e size v' (n + m) (xs ++ cs) → w.grownBy w' v.ownBlock → (v'.ownBlock = v.ownBlock ∨ v'.ownBlock = some w.heap.size) → K (a.put o.dst v') w') : if Region.wanted o (yielded ops a.tmps) = true then Oper.wp P o a w K Q else E := by
 rw [if_pos hw]
 obtain ⟨v', w', hr, h2, h3, h4⟩ := run_append_rw (ty := o.type) ht hi hz hsize hby hzs hsz hb H
 unfold Oper.wp execOp
 simp only [ho, resolve, invoke, builtin, Sem.run_bind, Sem.run_pure, Result.andThen_ok, List.map_toArray, List.map_cons, List.map_nil, hs, hx, hr]
 exact h v' w' h2 h3 h4
end Go.Proofs.YtkdkgdollmmcnaaGreat.Pla
namespace Go.Proofs.YtkdkgdollmmcnaaGreat
open Go.RowKit Go.Sort
theorem Ow.drew {base e size B n m : Nat} {v vx : Value} {xs cs : List Value} {w : World} (h : Ow base e size v n xs B vx m cs w) : Ow base e size v n xs B vx m cs w.drew := ⟨h.own.drew, RwAt.on h.new (Below.refl _ _).drew, h.one, h.size, h.len⟩
end Go.Proofs.YtkdkgdollmmcnaaGreat
namespace Go.Proofs.YtkdkgdollmmcnaaGreat.Pla
open Go.RowKit Go.Sort
def rowsF (l : List Wr) (n : Int) (N : Nat) : List (List Wr) := (List.range N).map (fun k : Nat => ownF l n (k : Int))
theorem rows_len (l : List Wr) (n : Int) (N : Nat) : (rowsF l n N).length = N := by simp [rowsF]
theorem rows_get (l : List Wr) (n : Int) (N : Nat) {k : Nat} (h : k < N) : (rowsF l n N).getD k [] = ownF l n (k : Int) := by simp [rowsF, List.getD, h]
theorem rows_hit {l : List Wr} {n : Int} {N m k : Nat} (h : m < l.length) (hk : k < N) (hs : shardF (l.getD m dw).key n = ((k : Int), 0)) : rowsF (l.take (m + 1)) n N = (rowsF (l.take m) n N).set k ((rowsF (l.take m) n N).getD k [] ++ [l.getD m dw]) := by
 apply List.ext_getElem
 ·rw [List.length_set, rows_len, rows_len]
 ·intro j h1 h2
  rw [rows_len] at h1
  rw [List.getElem_set]
  have e : ∀ (q : List Wr), (rowsF q n N)[j]'(by rw [rows_len]; exact h1) = ownF q n (j : Int) := fun q => by simp [rowsF]
  rw [e, e, own_step h]
  by_cases hkj : k = j
  ·subst hkj
   rw [if_pos rfl, if_pos hs, rows_get _ _ _ hk]
  ·rw [if_neg hkj, if_neg (fun h9 => hkj (by rw [hs] at h9; injection h9 with h9; omega)), List.append_nil]
theorem rows_miss {l : List Wr} {n : Int} {N m : Nat} (h : m < l.length) (hs : (shardF (l.getD m dw).key n).2 ≠ 0) : rowsF (l.take (m + 1)) n N = rowsF (l.take m) n N := by
 apply List.ext_getElem
 ·rw [rows_len, rows_len]
 ·intro j h1 h2
  rw [rows_len] at h1
  have e : ∀ (q : List Wr), (rowsF q n N)[j]'(by rw [rows_len]; exact h1) = ownF q n (j : Int) := fun q => by simp [rowsF]
  rw [e, e, own_step h, if_neg (fun h9 => hs (by rw [h9])), List.append_nil]
theorem made_nil (N : Nat) : madeCells (Value.slice none 0 0).cells (N * 1) = (List.replicate N nv).toArray := by
 apply Array.ext'
 apply List.ext_getElem
 ·simp [madeCells]
 ·intro i h1 h2
  simp [madeCells, Value.cells, nv, Nat.mod_one]
theorem sm_new (w : World) (n : Int) (N : Nat) : Sm w.heap.size w.heap.size (List.replicate N nv) (rowsF [] n N) (w.alloc (.cells (List.replicate N nv).toArray 50)) := by
 have hg : ∀ i, (List.replicate N nv).getD i nv = nv := fun i => by
  by_cases h : i < N
  ·simp [List.getD, h]
  ·simp [List.getD, h]
 have hr : ∀ i, i < (rowsF [] n N).length → (rowsF [] n N).getD i [] = [] := fun i hi => by rw [rows_len] at hi; rw [rows_get _ _ _ hi]; rfl
 refine ⟨by rw [rows_len]; simp, heap_alloc_new w _, Nat.le_refl _, fun i hi => ?_, fun i _ => by rw [hg]; simp [nv, Value.ownBlock], fun i j _ _ _ k hk => by rw [hg] at hk; simp [nv, Value.ownBlock] at hk⟩
 rw [hg, hr i hi]
 exact own_nil _ _ _ _
structure Sj (w : World) (v : Value) (l : List Wr) (g : Nat) (vs : List Value) (L : List (List Wr)) (W : World) : Prop where
 q : Pq w v l W
 s : Sm w.heap.size g vs L W
theorem Sj.on {w W W' : World} {v : Value} {l : List Wr} {g : Nat} {vs : List Value} {L : List (List Wr)} (h : Sj w v l g vs L W) (hb : Below W.heap.size W W') : Sj w v l g vs L W' := ⟨h.q.on hb, h.s.on hb⟩
theorem Sj.push {w W1 W' : World} {v : Value} {l : List Wr} {g : Nat} {vs : List Value} {L : List (List Wr)} (h1 : Sj w v l g vs L W1) (x : Wr) {i : Nat} (hi : i < L.length) {v' vk : Value} (hvk : vs.getD i nv = vk) (hown : W'.ownsRow w.heap.size 70 3 v' ((L.getD i []).length + 1) (rowC wrc (L.getD i []) ++ rowC wrc [x])) (hg : W1.grownBy W' vk.ownBlock) (hat : v'.ownBlock = vk.ownBlock ∨ v'.ownBlock = some W1.heap.size) :
  W'.heap[g]? = some (.cells vs.toArray 50 (0, 0)) ∧ Sj w v l g (vs.set i v') (L.set i (L.getD i [] ++ [x])) (W'.setCell ⟨g, i, none⟩ v') := by
 subst hvk
 obtain ⟨p1, p2⟩ := h1.s.push x hi hown hg hat
 have hb : Below w.heap.size W1 W' := (grown_kept hg).below h1.q.bel.size (fun k hf => (World.ownsRow.lt (h1.s.ins i hi) k hf).1)
 have hb2 : Below w.heap.size W' (W'.setCell ⟨g, i, none⟩ v') := (Below.refl _ _).setCell (p := ⟨g, i, none⟩) h1.s.gB v'
 exact ⟨p1, ⟨⟨(h1.q.bel.trans hb).trans hb2, (h1.q.ws.on hb).on hb2⟩, p2⟩⟩
theorem split15 (l : List Wr) (ao : Option Addr) (cp : Nat) (n : Int) (w : World) (hl : l.length ≤ 1000) (hws : WsAt w.heap.size (.slice ao l.length cp) l w) : Calls Tryz.prog 90 #[.slice ao l.length cp, iw n] w fun r w' => (∃ v, r = .returned v ∧ SsAt v (splitF l n) w' ∧ (1 ≤ n ∧ n ≤ 8 → ∃ g vs, v = .slice (some ⟨g, 0, none⟩) (splitF l n).length (splitF l n).length ∧ Sm w.heap.size g vs (splitF l n) w')) ∧ Below w.heap.size w w' := by
 by_cases hn : 1 ≤ n ∧ n ≤ 8
 ·obtain ⟨N, rfl⟩ : ∃ N : Nat, n = (N : Int) := ⟨n.toNat, by omega⟩
  have i1 : ¬ (N : Int) < 1 := by omega
  have i2 : ¬ (8 : Int) < (N : Int) := by omega
  have HS : Hid (splitF l (N : Int) = rowsF l N N) := by
   show _ = _
   unfold splitF rowsF
   rw [if_pos hn]
   rfl
  have CT : Hid (∀ (key : List UInt8) (W : World), 1 = 1 → Calls Tryz.prog 26 #[sd key, iw (N : Int)] W fun r w' => r = .returned (.tuple #[iw (shardF key N).1, iw (shardF key N).2]) ∧ W = w') := fun key W _ => shard11 key N W
  obtain ⟨j0, jin, j1, j2, j3⟩ := info_parts info70
  obtain ⟨k0, kin, k1, k2, k3⟩ := info_parts info50
  have mk : (Instr.makeSlice 132 (iw (N : Int)) (iw (N : Int))).run Tryz.prog w = .ok (.slice (some ⟨w.heap.size, 0, none⟩) N N) (w.alloc (.cells (List.replicate N nv).toArray 50)) := by
   have := run_make (P := Tryz.prog) w 132 50 k0 _ Tryz.underlying132 kin k1 .i64 .i64 (N : Int) (N : Int) (by omega) (by omega) (by rw [k3]; omega) (by omega)
   rw [k2, Int.toNat_natCast, made_nil] at this
   exact this
  have HW : Hid (Sj w (.slice ao l.length cp) l w.heap.size (List.replicate N nv) (rowsF [] N N) (w.alloc (.cells (List.replicate N nv).toArray 50))) := ⟨⟨al _, hws.on (al _)⟩, sm_new w N N⟩
  have hN : N ≤ 8 := by omega
  generalize hw1 : w.alloc (.cells (List.replicate N nv).toArray 50) = w1 at *
  obtain ⟨g, hgg⟩ := xj w.heap.size
  have HG : Hid (Sj w (.slice ao l.length cp) l g (List.replicate N nv) (rowsF [] N N) w1) := by rw [← hgg]; exact HW.out
  clear HW hws
  rw [hgg] at mk
  clear hgg hw1
  have HB : Hid (mbB (N : Int) = true) := by show _ = _; unfold mbB; exact decide_eq_true hn
  have C3 : Hid (1 = 1 → Calls Tryz.prog 72 #[iw (N : Int)] w fun r w' => r = .returned (.bool (mbB (N : Int))) ∧ w = w') := fun _ => mb18 (N : Int) w
  clear hn
  go_enter Tryz.func90, Tryz.ntmps90
  go_wp2_with fail
  refine (C3.out (by trivial)).mono ?_
  rintro r wx ⟨rfl, rfl⟩
  rw [HB.out]
  clear C3
  go_wp2_with fail
  have HN0 : Hid (rowsF [] N N = rowsF (l.take 0) N N) := rfl
  go_loopw [17] (fun i wr => ∃ (m : Nat) (vs : List Value), m ≤ l.length ∧ i = iw m ∧ Hid (Sj w (.slice ao l.length cp) l g vs (rowsF (l.take m) N N) wr)) (fun i _ => l.length - (intOf i).toNat)
  case atStart => exact ⟨0, _, Nat.zero_le _, rfl, HG.out⟩
  case round =>
   obtain ⟨m, vs, hm, rfl, HE⟩ := hrel
   clear HG HN0 mk
   by_cases hml : m < l.length
   ·have hml1 : (m : Int) < l.length := by omega
    have HM : Hid (m + 1 ≤ l.length) := hml
    obtain ⟨b1, o1, rfl, d0, d1, d2⟩ := HE.out.q.ws.el hml
    have HH : Hid (∀ k : Nat, k < N → shardF (l.getD m dw).key (N : Int) = ((k : Int), 0) → _) := fun k hk hs => rows_hit (N := N) hml hk hs
    have HX : Hid _ := rows_miss (n := (N : Int)) (N := N) hml
    have HLn : Hid (∀ k : Nat, k < N → ((rowsF (l.take m) N N).getD k []).length < 1000000) := fun k hk => by
     rw [rows_get _ _ _ hk]
     have h1 := own_len (l.take m) (N : Int) (k : Int)
     rw [List.length_take] at h1
     omega
    have hRL : (rowsF (l.take m) N N).length = N := rows_len _ _ _
    generalize l.getD m dw = x at *
    generalize rowsF (l.take m) N N = L at *
    have HC : Hid _ := CT.out x.key
    have HSR : Hid _ := shard_range x.key (N : Int)
    generalize shardF x.key (N : Int) = u at *
    obtain ⟨ua, ub⟩ := u
    dsimp only at *
    have HB0 : Hid (Sj w (.slice (some ⟨b1, o1, none⟩) l.length cp) l g vs L (wr.alloc (.cells #[sd x.key, sd x.val, .bool x.dead] 70)) ∧ (wr.alloc (.cells #[sd x.key, sd x.val, .bool x.dead] 70)).heap[wr.heap.size]? = some (.cells #[sd x.key, sd x.val, .bool x.dead] 70 (0, 0))) := ⟨HE.out.on (al _), heap_alloc_new wr _⟩
    go_upto_region 7 with fail
    obtain ⟨y0, hy⟩ := xj (wr.alloc (.cells #[sd x.key, sd x.val, .bool x.dead] 70))
    obtain ⟨bw, hbw⟩ := xj wr.heap.size
    rw [hy, hbw] at HB0
    rw [hy, hbw]
    have g0 : y0.cell? ⟨bw, 0, none⟩ = some (sd x.key) := block_cell HB0.out.2 rfl
    clear hy hbw HE d0 d1 d2
    go_wp2_with fail
    refine (HC.out _ (by trivial)).mono ?_
    rintro r wx ⟨rfl, rfl⟩
    clear HC g0
    by_cases hb0 : ub = 0
    ·subst hb0
     obtain ⟨h0, h1⟩ := HSR.out rfl
     obtain ⟨k, rfl⟩ : ∃ k : Nat, ua = (k : Int) := ⟨ua.toNat, by omega⟩
     have hkN : k < N := by omega
     have hkN1 : (k : Int) < N := by omega
     have HHk : Hid _ := HH.out k hkN rfl
     obtain ⟨vk, hvk⟩ := xj (vs.getD k nv)
     have HVK : Hid (vs.getD k nv = vk) := hvk
     have HD : Hid (Sj w (.slice (some ⟨b1, o1, none⟩) l.length cp) l g vs L y0.drew) := HB0.out.1.on (Below.refl _ _).drew
     have HDA : Hid (Sj w (.slice (some ⟨b1, o1, none⟩) l.length cp) l g vs L (y0.alloc (.cells #[sd x.key, sd x.val, .bool x.dead] 70)).drew) := HB0.out.1.on ((al _).drew)
     have pg : y0.drew.cell? ⟨g, k, none⟩ = some vk := by rw [← hvk]; exact HD.out.s.cell (by omega)
     have q0 : y0.drew.cell? ⟨bw, 0, none⟩ = some (sd x.key) := block_cell HB0.out.2 rfl
     have q1 : y0.drew.cell? ⟨bw, 1, none⟩ = some (sd x.val) := block_cell HB0.out.2 rfl
     have q2 : y0.drew.cell? ⟨bw, 2, none⟩ = some (.bool x.dead) := block_cell HB0.out.2 rfl
     have pa : ((y0.alloc (.cells #[sd x.key, sd x.val, .bool x.dead] 70)).drew).cell? ⟨g, k, none⟩ = some vk := by rw [← hvk]; exact HDA.out.s.cell (by omega)
     have HOw : Hid (Ow w.heap.size 70 3 (vs.getD k nv) (L.getD k []).length (rowC wrc (L.getD k [])) (y0.heap.size + 1) (.slice (some ⟨y0.heap.size, 0, none⟩) 1 1) 1 (rowC wrc [x]) (y0.alloc (.cells #[sd x.key, sd x.val, .bool x.dead] 70)).drew) := (wr_ow x (HB0.out.1.s.ins k (by omega)) HB0.out.1.q.bel.size (HLn.out k hkN)).drew
     rw [hvk] at HOw
     obtain ⟨rk, hrk⟩ := xj (L.getD k [])
     have HRK : Hid (L.getD k [] = rk) := hrk
     rw [hrk] at HOw
     clear hrk
     clear hvk HSR HH HX
     go_upto_region 9 with fail
     go_region_law (refine step_append_rw HOw.out Tryz.underlying50 jin j1 j2 j3 rfl (by decide) (by decide) (.tmp 35) (.tmp 37) (by rfl) (by rfl) (by rfl) (by rfl) ?_; intro v9 w9 hown hg hat; obtain ⟨sa, sc, rfl, -, -, -, -⟩ := rw_own hown; obtain ⟨hx9, hs9⟩ := HDA.out.push x (by omega) HVK.out (by rw [HRK.out]; exact hown) hg hat; have H9 : Hid (Sj w (.slice (some ⟨b1, o1, none⟩) l.length cp) l g _ _ _) := hs9; have g12 : w9.cell? ⟨g, k, none⟩ = some vk := block_cell hx9 (by rw [← HVK.out]; have := HD.out.s.len; simp [List.getD, show k < vs.length by omega]); have f12 : w9.frozen? ⟨g, k, none⟩ = false := block_frozen hx9 k; clear hown hg hat hx9 hs9)
     all_goals
      rw [← HHk.out] at H9
      obtain ⟨y9, hy9⟩ := xj (w9.setCell ⟨g, k, none⟩ (.slice sa (rk.length + 1) sc))
      rw [hy9] at H9
      rw [hy9]
      clear HOw HD HDA HB0 pg pa q0 q1 q2 g12 f12 hy9
      go_wp2_with fail
      go_roundw
      case rel => exact ⟨m + 1, _, HM.out, by go_num, H9.out⟩
      case measure => simp [intOf]; omega
    ·have HXx : Hid _ := HX.out hb0
     clear HSR HH HX
     go_wp2_with fail
     go_roundw
     case rel => exact ⟨m + 1, vs, HM.out, by go_num, by rw [HXx.out]; exact HB0.out.1⟩
     case measure => simp [intOf]; omega
   ·have hml1 : ¬ (m : Int) < l.length := by omega
    have HTL : Hid (splitF l (N : Int) = rowsF (l.take m) N N) := by show _ = _; rw [HS.out, List.take_of_length_le (by omega)]
    have hss := HE.out.s.ss (by rw [rows_len]; omega)
    rw [rows_len, ← HTL.out] at hss
    have HSS : Hid _ := hss
    clear hss
    go_wp2_with fail
    go_ret
    first | refine ⟨⟨_, rfl, HSS.out, _, ?_, _, (by rw [HTL.out]; exact HE.out.s)⟩, HE.out.q.bel⟩ | refine ⟨⟨_, rfl, HSS.out, _, _, ?_, (by rw [HTL.out]; exact HE.out.s)⟩, HE.out.q.bel⟩
    rw [HTL.out, rows_len]
    rfl
 ·have HS : Hid (splitF l n = []) := by
   show _ = _
   unfold splitF
   rw [if_neg hn]
  rw [HS.out]
  have HV : Hid (SsAt sy [] w) := ⟨[], rfl, RwAt.nil _ _ _, fun i hi => absurd hi (by simp)⟩
  have HB : Hid (mbB n = false) := by show _ = _; unfold mbB; exact decide_eq_false hn
  have C3 : Hid (1 = 1 → Calls Tryz.prog 72 #[iw n] w fun r w' => r = .returned (.bool (mbB n)) ∧ w = w') := fun _ => mb18 n w
  clear hn
  go_enter Tryz.func90, Tryz.ntmps90
  go_wp2_with fail
  refine (C3.out (by trivial)).mono ?_
  rintro r wx ⟨rfl, rfl⟩
  rw [HB.out]
  go_wp2_with fail
  go_ret
  first | exact ⟨⟨_, rfl, HV.out⟩, Below.refl _ _⟩ | exact ⟨⟨_, rfl, HV.out, fun h => absurd (decide_eq_true h) (by have g := HB.out; unfold mbB at g; rw [g]; decide)⟩, Below.refl _ _⟩ | exact ⟨⟨_, rfl, HV.out, fun h1 h2 => absurd (decide_eq_true (And.intro h1 h2)) (by have g := HB.out; unfold mbB at g; rw [g]; decide)⟩, Below.refl _ _⟩
end Go.Proofs.YtkdkgdollmmcnaaGreat.Pla
