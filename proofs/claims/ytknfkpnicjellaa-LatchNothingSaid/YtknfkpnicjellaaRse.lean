/-
  The document's table: Raise.
-/
import Derived.Test.YtknfkpnicjellaaLayw
namespace Go.Proofs.Ytknfkpnicjellaa
open Go.RowKit

theorem own_set {base e size g n cap : Nat} {cs : List Value} {w : World} (h : w.ownsRow base e size (.slice (some ⟨g, 0, none⟩) n cap) n cs) (j : Nat) (u : Value) : (w.setCell ⟨g, j, none⟩ u).ownsRow base e size (.slice (some ⟨g, 0, none⟩) n cap) n (cs.set j u) := by
  rcases h.2 with ⟨h0, _⟩ | ⟨g', cap', cur, e', hg, hh, h1, h2, h3, h4⟩
  · cases h0
  · simp only [Value.slice.injEq, Option.some.injEq, Addr.mk.injEq] at e'
    obtain ⟨⟨rfl, _⟩, _, rfl⟩ := e'
    refine ⟨by rw [List.length_set]; exact h.1, .inr ⟨g, cap, cur.setIfInBounds j u, rfl, hg, ?_, h1, h2, by simpa using h3, ?_⟩⟩
    · show (w.heap.modify g _)[g]? = _
      rw [Array.getElem?_modify, if_pos rfl, hh]
      rfl
    · rw [Array.toList_setIfInBounds, ← h4, List.take_set]
theorem own_frozen {base e size g n cap : Nat} {cs : List Value} {w : World} (h : w.ownsRow base e size (.slice (some ⟨g, 0, none⟩) n cap) n cs) (j : Nat) : w.frozen? ⟨g, j, none⟩ = false := by
  rcases h.2 with ⟨h0, _⟩ | ⟨g', cap', cur, e', hg, hh, h1, h2, h3, h4⟩
  · cases h0
  · simp only [Value.slice.injEq, Option.some.injEq, Addr.mk.injEq] at e'
    obtain ⟨⟨rfl, _⟩, _, rfl⟩ := e'
    unfold World.frozen?
    rw [hh]
    simp
theorem rowC_set {α : Type} {vc : α → List Value} {sz : Nat} (hsz : ∀ a, (vc a).length = sz) (d x' : α) (u : Value) (j : Nat) (hj : j < sz) : ∀ (L : List α) (i : Nat), i < L.length → vc x' = (vc (L.getD i d)).set j u → (rowC vc L).set (i * sz + j) u = rowC vc (L.set i x')
  | [], _, h, _ => absurd h (by simp)
  | a :: r, 0, _, e => by
    have e' : vc x' = (vc a).set j u := by simpa using e
    rw [rowC_cons, Nat.zero_mul, Nat.zero_add, List.set_append_left _ _ (by rw [hsz]; exact hj), ← e', List.set_cons_zero, rowC_cons]
  | a :: r, i + 1, h, e => by
    have ih := rowC_set hsz d x' u j hj r i (by simpa using h) (by simpa using e)
    rw [rowC_cons, List.set_append_right _ _ (by rw [hsz, Nat.succ_mul]; omega), hsz, show (i + 1) * sz + j - sz = i * sz + j from by rw [Nat.succ_mul]; omega, ih, List.set_cons_succ, rowC_cons]

/-- The table when the first m intents are raised. -/
def rseN (c n mp ml : Int) (T : Tb) (m : Nat) : Tb := raiseF c n mp ml (T.take m) ++ T.drop m
theorem rseN_zero (c n mp ml : Int) (T : Tb) : rseN c n mp ml T 0 = T := rfl
theorem rseN_end {c n mp ml : Int} {T : Tb} {m : Nat} (h : T.length ≤ m) : rseN c n mp ml T m = raiseF c n mp ml T := by
  unfold rseN
  rw [List.take_of_length_le h, List.drop_of_length_le h, List.append_nil]
theorem rseN_len (c n mp ml : Int) (T : Tb) (m : Nat) : (rseN c n mp ml T m).length = T.length := by
  unfold rseN
  rw [List.length_append, len_raise, List.length_take, List.length_drop]
  omega
theorem rseN_at {c n mp ml : Int} {T : Tb} {m : Nat} (h : m < T.length) : (rseN c n mp ml T m).getD m di = T.getD m di := by
  unfold rseN
  have hl : (raiseF c n mp ml (T.take m)).length = m := by rw [len_raise, List.length_take]; omega
  rw [List.getD, List.getElem?_append_right (by omega), hl, Nat.sub_self, List.getElem?_drop, Nat.add_zero]
  rfl
theorem rseN_step {c n mp ml : Int} {T : Tb} {m : Nat} (h : m < T.length) : rseN c n mp ml T (m + 1) = (rseN c n mp ml T m).set m ((T.getD m di).1, raise1 c n mp ml (T.getD m di).2) := by
  unfold rseN
  have hl : (raiseF c n mp ml (T.take m)).length = m := by rw [len_raise, List.length_take]; omega
  rw [List.set_append_right _ _ (by omega), hl, Nat.sub_self, tdr_step h, List.set_cons_zero, ttk_snoc h]
  unfold raiseF
  rw [List.map_append, List.append_assoc]
  rfl
theorem tok_map {T T' : Tb} (h : TOk T) (e : T'.map (·.1) = T.map (·.1)) : TOk T' := by
  refine ⟨?_, fun x hx => ?_⟩
  · have h1 : (T.map (·.1)).Pairwise (fun a b => ltK a b = true) := List.pairwise_map.2 h.srt
    rw [← e] at h1
    exact List.pairwise_map.1 h1
  · have h1 : x.1 ∈ T'.map (·.1) := List.mem_map.2 ⟨x, hx, rfl⟩
    rw [e] at h1
    obtain ⟨y, hy, e2⟩ := List.mem_map.1 h1
    rw [← e2]
    exact h.keys y hy
theorem rseN_ok {T : Tb} (h : TOk T) (c n mp ml : Int) (m : Nat) : TOk (rseN c n mp ml T m) := by
  refine tok_map h ?_
  unfold rseN raiseF
  rw [List.map_append, List.map_map]
  conv => rhs; rw [← List.take_append_drop m T, List.map_append]
  rfl
theorem raise1_eq (c n mp ml : Int) (x : Ii) : raise1 c n mp ml x = if ofBy c n x then { x with mp := if lessB x.mp x.ml mp ml then mp else x.mp, ml := if lessB x.mp x.ml mp ml then ml else x.ml } else x := by
  unfold raise1
  rw [lt_less]
  cases ofBy c n x <;> cases lessB x.mp x.ml mp ml <;> simp

/-- Raise's boxes, and the table in its row. -/
structure Ra (B rb g cap bx : Nat) (c n mp ml : Int) (w : World) (N : Nat) (T : Tb) (W : World) : Prop where
  rt : RtAt B rb (.slice (some ⟨g, 0, none⟩) N cap) T W
  len : T.length = N
  b0 : W.heap[bx]? = some (.cells #[.int .u32 c, .int .u32 n] 32 (0, 0))
  b1 : W.heap[bx + 1]? = some (.cells #[.int .u64 mp, .int .u32 ml] 35 (0, 0))
  kept : Kept (fun i => i = g) w W
theorem Ra.on {B rb g cap bx : Nat} {c n mp ml : Int} {w W W' : World} {N : Nat} {T : Tb} (h : Ra B rb g cap bx c n mp ml w N T W) (hb : Below W.heap.size W W') : Ra B rb g cap bx c n mp ml w N T W' :=
  ⟨h.rt.on hb, h.len, by rw [hb.block bx (Array.getElem?_eq_some_iff.1 h.b0).1]; exact h.b0, by rw [hb.block (bx + 1) (Array.getElem?_eq_some_iff.1 h.b1).1]; exact h.b1, h.kept.trans (Kept.of_below (F := fun _ => False) hb) (fun _ h => h.elim)⟩
theorem Ra.five {B rb g cap bx : Nat} {c n mp ml : Int} {w W : World} {N : Nat} {T : Tb} (h : Ra B rb g cap bx c n mp ml w N T W) : W.cell? ⟨rb, 0, none⟩ = some (.slice (some ⟨g, 0, none⟩) N cap) ∧ W.cell? ⟨bx, 0, none⟩ = some (.int .u32 c) ∧ W.cell? ⟨bx, 1, none⟩ = some (.int .u32 n) ∧ W.cell? ⟨bx + 1, 0, none⟩ = some (.int .u64 mp) ∧ W.cell? ⟨bx + 1, 1, none⟩ = some (.int .u32 ml) :=
  ⟨h.rt.cell, block_cell h.b0 rfl, block_cell h.b0 rfl, block_cell h.b1 rfl, block_cell h.b1 rfl⟩
theorem Ra.el {B rb g cap bx : Nat} {c n mp ml : Int} {w W : World} {N : Nat} {T : Tb} (h : Ra B rb g cap bx c n mp ml w N T W) {i : Nat} (hi : i < N) : InAt W g (i * 10) (T.getD i di) := by
  have hl := h.len
  subst hl
  obtain ⟨b, off, e, hx⟩ := h.rt.is.el hi
  simp only [Option.some.injEq, Addr.mk.injEq] at e
  obtain ⟨rfl, rfl, _⟩ := e
  rw [Nat.zero_add] at hx
  exact hx
/-- An intent's least stamp written. -/
theorem Ra.put {B rb g cap bx : Nat} {c n mp ml : Int} {w W : World} {N : Nat} {T : Tb} (h : Ra B rb g cap bx c n mp ml w N T W) {i : Nat} (hi : i < N) (hg : g < bx) (a b : Int) (hok : TOk (T.set i ((T.getD i di).1, { (T.getD i di).2 with mp := a, ml := b }))) :
    Ra B rb g cap bx c n mp ml w N (T.set i ((T.getD i di).1, { (T.getD i di).2 with mp := a, ml := b })) ((W.setCell ⟨g, i * 10 + 4, none⟩ (.int .u64 a)).setCell ⟨g, i * 10 + 5, none⟩ (.int .u32 b)) := by
  have hl := h.len
  have k1 := set_kept' W g (i * 10 + 4) (.int .u64 a)
  have k2 := set_kept' (W.setCell ⟨g, i * 10 + 4, none⟩ (.int .u64 a)) g (i * 10 + 5) (.int .u32 b)
  have kk := k1.trans k2 (fun i e => .inl e)
  have hrow := h.rt.row
  rw [hl] at hrow
  have r1 := own_set hrow (i * 10 + 4) (.int .u64 a)
  rw [rowC_set inc_len di ((T.getD i di).1, { (T.getD i di).2 with mp := a }) _ 4 (by omega) T i (by omega) rfl] at r1
  have r2 := own_set r1 (i * 10 + 5) (.int .u32 b)
  have hg2 : (T.set i ((T.getD i di).1, { (T.getD i di).2 with mp := a })).getD i di = ((T.getD i di).1, { (T.getD i di).2 with mp := a }) := by simp [List.getD, show i < T.length by omega]
  rw [rowC_set inc_len di ((T.getD i di).1, { (T.getD i di).2 with mp := a, ml := b }) _ 5 (by omega) _ i (by rw [List.length_set]; omega) (by rw [hg2]; rfl), List.set_set] at r2
  have hrb : g ≠ rb := fun e => h.rt.ne (by rw [← e]; rfl)
  refine ⟨⟨?_, by rw [List.length_set, hl]; exact r2, h.rt.lo, h.rt.ne, hok⟩, by rw [List.length_set]; exact hl, ?_, ?_, h.kept.trans kk (fun i e => .inl e)⟩
  · rw [kk.block rb (Array.getElem?_eq_some_iff.1 h.rt.box).1 (fun e => hrb e.symm)]; exact h.rt.box
  · rw [kk.block bx (Array.getElem?_eq_some_iff.1 h.b0).1 (fun e => by omega)]; exact h.b0
  · rw [kk.block (bx + 1) (Array.getElem?_eq_some_iff.1 h.b1).1 (fun e => by omega)]; exact h.b1

/-- Does Raise answer true? -/
def rseB (c n mp ml : Int) (T : Tb) : Bool := decide (0 < (byF c n T).length) && rightB mp ml
def rseF (c n mp ml : Int) (T : Tb) : Tb := if rseB c n mp ml T then raiseF c n mp ml T else T

theorem two_boxes (w : World) (a b : Obj) : (((w.alloc a).alloc b).heap[w.heap.size]? = some a) ∧ (((w.alloc a).alloc b).heap[w.heap.size + 1]? = some b) ∧ Below w.heap.size w ((w.alloc a).alloc b) := by
  have h1 : Below (w.alloc a).heap.size (w.alloc a) ((w.alloc a).alloc b) := al _
  have s1 : (w.alloc a).heap.size = w.heap.size + 1 := by simp
  refine ⟨?_, ?_, ?_⟩
  · rw [h1.block _ (by omega)]; exact heap_alloc_new w a
  · rw [← s1]; exact heap_alloc_new (w.alloc a) b
  · exact (al a).trans (h1.mono (by omega))

set_option maxHeartbeats 3200000 in
set_option maxRecDepth 100000 in
theorem raise16 (B rb : Nat) (s0 : Value) (T : Tb) (c n mp ml : Int) (w : World) (h : RtAt B rb s0 T w) (hl : T.length < 100000) :
    Calls Try.prog 16 #[.pointer (some ⟨rb, 0, none⟩), .agg #[.int .u32 c, .int .u32 n], .agg #[.int .u64 mp, .int .u32 ml]] w fun e w' => e = .returned (.bool (rseB c n mp ml T)) ∧ RtAt B rb s0 (rseF c n mp ml T) w' ∧ Kept (foot rb s0) w w' := by
  have H : Hid (RtAt B rb s0 T w) := h
  have CB : Hid (∀ W, Below w.heap.size w W → Calls Try.prog 22 #[.pointer (some ⟨rb, 0, none⟩), .agg #[.int .u32 c, .int .u32 n]] W fun e w' => ∃ ya yc, e = .returned (.slice ya (byF c n T).length yc) ∧ Below W.heap.size W w') := fun W hW => by
    refine (by22 B rb s0 T c n W (h.on hW) hl).mono ?_
    rintro e w' ⟨v', rfl, ho, hb⟩
    obtain ⟨ya, yc, rfl, _⟩ := rw_own ho
    exact ⟨ya, yc, rfl, hb⟩
  have CR : Hid (∀ W, Calls Try.prog 35 #[.agg #[.int .u64 mp, .int .u32 ml]] W fun e w' => e = .returned (.bool (rightB mp ml)) ∧ Below W.heap.size W w') := fun W => rightR mp ml W
  have hnb : (byF c n T).length < 100000 := by have := len_by c n T; omega
  have HE : Hid (0 < (byF c n T).length → T ≠ []) := fun h e => by subst e; simp [byF] at h
  have h2 := h.two
  have HX : Hid (((w.alloc (.cells #[.int .u32 c, .int .u32 n] 32)).alloc (.cells #[.int .u64 mp, .int .u32 ml] 35)).heap[w.heap.size]? = some (.cells #[.int .u32 c, .int .u32 n] 32 (0, 0)) ∧ ((w.alloc (.cells #[.int .u32 c, .int .u32 n] 32)).alloc (.cells #[.int .u64 mp, .int .u32 ml] 35)).heap[w.heap.size + 1]? = some (.cells #[.int .u64 mp, .int .u32 ml] 35 (0, 0)) ∧ Below w.heap.size w ((w.alloc (.cells #[.int .u32 c, .int .u32 n] 32)).alloc (.cells #[.int .u64 mp, .int .u32 ml] 35))) := two_boxes w _ _
  have HF : Hid (rseF c n mp ml T = if decide (0 < (byF c n T).length) && rightB mp ml then raiseF c n mp ml T else T) := rfl
  have HB : Hid (rseB c n mp ml T = (decide (0 < (byF c n T).length) && rightB mp ml)) := rfl
  rw [HF.out, HB.out]
  clear HF HB
  have HL : Hid (T.length < 100000) := hl
  generalize rightB mp ml = z at *
  generalize (byF c n T).length = nb at *
  clear h hl
  obtain ⟨zb, hzb⟩ : ∃ zb, decide (0 < nb) = zb := ⟨_, rfl⟩
  have HZb : Hid (decide (0 < nb) = zb) := hzb
  rw [hzb]
  clear hzb
  go_enter Try.func16, Try.ntmps16
  go_wp2_with fail
  obtain ⟨W0, hW0⟩ : ∃ W0, ((w.alloc (.cells #[.int .u32 c, .int .u32 n] 32)).alloc (.cells #[.int .u64 mp, .int .u32 ml] 35)) = W0 := ⟨_, rfl⟩
  rw [hW0] at HX ⊢
  clear hW0
  obtain ⟨bx, hbx⟩ : ∃ bx, w.heap.size = bx := ⟨_, rfl⟩
  have HBX : Hid (w.heap.size = bx) := hbx
  rw [hbx] at HX CB ⊢
  clear hbx
  refine (CB.out _ HX.out.2.2).mono ?_
  rintro e w1 ⟨ya, yc, rfl, hb1⟩
  have H1 : Hid (w1.heap[bx]? = some (.cells #[.int .u32 c, .int .u32 n] 32 (0, 0)) ∧ w1.heap[bx + 1]? = some (.cells #[.int .u64 mp, .int .u32 ml] 35 (0, 0)) ∧ Below bx w w1) := ⟨by rw [hb1.block bx (Array.getElem?_eq_some_iff.1 HX.out.1).1]; exact HX.out.1, by rw [hb1.block (bx + 1) (Array.getElem?_eq_some_iff.1 HX.out.2.1).1]; exact HX.out.2.1, bel_on HBX.out HX.out.2.2 hb1⟩
  clear hb1 CB HX
  have HSelf : Hid (∀ W, Below bx w W → RtAt B rb s0 T W ∧ Kept (foot rb s0) w W) := fun W hW => ⟨H.out.on (by rw [HBX.out]; exact hW), Kept.of_below (by rw [HBX.out]; exact hW)⟩
  cases zb
  · have hn0 : nb = 0 := by have := HZb.out; simp at this; exact this
    subst hn0
    go_wp2_with fail
    go_ret
    exact ⟨rfl, HSelf.out _ H1.out.2.2⟩
  have hn0 : 0 < nb := by have := HZb.out; simpa using this
  have hnz : ((nb : Int) == 0) = false := by simp; omega
  have hT := HE.out hn0
  have x2 : w1.cell? ⟨bx + 1, 0, none⟩ = some (.int .u64 mp) := block_cell H1.out.2.1 rfl
  have x3 : w1.cell? ⟨bx + 1, 1, none⟩ = some (.int .u32 ml) := block_cell H1.out.2.1 rfl
  go_wp2_with fail
  refine (CR.out _).mono ?_
  rintro e w2 ⟨rfl, hb2⟩
  have H2 : Hid (w2.heap[bx]? = some (.cells #[.int .u32 c, .int .u32 n] 32 (0, 0)) ∧ w2.heap[bx + 1]? = some (.cells #[.int .u64 mp, .int .u32 ml] 35 (0, 0)) ∧ Below bx w w2) := ⟨by rw [hb2.block bx (Array.getElem?_eq_some_iff.1 H1.out.1).1]; exact H1.out.1, by rw [hb2.block (bx + 1) (Array.getElem?_eq_some_iff.1 H1.out.2.1).1]; exact H1.out.2.1, bel_on HBX.out H1.out.2.2 hb2⟩
  clear hb2 CR H1 x2 x3
  cases z
  · go_wp2_with fail
    go_ret
    exact ⟨rfl, HSelf.out _ H2.out.2.2⟩
  rcases h2 with ⟨_, rfl⟩ | ⟨g, cap, rfl, hlc, hcm⟩
  · exact absurd rfl hT
  have HG : Hid (g < bx) := by
    show g < bx
    have h9 := (H.out.lt (k := g) (.inr rfl)).2
    have := HBX.out
    omega
  have HR0 : Hid (Ra B rb g cap bx c n mp ml w T.length (rseN c n mp ml T 0) w2) := ⟨H.out.on (by rw [HBX.out]; exact H2.out.2.2), rfl, H2.out.1, H2.out.2.1, Kept.of_below (by rw [HBX.out]; exact H2.out.2.2)⟩
  have HTk : Hid (TOk T) := H.out.ok
  have hL9 := HL.out
  clear hn0 hnz hT HE HSelf H2 HZb
  go_wp2_with fail
  go_loopw [7] (fun i wr => ∃ m : Nat, m ≤ T.length ∧ i = .int .i64 m ∧ Ra B rb g cap bx c n mp ml w T.length (rseN c n mp ml T m) wr) (fun i _ => T.length - (intOf i).toNat)
  case atStart => exact ⟨0, Nat.zero_le _, rfl, HR0.out⟩
  case round =>
    obtain ⟨m, hm, rfl, hra⟩ := hrel
    have HR : Hid (Ra B rb g cap bx c n mp ml w T.length (rseN c n mp ml T m) wr) := hra
    obtain ⟨d0, x0, x1, x2, x3⟩ := hra.five
    clear hra HR0
    by_cases hml : m < T.length
    · have hml' : (m : Int) < T.length := by omega
      have hel := HR.out.el hml
      have hpu := fun W (hW : Ra B rb g cap bx c n mp ml w T.length (rseN c n mp ml T m) W) a b => hW.put hml HG.out a b
      rw [rseN_at hml] at hel hpu
      have HSt : Hid (rseN c n mp ml T (m + 1) = (rseN c n mp ml T m).set m ((T.getD m di).1, raise1 c n mp ml (T.getD m di).2)) := rseN_step hml
      have HOk1 : Hid (TOk (rseN c n mp ml T (m + 1))) := rseN_ok HTk.out c n mp ml (m + 1)
      have HNo : Hid ((rseN c n mp ml T m).set m (T.getD m di) = rseN c n mp ml T m) := by
        have e := rseN_at (c := c) (n := n) (mp := mp) (ml := ml) hml
        have hm2 : m < (rseN c n mp ml T m).length := by rw [rseN_len]; exact hml
        show _ = _
        conv => lhs; rw [← e]
        rw [List.getD, List.getElem?_eq_getElem hm2]
        exact List.set_getElem_self hm2
      generalize T.getD m di = x at *
      obtain ⟨a, s⟩ := x
      dsimp only at hel hpu HSt
      have HEq := raise1_eq c n mp ml s
      have CM : Hid (∀ W : World, Calls Try.prog 40 #[.agg #[.int .u64 s.mp, .int .u32 s.ml], .agg #[.int .u64 mp, .int .u32 ml]] W fun e w' => e = .returned (.agg #[.int .u64 (if lessB s.mp s.ml mp ml then mp else s.mp), .int .u32 (if lessB s.mp s.ml mp ml then ml else s.ml)]) ∧ Below W.heap.size W w') := fun W => max36 s.mp s.ml mp ml W
      generalize (if lessB s.mp s.ml mp ml then mp else s.mp) = np at *
      generalize (if lessB s.mp s.ml mp ml then ml else s.ml) = nl at *
      have HPu : Hid (∀ W, Ra B rb g cap bx c n mp ml w T.length (rseN c n mp ml T m) W → ofBy c n s = true → Ra B rb g cap bx c n mp ml w T.length (rseN c n mp ml T (m + 1)) ((W.setCell ⟨g, m * 10 + 4, none⟩ (.int .u64 np)).setCell ⟨g, m * 10 + 5, none⟩ (.int .u32 nl))) := fun W hW ho => by
        rw [if_pos ho] at HEq
        have h1 := hpu W hW np nl
        have e : (rseN c n mp ml T m).set m (a, { s with mp := np, ml := nl }) = rseN c n mp ml T (m + 1) := by rw [HSt.out, HEq]
        rw [e] at h1
        exact h1 HOk1.out
      have HNx : Hid (ofBy c n s = false → rseN c n mp ml T (m + 1) = rseN c n mp ml T m) := fun ho => by
        rw [if_neg (by rw [ho]; simp)] at HEq
        rw [HSt.out, HEq]
        exact HNo.out
      have HElW : Hid (∀ W, Ra B rb g cap bx c n mp ml w T.length (rseN c n mp ml T m) W → True) := fun _ _ => trivial
      clear hpu HEq HNo HElW
      obtain ⟨e0, e1, e2, e3, e4, e5, e6, e7, e8, e9⟩ := hel
      have hq := run_eql32 s.c s.n c n
      obtain ⟨z, hz⟩ : ∃ z, (s.c == c && s.n == n) = z := ⟨_, rfl⟩
      have HZ : Hid (ofBy c n s = z) := hz
      rw [hz] at hq
      dsimp only at e0 e1 e2 e3 e4 e5 e6 e7 e8 e9
      have HF : Hid (wr.cell? ⟨bx, 0, none⟩ = some (.int .u32 c) ∧ wr.cell? ⟨bx, 1, none⟩ = some (.int .u32 n) ∧ wr.cell? ⟨rb, 0, none⟩ = some (.slice (some ⟨g, 0, none⟩) T.length cap) ∧ wr.cell? ⟨g, m * 10, none⟩ = some (.int .u32 s.c) ∧ wr.cell? ⟨g, m * 10 + 1, none⟩ = some (.int .u32 s.n)) := ⟨x0, x1, d0, e0, e1⟩
      have HRd : Hid (Ra B rb g cap bx c n mp ml w T.length (rseN c n mp ml T m) wr.drew ∧ wr.drew.cell? ⟨g, m * 10 + 4, none⟩ = some (.int .u64 s.mp) ∧ wr.drew.cell? ⟨g, m * 10 + 5, none⟩ = some (.int .u32 s.ml)) := ⟨HR.out.on (Below.refl _ _).drew, e4, e5⟩
      clear hz e0 e1 e2 e3 e4 e5 e6 e7 e8 e9
      go_upto_region 6 with fail
      go_region_held3 (fun W => W.cell? ⟨bx, 0, none⟩ = some (.int .u32 c) ∧ W.cell? ⟨bx, 1, none⟩ = some (.int .u32 n) ∧ W.cell? ⟨rb, 0, none⟩ = some (.slice (some ⟨g, 0, none⟩) T.length cap) ∧ W.cell? ⟨g, m * 10, none⟩ = some (.int .u32 s.c) ∧ W.cell? ⟨g, m * 10 + 1, none⟩ = some (.int .u32 s.n))
        (exact HF.out) (fail)
      rename_i hHeld
      clear hHeld d0 x0 x1 x2 x3 hq HF HR
      generalize wr.drew = wd at *
      cases z
      · have HN1 : Hid _ := HNx.out HZ.out
        go_wp2_with fail
        go_roundw
        case rel => exact ⟨m + 1, by omega, by go_num, by rw [HN1.out]; exact HRd.out.1⟩
        case measure => simp [intOf]; omega
      · obtain ⟨d0, x0, x1, x2, x3⟩ := HRd.out.1.five
        have e4 := HRd.out.2.1
        have e5 := HRd.out.2.2
        have HK : Hid (wd.cell? ⟨rb, 0, none⟩ = some (.slice (some ⟨g, 0, none⟩) T.length cap) ∧ wd.cell? ⟨bx + 1, 0, none⟩ = some (.int .u64 mp) ∧ wd.cell? ⟨bx + 1, 1, none⟩ = some (.int .u32 ml)) := ⟨d0, x2, x3⟩
        have HFz : Hid (∀ W, Ra B rb g cap bx c n mp ml w T.length (rseN c n mp ml T m) W → ∀ j, W.frozen? ⟨g, j, none⟩ = false) := fun W hW j => by
          have h1 := hW.rt.row
          rw [hW.len] at h1
          exact own_frozen h1 j
        go_wp2_with fail
        go_region_with (go_at_call 40; refine (CM.out _).mono ?_; rintro e w9 ⟨rfl, hb9⟩; have hb9' : Below wd.heap.size wd w9 := (by first | exact hb9 | exact (Below.refl _ _).drew.trans hb9); have H9 : Hid (Ra B rb g cap bx c n mp ml w T.length (rseN c n mp ml T m) w9) := HRd.out.1.on hb9'; have hgl : g < wd.heap.size := World.block_lt_of_cell? _ _ e4; have k0 := H9.out.five.1; have k4 : w9.cell? ⟨g, m * 10 + 4, none⟩ = some (.int .u64 s.mp) := (by rw [hb9'.cell (p := ⟨g, m * 10 + 4, none⟩) hgl]; exact e4); have k5 : w9.cell? ⟨g, m * 10 + 5, none⟩ = some (.int .u32 s.ml) := (by rw [hb9'.cell (p := ⟨g, m * 10 + 5, none⟩) hgl]; exact e5); have f4 := HFz.out w9 H9.out (m * 10 + 4); have f5 := HFz.out w9 H9.out (m * 10 + 5); clear hb9 hb9' hgl)
        all_goals
          have HRn : Hid _ := HPu.out _ H9.out HZ.out
          go_wp2_with fail
          go_roundw
          case rel => exact ⟨m + 1, by omega, by go_num, by first | exact HRn.out | exact HRn.out.on (Below.refl _ _).drew⟩
          case measure => simp [intOf]; omega
    · have hml' : ¬ (m : Int) < T.length := by omega
      have HZ : Hid (RtAt B rb (.slice (some ⟨g, 0, none⟩) T.length cap) (raiseF c n mp ml T) wr ∧ Kept (foot rb (.slice (some ⟨g, 0, none⟩) T.length cap)) w wr) := by
        have h1 := HR.out.rt
        rw [rseN_end (by omega)] at h1
        have hk := HR.out.kept
        exact ⟨h1, ⟨hk.os, hk.tape, hk.output, hk.size, fun i hi hF => hk.block i hi (fun e => hF (.inr (by rw [e]; rfl)))⟩⟩
      go_wp2_with fail
      go_ret
      exact ⟨rfl, HZ.out⟩
end Go.Proofs.Ytknfkpnicjellaa
