/-
  Both posts, the program's and the document's; a list of acts.
-/
import Derived.Test.YtfpckkkicjndlaaIns
namespace Go.Proofs.Ytfpckkkicjndlaa
open Go.RowKit Go.Sort

theorem ks_ext {A B : Kq} (hl : A.length = B.length) (h : ∀ i, i < A.length → A.getD i [] = B.getD i []) : A = B := by
  apply List.ext_getElem hl
  intro i h1 h2
  have := h i h1
  simpa [List.getD, List.getElem?_eq_getElem h1, List.getElem?_eq_getElem h2] using this

set_option maxHeartbeats 1600000 in
theorem same15 (Ba Bb : Nat) (A B : Kq) (va vb : Value) (w : World) (ha : KsAt Ba va A w) (hb : KsAt Bb vb B w) :
    Calls Try.prog 15 #[va, vb] w fun e w' => e = .returned (.bool (A == B)) ∧ Below w.heap.size w w' := by
  have HA : Hid _ := ha
  have HB : Hid _ := hb
  obtain ⟨ao, ca, rfl, hla, hma⟩ := ha.shape
  obtain ⟨bo, cb, rfl, hlb, hmb⟩ := hb.shape
  obtain ⟨r, hr⟩ : ∃ r, (A == B) = r := ⟨_, rfl⟩
  rw [hr]
  have HR : Hid _ := hr
  have h63 : A.length ≤ 9223372036854775807 := Nat.le_trans hla hma
  clear hr ha hb hla hlb hma hmb
  by_cases hl : A.length = B.length
  · have hl' : ((A.length : Int) != B.length) = false := by simp [hl]
    have HL : Hid _ := hl
    clear hl
    go_enter Try.func15, Try.ntmps15
    go_wp2_with fail
    go_loopw [5] (fun i wr => ∃ k : Nat, k ≤ A.length ∧ i = .int .i64 k ∧ (∀ j, j < k → A.getD j [] = B.getD j []) ∧ ∃ n, wr = w.drewN n) (fun i _ => A.length - (intOf i).toNat)
    case atStart => exact ⟨0, Nat.zero_le _, rfl, fun j hj => absurd hj (by omega), 0, rfl⟩
    case round =>
      obtain ⟨k, hk, rfl, hall, n, rfl⟩ := hrel
      have HE : Hid (∀ j, j < k → A.getD j [] = B.getD j []) := hall
      clear hall
      by_cases hkl : k < A.length
      · obtain ⟨b1, o1, rfl, c1⟩ := KsAt.el HA.out hkl
        obtain ⟨b2, o2, rfl, c2⟩ := KsAt.el HB.out (show k < B.length by have := HL.out; omega)
        have hkb : (k : Int) < B.length := by have := HL.out; omega
        have HK : Hid (A.getD k [] = B.getD k [] → ∀ j, j < k + 1 → A.getD j [] = B.getD j []) := fun h j hj => by
          by_cases hjk : j = k
          · subst hjk; exact h
          · exact HE.out j (by omega)
        have HN : Hid (A.getD k [] ≠ B.getD k [] → r = false) := fun h => by
          rw [← HR.out, beq_eq_false_iff_ne]
          intro e
          exact h (by rw [e])
        generalize A.getD k [] = s at c1 HK HN
        generalize B.getD k [] = t at c2 HK HN
        have hkl' : (k : Int) < A.length := by omega
        have hbe := bs_beq s t
        by_cases hst : s = t
        · have hq : (s == t) = true := by simp [hst]
          rw [hq] at hbe
          have HX : Hid _ := HK.out hst
          clear hst hq
          go_wp2_with fail
          go_quiet (fail)
          go_wp2_with fail
          go_roundw
          case rel => exact ⟨k + 1, by omega, by go_num, HX.out, _, rfl⟩
          case measure => simp [intOf]; omega
        · have hq : (s == t) = false := by simp [hst]
          rw [hq] at hbe
          have HX : Hid _ := HN.out hst
          clear hst hq
          go_wp2_with fail
          go_quiet (fail)
          go_wp2_with fail
          go_ret
          rw [HX.out]
          exact ⟨rfl, below_drewN (below_drewN (Below.refl _ _) _) _⟩
      · have hkl' : ¬ (k : Int) < A.length := by omega
        have HX : Hid (r = true) := by
          show _ = _
          rw [← HR.out, beq_iff_eq]
          exact ks_ext HL.out fun i hi => HE.out i (by omega)
        go_wp2_with fail
        go_ret
        rw [HX.out]
        exact ⟨rfl, below_drewN (Below.refl _ _) _⟩
  · have hl' : ((A.length : Int) != B.length) = true := by simp; omega
    have HX : Hid (r = false) := by
      show _ = _
      rw [← HR.out, beq_eq_false_iff_ne]
      exact fun e => hl (by rw [e])
    clear hl
    go_enter Try.func15, Try.ntmps15
    go_wp2_with fail
    go_ret
    rw [HX.out]
    exact ⟨rfl, Below.refl _ _⟩

structure Ac where
  k : Int
  x : Int
  t : Tx
def da : Ac := ⟨0, 0, []⟩
def acc (a : Ac) : List Value := [.int .i64 a.k, .int .i64 a.x, .string (bs a.t)]
theorem acc_len (a : Ac) : (acc a).length = 3 := rfl
def AcsAt (B : Nat) (v : Value) (A : List Ac) (w : World) : Prop := RwAt B 3 v A.length (rowC acc A) w
theorem AcsAt.el {B : Nat} {ao : Option Addr} {cap : Nat} {A : List Ac} {w : World} (h : AcsAt B (.slice ao A.length cap) A w) {i : Nat} (hi : i < A.length) : ∃ b off, ao = some ⟨b, off, none⟩ ∧ w.cell? ⟨b, off + i * 3, none⟩ = some (.int .i64 (A.getD i da).k) ∧ w.cell? ⟨b, off + i * 3 + 1, none⟩ = some (.int .i64 (A.getD i da).x) ∧ w.cell? ⟨b, off + i * 3 + 2, none⟩ = some (.string (bs (A.getD i da).t)) := by
  obtain ⟨b, off, e, hc⟩ := rowC_el acc_len da (by omega) rfl h hi
  exact ⟨b, off, e, hc 0 _ (by omega) rfl, hc 1 _ (by omega) rfl, hc 2 _ (by omega) rfl⟩
theorem AcsAt.shape {B : Nat} {v : Value} {A : List Ac} {w : World} (h : AcsAt B v A w) : ∃ ao cap, v = .slice ao A.length cap ∧ A.length ≤ cap ∧ cap ≤ 9223372036854775807 := by
  obtain ⟨ao, cap, e, _, h1, h2, _⟩ := h
  exact ⟨ao, cap, e, h1, h2⟩
theorem KsAt.up {v : Value} {K : Kq} {w w' : World} (h : KsAt w.heap.size v K w) (hb : Below w.heap.size w w') : KsAt w'.heap.size v K w' := RwAt.le (RwAt.on h hb) hb.size

/-- Both posts, apart from each other; the blocks of F are none of theirs. -/
structure Pr (w : World) (p rb : Nat) (K L : Kq) (F : Nat → Prop) (W : World) : Prop where
  ex : ∃ va vb, RpAt 42 w.heap.size p va K W ∧ RpAt 29 w.heap.size rb vb L W ∧ (∀ k, rpM p va k → ¬ rpM rb vb k) ∧ (∀ k, F k → ¬ rpM p va k ∧ ¬ rpM rb vb k)
  fl : ∀ k, F k → k < W.heap.size
  bel : Below w.heap.size w W
theorem Pr.on {w W W' : World} {p rb : Nat} {K L : Kq} {F : Nat → Prop} (h : Pr w p rb K L F W) (hb : Below W.heap.size W W') : Pr w p rb K L F W' := by
  obtain ⟨va, vb, h1, h2, h3, h4⟩ := h.ex
  exact ⟨⟨va, vb, h1.on hb, h2.on hb, h3, h4⟩, fun k hk => Nat.lt_of_lt_of_le (h.fl k hk) hb.size, h.bel.trans (hb.mono h.bel.size)⟩
theorem Pr.more {w W W' : World} {p rb : Nat} {K L : Kq} {F G : Nat → Prop} (h : Pr w p rb K L F W) (hb : Below W.heap.size W W') (hG : ∀ k, G k → F k ∨ (W.heap.size ≤ k ∧ k < W'.heap.size)) : Pr w p rb K L G W' := by
  obtain ⟨va, vb, h1, h2, h3, h4⟩ := h.ex
  refine ⟨⟨va, vb, h1.on hb, h2.on hb, h3, fun k hk => ?_⟩, fun k hk => ?_, h.bel.trans (hb.mono h.bel.size)⟩
  · rcases hG k hk with e | e
    · exact h4 k e
    · exact ⟨fun hm => by have := (h1.mem k hm).2; omega, fun hm => by have := (h2.mem k hm).2; omega⟩
  · rcases hG k hk with e | e
    · exact Nat.lt_of_lt_of_le (h.fl k e) hb.size
    · exact e.2
theorem Pr.less {w W : World} {p rb : Nat} {K L : Kq} {F G : Nat → Prop} (h : Pr w p rb K L F W) (hG : ∀ k, G k → F k) : Pr w p rb K L G W := by
  obtain ⟨va, vb, h1, h2, h3, h4⟩ := h.ex
  exact ⟨⟨va, vb, h1, h2, h3, fun k hk => h4 k (hG k hk)⟩, fun k hk => h.fl k (hG k hk), h.bel⟩
/-- What a step leaves of the law's own blocks. -/
def Left (F : Nat → Prop) (W W' : World) : Prop := ∀ b o, F b → W.heap[b]? = some o → W'.heap[b]? = some o
theorem Pr.one {w W W' : World} {p rb : Nat} {K K' L : Kq} {F : Nat → Prop} {va va' vb : Value} (h : Pr w p rb K L F W) (h1 : RpAt 42 w.heap.size p va K W) (h2 : RpAt 29 w.heap.size rb vb L W) (h3 : ∀ k, rpM p va k → ¬ rpM rb vb k) (h4 : ∀ k, F k → ¬ rpM p va k ∧ ¬ rpM rb vb k)
    (hm : RpAt 42 w.heap.size p va' K' W') (hk : Kept (rpM p va) W W') (hf : ∀ i, rpM p va' i → rpM p va i ∨ W.heap.size ≤ i) : Pr w p rb K' L F W' ∧ Left F W W' := by
  refine ⟨⟨⟨va', vb, hm, h2.keep hk (fun k e1 e2 => h3 k e2 e1), fun k e1 e2 => ?_, fun k hF => ⟨fun e => ?_, (h4 k hF).2⟩⟩, fun k hF => Nat.lt_of_lt_of_le (h.fl k hF) hk.size, h.bel.trans (hk.below h.bel.size (fun i hi => (h1.mem i hi).1))⟩, fun b o hF ho => ?_⟩
  · rcases hf k e1 with e | e
    · exact h3 k e e2
    · have := (h2.mem k e2).2; omega
  · rcases hf k e with e | e
    · exact (h4 k hF).1 e
    · have := h.fl k hF; omega
  · rw [hk.block b (Array.getElem?_eq_some_iff.1 ho).1 (h4 b hF).1]; exact ho
theorem Pr.other {w W W' : World} {p rb : Nat} {K L L' : Kq} {F : Nat → Prop} {va vb vb' : Value} (h : Pr w p rb K L F W) (h1 : RpAt 42 w.heap.size p va K W) (h2 : RpAt 29 w.heap.size rb vb L W) (h3 : ∀ k, rpM p va k → ¬ rpM rb vb k) (h4 : ∀ k, F k → ¬ rpM p va k ∧ ¬ rpM rb vb k)
    (hm : RpAt 29 w.heap.size rb vb' L' W') (hk : Kept (rpM rb vb) W W') (hf : ∀ i, rpM rb vb' i → rpM rb vb i ∨ W.heap.size ≤ i) : Pr w p rb K L' F W' ∧ Left F W W' := by
  refine ⟨⟨⟨va, vb', h1.keep hk h3, hm, fun k e1 e2 => ?_, fun k hF => ⟨(h4 k hF).1, fun e => ?_⟩⟩, fun k hF => Nat.lt_of_lt_of_le (h.fl k hF) hk.size, h.bel.trans (hk.below h.bel.size (fun i hi => (h2.mem i hi).1))⟩, fun b o hF ho => ?_⟩
  · rcases hf k e2 with e | e
    · exact h3 k e1 e
    · have := (h1.mem k e1).2; omega
  · rcases hf k e with e | e
    · exact (h4 k hF).2 e
    · have := h.fl k hF; omega
  · rw [hk.block b (Array.getElem?_eq_some_iff.1 ho).1 (h4 b hF).2]; exact ho
theorem pr_start {w W : World} {p : Nat} {M : Nat → Prop} (h : PoAt w.heap.size p M [] W) (hb : Below w.heap.size w W) : Pr w p W.heap.size [] [] (fun _ => False) (W.alloc (.cells #[.slice none 0 0] 29)) := by
  obtain ⟨v, rfl, h1⟩ := h
  refine ⟨⟨v, .slice none 0 0, h1.on (al _), ⟨heap_alloc_new W _, own_nil _ _ _ _, hb.size, by simp⟩, fun k e1 e2 => ?_, fun _ h => h.elim⟩, fun _ h => h.elim, hb.trans ((al _).mono hb.size)⟩
  have := (h1.mem k e1).2
  rcases e2 with e2 | e2
  · omega
  · cases e2
section
variable {w W : World} {p rb : Nat} {K L : Kq} {F : Nat → Prop}
theorem pr_send (s : Tx) (h : Pr w p rb K L F W) : Calls Try.prog 8 #[.pointer (some ⟨p, 0, none⟩), .string (bs s)] W fun e w' => e = .returned (.bool (sendB K)) ∧ Pr w p rb (sendF s K) L F w' ∧ Left F W w' := by
  obtain ⟨va, vb, h1, h2, h3, h4⟩ := h.ex
  refine (send8 s h1).mono ?_
  rintro e w' ⟨rfl, v', hm, hk, hf⟩
  exact ⟨rfl, h.one h1 h2 h3 h4 hm hk hf⟩
theorem pr_send2 (s : Tx) (h : Pr w p rb K L F W) : Calls Try.prog 9 #[.pointer (some ⟨rb, 0, none⟩), .string (bs s)] W fun e w' => e = .returned (.bool (sendB L)) ∧ Pr w p rb K (sendF s L) F w' ∧ Left F W w' := by
  obtain ⟨va, vb, h1, h2, h3, h4⟩ := h.ex
  refine (send9 s h2).mono ?_
  rintro e w' ⟨rfl, v', hm, hk, hf⟩
  exact ⟨rfl, h.other h1 h2 h3 h4 hm hk hf⟩
theorem pr_take (x : Int) (h : Pr w p rb K L F W) : Calls Try.prog 10 #[.pointer (some ⟨p, 0, none⟩), .int .i64 x] W fun e w' => e = .returned (.tuple #[.string (bs (atF x K)), .bool (someB K)]) ∧ Pr w p rb (takeF x K) L F w' ∧ Left F W w' := by
  obtain ⟨va, vb, h1, h2, h3, h4⟩ := h.ex
  refine (take10 x h1).mono ?_
  rintro e w' ⟨rfl, v', hm, hk, hf⟩
  exact ⟨rfl, h.one h1 h2 h3 h4 hm hk hf⟩
theorem pr_take2 (x : Int) (h : Pr w p rb K L F W) : Calls Try.prog 11 #[.pointer (some ⟨rb, 0, none⟩), .int .i64 x] W fun e w' => e = .returned (.tuple #[.string (bs (atF x L)), .bool (someB L)]) ∧ Pr w p rb K (takeF x L) F w' ∧ Left F W w' := by
  obtain ⟨va, vb, h1, h2, h3, h4⟩ := h.ex
  refine (take11 x h2).mono ?_
  rintro e w' ⟨rfl, v', hm, hk, hf⟩
  exact ⟨rfl, h.other h1 h2 h3 h4 hm hk hf⟩
theorem pr_lose (x : Int) (h : Pr w p rb K L F W) : Calls Try.prog 12 #[.pointer (some ⟨p, 0, none⟩), .int .i64 x] W fun e w' => e = .returned (.bool (someB K)) ∧ Pr w p rb (takeF x K) L F w' ∧ Left F W w' := by
  obtain ⟨va, vb, h1, h2, h3, h4⟩ := h.ex
  refine (lose12 x h1).mono ?_
  rintro e w' ⟨rfl, v', hm, hk, hf⟩
  exact ⟨rfl, h.one h1 h2 h3 h4 hm hk hf⟩
theorem pr_doub (x : Int) (h : Pr w p rb K L F W) : Calls Try.prog 13 #[.pointer (some ⟨p, 0, none⟩), .int .i64 x] W fun e w' => e = .returned (.bool (doubB K)) ∧ Pr w p rb (doubF x K) L F w' ∧ Left F W w' := by
  obtain ⟨va, vb, h1, h2, h3, h4⟩ := h.ex
  refine (doub13 x h1).mono ?_
  rintro e w' ⟨rfl, v', hm, hk, hf⟩
  exact ⟨rfl, h.one h1 h2 h3 h4 hm hk hf⟩
theorem pr_doub2 (x : Int) (h : Pr w p rb K L F W) : Calls Try.prog 14 #[.pointer (some ⟨rb, 0, none⟩), .int .i64 x] W fun e w' => e = .returned (.bool (doubB L)) ∧ Pr w p rb K (doubF x L) F w' ∧ Left F W w' := by
  obtain ⟨va, vb, h1, h2, h3, h4⟩ := h.ex
  refine (doub14 x h2).mono ?_
  rintro e w' ⟨rfl, v', hm, hk, hf⟩
  exact ⟨rfl, h.other h1 h2 h3 h4 hm hk hf⟩
theorem pr_all (h : Pr w p rb K L F W) : Calls Try.prog 16 #[.pointer (some ⟨p, 0, none⟩)] W fun e w' => ∃ v', e = .returned v' ∧ KsAt w'.heap.size v' K w' ∧ Below W.heap.size W w' := by
  obtain ⟨va, vb, h1, h2, h3, h4⟩ := h.ex
  refine (all16 h1).mono ?_
  rintro e w' ⟨v', rfl, hs, -, hb⟩
  exact ⟨v', rfl, hs, hb⟩
theorem Pr.list (h : Pr w p rb K L F W) : ∃ ra rc, W.cell? ⟨rb, 0, none⟩ = some (.slice ra L.length rc) ∧ KsAt W.heap.size (.slice ra L.length rc) L W := by
  obtain ⟨va, vb, h1, h2, h3, h4⟩ := h.ex
  obtain ⟨ra, rc, rfl, -, -⟩ := h2.row.shape
  exact ⟨ra, rc, h2.cell, h2.row⟩
end
/-- And the act in its box. -/
structure Px (w : World) (p rb xb : Nat) (A : Ac) (K L : Kq) (W : World) : Prop where
  pr : Pr w p rb K L (fun k => k = xb) W
  box : W.heap[xb]? = some (.cells #[.int .i64 A.k, .int .i64 A.x, .string (bs A.t)] 31 (0, 0))
theorem Px.on {w W W' : World} {p rb xb : Nat} {A : Ac} {K L : Kq} (h : Px w p rb xb A K L W) (hb : Below W.heap.size W W') : Px w p rb xb A K L W' := ⟨h.pr.on hb, by rw [hb.block xb (Array.getElem?_eq_some_iff.1 h.box).1]; exact h.box⟩
theorem Px.dr {w W : World} {p rb xb : Nat} {A : Ac} {K L : Kq} (h : Px w p rb xb A K L W) : Px w p rb xb A K L W.drew := h.on (Below.refl _ _).drew
theorem Px.step {w W W' : World} {p rb xb : Nat} {A : Ac} {K L K' L' : Kq} (h : Px w p rb xb A K L W) (hp : Pr w p rb K' L' (fun k => k = xb) W') (hl : Left (fun k => k = xb) W W') : Px w p rb xb A K' L' W' := ⟨hp, hl xb _ rfl h.box⟩
theorem px_box {w W : World} {p rb : Nat} {K L : Kq} (h : Pr w p rb K L (fun _ => False) W) (A : Ac) : Px w p rb W.heap.size A K L (W.alloc (.cells #[.int .i64 A.k, .int .i64 A.x, .string (bs A.t)] 31)) :=
  ⟨h.more (al _) (fun k e => .inr (by subst e; simp)), heap_alloc_new W _⟩
theorem Px.three {w W : World} {p rb xb : Nat} {A : Ac} {K L : Kq} (h : Px w p rb xb A K L W) : W.cell? ⟨xb, 0, none⟩ = some (.int .i64 A.k) ∧ W.cell? ⟨xb, 1, none⟩ = some (.int .i64 A.x) ∧ W.cell? ⟨xb, 2, none⟩ = some (.string (bs A.t)) := ⟨block_cell h.box rfl, block_cell h.box rfl, block_cell h.box rfl⟩
end Go.Proofs.Ytfpckkkicjndlaa
