/-
  VerdictOrder: two of the program's books, apart from each other.
-/
import Derived.Test.YtkadaoebehgkbaaGmb
import Derived.Test.YtkadaoebehgkbaaOrp
namespace Go.Proofs.Ytkadaoebehgkbaa
open Go.RowKit
variable {BA : Nat → Nat → (Nat → Prop) → Bk → World → Prop}

structure P2 (BA : Nat → Nat → (Nat → Prop) → Bk → World → Prop) (w : World) (p : Nat) (K : Bk) (q : Nat) (M : Bk) (W : World) : Prop where
  ba : ∃ B F C G, BA B p F K W ∧ BA C q G M W ∧ w.heap.size ≤ B ∧ w.heap.size ≤ C ∧ ∀ k, F k → ¬ G k
  lk : K.length < 9000
  lm : M.length < 9000
  bel : Below w.heap.size w W
theorem P2.on (I : Ifv BA) {w W : World} {p q : Nat} {K M : Bk} {W' : World} (h : P2 BA w p K q M W) (hb : Below W.heap.size W W') : P2 BA w p K q M W' := by
  obtain ⟨B, F, C, G, h1, h2, h3, h4, h5⟩ := h.ba
  have hk : Kept (fun _ => False) W W' := Kept.of_below hb
  exact ⟨⟨B, F, C, G, I.keep h1 hk (fun _ _ h => h), I.keep h2 hk (fun _ _ h => h), h3, h4, h5⟩, h.lk, h.lm, h.bel.trans (hb.mono h.bel.size)⟩
theorem P2.swap {w W : World} {p q : Nat} {K M : Bk} (h : P2 BA w p K q M W) : P2 BA w q M p K W := by
  obtain ⟨B, F, C, G, h1, h2, h3, h4, h5⟩ := h.ba
  exact ⟨⟨C, G, B, F, h2, h1, h4, h3, fun k hG hF => h5 k hF hG⟩, h.lm, h.lk, h.bel⟩
theorem P2.ok1 (I : Ifv BA) {w W : World} {p q : Nat} {K M : Bk} (h : P2 BA w p K q M W) : SrtV K := by
  obtain ⟨B, F, C, G, h1, _⟩ := h.ba
  exact I.ok h1
theorem p2_new (I : Ifv BA) {w W : World} {p : Nat} {K : Bk} (h : Pz BA w p K (fun _ => False) W) : Calls Try.prog 8 #[] W fun e w' => ∃ q, e = .returned (.pointer (some ⟨q, 0, none⟩)) ∧ P2 BA w p K q [] w' := by
  obtain ⟨B, F, h1, h3, _⟩ := h.ta
  refine (I.new W).mono ?_
  rintro e w' ⟨q, G, rfl, hm, hb⟩
  exact ⟨q, rfl, ⟨B, F, W.heap.size, G, I.keep h1 (Kept.of_below (F := fun _ => False) hb) (fun _ _ h => h), hm, h3, h.bel.size, fun k hF hG => by have := (I.lt h1 k hF).2; have := (I.lt hm k hG).1; omega⟩, h.len, by simp, h.bel.trans (hb.mono h.bel.size)⟩
theorem p2_set1 (I : Ifv BA) {w W : World} {p q : Nat} {K M : Bk} (v : Vd) (h : P2 BA w p K q M W) (hl : K.length < 8000) (hv : RgV v) : Calls Try.prog 9 #[.pointer (some ⟨p, 0, none⟩), .agg #[.int .u32 v.c, .int .u32 v.n, .int .u64 v.sp, .int .u32 v.sl, .int .u64 v.ap, .int .u32 v.al, .int .u8 v.pt, .bool v.dn]] W fun e w' => ∃ r, e = .returned (.int .i64 r) ∧ P2 BA w p (setB v K).1 q M w' := by
  obtain ⟨B, F, C, G, h1, h2, h3, h4, h5⟩ := h.ba
  refine (I.set v h1 (by omega) hv).mono ?_
  rintro e w' ⟨rfl, F', hm', hk, hn⟩
  refine ⟨_, rfl, ⟨B, F', C, G, hm', I.keep h2 hk (fun k hG hF => h5 k hF hG), h3, h4, fun k hF hG => ?_⟩, by have := set_len v K; omega, h.lm, h.bel.trans (hk.below h.bel.size (fun k hF => Nat.le_trans h3 (I.lt h1 k hF).1))⟩
  rcases hn k hF with e | e
  · exact h5 k e hG
  · have := (I.lt h2 k hG).2
    omega
theorem p2_set2 (I : Ifv BA) {w W : World} {p q : Nat} {K M : Bk} (v : Vd) (h : P2 BA w p K q M W) (hl : M.length < 8000) (hv : RgV v) : Calls Try.prog 9 #[.pointer (some ⟨q, 0, none⟩), .agg #[.int .u32 v.c, .int .u32 v.n, .int .u64 v.sp, .int .u32 v.sl, .int .u64 v.ap, .int .u32 v.al, .int .u8 v.pt, .bool v.dn]] W fun e w' => ∃ r, e = .returned (.int .i64 r) ∧ P2 BA w p K q (setB v M).1 w' := by
  refine (p2_set1 I v h.swap hl hv).mono ?_
  rintro e w' ⟨r, rfl, h1⟩
  exact ⟨r, rfl, h1.swap⟩
theorem p2_all1 (I : Ifv BA) {w W : World} {p q : Nat} {K M : Bk} (h : P2 BA w p K q M W) : Calls Try.prog 18 #[.pointer (some ⟨p, 0, none⟩)] W fun e w' => ∃ v', e = .returned v' ∧ VsAt w'.heap.size v' K w' ∧ P2 BA w p K q M w' ∧ Below W.heap.size W w' := by
  obtain ⟨B, F, C, G, h1, _⟩ := h.ba
  refine (I.all h1 (by have := h.lk; omega)).mono ?_
  rintro e w' ⟨v', rfl, hi, _, hb⟩
  exact ⟨v', rfl, hi, h.on I hb, hb⟩
theorem p2_all2 (I : Ifv BA) {w W : World} {p q : Nat} {K M : Bk} (h : P2 BA w p K q M W) : Calls Try.prog 18 #[.pointer (some ⟨q, 0, none⟩)] W fun e w' => ∃ v', e = .returned v' ∧ VsAt w'.heap.size v' M w' ∧ P2 BA w p K q M w' ∧ Below W.heap.size W w' := by
  refine (p2_all1 I h.swap).mono ?_
  rintro e w' ⟨v', rfl, h1, h2, h3⟩
  exact ⟨v', rfl, h1, h2.swap, h3⟩
/-- The transactions seen so far. -/
structure Se (L : Bk) (i : Nat) (m : Mm) : Prop where
  has : ∀ j, j < i → getM ((L.getD j dv).c, (L.getD j dv).n) m = some true
  all : ∀ k t, getM k m = some t → t = true
  dst : ∀ a b, a < b → b < i → ¬ ((L.getD a dv).c = (L.getD b dv).c ∧ (L.getD a dv).n = (L.getD b dv).n)
theorem Se.start (L : Bk) : Se L 0 [] := ⟨fun _ h => (by omega), fun _ _ h => (by cases h), fun _ _ _ h => (by omega)⟩
theorem Se.next {L : Bk} {i : Nat} {m : Mm} (h : Se L i m) (hn : (getM ((L.getD i dv).c, (L.getD i dv).n) m).getD false = false) : Se L (i + 1) (setM ((L.getD i dv).c, (L.getD i dv).n) true m) := by
  refine ⟨fun j hj => ?_, fun k t hk => ?_, fun a b hab hb => ?_⟩
  · rw [get_setM]
    split
    · rfl
    · rename_i e
      rcases Nat.lt_or_ge j i with h1 | h1
      · exact h.has j h1
      · have : j = i := by omega
        subst this
        exact absurd rfl e
  · rw [get_setM] at hk
    split at hk
    · injection hk with hk
      exact hk.symm
    · exact h.all k t hk
  · rcases Nat.lt_or_ge b i with h1 | h1
    · exact h.dst a b hab h1
    · have : b = i := by omega
      subst this
      rintro ⟨e1, e2⟩
      have := h.has a hab
      rw [e1, e2] at this
      rw [this] at hn
      cases hn
end Go.Proofs.Ytkadaoebehgkbaa
