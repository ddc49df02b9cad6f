/-
  The document's Write, kind by kind.
-/
import Derived.Test.YtmgjlpgjjeknpaaWf
namespace Go.Proofs.Ytmgjlpgjjeknpaa
open Go.RowKit Go.Sort

/-- What a right entry's parts keep to. -/
structure Wk (c n sp sq ap aq mp mq : Nat) (prim : List UInt8) (pt : Nat) (ws : List Wr) : Prop where
  c : c < 4294967296
  n : n < 4294967296
  sp : sp ≤ 281474976710656
  sq : sq ≤ 4095
  ap : ap ≤ 281474976710656
  aq : aq ≤ 4095
  mp : mp ≤ 281474976710656
  mq : mq ≤ 4095
  prim : prim.length ≤ 1000
  pt : pt < 256
  len : ws.length ≤ 16
  ws : ∀ w ∈ ws, wOk w = true
theorem u64w {n : Nat} (h : n < 9223372036854775808) : IntKind.u64.wrap (n : Int) = n := by
  simp [IntKind.wrap, IntKind.signed, IntKind.bits]
  omega
theorem stf_len {p q : Nat} (hp : p ≤ 281474976710656) (hq : q ≤ 4095) : (stampForm p q).length ≤ 18 := by
  have := nf_len (n := p) (by omega)
  have := nf_len (n := q) (by omega)
  unfold stampForm
  rw [List.length_append]
  omega
theorem take_form {ws : List Wr} {m : Nat} (h : m < ws.length) : wsForm (ws.take (m + 1)) = wsForm (ws.take m) ++ wrForm (ws.getD m dw) := by
  rw [List.take_succ_eq_append_getElem h, ws_snoc, show ws.getD m dw = ws[m] from by simp [List.getD, h]]
theorem wf_len {x : Wr} (h : wOk x = true) : (wrForm x).length ≤ 2100 := by
  obtain ⟨⟨_, h2⟩, h3⟩ := wOk_iff h
  have l1 := tf_len (s := x.key) (by omega)
  have l2 := tf_len (s := x.val) (by omega)
  have l3 := ff_len x.dead
  unfold wrForm
  rw [List.length_append, List.length_append]
  omega
theorem wk_of {e : En} (h : rightE e = true) (hr : RgE e) : Wk e.c e.n e.sp e.sl e.ap e.al e.mp e.ml e.prim e.pt e.ws := by
  obtain ⟨⟨hk1, hk9⟩, hb, ⟨hs1, hs2, hs3⟩, hk⟩ := rightE_iff h
  obtain ⟨hw1, hw2, _⟩ := right_ws h
  have hp : e.prim.length ≤ 1000 := by
    by_cases h2 : e.k = 2
    · unfold kindOk at hk
      rw [if_pos h2] at hk
      simp only [Bool.and_eq_true, kOk_iff] at hk
      omega
    · have : e.prim = [] := by have := congrArg En.prim hb; rw [bareE] at this; simpa [h2] using this
      rw [this]
      simp
  exact ⟨hr.c, hr.n, (rightS_iff.1 hs1).1, (rightS_iff.1 hs1).2, (rightS_iff.1 hs2).1, (rightS_iff.1 hs2).2, (rightS_iff.1 hs3).1, (rightS_iff.1 hs3).2, hp, hr.pt, hw2, hw1⟩
end Go.Proofs.Ytmgjlpgjjeknpaa
