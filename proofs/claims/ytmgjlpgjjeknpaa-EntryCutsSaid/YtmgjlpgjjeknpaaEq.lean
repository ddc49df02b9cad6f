/-
  Entries: what is read was written so; nothing else is read; how long the bytes are.
-/
import Derived.Test.YtmgjlpgjjeknpaaEp
namespace Go.Proofs.Ytmgjlpgjjeknpaa

theorem by_ok {k : Int} {st : St} (h : (rBy k st).2.e = 0) : st.e = 0 ∧ st.l = (if hasBy k then numForm (rBy k st).1.1 ++ numForm (rBy k st).1.2 else []) ++ (rBy k st).2.l := by
  unfold rBy at h ⊢
  cases hb : hasBy k with
  | true =>
    simp only [hb, if_true] at h ⊢
    obtain ⟨h1, h2⟩ := num_ok h
    obtain ⟨h3, h4⟩ := num_ok h1
    refine ⟨h3, ?_⟩
    rw [List.append_assoc, ← h2]
    exact h4
  | false =>
    simp only [hb, Bool.false_eq_true, if_false, List.nil_append] at h ⊢
    exact ⟨h, trivial⟩
theorem stp_ok {b : Bool} {st : St} (h : (if b then rdStamp st else ((0, 0), st)).2.e = 0) : st.e = 0 ∧ st.l = (if b then stampForm (if b then rdStamp st else ((0, 0), st)).1.1 (if b then rdStamp st else ((0, 0), st)).1.2 else []) ++ (if b then rdStamp st else ((0, 0), st)).2.l := by
  cases b with
  | true =>
    simp only [if_true] at h ⊢
    exact stamp_ok h
  | false =>
    simp only [Bool.false_eq_true, if_false, List.nil_append] at h ⊢
    exact ⟨h, trivial⟩
theorem wr_ok {st : St} (h : (rWr st).2.e = 0) : st.e = 0 ∧ st.l = wrForm (rWr st).1 ++ (rWr st).2.l := by
  unfold rWr at h ⊢
  simp only at h ⊢
  obtain ⟨h1, h2⟩ := text_ok h
  obtain ⟨h3, h4⟩ := flag_ok h1
  obtain ⟨h5, h6⟩ := text_ok h3
  refine ⟨h5, ?_⟩
  unfold wrForm
  simp only
  rw [List.append_assoc, List.append_assoc, ← h2, ← h4]
  exact h6
theorem ws_ok : ∀ {n : Nat} {st : St}, (rWs n st).2.e = 0 → st.e = 0 ∧ st.l = wsForm (rWs n st).1 ++ (rWs n st).2.l
  | 0, st, h => ⟨h, rfl⟩
  | n + 1, st, h => by
    unfold rWs at h ⊢
    simp only at h ⊢
    obtain ⟨h1, h2⟩ := wr_ok h
    obtain ⟨h3, h4⟩ := ws_ok h1
    refine ⟨h3, ?_⟩
    rw [ws_snoc, List.append_assoc, ← h2]
    exact h4
theorem rWs_len : ∀ (n : Nat) (st : St), (rWs n st).1.length = n
  | 0, _ => rfl
  | n + 1, st => by
    unfold rWs
    simp [rWs_len n st]
/-- What is read was written so. -/
theorem raw_ok {s : List UInt8} (h : (rawE s).2.e = 0) : s = formE (rawE s).1 ++ (rawE s).2.l := by
  unfold rawE at h ⊢
  simp only at h ⊢
  generalize hk : (rdNum 9 ⟨s, 0⟩).1 = k at h ⊢
  generalize ha0 : (rdNum 9 ⟨s, 0⟩).2 = s0 at h ⊢
  generalize ha1 : rBy (k : Int) s0 = a1 at h ⊢
  generalize ha2 : rSt (k : Int) a1.2 = a2 at h ⊢
  generalize ha3 : rMin (k : Int) a2.2 = a3 at h ⊢
  generalize ha4 : rPrim (k : Int) a3.2 = a4 at h ⊢
  generalize ha5 : rCnt (k : Int) a4.2 = a5 at h ⊢
  generalize ha6 : rAt (k : Int) a5.2 = a6 at h ⊢
  generalize ha7 : rWs a5.1 a6.2 = a7 at h ⊢
  generalize ha8 : rPt (k : Int) a7.2 = a8 at h ⊢
  generalize ha9 : rDn (k : Int) a8.2 = a9 at h ⊢
  have l7 : a7.1.length = a5.1 := by rw [← ha7]; exact rWs_len _ _
  have h9 : a8.2.e = 0 ∧ a8.2.l = (if (k : Int) = 9 then flagForm a9.1 else []) ++ a9.2.l := by
    rw [← ha9] at h ⊢
    unfold rDn at h ⊢
    by_cases hk9 : (k : Int) = 9
    · simp only [hk9, if_true] at h ⊢
      exact flag_ok h
    · simp only [hk9, if_false, List.nil_append] at h ⊢
      exact ⟨h, trivial⟩
  have h8 : a7.2.e = 0 ∧ a7.2.l = (if hasPt k then numForm a8.1 else []) ++ a8.2.l := by
    have := h9.1
    rw [← ha8] at this ⊢
    unfold rPt at this ⊢
    cases hq : hasPt k with
    | true =>
      simp only [hq, if_true] at this ⊢
      exact num_ok this
    | false =>
      simp only [hq, Bool.false_eq_true, if_false, List.nil_append] at this ⊢
      exact ⟨this, trivial⟩
  have h7 : a6.2.e = 0 ∧ a6.2.l = wsForm a7.1 ++ a7.2.l := by
    have := h8.1
    rw [← ha7] at this ⊢
    exact ws_ok this
  have h6 : a5.2.e = 0 ∧ a5.2.l = (if hasAt k then stampForm a6.1.1 a6.1.2 else []) ++ a6.2.l := by
    have := h7.1
    rw [← ha6] at this ⊢
    unfold rAt at this ⊢
    exact stp_ok this
  have h0 : ∀ {e0 : Nat}, s0.e = e0 → e0 = 0 → s = numForm k ++ s0.l := fun e1 e2 => by
    have := num_ok (most := 9) (st := ⟨s, 0⟩) (by rw [ha0, e1, e2])
    rw [hk, ha0] at this
    exact this.2
  have h1 : a1.2.e = 0 → s0.e = 0 ∧ s0.l = (if hasBy k then numForm a1.1.1 ++ numForm a1.1.2 else []) ++ a1.2.l := fun e1 => by
    rw [← ha1] at e1 ⊢
    exact by_ok e1
  have h2 : a2.2.e = 0 → a1.2.e = 0 ∧ a1.2.l = (if hasSt k then stampForm a2.1.1 a2.1.2 else []) ++ a2.2.l := fun e1 => by
    rw [← ha2] at e1 ⊢
    unfold rSt at e1 ⊢
    exact stp_ok e1
  have h345 : a2.2.e = 0 ∧ a2.2.l = (if (k : Int) = 2 then stampForm a3.1.1 a3.1.2 ++ (textForm a4.1 ++ numForm a7.1.length) else []) ++ a5.2.l := by
    have e5 := h6.1
    rw [l7]
    by_cases hk2 : (k : Int) = 2
    · unfold rCnt at ha5
      unfold rPrim at ha4
      unfold rMin at ha3
      rw [if_pos hk2] at ha5 ha4 ha3
      rw [if_pos hk2]
      rw [← ha5] at e5 ⊢
      obtain ⟨q1, q2⟩ := num_ok e5
      rw [← ha4] at q1 q2 ⊢
      obtain ⟨q3, q4⟩ := text_ok q1
      rw [← ha3] at q2 q3 q4 ⊢
      obtain ⟨q5, q6⟩ := stamp_ok q3
      refine ⟨q5, ?_⟩
      rw [List.append_assoc, List.append_assoc, ← q2, ← q4]
      exact q6
    · unfold rCnt at ha5
      unfold rPrim at ha4
      unfold rMin at ha3
      rw [if_neg hk2] at ha5 ha4 ha3
      rw [if_neg hk2]
      rw [← ha5] at e5 ⊢
      rw [← ha4] at e5 ⊢
      rw [← ha3] at e5 ⊢
      exact ⟨e5, rfl⟩
  obtain ⟨g1, g2⟩ := h2 h345.1
  obtain ⟨g3, g4⟩ := h1 g1
  have g5 := h0 rfl g3
  unfold formE byForm stForm midForm ptForm dnForm
  simp only [Int.toNat_natCast]
  have hmid : (if (k : Int) = 2 then stampForm a3.1.1 a3.1.2 ++ (textForm a4.1 ++ numForm a7.1.length) else []) ++ (if hasAt k then stampForm a6.1.1 a6.1.2 else []) = (if (k : Int) = 2 then stampForm a3.1.1 a3.1.2 ++ (textForm a4.1 ++ numForm a7.1.length) else if hasAt k then stampForm a6.1.1 a6.1.2 else []) := by
    by_cases hk2 : (k : Int) = 2
    · have : hasAt (k : Int) = false := by rw [hk2]; rfl
      rw [if_pos hk2, if_pos hk2, this]
      simp
    · rw [if_neg hk2, if_neg hk2, List.nil_append]
  rw [← hmid]
  simp only [List.append_assoc]
  rw [← h9.2, ← h8.2, ← h7.2, ← h6.2]
  have g6 := h345.2
  rw [g5, g4, g2, g6]

theorem end_ok {st : St} : rdEnd st = 0 ↔ st.e = 0 ∧ st.l = [] := by
  unfold rdEnd
  by_cases h : st.e = 0
  · simp only [h, ne_eq, not_true_eq_false, if_false, true_and]
    by_cases h2 : st.l = []
    · simp [h2]
    · simp [h2]
  · simp [h]
theorem raw_rg (s : List UInt8) : RgE (rawE s).1 := by
  unfold rawE
  simp only
  generalize (rdNum 9 ⟨s, 0⟩) = a0
  refine ⟨?_, ?_, ?_⟩
  · simp only
    unfold rBy
    split
    · have := (rdNum_le 4294967295 a0.2).1
      simp only
      omega
    · simp
  · simp only
    unfold rBy
    split
    · have := (rdNum_le 4294967295 (rdNum 4294967295 a0.2).2).1
      simp only
      omega
    · simp
  · simp only
    generalize (rWs _ _).2 = st
    unfold rPt
    split
    · have := (rdNum_le 255 st).1
      omega
    · simp
theorem read_form {e : En} (h : rightE e = true) (hr : RgE e) : readE (formE e) = some e := by
  have := raw_form [] h hr
  rw [List.append_nil] at this
  unfold readE
  rw [this, if_pos ⟨rfl, h⟩]
theorem read_more {e : En} {R : List UInt8} (h : rightE e = true) (hr : RgE e) (hR : R ≠ []) : readE (formE e ++ R) = none := by
  unfold readE
  rw [raw_form R h hr, if_neg]
  rintro ⟨h1, _⟩
  exact hR (end_ok.1 h1).2
theorem read_some {s : List UInt8} {e : En} (h : readE s = some e) : rightE e = true ∧ formE e = s ∧ RgE e := by
  unfold readE at h
  split at h
  · rename_i h1
    injection h with h
    subst h
    obtain ⟨h2, h3⟩ := end_ok.1 h1.1
    have := raw_ok h2
    rw [h3, List.append_nil] at this
    exact ⟨h1.2, this.symm, raw_rg s⟩
  · cases h
theorem read_cut {e : En} {c : Nat} (h : rightE e = true) (hr : RgE e) (hc : c < (formE e).length) : readE ((formE e).take c) = none := by
  cases h1 : readE ((formE e).take c) with
  | none => rfl
  | some e' =>
    obtain ⟨h2, h3, h4⟩ := read_some h1
    have h5 := read_more (R := (formE e).drop c) h2 h4 (by
      intro h6
      have := congrArg List.length h6
      simp at this
      omega)
    rw [h3, List.take_append_drop, read_form h hr] at h5
    cases h5
theorem form_inj {a b : En} (ha : rightE a = true) (hb : rightE b = true) (ra : RgE a) (rb : RgE b) : formE a = formE b ↔ a = b := by
  constructor
  · intro h
    have h1 := read_form ha ra
    rw [h, read_form hb rb] at h1
    injection h1 with h1
    exact h1.symm
  · rintro rfl
    rfl
theorem nf_len {n : Nat} (h : n < 18446744073709551616) : (numForm n).length ≤ 9 := by rw [numForm_length]; exact sz_le h
theorem ws_len {ws : List Wr} (h : ∀ w ∈ ws, wOk w = true) : (wsForm ws).length ≤ 307 * ws.length := by
  induction ws with
  | nil => simp [wsForm]
  | cons w r ih =>
    have h1 := ih (fun x hx => h x (List.mem_cons_of_mem _ hx))
    obtain ⟨⟨_, h2⟩, h3⟩ := wOk_iff (h w (List.mem_cons_self ..))
    have e1 := nf_len (n := w.key.length) (by omega)
    have e2 := nf_len (n := w.val.length) (by omega)
    have : wsForm (w :: r) = wrForm w ++ wsForm r := rfl
    rw [this]
    simp only [wrForm, textForm, flagForm, List.length_append, List.length_cons, List.length_nil]
    omega
theorem form_len {e : En} (h : rightE e = true) (hr : RgE e) : (formE e).length ≤ 16000 := by
  obtain ⟨⟨hk1, hk9⟩, _, ⟨hs1, hs2, hs3⟩, hk⟩ := rightE_iff h
  obtain ⟨hw1, hw2, _⟩ := right_ws h
  have hw := ws_len hw1
  have hc := hr.c
  have hn := hr.n
  have hp := hr.pt
  obtain ⟨s1, s2⟩ := rightS_iff.1 hs1
  obtain ⟨s3, s4⟩ := rightS_iff.1 hs2
  obtain ⟨s5, s6⟩ := rightS_iff.1 hs3
  have b0 := nf_len (n := e.k.toNat) (by omega)
  have b1 : (byForm e).length ≤ 18 := by
    have := nf_len (n := e.c) (by omega)
    have := nf_len (n := e.n) (by omega)
    unfold byForm
    split
    · rw [List.length_append]; omega
    · simp
  have b2 : (stForm e).length ≤ 18 := by
    have := nf_len (n := e.sp) (by omega)
    have := nf_len (n := e.sl) (by omega)
    unfold stForm stampForm
    split
    · rw [List.length_append]; omega
    · simp
  have b3 : (midForm e).length ≤ 68 := by
    have := nf_len (n := e.ap) (by omega)
    have := nf_len (n := e.al) (by omega)
    have := nf_len (n := e.mp) (by omega)
    have := nf_len (n := e.ml) (by omega)
    have := nf_len (n := e.ws.length) (by omega)
    unfold midForm stampForm textForm
    split
    · rename_i h2
      unfold kindOk at hk
      rw [if_pos h2] at hk
      simp only [Bool.and_eq_true, kOk_iff] at hk
      have := nf_len (n := e.prim.length) (by omega)
      simp only [List.length_append]
      omega
    · split
      · rw [List.length_append]; omega
      · simp
  have b4 : (ptForm e).length ≤ 9 := by
    have := nf_len (n := e.pt) (by omega)
    unfold ptForm
    split
    · omega
    · simp
  have b5 : (dnForm e).length ≤ 1 := by
    unfold dnForm flagForm
    split <;> simp
  unfold formE
  simp only [List.length_append]
  omega
end Go.Proofs.Ytmgjlpgjjeknpaa
