/-
  The document's committed, place, Of.
-/
import Derived.Test.YtkadaoebehgkbaaAmg
import Derived.BigQuiet
namespace Go.Proofs.Ytkadaoebehgkbaa
open Go.RowKit

set_option maxHeartbeats 400000 in
set_option maxRecDepth 100000 in
theorem com22 (x : Vd) (w : World) : Calls Try.prog 21 #[.agg #[.int .u32 x.c, .int .u32 x.n, .int .u64 x.sp, .int .u32 x.sl, .int .u64 x.ap, .int .u32 x.al, .int .u8 x.pt, .bool x.dn]] w fun e w' => e = .returned (.bool (cmB x)) ∧ Below w.heap.size w w' := by
  have hq := run_neq35 x.ap x.al 0 0
  have HB : Hid (∀ o, Below w.heap.size w (w.alloc o)) := fun o => al o
  have HC : Hid (cmB x = !(x.ap == 0 && x.al == 0)) := rfl
  generalize (x.ap == 0 && x.al == 0) = z at *
  go_enter Try.func21, Try.ntmps21
  go_wp2_with fail
  go_ret
  exact ⟨by rw [HC.out]; rfl, HB.out _⟩

/-- How many stand ahead of (c, n). -/
def plN (c n : Int) : Bk → Nat
  | [] => 0
  | x :: K => if ltT x.c x.n c n then plN c n K + 1 else 0
theorem plN_le (c n : Int) : ∀ K : Bk, plN c n K ≤ K.length
  | [] => Nat.le_refl _
  | x :: K => by
    unfold plN
    split
    · simp only [List.length_cons]; have := plN_le c n K; omega
    · simp
theorem plN_lt {c n : Int} : ∀ {K : Bk} {i : Nat}, i < plN c n K → ltT (K.getD i dv).c (K.getD i dv).n c n = true
  | [], i, h => by simp [plN] at h
  | x :: K, i, h => by
    unfold plN at h
    split at h
    · rename_i e
      cases i with
      | zero => exact e
      | succ i => exact plN_lt (K := K) (i := i) (by omega)
    · omega
theorem plN_at {c n : Int} : ∀ {K : Bk}, plN c n K < K.length → ltT (K.getD (plN c n K) dv).c (K.getD (plN c n K) dv).n c n = false
  | [], h => by simp at h
  | x :: K, h => by
    unfold plN at h ⊢
    split
    · rename_i e
      rw [if_pos e] at h
      exact plN_at (K := K) (by simpa using h)
    · rename_i e
      simpa using e
theorem plN_eq {c n : Int} {K : Bk} {m : Nat} (hm : m ≤ K.length) (h1 : ∀ i, i < m → ltT (K.getD i dv).c (K.getD i dv).n c n = true) (h2 : m < K.length → ltT (K.getD m dv).c (K.getD m dv).n c n = false) : plN c n K = m := by
  rcases Nat.lt_trichotomy (plN c n K) m with h | h | h
  · have := plN_at (c := c) (n := n) (K := K) (by omega)
    rw [h1 _ h] at this
    cases this
  · exact h
  · have := plN_lt h
    rw [h2 (by have := plN_le c n K; omega)] at this
    cases this
/-- What stands at that place. -/
theorem get_pl {c n : Int} : ∀ {K : Bk}, SrtV K → getB c n K = if plN c n K < K.length ∧ ofN c n (K.getD (plN c n K) dv) = true then some (K.getD (plN c n K) dv) else none
  | [], _ => by simp [getB, plN]
  | x :: K, hs => by
    obtain ⟨hs1, hs2⟩ := List.pairwise_cons.1 hs
    unfold getB plN
    by_cases hlt : ltT x.c x.n c n = true
    · have hno : ofN c n x = false := by
        cases h : ofN c n x with
        | false => rfl
        | true =>
          obtain ⟨a1, a2⟩ := ofN_iff.1 h
          rw [a1, a2, ltT_irrefl] at hlt
          cases hlt
      rw [if_neg (by simp [hno]), if_pos hlt, get_pl hs2]
      simp
    · rw [if_neg hlt]
      by_cases ho : ofN c n x = true
      · rw [if_pos ho, if_pos ⟨by simp, ho⟩]
        rfl
      · rw [if_neg ho, if_neg (fun h => ho h.2)]
        cases hg : getB c n K with
        | none => rfl
        | some o =>
          obtain ⟨h1, h2, h3⟩ := get_mem hg
          have := hs1 o h1
          rw [h2, h3] at this
          exact absurd this hlt
theorem ins_pl (v : Vd) : ∀ K : Bk, insB v K = K.take (plN v.c v.n K) ++ v :: K.drop (plN v.c v.n K)
  | [] => rfl
  | x :: K => by
    unfold insB plN
    split
    · rw [ins_pl v K]
      simp
    · rfl
def thB (c n : Int) (K : Bk) : Bool := decide (plN c n K < K.length) && ofN c n (K.getD (plN c n K) dv)
theorem thB_get {c n : Int} {K : Bk} (hs : SrtV K) : thB c n K = (getB c n K).isSome := by
  rw [get_pl hs]
  unfold thB
  generalize K.getD (plN c n K) dv = x
  by_cases h1 : plN c n K < K.length <;> by_cases h2 : ofN c n x = true <;> simp [h1, h2]

set_option maxHeartbeats 3200000 in
set_option maxRecDepth 100000 in
theorem place23 (B rb : Nat) (sl : Value) (K : Bk) (c n : Int) (w : World) (h : RbAt B rb sl K w) (hl : K.length < 100000) :
    Calls Try.prog 22 #[.pointer (some ⟨rb, 0, none⟩), .agg #[.int .u32 c, .int .u32 n]] w fun e w' => e = .returned (.tuple #[.int .i64 (plN c n K), .bool (thB c n K)]) ∧ Below w.heap.size w w' := by
  obtain ⟨ao, cap, rfl, hlc, hcm⟩ := h.is.shape
  obtain ⟨W0, hW0⟩ : ∃ W0, w.alloc (.cells #[.int .u32 c, .int .u32 n] 32) = W0 := ⟨_, rfl⟩
  have hb0 : Below w.heap.size w W0 := by rw [← hW0]; exact al _
  have hx0 : W0.heap[w.heap.size]? = some (.cells #[.int .u32 c, .int .u32 n] 32 (0, 0)) := by rw [← hW0]; exact heap_alloc_new w _
  obtain ⟨bx, hbx⟩ : ∃ bx, w.heap.size = bx := ⟨_, rfl⟩
  rw [hbx] at hx0
  have h0 := h.on hb0
  have HB : Hid (Below w.heap.size w W0) := hb0
  have HC : Hid (∀ W, Below W0.heap.size W0 W → W.cell? ⟨bx, 0, none⟩ = some (.int .u32 c) ∧ W.cell? ⟨bx, 1, none⟩ = some (.int .u32 n) ∧ W.cell? ⟨rb, 0, none⟩ = some (.slice ao K.length cap) ∧ ∀ i, i < K.length → ∃ b off, ao = some ⟨b, off, none⟩ ∧ VdAt W b (off + i * 8) (K.getD i dv)) := fun W hb => by
    have hx : W.heap[bx]? = some (.cells #[.int .u32 c, .int .u32 n] 32 (0, 0)) := by rw [hb.block _ (Array.getElem?_eq_some_iff.1 hx0).1]; exact hx0
    exact ⟨block_cell hx rfl, block_cell hx rfl, (h0.on hb).cell, fun i hi => (h0.on hb).is.el hi⟩
  have HBX : Hid (w.heap.size = bx) := hbx
  have HFin : Hid (∀ m, m ≤ K.length → (∀ i, i < m → ltT (K.getD i dv).c (K.getD i dv).n c n = true) → (m < K.length → ltT (K.getD m dv).c (K.getD m dv).n c n = false) → plN c n K = m ∧ thB c n K = (decide (m < K.length) && ofN c n (K.getD m dv))) := fun m hm h1 h2 => by
    have e := plN_eq hm h1 h2
    exact ⟨e, by unfold thB; rw [e]⟩
  obtain ⟨pl, hpl⟩ : ∃ pl, plN c n K = pl := ⟨_, rfl⟩
  obtain ⟨th, hth⟩ : ∃ th, thB c n K = th := ⟨_, rfl⟩
  rw [hpl, hth] at HFin
  rw [hpl, hth]
  clear h h0 hb0 hx0 hlc hcm hpl hth
  go_enter Try.func22, Try.ntmps22
  go_wp2_with fail
  clear hW0 hbx
  go_loopw [6] (fun i wr => Below W0.heap.size W0 wr ∧ ∃ m : Nat, m ≤ K.length ∧ i = .int .i64 m ∧ ∀ j, j < m → ltT (K.getD j dv).c (K.getD j dv).n c n = true) (fun i _ => K.length - (intOf i).toNat)
  case atStart => exact ⟨Below.refl _ _, 0, Nat.zero_le _, rfl, fun _ h => by omega⟩
  case round =>
    obtain ⟨hbr, m, hm, rfl, hlt⟩ := hrel
    have HBr : Hid _ := hbr
    have HLt : Hid _ := hlt
    obtain ⟨x0, x1, d0, hel⟩ := HC.out wr hbr
    by_cases hml : m < K.length
    · obtain ⟨b, off, rfl, e0, e1, -, -, -, -, -, -⟩ := hel m hml
      have hml' : (m : Int) < K.length := by omega
      have hd : decide ((m : Int) < K.length) = true := by simpa using hml'
      have HQ : Hid (m + 1 ≤ K.length) := hml
      have HX : Hid (ltT (K.getD m dv).c (K.getD m dv).n c n = false → pl = m ∧ th = ofN c n (K.getD m dv)) := fun h1 => by
        obtain ⟨a1, a2⟩ := HFin.out m hm hlt (fun _ => h1)
        exact ⟨a1, by rw [a2]; simp [hml]⟩
      have HGo : Hid (ltT (K.getD m dv).c (K.getD m dv).n c n = true → ∀ j, j < m + 1 → ltT (K.getD j dv).c (K.getD j dv).n c n = true) := fun h1 j hj => by
        rcases Nat.lt_or_ge j m with h2 | h2
        · exact HLt.out j h2
        · have : j = m := by omega
          rw [this]
          exact h1
      clear hel hlt HFin HC
      generalize K.getD m dv = x at *
      by_cases h1 : x.c < c
      · have h1d : decide (x.c < c) = true := by simpa using h1
        have HN : Hid _ := HGo.out (by rw [ltT_iff]; exact .inl h1)
        clear HX HGo hbr
        go_wp2_with fail
        go_quiet (fail)
        go_wp2_with fail
        go_roundw
        case rel => exact ⟨below_drewN HBr.out _, m + 1, HQ.out, by go_num, HN.out⟩
        case measure => simp [intOf]; omega
      · have h1d : decide (x.c < c) = false := by simpa using h1
        by_cases h2 : x.c = c
        · have h2d : (x.c == c) = true := by simpa using h2
          by_cases h3 : x.n < n
          · have h3d : decide (x.n < n) = true := by simpa using h3
            have HN : Hid _ := HGo.out (by rw [ltT_iff]; exact .inr ⟨h2, h3⟩)
            clear HX HGo hbr h2
            go_wp2_with fail
            go_quiet (fail)
            go_wp2_with fail
            go_roundw
            case rel => exact ⟨below_drewN HBr.out _, m + 1, HQ.out, by go_num, HN.out⟩
            case measure => simp [intOf]; omega
          · have h3d : decide (x.n < n) = false := by simpa using h3
            obtain ⟨rfl, hth⟩ := HX.out (by rw [← Bool.not_eq_true, ltT_iff]; omega)
            have hq := run_eql32 x.c x.n c n
            have HT : Hid (th = (x.c == c && x.n == n)) := hth
            generalize (x.c == c && x.n == n) = z at *
            clear HX HGo hbr hth h2
            go_wp2_with fail
            go_quiet (fail)
            have HBd : Hid (Below W0.heap.size W0 (wr.drewN nq)) := below_drewN HBr.out _
            have x0' : (wr.drewN nq).cell? ⟨bx, 0, none⟩ = some (.int .u32 c) := x0
            have x1' : (wr.drewN nq).cell? ⟨bx, 1, none⟩ = some (.int .u32 n) := x1
            have d0' : (wr.drewN nq).cell? ⟨rb, 0, none⟩ = some (.slice (some ⟨b, off, none⟩) K.length cap) := d0
            have e0' : (wr.drewN nq).cell? ⟨b, off + pl * 8, none⟩ = some (.int .u32 x.c) := e0
            have e1' : (wr.drewN nq).cell? ⟨b, off + pl * 8 + 1, none⟩ = some (.int .u32 x.n) := e1
            generalize wr.drewN nq = wd at *
            clear x0 x1 d0 e0 e1
            go_wp2_with fail
            go_quiet (fail)
            go_wp2_with fail
            go_ret2
            exact ⟨by rw [HT.out]; rfl, HB.out.trans ((below_drewN HBd.out _).mono HB.out.size)⟩
        · have h2d : (x.c == c) = false := by simpa using h2
          obtain ⟨rfl, hth⟩ := HX.out (by rw [← Bool.not_eq_true, ltT_iff]; omega)
          have hq := run_eql32 x.c x.n c n
          have HT : Hid (th = (x.c == c && x.n == n)) := hth
          generalize (x.c == c && x.n == n) = z at *
          clear HX HGo hbr hth
          go_wp2_with fail
          go_quiet (fail)
          have HBd : Hid (Below W0.heap.size W0 (wr.drewN nq)) := below_drewN HBr.out _
          have x0' : (wr.drewN nq).cell? ⟨bx, 0, none⟩ = some (.int .u32 c) := x0
          have x1' : (wr.drewN nq).cell? ⟨bx, 1, none⟩ = some (.int .u32 n) := x1
          have d0' : (wr.drewN nq).cell? ⟨rb, 0, none⟩ = some (.slice (some ⟨b, off, none⟩) K.length cap) := d0
          have e0' : (wr.drewN nq).cell? ⟨b, off + pl * 8, none⟩ = some (.int .u32 x.c) := e0
          have e1' : (wr.drewN nq).cell? ⟨b, off + pl * 8 + 1, none⟩ = some (.int .u32 x.n) := e1
          generalize wr.drewN nq = wd at *
          clear x0 x1 d0 e0 e1
          go_wp2_with fail
          go_quiet (fail)
          go_wp2_with fail
          go_ret2
          exact ⟨by rw [HT.out]; rfl, HB.out.trans ((below_drewN HBd.out _).mono HB.out.size)⟩
    · have hml' : ¬ (m : Int) < K.length := by omega
      have hd : decide ((m : Int) < K.length) = false := by simpa using hml'
      obtain ⟨rfl, hth⟩ := HFin.out m hm hlt (fun h => absurd h hml)
      have HT : Hid (th = false) := by show _ = _; rw [hth]; simp [hml]
      clear hel hlt HFin HC hbr hth
      go_wp2_with fail
      go_quiet (fail)
      have HBd : Hid (Below W0.heap.size W0 (wr.drewN nq)) := below_drewN HBr.out _
      have x0' : (wr.drewN nq).cell? ⟨bx, 0, none⟩ = some (.int .u32 c) := x0
      have x1' : (wr.drewN nq).cell? ⟨bx, 1, none⟩ = some (.int .u32 n) := x1
      have d0' : (wr.drewN nq).cell? ⟨rb, 0, none⟩ = some (.slice ao K.length cap) := d0
      generalize wr.drewN nq = wd at *
      clear x0 x1 d0
      go_wp2_with fail
      go_quiet (fail)
      go_wp2_with fail
      go_ret2
      exact ⟨by rw [HT.out]; rfl, HB.out.trans ((below_drewN HBd.out _).mono HB.out.size)⟩
end Go.Proofs.Ytkadaoebehgkbaa
