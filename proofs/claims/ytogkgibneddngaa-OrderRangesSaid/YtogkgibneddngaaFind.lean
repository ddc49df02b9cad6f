/-
  Contract of find: the node of a key (a label and a goto).
-/
import Derived.Test.YtogkgibneddngaaNode
import Derived.ScopeJumps
import Derived.WalkMore
namespace Go.Proofs.Ytogkgibneddngaa
open Go.RowKit

/-- As Q; by a goto to a label: J. -/
def onJump (J : Nat → Act → World → Prop) (Q : Exit → Act → World → Prop) : Exit → Act → World → Prop
  | .goto l, a, w => J l a w
  | e, a, w => Q e a w

theorem scope_labels {P : Program} {a : Act} {w : World} {Q : Exit → Act → World → Prop} {c : Code} (J : Nat → Act → World → Prop) (μ : Nat → Act → World → Nat)
    (pass : ∀ l a w, J l a w → ∃ rest, findLabel c l = some (Code.skip.seq rest) ∧ rest.wp P (onJump (fun l' a' w' => J l' a' w' ∧ μ l' a' w' < μ l a w) Q) a w)
    (first : (∀ l a w rest, findLabel c l = some (Code.skip.seq rest) → J l a w → rest.wp P (onJump J Q) a w) → c.wp P (onJump J Q) a w) : (Code.scope c).wp P Q a w := by
  have first := first (fun l a w rest hr hJ => by
    obtain ⟨r, hr', hwp⟩ := pass l a w hJ
    rw [hr] at hr'
    injection hr' with hr'
    injection hr' with _ hr'
    subst hr'
    refine Code.wp_mono ?_ hwp
    intro e a1 w1 hq
    cases e with
    | goto l' => exact hq.1
    | normal => exact hq
    | exit id => exact hq
    | ret => exact hq
    | panic ch => exact hq
    | outgrown => exact hq)
  intro b k cs
  have key : ∀ n l a w rest, findLabel c l = some rest → μ l a w = n → J l a w → ∃ e a' w', Q e a' w' ∧ Arrives P (lone (b.at a (.code rest :: .inScope c :: k)) cs w) b k cs e a' w' := by
    intro n
    induction n using Nat.strongRecOn with
    | ind n ih =>
      intro l a w rest hr hn hJ
      obtain ⟨rest', hr', hwp⟩ := pass l a w hJ
      rw [hr] at hr'
      injection hr' with hr'
      subst hr'
      have hwp2 : (Code.skip.seq rest').wp P (onJump (fun l' a' w' => J l' a' w' ∧ μ l' a' w' < μ l a w) Q) a w := wp_seq (wp_skip hwp)
      obtain ⟨e, a1, w1, hq, harr⟩ := hwp2 b (.inScope c :: k) cs
      cases e with
      | normal => exact ⟨.normal, a1, w1, hq, Steps.trans harr (.one step_inScope)⟩
      | exit id => exact ⟨.exit id, a1, w1, hq, fun k' hk => harr k' (by simp [exitTo, hk])⟩
      | goto l' =>
        obtain ⟨hJ', hlt⟩ := hq
        obtain ⟨r2, hr2, _⟩ := pass l' a1 w1 hJ'
        obtain ⟨e2, a2, w2, hq2, harr2⟩ := ih _ (by omega) l' a1 w1 _ hr2 rfl hJ'
        exact ⟨e2, a2, w2, hq2, .of_steps (harr _ (by simp [gotoIn, hr2])) harr2⟩
      | ret => exact ⟨_, a1, w1, hq, harr⟩
      | panic ch => exact ⟨_, a1, w1, hq, harr⟩
      | outgrown => exact ⟨_, a1, w1, hq, harr⟩
  obtain ⟨e, a1, w1, hq, harr⟩ := first b (.inScope c :: k) cs
  cases e with
  | normal => exact ⟨.normal, a1, w1, hq, .head step_scope (Steps.trans harr (.one step_inScope))⟩
  | exit id => exact ⟨.exit id, a1, w1, hq, fun k' hk => .head step_scope (harr k' (by simp [exitTo, hk]))⟩
  | goto l' =>
    obtain ⟨r2, hr2, _⟩ := pass l' a1 w1 hq
    obtain ⟨e2, a2, w2, hq2, harr2⟩ := key _ l' a1 w1 _ hr2 rfl hq
    exact ⟨e2, a2, w2, hq2, .of_steps (.head step_scope (harr _ (by simp [gotoIn, hr2]))) harr2⟩
  | ret => exact ⟨_, a1, w1, hq, .of_steps (.one step_scope) harr⟩
  | panic ch => exact ⟨_, a1, w1, hq, .of_steps (.one step_scope) harr⟩
  | outgrown => exact ⟨_, a1, w1, hq, .of_steps (.one step_scope) harr⟩


/-- The frame at the label. -/
def AtLook (p : Nat) (key : List UInt8) (o : Value) (a : Act) : Prop :=
  ∃ u6 u7 u8 u9 u10 u11 u12 u13 u14 u15 u16 u17 u18 u19 u20 u21 u22 u23 u24 u25 u26 u27 u28 u29 u30 u31 u32 u33 u34 u35 u36 : Value, a = { tmps := #[.pointer (some ⟨p, 0, none⟩), .string (bs key), undef, undef, .pointer none, o, u6, u7, u8, u9, u10, u11, u12, u13, u14, u15, u16, u17, u18, u19, u20, u21, u22, u23, u24, u25, u26, u27, u28, u29, u30, u31, u32, u33, u34, u35, u36], defers := [] }
theorem atLook {p : Nat} {key : List UInt8} {o : Value} {u6 u7 u8 u9 u10 u11 u12 u13 u14 u15 u16 u17 u18 u19 u20 u21 u22 u23 u24 u25 u26 u27 u28 u29 u30 u31 u32 u33 u34 u35 u36 : Value} : AtLook p key o { tmps := #[.pointer (some ⟨p, 0, none⟩), .string (bs key), undef, undef, .pointer none, o, u6, u7, u8, u9, u10, u11, u12, u13, u14, u15, u16, u17, u18, u19, u20, u21, u22, u23, u24, u25, u26, u27, u28, u29, u30, u31, u32, u33, u34, u35, u36], defers := [] } :=
  ⟨u6, u7, u8, u9, u10, u11, u12, u13, u14, u15, u16, u17, u18, u19, u20, u21, u22, u23, u24, u25, u26, u27, u28, u29, u30, u31, u32, u33, u34, u35, u36, rfl⟩
/-- The pointer to what is found. -/
def ptrO : Option Nat → Value
  | none => .pointer none
  | some b => .pointer (some ⟨b, 0, none⟩)

set_option maxHeartbeats 1600000 in
set_option maxRecDepth 100000 in
theorem find20 (p : Nat) (key : List UInt8) (t : Tr) (w : World) (h0 : w.cell? ⟨p, 0, none⟩ = some t.ptr) (ht : TrAt nl t w) :
    Calls Try.prog 20 #[.pointer (some ⟨p, 0, none⟩), .string (bs key)] w fun e w' => e = .returned (ptrO (findT key t)) ∧ w' = w := by
  obtain ⟨szAt, szAt_eq⟩ := szAt_ex
  have HSz : Hid (∀ {w : World} {s : Tr}, TrAt nl s w → szAt w s.ptr = s.size) := szAt_eq
  clear szAt_eq
  have HT : Hid (TrAt nl t w) := ht
  obtain ⟨y, hy⟩ : ∃ y, findT key t = y := ⟨_, rfl⟩
  rw [hy]
  have HY : Hid (findT key t = y) := hy
  clear ht hy
  go_enter Try.func20, Try.ntmps20
  go_wp2
  refine scope_labels (fun l a' w' => w' = w ∧ l = 0 ∧ ∃ sp, AtLook p key sp a' ∧ ∃ s, TrAt nl s w ∧ findT key s = y ∧ s.ptr = sp) (fun _ a' _ => szAt w (a'.tmps.getD 5 undef)) ?_ ?_
  · rintro l a' w' ⟨rfl, rfl, sp, hat, s, hs, hf, rfl⟩
    obtain ⟨u6, u7, u8, u9, u10, u11, u12, u13, u14, u15, u16, u17, u18, u19, u20, u21, u22, u23, u24, u25, u26, u27, u28, u29, u30, u31, u32, u33, u34, u35, u36, rfl⟩ := hat
    refine ⟨_, rfl, ?_⟩
    clear HT HY h0
    cases s using Tr.cas with
    | nil =>
      have hy : none = y := hf
      subst hy
      simp only [Tr.ptr]
      clear hs hf
      go_wp2
      simp only [onJump]
      go_ret
      exact ⟨rfl, rfl⟩
    | node c l q u x r =>
      obtain ⟨c0, -, c2, c3, -⟩ := nd_cells hs.1
      have q0 := bs_beq q key
      have q1 := bl key q
      simp only [Tr.ptr]
      by_cases hq : q = key
      · have hy : some c = y := by rw [← hf]; simp [findT, hq, ltK_irrefl]
        subst hy
        have hq' : (q == key) = true := by simp [hq]
        rw [hq'] at q0
        clear hs hf hq hq' c2 c3 q1
        go_wp2
        simp only [onJump]
        go_ret
        exact ⟨rfl, rfl⟩
      · have hq' : (q == key) = false := by simp [hq]
        rw [hq'] at q0
        by_cases h1 : ltK key q = true
        · rw [h1] at q1
          have HN : Hid (TrAt nl l w' ∧ findT key l = y) := ⟨hs.2.1, by rw [← hf]; simp [findT, h1]⟩
          have HM : Hid (szAt w' l.ptr < szAt w' (.pointer (some ⟨c, 0, none⟩))) := by
            have e1 := HSz.out hs.2.1
            have e2 : szAt w' (.pointer (some ⟨c, 0, none⟩)) = _ := HSz.out hs
            show _ < _
            rw [e1, e2]
            simp only [Tr.size]
            omega
          obtain ⟨sp, hsp⟩ : ∃ sp, l.ptr = sp := ⟨_, rfl⟩
          have HJ : Hid (∃ s, TrAt nl s w' ∧ findT key s = y ∧ s.ptr = sp) := ⟨l, HN.out.1, HN.out.2, hsp⟩
          rw [hsp] at HM c2
          clear hs hf HN hsp
          go_wp2_with fail
          go_step3
          exact ⟨⟨rfl, rfl, sp, atLook, HJ.out⟩, HM.out⟩
        · have h1' : ltK key q = false := by simpa using h1
          have h2 : ltK q key = true := by
            cases e : ltK q key
            · exact absurd (ltK_tri e h1') hq
            · rfl
          rw [h1'] at q1
          have HN : Hid (TrAt nl r w' ∧ findT key r = y) := ⟨hs.2.2, by rw [← hf]; simp [findT, h1', h2]⟩
          have HM : Hid (szAt w' r.ptr < szAt w' (.pointer (some ⟨c, 0, none⟩))) := by
            have e1 := HSz.out hs.2.2
            have e2 : szAt w' (.pointer (some ⟨c, 0, none⟩)) = _ := HSz.out hs
            show _ < _
            rw [e1, e2]
            simp only [Tr.size]
            omega
          obtain ⟨sp, hsp⟩ : ∃ sp, r.ptr = sp := ⟨_, rfl⟩
          have HJ : Hid (∃ s, TrAt nl s w' ∧ findT key s = y ∧ s.ptr = sp) := ⟨r, HN.out.1, HN.out.2, hsp⟩
          rw [hsp] at HM c3
          clear hs hf HN hsp
          go_wp2_with fail
          go_step3
          exact ⟨⟨rfl, rfl, sp, atLook, HJ.out⟩, HM.out⟩
  · intro hp
    obtain ⟨tp, htp⟩ : ∃ tp, t.ptr = tp := ⟨_, rfl⟩
    have HX : Hid _ := hp
    have HJ : Hid (∃ s, TrAt nl s w ∧ findT key s = y ∧ s.ptr = tp) := ⟨t, HT.out, HY.out, htp⟩
    rw [htp] at h0
    clear HT HY hp htp
    go_wp2
    go_step3
    rename_i Z hZ
    refine hZ _ _ ?_
    exact HX.out 0 _ _ _ rfl ⟨rfl, rfl, tp, atLook, HJ.out⟩

set_option maxHeartbeats 400000 in
theorem find20_nil (key : List UInt8) (w : World) : Calls Try.prog 20 #[.pointer none, .string (bs key)] w fun e w' => e = .returned (.pointer none) ∧ w' = w := by
  go_enter Try.func20, Try.ntmps20
  go_wp2
  refine scope_labels (fun _ _ _ => False) (fun _ _ _ => 0) (fun _ _ _ h => h.elim) ?_
  intro _
  go_wp2
  simp only [onJump]
  go_ret
  exact ⟨rfl, rfl⟩
end Go.Proofs.Ytogkgibneddngaa
