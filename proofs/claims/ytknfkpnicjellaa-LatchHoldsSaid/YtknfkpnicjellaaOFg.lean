/-
  Contracts of find and gather.
-/
import Derived.Test.YtknfkpnicjellaaOAb
import Derived.ScopeJumps
import Derived.WalkMore
import Derived.Test.YtknfkpnicjellaaOAa
namespace Go.Proofs.Ytknfkpnicjellaa
open Go.RowKit

/-- As Q; by a goto to a label: J. -/
def onJump (J : Nat → Act → World → Prop) (Q : Exit → Act → World → Prop) : Exit → Act → World → Prop
  | .goto l, a, w => J l a w
  | e, a, w => Q e a w

theorem scope_labels {P : Program} {a : Act} {w : World} {Q : Exit → Act → World → Prop} {c : Code} (J : Nat → Act → World → Prop) (μ : Nat → Act → World → Nat)
    (pass : ∀ l a w, J l a w → ∃ rest, findLabel c l = some (Code.skip.seq rest) ∧ rest.wp P (onJump (fun l' a' w' => J l' a' w' ∧ μ l' a' w' < μ l a w) Q) a w)
    (first : (∀ l a w rest, findLabel c l = some (Code.skip.seq rest) → J l a w → rest.wp P (onJump J Q) a w) → c.wp P (onJump J Q) a w) : (Code.scope c).wp P Q a w := by
  have first := first (fun l a w rest hr hJ => by
    obtain ⟨r, hr', hwp⟩ := pass l a w hJ
    rw [hr] at hr'
    injection hr' with hr'
    injection hr' with _ hr'
    subst hr'
    refine Code.wp_mono ?_ hwp
    intro e a1 w1 hq
    cases e with
    | goto l' => exact hq.1
    | normal => exact hq
    | exit id => exact hq
    | ret => exact hq
    | panic ch => exact hq
    | outgrown => exact hq)
  intro b k cs
  have key : ∀ n l a w rest, findLabel c l = some rest → μ l a w = n → J l a w → ∃ e a' w', Q e a' w' ∧ Arrives P (lone (b.at a (.code rest :: .inScope c :: k)) cs w) b k cs e a' w' := by
    intro n
    induction n using Nat.strongRecOn with
    | ind n ih =>
      intro l a w rest hr hn hJ
      obtain ⟨rest', hr', hwp⟩ := pass l a w hJ
      rw [hr] at hr'
      injection hr' with hr'
      subst hr'
      have hwp2 : (Code.skip.seq rest').wp P (onJump (fun l' a' w' => J l' a' w' ∧ μ l' a' w' < μ l a w) Q) a w := wp_seq (wp_skip hwp)
      obtain ⟨e, a1, w1, hq, harr⟩ := hwp2 b (.inScope c :: k) cs
      cases e with
      | normal => exact ⟨.normal, a1, w1, hq, Steps.trans harr (.one step_inScope)⟩
      | exit id => exact ⟨.exit id, a1, w1, hq, fun k' hk => harr k' (by simp [exitTo, hk])⟩
      | goto l' =>
        obtain ⟨hJ', hlt⟩ := hq
        obtain ⟨r2, hr2, _⟩ := pass l' a1 w1 hJ'
        obtain ⟨e2, a2, w2, hq2, harr2⟩ := ih _ (by omega) l' a1 w1 _ hr2 rfl hJ'
        exact ⟨e2, a2, w2, hq2, .of_steps (harr _ (by simp [gotoIn, hr2])) harr2⟩
      | ret => exact ⟨_, a1, w1, hq, harr⟩
      | panic ch => exact ⟨_, a1, w1, hq, harr⟩
      | outgrown => exact ⟨_, a1, w1, hq, harr⟩
  obtain ⟨e, a1, w1, hq, harr⟩ := first b (.inScope c :: k) cs
  cases e with
  | normal => exact ⟨.normal, a1, w1, hq, .head step_scope (Steps.trans harr (.one step_inScope))⟩
  | exit id => exact ⟨.exit id, a1, w1, hq, fun k' hk => .head step_scope (harr k' (by simp [exitTo, hk]))⟩
  | goto l' =>
    obtain ⟨r2, hr2, _⟩ := pass l' a1 w1 hq
    obtain ⟨e2, a2, w2, hq2, harr2⟩ := key _ l' a1 w1 _ hr2 rfl hq
    exact ⟨e2, a2, w2, hq2, .of_steps (.head step_scope (harr _ (by simp [gotoIn, hr2]))) harr2⟩
  | ret => exact ⟨_, a1, w1, hq, .of_steps (.one step_scope) harr⟩
  | panic ch => exact ⟨_, a1, w1, hq, .of_steps (.one step_scope) harr⟩
  | outgrown => exact ⟨_, a1, w1, hq, .of_steps (.one step_scope) harr⟩


/-- The frame at the label. -/
def AtLook (p : Nat) (key : List UInt8) (o : Value) (a : Act) : Prop :=
  ∃ u6 u7 u8 u9 u10 u11 u12 u13 u14 u15 u16 u17 u18 u19 u20 u21 u22 u23 u24 u25 u26 u27 u28 u29 u30 u31 u32 u33 u34 u35 u36 : Value, a = { tmps := #[.pointer (some ⟨p, 0, none⟩), .string (bs key), undef, undef, .pointer none, o, u6, u7, u8, u9, u10, u11, u12, u13, u14, u15, u16, u17, u18, u19, u20, u21, u22, u23, u24, u25, u26, u27, u28, u29, u30, u31, u32, u33, u34, u35, u36], defers := [] }
theorem atLook {p : Nat} {key : List UInt8} {o : Value} {u6 u7 u8 u9 u10 u11 u12 u13 u14 u15 u16 u17 u18 u19 u20 u21 u22 u23 u24 u25 u26 u27 u28 u29 u30 u31 u32 u33 u34 u35 u36 : Value} : AtLook p key o { tmps := #[.pointer (some ⟨p, 0, none⟩), .string (bs key), undef, undef, .pointer none, o, u6, u7, u8, u9, u10, u11, u12, u13, u14, u15, u16, u17, u18, u19, u20, u21, u22, u23, u24, u25, u26, u27, u28, u29, u30, u31, u32, u33, u34, u35, u36], defers := [] } :=
  ⟨u6, u7, u8, u9, u10, u11, u12, u13, u14, u15, u16, u17, u18, u19, u20, u21, u22, u23, u24, u25, u26, u27, u28, u29, u30, u31, u32, u33, u34, u35, u36, rfl⟩
/-- The pointer to what is found. -/
def ptrO : Option Nat → Value
  | none => .pointer none
  | some b => .pointer (some ⟨b, 0, none⟩)

set_option maxHeartbeats 1600000 in
set_option maxRecDepth 100000 in
theorem find20 (p : Nat) (key : List UInt8) (t : Tr) (w : World) (h0 : w.cell? ⟨p, 0, none⟩ = some t.ptr) (ht : TrAt nl t w) :
    Calls Try.prog 53 #[.pointer (some ⟨p, 0, none⟩), .string (bs key)] w fun e w' => e = .returned (ptrO (findT key t)) ∧ w' = w := by
  obtain ⟨szAt, szAt_eq⟩ := szAt_ex
  have HSz : Hid (∀ {w : World} {s : Tr}, TrAt nl s w → szAt w s.ptr = s.size) := szAt_eq
  clear szAt_eq
  have HT : Hid (TrAt nl t w) := ht
  obtain ⟨y, hy⟩ : ∃ y, findT key t = y := ⟨_, rfl⟩
  rw [hy]
  have HY : Hid (findT key t = y) := hy
  clear ht hy
  go_enter Try.func53, Try.ntmps53
  go_wp2
  refine scope_labels (fun l a' w' => w' = w ∧ l = 0 ∧ ∃ sp, AtLook p key sp a' ∧ ∃ s, TrAt nl s w ∧ findT key s = y ∧ s.ptr = sp) (fun _ a' _ => szAt w (a'.tmps.getD 5 undef)) ?_ ?_
  · rintro l a' w' ⟨rfl, rfl, sp, hat, s, hs, hf, rfl⟩
    obtain ⟨u6, u7, u8, u9, u10, u11, u12, u13, u14, u15, u16, u17, u18, u19, u20, u21, u22, u23, u24, u25, u26, u27, u28, u29, u30, u31, u32, u33, u34, u35, u36, rfl⟩ := hat
    refine ⟨_, rfl, ?_⟩
    clear HT HY h0
    cases s using Tr.cas with
    | nil =>
      have hy : none = y := hf
      subst hy
      simp only [Tr.ptr]
      clear hs hf
      go_wp2
      simp only [onJump]
      go_ret
      exact ⟨rfl, rfl⟩
    | node c l q u x r =>
      obtain ⟨c0, -, c2, c3, -⟩ := nd_cells hs.1
      have q0 := bs_beq q key
      have q1 := bl key q
      simp only [Tr.ptr]
      by_cases hq : q = key
      · have hy : some c = y := by rw [← hf]; simp [findT, hq, ltK_irrefl]
        subst hy
        have hq' : (q == key) = true := by simp [hq]
        rw [hq'] at q0
        clear hs hf hq hq' c2 c3 q1
        go_wp2
        simp only [onJump]
        go_ret
        exact ⟨rfl, rfl⟩
      · have hq' : (q == key) = false := by simp [hq]
        rw [hq'] at q0
        by_cases h1 : ltK key q = true
        · rw [h1] at q1
          have HN : Hid (TrAt nl l w' ∧ findT key l = y) := ⟨hs.2.1, by rw [← hf]; simp [findT, h1]⟩
          have HM : Hid (szAt w' l.ptr < szAt w' (.pointer (some ⟨c, 0, none⟩))) := by
            have e1 := HSz.out hs.2.1
            have e2 : szAt w' (.pointer (some ⟨c, 0, none⟩)) = _ := HSz.out hs
            show _ < _
            rw [e1, e2]
            simp only [Tr.size]
            omega
          obtain ⟨sp, hsp⟩ : ∃ sp, l.ptr = sp := ⟨_, rfl⟩
          have HJ : Hid (∃ s, TrAt nl s w' ∧ findT key s = y ∧ s.ptr = sp) := ⟨l, HN.out.1, HN.out.2, hsp⟩
          rw [hsp] at HM c2
          clear hs hf HN hsp
          go_wp2_with fail
          go_step3
          exact ⟨⟨rfl, rfl, sp, atLook, HJ.out⟩, HM.out⟩
        · have h1' : ltK key q = false := by simpa using h1
          have h2 : ltK q key = true := by
            cases e : ltK q key
            · exact absurd (ltK_tri e h1') hq
            · rfl
          rw [h1'] at q1
          have HN : Hid (TrAt nl r w' ∧ findT key r = y) := ⟨hs.2.2, by rw [← hf]; simp [findT, h1', h2]⟩
          have HM : Hid (szAt w' r.ptr < szAt w' (.pointer (some ⟨c, 0, none⟩))) := by
            have e1 := HSz.out hs.2.2
            have e2 : szAt w' (.pointer (some ⟨c, 0, none⟩)) = _ := HSz.out hs
            show _ < _
            rw [e1, e2]
            simp only [Tr.size]
            omega
          obtain ⟨sp, hsp⟩ : ∃ sp, r.ptr = sp := ⟨_, rfl⟩
          have HJ : Hid (∃ s, TrAt nl s w' ∧ findT key s = y ∧ s.ptr = sp) := ⟨r, HN.out.1, HN.out.2, hsp⟩
          rw [hsp] at HM c3
          clear hs hf HN hsp
          go_wp2_with fail
          go_step3
          exact ⟨⟨rfl, rfl, sp, atLook, HJ.out⟩, HM.out⟩
  · intro hp
    obtain ⟨tp, htp⟩ : ∃ tp, t.ptr = tp := ⟨_, rfl⟩
    have HX : Hid _ := hp
    have HJ : Hid (∃ s, TrAt nl s w ∧ findT key s = y ∧ s.ptr = tp) := ⟨t, HT.out, HY.out, htp⟩
    rw [htp] at h0
    clear HT HY hp htp
    go_wp2
    go_step3
    rename_i Z hZ
    refine hZ _ _ ?_
    exact HX.out 0 _ _ _ rfl ⟨rfl, rfl, tp, atLook, HJ.out⟩

set_option maxHeartbeats 400000 in
set_option maxRecDepth 100000 in
theorem find20_nil (key : List UInt8) (w : World) : Calls Try.prog 53 #[.pointer none, .string (bs key)] w fun e w' => e = .returned (.pointer none) ∧ w' = w := by
  go_enter Try.func53, Try.ntmps53
  go_wp2
  refine scope_labels (fun _ _ _ => False) (fun _ _ _ => 0) (fun _ _ _ h => h.elim) ?_
  intro _
  go_wp2
  simp only [onJump]
  go_ret
  exact ⟨rfl, rfl⟩
end Go.Proofs.Ytknfkpnicjellaa

namespace Go.Proofs.Ytknfkpnicjellaa
open Go.RowKit

theorem Kept.of_below' {B : Nat} {w w' : World} (h : Below B w w') : Kept (fun i => B ≤ i) w w' := ⟨h.os, h.tape, h.output, h.size, fun k _ hn => h.block k (by omega)⟩
theorem TrAt.below {Y : Lay} {t : Tr} {B : Nat} {w w' : World} (h : TrAt Y t w) (hb : Below B w w') (hB : ∀ b ∈ t.blocks, b < B) : TrAt Y t w' := TrAt.kept (Kept.of_below' hb) h (fun b hb' e => by have := hB b hb'; omega)

set_option maxHeartbeats 3200000 in
set_option maxRecDepth 100000 in
theorem gather24 (B : Nat) (lo hi : List UInt8) (limit : Int) (t : Tr) : ∀ (K : List (List UInt8)) (vs : Value) (w : World), TrAt nl t w → (∀ b ∈ t.blocks, b < B) → Srt t.toL → B ≤ w.heap.size → w.ownsRow B 9 1 vs K.length (kc K) → K.length + t.toL.length < 1000000 →
    Calls Try.prog 58 #[t.ptr, vs, .string (bs lo), .string (bs hi), .int .i64 limit] w fun e w' => ∃ v', e = .returned v' ∧ w'.ownsRow B 9 1 v' (gatF limit.toNat K (rangeF lo hi t.toL)).length (kc (gatF limit.toNat K (rangeF lo hi t.toL))) ∧ Below B w w' := by
  obtain ⟨i0, hin, hi0, hi1, hi2⟩ := info_parts info9
  induction t using Tr.ind with
  | nil =>
    intro K vs w _ _ _ _ ho _
    obtain ⟨sa, sc, rfl, -, -, -, -⟩ := rw_own ho
    have HO : Hid _ := ho
    clear ho hin hi0 hi1 hi2
    simp only [Tr.toL, rangeF, List.map_nil, List.filter_nil, gat_nil, Tr.ptr]
    go_enter Try.func58, Try.ntmps58
    go_wp2_with fail
    go_ret
    exact ⟨_, rfl, HO.out, Below.refl _ _⟩
  | node b l k u x r ihl ihr =>
    intro K vs w ha hB hs hBw ho hf
    obtain ⟨sa, sc, rfl, -, -, -, -⟩ := rw_own ho
    by_cases hroom : limit ≤ K.length
    · have HX : Hid (gatF limit.toNat K (rangeF lo hi (Tr.node b l k u x r).toL) = K) := gat_full (by omega) _
      rw [HX.out]
      have HO : Hid _ := ho
      clear ho HX ha hB hs hBw hf ihl ihr hin hi0 hi1 hi2
      simp only [Tr.ptr]
      go_enter Try.func58, Try.ntmps58
      go_wp2_with fail
      go_ret
      exact ⟨_, rfl, HO.out, Below.refl _ _⟩
    · obtain ⟨hs1, hs2, _, _⟩ := srt_parts hs
      have hf' := hf
      simp only [Tr.toL, List.length_append, List.length_cons] at hf'
      have hr' : ¬ limit ≤ (K.length : Int) := by omega
      obtain ⟨c0, -, c2, -, -⟩ := nd_cells ha.1
      have q1 := bl lo k
      have q2 := bl k lo
      have q3 := bl k hi
      have q4 : (bs hi).toList.isEmpty = hi.isEmpty := by rw [bs_list]
      have HA : Hid (∀ w', Below B w w' → TrAt nl (.node b l k u x r) w') := fun w' hb => ha.below hb hB
      have CL : Hid (1 = 1 → Calls Try.prog 58 #[l.ptr, .slice sa K.length sc, .string (bs lo), .string (bs hi), .int .i64 limit] w fun e w' => ∃ v', e = .returned v' ∧ w'.ownsRow B 9 1 v' (gatF limit.toNat K (rangeF lo hi l.toL)).length (kc (gatF limit.toNat K (rangeF lo hi l.toL))) ∧ Below B w w') :=
        fun _ => ihl K _ w ha.2.1 (fun i hi => hB i (by simp [Tr.blocks, hi])) hs1 hBw ho (by omega)
      have CR : Hid (∀ (K2 : List (List UInt8)) (v2 : Value) (w2 : World), Below B w w2 → w2.ownsRow B 9 1 v2 K2.length (kc K2) → K2.length + r.toL.length < 1000000 → Calls Try.prog 58 #[r.ptr, v2, .string (bs lo), .string (bs hi), .int .i64 limit] w2 fun e w' => ∃ v', e = .returned v' ∧ w'.ownsRow B 9 1 v' (gatF limit.toNat K2 (rangeF lo hi r.toL)).length (kc (gatF limit.toNat K2 (rangeF lo hi r.toL))) ∧ Below B w2 w') :=
        fun K2 v2 w2 hb ho2 hf2 => ihr K2 v2 w2 (HA.out w2 hb).2.2 (fun i hi => hB i (by simp [Tr.blocks, hi])) hs2 (Nat.le_trans hBw hb.size) ho2 hf2
      have HZ1 : Hid (ltK lo k = false → gatF limit.toNat K (rangeF lo hi l.toL) = K) := fun h => by rw [below_lo hs h, gat_nil]
      have HZ2 : Hid (hi.isEmpty = false → ltK k hi = false → gatF limit.toNat K (rangeF lo hi (Tr.node b l k u x r).toL) = gatF limit.toNat K (rangeF lo hi l.toL)) := fun h0 h => gat_stop hs h0 h
      have HZ3 : Hid ((hi.isEmpty || ltK k hi) = true → gatF limit.toNat K (rangeF lo hi (Tr.node b l k u x r).toL) = gatF limit.toNat (if ltK k lo = false ∧ (gatF limit.toNat K (rangeF lo hi l.toL)).length < limit.toNat then gatF limit.toNat K (rangeF lo hi l.toL) ++ [k] else gatF limit.toNat K (rangeF lo hi l.toL)) (rangeF lo hi r.toL)) := fun h => gat_on h
      have HO : Hid (w.ownsRow B 9 1 (.slice sa K.length sc) K.length (kc K)) := ho
      have HF : Hid ((gatF limit.toNat K (rangeF lo hi l.toL)).length + 1 + r.toL.length < 1000000) := by
        have := gat_len limit.toNat K (rangeF lo hi l.toL)
        have := range_len lo hi l.toL
        show _ < _
        omega
      clear ihl ihr ha hB hs hf hs1 hs2 hf' ho hroom
      generalize gatF limit.toNat K (rangeF lo hi (Tr.node b l k u x r).toL) = Y at *
      generalize gatF limit.toNat K (rangeF lo hi l.toL) = K1 at *
      obtain ⟨lp, hlp⟩ : ∃ lp, l.ptr = lp := ⟨_, rfl⟩
      rw [hlp] at c2 CL
      clear hlp
      simp only [Tr.ptr]
      generalize ltK lo k = z1 at *
      generalize ltK k lo = z2 at *
      generalize ltK k hi = z3 at *
      generalize hi.isEmpty = z4 at *
      go_enter Try.func58, Try.ntmps58
      go_upto_if 25 with fail
      go_cut [1] (fun v wc => ∃ sa sc, v = .slice sa K1.length sc ∧ Hid (wc.ownsRow B 9 1 v K1.length (kc K1) ∧ Below B w wc))
      case first =>
        cases z1
        · have h1 := HZ1.out rfl
          subst h1
          go_wp2_with fail
          go_meet
          exact ⟨sa, sc, rfl, HO.out, Below.refl _ _⟩
        · go_wp2_with fail
          refine (CL.out (by trivial)).mono ?_
          rintro e w1 ⟨v1, rfl, ho1, hb1⟩
          obtain ⟨sa1, sc1, rfl, -, -, -, -⟩ := rw_own ho1
          have H1 : Hid _ := And.intro ho1 hb1
          clear ho1 hb1
          go_wp2_with fail
          go_meet
          exact ⟨sa1, sc1, rfl, H1.out⟩
      case rest =>
        obtain ⟨sa1, sc1, rfl, H1⟩ := hcut
        obtain ⟨d0, -, -, -, -⟩ := nd_cells (HA.out wc H1.out.2).1
        obtain ⟨rp, hrp⟩ : ∃ rp, r.ptr = rp := ⟨_, rfl⟩
        have HR : Hid (∀ w', Below B w w' → w'.cell? ⟨b, 7, none⟩ = some rp) := fun w' hb => by rw [← hrp]; exact (nd_cells (HA.out w' hb).1).2.2.2.1
        rw [hrp] at CR
        clear hrp c0 c2 CL HO HZ1 HA
        by_cases hstop : z4 = false ∧ z3 = false
        · obtain ⟨rfl, rfl⟩ := hstop
          have h := HZ2.out rfl rfl
          subst h
          go_wp2_with fail
          go_ret
          exact ⟨_, rfl, H1.out⟩
        · have HY : Hid _ := HZ3.out (by cases z4 <;> cases z3 <;> simp at hstop ⊢)
          have harms : z4 = true ∨ z4 = false ∧ z3 = true := by cases z4 <;> cases z3 <;> simp at hstop ⊢
          clear hstop HZ2 HZ3
          have CC : Hid (∀ (K2 : List (List UInt8)) (v2 : Value) (w2 : World), K2 = (if z2 = false ∧ K1.length < limit.toNat then K1 ++ [k] else K1) → w2.ownsRow B 9 1 v2 K2.length (kc K2) → Below B w w2 → Calls Try.prog 58 #[rp, v2, .string (bs lo), .string (bs hi), .int .i64 limit] w2 fun e w' => ∃ v', e = .returned v' ∧ w'.ownsRow B 9 1 v' Y.length (kc Y) ∧ Below B w w') := fun K2 v2 w2 hK2 ho hb => by
            have hl2 : K2.length + r.toL.length < 1000000 := by
              have := HF.out
              rw [hK2]
              split <;> simp <;> omega
            refine (CR.out K2 _ _ hb ho hl2).mono ?_
            rintro e w' ⟨v', rfl, ho', hb'⟩
            rw [HY.out, ← hK2]
            exact ⟨v', rfl, ho', hb.trans hb'⟩
          clear CR HY
          rcases harms with rfl | ⟨rfl, rfl⟩
          all_goals
            cases z2
            · by_cases hlt : (K1.length : Int) < limit
              · have HOw : Hid (Ow B 9 1 (.slice sa1 K1.length sc1) K1.length (kc K1) (wc.heap.size + 1) (.slice (some ⟨wc.heap.size, 0, none⟩) 1 1) 1 (kc [k]) (wc.alloc (.cells #[.string (bs k)] 9))) := ⟨World.ownsRow.alloc H1.out.1 _, ks_one wc k, kc_one _, Nat.le_trans hBw (Nat.le_trans H1.out.2.size (by simp)), by have := HF.out; omega⟩
                have HK : Hid (K1 ++ [k] = (if false = false ∧ K1.length < limit.toNat then K1 ++ [k] else K1)) := (if_pos ⟨rfl, by omega⟩).symm
                go_wp2_with (at_builtin; refine wpList_append_rw HOw.out Try.underlying71 hin hi0 hi1 hi2 rfl (by decide) (by decide) (.tmp 58) (.tmp 63) rfl rfl rfl rfl ?_)
                intro v' w2 hown hg hat
                have HB2 : Hid (Below B w w2) := below_own (H1.out.2.alloc (Nat.le_trans hBw H1.out.2.size) _) HOw.out.size HOw.out.own hg
                obtain ⟨sa2, sc2, rfl, -, -, -, -⟩ := rw_own hown
                have CR2 : Hid (1 = 1 → _) := fun _ => CC.out (K1 ++ [k]) (.slice sa2 (K1.length + 1) sc2) w2 HK.out (by rw [kc_append, List.length_append]; exact hown) HB2.out
                have d3 := HR.out _ HB2.out
                clear hown hg hat HOw HK HB2 CC
                go_wp2_with fail
                refine (CR2.out (by trivial)).mono ?_
                rintro e w3 ⟨v3, rfl, ho3, hb3⟩
                obtain ⟨sa3, sc3, rfl, -, -, -, -⟩ := rw_own ho3
                have H3 : Hid _ := And.intro ho3 hb3
                clear ho3 hb3 CR2
                go_wp2_with fail
                go_ret
                exact ⟨_, rfl, H3.out⟩
              · have hge : ¬ (K1.length : Int) < limit := hlt
                have HK : Hid (K1 = (if false = false ∧ K1.length < limit.toNat then K1 ++ [k] else K1)) := (if_neg (by omega)).symm
                have CR2 : Hid (1 = 1 → _) := fun _ => CC.out K1 (.slice sa1 K1.length sc1) wc HK.out H1.out.1 H1.out.2
                have d3 := HR.out _ H1.out.2
                clear hlt HK CC
                go_wp2_with fail
                refine (CR2.out (by trivial)).mono ?_
                rintro e w3 ⟨v3, rfl, ho3, hb3⟩
                obtain ⟨sa3, sc3, rfl, -, -, -, -⟩ := rw_own ho3
                have H3 : Hid _ := And.intro ho3 hb3
                clear ho3 hb3 CR2
                go_wp2_with fail
                go_ret
                exact ⟨_, rfl, H3.out⟩
            · have CR2 : Hid (1 = 1 → _) := fun _ => CC.out K1 (.slice sa1 K1.length sc1) wc (by simp) H1.out.1 H1.out.2
              have d3 := HR.out _ H1.out.2
              clear CC
              go_wp2_with fail
              refine (CR2.out (by trivial)).mono ?_
              rintro e w3 ⟨v3, rfl, ho3, hb3⟩
              obtain ⟨sa3, sc3, rfl, -, -, -, -⟩ := rw_own ho3
              have H3 : Hid _ := And.intro ho3 hb3
              clear ho3 hb3 CR2
              go_wp2_with fail
              go_ret
              exact ⟨_, rfl, H3.out⟩
end Go.Proofs.Ytknfkpnicjellaa
