/-
  The program's store: Items.
-/
import Derived.Test.YtcfhkggijdjagaaSopr
namespace Go.Proofs.Ytcfhkggijdjagaa
open Go.RowKit

/-- The keys' cells, and the store, as they were at W2. -/
theorem keys_at {ka : Option Addr} {n kp : Nat} {K : List (List UInt8)} {B0 : Nat} {W2 W : World} (hn : n = K.length) (ho : W2.ownsRow B0 9 1 (.slice ka n kp) K.length (kc K)) (hb : Below W2.heap.size W2 W) {m : Nat} (hm : m < n) : ∃ b off, ka = some ⟨b, off, none⟩ ∧ W.cell? ⟨b, off + m, none⟩ = some (.string (bs (K.getD m []))) := by
  subst hn
  obtain ⟨b, off, e, _, hc⟩ := RwAt.cellAt (RwAt.on (rw_own ho) hb) (j := m) (by rw [kc_length]; exact hm)
  exact ⟨b, off, e, hc m _ (by simp [kc, List.getD, hm])⟩
theorem get_at {L : Kv Sv} (hs : Srt L) {m : Nat} (h : m < L.length) : getF (L.getD m dk).1 L = some (L.getD m dk).2 := by
  refine (getF_mem hs).2 ?_
  rw [List.getD, List.getElem?_eq_getElem h]
  exact List.getElem_mem h

set_option maxHeartbeats 1600000 in
theorem clone_new (B : Nat) (C : List Ve) (v : Value) (w : World) (hv : VsAt B v C w) (hB : B ≤ w.heap.size) (hl : C.length ≤ 1048576) :
    Calls Try.prog 48 #[v] w fun e w' => ∃ v', e = .returned v' ∧ VsOwn w.heap.size v' C w' ∧ Below w.heap.size w w' := by
  have hv' := hv
  obtain ⟨ao, cap, rfl, hlc, hcm, hx⟩ := hv
  have H : Hid (VsAt B (.slice ao C.length cap) C w) := hv'
  have q22 : ∀ (w : World) (a : Option Addr) (n c n' c' : Nat), (binOp .eql 55 (.slice a n c) (.slice none n' c')).run Try.prog w = .ok (.bool a.isNone) w := fun w a n c n' c' => Lib.run_eql_slice_nil w _ _ a n c n' c' Try.underlying55
  cases ao with
  | none =>
    have h0 : C = [] := by
      cases C with
      | nil => rfl
      | cons a X =>
        obtain ⟨b, o, e, _⟩ := hx (by simp at hlc; omega)
        cases e
    subst h0
    clear hx hv'
    go_enter Try.func48, Try.ntmps48
    go_wp2
    go_ret
    exact ⟨_, rfl, VsOwn.nil _ _, Below.refl _ _⟩
  | some ad =>
    clear hx hv'
    have HL : Hid _ := hl
    have HB : Hid _ := hB
    have HM : Hid (VsOwn w.heap.size (.slice (some ⟨w.heap.size, 0, none⟩) 0 0) [] (w.alloc (.cells #[] 37))) := VsOwn.made _ w (Nat.le_refl _)
    clear hl hB hlc hcm
    go_enter Try.func48, Try.ntmps48
    go_wp2_with (at_builtin; refine wpList_append_vs rfl _ _ rfl w.heap.size w.heap.size [] C _ _ rfl rfl HM.out ((H.out.le HB.out).on ((Below.refl _ w).alloc (Nat.le_refl _) _)) (by simp) (by simpa using HL.out) ?_)
    intro v' w1 hown hg
    have HO : Hid (VsOwn w.heap.size v' C w1) := hown
    have HG : Hid (Below w.heap.size w w1) := below_grown ((Below.refl _ w).alloc (Nat.le_refl _) _) (by simp) HM.out hg
    clear hown hg
    go_wp2
    go_ret
    exact ⟨_, rfl, HO.out, HG.out⟩

/-- No chain that is not empty lies in the row's block. -/
def Apt (row : Option Nat) (L : Kv Sv) : Prop := ∀ x ∈ L, ∀ a : Addr, x.2.1 = some a → 0 < x.2.2.1 → row ≠ some a.block
theorem Chs.apart {w w' : World} {row : Option Nat} (hk : Kept (fun k => row = some k) w w') : ∀ {L : Kv Sv} {S : Sk}, Chs w L S → Apt row L → Chs w' L S
  | [], [], _, _ => trivial
  | (k, s) :: L, (q, c) :: S, h, ha => by
    refine ⟨h.1, ?_, Chs.apart hk h.2.2 (fun x hx => ha x (List.mem_cons_of_mem _ hx))⟩
    obtain ⟨ao, cap, e, h1, h2, h3⟩ := h.2.1
    refine ⟨ao, cap, e, h1, h2, fun h0 => ?_⟩
    obtain ⟨b, off, e1, hb, hc⟩ := h3 h0
    simp only [svV, Value.slice.injEq] at e
    refine ⟨b, off, e1, fun h => Nat.lt_of_lt_of_le (hb h) hk.size, fun i hi => (hc i hi).kept hk (fun hg => ha (k, s) (by simp) ⟨b, off, none⟩ (by rw [e.1, e1]) (by show 0 < s.2.1; rw [e.2.1]; omega) hg)⟩
theorem Chs.blk {w : World} : ∀ {L : Kv Sv} {S : Sk}, Chs w L S → Apt (some w.heap.size) L
  | [], [], _ => fun _ h => by cases h
  | (k, s) :: L, (q, c) :: S, h => fun x hx a ha h0 => by
    rcases List.mem_cons.1 hx with rfl | hx
    · obtain ⟨ao, cap, e, h1, h2, h3⟩ := h.2.1
      simp only [svV, Value.slice.injEq] at e
      dsimp only at ha h0
      obtain ⟨b, off, e1, hb, _⟩ := h3 (by omega)
      rw [e.1, e1] at ha
      injection ha with ha
      subst ha
      have := hb (by omega)
      intro h9
      injection h9 with h9
      simp only at h9
      omega
    · exact Chs.blk h.2.2 x hx a ha h0
theorem Chs.snoc {w : World} {k : List UInt8} {s : Sv} {c : List Ve} (hv : VsAt w.heap.size (svV s) c w) : ∀ {L : Kv Sv} {S : Sk}, Chs w L S → Chs w (L ++ [(k, s)]) (S ++ [(k, c)])
  | [], [], _ => ⟨rfl, hv, trivial⟩
  | (_, _) :: _, (_, _) :: _, h => ⟨h.1, h.2.1, Chs.snoc hv h.2.2⟩
/-- The items so far: a row of the call's own, each with a chain that is the call's own. -/
structure Iw (W2 : World) (S : Sk) (m : Nat) (vv : Value) (L : Kv Sv) (W : World) : Prop where
  len : L.length = m
  chs : Chs W L (S.take m)
  apt : Apt vv.ownBlock L
  own : W.ownsRow W2.heap.size 57 2 vv m (itc L)
  bel : Below W2.heap.size W2 W
theorem Iw.on {W2 W W' : World} {S : Sk} {m : Nat} {vv : Value} {L : Kv Sv} (h : Iw W2 S m vv L W) (hb : Below W.heap.size W W') : Iw W2 S m vv L W' :=
  ⟨h.len, h.chs.on hb, h.apt, own_on h.own hb, h.bel.trans (hb.mono h.bel.size)⟩
theorem Iw.snoc {W2 W W' : World} {S : Sk} {m : Nat} {vv v' : Value} {L : Kv Sv} {a : List UInt8} {s : Sv} {c : List Ve} (h : Iw W2 S m vv L W) (hS : S.take (m + 1) = S.take m ++ [(a, c)]) (hv : VsAt W.heap.size (svV s) c W) (hs : ∀ ad : Addr, s.1 = some ad → vv.ownBlock ≠ some ad.block)
    (hown : W'.ownsRow W2.heap.size 57 2 v' (m + 1) (itc (L ++ [(a, s)]))) (hg : W.grownBy W' vv.ownBlock) (hat : v'.ownBlock = vv.ownBlock ∨ v'.ownBlock = some W.heap.size) : Iw W2 S (m + 1) v' (L ++ [(a, s)]) W' := by
  have hap : Apt vv.ownBlock (L ++ [(a, s)]) := fun x hx ad h1 h2 => by
    rcases List.mem_append.1 hx with hx | hx
    · exact h.apt x hx ad h1 h2
    · simp only [List.mem_singleton] at hx
      subst hx
      exact hs ad h1
  have hch : Chs W (L ++ [(a, s)]) (S.take (m + 1)) := by rw [hS]; exact Chs.snoc hv h.chs
  refine ⟨by simp [h.len], hch.apart (grown_kept hg) hap, ?_, hown, below_own h.bel h.bel.size h.own hg⟩
  rcases hat with e | e
  · rw [e]; exact hap
  · rw [e]; exact hch.blk
theorem Iw.begin (W2 : World) (S : Sk) : Iw W2 S 0 (.slice none 0 0) [] W2 := ⟨rfl, trivial, (fun _ h => by cases h), own_nil _ _ _ _, Below.refl _ _⟩
theorem own_blk {base e size n k : Nat} {v : Value} {cs : List Value} {w : World} (h : w.ownsRow base e size v n cs) (hk : v.ownBlock = some k) : k < w.heap.size := (World.ownsRow.lt h k hk).2

set_option maxHeartbeats 1600000 in
theorem so_items {B p q : Nat} {t : Tr} {S : Sk} {w : World} (h : So B p q t S w) (ht : totS S < 10000) :
    Calls Try.prog 25 #[.pointer (some ⟨p, 0, none⟩)] w fun e w' => ∃ v' L, e = .returned v' ∧ ItAt v' L S w' ∧ Below w.heap.size w w' := by
  obtain ⟨i0, hin, hi0, hi1, hi2⟩ := info_parts info57
  have HS : Hid (So B p q t S w) := h
  have HT : Hid (totS S < 10000) := ht
  have CK : Hid (1 = 1 → _) := fun _ => so_keys h ht
  clear h ht
  go_enter Try.func25, Try.ntmps25
  go_wp2_with fail
  refine (CK.out (by trivial)).mono ?_
  rintro e W2 ⟨ka, kp, rfl, ho2, hb2⟩
  have H2 : Hid (W2.ownsRow w.heap.size 9 1 (.slice ka S.length kp) (S.map (·.1)).length (kc (S.map (·.1))) ∧ Below w.heap.size w W2) := ⟨ho2, hb2⟩
  have HS2 : Hid (So B p q t S W2) := HS.out.on hb2
  have hkp : S.length < 10000 := by have := len_tot HS.out.mc.sok.all; have := HT.out; omega
  clear ho2 hb2 CK HS
  go_wp2_with fail
  go_loopw [3, 9] (fun vv i wr => ∃ (m : Nat) (L : Kv Sv), m ≤ S.length ∧ i = .int .i64 m ∧ Iw W2 S m vv L wr) (fun _ i _ => S.length - (intOf i).toNat)
  case atStart => exact ⟨0, [], Nat.zero_le _, rfl, Iw.begin W2 S⟩
  case round =>
    obtain ⟨m, L, hm, rfl, hiw⟩ := hrel
    obtain ⟨sa, sc, rfl, -, -, -, -⟩ := rw_own hiw.own
    have HI : Hid (Iw W2 S m (.slice sa m sc) L wr) := hiw
    clear hiw
    by_cases hml : m < S.length
    · obtain ⟨b, off, rfl, e0⟩ := keys_at (by simp) H2.out.1 HI.out.bel hml
      have hml' : (m : Int) < S.length := by omega
      rw [map_at S hml] at e0
      have HCh : Hid (chainF (S.getD m ds).1 S = (S.getD m ds).2) := chain_mem HS2.out.mc.sok (getD_mem hml)
      have HTk : Hid (S.take (m + 1) = S.take m ++ [S.getD m ds]) := stk_snoc hml
      have hcl : (S.getD m ds).2.length ≤ 1000 := (HS2.out.mc.sok.all _ (getD_mem hml)).1.len
      generalize S.getD m ds = x at *
      obtain ⟨a, c⟩ := x
      dsimp only at e0 HCh hcl
      have CG : Hid (1 = 1 → Calls Try.prog 30 #[.pointer (some ⟨p, 0, none⟩), .string (bs a)] wr fun e w' => ∃ ao cap, e = .returned (.slice ao c.length cap) ∧ VsAt w'.heap.size (.slice ao c.length cap) c w' ∧ Iw W2 S m (.slice sa m sc) L w') := fun _ => by
        have := so_of a (HS2.out.on HI.out.bel)
        rw [HCh.out] at this
        refine Calls.mono this ?_
        rintro e w' ⟨ao, cap, rfl, hv, hb⟩
        exact ⟨ao, cap, rfl, hv, HI.out.on hb⟩
      have CC : Hid (∀ W ao cap, VsAt W.heap.size (.slice ao c.length cap) c W → Iw W2 S m (.slice sa m sc) L W → Calls Try.prog 48 #[.slice ao c.length cap] W fun e w' => ∃ s1 s3, e = .returned (.slice s1 c.length s3) ∧ VsAt w'.heap.size (svV (s1, c.length, s3)) c w' ∧ (∀ ad : Addr, s1 = some ad → (Value.slice sa m sc).ownBlock ≠ some ad.block) ∧ Iw W2 S m (.slice sa m sc) L w') := fun W ao cap hv hi => by
        refine (clone_new W.heap.size c _ W hv (Nat.le_refl _) (by omega)).mono ?_
        rintro e w' ⟨v', rfl, ho, hb⟩
        have hv' := ho.at
        obtain ⟨s1, s3, rfl, h9⟩ := hv'
        refine ⟨s1, s3, rfl, ⟨s1, s3, rfl, h9⟩, fun ad had hbk => ?_, hi.on hb⟩
        subst had
        have h1 := own_blk hi.own hbk
        have h2 := (World.ownsRow.lt ho ad.block rfl).1
        omega
      clear hcl
      go_wp2_with fail
      refine (CG.out (by trivial)).mono ?_
      rintro e w3 ⟨ao, cap, rfl, hv3, hi3⟩
      have H3 : Hid (VsAt w3.heap.size (.slice ao c.length cap) c w3 ∧ Iw W2 S m (.slice sa m sc) L w3) := ⟨hv3, hi3⟩
      clear hv3 hi3 CG HI e0
      go_wp2_with fail
      refine (CC.out _ _ _ H3.out.1 H3.out.2).mono ?_
      rintro e w4 ⟨s1, s3, rfl, hv4, hs4, hi4⟩
      have H4 : Hid (VsAt w4.heap.size (svV (s1, c.length, s3)) c w4 ∧ (∀ ad : Addr, s1 = some ad → (Value.slice sa m sc).ownBlock ≠ some ad.block) ∧ Iw W2 S m (.slice sa m sc) L w4) := ⟨hv4, hs4, hi4⟩
      have HOw : Hid (Ow W2.heap.size 57 2 (.slice sa m sc) m (itc L) (w4.heap.size + 1) (.slice (some ⟨w4.heap.size, 0, none⟩) 1 1) 1 (itc [(a, s1, c.length, s3)]) (w4.alloc (.cells #[.string (bs a), .slice s1 c.length s3] 57))) := it_ow a (s1, c.length, s3) hi4.own hi4.bel.size (by omega)
      clear hv4 hs4 hi4 CC H3
      go_wp2_with (at_builtin; refine wpList_append_rw HOw.out Try.underlying27 hin hi0 hi1 hi2 rfl (by decide) (by decide) (.tmp 13) (.tmp 20) rfl rfl rfl rfl ?_)
      intro v' w5 hown hg hat
      have HI5 : Hid (Iw W2 S (m + 1) v' (L ++ [(a, s1, c.length, s3)]) w5) := by
        have hbl : Below w4.heap.size w4 (w4.alloc (.cells #[.string (bs a), .slice s1 c.length s3] 57)) := al _
        refine Iw.snoc (H4.out.2.2.on hbl) HTk.out ((VsAt.on H4.out.1 hbl).le hbl.size) H4.out.2.1 ?_ hg (by simpa using hat)
        rw [itc_append]
        exact hown
      clear hown hg hat HOw H4
      go_wp2_with fail
      go_roundw
      case rel => exact ⟨m + 1, _, by omega, by go_num, HI5.out⟩
      case measure => simp [intOf]; omega
    · have hml' : ¬ (m : Int) < S.length := by omega
      have HZ : Hid (ItAt (.slice sa m sc) L S wr ∧ Below w.heap.size w wr) := by
        have h1 := rw_own HI.out.own
        have h2 := HI.out.chs
        rw [List.take_of_length_le (by omega)] at h2
        have h3 := HI.out.len
        subst h3
        exact ⟨⟨h1, h2⟩, H2.out.2.trans (HI.out.bel.mono H2.out.2.size)⟩
      go_wp2_with fail
      go_ret
      exact ⟨_, rfl, ⟨L, HZ.out.1⟩, HZ.out.2⟩
end Go.Proofs.Ytcfhkggijdjagaa
