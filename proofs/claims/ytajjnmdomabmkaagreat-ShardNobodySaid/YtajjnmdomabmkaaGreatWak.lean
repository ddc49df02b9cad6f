import Derived.Test.YtajjnmdomabmkaaGreatWaj
set_option maxHeartbeats 4000000
set_option maxRecDepth 100000
set_option linter.unusedVariables false
namespace Go.Proofs.YtajjnmdomabmkaaGreat.Sto
open Go.RowKit
theorem count19_of {C : List Ve} (pv : Value) (k : List UInt8) (w : World) (CC : Hid (∀ W, Below w.heap.size w W → Calls Tryz.prog 111 #[pv, .string (bs k)] W fun e w' => ∃ ao cap, e = .returned (.slice ao C.length cap) ∧ VsAt w'.heap.size (.slice ao C.length cap) C w' ∧ Below W.heap.size W w')) :
  Calls Tryz.prog 267 #[pv, .string (bs k)] w fun e w' => e = .returned (.int .i64 C.length) ∧ Below w.heap.size w w' := by
 go_enter Tryz.func267, Tryz.ntmps267
 go_wp2_with fail
 refine (CC.out _ (Below.refl _ _)).mono ?_
 rintro e w1 ⟨ao, cap, rfl, _, hb⟩
 have HB : Hid _ := hb
 clear hb CC
 go_wp2_with fail
 go_ret
 exact ⟨rfl, HB.out⟩
theorem newest17_of {C : List Ve} (pv : Value) (k : List UInt8) (w : World) (CC : Hid (∀ W, Below w.heap.size w W → Calls Tryz.prog 111 #[pv, .string (bs k)] W fun e w' => ∃ ao cap, e = .returned (.slice ao C.length cap) ∧ VsAt w'.heap.size (.slice ao C.length cap) C w' ∧ Below W.heap.size W w')) :
  Calls Tryz.prog 266 #[pv, .string (bs k)] w fun e w' => e = .returned (.agg #[.int .u64 (newF C).1, .int .u32 (newF C).2]) ∧ Below w.heap.size w w' := by
 have CN : Hid (∀ W ao cap, VsAt W.heap.size (.slice ao C.length cap) C W → Calls Tryz.prog 313 #[.slice ao C.length cap] W fun e w' => e = .returned (.agg #[.int .u64 (newF C).1, .int .u32 (newF C).2]) ∧ Below W.heap.size W w') := fun W ao cap hv => newest15 W.heap.size C _ W hv (Nat.le_refl _)
 have HT : Hid (Tx w w.heap.size 0 0 (w.alloc (.cells #[.int .u64 0, .int .u32 0] 32))) := tx_new w 0 0
 generalize newF C = y at *
 obtain ⟨yp, yl⟩ := y
 dsimp only at CN ⊢
 go_enter Tryz.func266, Tryz.ntmps266
 go_wp2_with fail
 refine (CC.out _ HT.out.bel).mono ?_
 rintro e w1 ⟨ao, cap, rfl, hv, hb⟩
 have HV : Hid _ := hv
 have HB1 : Hid _ := hb
 clear hv hb
 go_wp2_with fail
 refine (CN.out _ _ _ HV.out).mono ?_
 rintro e w2 ⟨rfl, hb2⟩
 have HB : Hid (w2.heap[w.heap.size]? = some (.cells #[.int .u64 0, .int .u32 0] 32 (0, 0))) := by
  show _ = _
  have hl : w.heap.size < w1.heap.size := Nat.lt_of_lt_of_le (by simp) HB1.out.size
  rw [hb2.block w.heap.size hl, HB1.out.block w.heap.size (by simp)]
  exact heap_alloc_new w _
 have c0 := block_cell (j := 0) HB.out rfl
 have c1 := block_cell (j := 1) HB.out rfl
 have f0 := block_frozen HB.out 0
 have f1 := block_frozen HB.out 1
 have HT2 : Hid (Below w.heap.size w w2) := ((HT.out.on HB1.out).on hb2).bel
 clear hb2 CC CN HT HV HB1
 have HW : Hid (((w2.setCell ⟨w.heap.size, 0, none⟩ (.int .u64 yp)).setCell ⟨w.heap.size, 1, none⟩ (.int .u32 yl)).heap[w.heap.size]? = some (.cells #[.int .u64 yp, .int .u32 yl] 32 (0, 0))) := block_set _ (block_set _ HB.out)
 have d0 : ((w2.setCell ⟨w.heap.size, 0, none⟩ (.int .u64 yp)).setCell ⟨w.heap.size, 1, none⟩ (.int .u32 yl)).cell? ⟨w.heap.size, 0, none⟩ = some (.int .u64 yp) := block_cell HW.out rfl
 have d1 : ((w2.setCell ⟨w.heap.size, 0, none⟩ (.int .u64 yp)).setCell ⟨w.heap.size, 1, none⟩ (.int .u32 yl)).cell? ⟨w.heap.size, 1, none⟩ = some (.int .u32 yl) := block_cell HW.out rfl
 go_wp2_with fail
 refine bodyPost_ret (v := .agg #[.int .u64 yp, .int .u32 yl]) (by simp [results, Tryz.results266, go_sem, d0, d1]) rfl ?_
 exact ⟨rfl, (HT2.out.setCell (p := ⟨w.heap.size, 0, none⟩) (Nat.le_refl _) _).setCell (p := ⟨w.heap.size, 1, none⟩) (Nat.le_refl _) _⟩
theorem So.self {B p q : Nat} {t : Tr} {S : Sk} {w w' : World} (h : So B p q t S w) (hb : Below w.heap.size w w') : SoPost B p (footS p q t) S w w' := ⟨_, ⟨q, t, h.on hb, rfl⟩, Kept.of_below hb, fun _ hi => .inl hi⟩
theorem so_put {B p q : Nat} {t : Tr} {S : Sk} {w : World} (k : List UInt8) (x : Ve) (h : So B p q t S w) (ht : totS S < 10000) :
  Calls Tryz.prog 185 #[.pointer (some ⟨p, 0, none⟩), .string (bs k), veV x] w fun e w' => e = .returned (.int .i64 (putS k x S).2) ∧ SoPost B p (footS p q t) (putS k x S).1 w w' := by
 obtain ⟨xp, xl, xc, xn, xs, xd⟩ := x
 have HBx : Hid (Bx w w.heap.size ⟨xp, xl, xc, xn, xs, xd⟩ (w.alloc (.cells #[.int .u64 xp, .int .u32 xl, .int .u32 xc, .int .u32 xn, .string (bs xs), .bool xd] 69))) := ⟨ve_new _ _ _ _ _ _ _, (Below.refl _ _).alloc (Nat.le_refl _) _⟩
 have HS : Hid (So B p q t S w) := h
 have c0 := h.cell
 have hpl : p < w.heap.size := World.block_lt_of_cell? _ _ c0
 have CI : Hid (∀ W, Calls Tryz.prog 259 #[.string (bs k)] W fun e w' => e = .returned (.bool (keyB k)) ∧ w' = W) := fun W => isKey28 k W
 cases hkb : keyB k
 ·have hk : putS k ⟨xp, xl, xc, xn, xs, xd⟩ S = (S, 1) := by unfold putS; rw [if_neg (by simp [hkb])]
  rw [hk]
  rw [hkb] at CI
  clear h hk hkb
  simp only [veV]
  go_enter Tryz.func185, Tryz.ntmps185
  go_wp2_with fail
  refine (CI.out _).mono ?_
  rintro e w1 ⟨rfl, rfl⟩
  go_wp2_with fail
  go_ret
  exact ⟨rfl, HS.out.self HBx.out.bel⟩
 ·have HKl : Hid (k.length ≤ 32) := by
   show _ ≤ _
   simp [keyB] at hkb
   exact hkb.2
  have HP : Hid (putS k ⟨xp, xl, xc, xn, xs, xd⟩ S = if (putF (chainF k S) ⟨xp, xl, xc, xn, xs, xd⟩).2 = 0 then (setF k (putF (chainF k S) ⟨xp, xl, xc, xn, xs, xd⟩).1 S, 0) else (S, (putF (chainF k S) ⟨xp, xl, xc, xn, xs, xd⟩).2)) := by show _ = _; unfold putS; rw [if_pos hkb]
  rw [hkb] at CI
  have HZ : Hid ((putF (chainF k S) ⟨xp, xl, xc, xn, xs, xd⟩).2 = 0 → Ch (putF (chainF k S) ⟨xp, xl, xc, xn, xs, xd⟩).1 ∧ (putF (chainF k S) ⟨xp, xl, xc, xn, xs, xd⟩).1 ≠ []) := fun h0 => ⟨(put_good h0).1, (put_good h0).2.1⟩
  have CG : Hid (∀ W, Below w.heap.size w W → _) := fun W hb => so_of k (h.on hb)
  have CP : Hid (∀ W ao cap, VsAt W.heap.size (.slice ao (chainF k S).length cap) (chainF k S) W → Calls Tryz.prog 260 #[.slice ao (chainF k S).length cap, veV ⟨xp, xl, xc, xn, xs, xd⟩] W fun e w' => ∃ v', e = .returned (.tuple #[v', .int .i64 (putF (chainF k S) ⟨xp, xl, xc, xn, xs, xd⟩).2]) ∧ VsAt w'.heap.size v' (putF (chainF k S) ⟨xp, xl, xc, xn, xs, xd⟩).1 w' ∧ Below W.heap.size W w') := fun W ao cap hv => put8 W.heap.size (chainF k S) _ ⟨xp, xl, xc, xn, xs, xd⟩ W hv (Nat.le_refl _)
  generalize putS k ⟨xp, xl, xc, xn, xs, xd⟩ S = Y at *
  generalize hpq : putF (chainF k S) ⟨xp, xl, xc, xn, xs, xd⟩ = P at *
  generalize chainF k S = C at *
  have HT : Hid _ := ht
  clear hpq h ht hkb
  obtain ⟨D, er⟩ := P
  dsimp only at CP HZ HP
  simp only [veV] at CP ⊢
  go_enter Tryz.func185, Tryz.ntmps185
  go_wp2_with fail
  refine (CI.out _).mono ?_
  rintro e w0 ⟨rfl, rfl⟩
  clear CI
  obtain ⟨bx, hbx⟩ : ∃ bx, w.heap.size = bx := ⟨_, rfl⟩
  obtain ⟨W0, hW0⟩ : ∃ W0, w.alloc (.cells #[.int .u64 xp, .int .u32 xl, .int .u32 xc, .int .u32 xn, .string (bs xs), .bool xd] 69) = W0 := ⟨_, rfl⟩
  rw [hW0] at HBx ⊢
  rw [hbx] at HBx ⊢
  have HBX : Hid (w.heap.size = bx) := hbx
  clear hW0 hbx
  obtain ⟨x0, x1, x2, x3, x4, x5, -⟩ := HBx.out.s7
  go_wp2_with fail
  go_region_held3 (fun w' => w'.cell? ⟨bx, 0, none⟩ = some (.int .u64 xp) ∧ w'.cell? ⟨bx, 1, none⟩ = some (.int .u32 xl) ∧ w'.cell? ⟨bx, 2, none⟩ = some (.int .u32 xc) ∧ w'.cell? ⟨bx, 3, none⟩ = some (.int .u32 xn) ∧ w'.cell? ⟨bx, 4, none⟩ = some (.string (bs xs)) ∧ w'.cell? ⟨bx, 5, none⟩ = some (.bool xd) ∧ Hid (Bx w bx ⟨xp, xl, xc, xn, xs, xd⟩ w'))
   (first | exact HBx.out.dr.s7 | exact HBx.out.s7 | exact H1.out.1.s7 | exact H2.out.1.s7)
   (first
   | (go_at_call 111; refine (CG.out _ HBx.out.dr.bel).mono ?_; rintro e w1 ⟨ao, cap, rfl, hv, hb⟩; have H1 : Hid (Bx w bx ⟨xp, xl, xc, xn, xs, xd⟩ w1 ∧ VsAt w1.heap.size (.slice ao C.length cap) C w1) := ⟨HBx.out.dr.on hb, hv⟩; clear hv hb)
   | (go_at_call 260; refine (CP.out _ _ _ H1.out.2).mono ?_; rintro e w2 ⟨v2, rfl, hv2, hb2⟩; have H2 : Hid (Bx w bx ⟨xp, xl, xc, xn, xs, xd⟩ w2 ∧ VsAt w2.heap.size v2 D w2) := ⟨H1.out.1.on hb2, hv2⟩; clear hv2 hb2))
  rename_i hHeld
  clear hHeld
  obtain ⟨ao2, cap2, rfl⟩ : ∃ ao2 cap2, v2 = .slice ao2 D.length cap2 := by
   obtain ⟨a, c, e, _⟩ := H2.out.2
   exact ⟨a, c, e⟩
  have HB2 : Hid (Below w.heap.size w w2) := H2.out.1.bel
  have HS2 : Hid (So B p q t S w2) := HS.out.on HB2.out
  clear CP CG H1 HS x0 x1 x2 x3 x4 x5 c0 hpl HBx
  by_cases he : er = 0
  ·have hY : Y = (setF k D S, 0) := by rw [HP.out, if_pos he]
   obtain ⟨hD1, hD2⟩ := HZ.out he
   have CS : Hid (1 = 1 → _) := fun _ => mc_set k HS2.out.mc HT.out H2.out.2 hD1 hD2
   have HKs : Hid (∀ y ∈ setF k D S, y.1.length ≤ 32) := fun y hy => by
    rcases setF_keys hy with rfl | hy
    ·exact HKl.out
    ·exact HS2.out.kl y hy
   have c0 := HS2.out.cell
   subst hY he
   clear HP HZ hD1 hD2
   go_wp2_with fail
   refine (CS.out (by trivial)).mono ?_
   rintro e w3 ⟨rfl, h3⟩
   have H3 : Hid _ := h3
   clear h3 CS c0
   go_wp2_with fail
   go_ret
   obtain ⟨t', h4, h5, h6⟩ := HS2.out.post H3.out HKs.out
   exact ⟨rfl, So.out HB2.out h4 h5 h6⟩
  ·have hY : Y = (S, er) := by rw [HP.out, if_neg he]
   have he' : (er == 0) = false := by rw [beq_eq_false_iff_ne]; exact he
   subst hY
   clear HP HZ
   go_wp2_with fail
   go_ret
   exact ⟨rfl, _, ⟨q, t, HS2.out, rfl⟩, Kept.of_below HB2.out, fun _ hi => .inl hi⟩
end Go.Proofs.YtajjnmdomabmkaaGreat.Sto
namespace Go.Proofs.YtajjnmdomabmkaaGreat.Sto
open Go.RowKit
theorem keys_at {ka : Option Addr} {n kp : Nat} {K : List (List UInt8)} {B0 : Nat} {W2 W : World} (hn : n = K.length) (ho : W2.ownsRow B0 9 1 (.slice ka n kp) K.length (kc K)) (hb : Below W2.heap.size W2 W) {m : Nat} (hm : m < n) : ∃ b off, ka = some ⟨b, off, none⟩ ∧ W.cell? ⟨b, off + m, none⟩ = some (.string (bs (K.getD m []))) := by
 subst hn
 obtain ⟨b, off, e, _, hc⟩ := RwAt.cellAt (RwAt.on (rw_own ho) hb) (j := m) (by rw [kc_length]; exact hm)
 exact ⟨b, off, e, hc m _ (by simp [kc, List.getD, hm])⟩
theorem clone_new (B : Nat) (C : List Ve) (v : Value) (w : World) (hv : VsAt B v C w) (hB : B ≤ w.heap.size) (hl : C.length ≤ 1048576) :
  Calls Tryz.prog 110 #[v] w fun e w' => ∃ v', e = .returned v' ∧ VsOwn w.heap.size v' C w' ∧ Below w.heap.size w w' := by
 have hv' := hv
 obtain ⟨ao, cap, rfl, hlc, hcm, hx⟩ := hv
 have H : Hid (VsAt B (.slice ao C.length cap) C w) := hv'
 have q22 : ∀ (w : World) (a : Option Addr) (n c n' c' : Nat), (binOp .eql 65 (.slice a n c) (.slice none n' c')).run Tryz.prog w = .ok (.bool a.isNone) w := fun w a n c n' c' => Lib.run_eql_slice_nil w _ _ a n c n' c' Tryz.underlying65
 cases ao with
 | none =>
  have h0 : C = [] := by
   cases C with
   | nil => rfl
   | cons a X =>
    obtain ⟨b, o, e, _⟩ := hx (by simp at hlc; omega)
    cases e
  subst h0
  clear hx hv'
  go_enter Tryz.func110, Tryz.ntmps110
  go_wp2
  go_ret
  exact ⟨_, rfl, VsOwn.nil _ _, Below.refl _ _⟩
 | some ad =>
  clear hx hv'
  have HL : Hid _ := hl
  have HB : Hid _ := hB
  have HM : Hid (VsOwn w.heap.size (.slice (some ⟨w.heap.size, 0, none⟩) 0 0) [] (w.alloc (.cells #[] 69))) := VsOwn.made _ w (Nat.le_refl _)
  clear hl hB hlc hcm
  go_enter Tryz.func110, Tryz.ntmps110
  go_wp2_with (at_builtin; refine wpList_append_vs rfl _ _ rfl w.heap.size w.heap.size [] C _ _ rfl rfl HM.out ((H.out.le HB.out).on ((Below.refl _ w).alloc (Nat.le_refl _) _)) (by simp) (by simpa using HL.out) ?_)
  intro v' w1 hown hg
  have HO : Hid (VsOwn w.heap.size v' C w1) := hown
  have HG : Hid (Below w.heap.size w w1) := below_grown ((Below.refl _ w).alloc (Nat.le_refl _) _) (by simp) HM.out hg
  clear hown hg
  go_wp2
  go_ret
  exact ⟨_, rfl, HO.out, HG.out⟩
def Apt (row : Option Nat) (L : Kv Sv) : Prop := ∀ x ∈ L, ∀ a : Addr, x.2.1 = some a → 0 < x.2.2.1 → row ≠ some a.block
theorem Chs.apart {w w' : World} {row : Option Nat} (hk : Kept (fun k => row = some k) w w') : ∀ {L : Kv Sv} {S : Sk}, Chs w L S → Apt row L → Chs w' L S
 | [], [], _, _ => trivial
 | (k, s) :: L, (q, c) :: S, h, ha => by
  refine ⟨h.1, ?_, Chs.apart hk h.2.2 (fun x hx => ha x (List.mem_cons_of_mem _ hx))⟩
  obtain ⟨ao, cap, e, h1, h2, h3⟩ := h.2.1
  refine ⟨ao, cap, e, h1, h2, fun h0 => ?_⟩
  obtain ⟨b, off, e1, hb, hc⟩ := h3 h0
  simp only [svV, Value.slice.injEq] at e
  refine ⟨b, off, e1, fun h => Nat.lt_of_lt_of_le (hb h) hk.size, fun i hi => (hc i hi).kept hk (fun hg => ha (k, s) (by simp) ⟨b, off, none⟩ (by rw [e.1, e1]) (by show 0 < s.2.1; rw [e.2.1]; omega) hg)⟩
theorem Chs.blk {w : World} : ∀ {L : Kv Sv} {S : Sk}, Chs w L S → Apt (some w.heap.size) L
 | [], [], _ => fun _ h => by cases h
 | (k, s) :: L, (q, c) :: S, h => fun x hx a ha h0 => by
  rcases List.mem_cons.1 hx with rfl | hx
  ·obtain ⟨ao, cap, e, h1, h2, h3⟩ := h.2.1
   simp only [svV, Value.slice.injEq] at e
   dsimp only at ha h0
   obtain ⟨b, off, e1, hb, _⟩ := h3 (by omega)
   rw [e.1, e1] at ha
   injection ha with ha
   subst ha
   have := hb (by omega)
   intro h9
   injection h9 with h9
   simp only at h9
   omega
  ·exact Chs.blk h.2.2 x hx a ha h0
theorem Chs.snoc {w : World} {k : List UInt8} {s : Sv} {c : List Ve} (hv : VsAt w.heap.size (svV s) c w) : ∀ {L : Kv Sv} {S : Sk}, Chs w L S → Chs w (L ++ [(k, s)]) (S ++ [(k, c)])
 | [], [], _ => ⟨rfl, hv, trivial⟩
 | (_, _) :: _, (_, _) :: _, h => ⟨h.1, h.2.1, Chs.snoc hv h.2.2⟩
structure Iw (W2 : World) (S : Sk) (m : Nat) (vv : Value) (L : Kv Sv) (W : World) : Prop where
 len : L.length = m
 chs : Chs W L (S.take m)
 apt : Apt vv.ownBlock L
 own : W.ownsRow W2.heap.size 67 2 vv m (itc L)
 bel : Below W2.heap.size W2 W
theorem Iw.on {W2 W W' : World} {S : Sk} {m : Nat} {vv : Value} {L : Kv Sv} (h : Iw W2 S m vv L W) (hb : Below W.heap.size W W') : Iw W2 S m vv L W' :=
 ⟨h.len, h.chs.on hb, h.apt, own_on h.own hb, h.bel.trans (hb.mono h.bel.size)⟩
theorem Iw.snoc {W2 W W' : World} {S : Sk} {m : Nat} {vv v' : Value} {L : Kv Sv} {a : List UInt8} {s : Sv} {c : List Ve} (h : Iw W2 S m vv L W) (hS : S.take (m + 1) = S.take m ++ [(a, c)]) (hv : VsAt W.heap.size (svV s) c W) (hs : ∀ ad : Addr, s.1 = some ad → vv.ownBlock ≠ some ad.block)
  (hown : W'.ownsRow W2.heap.size 67 2 v' (m + 1) (itc (L ++ [(a, s)]))) (hg : W.grownBy W' vv.ownBlock) (hat : v'.ownBlock = vv.ownBlock ∨ v'.ownBlock = some W.heap.size) : Iw W2 S (m + 1) v' (L ++ [(a, s)]) W' := by
 have hap : Apt vv.ownBlock (L ++ [(a, s)]) := fun x hx ad h1 h2 => by
  rcases List.mem_append.1 hx with hx | hx
  ·exact h.apt x hx ad h1 h2
  ·simp only [List.mem_singleton] at hx
   subst hx
   exact hs ad h1
 have hch : Chs W (L ++ [(a, s)]) (S.take (m + 1)) := by rw [hS]; exact Chs.snoc hv h.chs
 refine ⟨by simp [h.len], hch.apart (grown_kept hg) hap, ?_, hown, below_own h.bel h.bel.size h.own hg⟩
 rcases hat with e | e
 ·rw [e]; exact hap
 ·rw [e]; exact hch.blk
theorem Iw.begin (W2 : World) (S : Sk) : Iw W2 S 0 (.slice none 0 0) [] W2 := ⟨rfl, trivial, (fun _ h => by cases h), own_nil _ _ _ _, Below.refl _ _⟩
theorem own_blk {base e size n k : Nat} {v : Value} {cs : List Value} {w : World} (h : w.ownsRow base e size v n cs) (hk : v.ownBlock = some k) : k < w.heap.size := (World.ownsRow.lt h k hk).2
theorem so_items {B p q : Nat} {t : Tr} {S : Sk} {w : World} (h : So B p q t S w) (ht : totS S < 10000) :
  Calls Tryz.prog 52 #[.pointer (some ⟨p, 0, none⟩)] w fun e w' => ∃ v' L, e = .returned v' ∧ ItAt v' L S w' ∧ Below w.heap.size w w' := by
 obtain ⟨i0, hin, hi0, hi1, hi2⟩ := info_parts info57
 have HS : Hid (So B p q t S w) := h
 have HT : Hid (totS S < 10000) := ht
 have CK : Hid (1 = 1 → _) := fun _ => so_keys h ht
 clear h ht
 go_enter Tryz.func52, Tryz.ntmps52
 go_wp2_with fail
 refine (CK.out (by trivial)).mono ?_
 rintro e W2 ⟨ka, kp, rfl, ho2, hb2⟩
 have H2 : Hid (W2.ownsRow w.heap.size 9 1 (.slice ka S.length kp) (S.map (·.1)).length (kc (S.map (·.1))) ∧ Below w.heap.size w W2) := ⟨ho2, hb2⟩
 have HS2 : Hid (So B p q t S W2) := HS.out.on hb2
 have hkp : S.length < 10000 := by have := len_tot HS.out.mc.sok.all; have := HT.out; omega
 clear ho2 hb2 CK HS
 go_wp2_with fail
 go_loopw [3, 9] (fun vv i wr => ∃ (m : Nat) (L : Kv Sv), m ≤ S.length ∧ i = .int .i64 m ∧ Iw W2 S m vv L wr) (fun _ i _ => S.length - (intOf i).toNat)
 case atStart => exact ⟨0, [], Nat.zero_le _, rfl, Iw.begin W2 S⟩
 case round =>
  obtain ⟨m, L, hm, rfl, hiw⟩ := hrel
  obtain ⟨sa, sc, rfl, -, -, -, -⟩ := rw_own hiw.own
  have HI : Hid (Iw W2 S m (.slice sa m sc) L wr) := hiw
  clear hiw
  by_cases hml : m < S.length
  ·obtain ⟨b, off, rfl, e0⟩ := keys_at (by simp) H2.out.1 HI.out.bel hml
   have hml' : (m : Int) < S.length := by omega
   rw [map_at S hml] at e0
   have HCh : Hid (chainF (S.getD m ds).1 S = (S.getD m ds).2) := chain_mem HS2.out.mc.sok (getD_mem hml)
   have HTk : Hid (S.take (m + 1) = S.take m ++ [S.getD m ds]) := stk_snoc hml
   have hcl : (S.getD m ds).2.length ≤ 1000 := (HS2.out.mc.sok.all _ (getD_mem hml)).1.len
   generalize S.getD m ds = x at *
   obtain ⟨a, c⟩ := x
   dsimp only at e0 HCh hcl
   have CG : Hid (1 = 1 → Calls Tryz.prog 111 #[.pointer (some ⟨p, 0, none⟩), .string (bs a)] wr fun e w' => ∃ ao cap, e = .returned (.slice ao c.length cap) ∧ VsAt w'.heap.size (.slice ao c.length cap) c w' ∧ Iw W2 S m (.slice sa m sc) L w') := fun _ => by
    have := so_of a (HS2.out.on HI.out.bel)
    rw [HCh.out] at this
    refine Calls.mono this ?_
    rintro e w' ⟨ao, cap, rfl, hv, hb⟩
    exact ⟨ao, cap, rfl, hv, HI.out.on hb⟩
   have CC : Hid (∀ W ao cap, VsAt W.heap.size (.slice ao c.length cap) c W → Iw W2 S m (.slice sa m sc) L W → Calls Tryz.prog 110 #[.slice ao c.length cap] W fun e w' => ∃ s1 s3, e = .returned (.slice s1 c.length s3) ∧ VsAt w'.heap.size (svV (s1, c.length, s3)) c w' ∧ (∀ ad : Addr, s1 = some ad → (Value.slice sa m sc).ownBlock ≠ some ad.block) ∧ Iw W2 S m (.slice sa m sc) L w') := fun W ao cap hv hi => by
    refine (clone_new W.heap.size c _ W hv (Nat.le_refl _) (by omega)).mono ?_
    rintro e w' ⟨v', rfl, ho, hb⟩
    have hv' := ho.at
    obtain ⟨s1, s3, rfl, h9⟩ := hv'
    refine ⟨s1, s3, rfl, ⟨s1, s3, rfl, h9⟩, fun ad had hbk => ?_, hi.on hb⟩
    subst had
    have h1 := own_blk hi.own hbk
    have h2 := (World.ownsRow.lt ho ad.block rfl).1
    omega
   clear hcl
   go_wp2_with fail
   refine (CG.out (by trivial)).mono ?_
   rintro e w3 ⟨ao, cap, rfl, hv3, hi3⟩
   have H3 : Hid (VsAt w3.heap.size (.slice ao c.length cap) c w3 ∧ Iw W2 S m (.slice sa m sc) L w3) := ⟨hv3, hi3⟩
   clear hv3 hi3 CG HI e0
   go_wp2_with fail
   refine (CC.out _ _ _ H3.out.1 H3.out.2).mono ?_
   rintro e w4 ⟨s1, s3, rfl, hv4, hs4, hi4⟩
   have H4 : Hid (VsAt w4.heap.size (svV (s1, c.length, s3)) c w4 ∧ (∀ ad : Addr, s1 = some ad → (Value.slice sa m sc).ownBlock ≠ some ad.block) ∧ Iw W2 S m (.slice sa m sc) L w4) := ⟨hv4, hs4, hi4⟩
   have HOw : Hid (Ow W2.heap.size 67 2 (.slice sa m sc) m (itc L) (w4.heap.size + 1) (.slice (some ⟨w4.heap.size, 0, none⟩) 1 1) 1 (itc [(a, s1, c.length, s3)]) (w4.alloc (.cells #[.string (bs a), .slice s1 c.length s3] 67))) := it_ow a (s1, c.length, s3) hi4.own hi4.bel.size (by omega)
   clear hv4 hs4 hi4 CC H3
   go_wp2_with (at_builtin; refine wpList_append_rw HOw.out Tryz.underlying63 hin hi0 hi1 hi2 rfl (by decide) (by decide) (.tmp 13) (.tmp 20) rfl rfl rfl rfl ?_)
   intro v' w5 hown hg hat
   have HI5 : Hid (Iw W2 S (m + 1) v' (L ++ [(a, s1, c.length, s3)]) w5) := by
    have hbl : Below w4.heap.size w4 (w4.alloc (.cells #[.string (bs a), .slice s1 c.length s3] 67)) := al _
    refine Iw.snoc (H4.out.2.2.on hbl) HTk.out ((VsAt.on H4.out.1 hbl).le hbl.size) H4.out.2.1 ?_ hg (by simpa using hat)
    rw [itc_append]
    exact hown
   clear hown hg hat HOw H4
   go_wp2_with fail
   go_roundw
   case rel => exact ⟨m + 1, _, by omega, by go_num, HI5.out⟩
   case measure => simp [intOf]; omega
  ·have hml' : ¬ (m : Int) < S.length := by omega
   have HZ : Hid (ItAt (.slice sa m sc) L S wr ∧ Below w.heap.size w wr) := by
    have h1 := rw_own HI.out.own
    have h2 := HI.out.chs
    rw [List.take_of_length_le (by omega)] at h2
    have h3 := HI.out.len
    subst h3
    exact ⟨⟨h1, h2⟩, H2.out.2.trans (HI.out.bel.mono H2.out.2.size)⟩
   go_wp2_with fail
   go_ret
   exact ⟨_, rfl, ⟨L, HZ.out.1⟩, HZ.out.2⟩
end Go.Proofs.YtajjnmdomabmkaaGreat.Sto
namespace Go.Proofs.YtajjnmdomabmkaaGreat.Sto
open Go.RowKit
theorem so_get {B p q : Nat} {t : Tr} {S : Sk} {w : World} (k : List UInt8) (pp l : Int) (h : So B p q t S w) : Calls Tryz.prog 189 #[.pointer (some ⟨p, 0, none⟩), .string (bs k), .agg #[.int .u64 pp, .int .u32 l]] w fun e w' => e = .returned (.tuple #[.string (bs (getV (seeF (chainF k S) pp l)).1), .bool (getV (seeF (chainF k S) pp l)).2]) ∧ Below w.heap.size w w' :=
 get15_of _ k pp l w (fun _ hb => so_of k (h.on hb))
end Go.Proofs.YtajjnmdomabmkaaGreat.Sto
namespace Go.Proofs.YtajjnmdomabmkaaGreat.Sto
open Go.RowKit
theorem storeIfs : Ifs SoAt where
 lt := by
  rintro B p M S w ⟨q, t, h, rfl⟩
  exact h.lt
 nov := by
  rintro B p M S w ⟨q, t, h, rfl⟩
  exact h.noVe
 keep := by
  rintro B p M G S w w' ⟨q, t, h, rfl⟩ hk h1 hG
  exact ⟨q, t, h.kept hk h1 hG, rfl⟩
 sok := by
  rintro B p M S w ⟨q, t, h, rfl⟩
  exact h.mc.sok
 new := so_new
 put := by
  rintro B p M S w k x ⟨q, t, h, rfl⟩ ht
  exact so_put k x h ht
 get := by
  rintro B p M S w k tt u ⟨q, t, h, rfl⟩ _
  exact so_get k tt u h
 newest := by
  rintro B p M S w k ⟨q, t, h, rfl⟩ _
  exact newest17_of _ k w (fun _ hb => so_of k (h.on hb))
 count := by
  rintro B p M S w k ⟨q, t, h, rfl⟩ _
  exact count19_of _ k w (fun _ hb => so_of k (h.on hb))
 items := by
  rintro B p M S w ⟨q, t, h, rfl⟩ ht
  exact so_items h ht
#print axioms storeIfs
end Go.Proofs.YtajjnmdomabmkaaGreat.Sto
