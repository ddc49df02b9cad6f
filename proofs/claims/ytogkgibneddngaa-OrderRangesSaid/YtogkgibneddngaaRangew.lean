/-
  The walk of OrderRanges over what the laws ask of the program's map.
-/
import Derived.Test.YtogkgibneddngaaIfc
namespace Go.Proofs.Ytogkgibneddngaa
open Go.RowKit Go.Sort
variable {MA : Nat → Nat → (Nat → Prop) → Kv → World → Prop}

theorem setsF_snoc : ∀ (l : List (List UInt8)) (L : Kv) (i : Int) (k : List UInt8), setsF L i (l ++ [k]) = setF k (i + l.length) (setsF L i l)
  | [], L, i, k => by simp [setsF]
  | a :: l, L, i, k => by
    have := setsF_snoc l (setF a i L) (i + 1) k
    show setsF (setF a i L) (i + 1) (l ++ [k]) = _
    rw [this]
    simp only [List.length_cons, setsF]
    congr 1
    omega
theorem setsF_take {l : List (List UInt8)} {k : Nat} (h : k < l.length) : setsF [] 0 (l.take (k + 1)) = setF (l.getD k []) k (setsF [] 0 (l.take k)) := by
  rw [List.take_succ_eq_append_getElem h, setsF_snoc]
  simp [List.getD, h]
  rw [Nat.min_eq_left (by omega)]

/-- The program's map, and a list of keys beside it, in blocks below N. -/
structure Mk (MA : Nat → Nat → (Nat → Prop) → Kv → World → Prop) (w : World) (p : Nat) (L : Kv) (va : Value) (K : List (List UInt8)) (N : Nat) (W : World) : Prop where
  ma : ∃ B F, MA B p F L W ∧ w.heap.size ≤ B ∧ ∀ k, F k → k < N
  k : KsAt N va K W
  bel : Below w.heap.size w W
  lo : w.heap.size ≤ N
  n : N ≤ W.heap.size
theorem Mk.kept (I : Ifc MA) {w W W' : World} {p : Nat} {L : Kv} {va : Value} {K : List (List UInt8)} {N : Nat} {G : Nat → Prop} (h : Mk MA w p L va K N W) (hk : Kept G W W') (hG : ∀ k, G k → N ≤ k) : Mk MA w p L va K N W' := by
  obtain ⟨B, F, h1, h2, h3⟩ := h.ma
  exact ⟨⟨B, F, I.keep h1 hk (fun k hf hg => by have := h3 k hf; have := hG k hg; omega), h2, h3⟩, RwAt.kept h.k hk hG, h.bel.trans (hk.below h.bel.size (fun i hi => Nat.le_trans h.lo (hG i hi))), h.lo, Nat.le_trans h.n hk.size⟩
theorem Mk.on (I : Ifc MA) {w W W' : World} {p : Nat} {L : Kv} {va : Value} {K : List (List UInt8)} {N : Nat} (h : Mk MA w p L va K N W) (hb : Below W.heap.size W W') : Mk MA w p L va K N W' := h.kept I (Kept.of_below (F := fun _ => False) hb) (fun _ h => h.elim)
theorem Mk.m {w W : World} {p : Nat} {L : Kv} {va : Value} {K : List (List UInt8)} {N : Nat} (h : Mk MA w p L va K N W) : Mw MA w p L W := by
  obtain ⟨B, F, h1, h2, _⟩ := h.ma
  exact ⟨⟨B, F, h1, h2⟩, h.bel⟩
theorem mk_of (I : Ifc MA) {w W : World} {p : Nat} {L : Kv} {va : Value} {K : List (List UInt8)} (h : Mw MA w p L W) (hk : KsAt W.heap.size va K W) : Mk MA w p L va K W.heap.size W := by
  obtain ⟨B, F, h1, h2⟩ := h.ma
  exact ⟨⟨B, F, h1, h2, fun k hf => (I.lt h1 k hf).2⟩, hk, h.bel, h.bel.size, Nat.le_refl _⟩

set_option maxHeartbeats 8000000 in
set_option maxRecDepth 100000 in
theorem ranges6 (I : Ifc MA) (B : Nat) (l : List (List UInt8)) (v : Value) (mid : List UInt8) (limit : Int) (w : World) (hv : KsAt B v l w) (hB : B ≤ w.heap.size) (hlo : -9223372036854775808 ≤ limit) (hhi : limit ≤ 9223372036854775807) :
    Calls Try.prog 6 #[v, .string (bs mid), .int .i64 limit] w fun e w' => e = .returned (.bool true) ∧ Below w.heap.size w w' := by
  obtain ⟨i0, hin, hz0, hz1, hz2⟩ := info_parts info9
  have H : Hid (KsAt w.heap.size v l w) := RwAt.le hv hB
  obtain ⟨ao, cap, rfl, hlc, hcm⟩ := hv.shape
  clear hB hlc hcm hv
  have CA : Hid (∀ W : World, 1 = 1 → Calls Try.prog 7 #[] W fun e w' => e = .returned (.bool true) ∧ Below W.heap.size W w') := fun W _ => awake7 I W
  have CN : Hid (∀ W : World, Below w.heap.size w W → Calls Try.prog 8 #[] W fun e w' => ∃ p, e = .returned (.pointer (some ⟨p, 0, none⟩)) ∧ Mw MA w p [] w') := fun W h => mw_new I h
  have CSm : Hid (∀ (W : World) va vb K, KsAt W.heap.size va K W → KsAt W.heap.size vb K W → Calls Try.prog 16 #[va, vb] W fun e w' => e = .returned (.bool true) ∧ Below W.heap.size W w') := fun W va vb K h1 h2 => by
    have := same16 _ _ K K va vb W h1 h2
    rw [beq_self_eq_true] at this
    exact this
  have hme : (bs mid).toList.isEmpty = mid.isEmpty := by rw [bs_list]
  go_enter Try.func6, Try.ntmps6
  go_wp2_with fail
  refine (CA.out _ (by trivial)).mono ?_
  rintro e w1 ⟨rfl, hb1⟩
  have H1 : Hid _ := hb1
  clear hb1 CA
  by_cases h300 : (300 : Int) < l.length
  · go_wp2_with fail
    go_ret
    exact ⟨rfl, H1.out⟩
  obtain ⟨z, hz⟩ : ∃ z, mid.isEmpty = z := ⟨_, rfl⟩
  rw [hz] at hme
  have HZ : Hid _ := hz
  clear hz
  cases z
  case true =>
    go_wp2_with fail
    go_ret
    exact ⟨rfl, H1.out⟩
  go_wp2_with fail
  refine (CN.out _ H1.out).mono ?_
  rintro e w2 ⟨p, rfl, hm2⟩
  have H2 : Hid _ := hm2
  clear hm2 CN H1
  go_wp2_with fail
  go_loopw [24] (fun i wr => ∃ k : Nat, k ≤ l.length ∧ i = .int .i64 k ∧ Mw MA w p (setsF [] 0 (l.take k)) wr) (fun i _ => l.length - (intOf i).toNat)
  case atStart => exact ⟨0, Nat.zero_le _, rfl, H2.out⟩
  case round =>
    obtain ⟨k, hk, rfl, hm⟩ := hrel
    have HM : Hid _ := hm
    clear hm H2
    have HLe : Hid ((setsF [] 0 (l.take k)).length ≤ k) := by
      have := (setsF_srt (l := l.take k) (L := []) (i := 0) List.Pairwise.nil).2
      show _ ≤ _
      simp at this
      omega
    by_cases hkl : k < l.length
    · obtain ⟨b, off, rfl, _, e0⟩ := KsAt.el (RwAt.on H.out HM.out.bel) hkl
      have HS : Hid _ := setsF_take hkl
      generalize l.getD k [] = key at *
      have hkl' : (k : Int) < l.length := by omega
      have CS : Hid (1 = 1 → _) := fun _ => mw_set I key k HM.out (by have := HLe.out; omega)
      rw [← HS.out] at CS
      go_wp2_with fail
      refine (CS.out (by trivial)).mono ?_
      rintro e w3 ⟨rfl, h3⟩
      have H3 : Hid _ := h3
      clear h3
      go_wp2_with fail
      go_roundw
      case rel => exact ⟨k + 1, by omega, by go_num, H3.out⟩
      case measure => simp [intOf]; omega
    · have hkl' : ¬ (k : Int) < l.length := by omega
      have hsr : Srt (setsF [] 0 (l.take k)) := (setsF_srt List.Pairwise.nil).1
      generalize setsF [] 0 (l.take k) = L at *
      have hL3 : L.length ≤ 300 := by have := HLe.out; omega
      have HKa : Hid (keysF [] [] 1000 L = L.map (·.1)) := keys_all (by omega)
      have HKs : Hid (keysF [] mid 1000 L ++ keysF mid [] 1000 L = L.map (·.1)) := by
        show _ = _
        rw [keys_split HZ.out hsr (by omega)]
        exact keys_all (by omega)
      have HKf : Hid (keysF [] [] limit L = (L.map (·.1)).take limit.toNat) := keys_first
      have hlm : (L.map (·.1)).length = L.length := by simp
      have C1 : Hid (∀ W, Mw MA w p L W → _) := fun W h => mw_keys I [] [] 1000 h (by omega)
      have C2 : Hid (∀ W, Mw MA w p L W → _) := fun W h => mw_keys I [] mid 1000 h (by omega)
      have C3 : Hid (∀ W, Mw MA w p L W → _) := fun W h => mw_keys I mid [] 1000 h (by omega)
      have C4 : Hid (∀ W, Mw MA w p L W → _) := fun W h => mw_keys I [] [] limit h (by omega)
      rw [HKa.out] at C1
      rw [HKf.out] at C4
      have HA1 : Hid ((keysF [] mid 1000 L).length + (keysF mid [] 1000 L).length ≤ 1000) := by
        have := congrArg List.length HKs.out
        rw [List.length_append, hlm] at this
        show _ ≤ _
        omega
      generalize keysF [] mid 1000 L = Ka at *
      generalize keysF mid [] 1000 L = Kb at *
      generalize L.map (·.1) = Kall at *
      have HAl : Hid (Kall.length ≤ 300) := by show _ ≤ _; omega
      clear hlm HKa HKf hsr HLe
      go_wp2_with fail
      refine (C1.out _ HM.out).mono ?_
      rintro e w3 ⟨v3, rfl, ho3, h3, hb3⟩
      obtain ⟨sa, sc, rfl, -, hsc, hsm, -⟩ := rw_own ho3
      have H3 : Hid (Mk MA w p L (.slice sa Kall.length sc) Kall w3.heap.size w3) := mk_of I h3 (rw_own ho3)
      clear ho3 h3 hb3 HM C1
      go_wp2_with fail
      refine (C2.out _ H3.out.m).mono ?_
      rintro e w4 ⟨v4, rfl, ho4, h4, hb4⟩
      have H4 : Hid (Mk MA w p L (.slice sa Kall.length sc) Kall w3.heap.size w4) := H3.out.on I hb4
      have HO4 : Hid _ := ho4
      have HS4 : Hid _ := hb4.size
      clear ho4 h4 hb4 C2
      go_wp2_with fail
      refine (C3.out _ H4.out.m).mono ?_
      rintro e w5 ⟨v5, rfl, ho5, h5, hb5⟩
      have H5 : Hid (Mk MA w p L (.slice sa Kall.length sc) Kall w3.heap.size w5) := H4.out.on I hb5
      have HOw : Hid (Ow w3.heap.size 9 1 v4 Ka.length (kc Ka) w5.heap.size v5 Kb.length (kc Kb) w5) := ⟨own_on HO4.out hb5, rw_own ho5, kc_one _, Nat.le_trans HS4.out hb5.size, by have := HA1.out; omega⟩
      clear ho5 h5 hb5 C3 HO4
      go_wp2_with (at_builtin; refine wpList_append_rw HOw.out Try.underlying38 hin hz0 hz1 hz2 rfl (by decide) (by decide) (.tmp 38) (.tmp 41) rfl rfl rfl rfl ?_)
      intro v6 w6 hown hg hat
      have hat' := hat
      clear hat'
      have H6 : Hid (Mk MA w p L (.slice sa Kall.length sc) Kall w3.heap.size w6) := H5.out.kept I (grown_kept hg) (fun k hk => (World.ownsRow.lt HOw.out.own k hk).1)
      have HV6 : Hid (KsAt w6.heap.size v6 Kall w6) := by
        have := rw_own hown
        rw [← kc_append, ← List.length_append, HKs.out] at this
        exact this
      clear hown hg hat HOw H5
      go_wp2_with fail
      refine (CSm.out _ _ _ _ HV6.out (RwAt.le H6.out.k H6.out.n)).mono ?_
      rintro e w7 ⟨rfl, hb7⟩
      have H7 : Hid (Mk MA w p L (.slice sa Kall.length sc) Kall w3.heap.size w7) := H6.out.on I hb7
      clear hb7 H6 HV6
      have hAl := HAl.out
      obtain ⟨nn, hnn⟩ : ∃ nn : Nat, nn = min limit.toNat Kall.length := ⟨_, rfl⟩
      have HNn : Hid (nn ≤ Kall.length ∧ Kall.take limit.toNat = Kall.take nn) := by
        refine ⟨by omega, ?_⟩
        rw [hnn, List.take_eq_take_iff]
        omega
      obtain ⟨mx, hmx⟩ : ∃ mx : Int, (if limit < 0 then 0 else limit) = mx := ⟨_, rfl⟩
      have hmx2 : mx = max limit 0 := by rw [← hmx]; split <;> omega
      have hn1 : (if (Kall.length : Int) < mx then (Kall.length : Int) else mx) = (nn : Int) := by
        split <;> omega
      clear hmx2
      have HTk : Hid (∀ W, Mk MA w p L (.slice sa Kall.length sc) Kall w3.heap.size W → KsAt W.heap.size (.slice sa nn sc) (Kall.take nn) W) := fun W h => by
        have := RwAt.take h.k HNn.out.1
        have e : (kc Kall).take (nn * 1) = kc (Kall.take nn) := by simp [kc, List.map_take]
        rw [e] at this
        have e2 : (Kall.take nn).length = nn := by have := HNn.out.1; simp; omega
        show RwAt W.heap.size 1 _ (Kall.take nn).length _ W
        rw [e2]
        exact RwAt.le this h.n
      have hnsc : (nn : Int) ≤ sc := by have := HNn.out.1; omega
      have hnsc2 : nn ≤ sc := by have := HNn.out.1; omega
      rw [HNn.out.2] at C4
      generalize Kall.take nn = Kn at *
      have C5 : Hid (∀ W, Mw MA w p L W → Calls Try.prog 17 #[.pointer (some ⟨p, 0, none⟩), .string ⟨#[]⟩, .string ⟨#[]⟩, .int .i64 limit] W fun e w' => ∃ v', e = .returned v' ∧ KsAt w'.heap.size v' Kn w' ∧ Below W.heap.size W w') := fun W h => (C4.out W h).mono (by rintro e w' ⟨v', rfl, ho, _, hb⟩; exact ⟨v', rfl, rw_own ho, hb⟩)
      clear C4
      have HQ : Hid (Mk MA w p L (.slice sa Kall.length sc) Kall w3.heap.size w7.drew) := H7.out.on I (Below.refl _ _).drew
      have h0n : (0 : Int) ≤ nn := by omega
      clear hnn
      go_upto_region 15 with fail
      clear hn1 HNn hmx
      go_region_held3 (fun w' => Hid (Mk MA w p L (.slice sa Kall.length sc) Kall w3.heap.size w'))
        (first | exact HQ.out | exact H8.out.1 | exact H9.out)
        (first
        | (go_at_call 17; refine (C5.out _ HQ.out.m).mono ?_; rintro e w8 ⟨v8, rfl, ho8, hb8⟩; have H8 : Hid (Mk MA w p L (.slice sa Kall.length sc) Kall w3.heap.size w8 ∧ KsAt w8.heap.size v8 Kn w8) := ⟨HQ.out.on I hb8, ho8⟩; clear ho8 hb8)
        | (go_at_call 16; refine (CSm.out _ _ _ _ H8.out.2 (HTk.out _ H8.out.1)).mono ?_; rintro e w9 ⟨rfl, hb9⟩; have H9 : Hid (Mk MA w p L (.slice sa Kall.length sc) Kall w3.heap.size w9) := H8.out.1.on I hb9; clear hb9))
      go_wp2_with fail
      go_ret
      exact ⟨rfl, H9.out.bel⟩
end Go.Proofs.Ytogkgibneddngaa
