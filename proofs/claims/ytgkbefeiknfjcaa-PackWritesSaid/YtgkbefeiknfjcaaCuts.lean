/-
  The walk of PackCuts: whatever the argument, it answers true, and turns no memory that was there.
-/
import Derived.Test.YtgkbefeiknfjcaaBack
import Derived.Test.YtgkbefeiknfjcaaOneWay
namespace Go.Proofs.Ytgkbefeiknfjcaa
open Go.RowKit

/-- A beginning is not read whole. -/
theorem cuts_pure (n : Nat) (s : List UInt8) (p q c : Nat) (hn : n < 18446744073709551616) (hs : s.length ≤ 400) (hp : p ≤ 281474976710656) (hq : q ≤ 4095)
    (hc : c < ((numForm n ++ textForm s) ++ stampForm p q).length) :
    (rdStamp (rdText 0 400 (rdNum 18446744073709551615 ⟨((numForm n ++ textForm s) ++ stampForm p q).take c, 0⟩).2).2).2 = ⟨[], 4⟩ := by
  have h1 := num_take n c 18446744073709551615 (textForm s ++ stampForm p q) hn (by omega)
  have hnl := numForm_length n
  have hpl := numForm_length p
  have hql := numForm_length q
  have htl := numForm_length s.length
  rw [List.append_assoc, h1]
  by_cases c1 : c < sz n
  · rw [if_pos c1]
    dsimp only
    rw [text_bad 0 400 (st := ⟨[], 4⟩) (by decide)]
    dsimp only
    rw [stamp_bad (st := ⟨[], 4⟩) (by decide)]
  · rw [if_neg c1]
    dsimp only
    have h2 := text_take s (stampForm p q) (c - sz n) 0 400 (by omega) (by omega) (by omega)
    rw [h2]
    by_cases c2 : c - sz n < sz s.length + s.length
    · rw [if_pos c2]
      dsimp only
      rw [stamp_bad (st := ⟨[], 4⟩) (by decide)]
    · rw [if_neg c2]
      dsimp only
      refine stamp_take p q _ hp hq ?_
      rw [List.length_append, List.length_append, textForm, List.length_append, stampForm, List.length_append] at hc
      omega

theorem five_cells {w : World} {b : Nat} {x y z u v : Value} {t : TypeId} (h : w.heap[b]? = some (.cells #[x, y, z, u, v] t (0, 0))) :
    w.cell? ⟨b, 0, none⟩ = some x ∧ w.cell? ⟨b, 1, none⟩ = some y ∧ w.cell? ⟨b, 2, none⟩ = some z ∧ w.cell? ⟨b, 3, none⟩ = some u ∧ w.cell? ⟨b, 4, none⟩ = some v := by
  refine ⟨?_, ?_, ?_, ?_, ?_⟩ <;> simp [World.cell?, h]

set_option maxHeartbeats 1000000 in
theorem cuts7 (n : Nat) (s : List UInt8) (p q : Nat) (cut : Int) (w : World) (hn : n < 18446744073709551616) (hp : p < 18446744073709551616) (hq : q < 4294967296) (hs : s.length < 9223372036854775808) (c0 : -9223372036854775808 ≤ cut) (c1 : cut ≤ 9223372036854775807) :
    Calls Try.prog 7 #[.agg #[.int .u64 n, .string (bs s), .int .u64 p, .int .u32 q, .int .i64 cut]] w fun e w' => e = .returned (.bool true) ∧ Below w.heap.size w w' := by
  have hbs := bs_size s
  go_enter Try.func7, Try.ntmps7
  go_wp2_with fail
  refine (awake9 _).mono ?_
  rintro e w1 ⟨rfl, hb⟩
  have hx1 : w1.heap[w.heap.size]? = some (Obj.cells #[Value.int IntKind.u64 n, Value.string (bs s), Value.int IntKind.u64 p, Value.int IntKind.u32 q, Value.int IntKind.i64 cut] 60 (0, 0)) :=
    (hb.block w.heap.size (by simp)).trans (heap_alloc_new w _)
  obtain ⟨a0, a1, a2, a3, a4⟩ := five_cells hx1
  have hb1 : Below w.heap.size w w1 := ((Below.refl _ _).alloc (Nat.le_refl _) _).trans (hb.mono (by simp))
  obtain ⟨xb, hxb⟩ : ∃ xb, xb = w.heap.size := ⟨_, rfl⟩
  rw [← hxb] at a0 a1 a2 a3 a4 hx1 ⊢
  have H1 : Hid (w1.heap[xb]? = some (Obj.cells #[Value.int IntKind.u64 n, Value.string (bs s), Value.int IntKind.u64 p, Value.int IntKind.u32 q, Value.int IntKind.i64 cut] 60 (0, 0)) ∧ Below w.heap.size w w1) := ⟨hx1, hb1⟩
  clear hb hx1 hb1 hxb
  have hxl : xb < w1.heap.size := lt_of_block H1.out.1
  have hca : ∀ (o : Obj) (i : Nat), (w1.alloc o).cell? ⟨xb, i, none⟩ = w1.cell? ⟨xb, i, none⟩ := fun o i => by rw [World.cell?_alloc_lt (h := hxl)]
  go_wp2_with fail
  go_region
  have hy2 : (w1.alloc (Obj.cells #[Value.int IntKind.u64 p, Value.int IntKind.u32 q] 31)).drew.heap[w1.heap.size]? = some (Obj.cells #[Value.int IntKind.u64 p, Value.int IntKind.u32 q] 31 (0, 0)) := heap_alloc_new w1 _
  have hb2 : Below w1.heap.size w1 (w1.alloc (Obj.cells #[Value.int IntKind.u64 p, Value.int IntKind.u32 q] 31)).drew := ((Below.refl _ _).alloc (Nat.le_refl _) _).drew
  generalize (w1.alloc (Obj.cells #[Value.int IntKind.u64 p, Value.int IntKind.u32 q] 31)).drew = w2 at hy2 hb2 ⊢
  obtain ⟨tb, htb⟩ : ∃ tb, tb = w1.heap.size := ⟨_, rfl⟩
  rw [← htb] at hy2 hb2 hxl ⊢
  have hx2 : w2.heap[xb]? = some (Obj.cells #[Value.int IntKind.u64 n, Value.string (bs s), Value.int IntKind.u64 p, Value.int IntKind.u32 q, Value.int IntKind.i64 cut] 60 (0, 0)) := (hb2.block xb hxl).trans H1.out.1
  obtain ⟨y0, y1, _, _⟩ := two_cells hy2
  obtain ⟨x0, x1, x2, x3, x4⟩ := five_cells hx2
  have H2 : Hid (w2.heap[xb]? = some (Obj.cells #[Value.int IntKind.u64 n, Value.string (bs s), Value.int IntKind.u64 p, Value.int IntKind.u32 q, Value.int IntKind.i64 cut] 60 (0, 0)) ∧ w2.heap[tb]? = some (Obj.cells #[Value.int IntKind.u64 p, Value.int IntKind.u32 q] 31 (0, 0)) ∧ Below w.heap.size w w2) :=
    ⟨hx2, hy2, H1.out.2.trans (hb2.mono (by rw [htb]; exact H1.out.2.size))⟩
  clear a0 a1 a2 a3 a4 hca hy2 hb2 hx2 H1 htb
  by_cases g1 : (400 : Int) < s.length
  · go_wp2
    go_ret
    exact ⟨rfl, H2.out.2.2⟩
  · by_cases g2 : (281474976710656 : Int) < p
    · go_wp2
      go_ret
      exact ⟨rfl, H2.out.2.2⟩
    · by_cases g3 : (4095 : Int) < q
      · go_wp2
        go_ret
        exact ⟨rfl, H2.out.2.2⟩
      · have hca2 : ∀ (o : Obj) (i : Nat), (w2.alloc o).cell? ⟨xb, i, none⟩ = w2.cell? ⟨xb, i, none⟩ := fun o i => by rw [World.cell?_alloc_lt (h := lt_of_block H2.out.1)]
        go_wp2_with fail
        obtain ⟨pb, hpb⟩ : ∃ pb, pb = w2.heap.size := ⟨_, rfl⟩
        have hxp : xb < pb := by rw [hpb]; exact lt_of_block H2.out.1
        have htp : tb < pb := by rw [hpb]; exact lt_of_block H2.out.2.1
        have hwp : w.heap.size ≤ pb := by rw [hpb]; exact H2.out.2.2.size
        have hA := num10 pb [] n (w2.alloc (.cells #[.slice none 0 0] 27)) hn (by rw [hpb]; exact wr_new w2) (by simp)
        rw [← hpb]
        refine hA.mono ?_
        clear hA
        rintro e w3 ⟨rfl, h1, k1⟩
        rw [List.nil_append] at h1
        have hbb : Below pb w2 w3 := (((Below.refl _ _).alloc (by omega) _)).trans k1.below
        have H3 : Hid (WrAt pb (numForm n) w3 ∧ w3.heap[tb]? = some (Obj.cells #[Value.int IntKind.u64 p, Value.int IntKind.u32 q] 31 (0, 0)) ∧ Below w.heap.size w w3) :=
          ⟨h1, by rw [hbb.block tb htp]; exact H2.out.2.1, H2.out.2.2.trans (hbb.mono hwp)⟩
        clear h1 k1 H2 hpb hbb x0 x1 x2 x3 x4 y0 y1 hca2
        have hnl := numForm_length n
        have hpl := numForm_length p
        have hql := numForm_length q
        have htl := numForm_length s.length
        have htt : (textForm s).length = sz s.length + s.length := by rw [textForm, List.length_append, htl]
        have hss : (stampForm p q).length = sz p + sz q := by rw [stampForm, List.length_append, hpl, hql]
        have z1 := sz_le hn
        have z2 := sz_le (n := s.length) (by omega)
        have z3 := sz_le (n := p) (by omega)
        have z4 := sz_le (n := q) (by omega)
        go_wp2_with fail
        refine (text12 pb (numForm n) (bs s) _ H3.out.1 (by rw [bs_size]; omega)).mono ?_
        rintro e w4 ⟨rfl, h1, k1⟩
        rw [bs_size, bs_data] at h1
        have hy4 : w4.heap[tb]? = some (Obj.cells #[Value.int IntKind.u64 p, Value.int IntKind.u32 q] 31 (0, 0)) := by rw [k1.below.block tb htp]; exact H3.out.2.1
        obtain ⟨y0, y1, _, _⟩ := two_cells hy4
        have H4 : Hid (WrAt pb (numForm n ++ textForm s) w4 ∧ Below w.heap.size w w4) := ⟨h1, H3.out.2.2.trans (k1.below.mono hwp)⟩
        clear h1 k1 H3 hy4
        go_wp2_with fail
        refine (stamp16 pb _ p q _ hp hq H4.out.1 (by rw [List.length_append]; omega)).mono ?_
        rintro e w5 ⟨rfl, h1, k1⟩
        have H5 : Hid (WrAt pb ((numForm n ++ textForm s) ++ stampForm p q) w5 ∧ Below w.heap.size w w5) := ⟨h1, H4.out.2.trans (k1.below.mono hwp)⟩
        clear h1 k1 H4 y0 y1
        obtain ⟨L, hL⟩ : ∃ L, L = (numForm n ++ textForm s) ++ stampForm p q := ⟨_, rfl⟩
        have HL : Hid (L = (numForm n ++ textForm s) ++ stampForm p q) := hL
        rw [← hL] at H5
        have hLl := congrArg List.length hL
        simp only [List.length_append] at hLl
        clear hL
        have hbl := bs_size L
        by_cases k0 : cut < 0
        · go_wp2_with (go_at_call 18; refine (bytes18 pb _ _ H5.out.1).mono ?_; rintro e w1 ⟨rfl, rfl⟩)
          go_ret
          exact ⟨rfl, H5.out.2⟩
        · by_cases k2 : (L.length : Int) ≤ cut
          · go_wp2_with (go_at_call 18; refine (bytes18 pb _ _ H5.out.1).mono ?_; rintro e w1 ⟨rfl, rfl⟩)
            go_ret
            exact ⟨rfl, H5.out.2⟩
          · obtain ⟨c, rfl⟩ : ∃ c : Nat, cut = (c : Int) := Int.eq_ofNat_of_zero_le (by omega)
            have hcl : c < L.length := by omega
            have htk := bs_take L c
            go_wp2_with (go_at_call 18; refine (bytes18 pb _ _ H5.out.1).mono ?_; rintro e w1 ⟨rfl, rfl⟩)
            have hpure := cuts_pure n s p q c hn (by omega) (by omega) (by omega) (by rw [← HL.out]; exact hcl)
            rw [← HL.out] at hpure
            have HPU : Hid (1 = 1 → (rdStamp (rdText 0 400 (rdNum 18446744073709551615 ⟨L.take c, 0⟩).2).2).2 = ⟨[], 4⟩) := fun _ => hpure
            clear hpure htk
            refine (new19 _ _).mono ?_
            rintro e w6 ⟨rfl, h1, k1⟩
            obtain ⟨rb, hrb⟩ : ∃ rb, rb = w5.heap.size := ⟨_, rfl⟩
            rw [← hrb] at h1 k1 ⊢
            have hlt : w.heap.size ≤ rb := by rw [hrb]; exact H5.out.2.size
            obtain ⟨s0, hs0⟩ : ∃ s0 : St, s0 = ⟨L.take c, 0⟩ := ⟨_, rfl⟩
            obtain ⟨s1, hs1⟩ : ∃ s1, s1 = (rdNum 18446744073709551615 s0).2 := ⟨_, rfl⟩
            obtain ⟨s2, hs2⟩ : ∃ s2, s2 = (rdText 0 400 s1).2 := ⟨_, rfl⟩
            obtain ⟨s3, hs3⟩ : ∃ s3, s3 = (rdStamp s2).2 := ⟨_, rfl⟩
            have hlen0 : s0.l.length ≤ L.length := by rw [hs0]; show (L.take c).length ≤ _; rw [List.length_take]; omega
            have hlen1 := (rdNum_le 18446744073709551615 s0).2.1
            have hlen2 := (text_len 0 400 s1).1
            have hlast : s3 = ⟨[], 4⟩ := by rw [hs3, hs2, hs1, hs0]; exact HPU.out rfl
            rw [← hs1] at hlen1
            rw [← hs2] at hlen2
            rw [← hs0] at h1
            have HS : Hid (s1 = (rdNum 18446744073709551615 s0).2 ∧ s2 = (rdText 0 400 s1).2 ∧ s3 = (rdStamp s2).2 ∧ s3 = ⟨[], 4⟩) := ⟨hs1, hs2, hs3, hlast⟩
            have H6 : Hid (RdAt 66 rb s0 w6 ∧ Below w.heap.size w w6) := ⟨h1, H5.out.2.trans (k1.mono (by omega))⟩
            clear h1 k1 hrb H5 HPU hs0 hs1 hs2 hs3 hlast
            go_wp2_with fail
            refine (num20 rb s0 18446744073709551615 _ H6.out.1 (by omega)).mono ?_
            rintro e w7 ⟨rfl, h1, k1⟩
            have H7 : Hid (RdAt 66 rb s1 w7 ∧ Below w.heap.size w w7) := ⟨by rw [HS.out.1]; exact h1, H6.out.2.trans (k1.below (by omega) H6.out.2.size)⟩
            clear h1 k1 H6
            go_wp2_with fail
            refine (text21 rb s1 0 400 _ H7.out.1 (by omega) (by decide) (by decide) (by decide) (by decide)).mono ?_
            rintro e w8 ⟨rfl, h1, k1⟩
            have H8 : Hid (RdAt 66 rb s2 w8 ∧ Below w.heap.size w w8) := ⟨by rw [HS.out.2.1]; exact h1, H7.out.2.trans (k1.below (by omega) H7.out.2.size)⟩
            clear h1 k1 H7
            go_wp2_with fail
            refine (stamp23 rb s2 _ H8.out.1 (by omega)).mono ?_
            rintro e w9 ⟨rfl, h1, k1⟩
            have H9 : Hid (RdAt 66 rb ⟨[], 4⟩ w9 ∧ Below w.heap.size w w9) := ⟨by rw [← HS.out.2.2.2, HS.out.2.2.1]; exact h1, H8.out.2.trans (k1.below (by omega) H8.out.2.size)⟩
            clear h1 k1 H8
            have hE : rdEnd ⟨[], 4⟩ = 4 := rfl
            go_wp2_with (first
              | (go_at_call 32; refine (err32 rb _ _ H9.out.1).mono ?_; rintro e w1 ⟨rfl, rfl⟩)
              | (go_at_call 25; refine (end25 rb _ _ H9.out.1).mono ?_; rintro e w1 ⟨rfl, rfl⟩)
              | (go_at_call 24; refine (left24 rb _ _ H9.out.1).mono ?_; rintro e w1 ⟨rfl, rfl⟩))
            go_ret
            exact ⟨rfl, H9.out.2⟩

end Go.Proofs.Ytgkbefeiknfjcaa
