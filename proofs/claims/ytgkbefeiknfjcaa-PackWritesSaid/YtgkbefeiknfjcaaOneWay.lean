/-
  The walk of PackOneWay: of every text it answers true, and turns no memory that was there.
-/
import Derived.Test.YtgkbefeiknfjcaaBack
import Derived.Test.YtgkbefeiknfjcaaNothing
namespace Go.Proofs.Ytgkbefeiknfjcaa
open Go.RowKit

theorem RdAt.sole {T rb b : Nat} {st : St} {w w' : World} (h : RdAt T rb st w) (hs : Sole b w w') (hne : rb ≠ b) : RdAt T rb st w' := by
  unfold RdAt
  rw [hs.block rb h.lt hne]
  exact h
theorem RdAt.under {T rb pb : Nat} {st : St} {w w' : World} (h : RdAt T rb st w) (hb : Below pb w w') (hlt : rb < pb) : RdAt T rb st w' := by
  unfold RdAt
  rw [hb.block rb hlt]
  exact h

/-- What the bytes are when all was read. -/
theorem oneway_ok {l : List UInt8} {n : Nat} {s1 s2 s3 s4 : St} {t : List UInt8} {x : Nat × Nat} {b : Bool} (h1 : (n, s1) = rdNum 18446744073709551615 ⟨l, 0⟩) (h2 : (t, s2) = rdText 0 1099511627776 s1) (h3 : (x, s3) = rdStamp s2) (h4 : (b, s4) = rdFlag s3) (he : s4.e = 0) :
    l = ((numForm n ++ textForm t) ++ stampForm x.1 x.2) ++ flagForm b ++ s4.l := by
  have a4 := flag_ok (st := s3) (by rw [← h4]; exact he)
  rw [← h4] at a4
  have a3 := stamp_ok (st := s2) (by rw [← h3]; exact a4.1)
  rw [← h3] at a3
  have a2 := text_ok (least := 0) (most := 1099511627776) (st := s1) (by rw [← h2]; exact a3.1)
  rw [← h2] at a2
  have a1 := num_ok (most := 18446744073709551615) (st := ⟨l, 0⟩) (by rw [← h1]; exact a2.1)
  rw [← h1] at a1
  dsimp only at a1 a2 a3 a4
  rw [a1.2, a2.2, a3.2, a4.2]
  simp only [List.append_assoc]

set_option maxHeartbeats 1000000 in
theorem oneWay5 (l : List UInt8) (w : World) (hl : l.length ≤ 140737488351232) :
    Calls Try.prog 5 #[.string (bs l)] w fun e w' => e = .returned (.bool true) ∧ Below w.heap.size w w' := by
  obtain ⟨⟨n, s1⟩, h1⟩ : ∃ f, f = rdNum 18446744073709551615 ⟨l, 0⟩ := ⟨_, rfl⟩
  obtain ⟨⟨t, s2⟩, h2⟩ : ∃ f, f = rdText 0 1099511627776 s1 := ⟨_, rfl⟩
  obtain ⟨⟨⟨p, q⟩, s3⟩, h3⟩ : ∃ f, f = rdStamp s2 := ⟨_, rfl⟩
  obtain ⟨⟨b, s4⟩, h4⟩ : ∃ f, f = rdFlag s3 := ⟨_, rfl⟩
  have l1 := rdNum_le 18446744073709551615 ⟨l, 0⟩
  have l2 := text_len 0 1099511627776 s1
  have l3 := stamp_len s2
  have l3' := stamp_le s2
  have l4 := flag_len s3
  have g4 : Good s4 := by
    have := flag_good (stamp_good (text_good 0 1099511627776 (num_good 18446744073709551615 (good_new l))))
    rwa [← h1, ← h2, ← h3, ← h4] at this
  have hok := fun he => oneway_ok (x := (p, q)) h1 h2 h3 h4 he
  rw [← h1] at l1
  rw [← h2] at l2
  rw [← h3] at l3 l3'
  rw [← h4] at l4
  dsimp only at l1 l2 l3 l3' l4
  have HP : Hid ((n, s1) = rdNum 18446744073709551615 ⟨l, 0⟩ ∧ (t, s2) = rdText 0 1099511627776 s1 ∧ ((p, q), s3) = rdStamp s2 ∧ (b, s4) = rdFlag s3) := ⟨h1, h2, h3, h4⟩
  have HOK : Hid (s4.e = 0 → l = ((numForm n ++ textForm t) ++ stampForm p q) ++ flagForm b ++ s4.l) := hok
  have HG : Hid (Good s4) := g4
  clear h1 h2 h3 h4 hok g4
  obtain ⟨l1a, l1b, l1c⟩ := l1
  obtain ⟨l2a, l2b⟩ := l2
  obtain ⟨l3a, l3b⟩ := l3'
  go_enter Try.func5, Try.ntmps5
  go_wp2_with (go_at_call 9; refine (awake9 _).mono ?_; rintro e w1 ⟨rfl, hb⟩; have HB : Hid (Below w.heap.size w w1) := hb; clear hb)
  refine (new19 _ _).mono ?_
  rintro e w2 ⟨rfl, h1, k1⟩
  obtain ⟨rb, hrb⟩ : ∃ rb, rb = w1.heap.size := ⟨_, rfl⟩
  rw [← hrb] at h1 k1 ⊢
  have hlt : w.heap.size ≤ rb := by rw [hrb]; exact HB.out.size
  have H2 : Hid (RdAt 66 rb ⟨l, 0⟩ w2 ∧ Below w.heap.size w w2) := ⟨h1, HB.out.trans (k1.mono (by omega))⟩
  clear h1 k1 hrb HB
  go_wp2_with fail
  have hA := num20 rb _ 18446744073709551615 _ H2.out.1 (by dsimp only; omega)
  rw [← HP.out.1] at hA
  refine hA.mono ?_
  clear hA
  rintro e w3 ⟨rfl, h1, k1⟩
  have H3 : Hid (RdAt 66 rb s1 w3 ∧ Below w.heap.size w w3) := ⟨h1, H2.out.2.trans (k1.below (by omega) H2.out.2.size)⟩
  clear h1 k1 H2
  go_wp2_with fail
  have hA := text21 rb s1 0 1099511627776 _ H3.out.1 (by omega) (by decide) (by decide) (by decide) (by decide)
  rw [← HP.out.2.1] at hA
  refine hA.mono ?_
  clear hA
  rintro e w4 ⟨rfl, h1, k1⟩
  have H4 : Hid (RdAt 66 rb s2 w4 ∧ Below w.heap.size w w4) := ⟨h1, H3.out.2.trans (k1.below (by omega) H3.out.2.size)⟩
  clear h1 k1 H3
  go_wp2_with fail
  have hA := stamp23 rb s2 _ H4.out.1 (by omega)
  rw [← HP.out.2.2.1] at hA
  refine hA.mono ?_
  clear hA
  rintro e w5 ⟨rfl, h1, k1⟩
  have H5 : Hid (RdAt 66 rb s3 w5 ∧ Below w.heap.size w w5) := ⟨h1, H4.out.2.trans (k1.below (by omega) H4.out.2.size)⟩
  clear h1 k1 H4
  dsimp only
  go_wp2_with fail
  have hA := flag22 rb s3 (w5.alloc (Obj.cells #[Value.int IntKind.u64 p, Value.int IntKind.u32 q] 31)) (H5.out.1.alloc _)
  rw [← HP.out.2.2.2] at hA
  refine hA.mono ?_
  clear hA
  rintro e w6 ⟨rfl, h1, k1⟩
  obtain ⟨xb, hxb⟩ : ∃ xb, xb = w5.heap.size := ⟨_, rfl⟩
  have hrx : rb < xb := by rw [hxb]; exact H5.out.1.lt
  have hx1 : w6.heap[xb]? = some (Obj.cells #[Value.int IntKind.u64 p, Value.int IntKind.u32 q] 31 (0, 0)) := by
    rw [k1.block xb (by rw [hxb]; simp) (by omega), hxb]
    exact heap_alloc_new w5 _
  have H6 : Hid (RdAt 66 rb s4 w6 ∧ Below w.heap.size w w6 ∧ w6.heap[xb]? = some (Obj.cells #[Value.int IntKind.u64 p, Value.int IntKind.u32 q] 31 (0, 0))) :=
    ⟨h1, (H5.out.2.alloc H5.out.2.size _).trans (k1.below (by omega) (by have := H5.out.2.size; simp; omega)), hx1⟩
  rw [← hxb]
  clear h1 k1 H5 hx1 hxb
  dsimp only
  go_wp2_with fail
  refine (err32 rb _ _ H6.out.1).mono ?_
  rintro e w7 ⟨rfl, rfl⟩
  by_cases he : s4.e = 0
  · have he' : ((s4.e : Int) != 0) = false := by simp [he]
    have hL := HOK.out he
    have hlen := congrArg List.length hL
    obtain ⟨x0, x1, _, _⟩ := two_cells H6.out.2.2
    have HL : Hid (l = ((numForm n ++ textForm t) ++ stampForm p q) ++ flagForm b ++ s4.l) := hL
    clear hL
    simp only [List.length_append] at hlen
    go_wp2_with fail
    obtain ⟨pb, hpb⟩ : ∃ pb, pb = w6.heap.size := ⟨_, rfl⟩
    have hxp : xb < pb := by rw [hpb]; exact lt_of_block H6.out.2.2
    have hA := num10 pb [] n (w6.alloc (.cells #[.slice none 0 0] 27)) l1c (by rw [hpb]; exact wr_new w6) (by simp)
    rw [← hpb]
    refine hA.mono ?_
    clear hA
    rintro e w8 ⟨rfl, h1, k1⟩
    rw [List.nil_append] at h1
    have H8 : Hid (WrAt pb (numForm n) w8 ∧ RdAt 66 rb s4 w8 ∧ w8.heap[xb]? = some (Obj.cells #[Value.int IntKind.u64 p, Value.int IntKind.u32 q] 31 (0, 0)) ∧ Below w.heap.size w w8) := by
      have hbb : Below pb w6 w8 := (((Below.refl _ _).alloc (by omega) _)).trans k1.below
      exact ⟨h1, H6.out.1.under hbb (by omega), by rw [hbb.block xb hxp]; exact H6.out.2.2, H6.out.2.1.trans (hbb.mono (by have := H6.out.2.1.size; omega))⟩
    clear h1 k1 H6 hpb
    have hnl := numForm_length n
    have hpl := numForm_length p
    have hql := numForm_length q
    have htl := numForm_length t.length
    have htt : (textForm t).length = sz t.length + t.length := by rw [textForm, List.length_append, htl]
    have hss : (stampForm p q).length = sz p + sz q := by rw [stampForm, List.length_append, hpl, hql]
    have z1 := sz_le l1c
    have z2 := sz_le (n := t.length) (by omega)
    have z3 := sz_le (n := p) (by omega)
    have z4 := sz_le (n := q) (by omega)
    clear x0 x1
    go_wp2_with fail
    refine (text12 pb (numForm n) (bs t) _ H8.out.1 (by rw [bs_size]; omega)).mono ?_
    rintro e w9 ⟨rfl, h1, k1⟩
    rw [bs_size, bs_data] at h1
    have hx9 : w9.heap[xb]? = some (Obj.cells #[Value.int IntKind.u64 p, Value.int IntKind.u32 q] 31 (0, 0)) := by rw [k1.below.block xb hxp]; exact H8.out.2.2.1
    obtain ⟨x0, x1, _, _⟩ := two_cells hx9
    have H9 : Hid (WrAt pb (numForm n ++ textForm t) w9 ∧ RdAt 66 rb s4 w9 ∧ Below w.heap.size w w9) :=
      ⟨h1, H8.out.2.1.under k1.below (by omega), H8.out.2.2.2.trans (k1.below.mono (by omega))⟩
    clear h1 k1 H8 hx9
    go_wp2_with fail
    refine (stamp16 pb _ p q _ (by omega) (by omega) H9.out.1 (by rw [List.length_append]; omega)).mono ?_
    rintro e w10 ⟨rfl, h1, k1⟩
    have H10 : Hid (WrAt pb ((numForm n ++ textForm t) ++ stampForm p q) w10 ∧ RdAt 66 rb s4 w10 ∧ Below w.heap.size w w10) :=
      ⟨h1, H9.out.2.1.under k1.below (by omega), H9.out.2.2.trans (k1.below.mono (by omega))⟩
    clear h1 k1 H9 x0 x1
    go_wp2_with fail
    refine (flag14 pb _ b _ H10.out.1 (by rw [List.length_append, List.length_append]; omega)).mono ?_
    rintro e w11 ⟨rfl, h1, k1⟩
    have H11 : Hid (WrAt pb ((numForm n ++ textForm t) ++ stampForm p q ++ flagForm b) w11 ∧ RdAt 66 rb s4 w11 ∧ Below w.heap.size w w11) :=
      ⟨h1, H10.out.2.1.under k1.below (by omega), H10.out.2.2.trans (k1.below.mono (by omega))⟩
    clear h1 k1 H10
    have hbl := bs_size l
    have hfl : (flagForm b).length = 1 := rfl
    have hs4 : s4.l.length ≤ l.length := by omega
    go_wp2_with (first
      | (go_at_call 18; refine (bytes18 pb _ _ H11.out.1).mono ?_; rintro e w1 ⟨rfl, rfl⟩)
      | (go_at_call 24; refine (left24 rb _ _ H11.out.2.1).mono ?_; rintro e w1 ⟨rfl, rfl⟩))
    go_ret
    refine ⟨?_, H11.out.2.2⟩
    have e1 : (bs l).extract 0 (sz n + (sz t.length + t.length) + (sz p + sz q) + 1) = bs (numForm n ++ (textForm t ++ (stampForm p q ++ flagForm b))) := by
      rw [bs_take]
      congr 1
      rw [show l = (numForm n ++ (textForm t ++ (stampForm p q ++ flagForm b))) ++ s4.l by simpa only [List.append_assoc] using HL.out]
      exact List.take_left' (by simp only [List.length_append]; omega)
    show Ending.returned (.bool ((bs (numForm n ++ (textForm t ++ (stampForm p q ++ flagForm b)))).toList == ((bs l).extract 0 (sz n + (sz t.length + t.length) + (sz p + sz q) + 1)).toList)) = _
    rw [e1, beq_self_eq_true]
  · have he' : ((s4.e : Int) != 0) = true := by simp; omega
    have hl0 := HG.out he
    have hl0' : s4.l.length = 0 := by rw [hl0]; rfl
    have hne := bs_nil_empty
    clear hl0
    go_wp2_with (go_at_call 24; refine (left24 rb _ _ H6.out.1).mono ?_; rintro e w1 ⟨rfl, rfl⟩)
    have hA := num20 rb s4 18446744073709551615 _ H6.out.1 (by omega)
    rw [num_bad _ he] at hA
    refine hA.mono ?_
    clear hA
    rintro e w8 ⟨rfl, h1, k1⟩
    have H8 : Hid (RdAt 66 rb s4 w8 ∧ Below w.heap.size w w8) := ⟨h1, H6.out.2.1.trans (k1.below (by omega) H6.out.2.1.size)⟩
    clear h1 k1 H6
    dsimp only
    go_wp2_with fail
    have hA := text21 rb s4 0 9 _ H8.out.1 (by omega) (by decide) (by decide) (by decide) (by decide)
    rw [text_bad _ _ he] at hA
    refine hA.mono ?_
    clear hA
    rintro e w9 ⟨rfl, h1, k1⟩
    have H9 : Hid (RdAt 66 rb s4 w9 ∧ Below w.heap.size w w9) := ⟨h1, H8.out.2.trans (k1.below (by omega) H8.out.2.size)⟩
    clear h1 k1 H8
    dsimp only
    go_wp2_with fail
    have hA := stamp23 rb s4 _ H9.out.1 (by omega)
    rw [stamp_bad he] at hA
    refine hA.mono ?_
    clear hA
    rintro e w10 ⟨rfl, h1, k1⟩
    have H10 : Hid (RdAt 66 rb s4 w10 ∧ Below w.heap.size w w10) := ⟨h1, H9.out.2.trans (k1.below (by omega) H9.out.2.size)⟩
    clear h1 k1 H9
    have h31 := run_eql31 0 0 w10
    dsimp only
    go_wp2_with fail
    have hA := flag22 rb s4 _ H10.out.1
    rw [flag_bad he] at hA
    refine hA.mono ?_
    clear hA h31
    rintro e w11 ⟨rfl, h1, k1⟩
    have H11 : Hid (RdAt 66 rb s4 w11 ∧ Below w.heap.size w w11) := ⟨h1, H10.out.2.trans (k1.below (by omega) H10.out.2.size)⟩
    clear h1 k1 H10
    dsimp only
    go_wp2_with fail
    have hA := count30 rb s4 9 _ H11.out.1 (by omega) (by decide) (by decide)
    rw [num_bad _ he] at hA
    refine hA.mono ?_
    clear hA
    rintro e w12 ⟨rfl, h1, k1⟩
    have H12 : Hid (RdAt 66 rb s4 w12 ∧ Below w.heap.size w w12) := ⟨h1, H11.out.2.trans (k1.below (by omega) H11.out.2.size)⟩
    clear h1 k1 H11
    dsimp only
    go_wp2
    go_ret
    exact ⟨rfl, H12.out.2⟩

end Go.Proofs.Ytgkbefeiknfjcaa
