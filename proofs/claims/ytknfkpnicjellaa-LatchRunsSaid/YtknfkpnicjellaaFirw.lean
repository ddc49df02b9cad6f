/-
  LatchFirst, walked, on.
-/
import Derived.Test.YtknfkpnicjellaaFir
namespace Go.Proofs.Ytknfkpnicjellaa
open Go.RowKit
variable {TA : Nat → Nat → (Nat → Prop) → Tb → World → Prop}

theorem run_eql49 (x y : List UInt8 × Ii) (w : World) (h : x = y) : (binOp .eql 49 (.agg #[.int .u32 x.2.c, .int .u32 x.2.n, .int .u64 x.2.sp, .int .u32 x.2.sl, .int .u64 x.2.mp, .int .u32 x.2.ml, .string (bs x.2.prim), .string (bs x.1), .string (bs x.2.val), .bool x.2.dead]) (.agg #[.int .u32 y.2.c, .int .u32 y.2.n, .int .u64 y.2.sp, .int .u32 y.2.sl, .int .u64 y.2.mp, .int .u32 y.2.ml, .string (bs y.2.prim), .string (bs y.1), .string (bs y.2.val), .bool y.2.dead])).run Try.prog w = .ok (.bool true) w := by
  subst h
  simp [go_sem]
theorem fsV_eq (o : Option (List UInt8 × Ii)) : fsV o = .tuple #[inV (o.getD ([], zi)), .bool o.isSome] := by
  cases o <;> rfl
theorem want_step {q : Ac} {T : Tb} {m : Nat} (h : m < T.length) : wantN q T (m + 1) = if (wantN q T m).isSome then wantN q T m else if standsB q.lo q.hi q.mp q.ml q.but (T.getD m di) then some (T.getD m di) else none := by
  unfold wantN
  rw [firstN_step h]
  cases firstN (standsB q.lo q.hi q.mp q.ml q.but) T m <;> simp

theorem fw_begin (I : Ifl TA) {w W : World} {p bq : Nat} {T : Tb} {q : Ac} (e : w.heap.size = bq) (h : Pa TA w p T q bq W) : Calls Try.prog 23 #[.pointer (some ⟨p, 0, none⟩)] (W.alloc (ibx ([], zi))) fun e w' => ∃ ya yc, e = .returned (.slice ya T.length yc) ∧ Fw TA w p T q bq W.heap.size (.slice ya T.length yc) ([], zi) w' := by
  have hbw := (Array.getElem?_eq_some_iff.1 h.b0).1
  have h1 := h.pz.more I (G := fun k => k = bq ∨ k = W.heap.size) (al (W := W) (ibx ([], zi))) (fun k hk => by rcases hk with e | e; exact .inl e; exact .inr ⟨by omega, by rw [e]; simp⟩)
  have h0 : (W.alloc (ibx ([], zi))).heap[bq]? = some (abx q) := by rw [(al (W := W) (ibx ([], zi))).block bq hbw]; exact h.b0
  refine (pz_all I h1).mono ?_
  rintro e w' ⟨v', rfl, hi, hv, h2, hb⟩
  obtain ⟨ya, yc, rfl, _⟩ := hi.shape
  refine ⟨ya, yc, rfl, h2, by rw [hb.block bq (Array.getElem?_eq_some_iff.1 h0).1]; exact h0, by rw [hb.block W.heap.size (by simp)]; exact heap_alloc_new W _, hi, fun k hk e => (hv k hk).1 (.inr e), h.pz.bel.size, by omega, by omega⟩

set_option maxHeartbeats 6400000 in
set_option maxRecDepth 100000 in
theorem first6 (I : Ifl TA) (B : Nat) (A : List Ac) (v : Value) (q : Ac) (w : World) (hv : AcsAt B v A w) (hq : AcOk B q w) (hB : B ≤ w.heap.size) : Calls Try.prog 6 #[v, .agg #[.int .i64 q.what, .int .u32 q.c, .int .u32 q.n, .int .u64 q.sp, .int .u32 q.sl, .int .u64 q.mp, .int .u32 q.ml, .string (bs q.prim), .slice q.wa q.ws.length q.wc, .string (bs q.lo), .string (bs q.hi), .slice q.ba q.but.length q.bc]] w fun e w' => e = .returned (.bool true) ∧ Below w.heap.size w w' := by
  obtain ⟨ao, cap, rfl, hlc, hcm⟩ := hv.shape
  have CA : Hid (∀ W : World, 1 = 1 → Calls Try.prog 8 #[] W fun e w' => e = .returned (.bool true) ∧ Below W.heap.size W w') := fun W _ => awake8 I W
  have CN : Hid (∀ W, Below w.heap.size w W → W.heap[w.heap.size]? = some (abx q) → Calls Try.prog 9 #[] W fun e w' => ∃ p, e = .returned (.pointer (some ⟨p, 0, none⟩)) ∧ Pa TA w p [] q w.heap.size w') := fun W hW h0 => by
    refine (pz_new I (F := fun k => k = w.heap.size) hW (fun k e => by rw [e]; exact (Array.getElem?_eq_some_iff.1 h0).1)).mono ?_
    rintro e w' ⟨p, rfl, h1, h2⟩
    exact ⟨p, rfl, h1, by rw [h2.block _ (Array.getElem?_eq_some_iff.1 h0).1]; exact h0⟩
  have HEl : Hid (∀ W, Below w.heap.size w W → ∀ i, i < A.length → ∃ b off, ao = some ⟨b, off, none⟩ ∧ AcAt W b (off + i * 12) (A.getD i da)) := fun W hW i hi => (hv.on (hW.mono hB)).el hi
  have HOk : Hid (∀ i, i < A.length → AcOk B (A.getD i da) w) := fun i hi => hv.2 _ (getD_memA hi)
  have HQ : Hid (∀ W, Below w.heap.size w W → TsAt W.heap.size (.slice q.ba q.but.length q.bc) q.but W) := fun W hW => RwAt.le (RwAt.on hq.ts (hW.mono hB)) (Nat.le_trans hB hW.size)
  have HB : Hid (B ≤ w.heap.size) := hB
  have hL9 : A.length < 9223372036854775808 := by omega
  have hQ9 : q.but.length < 9223372036854775808 := by
    obtain ⟨_, _, e, h1, h2⟩ := TsAt.shape hq.ts
    omega
  have HX : Hid ((w.alloc (abx q)).heap[w.heap.size]? = some (abx q) ∧ Below w.heap.size w (w.alloc (abx q))) := ⟨heap_alloc_new w _, al _⟩
  clear hv hq hB hlc hcm
  simp only [abx] at HX
  go_enter Try.func6, Try.ntmps6
  go_wp2_with fail
  refine (CA.out _ (by trivial)).mono ?_
  rintro e w1 ⟨rfl, hb⟩
  have H1 : Hid (w1.heap[w.heap.size]? = some (abx q) ∧ Below w.heap.size w w1) := ⟨by rw [hb.block w.heap.size (by simp)]; exact HX.out.1, HX.out.2.trans (hb.mono HX.out.2.size)⟩
  clear hb HX CA
  go_wp2_with fail
  refine (CN.out _ H1.out.2 H1.out.1).mono ?_
  rintro e w2 ⟨p, rfl, h2⟩
  obtain ⟨bq, hbq⟩ : ∃ bq, w.heap.size = bq := ⟨_, rfl⟩
  have HBQ : Hid (w.heap.size = bq) := hbq
  rw [hbq] at h2 ⊢
  have H2 : Hid (Pa TA w p [] q bq w2) := h2
  clear h2 CN H1 hbq
  go_upto_block 0 with fail
  go_cut [] from 6 to 46 (fun wc => ∃ T : Tb, T.length < 1000 ∧ Pa TA w p T q bq wc)
  case first =>
    go_wp2_with fail
    go_loopw [24] (fun i wr => ∃ (m : Nat) (T : Tb), m ≤ A.length ∧ m ≤ 60 ∧ i = .int .i64 m ∧ T.length ≤ 16 * m ∧ Pa TA w p T q bq wr) (fun i _ => A.length - (intOf i).toNat)
    case atStart => exact ⟨0, [], Nat.zero_le _, by omega, rfl, by simp, H2.out⟩
    case round =>
      obtain ⟨m, T, hm, hm6, rfl, hT, hpa⟩ := hrel
      have HP : Hid (Pa TA w p T q bq wr) := hpa
      clear hpa H2
      by_cases hml : m < A.length ∧ m ≠ 60
      · obtain ⟨hml, hm60⟩ := hml
        have hml' : (m : Int) < A.length := by omega
        have h60 : ((m : Int) == 60) = false := by simp; omega
        obtain ⟨b, off, rfl, e0, e1, e2, e3, e4, e5, e6, e7, e8, e9, e10, e11⟩ := HEl.out wr HP.out.pz.bel m hml
        have HAc : Hid _ := HOk.out m hml
        generalize A.getD m da = a at *
        have HT : Hid (T.length ≤ 16 * m ∧ m < 60) := ⟨hT, by omega⟩
        clear hm60 hm6 hT
        have hTl : T.length < 1000 := by have := HT.out; omega
        have HPa : Hid (Pa TA w p T q bq (wr.alloc (abx a)) ∧ (wr.alloc (abx a)).heap[wr.heap.size]? = some (abx a)) := ⟨HP.out.on I (al _), heap_alloc_new wr _⟩
        simp only [abx] at HPa
        by_cases hw1 : a.what = 1
        · have q1 : (a.what != 1) = false := by simp; omega
          clear hw1
          go_wp2_with fail
          go_roundw
          case rel => exact ⟨m + 1, T, by omega, by have := HT.out; omega, by go_num, by have := HT.out; omega, HPa.out.1⟩
          case measure => simp [intOf]; omega
        · have q1 : (a.what != 1) = true := by simp; omega
          have CLy : Hid (1 = 1 → _) := fun _ => pq_lay I HPa.out.1 (by omega) HAc.out HB.out
          have HLn : Hid ((layA a T).1.length ≤ T.length + 16) := len_lay (Pz.ok I HP.out.pz) (rightB a.sp a.sl && rightB a.mp a.ml && kOk a.prim) a.c a.n a.sp a.sl a.mp a.ml a.prim a.ws
          generalize layA a T = Y at *
          clear hw1
          go_wp2_with fail
          refine (CLy.out (by trivial)).mono ?_
          rintro e w5 ⟨rfl, h5⟩
          have H5 : Hid (Pa TA w p Y.1 q bq w5) := h5
          clear h5 CLy e0 e1 e2 e3 e4 e5 e6 e7 e8 e9 e10 e11
          go_wp2_with fail
          go_roundw
          case rel => exact ⟨m + 1, Y.1, by omega, by have := HT.out; omega, by go_num, by have := HT.out; have := HLn.out; omega, H5.out⟩
          case measure => simp [intOf]; omega
      · have HT : Hid (T.length < 1000) := by show _ < _; omega
        by_cases hlt : m < A.length
        · have hlt' : (m : Int) < A.length := by omega
          have h60 : ((m : Int) == 60) = true := by simp; omega
          obtain ⟨b, off, rfl, e0, e1, e2, e3, e4, e5, e6, e7, e8, e9, e10, e11⟩ := HEl.out wr HP.out.pz.bel m hlt
          generalize A.getD m da = a at *
          have HPa : Hid (Pa TA w p T q bq (wr.alloc (abx a))) := HP.out.on I (al _)
          simp only [abx] at HPa
          clear hml hm6 hT
          go_wp2_with fail
          go_meet
          exact ⟨T, HT.out, HPa.out⟩
        · have hlt' : ¬ (m : Int) < A.length := by omega
          clear hml hm6 hT
          go_wp2_with fail
          go_meet
          exact ⟨T, HT.out, HP.out⟩
  case rest =>
    obtain ⟨T, hTl, hpa⟩ := hcut
    have HP : Hid (Pa TA w p T q bq wc) := hpa
    clear hpa H2 HEl HOk
    have CB : Hid (1 = 1 → _) := fun _ => fw_begin I HBQ.out HP.out
    have HTk : Hid (TOk T) := Pz.ok I HP.out.pz
    simp only [ibx, zi, show bs [] = ⟨#[]⟩ from rfl] at CB
    go_wp2_with fail
    refine (CB.out (by trivial)).mono ?_
    rintro e w4 ⟨va, vc, rfl, h4⟩
    obtain ⟨bw, hbw⟩ : ∃ bw, wc.heap.size = bw := ⟨_, rfl⟩
    rw [hbw] at h4 ⊢
    have H4 : Hid (Fw TA w p T q bq bw (.slice va T.length vc) ([], zi) w4) := h4
    clear h4 CB HP hbw
    go_wp2_with fail
    go_loopw [9, 10, 50] (fun f l i wr => ∃ m : Nat, m ≤ T.length ∧ i = .int .i64 m ∧ f = .bool (wantN q T m).isSome ∧ l = .string (bs (lastK T m)) ∧ Fw TA w p T q bq bw (.slice va T.length vc) ((wantN q T m).getD ([], zi)) wr) (fun _ _ i _ => T.length - (intOf i).toNat)
    case atStart => exact ⟨0, Nat.zero_le _, rfl, rfl, rfl, H4.out⟩
    case round =>
      obtain ⟨m, hm, rfl, rfl, rfl, hfw⟩ := hrel
      have HF : Hid _ := hfw
      clear hfw H4
      by_cases hml : m < T.length
      · have hml' : (m : Int) < T.length := by omega
        obtain ⟨b, off, rfl, hx⟩ := HF.out.el hml
        have hlt := last_rises HTk.out hml
        have HSt := want_step (q := q) hml
        have HLk : Hid (lastK T (m + 1) = (T.getD m di).1) := by
          show (if m + 1 = 0 then [] else (T.getD (m + 1 - 1) di).1) = _
          rw [if_neg (by omega)]
          rfl
        generalize T.getD m di = x at *
        obtain ⟨a, s⟩ := x
        obtain ⟨e0, e1, e2, e3, e4, e5, e6, e7, e8, e9⟩ := hx
        dsimp only at e0 e1 e2 e3 e4 e5 e6 e7 e8 e9 hlt HLk
        have q1 := bl a (lastK T m)
        rw [ltK_asymm hlt] at q1
        have q2 := bs_beq a (lastK T m)
        rw [show (a == lastK T m) = false from by simpa using (ltK_ne hlt).symm] at q2
        have HN : Hid (Fw TA w p T q bq bw (.slice (some ⟨b, off, none⟩) T.length vc) ((wantN q T m).getD ([], zi)) (wr.alloc (ibx (a, s))) ∧ (wr.alloc (ibx (a, s))).heap[wr.heap.size]? = some (ibx (a, s))) := ⟨HF.out.on I (al _), heap_alloc_new wr _⟩
        obtain ⟨st0, hst0⟩ : ∃ st0, (inR q.lo q.hi a && !ltT q.mp q.ml s.mp s.ml) = st0 := ⟨_, rfl⟩
        have HSb : Hid (standsB q.lo q.hi q.mp q.ml q.but (a, s) = (st0 && !q.but.contains (s.c, s.n))) := by
          show (inR q.lo q.hi a && !ltT q.mp q.ml s.mp s.ml && !q.but.contains (s.c, s.n)) = _
          rw [hst0]
        have HSt1 : Hid (wantN q T (m + 1) = if (wantN q T m).isSome then wantN q T m else if standsB q.lo q.hi q.mp q.ml q.but (a, s) then some (a, s) else none) := HSt
        generalize standsB q.lo q.hi q.mp q.ml q.but (a, s) = sb at *
        have HSt0 : Hid ((inR q.lo q.hi a && !ltT q.mp q.ml s.mp s.ml) = st0) := hst0
        simp only [ibx] at HN
        generalize lastK T m = lk at *
        generalize hwm : wantN q T m = wm at *
        clear hst0 HSt hlt HF hwm
        go_upto_region 21 with fail
        obtain ⟨W1, hW1⟩ : ∃ W1, wr.alloc (.cells #[.int .u32 s.c, .int .u32 s.n, .int .u64 s.sp, .int .u32 s.sl, .int .u64 s.mp, .int .u32 s.ml, .string (bs s.prim), .string (bs a), .string (bs s.val), .bool s.dead] 49) = W1 := ⟨_, rfl⟩
        rw [hW1] at HN ⊢
        clear hW1
        obtain ⟨bn, hbn⟩ : ∃ bn, wr.heap.size = bn := ⟨_, rfl⟩
        rw [hbn] at HN ⊢
        clear hbn e0 e1 e2 e3 e4 e5 e6 e7 e8 e9 q1 q2
        go_cut [14] (fun s14 wc => s14 = .bool st0 ∧ wc = W1)
        case first =>
          obtain ⟨x0, x1, x2, x3, x4, x5, x6, x7, x8, x9, x10, x11⟩ := ac_box HN.out.1.b0
          obtain ⟨y0, y1, y2, y3, y4, y5, y6, y7, y8, y9⟩ := in_box (x := (a, s)) HN.out.2
          simp only [Nat.zero_add] at x5 x6 x9 x10 y4 y5 y7
          have q1 := bl a q.lo
          have q3 := bl a q.hi
          have q4 : (bs q.hi).toList.isEmpty = q.hi.isEmpty := by rw [bs_list]
          have HS : Hid (((!ltK a q.lo && (q.hi.isEmpty || ltK a q.hi)) && !(decide (q.mp < s.mp) || decide (q.mp = s.mp) && decide (q.ml < s.ml))) = st0) := HSt0.out
          generalize ltK a q.lo = z1 at *
          generalize ltK a q.hi = z3 at *
          generalize q.hi.isEmpty = z4 at *
          clear x0 x1 x2 x3 x4 x7 x8 x11 y0 y1 y2 y3 y6 y8 y9
          cases z1
          · by_cases hst : z4 = false ∧ z3 = false
            · obtain ⟨rfl, rfl⟩ := hst
              have hs : st0 = false := by rw [← HS.out]; simp
              subst hs
              go_wp2_with fail
              go_meet
              exact ⟨rfl, rfl⟩
            · have harms : z4 = true ∨ z4 = false ∧ z3 = true := by cases z4 <;> cases z3 <;> simp at hst ⊢
              have HS2 : Hid (st0 = !(decide (q.mp < s.mp) || decide (q.mp = s.mp) && decide (q.ml < s.ml))) := by
                show _ = _
                rw [← HS.out]
                rcases harms with rfl | ⟨rfl, rfl⟩ <;> simp
              clear hst
              by_cases h1 : s.mp < q.mp
              · have hs : st0 = true := by rw [HS2.out]; simp; omega
                subst hs
                rcases harms with rfl | ⟨rfl, rfl⟩
                all_goals
                  go_wp2_with fail
                  go_meet
                  exact ⟨rfl, rfl⟩
              · by_cases h2 : s.mp = q.mp
                · have h2b : (s.mp == q.mp) = true := by simpa using h2
                  by_cases h3 : s.ml ≤ q.ml
                  · have hs : st0 = true := by rw [HS2.out]; simp; omega
                    subst hs
                    clear h2
                    rcases harms with rfl | ⟨rfl, rfl⟩
                    all_goals
                      go_wp2_with fail
                      go_meet
                      exact ⟨rfl, rfl⟩
                  · have hs : st0 = false := by rw [HS2.out]; simp; omega
                    subst hs
                    clear h2
                    rcases harms with rfl | ⟨rfl, rfl⟩
                    all_goals
                      go_wp2_with fail
                      go_meet
                      exact ⟨rfl, rfl⟩
                · have h2b : (s.mp == q.mp) = false := by simpa using h2
                  have hs : st0 = false := by rw [HS2.out]; simp; omega
                  subst hs
                  clear h2
                  rcases harms with rfl | ⟨rfl, rfl⟩
                  all_goals
                    go_wp2_with fail
                    go_meet
                    exact ⟨rfl, rfl⟩
          · have hs : st0 = false := by rw [← HS.out]; simp
            subst hs
            go_wp2_with fail
            go_meet
            exact ⟨rfl, rfl⟩
        case rest =>
          obtain ⟨rfl, rfl⟩ := hcut
          clear HSt0
          obtain ⟨-, -, -, -, -, -, -, -, -, -, -, x11⟩ := ac_box HN.out.1.b0
          simp only [Nat.zero_add] at x11
          go_wp2_with fail
          go_loopw [14, 106] (fun s14 i wq => ∃ j : Nat, j ≤ q.but.length ∧ i = .int .i64 j ∧ s14 = .bool (st0 && !(q.but.take j).contains (s.c, s.n)) ∧ Fw TA w p T q bq bw (.slice (some ⟨b, off, none⟩) T.length vc) (wm.getD ([], zi)) wq ∧ wq.heap[bn]? = some (ibx (a, s))) (fun _ i _ => q.but.length - (intOf i).toNat)
          case atStart => exact ⟨0, Nat.zero_le _, rfl, by simp, HN.out.1, HN.out.2⟩
          case round =>
            obtain ⟨j, hj, rfl, rfl, hfw, hbn⟩ := hrel
            have HF : Hid (Fw TA w p T q bq bw (.slice (some ⟨b, off, none⟩) T.length vc) (wm.getD ([], zi)) wr ∧ wr.heap[bn]? = some (ibx (a, s))) := ⟨hfw, hbn⟩
            clear hfw hbn HN x11
            by_cases hjl : j < q.but.length
            · have hjl' : (j : Int) < q.but.length := by omega
              obtain ⟨bb, ob, hba, t0, t1⟩ := TsAt.el (HQ.out wr HF.out.1.pz.bel) hjl
              have HHt := has_take (c := s.c) (n := s.n) hjl
              generalize q.but.getD j dtx = y at *
              obtain ⟨yc, yn⟩ := y
              dsimp only at t0 t1 HHt
              have hq := run_neq32 yc yn s.c s.n
              obtain ⟨zc, hzc⟩ : ∃ zc, (yc == s.c && yn == s.n) = zc := ⟨_, rfl⟩
              rw [hzc] at hq HHt
              obtain ⟨stj, hstj⟩ : ∃ stj, (st0 && !(q.but.take j).contains (s.c, s.n)) = stj := ⟨_, rfl⟩
              have HN2 : Hid ((st0 && !(q.but.take (j + 1)).contains (s.c, s.n)) = (stj && !zc)) := by
                show _ = _
                rw [HHt, ← hstj]
                cases st0 <;> cases (q.but.take j).contains (s.c, s.n) <;> simp
              rw [hstj]
              have HF2 : Hid (Fw TA w p T q bq bw (.slice (some ⟨b, off, none⟩) T.length vc) (wm.getD ([], zi)) (wr.alloc (.cells #[.int .u32 yc, .int .u32 yn] 32)) ∧ (wr.alloc (.cells #[.int .u32 yc, .int .u32 yn] 32)).heap[bn]? = some (ibx (a, s))) := ⟨HF.out.1.on I (al _), by rw [(al (W := wr) _).block bn (Array.getElem?_eq_some_iff.1 HF.out.2).1]; exact HF.out.2⟩
              obtain ⟨y0, y1, -, -, -, -, -, -, -, -⟩ := in_box HF2.out.2
              simp only [Nat.zero_add] at y0 y1
              clear hstj hzc HHt HF
              cases stj
              · go_wp2_with fail
                go_roundw
                case rel => exact ⟨j + 1, by omega, by go_num, by rw [HN2.out]; rfl, HF2.out.1, HF2.out.2⟩
                case measure => simp [intOf]; omega
              · go_wp2_with fail
                go_roundw
                case rel => exact ⟨j + 1, by omega, by go_num, by rw [HN2.out]; simp, HF2.out.1, HF2.out.2⟩
                case measure => simp [intOf]; omega
            · have hjl' : ¬ (j : Int) < q.but.length := by omega
              have hta : q.but.take j = q.but := List.take_of_length_le (by omega)
              rw [hta, ← HSb.out]
              clear hta
              have HRel : Hid (∀ W, (Fw TA w p T q bq bw (.slice (some ⟨b, off, none⟩) T.length vc) ((wantN q T (m + 1)).getD ([], zi)) W) → ∃ k : Nat, k ≤ T.length ∧ (Value.int .i64 ((m + 1 : Nat) : Int)) = .int .i64 k ∧ (Value.bool (wantN q T (m + 1)).isSome) = .bool (wantN q T k).isSome ∧ (Value.string (bs a)) = .string (bs (lastK T k)) ∧ Fw TA w p T q bq bw (.slice (some ⟨b, off, none⟩) T.length vc) ((wantN q T k).getD ([], zi)) W) := fun W hW => ⟨m + 1, by omega, rfl, rfl, by rw [HLk.out], hW⟩
              generalize wantN q T (m + 1) = w1' at *
              cases wm with
              | some o =>
                have hw1 : w1' = some o := by rw [HSt1.out]; simp
                subst hw1
                cases sb
                all_goals
                  go_wp2_with fail
                  go_roundw
                  case rel => exact HRel.out _ HF.out.1
                  case measure => simp [intOf]; omega
              | none =>
                cases sb
                · have hw1 : w1' = none := by rw [HSt1.out]; simp
                  subst hw1
                  go_wp2_with fail
                  go_roundw
                  case rel => exact HRel.out _ HF.out.1
                  case measure => simp [intOf]; omega
                · have hw1 : w1' = some (a, s) := by rw [HSt1.out]; simp
                  subst hw1
                  obtain ⟨y0, y1, y2, y3, y4, y5, y6, y7, y8, y9⟩ := in_box HF.out.2
                  simp only [Nat.zero_add] at y0 y1 y2 y3 y4 y5 y6 y7 y8 y9
                  obtain ⟨z0, z1, z2, z3, z4, z5, z6, z7, z8, z9, zf⟩ := zero_cells HF.out.1.b1
                  have f0 := zf 0
                  have f1 := zf 1
                  have f2 := zf 2
                  have f3 := zf 3
                  have f4 := zf 4
                  have f5 := zf 5
                  have f6 := zf 6
                  have f7 := zf 7
                  have f8 := zf 8
                  have f9 := zf 9
                  have HFp : Hid _ := HF.out.1.put I (a, s)
                  clear zf
                  go_wp2_with fail
                  go_roundw
                  case rel => exact HRel.out _ HFp.out
                  case measure => simp [intOf]; omega
      · have hml' : ¬ (m : Int) < T.length := by omega
        have HE : Hid (wantN q T m = firstF q.lo q.hi q.mp q.ml q.but T) := firstN_end (by omega)
        have CF : Hid (1 = 1 → Calls Try.prog 17 #[.pointer (some ⟨p, 0, none⟩), .string (bs q.lo), .string (bs q.hi), .agg #[.int .u64 q.mp, .int .u32 q.ml], .slice q.ba q.but.length q.bc] wr fun e w' => e = .returned (.tuple #[inV ((wantN q T m).getD ([], zi)), .bool (wantN q T m).isSome]) ∧ Fw TA w p T q bq bw (.slice va T.length vc) ((wantN q T m).getD ([], zi)) w') := fun _ => by
          have h9 := pz_first I q.lo q.hi q.mp q.ml q.but (.slice q.ba q.but.length q.bc) HF.out.pz (HQ.out wr HF.out.pz.bel)
          rw [← HE.out, fsV_eq] at h9
          refine h9.mono ?_
          rintro e w' ⟨rfl, _, hb⟩
          exact ⟨rfl, HF.out.on I hb⟩
        obtain ⟨-, -, -, -, -, x5, x6, -, -, x9, x10, x11⟩ := ac_box HF.out.b0
        simp only [Nat.zero_add] at x5 x6 x9 x10 x11
        generalize (wantN q T m).getD ([], zi) = y at *
        generalize (wantN q T m).isSome = fo at *
        simp only [inV] at CF
        go_wp2_with fail
        refine (CF.out (by trivial)).mono ?_
        rintro e w6 ⟨rfl, h6⟩
        have H6 : Hid (Fw TA w p T q bq bw (.slice va T.length vc) y (w6.alloc (ibx y))) := h6.on I (al _)
        clear h6 CF x5 x6 x9 x10 x11
        obtain ⟨y0, y1, y2, y3, y4, y5, y6, y7, y8, y9⟩ := in_box H6.out.b1
        simp only [Nat.zero_add, ibx] at y0 y1 y2 y3 y4 y5 y6 y7 y8 y9
        have hq := fun w => run_eql49 y y w rfl
        simp only [ibx] at H6
        go_wp2_with fail
        go_ret
        exact ⟨by first | rfl | simp, H6.out.pz.bel⟩
end Go.Proofs.Ytknfkpnicjellaa
