/-
  PostKeeps, walked.
-/
import Derived.Test.YtfpckkkicjndlaaKb
namespace Go.Proofs.Ytfpckkkicjndlaa
open Go.RowKit Go.Sort

set_option maxHeartbeats 8000000 in
set_option maxRecDepth 100000 in
theorem keeps4 (A : List Ac) (v : Value) (w : World) (hv : AcsAt w.heap.size v A w) : Calls Try.prog 4 #[v] w fun e w' => e = .returned (.bool true) ∧ Below w.heap.size w w' := by
  have H : Hid (∀ W, Below w.heap.size w W → AcsAt w.heap.size v A W) := fun W h => RwAt.on hv h
  obtain ⟨ao, cap, rfl, hlc, hcm⟩ := hv.shape
  have h63 : A.length ≤ 9223372036854775807 := by omega
  clear hlc hcm hv
  have CA : Hid (∀ W : World, 1 = 1 → Calls Try.prog 6 #[] W fun e w' => e = .returned (.bool true) ∧ Below W.heap.size W w') := fun W _ => awake6 postIfo W
  have CN : Hid (∀ W : World, Below w.heap.size w W → Calls Try.prog 7 #[] W fun e w' => ∃ p, e = .returned (.pointer (some ⟨p, 0, none⟩)) ∧ Pz PoAt w p [] nF w' ∧ Below W.heap.size W w') := fun W h => pz_new postIfo h (fun _ h => h.elim)
  have hmm := @run_makeMap Try.prog
  go_enter Try.func4, Try.ntmps4
  go_wp2_with fail
  refine (CA.out _ (by trivial)).mono ?_
  rintro e w1 ⟨rfl, hb1⟩
  have H1 : Hid (Below w.heap.size w w1) := hb1
  clear hb1 CA
  go_wp2_with fail
  refine (CN.out _ H1.out).mono ?_
  rintro e w2 ⟨p, rfl, hp, -⟩
  have H2 : Hid (Ka w p w2.heap.size [] (cnt []) (w2.alloc (.map #[] 0))) := ka_start hp
  clear hp CN H1
  go_wp2_with fail
  generalize w2.alloc (.map #[] 0) = w3 at H2 ⊢
  generalize w2.heap.size = mb at H2 ⊢
  clear hmm
  go_loopw [21] (fun i wr => ∃ k : Nat, k ≤ A.length ∧ i = .int .i64 k ∧ k ≤ 400 ∧ ∃ K : Kq, Ka w p mb K (cnt K) wr) (fun i _ => A.length - (intOf i).toNat)
  case atStart => exact ⟨0, Nat.zero_le _, rfl, by omega, [], H2.out⟩
  case round =>
    obtain ⟨k, hk, rfl, hk4, K, hp⟩ := hrel
    have HP : Hid (Ka w p mb K (cnt K) wr) := hp
    have CF : Hid (∀ W, Ka w p mb K (cnt K) W → Calls Try.prog 16 #[.pointer (some ⟨p, 0, none⟩)] W fun e w' => ∃ v', e = .returned v' ∧ KsAt w'.heap.size v' K w' ∧ (∀ k, v'.ownBlock = some k → k ≠ mb) ∧ Ka w p mb K (cnt K) w') := fun W h => ka_all h
    clear hp H2
    by_cases hkl : k < A.length
    · obtain ⟨b, off, rfl, e0, e1, e2⟩ := AcsAt.el (H.out wr HP.out.pz.bel) hkl
      generalize A.getD k da = a at *
      have HB : Hid (Kb w p mb wr.heap.size a K (cnt K) (wr.alloc (.cells #[.int .i64 a.k, .int .i64 a.x, .string (bs a.t)] 31))) := HP.out.boxed a
      obtain ⟨ak, ax, at'⟩ := a
      dsimp only at e0 e1 e2 HB
      have hkl' : (k : Int) < A.length := by omega
      by_cases h400 : k = 400
      · have HZ : Hid (Ka w p mb K (cnt K) (wr.alloc (.cells #[.int .i64 ak, .int .i64 ax, .string (bs at')] 31))) := HB.out.out
        have h6 : ((k : Int) == 400) = true := by subst h400; rfl
        clear HB HP h400
        go_wp2_with fail
        refine (CF.out _ HZ.out).mono ?_
        rintro e v1 ⟨va, rfl, hk1, hn1, ha1⟩
        obtain ⟨sa, sc, rfl, hsc, hsm⟩ := hk1.shape
        have HZ1 : Hid (Ka w p mb K (less K 0) v1 ∧ KsAt v1.heap.size (.slice sa K.length sc) K v1) := ⟨by rw [less_zero]; exact ha1, hk1⟩
        have HN1 : Hid (∀ k, (Value.slice sa K.length sc).ownBlock = some k → k ≠ mb) := hn1
        have h200 : K.length ≤ 200 := ha1.pz.ok postIfo
        clear hk1 hn1 ha1 HZ CF
        go_wp2_with fail
        go_loopw [107] (fun i wq => ∃ j : Nat, j ≤ K.length ∧ i = .int .i64 j ∧ Ka w p mb K (less K j) wq ∧ KsAt wq.heap.size (.slice sa K.length sc) K wq) (fun i _ => K.length - (intOf i).toNat)
        case atStart => exact ⟨0, Nat.zero_le _, rfl, HZ1.out⟩
        case round =>
          obtain ⟨j, hj, rfl, ha, hks⟩ := hrel
          have HA : Hid (Ka w p mb K (less K j) wr) := ha
          have HKs : Hid (KsAt wr.heap.size (.slice sa K.length sc) K wr) := hks
          clear ha hks HZ1
          by_cases hjl : j < K.length
          · have hjl' : (j : Int) < K.length := by omega
            obtain ⟨b, off, rfl, d0⟩ := HKs.out.el hjl
            have hnx := less_next hjl
            obtain ⟨y1, y2⟩ := less_in K j (K.getD j [])
            have hlk := HA.out.cm.look (K.getD j [])
            obtain ⟨w5, hr5, ha5, hk5⟩ := HA.out.put (K.getD j []) (less K j (K.getD j []) - 1)
            rw [hnx] at ha5
            have H5 : Hid (Ka w p mb K (less K (j + 1)) w5 ∧ KsAt w5.heap.size (.slice (some ⟨b, off, none⟩) K.length sc) K w5) := ⟨ha5, ks_kept HKs.out HN1.out hk5⟩
            clear ha5 hk5 hnx HA HKs
            generalize less K j (K.getD j []) = y at *
            generalize K.getD j [] = s at *
            go_wp2_with fail
            go_roundw
            case rel => exact ⟨j + 1, by omega, by go_num, H5.out⟩
            case measure => simp [intOf]; omega
          · have hjl' : ¬ (j : Int) < K.length := by omega
            have hjk : j = K.length := by omega
            have HA2 : Hid (Ka w p mb K (less K K.length) wr) := by have := HA.out; rw [hjk] at this; exact this
            obtain ⟨m, hm0, w5, hr5, hg5, hb5⟩ := rg_zero HA2.out (less_all K)
            have HM0 : Hid (∀ x ∈ m, (x : Cn).2 = 0) := hm0
            have H5 : Hid (Gs.Rg ky vlc mb wr.heap.size m m w5 ∧ Below w.heap.size w w5 ∧ w.heap.size ≤ wr.heap.size) := ⟨hg5, hb5, HA2.out.pz.bel.size⟩
            clear hg5 hb5 hm0 HA HA2 HKs hjk
            obtain ⟨r, hr⟩ : ∃ r, wr.heap.size = r := ⟨_, rfl⟩
            rw [hr] at H5 hr5
            go_wp2_with fail
            clear hr5 hr
            go_loopw [118] (fun _ wq => ∃ left : List Cn, (∀ x ∈ left, x.2 = 0) ∧ Gs.Rg ky vlc mb r m left wq ∧ Below w.heap.size w wq ∧ w.heap.size ≤ r) (fun _ wq => wq.rangeLeft mb r)
            case atStart => exact ⟨m, HM0.out, H5.out.1, H5.out.2.1, H5.out.2.2⟩
            case round =>
              obtain ⟨left, hl0, hrg, hbw, hlr⟩ := hrel
              have HML : Hid (wr.rangeLeft mb r = left.length) := hrg.left_eq
              have HBw : Hid (Below w.heap.size w wr) := hbw
              rcases hrg.next 0 with ⟨rfl, hn⟩ | ⟨L1, x, L2, w9, rfl, hn, hr9, hg9, hs9, hen⟩
              · have hnx : ∀ ty, (Instr.next (.pointer (some ⟨r, 0, none⟩)) false ty).run Try.prog wr = .ok (.tuple #[.bool false]) wr := fun _ => hn
                clear hrg hbw hn hl0
                go_wp2_with fail
                go_ret
                exact ⟨rfl, HBw.out⟩
              · have hx0 : x.2 = 0 := hl0 x (by simp)
                have hnx : ∀ ty, (Instr.next (.pointer (some ⟨r, 0, none⟩)) false ty).run Try.prog wr = .ok (.tuple #[.bool true, .string (bs x.1), .int .i64 0]) w9 := fun _ => by
                  rw [← hx0]
                  exact hn
                have hent : (Instr.entry (.pointer (some ⟨r, 0, none⟩))).run Try.prog w9 = .ok (.tuple #[.string (bs x.1), .int .i64 0]) w9 := by
                  rw [← hx0]
                  exact hen
                have H9 : Hid ((∀ x ∈ L1 ++ L2, (x : Cn).2 = 0) ∧ Gs.Rg ky vlc mb r m (L1 ++ L2) w9 ∧ Below w.heap.size w w9 ∧ w.heap.size ≤ r) := by
                  refine ⟨fun z hz => hl0 z ?_, hr9, hbw.trans ((grown_kept hg9).below hbw.size (fun k e => by cases e; exact hlr)), hlr⟩
                  rcases List.mem_append.1 hz with hz | hz
                  · simp [hz]
                  · simp [hz]
                have HM9 : Hid (w9.rangeLeft mb r < wr.rangeLeft mb r) := by
                  show _ < _
                  rw [HML.out, hr9.left_eq]
                  simp
                clear hrg hbw hn hen hr9 hg9 hs9 hl0 hx0
                go_wp2_with fail
                go_roundw
                case rel => exact ⟨L1 ++ L2, H9.out⟩
                case measure => exact HM9.out
      · have h6 : ((k : Int) == 400) = false := by rw [beq_eq_false_iff_ne]; omega
        have hk399 : k < 400 := by omega
        have CAl : Hid (∀ xb W, Kb w p mb xb ⟨ak, ax, at'⟩ K (cnt K) W → Calls Try.prog 16 #[.pointer (some ⟨p, 0, none⟩)] W fun e w' => ∃ v', e = .returned v' ∧ KsAt w'.heap.size v' K w' ∧ Kb w p mb xb ⟨ak, ax, at'⟩ K (cnt K) w') := fun xb W h => kb_all h
        clear h400 HP CF
        go_wp2_with fail
        refine (CAl.out _ _ HB.out).mono ?_
        clear e0 e1 e2
        rintro e w5 ⟨va, rfl, hk5, hb5⟩
        obtain ⟨sa, sc, rfl, hsc, hsm⟩ := hk5.shape
        have h200 : K.length ≤ 200 := hb5.pz.ok postIfo
        have H5 : Hid (Kb w p mb wr.heap.size ⟨ak, ax, at'⟩ K (cnt K) w5) := hb5
        have HK5 : Hid (KsAt w5.heap.size (.slice sa K.length sc) K w5) := hk5
        clear hb5 hk5 HB CAl
        generalize wr.heap.size = xb at H5 ⊢
        obtain ⟨e0, e1, e2⟩ := H5.out.three
        dsimp only at e0 e1 e2
        go_upto_if 32 with fail
        go_cut [8] (fun s8 wc => s8 = .string (bs (atF ax K)) ∧ wc = w5)
        case first =>
          by_cases hK0 : K.length = 0
          · have : K = [] := List.eq_nil_of_length_eq_zero hK0
            subst this
            go_wp2_with fail
            go_meet
            exact ⟨rfl, rfl⟩
          · have h1 : 0 < K.length := by omega
            have hpl := pick_lt (raw := ax) h1
            obtain ⟨b1, o1, rfl, d0⟩ := HK5.out.el hpl
            obtain ⟨t1, t2⟩ := tmod_in ax h1
            have hwr := tmod_two (x := ax) h1
            have hn0 : ¬ (K.length : Int) = 0 := by omega
            have hn1 : (0 : Int) < K.length := by omega
            have HE : Hid (K.getD (pickN ax K.length) [] = atF ax K) := rfl
            generalize K.getD (pickN ax K.length) [] = s at *
            generalize pickN ax K.length = i at *
            have hpi : (i : Int) < K.length := by omega
            go_wp2_with fail
            go_meet
            exact ⟨by rw [← HE.out], rfl⟩
        case rest =>
          obtain ⟨rfl, rfl⟩ := hcut
          clear HK5
          generalize hth : atF ax K = th at *
          have HTh : Hid (atF ax K = th) := hth
          clear hth
          by_cases q0 : ak = 0
          · subst q0
            have CS : Hid (1 = 1 → _) := fun _ => kb_send at' H5.out
            by_cases hz : K.length < 200
            · have s1 : sendB K = true := by simp [sendB, hz]
              have s2 : sendF at' K = K ++ [at'] := by unfold sendF; rw [if_pos hz]
              rw [s1, s2] at CS
              clear s1 s2 hz
              go_wp2_with fail
              refine (CS.out (by trivial)).mono ?_
              rintro e w6 ⟨rfl, h6'⟩
              obtain ⟨y, w7, y1, y2, -, g1, g2, g3, h7⟩ := h6'.turn at' 1 (cnt_up K at') h200
              have H7 : Hid (Kb w p mb xb ⟨0, ax, at'⟩ (K ++ [at']) (cnt (K ++ [at'])) w7) := h7
              clear e0 e1 e2
              obtain ⟨e0, e1, e2⟩ := h6'.three
              dsimp only at e0 e1 e2
              clear h6' h7 g3 CS
              go_wp2_with fail
              go_roundw
              case rel => exact ⟨k + 1, by omega, by go_num, by omega, _, H7.out.out⟩
              case measure => simp [intOf]; omega
            · have s1 : sendB K = false := by simp [sendB]; omega
              have s2 : sendF at' K = K := by unfold sendF; rw [if_neg hz]
              rw [s1, s2] at CS
              clear s1 s2 hz
              go_wp2_with fail
              refine (CS.out (by trivial)).mono ?_
              rintro e w6 ⟨rfl, h6'⟩
              have H7 : Hid (Kb w p mb xb ⟨0, ax, at'⟩ K (cnt K) w6) := h6'
              clear h6' CS
              go_wp2_with fail
              go_roundw
              case rel => exact ⟨k + 1, by omega, by go_num, by omega, _, H7.out.out⟩
              case measure => simp [intOf]; omega
          have q0' : (ak == 0) = false := by rw [beq_eq_false_iff_ne]; exact q0
          clear q0
          by_cases q1 : ak = 1
          · subst q1
            have CS : Hid (1 = 1 → _) := fun _ => kb_take ax H5.out
            rw [HTh.out] at CS
            by_cases hz : 0 < K.length
            · have s1 : someB K = true := by simp [someB, hz]
              rw [s1] at CS
              have hup := take_cnt ax hz
              have hps := take_pos ax hz
              rw [HTh.out] at hup hps
              clear s1 hz
              have en := run_neq9 th th
              simp only [beq_self_eq_true, Bool.not_true] at en
              go_wp2_with fail
              refine (CS.out (by trivial)).mono ?_
              rintro e w6 ⟨rfl, h6'⟩
              obtain ⟨y, w7, y1, y2, y3, g1, g2, g3, h7⟩ := h6'.turn th (-1) hup h200
              have H7 : Hid (Kb w p mb xb ⟨1, ax, at'⟩ (takeF ax K) (cnt (takeF ax K)) w7) := h7
              rw [← y3] at hps
              clear e0 e1 e2 h6' h7 CS y3 hup
              have y4 : ¬ y - 1 < 0 := by omega
              rw [← Int.sub_eq_add_neg] at g2 g3
              go_wp2_with fail
              go_roundw
              case rel => exact ⟨k + 1, by omega, by go_num, by omega, _, H7.out.out⟩
              case measure => simp [intOf]; omega
            · have s1 : someB K = false := decide_eq_false hz
              have s2 : takeF ax K = K := by
                have : K = [] := List.eq_nil_of_length_eq_zero (by omega)
                subst this
                rfl
              rw [s1, s2] at CS
              clear s1 s2 hz
              go_wp2_with fail
              refine (CS.out (by trivial)).mono ?_
              rintro e w6 ⟨rfl, h6'⟩
              have H7 : Hid (Kb w p mb xb ⟨1, ax, at'⟩ K (cnt K) w6) := h6'
              clear h6' CS
              go_wp2_with fail
              go_roundw
              case rel => exact ⟨k + 1, by omega, by go_num, by omega, _, H7.out.out⟩
              case measure => simp [intOf]; omega
          have q1' : (ak == 1) = false := by rw [beq_eq_false_iff_ne]; exact q1
          clear q1
          by_cases q2 : ak = 2
          · subst q2
            have CS : Hid (1 = 1 → _) := fun _ => kb_lose ax H5.out
            by_cases hz : 0 < K.length
            · have s1 : someB K = true := by simp [someB, hz]
              rw [s1] at CS
              have hup := take_cnt ax hz
              rw [HTh.out] at hup
              clear s1 hz
              go_wp2_with fail
              refine (CS.out (by trivial)).mono ?_
              rintro e w6 ⟨rfl, h6'⟩
              obtain ⟨y, w7, y1, y2, -, g1, g2, g3, h7⟩ := h6'.turn th (-1) hup h200
              have H7 : Hid (Kb w p mb xb ⟨2, ax, at'⟩ (takeF ax K) (cnt (takeF ax K)) w7) := h7
              clear e0 e1 e2 h6' h7 CS hup g3
              rw [← Int.sub_eq_add_neg] at g2
              go_wp2_with fail
              go_roundw
              case rel => exact ⟨k + 1, by omega, by go_num, by omega, _, H7.out.out⟩
              case measure => simp [intOf]; omega
            · have s1 : someB K = false := decide_eq_false hz
              have s2 : takeF ax K = K := by
                have : K = [] := List.eq_nil_of_length_eq_zero (by omega)
                subst this
                rfl
              rw [s1, s2] at CS
              clear s1 s2 hz
              go_wp2_with fail
              refine (CS.out (by trivial)).mono ?_
              rintro e w6 ⟨rfl, h6'⟩
              have H7 : Hid (Kb w p mb xb ⟨2, ax, at'⟩ K (cnt K) w6) := h6'
              clear h6' CS
              go_wp2_with fail
              go_roundw
              case rel => exact ⟨k + 1, by omega, by go_num, by omega, _, H7.out.out⟩
              case measure => simp [intOf]; omega
          have q2' : (ak == 2) = false := by rw [beq_eq_false_iff_ne]; exact q2
          clear q2
          by_cases q3 : ak = 3
          · subst q3
            have CS : Hid (1 = 1 → _) := fun _ => kb_doub ax H5.out
            by_cases hz : 0 < K.length ∧ K.length < 200
            · have s1 : doubB K = true := by simp [doubB, someB, sendB, hz]
              have s2 : doubF ax K = K ++ [th] := by unfold doubF sendF; rw [if_pos hz.1, if_pos hz.2, HTh.out]
              rw [s1, s2] at CS
              clear s1 s2 hz
              go_wp2_with fail
              refine (CS.out (by trivial)).mono ?_
              rintro e w6 ⟨rfl, h6'⟩
              obtain ⟨y, w7, y1, y2, -, g1, g2, g3, h7⟩ := h6'.turn th 1 (cnt_up K th) h200
              have H7 : Hid (Kb w p mb xb ⟨3, ax, at'⟩ (K ++ [th]) (cnt (K ++ [th])) w7) := h7
              clear e0 e1 e2 h6' h7 CS g3
              go_wp2_with fail
              go_roundw
              case rel => exact ⟨k + 1, by omega, by go_num, by omega, _, H7.out.out⟩
              case measure => simp [intOf]; omega
            · have s1 : doubB K = false := by
                by_cases e9 : 0 < K.length
                · have : ¬ K.length < 200 := fun h => hz ⟨e9, h⟩
                  simp [doubB, sendB, this]
                · simp [doubB, someB, e9]
              have s2 : doubF ax K = K := by
                unfold doubF
                split
                · rename_i e9
                  unfold sendF
                  rw [if_neg (fun h => hz ⟨e9, h⟩)]
                · rfl
              rw [s1, s2] at CS
              clear s1 s2 hz
              go_wp2_with fail
              refine (CS.out (by trivial)).mono ?_
              rintro e w6 ⟨rfl, h6'⟩
              have H7 : Hid (Kb w p mb xb ⟨3, ax, at'⟩ K (cnt K) w6) := h6'
              clear h6' CS
              go_wp2_with fail
              go_roundw
              case rel => exact ⟨k + 1, by omega, by go_num, by omega, _, H7.out.out⟩
              case measure => simp [intOf]; omega
          have q3' : (ak == 3) = false := by rw [beq_eq_false_iff_ne]; exact q3
          clear q3
          go_wp2_with fail
          go_roundw
          case rel => exact ⟨k + 1, by omega, by go_num, by omega, _, H5.out.out⟩
          case measure => simp [intOf]; omega
    · have hkl' : ¬ (k : Int) < A.length := by omega
      have HZ : Hid (Ka w p mb K (cnt K) wr) := HP.out
      clear HP
      go_wp2_with fail
      refine (CF.out _ HZ.out).mono ?_
      rintro e v1 ⟨va, rfl, hk1, hn1, ha1⟩
      obtain ⟨sa, sc, rfl, hsc, hsm⟩ := hk1.shape
      have HZ1 : Hid (Ka w p mb K (less K 0) v1 ∧ KsAt v1.heap.size (.slice sa K.length sc) K v1) := ⟨by rw [less_zero]; exact ha1, hk1⟩
      have HN1 : Hid (∀ k, (Value.slice sa K.length sc).ownBlock = some k → k ≠ mb) := hn1
      have h200 : K.length ≤ 200 := ha1.pz.ok postIfo
      clear hk1 hn1 ha1 HZ CF
      go_wp2_with fail
      go_loopw [107] (fun i wq => ∃ j : Nat, j ≤ K.length ∧ i = .int .i64 j ∧ Ka w p mb K (less K j) wq ∧ KsAt wq.heap.size (.slice sa K.length sc) K wq) (fun i _ => K.length - (intOf i).toNat)
      case atStart => exact ⟨0, Nat.zero_le _, rfl, HZ1.out⟩
      case round =>
        obtain ⟨j, hj, rfl, ha, hks⟩ := hrel
        have HA : Hid (Ka w p mb K (less K j) wr) := ha
        have HKs : Hid (KsAt wr.heap.size (.slice sa K.length sc) K wr) := hks
        clear ha hks HZ1
        by_cases hjl : j < K.length
        · have hjl' : (j : Int) < K.length := by omega
          obtain ⟨b, off, rfl, d0⟩ := HKs.out.el hjl
          have hnx := less_next hjl
          obtain ⟨y1, y2⟩ := less_in K j (K.getD j [])
          have hlk := HA.out.cm.look (K.getD j [])
          obtain ⟨w5, hr5, ha5, hk5⟩ := HA.out.put (K.getD j []) (less K j (K.getD j []) - 1)
          rw [hnx] at ha5
          have H5 : Hid (Ka w p mb K (less K (j + 1)) w5 ∧ KsAt w5.heap.size (.slice (some ⟨b, off, none⟩) K.length sc) K w5) := ⟨ha5, ks_kept HKs.out HN1.out hk5⟩
          clear ha5 hk5 hnx HA HKs
          generalize less K j (K.getD j []) = y at *
          generalize K.getD j [] = s at *
          go_wp2_with fail
          go_roundw
          case rel => exact ⟨j + 1, by omega, by go_num, H5.out⟩
          case measure => simp [intOf]; omega
        · have hjl' : ¬ (j : Int) < K.length := by omega
          have hjk : j = K.length := by omega
          have HA2 : Hid (Ka w p mb K (less K K.length) wr) := by have := HA.out; rw [hjk] at this; exact this
          obtain ⟨m, hm0, w5, hr5, hg5, hb5⟩ := rg_zero HA2.out (less_all K)
          have HM0 : Hid (∀ x ∈ m, (x : Cn).2 = 0) := hm0
          have H5 : Hid (Gs.Rg ky vlc mb wr.heap.size m m w5 ∧ Below w.heap.size w w5 ∧ w.heap.size ≤ wr.heap.size) := ⟨hg5, hb5, HA2.out.pz.bel.size⟩
          clear hg5 hb5 hm0 HA HA2 HKs hjk
          obtain ⟨r, hr⟩ : ∃ r, wr.heap.size = r := ⟨_, rfl⟩
          rw [hr] at H5 hr5
          go_wp2_with fail
          clear hr5 hr
          go_loopw [118] (fun _ wq => ∃ left : List Cn, (∀ x ∈ left, x.2 = 0) ∧ Gs.Rg ky vlc mb r m left wq ∧ Below w.heap.size w wq ∧ w.heap.size ≤ r) (fun _ wq => wq.rangeLeft mb r)
          case atStart => exact ⟨m, HM0.out, H5.out.1, H5.out.2.1, H5.out.2.2⟩
          case round =>
            obtain ⟨left, hl0, hrg, hbw, hlr⟩ := hrel
            have HML : Hid (wr.rangeLeft mb r = left.length) := hrg.left_eq
            have HBw : Hid (Below w.heap.size w wr) := hbw
            rcases hrg.next 0 with ⟨rfl, hn⟩ | ⟨L1, x, L2, w9, rfl, hn, hr9, hg9, hs9, hen⟩
            · have hnx : ∀ ty, (Instr.next (.pointer (some ⟨r, 0, none⟩)) false ty).run Try.prog wr = .ok (.tuple #[.bool false]) wr := fun _ => hn
              clear hrg hbw hn hl0
              go_wp2_with fail
              go_ret
              exact ⟨rfl, HBw.out⟩
            · have hx0 : x.2 = 0 := hl0 x (by simp)
              have hnx : ∀ ty, (Instr.next (.pointer (some ⟨r, 0, none⟩)) false ty).run Try.prog wr = .ok (.tuple #[.bool true, .string (bs x.1), .int .i64 0]) w9 := fun _ => by
                rw [← hx0]
                exact hn
              have hent : (Instr.entry (.pointer (some ⟨r, 0, none⟩))).run Try.prog w9 = .ok (.tuple #[.string (bs x.1), .int .i64 0]) w9 := by
                rw [← hx0]
                exact hen
              have H9 : Hid ((∀ x ∈ L1 ++ L2, (x : Cn).2 = 0) ∧ Gs.Rg ky vlc mb r m (L1 ++ L2) w9 ∧ Below w.heap.size w w9 ∧ w.heap.size ≤ r) := by
                refine ⟨fun z hz => hl0 z ?_, hr9, hbw.trans ((grown_kept hg9).below hbw.size (fun k e => by cases e; exact hlr)), hlr⟩
                rcases List.mem_append.1 hz with hz | hz
                · simp [hz]
                · simp [hz]
              have HM9 : Hid (w9.rangeLeft mb r < wr.rangeLeft mb r) := by
                show _ < _
                rw [HML.out, hr9.left_eq]
                simp
              clear hrg hbw hn hen hr9 hg9 hs9 hl0 hx0
              go_wp2_with fail
              go_roundw
              case rel => exact ⟨L1 ++ L2, H9.out⟩
              case measure => exact HM9.out
end Go.Proofs.Ytfpckkkicjndlaa
