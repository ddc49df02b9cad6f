/-
  PostRuns, walked.
-/
import Derived.Test.YtfpckkkicjndlaaRu
import Derived.Test.YtfpckkkicjndlaaFi
namespace Go.Proofs.Ytfpckkkicjndlaa
open Go.RowKit Go.Sort

theorem neq_bool (b : Bool) (w : World) : (binOp .neq 4 (.bool b) (.bool b)).run Try.prog w = .ok (.bool false) w := by
  cases b <;> simp [go_sem]
/-- And the document's list. -/
structure Pd (w : World) (p rb xb : Nat) (A : Ac) (K : Kq) (ra : Option Addr) (rc : Nat) (W : World) : Prop where
  px : Px w p rb xb A K K W
  ls : W.cell? ⟨rb, 0, none⟩ = some (.slice ra K.length rc)
  ks : KsAt W.heap.size (.slice ra K.length rc) K W
theorem Pd.on {w W W' : World} {p rb xb : Nat} {A : Ac} {K : Kq} {ra : Option Addr} {rc : Nat} (h : Pd w p rb xb A K ra rc W) (hb : Below W.heap.size W W') : Pd w p rb xb A K ra rc W' :=
  ⟨h.px.on hb, by rw [hb.cell (p := ⟨rb, 0, none⟩) (World.block_lt_of_cell? _ _ h.ls)]; exact h.ls, h.ks.up hb⟩
theorem Pd.dr {w W : World} {p rb xb : Nat} {A : Ac} {K : Kq} {ra : Option Addr} {rc : Nat} (h : Pd w p rb xb A K ra rc W) : Pd w p rb xb A K ra rc W.drew := h.on (Below.refl _ _).drew
set_option maxHeartbeats 8000000 in
set_option maxRecDepth 100000 in
theorem runs3 (A : List Ac) (v : Value) (w : World) (hv : AcsAt w.heap.size v A w) : Calls Try.prog 3 #[v] w fun e w' => e = .returned (.bool true) ∧ Below w.heap.size w w' := by
  have H : Hid (∀ W, Below w.heap.size w W → AcsAt w.heap.size v A W) := fun W h => RwAt.on hv h
  obtain ⟨ao, cap, rfl, hlc, hcm⟩ := hv.shape
  have h63 : A.length ≤ 9223372036854775807 := by omega
  clear hlc hcm hv
  have CA : Hid (∀ W : World, 1 = 1 → Calls Try.prog 6 #[] W fun e w' => e = .returned (.bool true) ∧ Below W.heap.size W w') := fun W _ => awake6 postIfo W
  have CN : Hid (∀ W : World, 1 = 1 → Calls Try.prog 7 #[] W fun e w' => ∃ p M, e = .returned (.pointer (some ⟨p, 0, none⟩)) ∧ PoAt W.heap.size p M [] w' ∧ Below W.heap.size W w') := fun W _ => new7 W
  have CT : Hid (∀ W : World, 1 = 1 → Calls Try.prog 10 #[.pointer none, .int .i64 0] W fun e w' => e = .returned (.tuple #[.string ⟨#[]⟩, .bool false]) ∧ Below W.heap.size W w') := fun W _ => take10n 0 W
  have CU : Hid (∀ W : World, 1 = 1 → Calls Try.prog 8 #[.pointer none, .string ⟨#[120]⟩] W fun e w' => e = .returned (.bool false) ∧ Below W.heap.size W w') := fun W _ => send8n [120] W
  have CV : Hid (∀ W : World, 1 = 1 → Calls Try.prog 12 #[.pointer none, .int .i64 0] W fun e w' => e = .returned (.bool false) ∧ Below W.heap.size W w') := fun W _ => lose12n 0 W
  have CW : Hid (∀ W : World, 1 = 1 → Calls Try.prog 13 #[.pointer none, .int .i64 0] W fun e w' => e = .returned (.bool false) ∧ Below W.heap.size W w') := fun W _ => doub13n 0 W
  have CX : Hid (∀ W : World, 1 = 1 → Calls Try.prog 16 #[.pointer none] W fun e w' => ∃ ao cap, e = .returned (.slice ao 0 cap) ∧ Below W.heap.size W w') := fun W _ => all16n W
  have CSm : Hid (∀ (W : World) va vb K, KsAt W.heap.size va K W → KsAt W.heap.size vb K W → Calls Try.prog 15 #[va, vb] W fun e w' => e = .returned (.bool true) ∧ Below W.heap.size W w') := fun W va vb K h1 h2 => by
    have := same15 _ _ K K va vb W h1 h2
    rw [beq_self_eq_true] at this
    exact this
  go_enter Try.func3, Try.ntmps3
  go_wp2_with fail
  refine (CA.out _ (by trivial)).mono ?_
  rintro e w1 ⟨rfl, hb1⟩
  have H1 : Hid (Below w.heap.size w w1) := hb1
  clear hb1 CA
  go_wp2_with fail
  refine (CN.out _ (by trivial)).mono ?_
  rintro e w2 ⟨p, M, rfl, hp, hb2⟩
  have H2 : Hid (Pr w p w2.heap.size [] [] (fun _ => False) (w2.alloc (.cells #[.slice none 0 0] 29))) := by
    obtain ⟨u, rfl, hu⟩ := hp
    exact pr_start ⟨u, rfl, ⟨hu.b, hu.own, Nat.le_trans H1.out.size hu.lt, hu.len⟩⟩ (H1.out.trans (hb2.mono H1.out.size))
  clear hp hb2 CN H1
  go_wp2_with fail
  generalize w2.alloc (.cells #[.slice none 0 0] 29) = w3 at H2 ⊢
  generalize w2.heap.size = rb at H2 ⊢
  go_loopw [21] (fun i wr => ∃ k : Nat, k ≤ A.length ∧ i = .int .i64 k ∧ k ≤ 600 ∧ ∃ K : Kq, Pr w p rb K K (fun _ => False) wr) (fun i _ => A.length - (intOf i).toNat)
  case atStart => exact ⟨0, Nat.zero_le _, rfl, by omega, [], H2.out⟩
  case round =>
    obtain ⟨k, hk, rfl, hk6, K, hp⟩ := hrel
    have HP : Hid (Pr w p rb K K (fun _ => False) wr) := hp
    clear hp H2
    by_cases hkl : k < A.length
    · obtain ⟨b, off, rfl, e0, e1, e2⟩ := AcsAt.el (H.out wr HP.out.bel) hkl
      generalize A.getD k da = a at *
      have HB : Hid (Px w p rb wr.heap.size a K K (wr.alloc (.cells #[.int .i64 a.k, .int .i64 a.x, .string (bs a.t)] 31))) := px_box HP.out a
      obtain ⟨ak, ax, at'⟩ := a
      dsimp only at e0 e1 e2 HB
      have hkl' : (k : Int) < A.length := by omega
      by_cases h600 : k = 600
      · have HZ : Hid (Below w.heap.size w (wr.alloc (.cells #[.int .i64 ak, .int .i64 ax, .string (bs at')] 31))) := HB.out.pr.bel
        have h6 : ((k : Int) == 600) = true := by subst h600; rfl
        clear HB HP h600
        go_wp2_with fail
        refine (CT.out _ (by trivial)).mono ?_
        rintro e v1 ⟨rfl, hb⟩
        have HT : Hid (Below w.heap.size w v1) := HZ.out.trans (hb.mono HZ.out.size)
        clear hb HZ
        go_wp2_with fail
        refine (CU.out _ (by trivial)).mono ?_
        rintro e v2 ⟨rfl, hb⟩
        have HU : Hid (Below w.heap.size w v2) := HT.out.trans (hb.mono HT.out.size)
        clear hb HT
        go_wp2_with fail
        refine (CV.out _ (by trivial)).mono ?_
        rintro e v3 ⟨rfl, hb⟩
        have HV : Hid (Below w.heap.size w v3) := HU.out.trans (hb.mono HU.out.size)
        clear hb HU
        go_wp2_with fail
        refine (CW.out _ (by trivial)).mono ?_
        rintro e v4 ⟨rfl, hb⟩
        have HW : Hid (Below w.heap.size w v4) := HV.out.trans (hb.mono HV.out.size)
        clear hb HV
        go_wp2_with fail
        refine (CX.out _ (by trivial)).mono ?_
        rintro e v5 ⟨zo, zc, rfl, hb⟩
        have HX : Hid (Below w.heap.size w v5) := HW.out.trans (hb.mono HW.out.size)
        clear hb HW
        go_wp2_with fail
        go_ret
        exact ⟨rfl, HX.out⟩
      · have h6 : ((k : Int) == 600) = false := by rw [beq_eq_false_iff_ne]; omega
        have hk599 : k < 600 := by omega
        clear h600
        go_upto_block 2 with fail
        clear e0 e1 e2
        generalize wr.alloc (.cells #[.int .i64 ak, .int .i64 ax, .string (bs at')] 31) = w4 at HB ⊢
        generalize wr.heap.size = xb at HB ⊢
        go_cut [8, 9, 10, 11] (fun s8 s9 s10 s11 wc => ∃ (s : Tx) (ok : Bool) (K' : Kq), s8 = .string (bs s) ∧ s9 = .string (bs s) ∧ s10 = .bool ok ∧ s11 = .bool ok ∧ Hid (Px w p rb xb ⟨ak, ax, at'⟩ K' K' wc))
        case first =>
          obtain ⟨e0, e1, e2⟩ := HB.out.three
          dsimp only at e0 e1 e2
          by_cases q0 : ak = 0
          · subst q0
            have CS : Hid (∀ W, Px w p rb xb ⟨0, ax, at'⟩ K K W → Calls Try.prog 8 #[.pointer (some ⟨p, 0, none⟩), .string (bs at')] W fun e w' => e = .returned (.bool (sendB K)) ∧ Px w p rb xb ⟨0, ax, at'⟩ (sendF at' K) K w') := fun W h => by
              refine (pr_send at' h.pr).mono ?_
              rintro e w' ⟨rfl, h1, h2⟩
              exact ⟨rfl, h.step h1 h2⟩
            have CD : Hid (∀ W, Px w p rb xb ⟨0, ax, at'⟩ (sendF at' K) K W → Calls Try.prog 9 #[.pointer (some ⟨rb, 0, none⟩), .string (bs at')] W fun e w' => e = .returned (.bool (sendB K)) ∧ Px w p rb xb ⟨0, ax, at'⟩ (sendF at' K) (sendF at' K) w') := fun W h => by
              refine (pr_send2 at' h.pr).mono ?_
              rintro e w' ⟨rfl, h1, h2⟩
              exact ⟨rfl, h.step h1 h2⟩
            generalize sendF at' K = K' at *
            generalize sendB K = ok at *
            go_wp2_with fail
            go_region_held3 (fun w' => w'.cell? ⟨xb, 2, none⟩ = some (.string (bs at')) ∧ Hid (∃ La Lb, Px w p rb xb ⟨0, ax, at'⟩ La Lb w'))
              (first | exact ⟨HB.out.dr.three.2.2, ⟨_, _, HB.out.dr⟩⟩ | exact ⟨H5.out.three.2.2, ⟨_, _, H5.out⟩⟩ | exact ⟨H6.out.three.2.2, ⟨_, _, H6.out⟩⟩)
              (first
              | (go_at_call 8; refine (CS.out _ HB.out.dr).mono ?_; rintro e w5 ⟨rfl, h5⟩; have H5 : Hid _ := h5; clear h5)
              | (go_at_call 9; refine (CD.out _ H5.out).mono ?_; rintro e w6 ⟨rfl, h6⟩; have H6 : Hid _ := h6; clear h6))
            go_wp2_with fail
            go_meet
            exact ⟨[], ok, K', rfl, rfl, rfl, rfl, H6.out⟩
          have q0' : (ak == 0) = false := by rw [beq_eq_false_iff_ne]; exact q0
          clear q0
          by_cases q1 : ak = 1
          · subst q1
            have CS : Hid (∀ W, Px w p rb xb ⟨1, ax, at'⟩ K K W → Calls Try.prog 10 #[.pointer (some ⟨p, 0, none⟩), .int .i64 ax] W fun e w' => e = .returned (.tuple #[.string (bs (atF ax K)), .bool (someB K)]) ∧ Px w p rb xb ⟨1, ax, at'⟩ (takeF ax K) K w') := fun W h => by
              refine (pr_take ax h.pr).mono ?_
              rintro e w' ⟨rfl, h1, h2⟩
              exact ⟨rfl, h.step h1 h2⟩
            have CD : Hid (∀ W, Px w p rb xb ⟨1, ax, at'⟩ (takeF ax K) K W → Calls Try.prog 11 #[.pointer (some ⟨rb, 0, none⟩), .int .i64 ax] W fun e w' => e = .returned (.tuple #[.string (bs (atF ax K)), .bool (someB K)]) ∧ Px w p rb xb ⟨1, ax, at'⟩ (takeF ax K) (takeF ax K) w') := fun W h => by
              refine (pr_take2 ax h.pr).mono ?_
              rintro e w' ⟨rfl, h1, h2⟩
              exact ⟨rfl, h.step h1 h2⟩
            generalize takeF ax K = K' at *
            generalize atF ax K = s at *
            generalize someB K = ok at *
            go_wp2_with fail
            refine (CS.out _ HB.out).mono ?_
            rintro e w5 ⟨rfl, h5⟩
            have H5 : Hid _ := h5
            clear h5 e0 e1 e2
            obtain ⟨e0, e1, e2⟩ := H5.out.three
            dsimp only at e0 e1 e2
            go_wp2_with fail
            refine (CD.out _ H5.out).mono ?_
            rintro e w6 ⟨rfl, h6⟩
            have H6 : Hid _ := h6
            clear h6 e0 e1 e2
            go_wp2_with fail
            go_meet
            exact ⟨s, ok, K', rfl, rfl, rfl, rfl, H6.out⟩
          have q1' : (ak == 1) = false := by rw [beq_eq_false_iff_ne]; exact q1
          clear q1
          by_cases q2 : ak = 2
          · subst q2
            have CS : Hid (∀ W, Px w p rb xb ⟨2, ax, at'⟩ K K W → Calls Try.prog 12 #[.pointer (some ⟨p, 0, none⟩), .int .i64 ax] W fun e w' => e = .returned (.bool (someB K)) ∧ Px w p rb xb ⟨2, ax, at'⟩ (takeF ax K) K w') := fun W h => by
              refine (pr_lose ax h.pr).mono ?_
              rintro e w' ⟨rfl, h1, h2⟩
              exact ⟨rfl, h.step h1 h2⟩
            have CD : Hid (∀ W, Px w p rb xb ⟨2, ax, at'⟩ (takeF ax K) K W → Calls Try.prog 11 #[.pointer (some ⟨rb, 0, none⟩), .int .i64 ax] W fun e w' => e = .returned (.tuple #[.string (bs (atF ax K)), .bool (someB K)]) ∧ Px w p rb xb ⟨2, ax, at'⟩ (takeF ax K) (takeF ax K) w') := fun W h => by
              refine (pr_take2 ax h.pr).mono ?_
              rintro e w' ⟨rfl, h1, h2⟩
              exact ⟨rfl, h.step h1 h2⟩
            generalize takeF ax K = K' at *
            generalize atF ax K = s at *
            generalize someB K = ok at *
            go_wp2_with fail
            refine (CS.out _ HB.out).mono ?_
            rintro e w5 ⟨rfl, h5⟩
            have H5 : Hid _ := h5
            clear h5 e0 e1 e2
            obtain ⟨e0, e1, e2⟩ := H5.out.three
            dsimp only at e0 e1 e2
            go_wp2_with fail
            refine (CD.out _ H5.out).mono ?_
            rintro e w6 ⟨rfl, h6⟩
            have H6 : Hid _ := h6
            clear h6 e0 e1 e2
            go_wp2_with fail
            go_meet
            exact ⟨[], ok, K', rfl, rfl, rfl, rfl, H6.out⟩
          have q2' : (ak == 2) = false := by rw [beq_eq_false_iff_ne]; exact q2
          clear q2
          by_cases q3 : ak = 3
          · subst q3
            have CS : Hid (∀ W, Px w p rb xb ⟨3, ax, at'⟩ K K W → Calls Try.prog 13 #[.pointer (some ⟨p, 0, none⟩), .int .i64 ax] W fun e w' => e = .returned (.bool (doubB K)) ∧ Px w p rb xb ⟨3, ax, at'⟩ (doubF ax K) K w') := fun W h => by
              refine (pr_doub ax h.pr).mono ?_
              rintro e w' ⟨rfl, h1, h2⟩
              exact ⟨rfl, h.step h1 h2⟩
            have CD : Hid (∀ W, Px w p rb xb ⟨3, ax, at'⟩ (doubF ax K) K W → Calls Try.prog 14 #[.pointer (some ⟨rb, 0, none⟩), .int .i64 ax] W fun e w' => e = .returned (.bool (doubB K)) ∧ Px w p rb xb ⟨3, ax, at'⟩ (doubF ax K) (doubF ax K) w') := fun W h => by
              refine (pr_doub2 ax h.pr).mono ?_
              rintro e w' ⟨rfl, h1, h2⟩
              exact ⟨rfl, h.step h1 h2⟩
            generalize doubF ax K = K' at *
            generalize doubB K = ok at *
            go_wp2_with fail
            go_region_held3 (fun w' => w'.cell? ⟨xb, 1, none⟩ = some (.int .i64 ax) ∧ Hid (∃ La Lb, Px w p rb xb ⟨3, ax, at'⟩ La Lb w'))
              (first | exact ⟨HB.out.dr.three.2.1, ⟨_, _, HB.out.dr⟩⟩ | exact ⟨H5.out.three.2.1, ⟨_, _, H5.out⟩⟩ | exact ⟨H6.out.three.2.1, ⟨_, _, H6.out⟩⟩)
              (first
              | (go_at_call 13; refine (CS.out _ HB.out.dr).mono ?_; rintro e w5 ⟨rfl, h5⟩; have H5 : Hid _ := h5; clear h5)
              | (go_at_call 14; refine (CD.out _ H5.out).mono ?_; rintro e w6 ⟨rfl, h6⟩; have H6 : Hid _ := h6; clear h6))
            go_wp2_with fail
            go_meet
            exact ⟨[], ok, K', rfl, rfl, rfl, rfl, H6.out⟩
          have q3' : (ak == 3) = false := by rw [beq_eq_false_iff_ne]; exact q3
          clear q3
          go_wp2_with fail
          go_meet
          exact ⟨[], true, K, rfl, rfl, rfl, rfl, HB.out⟩
        case rest =>
          obtain ⟨s, ok, K', rfl, rfl, rfl, rfl, H4⟩ := hcut
          clear HB HP
          have en := run_neq9 s s
          simp only [beq_self_eq_true, Bool.not_true] at en
          have eb := neq_bool ok
          obtain ⟨ra, rc, hls, hks⟩ := H4.out.pr.list
          have HQ : Hid (Pd w p rb xb ⟨ak, ax, at'⟩ K' ra rc _) := ⟨H4.out, hls, hks⟩
          have CL : Hid (∀ W, Pd w p rb xb ⟨ak, ax, at'⟩ K' ra rc W → Calls Try.prog 16 #[.pointer (some ⟨p, 0, none⟩)] W fun e w' => ∃ v', e = .returned v' ∧ KsAt w'.heap.size v' K' w' ∧ Below W.heap.size W w') := fun W h => pr_all h.px.pr
          clear hls hks H4
          go_wp2_with fail
          go_region_held3 (fun w' => w'.cell? ⟨rb, 0, none⟩ = some (.slice ra K'.length rc) ∧ Hid (Pd w p rb xb ⟨ak, ax, at'⟩ K' ra rc w'))
            (first | exact ⟨HQ.out.dr.ls, HQ.out.dr⟩ | exact ⟨H7.out.1.ls, H7.out.1⟩ | exact ⟨H8.out.ls, H8.out⟩)
            (first
            | (go_at_call 16; refine (CL.out _ HQ.out.dr).mono ?_; rintro e w7 ⟨v7, rfl, hk7, hb7⟩; have H7 : Hid (Pd w p rb xb ⟨ak, ax, at'⟩ K' ra rc w7 ∧ KsAt w7.heap.size v7 K' w7) := ⟨HQ.out.dr.on hb7, hk7⟩; clear hb7 hk7)
            | (go_at_call 15; refine (CSm.out _ _ _ _ H7.out.2 H7.out.1.ks).mono ?_; rintro e w8 ⟨rfl, hb8⟩; have H8 : Hid (Pd w p rb xb ⟨ak, ax, at'⟩ K' ra rc w8) := H7.out.1.on hb8; clear hb8))
          go_wp2_with fail
          go_roundw
          case rel => exact ⟨k + 1, by omega, by go_num, by omega, K', H8.out.px.pr.less (fun _ h => h.elim)⟩
          case measure => simp [intOf]; omega
    · have hkl' : ¬ (k : Int) < A.length := by omega
      have HZ : Hid (Below w.heap.size w wr) := HP.out.bel
      clear HP
      go_wp2_with fail
      refine (CT.out _ (by trivial)).mono ?_
      rintro e v1 ⟨rfl, hb⟩
      have HT : Hid (Below w.heap.size w v1) := HZ.out.trans (hb.mono HZ.out.size)
      clear hb HZ
      go_wp2_with fail
      refine (CU.out _ (by trivial)).mono ?_
      rintro e v2 ⟨rfl, hb⟩
      have HU : Hid (Below w.heap.size w v2) := HT.out.trans (hb.mono HT.out.size)
      clear hb HT
      go_wp2_with fail
      refine (CV.out _ (by trivial)).mono ?_
      rintro e v3 ⟨rfl, hb⟩
      have HV : Hid (Below w.heap.size w v3) := HU.out.trans (hb.mono HU.out.size)
      clear hb HU
      go_wp2_with fail
      refine (CW.out _ (by trivial)).mono ?_
      rintro e v4 ⟨rfl, hb⟩
      have HW : Hid (Below w.heap.size w v4) := HV.out.trans (hb.mono HV.out.size)
      clear hb HV
      go_wp2_with fail
      refine (CX.out _ (by trivial)).mono ?_
      rintro e v5 ⟨zo, zc, rfl, hb⟩
      have HX : Hid (Below w.heap.size w v5) := HW.out.trans (hb.mono HW.out.size)
      clear hb HW
      go_wp2_with fail
      go_ret
      exact ⟨rfl, HX.out⟩
end Go.Proofs.Ytfpckkkicjndlaa
