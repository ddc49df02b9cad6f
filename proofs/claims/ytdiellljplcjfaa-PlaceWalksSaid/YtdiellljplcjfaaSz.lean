/-
  The document's Split, walked.
-/
import Derived.Test.YtdiellljplcjfaaSr
namespace Go.Proofs.Ytdiellljplcjfaa
open Go.RowKit Go.Sort

/-- The writes that came in, and what is made of them. -/
structure Sk (w : World) (v : Value) (l : List Wr) (vo : Value) (vs : List Value) (L : List (List Wr)) (vw : Value) (own : List Wr) (W : World) : Prop where
  bel : Below w.heap.size w W
  ws : WsAt w.heap.size v l W
  so : So w.heap.size vo vs L vw own W
theorem Sk.on {w W W' : World} {v vo vw : Value} {l own : List Wr} {vs : List Value} {L : List (List Wr)} (h : Sk w v l vo vs L vw own W) (hb : Below W.heap.size W W') : Sk w v l vo vs L vw own W' :=
  ⟨h.bel.trans (hb.mono h.bel.size), h.ws.on (hb.mono h.bel.size), h.so.on hb⟩
theorem Sk.push {w W W1 W' : World} {v vo vw : Value} {l own : List Wr} {vs : List Value} {L : List (List Wr)} (h : Sk w v l vo vs L vw own W) (x : Wr) (hW : W.alloc (.cells #[.string (bs x.key), .string (bs x.val), .bool x.dead] 40) = W1) {v' : Value} (hown : W'.ownsRow w.heap.size 40 3 v' (own.length + 1) (rowC wrc own ++ rowC wrc [x])) (hg : W1.grownBy W' vw.ownBlock) (hat : v'.ownBlock = vw.ownBlock ∨ v'.ownBlock = some W1.heap.size) : Sk w v l vo vs L v' (own ++ [x]) W' := by
  have h1 : Sk w v l vo vs L vw own W1 := by rw [← hW]; exact h.on (al _)
  have hb : Below w.heap.size W1 W' := (grown_kept hg).below h1.bel.size (fun k hf => (World.ownsRow.lt h1.so.own k hf).1)
  exact ⟨h1.bel.trans hb, h1.ws.on hb, h1.so.push x hown hg hat⟩
theorem Sk.lay {w W W1 W' : World} {v vo vw : Value} {l own : List Wr} {vs : List Value} {L : List (List Wr)} (h : Sk w v l vo vs L vw own W) (hW : W.alloc (.cells #[vw] 36) = W1) {v' : Value} (hown : W'.ownsRow w.heap.size 36 1 v' (L.length + 1) (vs ++ [vw])) (hg : W1.grownBy W' vo.ownBlock) (hat : v'.ownBlock = vo.ownBlock ∨ v'.ownBlock = some W1.heap.size) : Sk w v l v' (vs ++ [vw]) (L ++ [own]) nv [] W' := by
  have h1 : Sk w v l vo vs L vw own W1 := by rw [← hW]; exact h.on (al _)
  have hb : Below w.heap.size W1 W' := (grown_kept hg).below h1.bel.size (fun k hf => (World.ownsRow.lt h1.so.out k hf).1)
  exact ⟨h1.bel.trans hb, h1.ws.on hb, h1.so.lay hown hg hat⟩
theorem range_step (l : List Wr) (n : Int) (k : Nat) : (List.range (k + 1)).map (fun j : Nat => ownF l n (j : Int)) = (List.range k).map (fun j : Nat => ownF l n (j : Int)) ++ [ownF l n (k : Int)] := by
  rw [List.range_succ, List.map_append]
  rfl
set_option maxHeartbeats 3200000 in
set_option maxRecDepth 100000 in
theorem split16 : R16 := by
  intro l ao cp n w hl hws
  obtain ⟨ao', cap, he, hlc, hcm⟩ := hws.shape
  simp only [Value.slice.injEq, true_and] at he
  obtain ⟨rfl, rfl⟩ := he
  by_cases hn : 1 ≤ n ∧ n ≤ 8
  · obtain ⟨N, rfl⟩ : ∃ N : Nat, n = (N : Int) := ⟨n.toNat, by omega⟩
    have i1 : ¬ (N : Int) < 1 := by omega
    have i2 : ¬ (8 : Int) < (N : Int) := by omega
    have HS : Hid (splitF l (N : Int) = (List.range N).map (fun k : Nat => ownF l N (k : Int))) := by
      show _ = _
      unfold splitF
      rw [if_pos hn]
      rfl
    have CT : Hid (∀ (key : List UInt8) (W : World), 1 = 1 → Calls Try.prog 12 #[.string (bs key), .int .i64 (N : Int)] W fun r w' => r = .returned (.tuple #[.int .i64 (shardF key N).1, .int .i64 (shardF key N).2]) ∧ W = w') := fun key W _ => shard12 key N W
    have HW : Hid (Sk w (.slice ao l.length cp) l nv [] [] nv [] w) := ⟨Below.refl _ _, hws, So.new _ _ (Nat.le_refl _)⟩
    have hN : N ≤ 8 := by omega
    obtain ⟨j0, jin, j1, j2, j3⟩ := info_parts info40
    obtain ⟨k0, kin, k1, k2, k3⟩ := info_parts info36
    clear hws hn
    go_enter Try.func16, Try.ntmps16
    go_wp2_with fail
    go_loopw [5, 6] (fun o i wr => ∃ (k : Nat) (vs : List Value), k ≤ N ∧ i = .int .i64 k ∧ Hid (Sk w (.slice ao l.length cp) l o vs ((List.range k).map (fun j : Nat => ownF l N (j : Int))) nv [] wr)) (fun _ i _ => N - (intOf i).toNat)
    case atStart => exact ⟨0, [], Nat.zero_le _, rfl, HW.out⟩
    case round =>
      obtain ⟨k, vs, hk, rfl, HE⟩ := hrel
      clear HW
      obtain ⟨LK, hLK⟩ : ∃ LK, (List.range k).map (fun j : Nat => ownF l N (j : Int)) = LK := ⟨_, rfl⟩
      have hLl : LK.length = k := by rw [← hLK]; simp
      have HST : Hid ((List.range (k + 1)).map (fun j : Nat => ownF l N (j : Int)) = LK ++ [ownF l N (k : Int)]) := by show _ = _; rw [range_step, hLK]
      have HLK : Hid ((List.range k).map (fun j : Nat => ownF l N (j : Int)) = LK) := hLK
      rw [hLK] at HE
      clear hLK
      by_cases hkn : k < N
      · have hkn1 : (k : Int) < N := by omega
        have HKN : Hid (k + 1 ≤ N) := hkn
        go_wp2_with fail
        go_loopw [7, 8] (fun v j wq => ∃ m : Nat, m ≤ l.length ∧ j = .int .i64 m ∧ Hid (Sk w (.slice ao l.length cp) l u5 vs LK v (ownF (l.take m) N k) wq)) (fun _ j _ => l.length - (intOf j).toNat)
        case atStart => exact ⟨0, Nat.zero_le _, rfl, HE.out⟩
        case round =>
          obtain ⟨m, hm, rfl, HF⟩ := hrel
          clear HE
          by_cases hml : m < l.length
          · have hml1 : (m : Int) < l.length := by omega
            have HM : Hid (m + 1 ≤ l.length) := hml
            obtain ⟨b1, o1, rfl, d0, d1, d2⟩ := HF.out.ws.el hml
            have HOS : Hid _ := own_step (n := (N : Int)) (k := (k : Int)) hml
            have hol : (ownF (l.take m) (N : Int) (k : Int)).length < 1000000 := by
              have h1 := own_len (l.take m) (N : Int) (k : Int)
              rw [List.length_take] at h1
              omega
            generalize l.getD m dw = x at *
            generalize ownF (l.take m) (N : Int) (k : Int) = own at *
            have C : Hid _ := CT.out x.key wr
            obtain ⟨u, hu⟩ : ∃ u, shardF x.key (N : Int) = u := ⟨_, rfl⟩
            rw [hu] at C HOS
            clear hu
            obtain ⟨ua, ub⟩ := u
            dsimp only at C
            by_cases hc : ub = 0 ∧ ua = (k : Int)
            · obtain ⟨rfl, rfl⟩ := hc
              rw [if_pos rfl] at HOS
              have HOw : Hid _ := wr_ow x HF.out.so.own HF.out.so.big hol
              go_wp2_with fail
              refine (C.out (by trivial)).mono ?_
              rintro r wx ⟨rfl, rfl⟩
              clear C
              go_wp2_with (at_builtin; refine wpList_append_rw HOw.out Try.underlying36 jin j1 j2 j3 rfl (by decide) (by decide) (.tmp 45) (.tmp 50) rfl rfl rfl rfl ?_)
              intro v' w9 hown hg hat
              have HG : Hid (Sk w (.slice (some ⟨b1, o1, none⟩) l.length cp) l u5 vs LK v' (own ++ [x]) w9) := HF.out.push x rfl hown hg (by rw [size_al]; exact hat)
              rw [← HOS.out] at HG
              clear hown hg hat HOw HF d0 d1 d2
              go_wp2_with fail
              go_roundw
              case rel => exact ⟨m + 1, HM.out, by go_num, HG.out⟩
              case measure => simp [intOf]; omega
            · rw [if_neg (fun h => hc (by injection h with h1 h2; exact ⟨h2, h1⟩)), List.append_nil] at HOS
              rw [← HOS.out] at HF
              by_cases hb0 : ub = 0
              · subst hb0
                have ha : ¬ ua = (k : Int) := fun h => hc ⟨rfl, h⟩
                clear hc
                go_wp2_with fail
                refine (C.out (by trivial)).mono ?_
                rintro r wx ⟨rfl, rfl⟩
                clear C
                go_wp2_with fail
                go_roundw
                case rel => exact ⟨m + 1, HM.out, by go_num, HF.out⟩
                case measure => simp [intOf]; omega
              · clear hc
                go_wp2_with fail
                refine (C.out (by trivial)).mono ?_
                rintro r wx ⟨rfl, rfl⟩
                clear C
                go_wp2_with fail
                go_roundw
                case rel => exact ⟨m + 1, HM.out, by go_num, HF.out⟩
                case measure => simp [intOf]; omega
          · have hml1 : ¬ (m : Int) < l.length := by omega
            rw [List.take_of_length_le (by omega)] at HF
            obtain ⟨ai, ci, hu7, -⟩ := (show WsAt _ _ (ownF l N k) wr from rw_own HF.out.so.own).shape
            subst hu7
            have HOw : Hid _ := sl_ow ai (ownF l N k).length ci HF.out.so.out HF.out.so.big (by rw [hLl]; omega)
            go_wp2_with (at_builtin; refine wpList_append_rw HOw.out Try.underlying37 kin k1 k2 k3 rfl (by decide) (by decide) (.tmp 52) (.tmp 54) rfl rfl rfl rfl ?_)
            intro v' w9 hown hg hat
            have HG : Hid (Sk w (.slice ao l.length cp) l v' (vs ++ [.slice ai (ownF l N k).length ci]) (LK ++ [ownF l N k]) nv [] w9) := HF.out.lay rfl (by rw [hLl]; exact hown) hg (by rw [size_al]; exact hat)
            rw [← HST.out] at HG
            clear hown hg hat HOw HF
            go_wp2_with fail
            go_roundw
            case rel => exact ⟨k + 1, _, HKN.out, by go_num, HG.out⟩
            case measure => simp [intOf]; omega
      · have hkn1 : ¬ (k : Int) < N := by omega
        have hkN : k = N := by omega
        have HR : Hid (splitF l (N : Int) = LK) := by show _ = _; rw [HS.out, ← HLK.out, hkN]
        go_wp2_with fail
        go_ret
        exact ⟨⟨_, rfl, by rw [HR.out]; exact HE.out.so.done⟩, HE.out.bel⟩
  · have HS : Hid (splitF l n = []) := by
      show _ = _
      unfold splitF
      rw [if_neg hn]
    rw [HS.out]
    have HV : Hid (SsAt (.slice none 0 0) [] w) := ⟨[], rfl, RwAt.nil _ _ _, fun i hi => absurd hi (by simp)⟩
    by_cases h1 : n < 1
    · clear hn
      go_enter Try.func16, Try.ntmps16
      go_wp2_with fail
      go_ret
      exact ⟨⟨_, rfl, HV.out⟩, Below.refl _ _⟩
    · have h2 : 8 < n := by omega
      clear hn
      go_enter Try.func16, Try.ntmps16
      go_wp2_with fail
      go_ret
      exact ⟨⟨_, rfl, HV.out⟩, Below.refl _ _⟩
end Go.Proofs.Ytdiellljplcjfaa
