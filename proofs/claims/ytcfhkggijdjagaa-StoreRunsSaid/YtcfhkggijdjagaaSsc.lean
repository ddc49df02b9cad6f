/-
  The program's store: gather, Scan.
-/
import Derived.Test.YtcfhkggijdjagaaSit
namespace Go.Proofs.Ytcfhkggijdjagaa
open Go.RowKit

theorem so_get {B p q : Nat} {t : Tr} {S : Sk} {w : World} (k : List UInt8) (pp l : Int) (h : So B p q t S w) : Calls Try.prog 15 #[.pointer (some ⟨p, 0, none⟩), .string (bs k), .agg #[.int .u64 pp, .int .u32 l]] w fun e w' => e = .returned (.tuple #[.string (bs (getV (seeF (chainF k S) pp l)).1), .bool (getV (seeF (chainF k S) pp l)).2]) ∧ Below w.heap.size w w' :=
  get15_of _ k pp l w (fun _ hb => so_of k (h.on hb))


/-- The keys of a part of the range. -/
theorem mc_part {B q : Nat} {t : Tr} {S : Sk} {w : World} (lo hi : List UInt8) (h : Mc B q t S w) (ht : totS S < 10000) : Calls Try.prog 44 #[.pointer (some ⟨q, 0, none⟩), .string (bs lo), .string (bs hi), .int .i64 32] w fun e w' => ∃ ka kp, e = .returned (.slice ka ((rngS lo hi S).take 32).length kp) ∧ w'.ownsRow w.heap.size 9 1 (.slice ka ((rngS lo hi S).take 32).length kp) (((rngS lo hi S).take 32).map (·.1)).length (kc (((rngS lo hi S).take 32).map (·.1))) ∧ Below w.heap.size w w' := by
  have := mc_keys lo hi 32 h ht
  rw [keys_part] at this
  refine Calls.mono this ?_
  rintro e w' ⟨v', rfl, ho, hb⟩
  obtain ⟨ao, cap, rfl, _⟩ := rw_own ho
  rw [List.length_map] at ho ⊢
  exact ⟨ao, cap, rfl, ho, hb⟩
theorem gath_full {p l : Int} {A : List (List UInt8 × List UInt8)} {Q : Sk} {m n : Nat} (h : (A ++ scT p l Q m).length = n) : (A ++ scanR p l Q).take n = A ++ scT p l Q m := by
  obtain ⟨R, hR⟩ := scT_pre p l Q m
  rw [hR, ← List.append_assoc, ← h, List.take_left']
  rfl
theorem gath_end {p l : Int} {A : List (List UInt8 × List UInt8)} {Q : Sk} {m n : Nat} (hm : Q.length ≤ m) (h : (A ++ scT p l Q m).length ≤ n) : (A ++ scanR p l Q).take n = A ++ scT p l Q m := by
  have e : scT p l Q m = scanR p l Q := by
    unfold scT
    rw [List.take_of_length_le hm]
  rw [e] at h ⊢
  exact List.take_of_length_le h

/-- Pairs that are gathered: a row of the call's own beside the keys' row and a stamp's box. -/
structure Gl (w : World) (F : Nat → Prop) (W0 : World) (bx : Nat) (tp tl : Int) (kv : Value) (K : List (List UInt8)) (vv : Value) (A : List (List UInt8 × List UInt8)) (W : World) : Prop where
  own : W.ownsRow w.heap.size 59 2 vv A.length (prc A)
  keys : W.ownsRow w.heap.size 9 1 kv K.length (kc K)
  x : W.heap[bx]? = some (.cells #[.int .u64 tp, .int .u32 tl] 33 (0, 0))
  bel : Below w.heap.size w W
  kn : ∀ k, vv.ownBlock = some k → kv.ownBlock ≠ some k
  xn : vv.ownBlock ≠ some bx
  kept : Kept F W0 W
  new : ∀ k, vv.ownBlock = some k → F k ∨ W0.heap.size ≤ k
theorem Gl.on {w W0 W W' : World} {F : Nat → Prop} {bx : Nat} {tp tl : Int} {kv vv : Value} {K : List (List UInt8)} {A : List (List UInt8 × List UInt8)} (h : Gl w F W0 bx tp tl kv K vv A W) (hb : Below W.heap.size W W') : Gl w F W0 bx tp tl kv K vv A W' :=
  ⟨own_on h.own hb, own_on h.keys hb, by rw [hb.block bx (Array.getElem?_eq_some_iff.1 h.x).1]; exact h.x, h.bel.trans (hb.mono h.bel.size), h.kn, h.xn, h.kept.trans (Kept.of_below (F := fun _ => False) hb) (fun _ h => h.elim), h.new⟩
theorem Gl.snoc {w W0 W W' : World} {F : Nat → Prop} {bx : Nat} {tp tl : Int} {kv vv v' : Value} {K : List (List UInt8)} {A A' : List (List UInt8 × List UInt8)} (h : Gl w F W0 bx tp tl kv K vv A W)
    (hown : W'.ownsRow w.heap.size 59 2 v' A'.length (prc A')) (hg : W.grownBy W' vv.ownBlock) (hat : v'.ownBlock = vv.ownBlock ∨ v'.ownBlock = some W.heap.size) : Gl w F W0 bx tp tl kv K v' A' W' := by
  have hk := grown_kept hg
  have hxl := (Array.getElem?_eq_some_iff.1 h.x).1
  refine ⟨hown, own_kept h.keys hk (fun k hk' hv => h.kn k hv hk'), by rw [hk.block bx hxl h.xn]; exact h.x, below_own h.bel h.bel.size h.own hg, fun k hk' hkv => ?_, fun hx => ?_, h.kept.trans hk h.new, fun k hk' => ?_⟩
  · rcases hat with e | e
    · exact h.kn k (e ▸ hk') hkv
    · rw [e] at hk'
      injection hk' with hk'
      subst hk'
      have := own_blk h.keys hkv
      omega
  · rcases hat with e | e
    · exact h.xn (e ▸ hx)
    · rw [e] at hx
      injection hx with hx
      omega
  · rcases hat with e | e
    · exact h.new k (e ▸ hk')
    · rw [e] at hk'
      injection hk' with hk'
      subst hk'
      exact .inr h.kept.size
theorem Gl.stamp {w W0 W : World} {F : Nat → Prop} {bx : Nat} {tp tl : Int} {kv vv : Value} {K : List (List UInt8)} {A : List (List UInt8 × List UInt8)} (h : Gl w F W0 bx tp tl kv K vv A W) : W.cell? ⟨bx, 0, none⟩ = some (.int .u64 tp) ∧ W.cell? ⟨bx, 1, none⟩ = some (.int .u32 tl) := ⟨block_cell h.x rfl, block_cell h.x rfl⟩
theorem Gl.key {w W0 W : World} {F : Nat → Prop} {bx : Nat} {tp tl : Int} {ka : Option Addr} {n kp : Nat} {vv : Value} {K : List (List UInt8)} {A : List (List UInt8 × List UInt8)} (hn : n = K.length) (h : Gl w F W0 bx tp tl (.slice ka n kp) K vv A W) {m : Nat} (hm : m < n) : ∃ b off, ka = some ⟨b, off, none⟩ ∧ W.cell? ⟨b, off + m, none⟩ = some (.string (bs (K.getD m []))) := keys_at hn h.keys (Below.refl _ _) hm
/-- What the caller of gather has of it. -/
def GPost (w : World) (F : Nat → Prop) (W : World) (kv : Value) (K : List (List UInt8)) (A : List (List UInt8 × List UInt8)) (sa : Option Addr) (sc : Nat) (w' : World) : Prop :=
  w'.ownsRow w.heap.size 59 2 (.slice sa A.length sc) A.length (prc A) ∧ w'.ownsRow w.heap.size 9 1 kv K.length (kc K) ∧ Below w.heap.size w w' ∧ Kept F W w' ∧ ∀ k, (Value.slice sa A.length sc).ownBlock = some k → F k ∨ W.heap.size ≤ k
theorem Gl.post {w W0 W W1 : World} {F : Nat → Prop} {bx : Nat} {tp tl : Int} {kv : Value} {sa : Option Addr} {sc : Nat} {K : List (List UInt8)} {A : List (List UInt8 × List UInt8)} (h : Gl w F W0 bx tp tl kv K (.slice sa A.length sc) A W) (hb : Below W1.heap.size W1 W0) : GPost w F W1 kv K A sa sc W :=
  ⟨h.own, h.keys, h.bel, (Kept.of_below (F := F) hb).trans h.kept (fun _ h => .inl h), fun k hk => by rcases h.new k hk with e | e; exact .inl e; exact .inr (Nat.le_trans hb.size e)⟩

set_option maxHeartbeats 1600000 in
theorem gather45 {B p q : Nat} {t : Tr} {S : Sk} {w : World} (tp tl mx : Int) (h : So B p q t S w) (Q : Sk) (hQ : ∀ m, m < Q.length → chainF (Q.getD m ds).1 S = (Q.getD m ds).2) (hQl : Q.length ≤ 32) (A : List (List UInt8 × List UInt8)) (hA : A.length ≤ mx.toNat) (hmx : mx ≤ 32) (sa : Option Addr) (sc : Nat) (ka : Option Addr) (kp : Nat) (W : World)
    (hb : Below w.heap.size w W) (ho : W.ownsRow w.heap.size 59 2 (.slice sa A.length sc) A.length (prc A)) (hk : W.ownsRow w.heap.size 9 1 (.slice ka Q.length kp) (Q.map (·.1)).length (kc (Q.map (·.1)))) (hap : ∀ k, (Value.slice sa A.length sc).ownBlock = some k → (Value.slice ka Q.length kp).ownBlock ≠ some k) :
    Calls Try.prog 45 #[.pointer (some ⟨p, 0, none⟩), .slice sa A.length sc, .slice ka Q.length kp, .agg #[.int .u64 tp, .int .u32 tl], .int .i64 mx] W fun e w' => ∃ sa' sc', e = .returned (.slice sa' ((A ++ scanR tp tl Q).take mx.toNat).length sc') ∧ GPost w (fun k => (Value.slice sa A.length sc).ownBlock = some k) W (.slice ka Q.length kp) (Q.map (·.1)) ((A ++ scanR tp tl Q).take mx.toNat) sa' sc' w' := by
  obtain ⟨i0, hin, hi0, hi1, hi2⟩ := info_parts info59
  have HS : Hid (So B p q t S w) := h
  obtain ⟨F, hF⟩ : ∃ F, (fun k => (Value.slice sa A.length sc).ownBlock = some k) = F := ⟨_, rfl⟩
  have HG : Hid (Gl w F (W.alloc (.cells #[.int .u64 tp, .int .u32 tl] 33)) W.heap.size tp tl (.slice ka Q.length kp) (Q.map (·.1)) (.slice sa A.length sc) A (W.alloc (.cells #[.int .u64 tp, .int .u32 tl] 33))) := by
    have ha : Below W.heap.size W (W.alloc (.cells #[.int .u64 tp, .int .u32 tl] 33)) := al _
    refine ⟨own_on ho ha, own_on hk ha, heap_alloc_new W _, hb.trans (ha.mono hb.size), hap, fun hx => ?_, Kept.refl _ _, fun k hk => .inl ?_⟩
    · have := own_blk ho hx
      omega
    · rw [← hF]; exact hk
  have HW : Hid (Below W.heap.size W (W.alloc (.cells #[.int .u64 tp, .int .u32 tl] 33))) := al _
  have HStep : Hid (∀ m, m < Q.length → scT tp tl Q (m + 1) = scT tp tl Q m ++ (match seeF (Q.getD m ds).2 tp tl with
    | some s => [((Q.getD m ds).1, s)]
    | none => [])) := fun m hm => scT_step hm
  have HFull : Hid (∀ m, (A ++ scT tp tl Q m).length = mx.toNat → (A ++ scanR tp tl Q).take mx.toNat = A ++ scT tp tl Q m) := fun m e => gath_full e
  have HEnd : Hid (∀ m, Q.length ≤ m → (A ++ scT tp tl Q m).length ≤ mx.toNat → (A ++ scanR tp tl Q).take mx.toNat = A ++ scT tp tl Q m) := fun m hm e => gath_end hm e
  have H0 : Hid (A ++ scT tp tl Q 0 = A) := by show A ++ [] = A; simp
  have HA : Hid (A.length ≤ mx.toNat) := hA
  have HC : Hid (∀ m, m < Q.length → chainF (Q.getD m ds).1 S = (Q.getD m ds).2) := hQ
  rw [hF]
  generalize (A ++ scanR tp tl Q).take mx.toNat = Y at *
  clear h hb ho hk hap hF hQ hA
  go_enter Try.func45, Try.ntmps45
  go_wp2_with fail
  obtain ⟨W0, hW0⟩ : ∃ W0, W.alloc (.cells #[.int .u64 tp, .int .u32 tl] 33) = W0 := ⟨_, rfl⟩
  rw [hW0] at HG HW ⊢
  clear hW0
  obtain ⟨bx, hbx⟩ : ∃ bx, W.heap.size = bx := ⟨_, rfl⟩
  rw [hbx] at HG ⊢
  have HBX : Hid (W.heap.size = bx) := hbx
  clear hbx
  go_loopw [1, 17] (fun vv i wr => ∃ m : Nat, m ≤ Q.length ∧ i = .int .i64 m ∧ (A ++ scT tp tl Q m).length ≤ mx.toNat ∧ Gl w F W0 bx tp tl (.slice ka Q.length kp) (Q.map (·.1)) vv (A ++ scT tp tl Q m) wr) (fun _ i _ => Q.length - (intOf i).toNat)
  case atStart => exact ⟨0, Nat.zero_le _, rfl, by rw [H0.out]; exact HA.out, by rw [H0.out]; exact HG.out⟩
  case round =>
    obtain ⟨m, hm, rfl, hle, hgl⟩ := hrel
    obtain ⟨va, vc, rfl, -, -, -, -⟩ := rw_own hgl.own
    have HL : Hid (Gl w F W0 bx tp tl (.slice ka Q.length kp) (Q.map (·.1)) (.slice va (A ++ scT tp tl Q m).length vc) (A ++ scT tp tl Q m) wr) := hgl
    have HLe : Hid ((A ++ scT tp tl Q m).length ≤ mx.toNat) := hle
    clear hgl hle HG HA
    obtain ⟨x0, x1⟩ := HL.out.stamp
    by_cases hml : m < Q.length
    · have hml' : (m : Int) < Q.length := by omega
      obtain ⟨b, off, rfl, e0⟩ := HL.out.key (by simp) hml
      rw [map_at Q hml] at e0
      have hst : A ++ scT tp tl Q (m + 1) = (A ++ scT tp tl Q m) ++ (match seeF (Q.getD m ds).2 tp tl with
        | some s => [((Q.getD m ds).1, s)]
        | none => []) := by rw [HStep.out m hml, List.append_assoc]
      have HFm : Hid _ := HFull.out m
      have CG : Hid (1 = 1 → Calls Try.prog 15 #[.pointer (some ⟨p, 0, none⟩), .string (bs (Q.getD m ds).1), .agg #[.int .u64 tp, .int .u32 tl]] wr fun e w' => e = .returned (.tuple #[.string (bs (getV (seeF (Q.getD m ds).2 tp tl)).1), .bool (getV (seeF (Q.getD m ds).2 tp tl)).2]) ∧ Below wr.heap.size wr w') := fun _ => by
        have := so_get (Q.getD m ds).1 tp tl (HS.out.on HL.out.bel)
        rw [HC.out m hml] at this
        exact this
      obtain ⟨A0, hA0⟩ : ∃ A0, A ++ scT tp tl Q m = A0 := ⟨_, rfl⟩
      obtain ⟨A1, hA1⟩ : ∃ A1, A ++ scT tp tl Q (m + 1) = A1 := ⟨_, rfl⟩
      rw [hA0] at HL HLe hst HFm
      rw [hA1] at hst
      have HA1 : Hid (A ++ scT tp tl Q (m + 1) = A1) := hA1
      rw [hA0]
      clear hA0 hA1
      generalize Q.getD m ds = x at *
      obtain ⟨a, c⟩ := x
      dsimp only at e0 hst CG
      have hll : A0.length < 100000 := by have := HLe.out; omega
      by_cases hroom : (A0.length : Int) < mx
      · have hr1' : ¬ mx ≤ (A0.length : Int) := by omega
        have HL1 : Hid (A0.length + 1 ≤ mx.toNat) := by show _ ≤ _; omega
        generalize seeF c tp tl = y at *
        cases y with
        | none =>
          have HS3 : Hid (A1 = A0) := by show _ = _; rw [hst]; simp
          clear hst
          dsimp only [getV] at CG
          go_wp2_with fail
          refine (CG.out (by trivial)).mono ?_
          rintro e w3 ⟨rfl, hb3⟩
          have HL3 : Hid (Gl w F W0 bx tp tl (.slice (some ⟨b, off, none⟩) Q.length kp) (Q.map (·.1)) (.slice va A0.length vc) A0 w3) := HL.out.on hb3
          clear hb3 CG x0 x1 e0 HL
          go_wp2_with fail
          go_roundw
          case rel => exact ⟨m + 1, by omega, by go_num, by rw [HA1.out, HS3.out]; exact HLe.out, by rw [HA1.out, HS3.out]; exact HL3.out⟩
          case measure => simp [intOf]; omega
        | some s =>
          have HS3 : Hid (A1 = A0 ++ [(a, s)]) := hst
          clear hst
          dsimp only [getV] at CG
          go_wp2_with fail
          refine (CG.out (by trivial)).mono ?_
          rintro e w3 ⟨rfl, hb3⟩
          have HL3 : Hid (Gl w F W0 bx tp tl (.slice (some ⟨b, off, none⟩) Q.length kp) (Q.map (·.1)) (.slice va A0.length vc) A0 w3) := HL.out.on hb3
          have HOw : Hid (Ow w.heap.size 59 2 (.slice va A0.length vc) A0.length (prc A0) (w3.heap.size + 1) (.slice (some ⟨w3.heap.size, 0, none⟩) 1 1) 1 (prc [(a, s)]) (w3.alloc (.cells #[.string (bs a), .string (bs s)] 59))) := pr_ow a s HL3.out.own HL3.out.bel.size (by omega)
          clear hb3 CG x0 x1 e0 HL
          go_wp2_with (at_builtin; refine wpList_append_rw HOw.out Try.underlying49 hin hi0 hi1 hi2 rfl (by decide) (by decide) (.tmp 33) (.tmp 37) rfl rfl rfl rfl ?_)
          intro v' w4 hown hg hat
          have HL4 : Hid (Gl w F W0 bx tp tl (.slice (some ⟨b, off, none⟩) Q.length kp) (Q.map (·.1)) v' (A0 ++ [(a, s)]) w4) := by
            refine Gl.snoc (HL3.out.on (al _)) ?_ hg (by simpa using hat)
            rw [prc_append, List.length_append]
            exact hown
          obtain ⟨sa4, sc4, rfl, -, -, -, -⟩ := rw_own hown
          clear hown hg hat HOw HL3
          go_wp2_with fail
          go_roundw
          case rel => exact ⟨m + 1, by omega, by go_num, by rw [HA1.out, HS3.out]; simpa using HL1.out, by rw [HA1.out, HS3.out]; exact HL4.out⟩
          case measure => simp [intOf]; omega
      · have hr1' : mx ≤ (A0.length : Int) := by omega
        have HY : Hid (Y = A0) := HFm.out (by have := HLe.out; omega)
        have HP : Hid (GPost w F W (.slice (some ⟨b, off, none⟩) Q.length kp) (Q.map (·.1)) A0 va vc wr) := HL.out.post HW.out
        clear hroom hst CG HFm
        go_wp2_with fail
        rw [HY.out]
        go_ret
        exact ⟨_, _, rfl, HP.out⟩
    · have hml' : ¬ (m : Int) < Q.length := by omega
      have HY : Hid (Y = A ++ scT tp tl Q m) := HEnd.out m (by omega) HLe.out
      have HP : Hid (GPost w F W (.slice ka Q.length kp) (Q.map (·.1)) (A ++ scT tp tl Q m) va vc wr) := HL.out.post HW.out
      generalize A ++ scT tp tl Q m = A0 at *
      go_wp2_with fail
      rw [HY.out]
      go_ret
      exact ⟨_, _, rfl, HP.out⟩
end Go.Proofs.Ytcfhkggijdjagaa
