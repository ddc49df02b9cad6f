import Derived.Test.YtajjnmdomabmkaaGreatWbp
set_option maxHeartbeats 4000000
set_option maxRecDepth 100000
set_option linter.unusedVariables false
namespace Go.Proofs.YtajjnmdomabmkaaGreat
open Go.RowKit
variable {SA : Nat → Nat → (Nat → Prop) → Sto.Sk → World → Prop} {TA : Nat → Nat → (Nat → Prop) → Lat.Tb → World → Prop} {BA : Nat → Nat → (Nat → Prop) → Ver.Bk → World → Prop}
variable {f : Fp} {M : Nat → Prop} {X : Sd} {a : Int} {g : Nat} {D : Drm.Dr} {w W W' : World} {Lo : List (Nat × Obj)}
def PrO (B : Nat) (sv : Value) (L : List (List UInt8 × List UInt8)) (w : World) : Prop := w.ownsRow B 213 2 sv L.length (Sto.prc L)
theorem PrO.nil (B : Nat) (w : World) : PrO B (.slice none 0 0) [] w := Lat.own_nil _ _ _ _
theorem sk_next {v : Value} {n : Nat} {M' : Nat → Prop} (h : 0 < n → ∀ k, v.ownBlock = some k → ¬ M k ∧ k < w.heap.size) (h8 : ∀ i, M' i → M i ∨ w.heap.size ≤ i) (hs : w.heap.size ≤ W.heap.size) : 0 < n → ∀ k, v.ownBlock = some k → ¬ M' k ∧ k < W.heap.size := fun h0 k hk => by
 have h1 := h h0 k hk
 refine ⟨fun hm => ?_, by omega⟩
 rcases h8 k hm with e1 | e1
 ·exact h1.1 e1
 ·omega
theorem ws_next {L : List Wr} {ao : Option Addr} {cp : Nat} {M' : Nat → Prop} (h : WsIn M w ao cp L) (h8 : ∀ i, M' i → M i ∨ w.heap.size ≤ i) (hk : Kept M w W) : WsIn M' W ao cp L := ⟨h.kept hk, fun h1 k hk hm => by
 rcases h8 k hm with e1 | e1
 ·exact h.not h1 k hk e1
 ·have := h.lt h1 hk
  omega⟩
theorem ans47_1 (E : Env SA TA BA) (ph : Int) (q : Rq) (wa : Option Addr) (wc : Nat) (sa : Option Addr) (sc : Nat) (h : ShAt SA TA BA f M X a g D w) (ht : X.wt < 8900) (hX : XOk X) (hph : 0 ≤ ph) (hph2 : ph ≤ 18446744073709551615) (hq : RqOk q) (hi : WsIn M w wa wc q.ws) (hsi : TAt w.heap.size (.slice sa q.sk.length sc) q.sk w) (hsn : 0 < q.sk.length → ∀ k, (Value.slice sa q.sk.length sc).ownBlock = some k → ¬ M k ∧ k < w.heap.size) (hr : rightQ q = true) (hk : q.k = 1) :
  Calls Tryz.prog 47 #[.pointer (some ⟨f.sb, 0, none⟩), .int .u64 ph, .agg #[.int .i64 q.k, .int .u32 q.c, .int .u32 q.n, .int .u64 q.sp, .int .u32 q.sl, .int .u64 q.ap, .int .u32 q.al, .string (bs q.key), .string (bs q.hi), .int .i64 q.lim, .int .u8 q.pt, .slice wa q.ws.length wc, .slice sa q.sk.length sc]] w fun e w' => ∃ ao n cap, e = .returned (rpV (ansF ph q X a D).1 (.slice ao n cap)) ∧ PrO w.heap.size (.slice ao n cap) (ansF ph q X a D).1.prs w' ∧ ShTo SA TA BA f M w (ansF ph q X a D).2.1 a g (ansF ph q X a D).2.2 w' := by
 have HL0 : ansF ph q X a D = if rightQ q = false then (refR 1, X, D) else if D.down then (refR 11, X, D)
  else if q.k = 1 then getFn ph q X a D else if q.k = 3 then layFn ph q X a D else decFn ph q X a D := rfl
 obtain ⟨b1, hb1⟩ : ∃ b1, b1 = w.heap.size + 1 := ⟨_, rfl⟩
 obtain ⟨Lo, hLo⟩ : ∃ Lo : List (Nat × Obj), Lo = [(b1, .cells #[.int .i64 0, .int .i64 0, .bool false, .string ⟨#[]⟩, .slice none 0 0, .int .u32 0, .int .u32 0, .int .u64 0, .int .u32 0, .int .u64 0, .int .u32 0, .string ⟨#[]⟩, .int .u64 0, .int .u32 0] 43), (w.heap.size, .cells #[.int .i64 q.k, .int .u32 q.c, .int .u32 q.n, .int .u64 q.sp, .int .u32 q.sl, .int .u64 q.ap, .int .u32 q.al, .string (bs q.key), .string (bs q.hi), .int .i64 q.lim, .int .u8 q.pt, .slice wa q.ws.length wc, .slice sa q.sk.length sc] 36)] := ⟨_, rfl⟩
 have H0 : Hid (Cx SA TA BA f M w X a g D Lo ((w.alloc (.cells #[.int .i64 q.k, .int .u32 q.c, .int .u32 q.n, .int .u64 q.sp, .int .u32 q.sl, .int .u64 q.ap, .int .u32 q.al, .string (bs q.key), .string (bs q.hi), .int .i64 q.lim, .int .u8 q.pt, .slice wa q.ws.length wc, .slice sa q.sk.length sc] 36)).alloc (.cells #[.int .i64 0, .int .i64 0, .bool false, .string ⟨#[]⟩, .slice none 0 0, .int .u32 0, .int .u32 0, .int .u64 0, .int .u32 0, .int .u64 0, .int .u32 0, .string ⟨#[]⟩, .int .u64 0, .int .u32 0] 43))) := by
  show Cx _ _ _ _ _ _ _ _ _ _ _ _
  have h1 := ((Cx.start h).new E #[.int .i64 q.k, .int .u32 q.c, .int .u32 q.n, .int .u64 q.sp, .int .u32 q.sl, .int .u64 q.ap, .int .u32 q.al, .string (bs q.key), .string (bs q.hi), .int .i64 q.lim, .int .u8 q.pt, .slice wa q.ws.length wc, .slice sa q.sk.length sc] 36 (by decide)).new E #[.int .i64 0, .int .i64 0, .bool false, .string ⟨#[]⟩, .slice none 0 0, .int .u32 0, .int .u32 0, .int .u64 0, .int .u32 0, .int .u64 0, .int .u32 0, .string ⟨#[]⟩, .int .u64 0, .int .u32 0] 43 (by decide)
  rw [size_al2, ← hb1, ← hLo] at h1
  exact h1
 have SB : Hid (∀ (X : Sd) (D : Drm.Dr) W, Cx SA TA BA f M w X a g D Lo W → W.cell? ⟨w.heap.size, 0, none⟩ = some (.int .i64 q.k) ∧ W.cell? ⟨w.heap.size, 1, none⟩ = some (.int .u32 q.c) ∧ W.cell? ⟨w.heap.size, 2, none⟩ = some (.int .u32 q.n) ∧ W.cell? ⟨w.heap.size, 3, none⟩ = some (.int .u64 q.sp) ∧ W.cell? ⟨w.heap.size, 4, none⟩ = some (.int .u32 q.sl) ∧ W.cell? ⟨w.heap.size, 5, none⟩ = some (.int .u64 q.ap) ∧ W.cell? ⟨w.heap.size, 6, none⟩ = some (.int .u32 q.al) ∧ W.cell? ⟨w.heap.size, 7, none⟩ = some (.string (bs q.key)) ∧ W.cell? ⟨w.heap.size, 8, none⟩ = some (.string (bs q.hi)) ∧ W.cell? ⟨w.heap.size, 9, none⟩ = some (.int .i64 q.lim) ∧ W.cell? ⟨w.heap.size, 10, none⟩ = some (.int .u8 q.pt) ∧ W.cell? ⟨w.heap.size, 11, none⟩ = some (.slice wa q.ws.length wc) ∧ W.cell? ⟨w.heap.size, 12, none⟩ = some (.slice sa q.sk.length sc)) := fun X D W hW => by
  subst hLo
  exact ⟨hW.has.cell (.tail _ (.head _)) rfl, hW.has.cell (.tail _ (.head _)) rfl, hW.has.cell (.tail _ (.head _)) rfl, hW.has.cell (.tail _ (.head _)) rfl, hW.has.cell (.tail _ (.head _)) rfl, hW.has.cell (.tail _ (.head _)) rfl, hW.has.cell (.tail _ (.head _)) rfl, hW.has.cell (.tail _ (.head _)) rfl, hW.has.cell (.tail _ (.head _)) rfl, hW.has.cell (.tail _ (.head _)) rfl, hW.has.cell (.tail _ (.head _)) rfl, hW.has.cell (.tail _ (.head _)) rfl, hW.has.cell (.tail _ (.head _)) rfl⟩
 have SP : Hid (∀ (X : Sd) (D : Drm.Dr) W, Cx SA TA BA f M w X a g D Lo W → W.heap[b1]? = some (.cells #[.int .i64 0, .int .i64 0, .bool false, .string ⟨#[]⟩, .slice none 0 0, .int .u32 0, .int .u32 0, .int .u64 0, .int .u32 0, .int .u64 0, .int .u32 0, .string ⟨#[]⟩, .int .u64 0, .int .u32 0] 43 (0, 0))) := fun X D W hW => by
  subst hLo
  exact hW.has _ (.head _)
 have HR : Hid (∀ (X : Sd) (D : Drm.Dr) W (v0 v1 v2 v3 v4 v5 v6 v7 v8 v9 v10 v11 v12 v13 : Value), Cx SA TA BA f M w X a g D Lo W → ShTo SA TA BA f M w X a g D ((((((((((((((W.setCell ⟨b1, 0, none⟩ v0).setCell ⟨b1, 1, none⟩ v1).setCell ⟨b1, 2, none⟩ v2).setCell ⟨b1, 3, none⟩ v3).setCell ⟨b1, 4, none⟩ v4).setCell ⟨b1, 5, none⟩ v5).setCell ⟨b1, 6, none⟩ v6).setCell ⟨b1, 7, none⟩ v7).setCell ⟨b1, 8, none⟩ v8).setCell ⟨b1, 9, none⟩ v9).setCell ⟨b1, 10, none⟩ v10).setCell ⟨b1, 11, none⟩ v11).setCell ⟨b1, 12, none⟩ v12).setCell ⟨b1, 13, none⟩ v13)) := fun X D W v0 v1 v2 v3 v4 v5 v6 v7 v8 v9 v10 v11 v12 v13 hW => by
  subst hLo
  exact hW.ret14 E (.head _) (by omega)
 have ON : Hid (∀ (X : Sd) (D : Drm.Dr) W W', Cx SA TA BA f M w X a g D Lo W → Bz W W' → Cx SA TA BA f M w X a g D Lo W') := fun X D W W' hW hb => hW.on E hb
 have NW : Hid (∀ (X : Sd) (D : Drm.Dr) W cs, Cx SA TA BA f M w X a g D Lo W → Cx SA TA BA f M w X a g D ((W.heap.size, .cells cs 32 (0, 0)) :: Lo) (W.alloc (.cells cs 32 (0, 0)))) := fun X D W cs hW => hW.new E cs 32 (by decide)
 have CR : Hid (∀ e W, Calls Tryz.prog 46 #[.int .i64 e] W fun r w' => r = .returned (.agg #[.int .i64 0, .int .i64 e, .bool false, .string ⟨#[]⟩, .slice none 0 0, .int .u32 0, .int .u32 0, .int .u64 0, .int .u32 0, .int .u64 0, .int .u32 0, .string ⟨#[]⟩, .int .u64 0, .int .u32 0]) ∧ Below W.heap.size W w') := fun e W => refused46 e W
 have CS : Hid (∀ k p l W, Calls Tryz.prog 193 #[.int .i64 k, .agg #[.int .u64 p, .int .u32 l]] W fun e w' => e = .returned (.agg #[.int .i64 k, .int .i64 0, .bool false, .string ⟨#[]⟩, .slice none 0 0, .int .u32 0, .int .u32 0, .int .u64 0, .int .u32 0, .int .u64 p, .int .u32 l, .string ⟨#[]⟩, .int .u64 0, .int .u32 0]) ∧ Below W.heap.size W w') := fun k p l W => said193 k p l W
 have CR1 : Hid (∀ W, Cx SA TA BA f M w X a g D Lo W → Calls Tryz.prog 91 #[.agg #[.int .i64 q.k, .int .u32 q.c, .int .u32 q.n, .int .u64 q.sp, .int .u32 q.sl, .int .u64 q.ap, .int .u32 q.al, .string (bs q.key), .string (bs q.hi), .int .i64 q.lim, .int .u8 q.pt, .slice wa q.ws.length wc, .slice sa q.sk.length sc]] W fun e w' => e = .returned (.bool (rightQ q)) ∧ Cx SA TA BA f M w X a g D Lo w') := fun W hW => (right91 q wa wc sa sc (hi.kept hW.kp)).mono fun r w' h => ⟨h.1, hW.on E h.2⟩
 have CD : Hid (∀ W, Cx SA TA BA f M w X a g D Lo W → Calls Tryz.prog 36 #[.pointer (some ⟨f.pb, 0, none⟩)] W fun e w' => e = .returned (.bool D.down) ∧ Cx SA TA BA f M w X a g D Lo w') := fun W hW => by
  obtain ⟨M9, h9, -, -⟩ := hW.sh
  refine (sh_down h9).mono ?_
  rintro r w' ⟨rfl, rfl⟩
  exact ⟨rfl, hW⟩
 have PT : Hid (∀ W, Cx SA TA BA f M w X a g D Lo W → W.cell? ⟨f.sb, 0, none⟩ = some (.pointer (some ⟨f.pb, 0, none⟩))) := fun W hW => hW.ptrs.1
 have OS : Hid (∀ (X : Sd) (D : Drm.Dr) W0 W v' L (v0 v1 v2 v3 v4 v5 v6 v7 v8 v9 v10 v11 v12 v13 : Value), Cx SA TA BA f M w X a g D Lo W0 → PrO W0.heap.size v' L W → PrO w.heap.size v' L ((((((((((((((W.setCell ⟨b1, 0, none⟩ v0).setCell ⟨b1, 1, none⟩ v1).setCell ⟨b1, 2, none⟩ v2).setCell ⟨b1, 3, none⟩ v3).setCell ⟨b1, 4, none⟩ v4).setCell ⟨b1, 5, none⟩ v5).setCell ⟨b1, 6, none⟩ v6).setCell ⟨b1, 7, none⟩ v7).setCell ⟨b1, 8, none⟩ v8).setCell ⟨b1, 9, none⟩ v9).setCell ⟨b1, 10, none⟩ v10).setCell ⟨b1, 11, none⟩ v11).setCell ⟨b1, 12, none⟩ v12).setCell ⟨b1, 13, none⟩ v13)) := fun X D W0 W v' L v0 v1 v2 v3 v4 v5 v6 v7 v8 v9 v10 v11 v12 v13 h0 ho => by
  have hk : Kept (fun k => k = b1) W ((((((((((((((W.setCell ⟨b1, 0, none⟩ v0).setCell ⟨b1, 1, none⟩ v1).setCell ⟨b1, 2, none⟩ v2).setCell ⟨b1, 3, none⟩ v3).setCell ⟨b1, 4, none⟩ v4).setCell ⟨b1, 5, none⟩ v5).setCell ⟨b1, 6, none⟩ v6).setCell ⟨b1, 7, none⟩ v7).setCell ⟨b1, 8, none⟩ v8).setCell ⟨b1, 9, none⟩ v9).setCell ⟨b1, 10, none⟩ v10).setCell ⟨b1, 11, none⟩ v11).setCell ⟨b1, 12, none⟩ v12).setCell ⟨b1, 13, none⟩ v13) := kept14
  have hlt : b1 < W0.heap.size := lt_of_block (SP.out _ _ _ h0)
  refine own_kept (own_le ho (by omega)) hk (fun k hk' e => ?_)
  have := (World.ownsRow.lt ho k hk').1
  omega
 have hr0 := hr
 unfold rightQ at hr0
 have hsk : q.sk.length ≤ 16 := by simp at hr0; omega
 rw [hr] at CR1
 have hkk : kOk q.key = true := by have := hr0; rw [hk] at this; simp at this; simp [this]
 have hkey : q.key.length ≤ 32 := by have := hkk; simp [kOk] at this; omega
 have CG : Hid (∀ W, Cx SA TA BA f M w X a g D Lo W → Calls Tryz.prog 92 #[.pointer (some ⟨f.sb, 0, none⟩), .int .u64 ph, .agg #[.int .i64 q.k, .int .u32 q.c, .int .u32 q.n, .int .u64 q.sp, .int .u32 q.sl, .int .u64 q.ap, .int .u32 q.al, .string (bs q.key), .string (bs q.hi), .int .i64 q.lim, .int .u8 q.pt, .slice wa q.ws.length wc, .slice sa q.sk.length sc]] W fun e w' => ∃ ao n cap, e = .returned (rpV (getFn ph q X a D).1 (.slice ao n cap)) ∧ Cx SA TA BA f M w (getFn ph q X a D).2.1 a g (getFn ph q X a D).2.2 Lo w' ∧ PrO W.heap.size (.slice ao n cap) (getFn ph q X a D).1.prs w') := fun W hW => by
  obtain ⟨M9, hM, h8, h7⟩ := hW.sh
  refine (get92 E ph q wa wc sa sc hM (by omega) hX hph hq hkey hsk (SkIn.kept hsi (fun h0 k hk => (hsn h0 k hk).1) hW.kp) (sk_next hsn h8 hW.kp.size)).mono ?_
  rintro e w' ⟨rfl, hs⟩
  exact ⟨none, 0, 0, rfl, hW.next h8 h7 hs, by rw [get_prs ph q]; exact PrO.nil _ _⟩
 have HL : Hid (ansF ph q X a D = if D.down then (refR 11, X, D) else (getFn ph q X a D)) := by
  show _ = _
  rw [HL0, hr, hk]
  rfl
 generalize ansF ph q X a D = Y at *
 generalize (getFn ph q X a D) = H at *
 obtain ⟨hr9, Xh, Dh⟩ := H
 dsimp only at CG HL
 obtain ⟨D0, hD0⟩ : ∃ D0, D.down = D0 := ⟨_, rfl⟩
 rw [hD0] at CD HL
 generalize q.k = kk at *
 subst hk
 clear hLo h ht hX hph hph2 hq hi hsi hsn E HL0 hsk hr0 hr hD0 hkk hkey
 obtain ⟨W2, hW2⟩ : ∃ W2, (w.alloc (.cells #[.int .i64 1, .int .u32 q.c, .int .u32 q.n, .int .u64 q.sp, .int .u32 q.sl, .int .u64 q.ap, .int .u32 q.al, .string (bs q.key), .string (bs q.hi), .int .i64 q.lim, .int .u8 q.pt, .slice wa q.ws.length wc, .slice sa q.sk.length sc] 36)).alloc (.cells #[.int .i64 0, .int .i64 0, .bool false, .string ⟨#[]⟩, .slice none 0 0, .int .u32 0, .int .u32 0, .int .u64 0, .int .u32 0, .int .u64 0, .int .u32 0, .string ⟨#[]⟩, .int .u64 0, .int .u32 0] 43) = W2 := ⟨_, rfl⟩
 rw [hW2] at H0
 obtain ⟨c0, c1, c2, c3, c4, c5, c6, c7, c8, c9, c10, c11, c12⟩ := SB.out _ _ _ H0.out
 go_enter Tryz.func47, Tryz.ntmps47
 go_wp2_with fail
 rw [← hb1]
 clear hW2 hb1
 refine (CR1.out _ H0.out).mono ?_
 rintro e w3 ⟨rfl, hq⟩
 have H3 : Hid _ := hq
 clear hq CR1 c0 c1 c2 c3 c4 c5 c6 c7 c8 c9 c10 c11 c12 H0
 have p0 := PT.out _ H3.out
 go_wp2_with fail
 refine (CD.out _ H3.out).mono ?_
 rintro e w4 ⟨rfl, hq⟩
 have H4 : Hid _ := hq
 clear hq CD PT p0 H3
 cases D0
 case true =>
  have HE : Hid (Y = (refR 11, X, D)) := HL.out
  clear CG
  go_wp2_with fail
  refine (CR.out _ _).mono ?_
  rintro e w5 ⟨rfl, hb⟩
  have H5 : Hid _ := ON.out _ _ _ _ H4.out hb
  clear hb
  obtain ⟨z0, z1, z2, z3, z4, z5, z6, z7, z8, z9, z10, z11, z12, z13, g0, g1, g2, g3, g4, g5, g6, g7, g8, g9, g10, g11, g12, g13⟩ := free14 (SP.out _ _ _ H5.out)
  go_wp2_with fail
  refine bodyPost_ret (res14 rfl rfl rfl (set14 (SP.out _ _ _ H5.out))) rfl ?_
  rw [HE.out]
  exact ⟨none, 0, 0, rfl, PrO.nil _ _, HR.out _ _ _ _ _ _ _ _ _ _ _ _ _ _ _ _ _ H5.out⟩
 case false =>
  have HE : Hid (Y = (hr9, Xh, Dh)) := HL.out
  obtain ⟨c0, c1, c2, c3, c4, c5, c6, c7, c8, c9, c10, c11, c12⟩ := SB.out _ _ _ H4.out
  go_wp2_with fail
  refine (CG.out _ H4.out).mono ?_
  rintro e w5 ⟨ao, n, cap, rfl, hq, ho⟩
  have H5 : Hid _ := hq
  have HO5 : Hid _ := ho
  clear hq ho CG c0 c1 c2 c3 c4 c5 c6 c7 c8 c9 c10 c11 c12
  unfold rpV
  obtain ⟨z0, z1, z2, z3, z4, z5, z6, z7, z8, z9, z10, z11, z12, z13, g0, g1, g2, g3, g4, g5, g6, g7, g8, g9, g10, g11, g12, g13⟩ := free14 (SP.out _ _ _ H5.out)
  go_wp2_with fail
  refine bodyPost_ret (res14 rfl rfl rfl (set14 (SP.out _ _ _ H5.out))) rfl ?_
  rw [HE.out]
  exact ⟨_, _, _, rfl, OS.out _ _ _ _ _ _ _ _ _ _ _ _ _ _ _ _ _ _ _ _ H4.out HO5.out, HR.out _ _ _ _ _ _ _ _ _ _ _ _ _ _ _ _ _ H5.out⟩
theorem ans47_3 (E : Env SA TA BA) (ph : Int) (q : Rq) (wa : Option Addr) (wc : Nat) (sa : Option Addr) (sc : Nat) (h : ShAt SA TA BA f M X a g D w) (ht : X.wt < 8900) (hX : XOk X) (hph : 0 ≤ ph) (hph2 : ph ≤ 18446744073709551615) (hq : RqOk q) (hi : WsIn M w wa wc q.ws) (hsi : TAt w.heap.size (.slice sa q.sk.length sc) q.sk w) (hsn : 0 < q.sk.length → ∀ k, (Value.slice sa q.sk.length sc).ownBlock = some k → ¬ M k ∧ k < w.heap.size) (hr : rightQ q = true) (hk : q.k = 3) :
  Calls Tryz.prog 47 #[.pointer (some ⟨f.sb, 0, none⟩), .int .u64 ph, .agg #[.int .i64 q.k, .int .u32 q.c, .int .u32 q.n, .int .u64 q.sp, .int .u32 q.sl, .int .u64 q.ap, .int .u32 q.al, .string (bs q.key), .string (bs q.hi), .int .i64 q.lim, .int .u8 q.pt, .slice wa q.ws.length wc, .slice sa q.sk.length sc]] w fun e w' => ∃ ao n cap, e = .returned (rpV (ansF ph q X a D).1 (.slice ao n cap)) ∧ PrO w.heap.size (.slice ao n cap) (ansF ph q X a D).1.prs w' ∧ ShTo SA TA BA f M w (ansF ph q X a D).2.1 a g (ansF ph q X a D).2.2 w' := by
 have HL0 : ansF ph q X a D = if rightQ q = false then (refR 1, X, D) else if D.down then (refR 11, X, D)
  else if q.k = 1 then getFn ph q X a D else if q.k = 3 then layFn ph q X a D else decFn ph q X a D := rfl
 obtain ⟨b1, hb1⟩ : ∃ b1, b1 = w.heap.size + 1 := ⟨_, rfl⟩
 obtain ⟨Lo, hLo⟩ : ∃ Lo : List (Nat × Obj), Lo = [(b1, .cells #[.int .i64 0, .int .i64 0, .bool false, .string ⟨#[]⟩, .slice none 0 0, .int .u32 0, .int .u32 0, .int .u64 0, .int .u32 0, .int .u64 0, .int .u32 0, .string ⟨#[]⟩, .int .u64 0, .int .u32 0] 43), (w.heap.size, .cells #[.int .i64 q.k, .int .u32 q.c, .int .u32 q.n, .int .u64 q.sp, .int .u32 q.sl, .int .u64 q.ap, .int .u32 q.al, .string (bs q.key), .string (bs q.hi), .int .i64 q.lim, .int .u8 q.pt, .slice wa q.ws.length wc, .slice sa q.sk.length sc] 36)] := ⟨_, rfl⟩
 have H0 : Hid (Cx SA TA BA f M w X a g D Lo ((w.alloc (.cells #[.int .i64 q.k, .int .u32 q.c, .int .u32 q.n, .int .u64 q.sp, .int .u32 q.sl, .int .u64 q.ap, .int .u32 q.al, .string (bs q.key), .string (bs q.hi), .int .i64 q.lim, .int .u8 q.pt, .slice wa q.ws.length wc, .slice sa q.sk.length sc] 36)).alloc (.cells #[.int .i64 0, .int .i64 0, .bool false, .string ⟨#[]⟩, .slice none 0 0, .int .u32 0, .int .u32 0, .int .u64 0, .int .u32 0, .int .u64 0, .int .u32 0, .string ⟨#[]⟩, .int .u64 0, .int .u32 0] 43))) := by
  show Cx _ _ _ _ _ _ _ _ _ _ _ _
  have h1 := ((Cx.start h).new E #[.int .i64 q.k, .int .u32 q.c, .int .u32 q.n, .int .u64 q.sp, .int .u32 q.sl, .int .u64 q.ap, .int .u32 q.al, .string (bs q.key), .string (bs q.hi), .int .i64 q.lim, .int .u8 q.pt, .slice wa q.ws.length wc, .slice sa q.sk.length sc] 36 (by decide)).new E #[.int .i64 0, .int .i64 0, .bool false, .string ⟨#[]⟩, .slice none 0 0, .int .u32 0, .int .u32 0, .int .u64 0, .int .u32 0, .int .u64 0, .int .u32 0, .string ⟨#[]⟩, .int .u64 0, .int .u32 0] 43 (by decide)
  rw [size_al2, ← hb1, ← hLo] at h1
  exact h1
 have SB : Hid (∀ (X : Sd) (D : Drm.Dr) W, Cx SA TA BA f M w X a g D Lo W → W.cell? ⟨w.heap.size, 0, none⟩ = some (.int .i64 q.k) ∧ W.cell? ⟨w.heap.size, 1, none⟩ = some (.int .u32 q.c) ∧ W.cell? ⟨w.heap.size, 2, none⟩ = some (.int .u32 q.n) ∧ W.cell? ⟨w.heap.size, 3, none⟩ = some (.int .u64 q.sp) ∧ W.cell? ⟨w.heap.size, 4, none⟩ = some (.int .u32 q.sl) ∧ W.cell? ⟨w.heap.size, 5, none⟩ = some (.int .u64 q.ap) ∧ W.cell? ⟨w.heap.size, 6, none⟩ = some (.int .u32 q.al) ∧ W.cell? ⟨w.heap.size, 7, none⟩ = some (.string (bs q.key)) ∧ W.cell? ⟨w.heap.size, 8, none⟩ = some (.string (bs q.hi)) ∧ W.cell? ⟨w.heap.size, 9, none⟩ = some (.int .i64 q.lim) ∧ W.cell? ⟨w.heap.size, 10, none⟩ = some (.int .u8 q.pt) ∧ W.cell? ⟨w.heap.size, 11, none⟩ = some (.slice wa q.ws.length wc) ∧ W.cell? ⟨w.heap.size, 12, none⟩ = some (.slice sa q.sk.length sc)) := fun X D W hW => by
  subst hLo
  exact ⟨hW.has.cell (.tail _ (.head _)) rfl, hW.has.cell (.tail _ (.head _)) rfl, hW.has.cell (.tail _ (.head _)) rfl, hW.has.cell (.tail _ (.head _)) rfl, hW.has.cell (.tail _ (.head _)) rfl, hW.has.cell (.tail _ (.head _)) rfl, hW.has.cell (.tail _ (.head _)) rfl, hW.has.cell (.tail _ (.head _)) rfl, hW.has.cell (.tail _ (.head _)) rfl, hW.has.cell (.tail _ (.head _)) rfl, hW.has.cell (.tail _ (.head _)) rfl, hW.has.cell (.tail _ (.head _)) rfl, hW.has.cell (.tail _ (.head _)) rfl⟩
 have SP : Hid (∀ (X : Sd) (D : Drm.Dr) W, Cx SA TA BA f M w X a g D Lo W → W.heap[b1]? = some (.cells #[.int .i64 0, .int .i64 0, .bool false, .string ⟨#[]⟩, .slice none 0 0, .int .u32 0, .int .u32 0, .int .u64 0, .int .u32 0, .int .u64 0, .int .u32 0, .string ⟨#[]⟩, .int .u64 0, .int .u32 0] 43 (0, 0))) := fun X D W hW => by
  subst hLo
  exact hW.has _ (.head _)
 have HR : Hid (∀ (X : Sd) (D : Drm.Dr) W (v0 v1 v2 v3 v4 v5 v6 v7 v8 v9 v10 v11 v12 v13 : Value), Cx SA TA BA f M w X a g D Lo W → ShTo SA TA BA f M w X a g D ((((((((((((((W.setCell ⟨b1, 0, none⟩ v0).setCell ⟨b1, 1, none⟩ v1).setCell ⟨b1, 2, none⟩ v2).setCell ⟨b1, 3, none⟩ v3).setCell ⟨b1, 4, none⟩ v4).setCell ⟨b1, 5, none⟩ v5).setCell ⟨b1, 6, none⟩ v6).setCell ⟨b1, 7, none⟩ v7).setCell ⟨b1, 8, none⟩ v8).setCell ⟨b1, 9, none⟩ v9).setCell ⟨b1, 10, none⟩ v10).setCell ⟨b1, 11, none⟩ v11).setCell ⟨b1, 12, none⟩ v12).setCell ⟨b1, 13, none⟩ v13)) := fun X D W v0 v1 v2 v3 v4 v5 v6 v7 v8 v9 v10 v11 v12 v13 hW => by
  subst hLo
  exact hW.ret14 E (.head _) (by omega)
 have ON : Hid (∀ (X : Sd) (D : Drm.Dr) W W', Cx SA TA BA f M w X a g D Lo W → Bz W W' → Cx SA TA BA f M w X a g D Lo W') := fun X D W W' hW hb => hW.on E hb
 have NW : Hid (∀ (X : Sd) (D : Drm.Dr) W cs, Cx SA TA BA f M w X a g D Lo W → Cx SA TA BA f M w X a g D ((W.heap.size, .cells cs 32 (0, 0)) :: Lo) (W.alloc (.cells cs 32 (0, 0)))) := fun X D W cs hW => hW.new E cs 32 (by decide)
 have CR : Hid (∀ e W, Calls Tryz.prog 46 #[.int .i64 e] W fun r w' => r = .returned (.agg #[.int .i64 0, .int .i64 e, .bool false, .string ⟨#[]⟩, .slice none 0 0, .int .u32 0, .int .u32 0, .int .u64 0, .int .u32 0, .int .u64 0, .int .u32 0, .string ⟨#[]⟩, .int .u64 0, .int .u32 0]) ∧ Below W.heap.size W w') := fun e W => refused46 e W
 have CS : Hid (∀ k p l W, Calls Tryz.prog 193 #[.int .i64 k, .agg #[.int .u64 p, .int .u32 l]] W fun e w' => e = .returned (.agg #[.int .i64 k, .int .i64 0, .bool false, .string ⟨#[]⟩, .slice none 0 0, .int .u32 0, .int .u32 0, .int .u64 0, .int .u32 0, .int .u64 p, .int .u32 l, .string ⟨#[]⟩, .int .u64 0, .int .u32 0]) ∧ Below W.heap.size W w') := fun k p l W => said193 k p l W
 have CR1 : Hid (∀ W, Cx SA TA BA f M w X a g D Lo W → Calls Tryz.prog 91 #[.agg #[.int .i64 q.k, .int .u32 q.c, .int .u32 q.n, .int .u64 q.sp, .int .u32 q.sl, .int .u64 q.ap, .int .u32 q.al, .string (bs q.key), .string (bs q.hi), .int .i64 q.lim, .int .u8 q.pt, .slice wa q.ws.length wc, .slice sa q.sk.length sc]] W fun e w' => e = .returned (.bool (rightQ q)) ∧ Cx SA TA BA f M w X a g D Lo w') := fun W hW => (right91 q wa wc sa sc (hi.kept hW.kp)).mono fun r w' h => ⟨h.1, hW.on E h.2⟩
 have CD : Hid (∀ W, Cx SA TA BA f M w X a g D Lo W → Calls Tryz.prog 36 #[.pointer (some ⟨f.pb, 0, none⟩)] W fun e w' => e = .returned (.bool D.down) ∧ Cx SA TA BA f M w X a g D Lo w') := fun W hW => by
  obtain ⟨M9, h9, -, -⟩ := hW.sh
  refine (sh_down h9).mono ?_
  rintro r w' ⟨rfl, rfl⟩
  exact ⟨rfl, hW⟩
 have PT : Hid (∀ W, Cx SA TA BA f M w X a g D Lo W → W.cell? ⟨f.sb, 0, none⟩ = some (.pointer (some ⟨f.pb, 0, none⟩))) := fun W hW => hW.ptrs.1
 have OS : Hid (∀ (X : Sd) (D : Drm.Dr) W0 W v' L (v0 v1 v2 v3 v4 v5 v6 v7 v8 v9 v10 v11 v12 v13 : Value), Cx SA TA BA f M w X a g D Lo W0 → PrO W0.heap.size v' L W → PrO w.heap.size v' L ((((((((((((((W.setCell ⟨b1, 0, none⟩ v0).setCell ⟨b1, 1, none⟩ v1).setCell ⟨b1, 2, none⟩ v2).setCell ⟨b1, 3, none⟩ v3).setCell ⟨b1, 4, none⟩ v4).setCell ⟨b1, 5, none⟩ v5).setCell ⟨b1, 6, none⟩ v6).setCell ⟨b1, 7, none⟩ v7).setCell ⟨b1, 8, none⟩ v8).setCell ⟨b1, 9, none⟩ v9).setCell ⟨b1, 10, none⟩ v10).setCell ⟨b1, 11, none⟩ v11).setCell ⟨b1, 12, none⟩ v12).setCell ⟨b1, 13, none⟩ v13)) := fun X D W0 W v' L v0 v1 v2 v3 v4 v5 v6 v7 v8 v9 v10 v11 v12 v13 h0 ho => by
  have hk : Kept (fun k => k = b1) W ((((((((((((((W.setCell ⟨b1, 0, none⟩ v0).setCell ⟨b1, 1, none⟩ v1).setCell ⟨b1, 2, none⟩ v2).setCell ⟨b1, 3, none⟩ v3).setCell ⟨b1, 4, none⟩ v4).setCell ⟨b1, 5, none⟩ v5).setCell ⟨b1, 6, none⟩ v6).setCell ⟨b1, 7, none⟩ v7).setCell ⟨b1, 8, none⟩ v8).setCell ⟨b1, 9, none⟩ v9).setCell ⟨b1, 10, none⟩ v10).setCell ⟨b1, 11, none⟩ v11).setCell ⟨b1, 12, none⟩ v12).setCell ⟨b1, 13, none⟩ v13) := kept14
  have hlt : b1 < W0.heap.size := lt_of_block (SP.out _ _ _ h0)
  refine own_kept (own_le ho (by omega)) hk (fun k hk' e => ?_)
  have := (World.ownsRow.lt ho k hk').1
  omega
 have hr0 := hr
 unfold rightQ at hr0
 have hsk : q.sk.length ≤ 16 := by simp at hr0; omega
 rw [hr] at CR1
 have hkk : kOk q.key = true := by have := hr0; rw [hk] at this; simp at this; simp [this]
 have hww : rightW q.ws = true := by have := hr0; rw [hk] at this; simp at this; simp [this]
 have CG : Hid (∀ W, Cx SA TA BA f M w X a g D Lo W → Calls Tryz.prog 94 #[.pointer (some ⟨f.sb, 0, none⟩), .int .u64 ph, .agg #[.int .i64 q.k, .int .u32 q.c, .int .u32 q.n, .int .u64 q.sp, .int .u32 q.sl, .int .u64 q.ap, .int .u32 q.al, .string (bs q.key), .string (bs q.hi), .int .i64 q.lim, .int .u8 q.pt, .slice wa q.ws.length wc, .slice sa q.sk.length sc]] W fun e w' => ∃ ao n cap, e = .returned (rpV (layFn ph q X a D).1 (.slice ao n cap)) ∧ Cx SA TA BA f M w (layFn ph q X a D).2.1 a g (layFn ph q X a D).2.2 Lo w' ∧ PrO W.heap.size (.slice ao n cap) (layFn ph q X a D).1.prs w') := fun W hW => by
  obtain ⟨M9, hM, h8, h7⟩ := hW.sh
  refine (lay94 E ph q wa wc sa sc hM (by omega) hX hph hq hkk hww (ws_next hi h8 hW.kp)).mono ?_
  rintro e w' ⟨rfl, hs⟩
  exact ⟨none, 0, 0, rfl, hW.next h8 h7 hs, by rw [lay_prs ph q]; exact PrO.nil _ _⟩
 have HL : Hid (ansF ph q X a D = if D.down then (refR 11, X, D) else (layFn ph q X a D)) := by
  show _ = _
  rw [HL0, hr, hk]
  rfl
 generalize ansF ph q X a D = Y at *
 generalize (layFn ph q X a D) = H at *
 obtain ⟨hr9, Xh, Dh⟩ := H
 dsimp only at CG HL
 obtain ⟨D0, hD0⟩ : ∃ D0, D.down = D0 := ⟨_, rfl⟩
 rw [hD0] at CD HL
 generalize q.k = kk at *
 subst hk
 clear hLo h ht hX hph hph2 hq hi hsi hsn E HL0 hsk hr0 hr hD0 hkk hww
 obtain ⟨W2, hW2⟩ : ∃ W2, (w.alloc (.cells #[.int .i64 3, .int .u32 q.c, .int .u32 q.n, .int .u64 q.sp, .int .u32 q.sl, .int .u64 q.ap, .int .u32 q.al, .string (bs q.key), .string (bs q.hi), .int .i64 q.lim, .int .u8 q.pt, .slice wa q.ws.length wc, .slice sa q.sk.length sc] 36)).alloc (.cells #[.int .i64 0, .int .i64 0, .bool false, .string ⟨#[]⟩, .slice none 0 0, .int .u32 0, .int .u32 0, .int .u64 0, .int .u32 0, .int .u64 0, .int .u32 0, .string ⟨#[]⟩, .int .u64 0, .int .u32 0] 43) = W2 := ⟨_, rfl⟩
 rw [hW2] at H0
 obtain ⟨c0, c1, c2, c3, c4, c5, c6, c7, c8, c9, c10, c11, c12⟩ := SB.out _ _ _ H0.out
 go_enter Tryz.func47, Tryz.ntmps47
 go_wp2_with fail
 rw [← hb1]
 clear hW2 hb1
 refine (CR1.out _ H0.out).mono ?_
 rintro e w3 ⟨rfl, hq⟩
 have H3 : Hid _ := hq
 clear hq CR1 c0 c1 c2 c3 c4 c5 c6 c7 c8 c9 c10 c11 c12 H0
 have p0 := PT.out _ H3.out
 go_wp2_with fail
 refine (CD.out _ H3.out).mono ?_
 rintro e w4 ⟨rfl, hq⟩
 have H4 : Hid _ := hq
 clear hq CD PT p0 H3
 cases D0
 case true =>
  have HE : Hid (Y = (refR 11, X, D)) := HL.out
  clear CG
  go_wp2_with fail
  refine (CR.out _ _).mono ?_
  rintro e w5 ⟨rfl, hb⟩
  have H5 : Hid _ := ON.out _ _ _ _ H4.out hb
  clear hb
  obtain ⟨z0, z1, z2, z3, z4, z5, z6, z7, z8, z9, z10, z11, z12, z13, g0, g1, g2, g3, g4, g5, g6, g7, g8, g9, g10, g11, g12, g13⟩ := free14 (SP.out _ _ _ H5.out)
  go_wp2_with fail
  refine bodyPost_ret (res14 rfl rfl rfl (set14 (SP.out _ _ _ H5.out))) rfl ?_
  rw [HE.out]
  exact ⟨none, 0, 0, rfl, PrO.nil _ _, HR.out _ _ _ _ _ _ _ _ _ _ _ _ _ _ _ _ _ H5.out⟩
 case false =>
  have HE : Hid (Y = (hr9, Xh, Dh)) := HL.out
  obtain ⟨c0, c1, c2, c3, c4, c5, c6, c7, c8, c9, c10, c11, c12⟩ := SB.out _ _ _ H4.out
  go_wp2_with fail
  refine (CG.out _ H4.out).mono ?_
  rintro e w5 ⟨ao, n, cap, rfl, hq, ho⟩
  have H5 : Hid _ := hq
  have HO5 : Hid _ := ho
  clear hq ho CG c0 c1 c2 c3 c4 c5 c6 c7 c8 c9 c10 c11 c12
  unfold rpV
  obtain ⟨z0, z1, z2, z3, z4, z5, z6, z7, z8, z9, z10, z11, z12, z13, g0, g1, g2, g3, g4, g5, g6, g7, g8, g9, g10, g11, g12, g13⟩ := free14 (SP.out _ _ _ H5.out)
  go_wp2_with fail
  refine bodyPost_ret (res14 rfl rfl rfl (set14 (SP.out _ _ _ H5.out))) rfl ?_
  rw [HE.out]
  exact ⟨_, _, _, rfl, OS.out _ _ _ _ _ _ _ _ _ _ _ _ _ _ _ _ _ _ _ _ H4.out HO5.out, HR.out _ _ _ _ _ _ _ _ _ _ _ _ _ _ _ _ _ H5.out⟩
theorem ans47_4 (E : Env SA TA BA) (ph : Int) (q : Rq) (wa : Option Addr) (wc : Nat) (sa : Option Addr) (sc : Nat) (h : ShAt SA TA BA f M X a g D w) (ht : X.wt < 8900) (hX : XOk X) (hph : 0 ≤ ph) (hph2 : ph ≤ 18446744073709551615) (hq : RqOk q) (hi : WsIn M w wa wc q.ws) (hsi : TAt w.heap.size (.slice sa q.sk.length sc) q.sk w) (hsn : 0 < q.sk.length → ∀ k, (Value.slice sa q.sk.length sc).ownBlock = some k → ¬ M k ∧ k < w.heap.size) (hr : rightQ q = true) (hk : q.k = 4) :
  Calls Tryz.prog 47 #[.pointer (some ⟨f.sb, 0, none⟩), .int .u64 ph, .agg #[.int .i64 q.k, .int .u32 q.c, .int .u32 q.n, .int .u64 q.sp, .int .u32 q.sl, .int .u64 q.ap, .int .u32 q.al, .string (bs q.key), .string (bs q.hi), .int .i64 q.lim, .int .u8 q.pt, .slice wa q.ws.length wc, .slice sa q.sk.length sc]] w fun e w' => ∃ ao n cap, e = .returned (rpV (ansF ph q X a D).1 (.slice ao n cap)) ∧ PrO w.heap.size (.slice ao n cap) (ansF ph q X a D).1.prs w' ∧ ShTo SA TA BA f M w (ansF ph q X a D).2.1 a g (ansF ph q X a D).2.2 w' := by
 have HL0 : ansF ph q X a D = if rightQ q = false then (refR 1, X, D) else if D.down then (refR 11, X, D)
  else if q.k = 1 then getFn ph q X a D else if q.k = 3 then layFn ph q X a D else decFn ph q X a D := rfl
 obtain ⟨b1, hb1⟩ : ∃ b1, b1 = w.heap.size + 1 := ⟨_, rfl⟩
 obtain ⟨Lo, hLo⟩ : ∃ Lo : List (Nat × Obj), Lo = [(b1, .cells #[.int .i64 0, .int .i64 0, .bool false, .string ⟨#[]⟩, .slice none 0 0, .int .u32 0, .int .u32 0, .int .u64 0, .int .u32 0, .int .u64 0, .int .u32 0, .string ⟨#[]⟩, .int .u64 0, .int .u32 0] 43), (w.heap.size, .cells #[.int .i64 q.k, .int .u32 q.c, .int .u32 q.n, .int .u64 q.sp, .int .u32 q.sl, .int .u64 q.ap, .int .u32 q.al, .string (bs q.key), .string (bs q.hi), .int .i64 q.lim, .int .u8 q.pt, .slice wa q.ws.length wc, .slice sa q.sk.length sc] 36)] := ⟨_, rfl⟩
 have H0 : Hid (Cx SA TA BA f M w X a g D Lo ((w.alloc (.cells #[.int .i64 q.k, .int .u32 q.c, .int .u32 q.n, .int .u64 q.sp, .int .u32 q.sl, .int .u64 q.ap, .int .u32 q.al, .string (bs q.key), .string (bs q.hi), .int .i64 q.lim, .int .u8 q.pt, .slice wa q.ws.length wc, .slice sa q.sk.length sc] 36)).alloc (.cells #[.int .i64 0, .int .i64 0, .bool false, .string ⟨#[]⟩, .slice none 0 0, .int .u32 0, .int .u32 0, .int .u64 0, .int .u32 0, .int .u64 0, .int .u32 0, .string ⟨#[]⟩, .int .u64 0, .int .u32 0] 43))) := by
  show Cx _ _ _ _ _ _ _ _ _ _ _ _
  have h1 := ((Cx.start h).new E #[.int .i64 q.k, .int .u32 q.c, .int .u32 q.n, .int .u64 q.sp, .int .u32 q.sl, .int .u64 q.ap, .int .u32 q.al, .string (bs q.key), .string (bs q.hi), .int .i64 q.lim, .int .u8 q.pt, .slice wa q.ws.length wc, .slice sa q.sk.length sc] 36 (by decide)).new E #[.int .i64 0, .int .i64 0, .bool false, .string ⟨#[]⟩, .slice none 0 0, .int .u32 0, .int .u32 0, .int .u64 0, .int .u32 0, .int .u64 0, .int .u32 0, .string ⟨#[]⟩, .int .u64 0, .int .u32 0] 43 (by decide)
  rw [size_al2, ← hb1, ← hLo] at h1
  exact h1
 have SB : Hid (∀ (X : Sd) (D : Drm.Dr) W, Cx SA TA BA f M w X a g D Lo W → W.cell? ⟨w.heap.size, 0, none⟩ = some (.int .i64 q.k) ∧ W.cell? ⟨w.heap.size, 1, none⟩ = some (.int .u32 q.c) ∧ W.cell? ⟨w.heap.size, 2, none⟩ = some (.int .u32 q.n) ∧ W.cell? ⟨w.heap.size, 3, none⟩ = some (.int .u64 q.sp) ∧ W.cell? ⟨w.heap.size, 4, none⟩ = some (.int .u32 q.sl) ∧ W.cell? ⟨w.heap.size, 5, none⟩ = some (.int .u64 q.ap) ∧ W.cell? ⟨w.heap.size, 6, none⟩ = some (.int .u32 q.al) ∧ W.cell? ⟨w.heap.size, 7, none⟩ = some (.string (bs q.key)) ∧ W.cell? ⟨w.heap.size, 8, none⟩ = some (.string (bs q.hi)) ∧ W.cell? ⟨w.heap.size, 9, none⟩ = some (.int .i64 q.lim) ∧ W.cell? ⟨w.heap.size, 10, none⟩ = some (.int .u8 q.pt) ∧ W.cell? ⟨w.heap.size, 11, none⟩ = some (.slice wa q.ws.length wc) ∧ W.cell? ⟨w.heap.size, 12, none⟩ = some (.slice sa q.sk.length sc)) := fun X D W hW => by
  subst hLo
  exact ⟨hW.has.cell (.tail _ (.head _)) rfl, hW.has.cell (.tail _ (.head _)) rfl, hW.has.cell (.tail _ (.head _)) rfl, hW.has.cell (.tail _ (.head _)) rfl, hW.has.cell (.tail _ (.head _)) rfl, hW.has.cell (.tail _ (.head _)) rfl, hW.has.cell (.tail _ (.head _)) rfl, hW.has.cell (.tail _ (.head _)) rfl, hW.has.cell (.tail _ (.head _)) rfl, hW.has.cell (.tail _ (.head _)) rfl, hW.has.cell (.tail _ (.head _)) rfl, hW.has.cell (.tail _ (.head _)) rfl, hW.has.cell (.tail _ (.head _)) rfl⟩
 have SP : Hid (∀ (X : Sd) (D : Drm.Dr) W, Cx SA TA BA f M w X a g D Lo W → W.heap[b1]? = some (.cells #[.int .i64 0, .int .i64 0, .bool false, .string ⟨#[]⟩, .slice none 0 0, .int .u32 0, .int .u32 0, .int .u64 0, .int .u32 0, .int .u64 0, .int .u32 0, .string ⟨#[]⟩, .int .u64 0, .int .u32 0] 43 (0, 0))) := fun X D W hW => by
  subst hLo
  exact hW.has _ (.head _)
 have HR : Hid (∀ (X : Sd) (D : Drm.Dr) W (v0 v1 v2 v3 v4 v5 v6 v7 v8 v9 v10 v11 v12 v13 : Value), Cx SA TA BA f M w X a g D Lo W → ShTo SA TA BA f M w X a g D ((((((((((((((W.setCell ⟨b1, 0, none⟩ v0).setCell ⟨b1, 1, none⟩ v1).setCell ⟨b1, 2, none⟩ v2).setCell ⟨b1, 3, none⟩ v3).setCell ⟨b1, 4, none⟩ v4).setCell ⟨b1, 5, none⟩ v5).setCell ⟨b1, 6, none⟩ v6).setCell ⟨b1, 7, none⟩ v7).setCell ⟨b1, 8, none⟩ v8).setCell ⟨b1, 9, none⟩ v9).setCell ⟨b1, 10, none⟩ v10).setCell ⟨b1, 11, none⟩ v11).setCell ⟨b1, 12, none⟩ v12).setCell ⟨b1, 13, none⟩ v13)) := fun X D W v0 v1 v2 v3 v4 v5 v6 v7 v8 v9 v10 v11 v12 v13 hW => by
  subst hLo
  exact hW.ret14 E (.head _) (by omega)
 have ON : Hid (∀ (X : Sd) (D : Drm.Dr) W W', Cx SA TA BA f M w X a g D Lo W → Bz W W' → Cx SA TA BA f M w X a g D Lo W') := fun X D W W' hW hb => hW.on E hb
 have NW : Hid (∀ (X : Sd) (D : Drm.Dr) W cs, Cx SA TA BA f M w X a g D Lo W → Cx SA TA BA f M w X a g D ((W.heap.size, .cells cs 32 (0, 0)) :: Lo) (W.alloc (.cells cs 32 (0, 0)))) := fun X D W cs hW => hW.new E cs 32 (by decide)
 have CR : Hid (∀ e W, Calls Tryz.prog 46 #[.int .i64 e] W fun r w' => r = .returned (.agg #[.int .i64 0, .int .i64 e, .bool false, .string ⟨#[]⟩, .slice none 0 0, .int .u32 0, .int .u32 0, .int .u64 0, .int .u32 0, .int .u64 0, .int .u32 0, .string ⟨#[]⟩, .int .u64 0, .int .u32 0]) ∧ Below W.heap.size W w') := fun e W => refused46 e W
 have CS : Hid (∀ k p l W, Calls Tryz.prog 193 #[.int .i64 k, .agg #[.int .u64 p, .int .u32 l]] W fun e w' => e = .returned (.agg #[.int .i64 k, .int .i64 0, .bool false, .string ⟨#[]⟩, .slice none 0 0, .int .u32 0, .int .u32 0, .int .u64 0, .int .u32 0, .int .u64 p, .int .u32 l, .string ⟨#[]⟩, .int .u64 0, .int .u32 0]) ∧ Below W.heap.size W w') := fun k p l W => said193 k p l W
 have CR1 : Hid (∀ W, Cx SA TA BA f M w X a g D Lo W → Calls Tryz.prog 91 #[.agg #[.int .i64 q.k, .int .u32 q.c, .int .u32 q.n, .int .u64 q.sp, .int .u32 q.sl, .int .u64 q.ap, .int .u32 q.al, .string (bs q.key), .string (bs q.hi), .int .i64 q.lim, .int .u8 q.pt, .slice wa q.ws.length wc, .slice sa q.sk.length sc]] W fun e w' => e = .returned (.bool (rightQ q)) ∧ Cx SA TA BA f M w X a g D Lo w') := fun W hW => (right91 q wa wc sa sc (hi.kept hW.kp)).mono fun r w' h => ⟨h.1, hW.on E h.2⟩
 have CD : Hid (∀ W, Cx SA TA BA f M w X a g D Lo W → Calls Tryz.prog 36 #[.pointer (some ⟨f.pb, 0, none⟩)] W fun e w' => e = .returned (.bool D.down) ∧ Cx SA TA BA f M w X a g D Lo w') := fun W hW => by
  obtain ⟨M9, h9, -, -⟩ := hW.sh
  refine (sh_down h9).mono ?_
  rintro r w' ⟨rfl, rfl⟩
  exact ⟨rfl, hW⟩
 have PT : Hid (∀ W, Cx SA TA BA f M w X a g D Lo W → W.cell? ⟨f.sb, 0, none⟩ = some (.pointer (some ⟨f.pb, 0, none⟩))) := fun W hW => hW.ptrs.1
 have OS : Hid (∀ (X : Sd) (D : Drm.Dr) W0 W v' L (v0 v1 v2 v3 v4 v5 v6 v7 v8 v9 v10 v11 v12 v13 : Value), Cx SA TA BA f M w X a g D Lo W0 → PrO W0.heap.size v' L W → PrO w.heap.size v' L ((((((((((((((W.setCell ⟨b1, 0, none⟩ v0).setCell ⟨b1, 1, none⟩ v1).setCell ⟨b1, 2, none⟩ v2).setCell ⟨b1, 3, none⟩ v3).setCell ⟨b1, 4, none⟩ v4).setCell ⟨b1, 5, none⟩ v5).setCell ⟨b1, 6, none⟩ v6).setCell ⟨b1, 7, none⟩ v7).setCell ⟨b1, 8, none⟩ v8).setCell ⟨b1, 9, none⟩ v9).setCell ⟨b1, 10, none⟩ v10).setCell ⟨b1, 11, none⟩ v11).setCell ⟨b1, 12, none⟩ v12).setCell ⟨b1, 13, none⟩ v13)) := fun X D W0 W v' L v0 v1 v2 v3 v4 v5 v6 v7 v8 v9 v10 v11 v12 v13 h0 ho => by
  have hk : Kept (fun k => k = b1) W ((((((((((((((W.setCell ⟨b1, 0, none⟩ v0).setCell ⟨b1, 1, none⟩ v1).setCell ⟨b1, 2, none⟩ v2).setCell ⟨b1, 3, none⟩ v3).setCell ⟨b1, 4, none⟩ v4).setCell ⟨b1, 5, none⟩ v5).setCell ⟨b1, 6, none⟩ v6).setCell ⟨b1, 7, none⟩ v7).setCell ⟨b1, 8, none⟩ v8).setCell ⟨b1, 9, none⟩ v9).setCell ⟨b1, 10, none⟩ v10).setCell ⟨b1, 11, none⟩ v11).setCell ⟨b1, 12, none⟩ v12).setCell ⟨b1, 13, none⟩ v13) := kept14
  have hlt : b1 < W0.heap.size := lt_of_block (SP.out _ _ _ h0)
  refine own_kept (own_le ho (by omega)) hk (fun k hk' e => ?_)
  have := (World.ownsRow.lt ho k hk').1
  omega
 have hr0 := hr
 unfold rightQ at hr0
 have hsk : q.sk.length ≤ 16 := by simp at hr0; omega
 rw [hr] at CR1
 have CG : Hid (∀ W, Cx SA TA BA f M w X a g D Lo W → Calls Tryz.prog 95 #[.pointer (some ⟨f.sb, 0, none⟩), .int .u64 ph, .agg #[.int .i64 q.k, .int .u32 q.c, .int .u32 q.n, .int .u64 q.sp, .int .u32 q.sl, .int .u64 q.ap, .int .u32 q.al, .string (bs q.key), .string (bs q.hi), .int .i64 q.lim, .int .u8 q.pt, .slice wa q.ws.length wc, .slice sa q.sk.length sc]] W fun e w' => ∃ ao n cap, e = .returned (rpV (decFn ph q X a D).1 (.slice ao n cap)) ∧ Cx SA TA BA f M w (decFn ph q X a D).2.1 a g (decFn ph q X a D).2.2 Lo w' ∧ PrO W.heap.size (.slice ao n cap) (decFn ph q X a D).1.prs w') := fun W hW => by
  obtain ⟨M9, hM, h8, h7⟩ := hW.sh
  refine (dec95 E ph q wa wc sa sc hM (by omega) hX hph hq).mono ?_
  rintro e w' ⟨rfl, hs⟩
  exact ⟨none, 0, 0, rfl, hW.next h8 h7 hs, by rw [dec_prs ph q]; exact PrO.nil _ _⟩
 have HL : Hid (ansF ph q X a D = if D.down then (refR 11, X, D) else (decFn ph q X a D)) := by
  show _ = _
  rw [HL0, hr, hk]
  rfl
 generalize ansF ph q X a D = Y at *
 generalize (decFn ph q X a D) = H at *
 obtain ⟨hr9, Xh, Dh⟩ := H
 dsimp only at CG HL
 obtain ⟨D0, hD0⟩ : ∃ D0, D.down = D0 := ⟨_, rfl⟩
 rw [hD0] at CD HL
 generalize q.k = kk at *
 subst hk
 clear hLo h ht hX hph hph2 hq hi hsi hsn E HL0 hsk hr0 hr hD0
 obtain ⟨W2, hW2⟩ : ∃ W2, (w.alloc (.cells #[.int .i64 4, .int .u32 q.c, .int .u32 q.n, .int .u64 q.sp, .int .u32 q.sl, .int .u64 q.ap, .int .u32 q.al, .string (bs q.key), .string (bs q.hi), .int .i64 q.lim, .int .u8 q.pt, .slice wa q.ws.length wc, .slice sa q.sk.length sc] 36)).alloc (.cells #[.int .i64 0, .int .i64 0, .bool false, .string ⟨#[]⟩, .slice none 0 0, .int .u32 0, .int .u32 0, .int .u64 0, .int .u32 0, .int .u64 0, .int .u32 0, .string ⟨#[]⟩, .int .u64 0, .int .u32 0] 43) = W2 := ⟨_, rfl⟩
 rw [hW2] at H0
 obtain ⟨c0, c1, c2, c3, c4, c5, c6, c7, c8, c9, c10, c11, c12⟩ := SB.out _ _ _ H0.out
 go_enter Tryz.func47, Tryz.ntmps47
 go_wp2_with fail
 rw [← hb1]
 clear hW2 hb1
 refine (CR1.out _ H0.out).mono ?_
 rintro e w3 ⟨rfl, hq⟩
 have H3 : Hid _ := hq
 clear hq CR1 c0 c1 c2 c3 c4 c5 c6 c7 c8 c9 c10 c11 c12 H0
 have p0 := PT.out _ H3.out
 go_wp2_with fail
 refine (CD.out _ H3.out).mono ?_
 rintro e w4 ⟨rfl, hq⟩
 have H4 : Hid _ := hq
 clear hq CD PT p0 H3
 cases D0
 case true =>
  have HE : Hid (Y = (refR 11, X, D)) := HL.out
  clear CG
  go_wp2_with fail
  refine (CR.out _ _).mono ?_
  rintro e w5 ⟨rfl, hb⟩
  have H5 : Hid _ := ON.out _ _ _ _ H4.out hb
  clear hb
  obtain ⟨z0, z1, z2, z3, z4, z5, z6, z7, z8, z9, z10, z11, z12, z13, g0, g1, g2, g3, g4, g5, g6, g7, g8, g9, g10, g11, g12, g13⟩ := free14 (SP.out _ _ _ H5.out)
  go_wp2_with fail
  refine bodyPost_ret (res14 rfl rfl rfl (set14 (SP.out _ _ _ H5.out))) rfl ?_
  rw [HE.out]
  exact ⟨none, 0, 0, rfl, PrO.nil _ _, HR.out _ _ _ _ _ _ _ _ _ _ _ _ _ _ _ _ _ H5.out⟩
 case false =>
  have HE : Hid (Y = (hr9, Xh, Dh)) := HL.out
  obtain ⟨c0, c1, c2, c3, c4, c5, c6, c7, c8, c9, c10, c11, c12⟩ := SB.out _ _ _ H4.out
  go_wp2_with fail
  refine (CG.out _ H4.out).mono ?_
  rintro e w5 ⟨ao, n, cap, rfl, hq, ho⟩
  have H5 : Hid _ := hq
  have HO5 : Hid _ := ho
  clear hq ho CG c0 c1 c2 c3 c4 c5 c6 c7 c8 c9 c10 c11 c12
  unfold rpV
  obtain ⟨z0, z1, z2, z3, z4, z5, z6, z7, z8, z9, z10, z11, z12, z13, g0, g1, g2, g3, g4, g5, g6, g7, g8, g9, g10, g11, g12, g13⟩ := free14 (SP.out _ _ _ H5.out)
  go_wp2_with fail
  refine bodyPost_ret (res14 rfl rfl rfl (set14 (SP.out _ _ _ H5.out))) rfl ?_
  rw [HE.out]
  exact ⟨_, _, _, rfl, OS.out _ _ _ _ _ _ _ _ _ _ _ _ _ _ _ _ _ _ _ _ H4.out HO5.out, HR.out _ _ _ _ _ _ _ _ _ _ _ _ _ _ _ _ _ H5.out⟩
theorem ans47 (E : Env SA TA BA) (ph : Int) (q : Rq) (wa : Option Addr) (wc : Nat) (sa : Option Addr) (sc : Nat) (h : ShAt SA TA BA f M X a g D w) (ht : X.wt < 8900) (hX : XOk X) (hph : 0 ≤ ph) (hph2 : ph ≤ 18446744073709551615) (hq : RqOk q) (hi : WsIn M w wa wc q.ws) (hsi : TAt w.heap.size (.slice sa q.sk.length sc) q.sk w) (hsn : 0 < q.sk.length → ∀ k, (Value.slice sa q.sk.length sc).ownBlock = some k → ¬ M k ∧ k < w.heap.size) (hr : rightQ q = true) (hk0 : q.k = 1 ∨ q.k = 3 ∨ q.k = 4) :
  Calls Tryz.prog 47 #[.pointer (some ⟨f.sb, 0, none⟩), .int .u64 ph, .agg #[.int .i64 q.k, .int .u32 q.c, .int .u32 q.n, .int .u64 q.sp, .int .u32 q.sl, .int .u64 q.ap, .int .u32 q.al, .string (bs q.key), .string (bs q.hi), .int .i64 q.lim, .int .u8 q.pt, .slice wa q.ws.length wc, .slice sa q.sk.length sc]] w fun e w' => ∃ ao n cap, e = .returned (rpV (ansF ph q X a D).1 (.slice ao n cap)) ∧ PrO w.heap.size (.slice ao n cap) (ansF ph q X a D).1.prs w' ∧ ShTo SA TA BA f M w (ansF ph q X a D).2.1 a g (ansF ph q X a D).2.2 w' := by
 rcases hk0 with hk | hk | hk
 ·exact ans47_1 E ph q wa wc sa sc h ht hX hph hph2 hq hi hsi hsn hr hk
 ·exact ans47_3 E ph q wa wc sa sc h ht hX hph hph2 hq hi hsi hsn hr hk
 ·exact ans47_4 E ph q wa wc sa sc h ht hX hph hph2 hq hi hsi hsn hr hk
end Go.Proofs.YtajjnmdomabmkaaGreat
