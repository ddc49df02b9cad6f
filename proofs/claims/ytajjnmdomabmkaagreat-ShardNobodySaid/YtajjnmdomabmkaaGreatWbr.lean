import Derived.Laws.Tables
import Derived.Test.YtajjnmdomabmkaaGreatWbq
set_option maxHeartbeats 4000000
set_option maxRecDepth 100000
set_option linter.unusedVariables false
namespace Go.Proofs.YtajjnmdomabmkaaGreat
open Go.RowKit
variable {SA : Nat → Nat → (Nat → Prop) → Sto.Sk → World → Prop} {TA : Nat → Nat → (Nat → Prop) → Lat.Tb → World → Prop} {BA : Nat → Nat → (Nat → Prop) → Ver.Bk → World → Prop}
variable {f : Fp} {M : Nat → Prop} {X : Sd} {a : Int} {g : Nat} {D : Drm.Dr} {w W W' : World} {Lo : List (Nat × Obj)}
theorem handle16 (E : Env SA TA BA) (ph : Int) (q : Rq) (wa : Option Addr) (wc : Nat) (sa : Option Addr) (sc : Nat) (h : ShAt SA TA BA f M X a g D w) (ht : X.wt < 8900) (hX : XOk X) (hph : 0 ≤ ph) (hph2 : ph ≤ 18446744073709551615) (hq : RqOk q) (hi : WsIn M w wa wc q.ws) (hsi : TAt w.heap.size (.slice sa q.sk.length sc) q.sk w) (hsn : 0 < q.sk.length → ∀ k, (Value.slice sa q.sk.length sc).ownBlock = some k → ¬ M k ∧ k < w.heap.size) (hr : rightQ q = true) (hk0 : q.k = 1 ∨ q.k = 3 ∨ q.k = 4) :
  Calls Tryz.prog 16 #[.pointer (some ⟨f.sb, 0, none⟩), .int .u64 ph, .agg #[.int .i64 q.k, .int .u32 q.c, .int .u32 q.n, .int .u64 q.sp, .int .u32 q.sl, .int .u64 q.ap, .int .u32 q.al, .string (bs q.key), .string (bs q.hi), .int .i64 q.lim, .int .u8 q.pt, .slice wa q.ws.length wc, .slice sa q.sk.length sc]] w fun e w' => ∃ ao n cap, e = .returned (rpV (handF ph q X a D).1 (.slice ao n cap)) ∧ PrO w.heap.size (.slice ao n cap) (handF ph q X a D).1.prs w' ∧ ShTo SA TA BA f M w (handF ph q X a D).2.1 a g (handF ph q X a D).2.2 w' := by
 have HL0 : handF ph q X a D = ({ (ansF ph q X a D).1 with np := (ansF ph q X a D).2.1.np, nl := (ansF ph q X a D).2.1.nl }, (ansF ph q X a D).2) := rfl
 obtain ⟨b1, hb1⟩ : ∃ b1, b1 = w.heap.size + 1 := ⟨_, rfl⟩
 obtain ⟨Lo, hLo⟩ : ∃ Lo : List (Nat × Obj), Lo = [(b1, .cells #[.int .i64 0, .int .i64 0, .bool false, .string ⟨#[]⟩, .slice none 0 0, .int .u32 0, .int .u32 0, .int .u64 0, .int .u32 0, .int .u64 0, .int .u32 0, .string ⟨#[]⟩, .int .u64 0, .int .u32 0] 43), (w.heap.size, .cells #[.int .i64 q.k, .int .u32 q.c, .int .u32 q.n, .int .u64 q.sp, .int .u32 q.sl, .int .u64 q.ap, .int .u32 q.al, .string (bs q.key), .string (bs q.hi), .int .i64 q.lim, .int .u8 q.pt, .slice wa q.ws.length wc, .slice sa q.sk.length sc] 36)] := ⟨_, rfl⟩
 have H0 : Hid (Cx SA TA BA f M w X a g D Lo ((w.alloc (.cells #[.int .i64 q.k, .int .u32 q.c, .int .u32 q.n, .int .u64 q.sp, .int .u32 q.sl, .int .u64 q.ap, .int .u32 q.al, .string (bs q.key), .string (bs q.hi), .int .i64 q.lim, .int .u8 q.pt, .slice wa q.ws.length wc, .slice sa q.sk.length sc] 36)).alloc (.cells #[.int .i64 0, .int .i64 0, .bool false, .string ⟨#[]⟩, .slice none 0 0, .int .u32 0, .int .u32 0, .int .u64 0, .int .u32 0, .int .u64 0, .int .u32 0, .string ⟨#[]⟩, .int .u64 0, .int .u32 0] 43))) := by
  show Cx _ _ _ _ _ _ _ _ _ _ _ _
  have h1 := ((Cx.start h).new E #[.int .i64 q.k, .int .u32 q.c, .int .u32 q.n, .int .u64 q.sp, .int .u32 q.sl, .int .u64 q.ap, .int .u32 q.al, .string (bs q.key), .string (bs q.hi), .int .i64 q.lim, .int .u8 q.pt, .slice wa q.ws.length wc, .slice sa q.sk.length sc] 36 (by decide)).new E #[.int .i64 0, .int .i64 0, .bool false, .string ⟨#[]⟩, .slice none 0 0, .int .u32 0, .int .u32 0, .int .u64 0, .int .u32 0, .int .u64 0, .int .u32 0, .string ⟨#[]⟩, .int .u64 0, .int .u32 0] 43 (by decide)
  rw [size_al2, ← hb1, ← hLo] at h1
  exact h1
 have SB : Hid (∀ (X : Sd) (D : Drm.Dr) W, Cx SA TA BA f M w X a g D Lo W → W.cell? ⟨w.heap.size, 0, none⟩ = some (.int .i64 q.k) ∧ W.cell? ⟨w.heap.size, 1, none⟩ = some (.int .u32 q.c) ∧ W.cell? ⟨w.heap.size, 2, none⟩ = some (.int .u32 q.n) ∧ W.cell? ⟨w.heap.size, 3, none⟩ = some (.int .u64 q.sp) ∧ W.cell? ⟨w.heap.size, 4, none⟩ = some (.int .u32 q.sl) ∧ W.cell? ⟨w.heap.size, 5, none⟩ = some (.int .u64 q.ap) ∧ W.cell? ⟨w.heap.size, 6, none⟩ = some (.int .u32 q.al) ∧ W.cell? ⟨w.heap.size, 7, none⟩ = some (.string (bs q.key)) ∧ W.cell? ⟨w.heap.size, 8, none⟩ = some (.string (bs q.hi)) ∧ W.cell? ⟨w.heap.size, 9, none⟩ = some (.int .i64 q.lim) ∧ W.cell? ⟨w.heap.size, 10, none⟩ = some (.int .u8 q.pt) ∧ W.cell? ⟨w.heap.size, 11, none⟩ = some (.slice wa q.ws.length wc) ∧ W.cell? ⟨w.heap.size, 12, none⟩ = some (.slice sa q.sk.length sc)) := fun X D W hW => by
  subst hLo
  exact ⟨hW.has.cell (.tail _ (.head _)) rfl, hW.has.cell (.tail _ (.head _)) rfl, hW.has.cell (.tail _ (.head _)) rfl, hW.has.cell (.tail _ (.head _)) rfl, hW.has.cell (.tail _ (.head _)) rfl, hW.has.cell (.tail _ (.head _)) rfl, hW.has.cell (.tail _ (.head _)) rfl, hW.has.cell (.tail _ (.head _)) rfl, hW.has.cell (.tail _ (.head _)) rfl, hW.has.cell (.tail _ (.head _)) rfl, hW.has.cell (.tail _ (.head _)) rfl, hW.has.cell (.tail _ (.head _)) rfl, hW.has.cell (.tail _ (.head _)) rfl⟩
 have SP : Hid (∀ (X : Sd) (D : Drm.Dr) W, Cx SA TA BA f M w X a g D Lo W → W.heap[b1]? = some (.cells #[.int .i64 0, .int .i64 0, .bool false, .string ⟨#[]⟩, .slice none 0 0, .int .u32 0, .int .u32 0, .int .u64 0, .int .u32 0, .int .u64 0, .int .u32 0, .string ⟨#[]⟩, .int .u64 0, .int .u32 0] 43 (0, 0))) := fun X D W hW => by
  subst hLo
  exact hW.has _ (.head _)
 have HR : Hid (∀ (X : Sd) (D : Drm.Dr) W (v0 v1 v2 v3 v4 v5 v6 v7 v8 v9 v10 v11 v12 v13 : Value), Cx SA TA BA f M w X a g D Lo W → ShTo SA TA BA f M w X a g D ((((((((((((((W.setCell ⟨b1, 0, none⟩ v0).setCell ⟨b1, 1, none⟩ v1).setCell ⟨b1, 2, none⟩ v2).setCell ⟨b1, 3, none⟩ v3).setCell ⟨b1, 4, none⟩ v4).setCell ⟨b1, 5, none⟩ v5).setCell ⟨b1, 6, none⟩ v6).setCell ⟨b1, 7, none⟩ v7).setCell ⟨b1, 8, none⟩ v8).setCell ⟨b1, 9, none⟩ v9).setCell ⟨b1, 10, none⟩ v10).setCell ⟨b1, 11, none⟩ v11).setCell ⟨b1, 12, none⟩ v12).setCell ⟨b1, 13, none⟩ v13)) := fun X D W v0 v1 v2 v3 v4 v5 v6 v7 v8 v9 v10 v11 v12 v13 hW => by
  subst hLo
  exact hW.ret14 E (.head _) (by omega)
 have ON : Hid (∀ (X : Sd) (D : Drm.Dr) W W', Cx SA TA BA f M w X a g D Lo W → Bz W W' → Cx SA TA BA f M w X a g D Lo W') := fun X D W W' hW hb => hW.on E hb
 have NW : Hid (∀ (X : Sd) (D : Drm.Dr) W cs, Cx SA TA BA f M w X a g D Lo W → Cx SA TA BA f M w X a g D ((W.heap.size, .cells cs 32 (0, 0)) :: Lo) (W.alloc (.cells cs 32 (0, 0)))) := fun X D W cs hW => hW.new E cs 32 (by decide)
 have CA : Hid (∀ W, Cx SA TA BA f M w X a g D Lo W → Calls Tryz.prog 47 #[.pointer (some ⟨f.sb, 0, none⟩), .int .u64 ph, .agg #[.int .i64 q.k, .int .u32 q.c, .int .u32 q.n, .int .u64 q.sp, .int .u32 q.sl, .int .u64 q.ap, .int .u32 q.al, .string (bs q.key), .string (bs q.hi), .int .i64 q.lim, .int .u8 q.pt, .slice wa q.ws.length wc, .slice sa q.sk.length sc]] W fun e w' => ∃ ao n cap, e = .returned (rpV (ansF ph q X a D).1 (.slice ao n cap)) ∧ Cx SA TA BA f M w (ansF ph q X a D).2.1 a g (ansF ph q X a D).2.2 Lo w' ∧ PrO W.heap.size (.slice ao n cap) (ansF ph q X a D).1.prs w') := fun W hW => by
  obtain ⟨M9, hM, h8, h7⟩ := hW.sh
  refine (ans47 E ph q wa wc sa sc hM ht hX hph hph2 hq (ws_next hi h8 hW.kp) (SkIn.kept hsi (fun h0 k hk => (hsn h0 k hk).1) hW.kp) (sk_next hsn h8 hW.kp.size) hr hk0).mono ?_
  rintro e w' ⟨ao, n, cap, rfl, ho, hs⟩
  exact ⟨ao, n, cap, rfl, hW.next h8 h7 hs, ho⟩
 have OS : Hid (∀ (X : Sd) (D : Drm.Dr) W0 W v' L (v0 v1 v2 v3 v4 v5 v6 v7 v8 v9 v10 v11 v12 v13 : Value), Cx SA TA BA f M w X a g D Lo W0 → PrO W0.heap.size v' L W → PrO w.heap.size v' L ((((((((((((((W.setCell ⟨b1, 0, none⟩ v0).setCell ⟨b1, 1, none⟩ v1).setCell ⟨b1, 2, none⟩ v2).setCell ⟨b1, 3, none⟩ v3).setCell ⟨b1, 4, none⟩ v4).setCell ⟨b1, 5, none⟩ v5).setCell ⟨b1, 6, none⟩ v6).setCell ⟨b1, 7, none⟩ v7).setCell ⟨b1, 8, none⟩ v8).setCell ⟨b1, 9, none⟩ v9).setCell ⟨b1, 10, none⟩ v10).setCell ⟨b1, 11, none⟩ v11).setCell ⟨b1, 12, none⟩ v12).setCell ⟨b1, 13, none⟩ v13)) := fun X D W0 W v' L v0 v1 v2 v3 v4 v5 v6 v7 v8 v9 v10 v11 v12 v13 h0 ho => by
  have hk : Kept (fun k => k = b1) W ((((((((((((((W.setCell ⟨b1, 0, none⟩ v0).setCell ⟨b1, 1, none⟩ v1).setCell ⟨b1, 2, none⟩ v2).setCell ⟨b1, 3, none⟩ v3).setCell ⟨b1, 4, none⟩ v4).setCell ⟨b1, 5, none⟩ v5).setCell ⟨b1, 6, none⟩ v6).setCell ⟨b1, 7, none⟩ v7).setCell ⟨b1, 8, none⟩ v8).setCell ⟨b1, 9, none⟩ v9).setCell ⟨b1, 10, none⟩ v10).setCell ⟨b1, 11, none⟩ v11).setCell ⟨b1, 12, none⟩ v12).setCell ⟨b1, 13, none⟩ v13) := kept14
  have hlt : b1 < W0.heap.size := lt_of_block (SP.out _ _ _ h0)
  refine own_kept (own_le ho (by omega)) hk (fun k hk' e => ?_)
  have := (World.ownsRow.lt ho k hk').1
  omega
 have SN : Hid (∀ (X : Sd) (D : Drm.Dr) W, Cx SA TA BA f M w X a g D Lo W → W.cell? ⟨f.sb, 7, none⟩ = some (.int .u64 X.np) ∧ W.cell? ⟨f.sb, 8, none⟩ = some (.int .u32 X.nl)) := fun X D W hW => ⟨hW.nums.2.2.1, hW.nums.2.2.2.1⟩
 have HL : Hid _ := HL0
 generalize handF ph q X a D = Y at *
 generalize (ansF ph q X a D) = H at *
 obtain ⟨hr9, Xh, Dh⟩ := H
 dsimp only at CA HL
 clear hLo h ht hX hph hph2 hq hi hsi hsn hr hk0 E HL0
 obtain ⟨W2, hW2⟩ : ∃ W2, (w.alloc (.cells #[.int .i64 q.k, .int .u32 q.c, .int .u32 q.n, .int .u64 q.sp, .int .u32 q.sl, .int .u64 q.ap, .int .u32 q.al, .string (bs q.key), .string (bs q.hi), .int .i64 q.lim, .int .u8 q.pt, .slice wa q.ws.length wc, .slice sa q.sk.length sc] 36)).alloc (.cells #[.int .i64 0, .int .i64 0, .bool false, .string ⟨#[]⟩, .slice none 0 0, .int .u32 0, .int .u32 0, .int .u64 0, .int .u32 0, .int .u64 0, .int .u32 0, .string ⟨#[]⟩, .int .u64 0, .int .u32 0] 43) = W2 := ⟨_, rfl⟩
 rw [hW2] at H0
 obtain ⟨c0, c1, c2, c3, c4, c5, c6, c7, c8, c9, c10, c11, c12⟩ := SB.out _ _ _ H0.out
 go_enter Tryz.func16, Tryz.ntmps16
 go_wp2_with fail
 rw [← hb1]
 clear hW2 hb1
 refine (CA.out _ H0.out).mono ?_
 rintro e w3 ⟨ao, n, cap, rfl, hq, ho⟩
 have H3 : Hid _ := hq
 have HO3 : Hid _ := ho
 clear hq ho CA c0 c1 c2 c3 c4 c5 c6 c7 c8 c9 c10 c11 c12
 unfold rpV
 have hob4 : (w3.alloc (.cells #[.int .i64 hr9.k, .int .i64 hr9.err, .bool hr9.found, .string (bs hr9.val), .slice ao n cap, .int .u32 hr9.c, .int .u32 hr9.n, .int .u64 hr9.sp, .int .u32 hr9.sl, .int .u64 hr9.ap, .int .u32 hr9.al, .string (bs hr9.prim), .int .u64 hr9.np, .int .u32 hr9.nl] 43)).heap[w3.heap.size]? = some (.cells #[.int .i64 hr9.k, .int .i64 hr9.err, .bool hr9.found, .string (bs hr9.val), .slice ao n cap, .int .u32 hr9.c, .int .u32 hr9.n, .int .u64 hr9.sp, .int .u32 hr9.sl, .int .u64 hr9.ap, .int .u32 hr9.al, .string (bs hr9.prim), .int .u64 hr9.np, .int .u32 hr9.nl] 43 (0, 0)) := heap_alloc_new w3 _
 have B4 : Hid (Bz w3 (w3.alloc (.cells #[.int .i64 hr9.k, .int .i64 hr9.err, .bool hr9.found, .string (bs hr9.val), .slice ao n cap, .int .u32 hr9.c, .int .u32 hr9.n, .int .u64 hr9.sp, .int .u32 hr9.sl, .int .u64 hr9.ap, .int .u32 hr9.al, .string (bs hr9.prim), .int .u64 hr9.np, .int .u32 hr9.nl] 43))) := (Below.refl _ _).alloc (Nat.le_refl _) _
 go_upto_region 4 with fail
 obtain ⟨W4, hW4⟩ : ∃ W4, w3.alloc (.cells #[.int .i64 hr9.k, .int .i64 hr9.err, .bool hr9.found, .string (bs hr9.val), .slice ao n cap, .int .u32 hr9.c, .int .u32 hr9.n, .int .u64 hr9.sp, .int .u32 hr9.sl, .int .u64 hr9.ap, .int .u32 hr9.al, .string (bs hr9.prim), .int .u64 hr9.np, .int .u32 hr9.nl] 43) = W4 := ⟨_, rfl⟩
 obtain ⟨b7, hb7⟩ : ∃ b7, w3.heap.size = b7 := ⟨_, rfl⟩
 have HB7 : Hid (w3.heap.size ≤ b7) := by rw [hb7]; exact Nat.le_refl _
 rw [hW4, hb7] at hob4
 rw [hW4] at B4
 rw [hW4, hb7]
 clear hW4 hb7
 have H4 : Hid _ := ON.out _ _ _ _ H3.out B4.out
 obtain ⟨n7, n8⟩ := SN.out _ _ _ H4.out
 obtain ⟨i0, i1, i2, i3, i4, i5, i6, i7, i8, i9, i10, i11, i12, i13, f0, f1, f2, f3, f4, f5, f6, f7, f8, f9, f10, f11, f12, f13⟩ := free14 hob4
 have hob5 : ((W4.setCell ⟨b7, 12, none⟩ (.int .u64 Xh.np)).setCell ⟨b7, 13, none⟩ (.int .u32 Xh.nl)).heap[b7]? = some (.cells #[.int .i64 hr9.k, .int .i64 hr9.err, .bool hr9.found, .string (bs hr9.val), .slice ao n cap, .int .u32 hr9.c, .int .u32 hr9.n, .int .u64 hr9.sp, .int .u32 hr9.sl, .int .u64 hr9.ap, .int .u32 hr9.al, .string (bs hr9.prim), .int .u64 Xh.np, .int .u32 Xh.nl] 43 (0, 0)) := Drm.blk_setCell (Drm.blk_setCell hob4)
 have B5 : Hid (Bz w3 ((W4.setCell ⟨b7, 12, none⟩ (.int .u64 Xh.np)).setCell ⟨b7, 13, none⟩ (.int .u32 Xh.nl))) := Bz.st (Bz.st B4.out HB7.out _ _) HB7.out _ _
 clear hob4
 go_upto_region 5 with fail
 obtain ⟨W5, hW5⟩ : ∃ W5, (W4.setCell ⟨b7, 12, none⟩ (.int .u64 Xh.np)).setCell ⟨b7, 13, none⟩ (.int .u32 Xh.nl) = W5 := ⟨_, rfl⟩
 rw [hW5] at hob5 B5 ⊢
 clear hW5 i0 i1 i2 i3 i4 i5 i6 i7 i8 i9 i10 i11 i12 i13 f0 f1 f2 f3 f4 f5 f6 f7 f8 f9 f10 f11 f12 f13 n7 n8
 have H5 : Hid _ := ON.out _ _ _ _ H3.out B5.out
 have HO5 : Hid (PrO W2.heap.size (.slice ao n cap) hr9.prs W5) := own_on HO3.out B5.out
 obtain ⟨i0, i1, i2, i3, i4, i5, i6, i7, i8, i9, i10, i11, i12, i13, -⟩ := free14 hob5
 clear hob5 H4
 obtain ⟨z0, z1, z2, z3, z4, z5, z6, z7, z8, z9, z10, z11, z12, z13, g0, g1, g2, g3, g4, g5, g6, g7, g8, g9, g10, g11, g12, g13⟩ := free14 (SP.out _ _ _ H5.out)
 go_wp2_with fail
 refine bodyPost_ret (res14 rfl rfl rfl (set14 (SP.out _ _ _ H5.out))) rfl ?_
 rw [HL.out]
 exact ⟨_, _, _, rfl, OS.out _ _ _ _ _ _ _ _ _ _ _ _ _ _ _ _ _ _ _ _ H0.out HO5.out, HR.out _ _ _ _ _ _ _ _ _ _ _ _ _ _ _ _ _ H5.out⟩
end Go.Proofs.YtajjnmdomabmkaaGreat
namespace Go.Proofs.YtajjnmdomabmkaaGreat
open Go.RowKit
variable {w W : World}
theorem items22n (w : World) : Calls Tryz.prog 22 #[.pointer none] w fun e w' => e = .returned (.slice none 0 0) ∧ w = w' := by
 go_enter Tryz.func22, Tryz.ntmps22
 go_wp2
 go_ret
 exact ⟨rfl, rfl⟩
theorem intents25n (w : World) : Calls Tryz.prog 25 #[.pointer none] w fun e w' => e = .returned (.slice none 0 0) ∧ w = w' := by
 go_enter Tryz.func25, Tryz.ntmps25
 go_wp2
 go_ret
 exact ⟨rfl, rfl⟩
theorem verdicts26n (w : World) : Calls Tryz.prog 26 #[.pointer none] w fun e w' => e = .returned (.slice none 0 0) ∧ w = w' := by
 go_enter Tryz.func26, Tryz.ntmps26
 go_wp2
 go_ret
 exact ⟨rfl, rfl⟩
theorem renew19n (w : World) : Calls Tryz.prog 19 #[.pointer none] w fun e w' => e = .returned (.int .i64 11) ∧ w = w' := by
 go_enter Tryz.func19, Tryz.ntmps19
 go_wp2
 go_ret
 exact ⟨rfl, rfl⟩
theorem safe21n (w : World) : Calls Tryz.prog 21 #[.pointer none] w fun e w' => e = .returned (.agg #[.int .u64 0, .int .u32 0]) ∧ Below w.heap.size w w' := by
 go_enter Tryz.func21, Tryz.ntmps21
 go_wp2
 (try simp only [Exit.inBlock, Exit.then])
 refine bodyPost_ret (results_cell_row rfl _ _ w.heap.size 32 _ (0, 0) _ rfl (heap_alloc_new w _) Tryz.underlying32 rfl (by kernel_rfl)) rfl ?_
 exact ⟨rfl, (Below.refl _ _).alloc (Nat.le_refl _) _⟩
theorem clock27n (w : World) : Calls Tryz.prog 27 #[.pointer none] w fun e w' => e = .returned (.agg #[.int .u64 0, .int .u32 0]) ∧ Below w.heap.size w w' := by
 go_enter Tryz.func27, Tryz.ntmps27
 go_wp2
 (try simp only [Exit.inBlock, Exit.then])
 refine bodyPost_ret (results_cell_row rfl _ _ w.heap.size 32 _ (0, 0) _ rfl (heap_alloc_new w _) Tryz.underlying32 rfl (by kernel_rfl)) rfl ?_
 exact ⟨rfl, (Below.refl _ _).alloc (Nat.le_refl _) _⟩
theorem bound28n (w : World) : Calls Tryz.prog 28 #[.pointer none] w fun e w' => e = .returned (.agg #[.int .u64 0, .int .u32 0]) ∧ Below w.heap.size w w' := by
 go_enter Tryz.func28, Tryz.ntmps28
 go_wp2
 (try simp only [Exit.inBlock, Exit.then])
 refine bodyPost_ret (results_cell_row rfl _ _ w.heap.size 32 _ (0, 0) _ rfl (heap_alloc_new w _) Tryz.underlying32 rfl (by kernel_rfl)) rfl ?_
 exact ⟨rfl, (Below.refl _ _).alloc (Nat.le_refl _) _⟩
theorem handle16n (ph : Int) (q : Rq) (wa : Option Addr) (wc : Nat) (sa : Option Addr) (sc : Nat) (w : World) : Calls Tryz.prog 16 #[.pointer none, .int .u64 ph, .agg #[.int .i64 q.k, .int .u32 q.c, .int .u32 q.n, .int .u64 q.sp, .int .u32 q.sl, .int .u64 q.ap, .int .u32 q.al, .string (bs q.key), .string (bs q.hi), .int .i64 q.lim, .int .u8 q.pt, .slice wa q.ws.length wc, .slice sa q.sk.length sc]] w fun e w' => e = .returned (rpV (refR 11) (.slice none 0 0)) ∧ Below w.heap.size w w' := by
 have CR : Hid (∀ W : World, 1 = 1 → Calls Tryz.prog 46 #[.int .i64 11] W fun r w' => r = .returned (.agg #[.int .i64 0, .int .i64 11, .bool false, .string ⟨#[]⟩, .slice none 0 0, .int .u32 0, .int .u32 0, .int .u64 0, .int .u32 0, .int .u64 0, .int .u32 0, .string ⟨#[]⟩, .int .u64 0, .int .u32 0]) ∧ Below W.heap.size W w') := fun W _ => refused46 11 W
 obtain ⟨W0, hW0⟩ : ∃ W, w.alloc (.cells #[.int .i64 q.k, .int .u32 q.c, .int .u32 q.n, .int .u64 q.sp, .int .u32 q.sl, .int .u64 q.ap, .int .u32 q.al, .string (bs q.key), .string (bs q.hi), .int .i64 q.lim, .int .u8 q.pt, .slice wa q.ws.length wc, .slice sa q.sk.length sc] 36) = W := ⟨_, rfl⟩
 obtain ⟨W1, hW1⟩ : ∃ W, W0.alloc (.cells #[.int .i64 0, .int .i64 0, .bool false, .string ⟨#[]⟩, .slice none 0 0, .int .u32 0, .int .u32 0, .int .u64 0, .int .u32 0, .int .u64 0, .int .u32 0, .string ⟨#[]⟩, .int .u64 0, .int .u32 0] 43) = W := ⟨_, rfl⟩
 obtain ⟨b, hb⟩ : ∃ b, W0.heap.size = b := ⟨_, rfl⟩
 have hs : W0.heap.size = w.heap.size + 1 := by rw [← hW0]; exact size_al2 w
 have X1 : Hid (Below w.heap.size w W1 ∧ W1.heap[b]? = some (.cells #[.int .i64 0, .int .i64 0, .bool false, .string ⟨#[]⟩, .slice none 0 0, .int .u32 0, .int .u32 0, .int .u64 0, .int .u32 0, .int .u64 0, .int .u32 0, .string ⟨#[]⟩, .int .u64 0, .int .u32 0] 43 (0, 0)) ∧ w.heap.size ≤ b) := by
  refine ⟨?_, ?_, by omega⟩
  ·rw [← hW1, ← hW0]; exact ((Below.refl _ _).alloc (Nat.le_refl _) _).alloc (by simp) _
  ·rw [← hW1, ← hb]; exact heap_alloc_new W0 _
 have hb2 : w.heap.size + 1 = b := by omega
 clear hs
 go_enter Tryz.func16, Tryz.ntmps16
 go_wp2_with fail
 refine (CR.out _ (by trivial)).mono ?_
 rintro e w2 ⟨rfl, hb3⟩
 have X2 : Hid (Below w.heap.size w w2 ∧ w2.heap[b]? = some (.cells #[.int .i64 0, .int .i64 0, .bool false, .string ⟨#[]⟩, .slice none 0 0, .int .u32 0, .int .u32 0, .int .u64 0, .int .u32 0, .int .u64 0, .int .u32 0, .string ⟨#[]⟩, .int .u64 0, .int .u32 0] 43 (0, 0)) ∧ w.heap.size ≤ b) := ⟨X1.out.1.trans (hb3.mono X1.out.1.size), by rw [hb3.block b (lt_of_block X1.out.2.1)]; exact X1.out.2.1, X1.out.2.2⟩
 clear hb3 CR X1 hW0 hW1
 go_wp2_with (refine wpList_store_row rfl 43 _ _ rfl b #[.int .i64 0, .int .i64 11, .bool false, .string ⟨#[]⟩, .slice none 0 0, .int .u32 0, .int .u32 0, .int .u64 0, .int .u32 0, .int .u64 0, .int .u32 0, .string ⟨#[]⟩, .int .u64 0, .int .u32 0] rfl rfl 43 _ X2.out.2.1 (by kernel_rfl) rfl (by simp [Value.oneCell']) ?_)
 (try simp only [Exit.inBlock, Exit.then])
 refine bodyPost_ret (results_cell_row rfl _ _ b 43 _ (0, 0) _ rfl (setRow_heap _ b _ _ 43 (0, 0) X2.out.2.1) Tryz.underlying43 rfl (by kernel_rfl)) rfl ?_
 refine ⟨rfl, X2.out.1.trans ?_⟩
 exact ⟨rfl, rfl, rfl, by rw [size_setRow]; exact Nat.le_refl _, fun k hk => setRow_other w2 b k _ (by have := X2.out.2.2; omega)⟩
end Go.Proofs.YtajjnmdomabmkaaGreat
namespace Go.Proofs.YtajjnmdomabmkaaGreat
open Go.RowKit
open Lgs in
theorem cut68_new (pb : Nat) (D : Drm.Dr) (hn : ∀ i, D.has i = false) (w : World) (hD : Drm.DrumAt pb D w) : Calls Tryz.prog 68 #[.pointer (some ⟨pb, 0, none⟩), .int .i64 (-1)] w fun e w' => e = .returned (.int .i64 0) ∧ w = w' := by
 have HH : Hid (∀ k : Int, 1 = 1 → Calls Tryz.prog 142 #[.pointer (some ⟨pb, 0, none⟩), .int .i64 k] w fun e w' => e = .returned (.bool false) ∧ w = w') := fun k _ => by
  have := Drm.has15 pb D k w hD
  rw [hn] at this
  exact this
 clear hD hn
 go_enter Tryz.func68, Tryz.ntmps68
 go_wp2_with fail
 go_loopw [7] (fun i wr => ∃ k : Nat, k ≤ 4 ∧ i = .int .i64 k ∧ wr = w) (fun i _ => 4 - (intOf i).toNat)
 case atStart => exact ⟨0, by omega, rfl, rfl⟩
 case round =>
  obtain ⟨k, hk, rfl, rfl⟩ := hrel
  by_cases hlt : k < 4
  ·have hlt' : (k : Int) < 4 := by omega
   have hne : ((k : Int) == -1) = false := by rw [beq_eq_false_iff_ne]; omega
   go_wp2_with fail
   refine (HH.out _ (by trivial)).mono ?_
   rintro e w' ⟨rfl, rfl⟩
   go_wp2_with fail
   go_roundw
   case rel => exact ⟨k + 1, by omega, by go_num, by trivial⟩
   case measure => simp [intOf]; omega
  ·have hlt' : ¬ (k : Int) < 4 := by omega
   go_wp2_with fail
   go_ret
   exact ⟨rfl, rfl⟩
open Lgs in
theorem newest67_new (pb : Nat) (D : Drm.Dr) (hn : ∀ i, D.has i = false) (w : World) (hD : Drm.DrumAt pb D w) : Calls Tryz.prog 67 #[.pointer (some ⟨pb, 0, none⟩)] w fun e w' => e = .returned (.tuple #[.int .i64 (-1), .agg #[.int .u64 0, .slice none 0 0, .int .i64 0, .int .i64 0], .int .i64 0]) ∧ Below w.heap.size w w' := by
 have HH : Hid (∀ (k : Int) (W : World), Below w.heap.size w W → Calls Tryz.prog 142 #[.pointer (some ⟨pb, 0, none⟩), .int .i64 k] W fun e w' => e = .returned (.bool false) ∧ W = w') := fun k W hb => by
  have := Drm.has15 pb D k W (hD.on hb)
  rw [hn] at this
  exact this
 clear hD hn
 go_enter Tryz.func67, Tryz.ntmps67
 go_wp2_with fail
 obtain ⟨rb, hrb⟩ : ∃ rb, rb = w.heap.size := ⟨_, rfl⟩
 have HRB : Hid (rb = w.heap.size) := hrb
 rw [← hrb]
 have hw0 : CtIn rb (.int .u64 0) (.slice none 0 0) (.int .i64 0) (.int .i64 0) ((w.alloc (.cells #[.int .u64 0, .slice none 0 0, .int .i64 0, .int .i64 0] 153)).alloc (.cells #[.int .u64 0, .slice none 0 0, .int .i64 0, .int .i64 0] 153)) := by
  unfold CtIn
  rw [Below.heap_alloc _ _ rb (by rw [hrb]; simp), hrb]
  exact heap_alloc_new w _
 have hw1 : CtIn (rb + 1) (.int .u64 0) (.slice none 0 0) (.int .i64 0) (.int .i64 0) ((w.alloc (.cells #[.int .u64 0, .slice none 0 0, .int .i64 0, .int .i64 0] 153)).alloc (.cells #[.int .u64 0, .slice none 0 0, .int .i64 0, .int .i64 0] 153)) := by
  rw [hrb]
  exact heap_alloc2_new w _ _
 have hb0 : Below rb w ((w.alloc (.cells #[.int .u64 0, .slice none 0 0, .int .i64 0, .int .i64 0] 153)).alloc (.cells #[.int .u64 0, .slice none 0 0, .int .i64 0, .int .i64 0] 153)) := by
  rw [hrb]
  exact ((Below.refl _ _).alloc (Nat.le_refl _) _).alloc (by simp) _
 generalize (w.alloc (.cells #[.int .u64 0, .slice none 0 0, .int .i64 0, .int .i64 0] 153)).alloc (.cells #[.int .u64 0, .slice none 0 0, .int .i64 0, .int .i64 0] 153) = w0 at hw0 hw1 hb0 ⊢
 have H0 : Hid (CtIn rb (.int .u64 0) (.slice none 0 0) (.int .i64 0) (.int .i64 0) w0 ∧ CtIn (rb + 1) (.int .u64 0) (.slice none 0 0) (.int .i64 0) (.int .i64 0) w0 ∧ Below rb w w0) := ⟨hw0, hw1, hb0⟩
 have HH0 : Hid (∀ k : Int, 1 = 1 → Calls Tryz.prog 142 #[.pointer (some ⟨pb, 0, none⟩), .int .i64 k] w0 fun e w' => e = .returned (.bool false) ∧ w0 = w') := fun k _ => HH.out k w0 (by rw [← HRB.out]; exact H0.out.2.2)
 clear hw0 hw1 hb0 hrb HH
 go_wp2_with fail
 go_loopw [5, 12] (fun a i wr => a = .int .i64 (-1) ∧ ∃ k : Nat, k ≤ 4 ∧ i = .int .i64 k ∧ wr = w0) (fun _ i _ => 4 - (intOf i).toNat)
 case atStart => exact ⟨rfl, 0, by omega, rfl, rfl⟩
 case round =>
  obtain ⟨rfl, k, hk, rfl, rfl⟩ := hrel
  by_cases hlt : k < 4
  ·have hlt' : (k : Int) < 4 := by omega
   go_wp2_with fail
   refine (HH0.out _ (by trivial)).mono ?_
   rintro e w' ⟨rfl, rfl⟩
   go_wp2_with fail
   go_roundw
   case rel => exact ⟨rfl, k + 1, by omega, by go_num, by trivial⟩
   case measure => simp [intOf]; omega
  ·have hlt' : ¬ (k : Int) < 4 := by omega
   obtain ⟨f0, f1, f2, f3, ff⟩ := H0.out.2.1.cells
   obtain ⟨r0, r1, r2, r3, rf⟩ := H0.out.1.cells
   go_wp2_with fail
   go_region
   go_wp2_with fail
   (try simp only [Exit.inBlock, Exit.then])
   refine bodyPost_ret (results_new (cb := rb) (w := (set4 wr rb (.int .u64 0) (.slice none 0 0) (.int .i64 0) (.int .i64 0)).drew) (set4_ct H0.out.1 (.int .u64 0) (.slice none 0 0) (.int .i64 0) (.int .i64 0)) rfl) rfl ?_
   rw [← HRB.out]
   exact ⟨rfl, (set4_below H0.out.2.2 (by omega) (.int .u64 0) (.slice none 0 0) (.int .i64 0) (.int .i64 0)).drew⟩
open Lgs in
theorem open39_new (pb : Nat) (D D' : Drm.Dr) (hn : ∀ i, D.has i = false) (w : World) (hD : Drm.DrumAt pb D w) (hOk : D.Ok) (hy : layF D 0 1 [] = (0, D')) : Calls Tryz.prog 39 #[.pointer (some ⟨pb, 0, none⟩)] w fun e w' => ∃ lb, e = .returned (.tuple #[.pointer (some ⟨lb, 0, none⟩), .slice none 0 0, .int .i64 0]) ∧ LgAt lb pb 0 1 D' w' ∧ Below pb w w' := by
 have hlt := hD.lt
 have HNw : Hid (1 = 1 → _) := fun _ => newest67_new pb D hn w hD
 have HC : Hid (∀ W : World, Drm.DrumAt pb D W → _) := fun W h => cut68_new pb D hn W h
 have HLy : Hid (∀ W : World, Drm.DrumAt pb D W → Calls Tryz.prog 69 #[.pointer (some ⟨pb, 0, none⟩), .int .i64 0, .int .u64 1, .slice none 0 0] W fun e w' => e = .returned (.int .i64 0) ∧ Drm.DrumAt pb D' w' ∧ Drm.Kept pb W w') := fun W h => by
  have := lay28 pb D 0 1 [] (.slice none 0 0) W h hOk (by decide) (fun _ h => by cases h) (by simp) (StrsAt.nil pb W)
  rw [hy] at this
  exact this
 have HD : Hid (Drm.DrumAt pb D w) := hD
 clear hD hOk hy hn
 go_enter Tryz.func39, Tryz.ntmps39
 go_wp2_with fail
 refine (HNw.out (by trivial)).mono ?_
 rintro e w1 ⟨rfl, hb1⟩
 have HB1 : Hid (Below w.heap.size w w1) := hb1
 have HLT : Hid (pb < w.heap.size) := hlt
 clear hb1 hlt HNw
 go_upto_region 2 with fail
 have hct : CtIn w1.heap.size (.int .u64 0) (.slice none 0 0) (.int .i64 0) (.int .i64 0) (w1.alloc (.cells #[.int .u64 0, .slice none 0 0, .int .i64 0, .int .i64 0] 153)) := heap_alloc_new w1 _
 have H2 : Hid (CtIn w1.heap.size (.int .u64 0) (.slice none 0 0) (.int .i64 0) (.int .i64 0) (w1.alloc (.cells #[.int .u64 0, .slice none 0 0, .int .i64 0, .int .i64 0] 153)) ∧ Drm.DrumAt pb D (w1.alloc (.cells #[.int .u64 0, .slice none 0 0, .int .i64 0, .int .i64 0] 153)) ∧ Below w.heap.size w (w1.alloc (.cells #[.int .u64 0, .slice none 0 0, .int .i64 0, .int .i64 0] 153)) ∧ w.heap.size ≤ w1.heap.size) := ⟨hct, HD.out.on (HB1.out.alloc HB1.out.size _), HB1.out.alloc HB1.out.size _, HB1.out.size⟩
 clear hct
 obtain ⟨W2, hW2⟩ : ∃ W2, w1.alloc (.cells #[.int .u64 0, .slice none 0 0, .int .i64 0, .int .i64 0] 153) = W2 := ⟨_, rfl⟩
 obtain ⟨cb, hcb⟩ : ∃ cb, w1.heap.size = cb := ⟨_, rfl⟩
 rw [hW2, hcb] at H2
 rw [hW2, hcb]
 clear hW2 hcb HB1 HD
 have HCP : Hid (cb ≠ pb) := by have := H2.out.2.2.2; have := HLT.out; exact (by omega : cb ≠ pb)
 obtain ⟨c0, c1, c2, c3, cf⟩ := H2.out.1.cells
 go_wp2_with fail
 refine (HC.out _ H2.out.2.1).mono ?_
 rintro e w' ⟨rfl, rfl⟩
 have hct3 := H2.out.1.set0 (.int .u64 1)
 obtain ⟨d0, d1, d2, d3, df⟩ := hct3.cells
 have hD3 : Drm.DrumAt pb D (W2.setCell ⟨cb, 0, none⟩ (.int .u64 1)) := H2.out.2.1.store H2.out.1 HCP.out (by decide) _ _
 have H3 : Hid (CtIn cb (.int .u64 1) (.slice none 0 0) (.int .i64 0) (.int .i64 0) (W2.setCell ⟨cb, 0, none⟩ (.int .u64 1)) ∧ Drm.DrumAt pb D (W2.setCell ⟨cb, 0, none⟩ (.int .u64 1)) ∧ Below w.heap.size w (W2.setCell ⟨cb, 0, none⟩ (.int .u64 1))) := ⟨hct3, hD3, H2.out.2.2.1.setCell (p := ⟨cb, 0, none⟩) H2.out.2.2.2 _⟩
 clear hct3 hD3 HC
 go_wp2_with fail
 refine (HLy.out _ H3.out.2.1).mono ?_
 rintro e w4 ⟨rfl, hD4, k4⟩
 have H4 : Hid (CtIn cb (.int .u64 1) (.slice none 0 0) (.int .i64 0) (.int .i64 0) w4 ∧ Drm.DrumAt pb D' w4 ∧ Below pb w w4) := ⟨H3.out.1.kept HCP.out k4, hD4, (H3.out.2.2.mono (Nat.le_of_lt HLT.out)).trans k4.below⟩
 clear hD4 k4 HLy H2 c0 c1 c2 c3 cf d0 d1 d2 d3 df
 obtain ⟨e0, e1, e2, e3, ef⟩ := H4.out.1.cells
 have eal : (w4.alloc (.cells #[.pointer (some ⟨pb, 0, none⟩), .int .i64 0, .int .u64 1] 160)).cell? ⟨cb, 1, none⟩ = some (.slice none 0 0) := (H4.out.1.on ((Below.refl _ _).alloc (Nat.le_refl _) _)).cells.2.1
 go_wp2_with fail
 go_region
 go_wp2_with fail
 go_ret3
 refine ⟨w4.heap.size, rfl, ⟨heap_alloc_new w4 _, (H4.out.2.1.alloc _).drew, H4.out.2.1.lt⟩, (H4.out.2.2.alloc (Nat.le_of_lt H4.out.2.1.lt) _).drew⟩
end Go.Proofs.YtajjnmdomabmkaaGreat
namespace Go.Proofs.YtajjnmdomabmkaaGreat
open Go.RowKit
variable {SA : Nat → Nat → (Nat → Prop) → Sto.Sk → World → Prop} {TA : Nat → Nat → (Nat → Prop) → Lat.Tb → World → Prop} {BA : Nat → Nat → (Nat → Prop) → Ver.Bk → World → Prop}
variable {f : Fp} {M : Nat → Prop} {X : Sd} {a : Int} {g : Nat} {D : Drm.Dr} {w W W' : World} {Lo : List (Nat × Obj)}
theorem wake45_new (E : Env SA TA BA) (h : ShAt SA TA BA f M Sd.new a g D w) : Calls Tryz.prog 45 #[.pointer (some ⟨f.sb, 0, none⟩)] w fun e w' => e = .returned (.tuple #[]) ∧ ShTo SA TA BA f M w Sd.new a g D w' := by
 have H0 : Hid (Cx SA TA BA f M w Sd.new a g D [] w) := Cx.start h
 have CN : Hid (∀ W, Cx SA TA BA f M w Sd.new a g D [] W → Calls Tryz.prog 89 #[.agg #[.int .u64 0, .int .u32 0]] W fun r w' => r = .returned (.tuple #[.agg #[.int .u64 0, .int .u32 1], .int .i64 0]) ∧ Cx SA TA BA f M w Sd.new a g D [] w') := fun W hW => (Clk.next19 0 0 W (Int.le_refl 0) (Int.le_refl 0)).mono fun r w' h => ⟨h.1, hW.on E h.2⟩
 have CA : Hid (∀ W, Cx SA TA BA f M w Sd.new a g D [] W → Calls Tryz.prog 56 #[.pointer (some ⟨f.la, 0, none⟩)] W fun e w' => (∃ ao cap, e = .returned (.slice ao 0 cap)) ∧ Cx SA TA BA f M w Sd.new a g D [] w') := fun W hW => by
  refine (hW.reads E (R := fun e w' => ∃ ao cap, e = .returned (.slice ao 0 cap)) fun M' hM => ?_).mono fun e w' h => ⟨h.1, h.2.1⟩
  refine (sh_iall E hM (by show (0 : Nat) < _; omega)).mono ?_
  rintro e w' ⟨v', rfl, hi, -, hb⟩
  obtain ⟨ao, cap, rfl, -⟩ := hi
  exact ⟨⟨ao, cap, rfl⟩, hb⟩
 have HN : Hid (∀ W, Cx SA TA BA f M w Sd.new a g D [] W → Cx SA TA BA f M w Sd.new a g D [] ((W.setCell ⟨f.sb, 7, none⟩ (.int .u64 0)).setCell ⟨f.sb, 8, none⟩ (.int .u32 0))) := fun W hW => hW.setNow E 0 0
 have HA : Hid (∀ W, Cx SA TA BA f M w Sd.new a g D [] W → Cx SA TA BA f M w Sd.new a g D [] (W.alloc (.cells #[.int .u64 0, .int .u32 1] 32))) := fun W hW => hW.on E (al _)
 have HC : Hid (∀ W, Cx SA TA BA f M w Sd.new a g D [] W → W.cell? ⟨f.sb, 3, none⟩ = some (.pointer (some ⟨f.la, 0, none⟩)) ∧ W.cell? ⟨f.sb, 9, none⟩ = some (.int .u64 0) ∧ W.cell? ⟨f.sb, 10, none⟩ = some (.int .u32 0) ∧ W.cell? ⟨f.sb, 7, none⟩ = some (.int .u64 0) ∧ W.cell? ⟨f.sb, 8, none⟩ = some (.int .u32 0) ∧ W.frozen? ⟨f.sb, 7, none⟩ = false ∧ W.frozen? ⟨f.sb, 8, none⟩ = false) := fun W hW => ⟨hW.ptrs.2.2.2.1, hW.nums.2.2.2.2.1, hW.nums.2.2.2.2.2, hW.nums.2.2.1, hW.nums.2.2.2.1, hW.free _, hW.free _⟩
 have HE : Hid (∀ W, Cx SA TA BA f M w Sd.new a g D [] W → ShTo SA TA BA f M w Sd.new a g D W) := fun W hW => hW.to
 clear h E
 generalize f.sb = sb at *
 generalize f.la = la at *
 obtain ⟨c3, c9, c10, c7, c8, f7, f8⟩ := HC.out _ H0.out
 go_enter Tryz.func45, Tryz.ntmps45
 go_upto_region 1 with fail
 have H1 : Hid _ := HN.out _ H0.out
 obtain ⟨W1, hW1⟩ : ∃ W1, (w.setCell ⟨sb, 7, none⟩ (.int .u64 0)).setCell ⟨sb, 8, none⟩ (.int .u32 0) = W1 := ⟨_, rfl⟩
 rw [hW1] at H1 ⊢
 clear hW1 c3 c9 c10 c7 c8 f7 f8 H0
 obtain ⟨c3, c9, c10, c7, c8, f7, f8⟩ := HC.out _ H1.out
 go_wp2_with fail
 refine (CN.out _ H1.out).mono ?_
 rintro e w2 ⟨rfl, h2⟩
 have H2 : Hid _ := h2
 clear h2 H1 c3 c9 c10 c7 c8 f7 f8
 go_upto_region 2 with fail
 have H3 : Hid _ := HA.out _ H2.out
 obtain ⟨W3, hW3⟩ : ∃ W3, w2.alloc (.cells #[.int .u64 0, .int .u32 1] 32) = W3 := ⟨_, rfl⟩
 rw [hW3] at H3 ⊢
 clear hW3 H2
 obtain ⟨c3, c9, c10, c7, c8, f7, f8⟩ := HC.out _ H3.out
 go_wp2_with fail
 refine (CA.out _ H3.out).mono ?_
 rintro e w4 ⟨⟨ao, cap, rfl⟩, h4⟩
 have H4 : Hid _ := h4
 clear h4 H3 c3 c9 c10 c7 c8 f7 f8
 go_wp2_with fail
 go_loopw [33] (fun i wr => i = .int .i64 0 ∧ wr = w4) (fun _ _ => 0)
 case atStart => exact ⟨rfl, rfl⟩
 case round =>
  obtain ⟨rfl, rfl⟩ := hrel
  go_wp2_with fail
  go_end0
  exact ⟨rfl, HE.out _ H4.out⟩
theorem open15_new (E : Env SA TA BA) (pb : Nat) (D0 : Drm.Dr) (hD : Drm.DrumAt pb D0 w) (hOk : D0.Ok) (hn : ∀ i, D0.has i = false) (hy : Lgs.layF D0 0 1 [] = (0, D)) (hok1 : D.Ok) :
  Calls Tryz.prog 15 #[.pointer (some ⟨pb, 0, none⟩)] w fun e w' => ∃ f M, e = .returned (.tuple #[.pointer (some ⟨f.sb, 0, none⟩), .int .i64 0]) ∧ ShAt SA TA BA f M Sd.new 0 1 D w' ∧ f.B = pb ∧ Below pb w w' := by
 have hplt := hD.lt
 have CO : Hid (1 = 1 → Calls Tryz.prog 39 #[.pointer (some ⟨pb, 0, none⟩)] w fun e w' => ∃ lb ao cp, e = .returned (.tuple #[.pointer (some ⟨lb, 0, none⟩), .slice ao 0 cp, .int .i64 0]) ∧ Lgs.LgAt lb pb 0 1 D w' ∧ Below pb w w') := fun _ => by
  refine (open39_new pb D0 D hn w hD hOk hy).mono ?_
  rintro e w' ⟨lb, rfl, h1, h4⟩
  exact ⟨lb, _, _, rfl, h1, h4⟩
 have CS : Hid (∀ W : World, 1 = 1 → _) := fun W _ => E.I.new W
 have CT : Hid (∀ W : World, 1 = 1 → _) := fun W _ => E.J.new W
 have CV : Hid (∀ W : World, 1 = 1 → _) := fun W _ => E.V.new W
 have CK : Hid (∀ (f : Fp) M W, ShAt SA TA BA f M Sd.new 0 1 D W → Calls Tryz.prog 45 #[.pointer (some ⟨f.sb, 0, none⟩)] W fun e w' => e = .returned (.tuple #[]) ∧ ShTo SA TA BA f M W Sd.new 0 1 D w') := fun f M W h => wake45_new E h
 have MK : Hid (∀ (lb st la ve : Nat) (M1 M2 M3 : Nat → Prop) (w1 w2 w3 w4 : World), Lgs.LgAt lb pb 0 1 D w1 → SA w1.heap.size st M1 [] w2 → Below w1.heap.size w1 w2 → TA w2.heap.size la M2 [] w3 → Below w2.heap.size w2 w3 → BA w3.heap.size ve M3 [] w4 → Below w3.heap.size w3 w4 → ∃ M, ShAt SA TA BA ⟨pb, w4.heap.size, pb, lb, st, la, ve, w1.heap.size, w2.heap.size, w3.heap.size⟩ M Sd.new 0 1 D (w4.alloc (.cells #[.pointer (some ⟨pb, 0, none⟩), .pointer (some ⟨lb, 0, none⟩), .pointer (some ⟨st, 0, none⟩), .pointer (some ⟨la, 0, none⟩), .pointer (some ⟨ve, 0, none⟩), .int .u64 0, .int .u32 0, .int .u64 0, .int .u32 0, .int .u64 0, .int .u32 0] 122))) := fun lb st la ve M1 M2 M3 w1 w2 w3 w4 h1 h2 b2 h3 b3 h4 b4 => by
  have kA := al (W := w4) (.cells #[.pointer (some ⟨pb, 0, none⟩), .pointer (some ⟨lb, 0, none⟩), .pointer (some ⟨st, 0, none⟩), .pointer (some ⟨la, 0, none⟩), .pointer (some ⟨ve, 0, none⟩), .int .u64 0, .int .u32 0, .int .u64 0, .int .u32 0, .int .u64 0, .int .u32 0] 122)
  have b24 : Below w2.heap.size w2 (w4.alloc (.cells #[.pointer (some ⟨pb, 0, none⟩), .pointer (some ⟨lb, 0, none⟩), .pointer (some ⟨st, 0, none⟩), .pointer (some ⟨la, 0, none⟩), .pointer (some ⟨ve, 0, none⟩), .int .u64 0, .int .u32 0, .int .u64 0, .int .u32 0, .int .u64 0, .int .u32 0] 122)) := b3.trans ((b4.trans (kA.mono b4.size)).mono b3.size)
  have b34 : Below w3.heap.size w3 (w4.alloc (.cells #[.pointer (some ⟨pb, 0, none⟩), .pointer (some ⟨lb, 0, none⟩), .pointer (some ⟨st, 0, none⟩), .pointer (some ⟨la, 0, none⟩), .pointer (some ⟨ve, 0, none⟩), .int .u64 0, .int .u32 0, .int .u64 0, .int .u32 0, .int .u64 0, .int .u32 0] 122)) := b4.trans (kA.mono b4.size)
  have b14 : Below w1.heap.size w1 (w4.alloc (.cells #[.pointer (some ⟨pb, 0, none⟩), .pointer (some ⟨lb, 0, none⟩), .pointer (some ⟨st, 0, none⟩), .pointer (some ⟨la, 0, none⟩), .pointer (some ⟨ve, 0, none⟩), .int .u64 0, .int .u32 0, .int .u64 0, .int .u32 0, .int .u64 0, .int .u32 0] 122)) := b2.trans (b24.mono b2.size)
  have s12 := b2.size
  have s23 := b3.size
  have s34 := b4.size
  have hlb := Lgs.LbAt.lt h1.blk
  have hpl := h1.ne
  have e1 := E.I.lt h2
  have e2 := E.J.lt h3
  have e3 := E.V.lt h4
  refine ⟨_, M1, M2, M3, ⟨heap_alloc_new w4 _, lg_kept h1 (Kept.of_below (F := fun _ => False) b14) (fun h => h) (fun h => h) (fun _ _ _ h => h), hok1, E.I.keep h2 (Kept.of_below (F := fun _ => False) b24) (fun _ _ h => h) (fun _ h => h.elim), E.J.keep h3 (Kept.of_below (F := fun _ => False) b34) (fun _ _ h => h), E.V.keep h4 (Kept.of_below (F := fun _ => False) kA) (fun _ _ h => h), fun k m1 m2 => ?_, fun k m1 m3 => ?_, fun k m2 m3 => ?_, fun k hk => ?_, ⟨?_, ?_⟩, ⟨?_, ?_, ?_, ?_, ?_⟩⟩, rfl⟩
  ·have := e1 k m1; have := e2 k m2; omega
  ·have := e1 k m1; have := e3 k m3; omega
  ·have := e2 k m2; have := e3 k m3; omega
  ·show k ≠ w4.heap.size ∧ k ≠ lb ∧ k ≠ pb
   rcases hk with hk | hk | hk
   ·have := e1 k hk; exact ⟨by omega, by omega, by omega⟩
   ·have := e2 k hk; exact ⟨by omega, by omega, by omega⟩
   ·have := e3 k hk; exact ⟨by omega, by omega, by omega⟩
  all_goals (dsimp only; omega)
 have EB : Hid (∀ (f : Fp) M W (W' : World), ShAt SA TA BA f M Sd.new 0 1 D W → ShTo SA TA BA f M W Sd.new 0 1 D W' → f.B = pb → ∃ M', ShAt SA TA BA f M' Sd.new 0 1 D W' ∧ Below pb W W') := fun f M W W' h1 h2 h3 => by
  obtain ⟨M', h4, h5, -⟩ := h2
  refine ⟨M', h4, h5.below ?_ (fun k hk => by rw [← h3]; exact h1.lo E hk)⟩
  obtain ⟨M1, M2, M3, hc, -⟩ := h1
  have := lt_of_block hc.blk
  have := hc.lo.1
  omega
 have HP : Hid (pb < w.heap.size) := hplt
 clear hD hOk hn hy hok1 E hplt
 go_enter Tryz.func15, Tryz.ntmps15
 go_wp2_with fail
 refine (CO.out (by trivial)).mono ?_
 rintro e w1 ⟨lb, ao, cp, rfl, h1, hb1⟩
 have HB1 : Hid (Below pb w w1) := hb1
 have HL1 : Hid (Lgs.LgAt lb pb 0 1 D w1) := h1
 clear h1 hb1 CO
 go_wp2_with fail
 refine (CS.out _ (by trivial)).mono ?_
 rintro e w2 ⟨st, M1, rfl, h2, hb2⟩
 have H2 : Hid (SA w1.heap.size st M1 [] w2 ∧ Below w1.heap.size w1 w2) := ⟨h2, hb2⟩
 clear h2 hb2 CS
 go_wp2_with fail
 refine (CT.out _ (by trivial)).mono ?_
 rintro e w3 ⟨la, M2, rfl, h3, hb3⟩
 have H3 : Hid (TA w2.heap.size la M2 [] w3 ∧ Below w2.heap.size w2 w3) := ⟨h3, hb3⟩
 clear h3 hb3 CT
 go_wp2_with fail
 refine (CV.out _ (by trivial)).mono ?_
 rintro e w4 ⟨ve, M3, rfl, h4, hb4⟩
 obtain ⟨M4, h5⟩ := MK.out lb st la ve M1 M2 M3 w1 w2 w3 w4 HL1.out H2.out.1 H2.out.2 H3.out.1 H3.out.2 h4 hb4
 have HB4 : Hid (Below pb w w4) := by
  have s1 := HB1.out.size
  have hp := HP.out
  refine HB1.out.trans ((H2.out.2.trans ((H3.out.2.trans (hb4.mono H3.out.2.size)).mono H2.out.2.size)).mono ?_)
  omega
 clear h4 hb4 CV MK HB1 HL1 H2 H3
 go_upto_region 5 with fail
 obtain ⟨W5, hW5⟩ : ∃ W5, w4.alloc (.cells #[.pointer (some ⟨pb, 0, none⟩), .pointer (some ⟨lb, 0, none⟩), .pointer (some ⟨st, 0, none⟩), .pointer (some ⟨la, 0, none⟩), .pointer (some ⟨ve, 0, none⟩), .int .u64 0, .int .u32 0, .int .u64 0, .int .u32 0, .int .u64 0, .int .u32 0] 122) = W5 := ⟨_, rfl⟩
 have HB5 : Hid (Below pb w W5) := by rw [← hW5]; exact HB4.out.alloc (by have := HB4.out.size; have := HP.out; omega) _
 rw [hW5] at h5 ⊢
 obtain ⟨sb, hsb⟩ : ∃ sb, w4.heap.size = sb := ⟨_, rfl⟩
 rw [hsb] at h5 ⊢
 obtain ⟨F, hF⟩ : ∃ F : Fp, F = ⟨pb, sb, pb, lb, st, la, ve, w1.heap.size, w2.heap.size, w3.heap.size⟩ := ⟨_, rfl⟩
 rw [← hF] at h5
 have H5 : Hid (ShAt SA TA BA F M4 Sd.new 0 1 D W5) := h5
 have HF : Hid (F.sb = sb ∧ F.B = pb) := by rw [hF]; exact ⟨rfl, rfl⟩
 have CK5 : Hid (1 = 1 → Calls Tryz.prog 45 #[.pointer (some ⟨sb, 0, none⟩)] W5 fun e w' => e = .returned (.tuple #[]) ∧ ShTo SA TA BA F M4 W5 Sd.new 0 1 D w') := fun _ => by
  have := CK.out F M4 W5 H5.out
  rw [HF.out.1] at this
  exact this
 clear h5 hsb hW5 hF CK HB4
 go_wp2_with fail
 go_loopw [30] (fun i wr => i = .int .i64 0 ∧ wr = W5) (fun _ _ => 0)
 case atStart => exact ⟨rfl, rfl⟩
 case round =>
  obtain ⟨rfl, rfl⟩ := hrel
  go_wp2_with fail
  refine (CK5.out (by trivial)).mono ?_
  rintro e w6 ⟨rfl, h6⟩
  obtain ⟨M6, h7, hb7⟩ := EB.out _ _ _ _ H5.out h6 HF.out.2
  have HB6 : Hid (Below pb w w6) := HB5.out.trans hb7
  have H7 : Hid (ShAt SA TA BA F M6 Sd.new 0 1 D w6) := h7
  clear h6 h7 hb7 CK5
  go_wp2_with fail
  go_ret2
  exact ⟨F, M6, by rw [HF.out.1]; rfl, H7.out, HF.out.2, HB6.out⟩
end Go.Proofs.YtajjnmdomabmkaaGreat
