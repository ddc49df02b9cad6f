import Derived.Test.YtajjnmdomabmkaaGreatWbm
set_option maxHeartbeats 4000000
set_option maxRecDepth 100000
set_option linter.unusedVariables false
namespace Go.Proofs.YtajjnmdomabmkaaGreat
open Go.RowKit
variable {SA : Nat → Nat → (Nat → Prop) → Sto.Sk → World → Prop} {TA : Nat → Nat → (Nat → Prop) → Lat.Tb → World → Prop} {BA : Nat → Nat → (Nat → Prop) → Ver.Bk → World → Prop}
variable {f : Fp} {M : Nat → Prop} {X : Sd} {a : Int} {g : Nat} {D : Drm.Dr} {w W W' : World} {Lo : List (Nat × Obj)}
theorem dec_steps (ph : Int) (q : Rq) (X : Sd) (a : Int) (D : Drm.Dr) : decFn ph q X a D = match knownF q.c q.n X with
  | some r => (r, X, D)
  | none => match ownF q.c q.n X with
   | none => (kinR 6, X, D)
   | some x => if primF x.2 X = false then (refR 1, X, D) else if Clk.lessB q.ap q.al x.2.mp x.2.ml then (saidR 7 x.2.mp x.2.ml, X, D) else
    if (hearF ph q.ap q.al X a D).1 ≠ 0 then (refR (hearF ph q.ap q.al X a D).1, (hearF ph q.ap q.al X a D).2) else
    if (noteF (eCommit q.c q.n x.2.sp x.2.sl q.ap q.al q.pt) (hearF ph q.ap q.al X a D).2.1 a (hearF ph q.ap q.al X a D).2.2).1 ≠ 0 then (refR (noteF (eCommit q.c q.n x.2.sp x.2.sl q.ap q.al q.pt) (hearF ph q.ap q.al X a D).2.1 a (hearF ph q.ap q.al X a D).2.2).1, (noteF (eCommit q.c q.n x.2.sp x.2.sl q.ap q.al q.pt) (hearF ph q.ap q.al X a D).2.1 a (hearF ph q.ap q.al X a D).2.2).2) else (saidR 5 q.ap q.al, (noteF (eCommit q.c q.n x.2.sp x.2.sl q.ap q.al q.pt) (hearF ph q.ap q.al X a D).2.1 a (hearF ph q.ap q.al X a D).2.2).2) := rfl
theorem own_mem {c n : Int} {x : List UInt8 × Lat.Ii} (h : ownF c n X = some x) : x ∈ X.T := by
 unfold ownF at h
 exact (List.mem_filter.1 (List.mem_of_mem_head? h)).1
theorem dec95 (E : Env SA TA BA) (ph : Int) (q : Rq) (wa : Option Addr) (wc : Nat) (sa : Option Addr) (sc : Nat) (h : ShAt SA TA BA f M X a g D w) (ht : X.wt < 8900) (hX : XOk X) (hph : 0 ≤ ph) (hq : RqOk q) :
  Calls Tryz.prog 95 #[.pointer (some ⟨f.sb, 0, none⟩), .int .u64 ph, .agg #[.int .i64 q.k, .int .u32 q.c, .int .u32 q.n, .int .u64 q.sp, .int .u32 q.sl, .int .u64 q.ap, .int .u32 q.al, .string (bs q.key), .string (bs q.hi), .int .i64 q.lim, .int .u8 q.pt, .slice wa q.ws.length wc, .slice sa q.sk.length sc]] w fun e w' => e = .returned (rpV (decFn ph q X a D).1 (.slice none 0 0)) ∧ ShTo SA TA BA f M w (decFn ph q X a D).2.1 a g (decFn ph q X a D).2.2 w' := by
 have HL0 := dec_steps ph q X a D
 obtain ⟨b1, hb1⟩ : ∃ b1, b1 = w.heap.size + 1 := ⟨_, rfl⟩
 obtain ⟨Lo, hLo⟩ : ∃ Lo : List (Nat × Obj), Lo = [(b1, .cells #[.int .i64 0, .int .i64 0, .bool false, .string ⟨#[]⟩, .slice none 0 0, .int .u32 0, .int .u32 0, .int .u64 0, .int .u32 0, .int .u64 0, .int .u32 0, .string ⟨#[]⟩, .int .u64 0, .int .u32 0] 43), (w.heap.size, .cells #[.int .i64 q.k, .int .u32 q.c, .int .u32 q.n, .int .u64 q.sp, .int .u32 q.sl, .int .u64 q.ap, .int .u32 q.al, .string (bs q.key), .string (bs q.hi), .int .i64 q.lim, .int .u8 q.pt, .slice wa q.ws.length wc, .slice sa q.sk.length sc] 36)] := ⟨_, rfl⟩
 have H0 : Hid (Cx SA TA BA f M w X a g D Lo ((w.alloc (.cells #[.int .i64 q.k, .int .u32 q.c, .int .u32 q.n, .int .u64 q.sp, .int .u32 q.sl, .int .u64 q.ap, .int .u32 q.al, .string (bs q.key), .string (bs q.hi), .int .i64 q.lim, .int .u8 q.pt, .slice wa q.ws.length wc, .slice sa q.sk.length sc] 36)).alloc (.cells #[.int .i64 0, .int .i64 0, .bool false, .string ⟨#[]⟩, .slice none 0 0, .int .u32 0, .int .u32 0, .int .u64 0, .int .u32 0, .int .u64 0, .int .u32 0, .string ⟨#[]⟩, .int .u64 0, .int .u32 0] 43))) := by
  show Cx _ _ _ _ _ _ _ _ _ _ _ _
  have h1 := ((Cx.start h).new E #[.int .i64 q.k, .int .u32 q.c, .int .u32 q.n, .int .u64 q.sp, .int .u32 q.sl, .int .u64 q.ap, .int .u32 q.al, .string (bs q.key), .string (bs q.hi), .int .i64 q.lim, .int .u8 q.pt, .slice wa q.ws.length wc, .slice sa q.sk.length sc] 36 (by decide)).new E #[.int .i64 0, .int .i64 0, .bool false, .string ⟨#[]⟩, .slice none 0 0, .int .u32 0, .int .u32 0, .int .u64 0, .int .u32 0, .int .u64 0, .int .u32 0, .string ⟨#[]⟩, .int .u64 0, .int .u32 0] 43 (by decide)
  rw [size_al2, ← hb1, ← hLo] at h1
  exact h1
 have SB : Hid (∀ (X : Sd) (D : Drm.Dr) W, Cx SA TA BA f M w X a g D Lo W → W.cell? ⟨w.heap.size, 1, none⟩ = some (.int .u32 q.c) ∧ W.cell? ⟨w.heap.size, 2, none⟩ = some (.int .u32 q.n) ∧ W.cell? ⟨w.heap.size, 5, none⟩ = some (.int .u64 q.ap) ∧ W.cell? ⟨w.heap.size, 6, none⟩ = some (.int .u32 q.al) ∧ W.cell? ⟨w.heap.size, 10, none⟩ = some (.int .u8 q.pt)) := fun X D W hW => by
  subst hLo
  exact ⟨hW.has.cell (.tail _ (.head _)) rfl, hW.has.cell (.tail _ (.head _)) rfl, hW.has.cell (.tail _ (.head _)) rfl, hW.has.cell (.tail _ (.head _)) rfl, hW.has.cell (.tail _ (.head _)) rfl⟩
 have SP : Hid (∀ (X : Sd) (D : Drm.Dr) W, Cx SA TA BA f M w X a g D Lo W → W.heap[b1]? = some (.cells #[.int .i64 0, .int .i64 0, .bool false, .string ⟨#[]⟩, .slice none 0 0, .int .u32 0, .int .u32 0, .int .u64 0, .int .u32 0, .int .u64 0, .int .u32 0, .string ⟨#[]⟩, .int .u64 0, .int .u32 0] 43 (0, 0))) := fun X D W hW => by
  subst hLo
  exact hW.has _ (.head _)
 have HR : Hid (∀ (X : Sd) (D : Drm.Dr) W (v0 v1 v2 v3 v4 v5 v6 v7 v8 v9 v10 v11 v12 v13 : Value), Cx SA TA BA f M w X a g D Lo W → ShTo SA TA BA f M w X a g D ((((((((((((((W.setCell ⟨b1, 0, none⟩ v0).setCell ⟨b1, 1, none⟩ v1).setCell ⟨b1, 2, none⟩ v2).setCell ⟨b1, 3, none⟩ v3).setCell ⟨b1, 4, none⟩ v4).setCell ⟨b1, 5, none⟩ v5).setCell ⟨b1, 6, none⟩ v6).setCell ⟨b1, 7, none⟩ v7).setCell ⟨b1, 8, none⟩ v8).setCell ⟨b1, 9, none⟩ v9).setCell ⟨b1, 10, none⟩ v10).setCell ⟨b1, 11, none⟩ v11).setCell ⟨b1, 12, none⟩ v12).setCell ⟨b1, 13, none⟩ v13)) := fun X D W v0 v1 v2 v3 v4 v5 v6 v7 v8 v9 v10 v11 v12 v13 hW => by
  subst hLo
  exact hW.ret14 E (.head _) (by omega)
 have ON : Hid (∀ (X : Sd) (D : Drm.Dr) W W', Cx SA TA BA f M w X a g D Lo W → Bz W W' → Cx SA TA BA f M w X a g D Lo W') := fun X D W W' hW hb => hW.on E hb
 have NW : Hid (∀ (X : Sd) (D : Drm.Dr) W cs, Cx SA TA BA f M w X a g D Lo W → Cx SA TA BA f M w X a g D ((W.heap.size, .cells cs 32 (0, 0)) :: Lo) (W.alloc (.cells cs 32 (0, 0)))) := fun X D W cs hW => hW.new E cs 32 (by decide)
 have CR : Hid (∀ e W, Calls Tryz.prog 46 #[.int .i64 e] W fun r w' => r = .returned (.agg #[.int .i64 0, .int .i64 e, .bool false, .string ⟨#[]⟩, .slice none 0 0, .int .u32 0, .int .u32 0, .int .u64 0, .int .u32 0, .int .u64 0, .int .u32 0, .string ⟨#[]⟩, .int .u64 0, .int .u32 0]) ∧ Below W.heap.size W w') := fun e W => refused46 e W
 have CS : Hid (∀ k p l W, Calls Tryz.prog 193 #[.int .i64 k, .agg #[.int .u64 p, .int .u32 l]] W fun e w' => e = .returned (.agg #[.int .i64 k, .int .i64 0, .bool false, .string ⟨#[]⟩, .slice none 0 0, .int .u32 0, .int .u32 0, .int .u64 0, .int .u32 0, .int .u64 p, .int .u32 l, .string ⟨#[]⟩, .int .u64 0, .int .u32 0]) ∧ Below W.heap.size W w') := fun k p l W => said193 k p l W
 obtain ⟨kr, kz, hkv, hkz, hkr⟩ := kn_parts (knownF q.c q.n X)
 have CK : Hid (∀ W, Cx SA TA BA f M w X a g D Lo W → Calls Tryz.prog 191 #[.pointer (some ⟨f.sb, 0, none⟩), .agg #[.int .u32 q.c, .int .u32 q.n]] W fun e w' => e = .returned (.tuple #[.agg #[.int .i64 kr.k, .int .i64 kr.err, .bool kr.found, .string (bs kr.val), .slice none 0 0, .int .u32 kr.c, .int .u32 kr.n, .int .u64 kr.sp, .int .u32 kr.sl, .int .u64 kr.ap, .int .u32 kr.al, .string (bs kr.prim), .int .u64 kr.np, .int .u32 kr.nl], .bool kz]) ∧ Cx SA TA BA f M w X a g D Lo w') := fun W hW => by
  obtain ⟨M9, h9, -, -⟩ := hW.sh
  have := known191 E q.c q.n h9 (by omega) hq.c
  rw [hkv] at this
  exact this.mono fun e w' h => ⟨h.1, hW.on E h.2⟩
 obtain ⟨⟨ok, ox⟩, oz, hov, hoz, hox⟩ := fs_parts (ownF q.c q.n X)
 have CW : Hid (∀ W, Cx SA TA BA f M w X a g D Lo W → Calls Tryz.prog 192 #[.pointer (some ⟨f.sb, 0, none⟩), .agg #[.int .u32 q.c, .int .u32 q.n]] W fun e w' => e = .returned (.tuple #[.agg #[.int .u32 ox.c, .int .u32 ox.n, .int .u64 ox.sp, .int .u32 ox.sl, .int .u64 ox.mp, .int .u32 ox.ml, .string (bs ox.prim), .string (bs ok), .string (bs ox.val), .bool ox.dead], .bool oz]) ∧ Cx SA TA BA f M w X a g D Lo w') := fun W hW => by
  obtain ⟨M9, h9, -, -⟩ := hW.sh
  have := own192 E q.c q.n h9 (by omega)
  rw [hov] at this
  exact this.mono fun e w' h => ⟨h.1, hW.on E h.2⟩
 have CP : Hid (∀ W Lo, Cx SA TA BA f M w X a g D Lo W → Calls Tryz.prog 199 #[.pointer (some ⟨f.sb, 0, none⟩), .agg #[.int .u32 ox.c, .int .u32 ox.n, .int .u64 ox.sp, .int .u32 ox.sl, .int .u64 ox.mp, .int .u32 ox.ml, .string (bs ox.prim), .string (bs ok), .string (bs ox.val), .bool ox.dead]] W fun r w' => r = .returned (.bool (primF ox X)) ∧ Cx SA TA BA f M w X a g D Lo w') := fun W Lo hW => by
  obtain ⟨M9, h9, -, -⟩ := hW.sh
  exact (prim199 E (ok, ox) h9 (by omega)).mono fun r w' h => ⟨h.1, hW.on E h.2⟩
 have CL : Hid (∀ W Lo, Cx SA TA BA f M w X a g D Lo W → Calls Tryz.prog 113 #[.agg #[.int .u64 q.ap, .int .u32 q.al], .agg #[.int .u64 ox.mp, .int .u32 ox.ml]] W fun r w' => r = .returned (.bool (Clk.lessB q.ap q.al ox.mp ox.ml)) ∧ Cx SA TA BA f M w X a g D Lo w') := fun W Lo hW => (Clk.less17 q.ap q.al ox.mp ox.ml W).mono fun r w' h => ⟨h.1, hW.on E h.2⟩
 have hhe := hear_ok (f := ph) (a := a) (D := D) hq.a hX
 have CH : Hid (∀ W Lo, Cx SA TA BA f M w X a g D Lo W → Calls Tryz.prog 195 #[.pointer (some ⟨f.sb, 0, none⟩), .int .u64 ph, .agg #[.int .u64 q.ap, .int .u32 q.al]] W fun r w' => r = .returned (.int .i64 (hearF ph q.ap q.al X a D).1) ∧ Cx SA TA BA f M w (hearF ph q.ap q.al X a D).2.1 a g (hearF ph q.ap q.al X a D).2.2 Lo w') := fun W Lo hW => hW.calls fun M' hM => hear195 E ph q.ap q.al hM (by omega) hX hph hq.a
 have CN : Hid (Ts ox.sp ox.sl → ∀ W Lo, Cx SA TA BA f M w (hearF ph q.ap q.al X a D).2.1 a g (hearF ph q.ap q.al X a D).2.2 Lo W → Calls Tryz.prog 198 #[.pointer (some ⟨f.sb, 0, none⟩), .agg #[.int .i64 3, .int .u32 q.c, .int .u32 q.n, .int .u64 ox.sp, .int .u32 ox.sl, .int .u64 q.ap, .int .u32 q.al, .int .u64 0, .int .u32 0, .string ⟨#[]⟩, .int .u8 q.pt, .bool false, .slice none 0 0]] W fun r w' => r = .returned (.int .i64 (noteF (eCommit q.c q.n ox.sp ox.sl q.ap q.al q.pt) (hearF ph q.ap q.al X a D).2.1 a (hearF ph q.ap q.al X a D).2.2).1) ∧ Cx SA TA BA f M w (noteF (eCommit q.c q.n ox.sp ox.sl q.ap q.al q.pt) (hearF ph q.ap q.al X a D).2.1 a (hearF ph q.ap q.al X a D).2.2).2.1 a g (noteF (eCommit q.c q.n ox.sp ox.sl q.ap q.al q.pt) (hearF ph q.ap q.al X a D).2.1 a (hearF ph q.ap q.al X a D).2.2).2.2 Lo w') := fun hts W Lo hW => hW.calls fun M' hM => by
  have := note198 E (eCommit q.c q.n ox.sp ox.sl q.ap q.al q.pt) none 0 hM (by rw [hhe.1.wt]; omega) hhe.2.t (ok_commit hq.c hts hq.a hq.p) (Nat.zero_le _) (WsIn.nil _ _) (.inr (.inr rfl))
  rw [enV_commit hq.c hts hq.a hq.p] at this
  exact this
 have LS : Hid (∀ (X : Sd) (D : Drm.Dr) W p, Cx SA TA BA f M w X a g D (p :: Lo) W → Cx SA TA BA f M w X a g D Lo W) := fun X D W p hW => hW.less (fun x hx => .tail _ hx)
 have ONL : Hid (∀ (X : Sd) (D : Drm.Dr) W W' Lo, Cx SA TA BA f M w X a g D Lo W → Bz W W' → Cx SA TA BA f M w X a g D Lo W') := fun X D W W' Lo hW hb => hW.on E hb
 have NI : Hid (∀ (X : Sd) (D : Drm.Dr) W cs, Cx SA TA BA f M w X a g D Lo W → Cx SA TA BA f M w X a g D ((W.heap.size, .cells cs 146 (0, 0)) :: Lo) (W.alloc (.cells cs 146 (0, 0)))) := fun X D W cs hW => hW.new E cs 146 (by decide)
 have SI : Hid (∀ (X : Sd) (D : Drm.Dr) W bi, Cx SA TA BA f M w X a g D ((bi, .cells #[.int .u32 ox.c, .int .u32 ox.n, .int .u64 ox.sp, .int .u32 ox.sl, .int .u64 ox.mp, .int .u32 ox.ml, .string (bs ox.prim), .string (bs ok), .string (bs ox.val), .bool ox.dead] 146 (0, 0)) :: Lo) W → W.heap[bi]? = some (.cells #[.int .u32 ox.c, .int .u32 ox.n, .int .u64 ox.sp, .int .u32 ox.sl, .int .u64 ox.mp, .int .u32 ox.ml, .string (bs ox.prim), .string (bs ok), .string (bs ox.val), .bool ox.dead] 146 (0, 0))) := fun X D W bi hW => hW.has _ (.head _)
 have HKz : Hid (kz = (knownF q.c q.n X).isSome ∧ ∀ x, knownF q.c q.n X = some x → kr = x) := ⟨hkz, hkr⟩
 have HOz : Hid (oz = (ownF q.c q.n X).isSome ∧ ∀ x, ownF q.c q.n X = some x → (ok, ox) = x) := ⟨hoz, hox⟩
 have HTs : Hid (∀ x, ownF q.c q.n X = some x → Ts x.2.sp x.2.sl) := fun x hx => (hX.i x (own_mem hx)).1
 have HL : Hid _ := HL0
 generalize decFn ph q X a D = Y at *
 clear hLo h ht hX hph hq E HL0 hhe hkv hkz hkr hov hoz hox
 obtain ⟨W2, hW2⟩ : ∃ W2, (w.alloc (.cells #[.int .i64 q.k, .int .u32 q.c, .int .u32 q.n, .int .u64 q.sp, .int .u32 q.sl, .int .u64 q.ap, .int .u32 q.al, .string (bs q.key), .string (bs q.hi), .int .i64 q.lim, .int .u8 q.pt, .slice wa q.ws.length wc, .slice sa q.sk.length sc] 36)).alloc (.cells #[.int .i64 0, .int .i64 0, .bool false, .string ⟨#[]⟩, .slice none 0 0, .int .u32 0, .int .u32 0, .int .u64 0, .int .u32 0, .int .u64 0, .int .u32 0, .string ⟨#[]⟩, .int .u64 0, .int .u32 0] 43) = W2 := ⟨_, rfl⟩
 rw [hW2] at H0
 obtain ⟨c1, c2, -, -, -⟩ := SB.out _ _ _ H0.out
 go_enter Tryz.func95, Tryz.ntmps95
 go_wp2_with fail
 rw [← hb1]
 clear hW2 hb1
 refine (CK.out _ H0.out).mono ?_
 rintro e w3 ⟨rfl, hq⟩
 have H3 : Hid _ := hq
 clear hq CK c1 c2 H0
 have hob : (w3.alloc (.cells #[.int .i64 kr.k, .int .i64 kr.err, .bool kr.found, .string (bs kr.val), .slice none 0 0, .int .u32 kr.c, .int .u32 kr.n, .int .u64 kr.sp, .int .u32 kr.sl, .int .u64 kr.ap, .int .u32 kr.al, .string (bs kr.prim), .int .u64 kr.np, .int .u32 kr.nl] 43)).heap[w3.heap.size]? = some (.cells #[.int .i64 kr.k, .int .i64 kr.err, .bool kr.found, .string (bs kr.val), .slice none 0 0, .int .u32 kr.c, .int .u32 kr.n, .int .u64 kr.sp, .int .u32 kr.sl, .int .u64 kr.ap, .int .u32 kr.al, .string (bs kr.prim), .int .u64 kr.np, .int .u32 kr.nl] 43 (0, 0)) := heap_alloc_new w3 _
 have H4 : Hid (Cx SA TA BA f M w X a g D Lo (w3.alloc (.cells #[.int .i64 kr.k, .int .i64 kr.err, .bool kr.found, .string (bs kr.val), .slice none 0 0, .int .u32 kr.c, .int .u32 kr.n, .int .u64 kr.sp, .int .u32 kr.sl, .int .u64 kr.ap, .int .u32 kr.al, .string (bs kr.prim), .int .u64 kr.np, .int .u32 kr.nl] 43))) := ON.out _ _ _ _ H3.out ((Below.refl _ _).alloc (Nat.le_refl _) _)
 obtain ⟨W4, hW4⟩ : ∃ W4, w3.alloc (.cells #[.int .i64 kr.k, .int .i64 kr.err, .bool kr.found, .string (bs kr.val), .slice none 0 0, .int .u32 kr.c, .int .u32 kr.n, .int .u64 kr.sp, .int .u32 kr.sl, .int .u64 kr.ap, .int .u32 kr.al, .string (bs kr.prim), .int .u64 kr.np, .int .u32 kr.nl] 43) = W4 := ⟨_, rfl⟩
 rw [hW4] at hob H4
 cases kz
 case true =>
  have HE : Hid (Y = (kr, X, D)) := by
   show _ = _
   rw [HL.out]
   cases hkn : knownF q.c q.n X with
   | none => have := HKz.out.1; rw [hkn] at this; cases this
   | some r => rw [HKz.out.2 r hkn]
  obtain ⟨i0, i1, i2, i3, i4, i5, i6, i7, i8, i9, i10, i11, i12, i13, -⟩ := free14 hob
  clear hob CW CH CN CP CL
  obtain ⟨z0, z1, z2, z3, z4, z5, z6, z7, z8, z9, z10, z11, z12, z13, g0, g1, g2, g3, g4, g5, g6, g7, g8, g9, g10, g11, g12, g13⟩ := free14 (SP.out _ _ _ H4.out)
  go_wp2_with fail
  refine bodyPost_ret (res14 rfl rfl rfl (set14 (SP.out _ _ _ H4.out))) rfl ?_
  rw [HE.out]
  exact ⟨rfl, HR.out _ _ _ _ _ _ _ _ _ _ _ _ _ _ _ _ _ H4.out⟩
 case false =>
  have hkn : knownF q.c q.n X = none := by
   cases hkn : knownF q.c q.n X with
   | none => rfl
   | some r => have := HKz.out.1; rw [hkn] at this; cases this
  rw [hkn] at HL
  clear hob HKz hkn
  obtain ⟨c1, c2, -, -, -⟩ := SB.out _ _ _ H4.out
  go_wp2_with fail
  refine (CW.out _ H4.out).mono ?_
  rintro e w5 ⟨rfl, hq⟩
  have H5 : Hid _ := hq
  clear hq CW c1 c2 H4 hW4 H3
  have H6 : Hid _ := NI.out _ _ _ #[.int .u32 ox.c, .int .u32 ox.n, .int .u64 ox.sp, .int .u32 ox.sl, .int .u64 ox.mp, .int .u32 ox.ml, .string (bs ox.prim), .string (bs ok), .string (bs ox.val), .bool ox.dead] H5.out
  obtain ⟨W6, hW6⟩ : ∃ W6, w5.alloc (.cells #[.int .u32 ox.c, .int .u32 ox.n, .int .u64 ox.sp, .int .u32 ox.sl, .int .u64 ox.mp, .int .u32 ox.ml, .string (bs ox.prim), .string (bs ok), .string (bs ox.val), .bool ox.dead] 146) = W6 := ⟨_, rfl⟩
  rw [hW6] at H6
  obtain ⟨bi, hbi⟩ : ∃ bi, w5.heap.size = bi := ⟨_, rfl⟩
  rw [hbi] at H6
  cases oz
  case false =>
   have hkn : ownF q.c q.n X = none := by
    cases hkn : ownF q.c q.n X with
    | none => rfl
    | some r => have := HOz.out.1; rw [hkn] at this; cases this
   have HE : Hid (Y = (kinR 6, X, D)) := by
    show _ = _
    rw [HL.out, hkn]
   have H6b : Hid _ := LS.out _ _ _ _ H6.out
   clear CH CN CP CL hkn
   obtain ⟨z0, z1, z2, z3, z4, z5, z6, z7, z8, z9, z10, z11, z12, z13, g0, g1, g2, g3, g4, g5, g6, g7, g8, g9, g10, g11, g12, g13⟩ := free14 (SP.out _ _ _ H6b.out)
   go_wp2_with fail
   refine bodyPost_ret (res14 rfl rfl rfl (set14 (SP.out _ _ _ H6b.out))) rfl ?_
   rw [HE.out]
   exact ⟨rfl, HR.out _ _ _ _ _ _ _ _ _ _ _ _ _ _ _ _ _ H6b.out⟩
  case true =>
   obtain ⟨hkn, hts⟩ : ownF q.c q.n X = some (ok, ox) ∧ Ts ox.sp ox.sl := by
    cases hkn : ownF q.c q.n X with
    | none => have := HOz.out.1; rw [hkn] at this; cases this
    | some r =>
     have h1 := HTs.out r hkn
     rw [← HOz.out.2 r hkn] at h1
     exact ⟨by rw [HOz.out.2 r hkn], h1⟩
   rw [hkn] at HL
   have CN2 : Hid _ := CN.out hts
   clear hkn hts CN HOz HTs
   dsimp only at HL
   generalize (noteF (eCommit q.c q.n ox.sp ox.sl q.ap q.al q.pt) (hearF ph q.ap q.al X a D).2.1 a (hearF ph q.ap q.al X a D).2.2) = N at *
   generalize (hearF ph q.ap q.al X a D) = H at *
   generalize hlb : Clk.lessB q.ap q.al ox.mp ox.ml = lb at *
   generalize hpr : primF ox X = pr at *
   obtain ⟨n0, Xn, Dn⟩ := N
   obtain ⟨h0, Xh, Dh⟩ := H
   dsimp only at CH CN2 HL
   clear hlb hpr
   obtain ⟨i0, i1, i2, i3, i4, i5, i6, i7, i8, i9, -⟩ := free10 (SI.out _ _ _ _ H6.out)
   go_wp2_with fail
   clear hW6 hbi
   refine (CP.out _ _ H6.out).mono ?_
   rintro e w7 ⟨rfl, hq⟩
   have H7 : Hid _ := hq
   clear hq CP i0 i1 i2 i3 i4 i5 i6 i7 i8 i9 H6 H5
   cases pr
   case false =>
    have HE : Hid (Y = (refR 1, X, D)) := HL.out
    have H7b : Hid _ := LS.out _ _ _ _ H7.out
    go_wp2_with fail
    refine (CR.out _ _).mono ?_
    rintro e w8 ⟨rfl, hb⟩
    have H8 : Hid _ := ON.out _ _ _ _ H7b.out hb
    clear hb
    obtain ⟨z0, z1, z2, z3, z4, z5, z6, z7, z8, z9, z10, z11, z12, z13, g0, g1, g2, g3, g4, g5, g6, g7, g8, g9, g10, g11, g12, g13⟩ := free14 (SP.out _ _ _ H8.out)
    go_wp2_with fail
    refine bodyPost_ret (res14 rfl rfl rfl (set14 (SP.out _ _ _ H8.out))) rfl ?_
    rw [HE.out]
    exact ⟨rfl, HR.out _ _ _ _ _ _ _ _ _ _ _ _ _ _ _ _ _ H8.out⟩
   case true =>
    obtain ⟨-, -, c5, c6, -⟩ := SB.out _ _ _ (LS.out _ _ _ _ H7.out)
    obtain ⟨-, -, -, -, i4, i5, -⟩ := free10 (SI.out _ _ _ _ H7.out)
    go_wp2_with fail
    refine (CL.out _ _ H7.out).mono ?_
    rintro e w8 ⟨rfl, hq⟩
    have H8 : Hid _ := hq
    clear hq CL c5 c6 i4 i5 H7
    cases lb
    case true =>
     have HE : Hid (Y = (saidR 7 ox.mp ox.ml, X, D)) := HL.out
     have H8b : Hid _ := LS.out _ _ _ _ H8.out
     obtain ⟨-, -, -, -, i4, i5, -⟩ := free10 (SI.out _ _ _ _ H8.out)
     go_wp2_with fail
     refine (CS.out _ _ _ _).mono ?_
     rintro e w9 ⟨rfl, hb⟩
     have H9 : Hid _ := ON.out _ _ _ _ H8b.out hb
     clear hb i4 i5
     obtain ⟨z0, z1, z2, z3, z4, z5, z6, z7, z8, z9, z10, z11, z12, z13, g0, g1, g2, g3, g4, g5, g6, g7, g8, g9, g10, g11, g12, g13⟩ := free14 (SP.out _ _ _ H9.out)
     go_wp2_with fail
     refine bodyPost_ret (res14 rfl rfl rfl (set14 (SP.out _ _ _ H9.out))) rfl ?_
     rw [HE.out]
     exact ⟨rfl, HR.out _ _ _ _ _ _ _ _ _ _ _ _ _ _ _ _ _ H9.out⟩
    case false =>
     obtain ⟨-, -, c5, c6, -⟩ := SB.out _ _ _ (LS.out _ _ _ _ H8.out)
     go_wp2_with fail
     refine (CH.out _ _ H8.out).mono ?_
     rintro e w9 ⟨rfl, hq⟩
     have H9 : Hid _ := hq
     clear hq CH c5 c6 H8
     by_cases hh : h0 = 0
     case neg =>
      have hh' : (h0 != 0) = true := by simp [hh]
      have HE : Hid (Y = (refR h0, Xh, Dh)) := by
       show _ = _
       rw [HL.out]
       simp [hh]
      have H9b : Hid _ := LS.out _ _ _ _ H9.out
      clear hh
      go_wp2_with fail
      refine (CR.out _ _).mono ?_
      rintro e w10 ⟨rfl, hb⟩
      have H10 : Hid _ := ON.out _ _ _ _ H9b.out hb
      clear hb
      obtain ⟨z0, z1, z2, z3, z4, z5, z6, z7, z8, z9, z10, z11, z12, z13, g0, g1, g2, g3, g4, g5, g6, g7, g8, g9, g10, g11, g12, g13⟩ := free14 (SP.out _ _ _ H10.out)
      go_wp2_with fail
      refine bodyPost_ret (res14 rfl rfl rfl (set14 (SP.out _ _ _ H10.out))) rfl ?_
      rw [HE.out]
      exact ⟨rfl, HR.out _ _ _ _ _ _ _ _ _ _ _ _ _ _ _ _ _ H10.out⟩
     case pos =>
      subst hh
      have H9b : Hid _ := LS.out _ _ _ _ H9.out
      obtain ⟨c1, c2, c5, c6, c10⟩ := SB.out _ _ _ H9b.out
      obtain ⟨-, -, i2, i3, -⟩ := free10 (SI.out _ _ _ _ H9.out)
      go_upto_region 15 with fail
      have hob : (w9.alloc (.cells #[.int .i64 3, .int .u32 q.c, .int .u32 q.n, .int .u64 ox.sp, .int .u32 ox.sl, .int .u64 q.ap, .int .u32 q.al, .int .u64 0, .int .u32 0, .string ⟨#[]⟩, .int .u8 q.pt, .bool false, .slice none 0 0] 124)).heap[w9.heap.size]? = some (.cells #[.int .i64 3, .int .u32 q.c, .int .u32 q.n, .int .u64 ox.sp, .int .u32 ox.sl, .int .u64 q.ap, .int .u32 q.al, .int .u64 0, .int .u32 0, .string ⟨#[]⟩, .int .u8 q.pt, .bool false, .slice none 0 0] 124 (0, 0)) := heap_alloc_new w9 _
      have H11 : Hid _ := ON.out _ _ _ (w9.alloc (.cells #[.int .i64 3, .int .u32 q.c, .int .u32 q.n, .int .u64 ox.sp, .int .u32 ox.sl, .int .u64 q.ap, .int .u32 q.al, .int .u64 0, .int .u32 0, .string ⟨#[]⟩, .int .u8 q.pt, .bool false, .slice none 0 0] 124)) H9b.out ((Below.refl _ _).alloc (Nat.le_refl _) _)
      obtain ⟨W11, hW11⟩ : ∃ W11, w9.alloc (.cells #[.int .i64 3, .int .u32 q.c, .int .u32 q.n, .int .u64 ox.sp, .int .u32 ox.sl, .int .u64 q.ap, .int .u32 q.al, .int .u64 0, .int .u32 0, .string ⟨#[]⟩, .int .u8 q.pt, .bool false, .slice none 0 0] 124) = W11 := ⟨_, rfl⟩
      rw [hW11] at hob H11 ⊢
      have e0 := Drm.blk_cell (k := 0) hob rfl
      have e1 := Drm.blk_cell (k := 1) hob rfl
      have e2 := Drm.blk_cell (k := 2) hob rfl
      have e3 := Drm.blk_cell (k := 3) hob rfl
      have e4 := Drm.blk_cell (k := 4) hob rfl
      have e5 := Drm.blk_cell (k := 5) hob rfl
      have e6 := Drm.blk_cell (k := 6) hob rfl
      have e7 := Drm.blk_cell (k := 7) hob rfl
      have e8 := Drm.blk_cell (k := 8) hob rfl
      have e9 := Drm.blk_cell (k := 9) hob rfl
      have e10 := Drm.blk_cell (k := 10) hob rfl
      have e11 := Drm.blk_cell (k := 11) hob rfl
      have e12 := Drm.blk_cell (k := 12) hob rfl
      clear hob H9b
      go_wp2_with fail
      refine (CN2.out _ _ H11.out).mono ?_
      rintro e w12 ⟨rfl, hq⟩
      have H12 : Hid _ := hq
      clear hq CN2 c1 c2 c5 c6 c10 i2 i3 e0 e1 e2 e3 e4 e5 e6 e7 e8 e9 e10 e11 e12 hW11 H11 H9
      by_cases hh : n0 = 0
      case neg =>
       have hh' : (n0 != 0) = true := by simp [hh]
       have HE : Hid (Y = (refR n0, Xn, Dn)) := by
        show _ = _
        rw [HL.out]
        simp [hh]
       clear hh
       go_wp2_with fail
       refine (CR.out _ _).mono ?_
       rintro e w13 ⟨rfl, hb⟩
       have H13 : Hid _ := ON.out _ _ _ _ H12.out hb
       clear hb
       obtain ⟨z0, z1, z2, z3, z4, z5, z6, z7, z8, z9, z10, z11, z12, z13, g0, g1, g2, g3, g4, g5, g6, g7, g8, g9, g10, g11, g12, g13⟩ := free14 (SP.out _ _ _ H13.out)
       go_wp2_with fail
       refine bodyPost_ret (res14 rfl rfl rfl (set14 (SP.out _ _ _ H13.out))) rfl ?_
       rw [HE.out]
       exact ⟨rfl, HR.out _ _ _ _ _ _ _ _ _ _ _ _ _ _ _ _ _ H13.out⟩
      case pos =>
       subst hh
       have HE : Hid (Y = (saidR 5 q.ap q.al, Xn, Dn)) := by
        show _ = _
        rw [HL.out]
        simp
       obtain ⟨-, -, c5, c6, -⟩ := SB.out _ _ _ H12.out
       go_wp2_with fail
       refine (CS.out _ _ _ _).mono ?_
       rintro e w13 ⟨rfl, hb⟩
       have H13 : Hid _ := ON.out _ _ _ _ H12.out hb
       clear hb c5 c6
       obtain ⟨z0, z1, z2, z3, z4, z5, z6, z7, z8, z9, z10, z11, z12, z13, g0, g1, g2, g3, g4, g5, g6, g7, g8, g9, g10, g11, g12, g13⟩ := free14 (SP.out _ _ _ H13.out)
       go_wp2_with fail
       refine bodyPost_ret (res14 rfl rfl rfl (set14 (SP.out _ _ _ H13.out))) rfl ?_
       rw [HE.out]
       exact ⟨rfl, HR.out _ _ _ _ _ _ _ _ _ _ _ _ _ _ _ _ _ H13.out⟩
end Go.Proofs.YtajjnmdomabmkaaGreat
