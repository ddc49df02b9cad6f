import Derived.Test.YtajjnmdomabmkaaGreatWbl
set_option maxHeartbeats 4000000
set_option maxRecDepth 100000
set_option linter.unusedVariables false
namespace Go.Proofs.YtajjnmdomabmkaaGreat
open Go.RowKit
variable {SA : Nat → Nat → (Nat → Prop) → Sto.Sk → World → Prop} {TA : Nat → Nat → (Nat → Prop) → Lat.Tb → World → Prop} {BA : Nat → Nat → (Nat → Prop) → Ver.Bk → World → Prop}
variable {f : Fp} {M : Nat → Prop} {X : Sd} {a : Int} {g : Nat} {D : Drm.Dr} {w W W' : World} {Lo : List (Nat × Obj)}
theorem fs_step {α β : Type} {L : List α} {d : α} {m : Nat} (P : α → Option β) (h : m < L.length) (h1 : (L.take m).findSome? P = none) (h2 : P (L.getD m d) = none) : (L.take (m + 1)).findSome? P = none := by
 rw [List.take_succ_eq_append_getElem h, List.findSome?_append, h1]
 rw [List.getD, List.getElem?_eq_getElem h] at h2
 simpa using h2
theorem fs_at {α β : Type} {L : List α} {d : α} {m : Nat} {r : β} (P : α → Option β) (h : m < L.length) (h1 : (L.take m).findSome? P = none) (h2 : P (L.getD m d) = some r) : L.findSome? P = some r := by
 have e2 : L.findSome? P = (L.take m ++ L.drop m).findSome? P := by rw [List.take_append_drop]
 rw [List.getD, List.getElem?_eq_getElem h] at h2
 rw [e2, List.findSome?_append, h1, List.drop_eq_getElem_cons h, List.findSome?_cons, show P L[m] = some r from h2]
 rfl
theorem lay_steps (ph : Int) (q : Rq) (X : Sd) (a : Int) (D : Drm.Dr) : layFn ph q X a D = if Clk.lessB q.sp q.sl X.sp X.sl then (refR 30, X, D) else
  match knownF q.c q.n X with
  | some r => (r, X, D)
  | none => match ownF q.c q.n X with
   | some x => (saidR 4 x.2.mp x.2.ml, X, D)
   | none => match q.ws.findSome? (fun w => contF w.key q.sp q.sl X) with
    | some r => (r, X, D)
    | none => if (hearF ph q.sp q.sl X a D).1 ≠ 0 then (refR (hearF ph q.sp q.sl X a D).1, (hearF ph q.sp q.sl X a D).2) else
     if (Clk.tickF (hearF ph q.sp q.sl X a D).2.1.np (hearF ph q.sp q.sl X a D).2.1.nl ph).2.2 ≠ 0 then (refR (Clk.tickF (hearF ph q.sp q.sl X a D).2.1.np (hearF ph q.sp q.sl X a D).2.1.nl ph).2.2, (hearF ph q.sp q.sl X a D).2) else
     let t := Clk.tickF (hearF ph q.sp q.sl X a D).2.1.np (hearF ph q.sp q.sl X a D).2.1.nl ph
     let v := advF t.1 t.2.1 (hearF ph q.sp q.sl X a D).2.1 a (hearF ph q.sp q.sl X a D).2.2
     if v.1 ≠ 0 then (refR v.1, v.2) else
     let o := noteF (eLay q.c q.n q.sp q.sl t.1 t.2.1 q.key q.ws) v.2.1 a v.2.2
     if o.1 ≠ 0 then (refR o.1, o.2) else (saidR 4 t.1 t.2.1, o.2) := rfl
theorem lay94 (E : Env SA TA BA) (ph : Int) (q : Rq) (wa : Option Addr) (wc : Nat) (sa : Option Addr) (sc : Nat) (h : ShAt SA TA BA f M X a g D w) (ht : X.wt < 8900) (hX : XOk X) (hph : 0 ≤ ph) (hq : RqOk q) (hk : kOk q.key = true) (hw : rightW q.ws = true) (hi : WsIn M w wa wc q.ws) :
  Calls Tryz.prog 94 #[.pointer (some ⟨f.sb, 0, none⟩), .int .u64 ph, .agg #[.int .i64 q.k, .int .u32 q.c, .int .u32 q.n, .int .u64 q.sp, .int .u32 q.sl, .int .u64 q.ap, .int .u32 q.al, .string (bs q.key), .string (bs q.hi), .int .i64 q.lim, .int .u8 q.pt, .slice wa q.ws.length wc, .slice sa q.sk.length sc]] w fun e w' => e = .returned (rpV (layFn ph q X a D).1 (.slice none 0 0)) ∧ ShTo SA TA BA f M w (layFn ph q X a D).2.1 a g (layFn ph q X a D).2.2 w' := by
 have HL0 := lay_steps ph q X a D
 obtain ⟨b1, hb1⟩ : ∃ b1, b1 = w.heap.size + 1 := ⟨_, rfl⟩
 obtain ⟨Lo, hLo⟩ : ∃ Lo : List (Nat × Obj), Lo = [(b1, .cells #[.int .i64 0, .int .i64 0, .bool false, .string ⟨#[]⟩, .slice none 0 0, .int .u32 0, .int .u32 0, .int .u64 0, .int .u32 0, .int .u64 0, .int .u32 0, .string ⟨#[]⟩, .int .u64 0, .int .u32 0] 43), (w.heap.size, .cells #[.int .i64 q.k, .int .u32 q.c, .int .u32 q.n, .int .u64 q.sp, .int .u32 q.sl, .int .u64 q.ap, .int .u32 q.al, .string (bs q.key), .string (bs q.hi), .int .i64 q.lim, .int .u8 q.pt, .slice wa q.ws.length wc, .slice sa q.sk.length sc] 36)] := ⟨_, rfl⟩
 have H0 : Hid (Cx SA TA BA f M w X a g D Lo ((w.alloc (.cells #[.int .i64 q.k, .int .u32 q.c, .int .u32 q.n, .int .u64 q.sp, .int .u32 q.sl, .int .u64 q.ap, .int .u32 q.al, .string (bs q.key), .string (bs q.hi), .int .i64 q.lim, .int .u8 q.pt, .slice wa q.ws.length wc, .slice sa q.sk.length sc] 36)).alloc (.cells #[.int .i64 0, .int .i64 0, .bool false, .string ⟨#[]⟩, .slice none 0 0, .int .u32 0, .int .u32 0, .int .u64 0, .int .u32 0, .int .u64 0, .int .u32 0, .string ⟨#[]⟩, .int .u64 0, .int .u32 0] 43))) := by
  show Cx _ _ _ _ _ _ _ _ _ _ _ _
  have h1 := ((Cx.start h).new E #[.int .i64 q.k, .int .u32 q.c, .int .u32 q.n, .int .u64 q.sp, .int .u32 q.sl, .int .u64 q.ap, .int .u32 q.al, .string (bs q.key), .string (bs q.hi), .int .i64 q.lim, .int .u8 q.pt, .slice wa q.ws.length wc, .slice sa q.sk.length sc] 36 (by decide)).new E #[.int .i64 0, .int .i64 0, .bool false, .string ⟨#[]⟩, .slice none 0 0, .int .u32 0, .int .u32 0, .int .u64 0, .int .u32 0, .int .u64 0, .int .u32 0, .string ⟨#[]⟩, .int .u64 0, .int .u32 0] 43 (by decide)
  rw [size_al2, ← hb1, ← hLo] at h1
  exact h1
 have SB : Hid (∀ (X : Sd) (D : Drm.Dr) W, Cx SA TA BA f M w X a g D Lo W → W.cell? ⟨w.heap.size, 1, none⟩ = some (.int .u32 q.c) ∧ W.cell? ⟨w.heap.size, 2, none⟩ = some (.int .u32 q.n) ∧ W.cell? ⟨w.heap.size, 3, none⟩ = some (.int .u64 q.sp) ∧ W.cell? ⟨w.heap.size, 4, none⟩ = some (.int .u32 q.sl) ∧ W.cell? ⟨w.heap.size, 7, none⟩ = some (.string (bs q.key)) ∧ W.cell? ⟨w.heap.size, 11, none⟩ = some (.slice wa q.ws.length wc)) := fun X D W hW => by
  subst hLo
  exact ⟨hW.has.cell (.tail _ (.head _)) rfl, hW.has.cell (.tail _ (.head _)) rfl, hW.has.cell (.tail _ (.head _)) rfl, hW.has.cell (.tail _ (.head _)) rfl, hW.has.cell (.tail _ (.head _)) rfl, hW.has.cell (.tail _ (.head _)) rfl⟩
 have SP : Hid (∀ (X : Sd) (D : Drm.Dr) W, Cx SA TA BA f M w X a g D Lo W → W.heap[b1]? = some (.cells #[.int .i64 0, .int .i64 0, .bool false, .string ⟨#[]⟩, .slice none 0 0, .int .u32 0, .int .u32 0, .int .u64 0, .int .u32 0, .int .u64 0, .int .u32 0, .string ⟨#[]⟩, .int .u64 0, .int .u32 0] 43 (0, 0))) := fun X D W hW => by
  subst hLo
  exact hW.has _ (.head _)
 have HR : Hid (∀ (X : Sd) (D : Drm.Dr) W (v0 v1 v2 v3 v4 v5 v6 v7 v8 v9 v10 v11 v12 v13 : Value), Cx SA TA BA f M w X a g D Lo W → ShTo SA TA BA f M w X a g D ((((((((((((((W.setCell ⟨b1, 0, none⟩ v0).setCell ⟨b1, 1, none⟩ v1).setCell ⟨b1, 2, none⟩ v2).setCell ⟨b1, 3, none⟩ v3).setCell ⟨b1, 4, none⟩ v4).setCell ⟨b1, 5, none⟩ v5).setCell ⟨b1, 6, none⟩ v6).setCell ⟨b1, 7, none⟩ v7).setCell ⟨b1, 8, none⟩ v8).setCell ⟨b1, 9, none⟩ v9).setCell ⟨b1, 10, none⟩ v10).setCell ⟨b1, 11, none⟩ v11).setCell ⟨b1, 12, none⟩ v12).setCell ⟨b1, 13, none⟩ v13)) := fun X D W v0 v1 v2 v3 v4 v5 v6 v7 v8 v9 v10 v11 v12 v13 hW => by
  subst hLo
  exact hW.ret14 E (.head _) (by omega)
 have ON : Hid (∀ (X : Sd) (D : Drm.Dr) W W', Cx SA TA BA f M w X a g D Lo W → Bz W W' → Cx SA TA BA f M w X a g D Lo W') := fun X D W W' hW hb => hW.on E hb
 have NW : Hid (∀ (X : Sd) (D : Drm.Dr) W cs, Cx SA TA BA f M w X a g D Lo W → Cx SA TA BA f M w X a g D ((W.heap.size, .cells cs 32 (0, 0)) :: Lo) (W.alloc (.cells cs 32 (0, 0)))) := fun X D W cs hW => hW.new E cs 32 (by decide)
 have CR : Hid (∀ e W, Calls Tryz.prog 46 #[.int .i64 e] W fun r w' => r = .returned (.agg #[.int .i64 0, .int .i64 e, .bool false, .string ⟨#[]⟩, .slice none 0 0, .int .u32 0, .int .u32 0, .int .u64 0, .int .u32 0, .int .u64 0, .int .u32 0, .string ⟨#[]⟩, .int .u64 0, .int .u32 0]) ∧ Below W.heap.size W w') := fun e W => refused46 e W
 have CS : Hid (∀ k p l W, Calls Tryz.prog 193 #[.int .i64 k, .agg #[.int .u64 p, .int .u32 l]] W fun e w' => e = .returned (.agg #[.int .i64 k, .int .i64 0, .bool false, .string ⟨#[]⟩, .slice none 0 0, .int .u32 0, .int .u32 0, .int .u64 0, .int .u32 0, .int .u64 p, .int .u32 l, .string ⟨#[]⟩, .int .u64 0, .int .u32 0]) ∧ Below W.heap.size W w') := fun k p l W => said193 k p l W
 obtain ⟨kr, kz, hkv, hkz, hkr⟩ := kn_parts (knownF q.c q.n X)
 have CK : Hid (∀ W, Cx SA TA BA f M w X a g D Lo W → Calls Tryz.prog 191 #[.pointer (some ⟨f.sb, 0, none⟩), .agg #[.int .u32 q.c, .int .u32 q.n]] W fun e w' => e = .returned (.tuple #[.agg #[.int .i64 kr.k, .int .i64 kr.err, .bool kr.found, .string (bs kr.val), .slice none 0 0, .int .u32 kr.c, .int .u32 kr.n, .int .u64 kr.sp, .int .u32 kr.sl, .int .u64 kr.ap, .int .u32 kr.al, .string (bs kr.prim), .int .u64 kr.np, .int .u32 kr.nl], .bool kz]) ∧ Cx SA TA BA f M w X a g D Lo w') := fun W hW => by
  obtain ⟨M9, h9, -, -⟩ := hW.sh
  have := known191 E q.c q.n h9 (by omega) hq.c
  rw [hkv] at this
  exact this.mono fun e w' h => ⟨h.1, hW.on E h.2⟩
 obtain ⟨⟨ok, ox⟩, oz, hov, hoz, hox⟩ := fs_parts (ownF q.c q.n X)
 have CW : Hid (∀ W, Cx SA TA BA f M w X a g D Lo W → Calls Tryz.prog 192 #[.pointer (some ⟨f.sb, 0, none⟩), .agg #[.int .u32 q.c, .int .u32 q.n]] W fun e w' => e = .returned (.tuple #[.agg #[.int .u32 ox.c, .int .u32 ox.n, .int .u64 ox.sp, .int .u32 ox.sl, .int .u64 ox.mp, .int .u32 ox.ml, .string (bs ox.prim), .string (bs ok), .string (bs ox.val), .bool ox.dead], .bool oz]) ∧ Cx SA TA BA f M w X a g D Lo w') := fun W hW => by
  obtain ⟨M9, h9, -, -⟩ := hW.sh
  have := own192 E q.c q.n h9 (by omega)
  rw [hov] at this
  exact this.mono fun e w' h => ⟨h.1, hW.on E h.2⟩
 have SN : Hid (∀ W, Cx SA TA BA f M w X a g D Lo W → W.cell? ⟨w.heap.size, 3, none⟩ = some (.int .u64 q.sp) ∧ W.cell? ⟨w.heap.size, 4, none⟩ = some (.int .u32 q.sl) ∧ W.cell? ⟨f.sb, 5, none⟩ = some (.int .u64 X.sp) ∧ W.cell? ⟨f.sb, 6, none⟩ = some (.int .u32 X.sl)) := fun W hW => ⟨(SB.out _ _ _ hW).2.2.1, (SB.out _ _ _ hW).2.2.2.1, hW.nums.1, hW.nums.2.1⟩
 have CL : Hid (∀ W, Cx SA TA BA f M w X a g D Lo W → Calls Tryz.prog 113 #[.agg #[.int .u64 q.sp, .int .u32 q.sl], .agg #[.int .u64 X.sp, .int .u32 X.sl]] W fun r w' => r = .returned (.bool (Clk.lessB q.sp q.sl X.sp X.sl)) ∧ Cx SA TA BA f M w X a g D Lo w') := fun W hW => (Clk.less17 q.sp q.sl X.sp X.sl W).mono fun r w' h => ⟨h.1, hW.on E h.2⟩
 have DW : Hid (∀ W, Cx SA TA BA f M w X a g D Lo W → Cx SA TA BA f M w X a g D Lo W.drew) := fun W hW => hW.drew E
 have CC : Hid (∀ (k : List UInt8) W, Cx SA TA BA f M w X a g D Lo W → Calls Tryz.prog 194 #[.pointer (some ⟨f.sb, 0, none⟩), .string (bs k), .agg #[.int .u64 q.sp, .int .u32 q.sl]] W fun e w' => ∃ cr cz, e = .returned (.tuple #[.agg #[.int .i64 cr.k, .int .i64 cr.err, .bool cr.found, .string (bs cr.val), .slice none 0 0, .int .u32 cr.c, .int .u32 cr.n, .int .u64 cr.sp, .int .u32 cr.sl, .int .u64 cr.ap, .int .u32 cr.al, .string (bs cr.prim), .int .u64 cr.np, .int .u32 cr.nl], .bool cz]) ∧ Cx SA TA BA f M w X a g D Lo w' ∧ Hid (cz = (contF k q.sp q.sl X).isSome ∧ ∀ x, contF k q.sp q.sl X = some x → cr = x)) := fun k W hW => by
  obtain ⟨M9, h9, -, -⟩ := hW.sh
  obtain ⟨cr, cz, hcv, hcz, hcr⟩ := kn_parts (contF k q.sp q.sl X)
  have := contest194 E k q.sp q.sl h9 (by omega)
  rw [hcv] at this
  exact this.mono fun e w' h => ⟨cr, cz, h.1, hW.on E h.2, hcz, hcr⟩
 have RW : Hid (∀ (m : Nat) W, m < q.ws.length → Cx SA TA BA f M w X a g D Lo W → ∃ b off, wa = some ⟨b, off, none⟩ ∧ W.cell? ⟨b, off + m * 3, none⟩ = some (.string (bs (q.ws.getD m ⟨[], [], false⟩).key)) ∧ W.cell? ⟨b, off + m * 3 + 1, none⟩ = some (.string (bs (q.ws.getD m ⟨[], [], false⟩).val)) ∧ W.cell? ⟨b, off + m * 3 + 2, none⟩ = some (.bool (q.ws.getD m ⟨[], [], false⟩).dead)) := fun m W hm hW => by
  obtain ⟨b, off, e, hc⟩ := rowC_el (vc := Lat.wrc) (sz := 3) (fun _ => rfl) ⟨[], [], false⟩ (by omega) rfl (hi.kept hW.kp) hm
  exact ⟨b, off, e, hc 0 _ (by omega) rfl, hc 1 _ (by omega) rfl, hc 2 _ (by omega) rfl⟩
 have hhe := hear_ok (f := ph) (a := a) (D := D) hq.s hX
 have CH : Hid (∀ W, Cx SA TA BA f M w X a g D Lo W → Calls Tryz.prog 195 #[.pointer (some ⟨f.sb, 0, none⟩), .int .u64 ph, .agg #[.int .u64 q.sp, .int .u32 q.sl]] W fun r w' => r = .returned (.int .i64 (hearF ph q.sp q.sl X a D).1) ∧ Cx SA TA BA f M w (hearF ph q.sp q.sl X a D).2.1 a g (hearF ph q.sp q.sl X a D).2.2 Lo w') := fun W hW => hW.calls fun M' hM => hear195 E ph q.sp q.sl hM (by omega) hX hph hq.s
 obtain ⟨t1, t2, t3, hti⟩ : ∃ t1 t2 t3, Clk.tickF (hearF ph q.sp q.sl X a D).2.1.np (hearF ph q.sp q.sl X a D).2.1.nl ph = (t1, t2, t3) := ⟨_, _, _, rfl⟩
 have htt := tick_ts (f := ph) hhe.2.n hph
 rw [hti] at HL0 htt
 dsimp only at HL0 htt
 have CT : Hid (∀ W, Calls Tryz.prog 196 #[.agg #[.int .u64 (hearF ph q.sp q.sl X a D).2.1.np, .int .u32 (hearF ph q.sp q.sl X a D).2.1.nl], .int .u64 ph] W fun e w' => e = .returned (.tuple #[.agg #[.int .u64 t1, .int .u32 t2], .int .i64 t3]) ∧ Below W.heap.size W w') := fun W => by
  have := Clk.tick9 (hearF ph q.sp q.sl X a D).2.1.np (hearF ph q.sp q.sl X a D).2.1.nl ph W hhe.2.n.1.1 hhe.2.n.2.1 hph
  rw [hti] at this
  exact this
 have hav := adv_ok (a := a) (D := (hearF ph q.sp q.sl X a D).2.2) htt hhe.2
 have CV : Hid (∀ W Lo, Cx SA TA BA f M w (hearF ph q.sp q.sl X a D).2.1 a g (hearF ph q.sp q.sl X a D).2.2 Lo W → Calls Tryz.prog 197 #[.pointer (some ⟨f.sb, 0, none⟩), .agg #[.int .u64 t1, .int .u32 t2]] W fun r w' => r = .returned (.int .i64 (advF t1 t2 (hearF ph q.sp q.sl X a D).2.1 a (hearF ph q.sp q.sl X a D).2.2).1) ∧ Cx SA TA BA f M w (advF t1 t2 (hearF ph q.sp q.sl X a D).2.1 a (hearF ph q.sp q.sl X a D).2.2).2.1 a g (advF t1 t2 (hearF ph q.sp q.sl X a D).2.1 a (hearF ph q.sp q.sl X a D).2.2).2.2 Lo w') := fun W Lo hW => hW.calls fun M' hM => advance197 E t1 t2 hM (by rw [hhe.1.wt]; omega) hhe.2.t htt
 have CN : Hid (∀ W Lo, Cx SA TA BA f M w (advF t1 t2 (hearF ph q.sp q.sl X a D).2.1 a (hearF ph q.sp q.sl X a D).2.2).2.1 a g (advF t1 t2 (hearF ph q.sp q.sl X a D).2.1 a (hearF ph q.sp q.sl X a D).2.2).2.2 Lo W → Calls Tryz.prog 198 #[.pointer (some ⟨f.sb, 0, none⟩), .agg #[.int .i64 2, .int .u32 q.c, .int .u32 q.n, .int .u64 q.sp, .int .u32 q.sl, .int .u64 0, .int .u32 0, .int .u64 t1, .int .u32 t2, .string (bs q.key), .int .u8 0, .bool false, .slice wa q.ws.length wc]] W fun r w' => r = .returned (.int .i64 (noteF (eLay q.c q.n q.sp q.sl t1 t2 q.key q.ws) (advF t1 t2 (hearF ph q.sp q.sl X a D).2.1 a (hearF ph q.sp q.sl X a D).2.2).2.1 a (advF t1 t2 (hearF ph q.sp q.sl X a D).2.1 a (hearF ph q.sp q.sl X a D).2.2).2.2).1) ∧ Cx SA TA BA f M w (noteF (eLay q.c q.n q.sp q.sl t1 t2 q.key q.ws) (advF t1 t2 (hearF ph q.sp q.sl X a D).2.1 a (hearF ph q.sp q.sl X a D).2.2).2.1 a (advF t1 t2 (hearF ph q.sp q.sl X a D).2.1 a (hearF ph q.sp q.sl X a D).2.2).2.2).2.1 a g (noteF (eLay q.c q.n q.sp q.sl t1 t2 q.key q.ws) (advF t1 t2 (hearF ph q.sp q.sl X a D).2.1 a (hearF ph q.sp q.sl X a D).2.2).2.1 a (advF t1 t2 (hearF ph q.sp q.sl X a D).2.1 a (hearF ph q.sp q.sl X a D).2.2).2.2).2.2 Lo w') := fun W Lo hW => by
  obtain ⟨M9, h9, h8, h7⟩ := hW.sh
  have := note198 (hcase := .inr (.inl rfl)) E (eLay q.c q.n q.sp q.sl t1 t2 q.key q.ws) wa wc h9 (by rw [hav.1.wt, hhe.1.wt]; omega) hav.2.t (ok_lay hq.c hq.s htt hk hw) (by have := (Lat.right_parts hw).2.2.2; show q.ws.length ≤ 100; omega) ⟨hi.kept hW.kp, fun h1 k hk hm => by
   rcases h8 k hm with e1 | e1
   ·exact hi.not h1 k hk e1
   ·have := hi.lt h1 hk
    omega⟩
  rw [enV_lay hq.c hq.s htt] at this
  exact this.mono fun r w' h => ⟨h.1, hW.next h8 h7 h.2⟩
 have LS : Hid (∀ (X : Sd) (D : Drm.Dr) W p, Cx SA TA BA f M w X a g D (p :: Lo) W → Cx SA TA BA f M w X a g D Lo W) := fun X D W p hW => hW.less (fun x hx => .tail _ hx)
 have ONL : Hid (∀ (X : Sd) (D : Drm.Dr) W W' Lo, Cx SA TA BA f M w X a g D Lo W → Bz W W' → Cx SA TA BA f M w X a g D Lo W') := fun X D W W' Lo hW hb => hW.on E hb
 have SQ : Hid (∀ (X : Sd) (D : Drm.Dr) W bl, Cx SA TA BA f M w X a g D ((bl, .cells #[.int .u64 t1, .int .u32 t2] 32 (0, 0)) :: Lo) W → W.cell? ⟨bl, 0, none⟩ = some (.int .u64 t1) ∧ W.cell? ⟨bl, 1, none⟩ = some (.int .u32 t2)) := fun X D W bl hW => ⟨hW.has.cell (.head _) rfl, hW.has.cell (.head _) rfl⟩
 have SH : Hid (∀ (X : Sd) (D : Drm.Dr) W, Cx SA TA BA f M w X a g D Lo W → W.cell? ⟨f.sb, 7, none⟩ = some (.int .u64 X.np) ∧ W.cell? ⟨f.sb, 8, none⟩ = some (.int .u32 X.nl)) := fun X D W hW => ⟨hW.nums.2.2.1, hW.nums.2.2.2.1⟩
 have HWl : Hid (q.ws.length ≤ 16) := (Lat.right_parts hw).2.2.2
 have hw9 : q.ws.length < 9223372036854775808 := by have := HWl.out; omega
 have HL : Hid _ := HL0
 generalize layFn ph q X a D = Y at *
 generalize noteF (eLay q.c q.n q.sp q.sl t1 t2 q.key q.ws) (advF t1 t2 (hearF ph q.sp q.sl X a D).2.1 a (hearF ph q.sp q.sl X a D).2.2).2.1 a (advF t1 t2 (hearF ph q.sp q.sl X a D).2.1 a (hearF ph q.sp q.sl X a D).2.2).2.2 = N at *
 generalize advF t1 t2 (hearF ph q.sp q.sl X a D).2.1 a (hearF ph q.sp q.sl X a D).2.2 = V at *
 generalize hearF ph q.sp q.sl X a D = H at *
 obtain ⟨n0, Xn, Dn⟩ := N
 obtain ⟨v0, Xv, Dv⟩ := V
 obtain ⟨h0, Xh, Dh⟩ := H
 dsimp only at CH CT CV CN HL
 have HKz : Hid (kz = (knownF q.c q.n X).isSome ∧ ∀ x, knownF q.c q.n X = some x → kr = x) := ⟨hkz, hkr⟩
 have HOz : Hid (oz = (ownF q.c q.n X).isSome ∧ ∀ x, ownF q.c q.n X = some x → (ok, ox) = x) := ⟨hoz, hox⟩
 clear hLo h ht hX hph hq hk hw hi E HL0 hhe htt hti hav hkv hkz hkr hov hoz hox
 generalize hlb : Clk.lessB q.sp q.sl X.sp X.sl = lb at *
 clear hlb
 obtain ⟨W2, hW2⟩ : ∃ W2, (w.alloc (.cells #[.int .i64 q.k, .int .u32 q.c, .int .u32 q.n, .int .u64 q.sp, .int .u32 q.sl, .int .u64 q.ap, .int .u32 q.al, .string (bs q.key), .string (bs q.hi), .int .i64 q.lim, .int .u8 q.pt, .slice wa q.ws.length wc, .slice sa q.sk.length sc] 36)).alloc (.cells #[.int .i64 0, .int .i64 0, .bool false, .string ⟨#[]⟩, .slice none 0 0, .int .u32 0, .int .u32 0, .int .u64 0, .int .u32 0, .int .u64 0, .int .u32 0, .string ⟨#[]⟩, .int .u64 0, .int .u32 0] 43) = W2 := ⟨_, rfl⟩
 rw [hW2] at H0
 go_enter Tryz.func94, Tryz.ntmps94
 go_wp2_with fail
 rw [← hb1]
 clear hW2 hb1
 go_region_held3 (fun W => W.cell? ⟨w.heap.size, 3, none⟩ = some (.int .u64 q.sp) ∧ W.cell? ⟨w.heap.size, 4, none⟩ = some (.int .u32 q.sl) ∧ W.cell? ⟨f.sb, 5, none⟩ = some (.int .u64 X.sp) ∧ W.cell? ⟨f.sb, 6, none⟩ = some (.int .u32 X.sl))
  (first | exact SN.out _ H0.out | exact SN.out _ (DW.out _ H0.out) | exact SN.out _ H2.out)
  (first
  | (go_at_call 113; refine (CL.out _ (DW.out _ H0.out)).mono ?_; rintro e w2 ⟨rfl, hq⟩; have H2 : Hid _ := hq; clear hq))
 rename_i hHeld
 clear hHeld CL DW SN H0
 cases lb
 case true =>
  have HE : Hid (Y = (refR 30, X, D)) := HL.out
  go_wp2_with fail
  refine (CR.out _ _).mono ?_
  rintro e w3 ⟨rfl, hb⟩
  have H3 : Hid _ := ON.out _ _ _ _ H2.out hb
  clear hb
  obtain ⟨z0, z1, z2, z3, z4, z5, z6, z7, z8, z9, z10, z11, z12, z13, g0, g1, g2, g3, g4, g5, g6, g7, g8, g9, g10, g11, g12, g13⟩ := free14 (SP.out _ _ _ H3.out)
  go_wp2_with fail
  refine bodyPost_ret (res14 rfl rfl rfl (set14 (SP.out _ _ _ H3.out))) rfl ?_
  rw [HE.out]
  exact ⟨rfl, HR.out _ _ _ _ _ _ _ _ _ _ _ _ _ _ _ _ _ H3.out⟩
 case false =>
  obtain ⟨c1, c2, -, -, -, -⟩ := SB.out _ _ _ H2.out
  go_wp2_with fail
  refine (CK.out _ H2.out).mono ?_
  rintro e w3 ⟨rfl, hq⟩
  have H3 : Hid _ := hq
  clear hq CK c1 c2 H2
  have hob : (w3.alloc (.cells #[.int .i64 kr.k, .int .i64 kr.err, .bool kr.found, .string (bs kr.val), .slice none 0 0, .int .u32 kr.c, .int .u32 kr.n, .int .u64 kr.sp, .int .u32 kr.sl, .int .u64 kr.ap, .int .u32 kr.al, .string (bs kr.prim), .int .u64 kr.np, .int .u32 kr.nl] 43)).heap[w3.heap.size]? = some (.cells #[.int .i64 kr.k, .int .i64 kr.err, .bool kr.found, .string (bs kr.val), .slice none 0 0, .int .u32 kr.c, .int .u32 kr.n, .int .u64 kr.sp, .int .u32 kr.sl, .int .u64 kr.ap, .int .u32 kr.al, .string (bs kr.prim), .int .u64 kr.np, .int .u32 kr.nl] 43 (0, 0)) := heap_alloc_new w3 _
  have H4 : Hid (Cx SA TA BA f M w X a g D Lo (w3.alloc (.cells #[.int .i64 kr.k, .int .i64 kr.err, .bool kr.found, .string (bs kr.val), .slice none 0 0, .int .u32 kr.c, .int .u32 kr.n, .int .u64 kr.sp, .int .u32 kr.sl, .int .u64 kr.ap, .int .u32 kr.al, .string (bs kr.prim), .int .u64 kr.np, .int .u32 kr.nl] 43))) := ON.out _ _ _ _ H3.out ((Below.refl _ _).alloc (Nat.le_refl _) _)
  obtain ⟨W4, hW4⟩ : ∃ W4, w3.alloc (.cells #[.int .i64 kr.k, .int .i64 kr.err, .bool kr.found, .string (bs kr.val), .slice none 0 0, .int .u32 kr.c, .int .u32 kr.n, .int .u64 kr.sp, .int .u32 kr.sl, .int .u64 kr.ap, .int .u32 kr.al, .string (bs kr.prim), .int .u64 kr.np, .int .u32 kr.nl] 43) = W4 := ⟨_, rfl⟩
  rw [hW4] at hob H4
  cases kz
  case true =>
   have HE : Hid (Y = (kr, X, D)) := by
    show _ = _
    rw [HL.out]
    cases hkn : knownF q.c q.n X with
    | none => have := HKz.out.1; rw [hkn] at this; cases this
    | some r => rw [HKz.out.2 r hkn]; rfl
   obtain ⟨i0, i1, i2, i3, i4, i5, i6, i7, i8, i9, i10, i11, i12, i13, -⟩ := free14 hob
   clear hob CW CC CH CT CV CN RW
   obtain ⟨z0, z1, z2, z3, z4, z5, z6, z7, z8, z9, z10, z11, z12, z13, g0, g1, g2, g3, g4, g5, g6, g7, g8, g9, g10, g11, g12, g13⟩ := free14 (SP.out _ _ _ H4.out)
   go_wp2_with fail
   refine bodyPost_ret (res14 rfl rfl rfl (set14 (SP.out _ _ _ H4.out))) rfl ?_
   rw [HE.out]
   exact ⟨rfl, HR.out _ _ _ _ _ _ _ _ _ _ _ _ _ _ _ _ _ H4.out⟩
  case false =>
   have hkn : knownF q.c q.n X = none := by
    cases hkn : knownF q.c q.n X with
    | none => rfl
    | some r => have := HKz.out.1; rw [hkn] at this; cases this
   rw [hkn] at HL
   clear hob HKz hkn
   obtain ⟨c1, c2, -, -, -, -⟩ := SB.out _ _ _ H4.out
   go_wp2_with fail
   refine (CW.out _ H4.out).mono ?_
   rintro e w5 ⟨rfl, hq⟩
   have H5 : Hid _ := hq
   clear hq CW c1 c2 H4 hW4 H3
   have hob : (w5.alloc (.cells #[.int .u32 ox.c, .int .u32 ox.n, .int .u64 ox.sp, .int .u32 ox.sl, .int .u64 ox.mp, .int .u32 ox.ml, .string (bs ox.prim), .string (bs ok), .string (bs ox.val), .bool ox.dead] 146)).heap[w5.heap.size]? = some (.cells #[.int .u32 ox.c, .int .u32 ox.n, .int .u64 ox.sp, .int .u32 ox.sl, .int .u64 ox.mp, .int .u32 ox.ml, .string (bs ox.prim), .string (bs ok), .string (bs ox.val), .bool ox.dead] 146 (0, 0)) := heap_alloc_new w5 _
   have H6 : Hid (Cx SA TA BA f M w X a g D Lo (w5.alloc (.cells #[.int .u32 ox.c, .int .u32 ox.n, .int .u64 ox.sp, .int .u32 ox.sl, .int .u64 ox.mp, .int .u32 ox.ml, .string (bs ox.prim), .string (bs ok), .string (bs ox.val), .bool ox.dead] 146))) := ON.out _ _ _ _ H5.out ((Below.refl _ _).alloc (Nat.le_refl _) _)
   obtain ⟨W6, hW6⟩ : ∃ W6, w5.alloc (.cells #[.int .u32 ox.c, .int .u32 ox.n, .int .u64 ox.sp, .int .u32 ox.sl, .int .u64 ox.mp, .int .u32 ox.ml, .string (bs ox.prim), .string (bs ok), .string (bs ox.val), .bool ox.dead] 146) = W6 := ⟨_, rfl⟩
   rw [hW6] at hob H6
   cases oz
   case true =>
    have HE : Hid (Y = (saidR 4 ox.mp ox.ml, X, D)) := by
     show _ = _
     rw [HL.out]
     cases hkn : ownF q.c q.n X with
     | none => have := HOz.out.1; rw [hkn] at this; cases this
     | some r => rw [← HOz.out.2 r hkn]; rfl
    have i4 := Drm.blk_cell (k := 4) (u := .int .u64 ox.mp) hob rfl
    have i5 := Drm.blk_cell (k := 5) (u := .int .u32 ox.ml) hob rfl
    clear hob CC CH CT CV CN RW
    go_wp2_with fail
    refine (CS.out _ _ _ _).mono ?_
    rintro e w7 ⟨rfl, hb⟩
    have H7 : Hid _ := ON.out _ _ _ _ H6.out hb
    clear hb i4 i5
    obtain ⟨z0, z1, z2, z3, z4, z5, z6, z7, z8, z9, z10, z11, z12, z13, g0, g1, g2, g3, g4, g5, g6, g7, g8, g9, g10, g11, g12, g13⟩ := free14 (SP.out _ _ _ H7.out)
    go_wp2_with fail
    refine bodyPost_ret (res14 rfl rfl rfl (set14 (SP.out _ _ _ H7.out))) rfl ?_
    rw [HE.out]
    exact ⟨rfl, HR.out _ _ _ _ _ _ _ _ _ _ _ _ _ _ _ _ _ H7.out⟩
   case false =>
    have hkn : ownF q.c q.n X = none := by
     cases hkn : ownF q.c q.n X with
     | none => rfl
     | some r => have := HOz.out.1; rw [hkn] at this; cases this
    rw [hkn] at HL
    clear hob HOz hkn
    obtain ⟨-, -, -, -, -, c11⟩ := SB.out _ _ _ H6.out
    go_wp2_with fail
    clear hW6
    go_loopw [52] (fun i wr => ∃ m : Nat, m ≤ q.ws.length ∧ i = .int .i64 m ∧ (q.ws.take m).findSome? (fun w => contF w.key q.sp q.sl X) = none ∧ Cx SA TA BA f M w X a g D Lo wr) (fun i _ => q.ws.length - (intOf i).toNat)
    case atStart => exact ⟨0, Nat.zero_le _, rfl, rfl, H6.out⟩
    case round =>
     obtain ⟨m, hm, rfl, hno, hcx⟩ := hrel
     have HC : Hid _ := hcx
     have HNo : Hid _ := hno
     clear hcx hno c11 H6 H5
     by_cases hml : m < q.ws.length
     ·obtain ⟨b, off, rfl, e0, e1, e2⟩ := RW.out m wr hml HC.out
      have hml' : (m : Int) < q.ws.length := by omega
      have HA : Hid (∀ r, contF (q.ws.getD m ⟨[], [], false⟩).key q.sp q.sl X = some r → q.ws.findSome? (fun w => contF w.key q.sp q.sl X) = some r) := fun r hr => fs_at _ hml HNo.out hr
      have HT : Hid (contF (q.ws.getD m ⟨[], [], false⟩).key q.sp q.sl X = none → (q.ws.take (m + 1)).findSome? (fun w => contF w.key q.sp q.sl X) = none) := fun hr => fs_step (d := ⟨[], [], false⟩) _ hml HNo.out hr
      have HQ : Hid (m + 1 ≤ q.ws.length) := hml
      generalize q.ws.getD m ⟨[], [], false⟩ = x at *
      have hob : (wr.alloc (.cells #[.string (bs x.key), .string (bs x.val), .bool x.dead] 144)).heap[wr.heap.size]? = some (.cells #[.string (bs x.key), .string (bs x.val), .bool x.dead] 144 (0, 0)) := heap_alloc_new wr _
      have H7 : Hid (Cx SA TA BA f M w X a g D Lo (wr.alloc (.cells #[.string (bs x.key), .string (bs x.val), .bool x.dead] 144))) := ON.out _ _ _ _ HC.out ((Below.refl _ _).alloc (Nat.le_refl _) _)
      obtain ⟨W7, hW7⟩ : ∃ W7, wr.alloc (.cells #[.string (bs x.key), .string (bs x.val), .bool x.dead] 144) = W7 := ⟨_, rfl⟩
      rw [hW7] at hob H7
      have i0 := Drm.blk_cell (k := 0) (u := .string (bs x.key)) hob rfl
      obtain ⟨-, -, c3, c4, -, -⟩ := SB.out _ _ _ H7.out
      clear hob
      go_wp2_with fail
      refine (CC.out x.key _ H7.out).mono ?_
      rintro e w8 ⟨cr, cz, rfl, hq, hp⟩
      have H8 : Hid _ := hq
      have HP8 : Hid _ := hp.out
      clear hq hp i0 c3 c4 e0 e1 e2 hW7 H7
      have hob : (w8.alloc (.cells #[.int .i64 cr.k, .int .i64 cr.err, .bool cr.found, .string (bs cr.val), .slice none 0 0, .int .u32 cr.c, .int .u32 cr.n, .int .u64 cr.sp, .int .u32 cr.sl, .int .u64 cr.ap, .int .u32 cr.al, .string (bs cr.prim), .int .u64 cr.np, .int .u32 cr.nl] 43)).heap[w8.heap.size]? = some (.cells #[.int .i64 cr.k, .int .i64 cr.err, .bool cr.found, .string (bs cr.val), .slice none 0 0, .int .u32 cr.c, .int .u32 cr.n, .int .u64 cr.sp, .int .u32 cr.sl, .int .u64 cr.ap, .int .u32 cr.al, .string (bs cr.prim), .int .u64 cr.np, .int .u32 cr.nl] 43 (0, 0)) := heap_alloc_new w8 _
      have H9 : Hid (Cx SA TA BA f M w X a g D Lo (w8.alloc (.cells #[.int .i64 cr.k, .int .i64 cr.err, .bool cr.found, .string (bs cr.val), .slice none 0 0, .int .u32 cr.c, .int .u32 cr.n, .int .u64 cr.sp, .int .u32 cr.sl, .int .u64 cr.ap, .int .u32 cr.al, .string (bs cr.prim), .int .u64 cr.np, .int .u32 cr.nl] 43))) := ON.out _ _ _ _ H8.out ((Below.refl _ _).alloc (Nat.le_refl _) _)
      obtain ⟨W9, hW9⟩ : ∃ W9, w8.alloc (.cells #[.int .i64 cr.k, .int .i64 cr.err, .bool cr.found, .string (bs cr.val), .slice none 0 0, .int .u32 cr.c, .int .u32 cr.n, .int .u64 cr.sp, .int .u32 cr.sl, .int .u64 cr.ap, .int .u32 cr.al, .string (bs cr.prim), .int .u64 cr.np, .int .u32 cr.nl] 43) = W9 := ⟨_, rfl⟩
      rw [hW9] at hob H9
      cases cz
      case true =>
       have HE : Hid (Y = (cr, X, D)) := by
        show _ = _
        rw [HL.out]
        cases hkn : contF x.key q.sp q.sl X with
        | none => have := HP8.out.1; rw [hkn] at this; cases this
        | some r => rw [HA.out r hkn, HP8.out.2 r hkn]; rfl
       obtain ⟨i0, i1, i2, i3, i4, i5, i6, i7, i8, i9, i10, i11, i12, i13, -⟩ := free14 hob
       clear hob CC CH CT CV CN RW
       obtain ⟨z0, z1, z2, z3, z4, z5, z6, z7, z8, z9, z10, z11, z12, z13, g0, g1, g2, g3, g4, g5, g6, g7, g8, g9, g10, g11, g12, g13⟩ := free14 (SP.out _ _ _ H9.out)
       go_wp2_with fail
       refine bodyPost_ret (res14 rfl rfl rfl (set14 (SP.out _ _ _ H9.out))) rfl ?_
       rw [HE.out]
       exact ⟨rfl, HR.out _ _ _ _ _ _ _ _ _ _ _ _ _ _ _ _ _ H9.out⟩
      case false =>
       have HT9 : Hid _ := HT.out (by
        cases hkn : contF x.key q.sp q.sl X with
        | none => rfl
        | some r => have := HP8.out.1; rw [hkn] at this; cases this)
       clear hob
       go_wp2_with fail
       go_roundw
       case rel => exact ⟨m + 1, HQ.out, by go_num, HT9.out, H9.out⟩
       case measure => simp [intOf]; omega
     ·have hml' : ¬ (m : Int) < q.ws.length := by omega
      have hfs : q.ws.findSome? (fun w => contF w.key q.sp q.sl X) = none := by
       have := HNo.out
       rw [List.take_of_length_le (by omega)] at this
       exact this
      rw [hfs] at HL
      clear hfs HNo hm CC RW
      obtain ⟨-, -, c3, c4, -, -⟩ := SB.out _ _ _ HC.out
      go_wp2_with fail
      refine (CH.out _ HC.out).mono ?_
      rintro e w7 ⟨rfl, hq⟩
      have H7 : Hid _ := hq
      clear hq CH c3 c4 HC
      by_cases hh : h0 = 0
      case neg =>
       have hh' : (h0 != 0) = true := by simp [hh]
       have HE : Hid (Y = (refR h0, Xh, Dh)) := by
        show _ = _
        rw [HL.out, if_pos hh]
        try rfl
       clear hh
       go_wp2_with fail
       refine (CR.out _ _).mono ?_
       rintro e w8 ⟨rfl, hb⟩
       have H8 : Hid _ := ON.out _ _ _ _ H7.out hb
       clear hb
       obtain ⟨z0, z1, z2, z3, z4, z5, z6, z7, z8, z9, z10, z11, z12, z13, g0, g1, g2, g3, g4, g5, g6, g7, g8, g9, g10, g11, g12, g13⟩ := free14 (SP.out _ _ _ H8.out)
       go_wp2_with fail
       refine bodyPost_ret (res14 rfl rfl rfl (set14 (SP.out _ _ _ H8.out))) rfl ?_
       rw [HE.out]
       exact ⟨rfl, HR.out _ _ _ _ _ _ _ _ _ _ _ _ _ _ _ _ _ H8.out⟩
      case pos =>
       subst hh
       obtain ⟨c7, c8⟩ := SH.out _ _ _ H7.out
       go_wp2_with fail
       refine (CT.out _).mono ?_
       rintro e w8 ⟨rfl, hb⟩
       have H8 : Hid _ := ON.out _ _ _ _ H7.out hb
       clear hb CT c7 c8 H7
       have H9 : Hid _ := NW.out _ _ _ #[.int .u64 t1, .int .u32 t2] H8.out
       obtain ⟨W9, hW9⟩ : ∃ W9, w8.alloc (.cells #[.int .u64 t1, .int .u32 t2] 32) = W9 := ⟨_, rfl⟩
       rw [hW9] at H9
       obtain ⟨bl, hbl⟩ : ∃ bl, w8.heap.size = bl := ⟨_, rfl⟩
       rw [hbl] at H9
       by_cases hh : t3 = 0
       case neg =>
        have hh' : (t3 != 0) = true := by simp [hh]
        have HE : Hid (Y = (refR t3, Xh, Dh)) := by
         show _ = _
         rw [HL.out, if_neg (by decide), if_pos hh]
         try rfl
        have H9b : Hid _ := LS.out _ _ _ _ H9.out
        clear hh
        go_wp2_with fail
        refine (CR.out _ _).mono ?_
        rintro e w10 ⟨rfl, hb⟩
        have H10 : Hid _ := ON.out _ _ _ _ H9b.out hb
        clear hb
        obtain ⟨z0, z1, z2, z3, z4, z5, z6, z7, z8, z9, z10, z11, z12, z13, g0, g1, g2, g3, g4, g5, g6, g7, g8, g9, g10, g11, g12, g13⟩ := free14 (SP.out _ _ _ H10.out)
        go_wp2_with fail
        refine bodyPost_ret (res14 rfl rfl rfl (set14 (SP.out _ _ _ H10.out))) rfl ?_
        rw [HE.out]
        exact ⟨rfl, HR.out _ _ _ _ _ _ _ _ _ _ _ _ _ _ _ _ _ H10.out⟩
       case pos =>
        subst hh
        obtain ⟨l0, l1⟩ := SQ.out _ _ _ _ H9.out
        go_wp2_with fail
        clear hW9 hbl
        refine (CV.out _ _ H9.out).mono ?_
        rintro e w10 ⟨rfl, hq⟩
        have H10 : Hid _ := hq
        clear hq CV l0 l1 H9
        by_cases hh : v0 = 0
        case neg =>
         have hh' : (v0 != 0) = true := by simp [hh]
         have HE : Hid (Y = (refR v0, Xv, Dv)) := by
          show _ = _
          rw [HL.out, if_neg (by decide), if_neg (by decide), if_pos hh]
          try rfl
         have H10b : Hid _ := LS.out _ _ _ _ H10.out
         clear hh
         go_wp2_with fail
         refine (CR.out _ _).mono ?_
         rintro e w11 ⟨rfl, hb⟩
         have H11 : Hid _ := ON.out _ _ _ _ H10b.out hb
         clear hb
         obtain ⟨z0, z1, z2, z3, z4, z5, z6, z7, z8, z9, z10, z11, z12, z13, g0, g1, g2, g3, g4, g5, g6, g7, g8, g9, g10, g11, g12, g13⟩ := free14 (SP.out _ _ _ H11.out)
         go_wp2_with fail
         refine bodyPost_ret (res14 rfl rfl rfl (set14 (SP.out _ _ _ H11.out))) rfl ?_
         rw [HE.out]
         exact ⟨rfl, HR.out _ _ _ _ _ _ _ _ _ _ _ _ _ _ _ _ _ H11.out⟩
        case pos =>
         subst hh
         have H10b : Hid _ := LS.out _ _ _ _ H10.out
         obtain ⟨c1, c2, c3, c4, c7, c11⟩ := SB.out _ _ _ H10b.out
         obtain ⟨l0, l1⟩ := SQ.out _ _ _ _ H10.out
         have hob : (w10.alloc (.cells #[.int .i64 2, .int .u32 q.c, .int .u32 q.n, .int .u64 q.sp, .int .u32 q.sl, .int .u64 0, .int .u32 0, .int .u64 t1, .int .u32 t2, .string (bs q.key), .int .u8 0, .bool false, .slice wa q.ws.length wc] 124)).heap[w10.heap.size]? = some (.cells #[.int .i64 2, .int .u32 q.c, .int .u32 q.n, .int .u64 q.sp, .int .u32 q.sl, .int .u64 0, .int .u32 0, .int .u64 t1, .int .u32 t2, .string (bs q.key), .int .u8 0, .bool false, .slice wa q.ws.length wc] 124 (0, 0)) := heap_alloc_new w10 _
         have H11 : Hid _ := ONL.out _ _ _ (w10.alloc (.cells #[.int .i64 2, .int .u32 q.c, .int .u32 q.n, .int .u64 q.sp, .int .u32 q.sl, .int .u64 0, .int .u32 0, .int .u64 t1, .int .u32 t2, .string (bs q.key), .int .u8 0, .bool false, .slice wa q.ws.length wc] 124)) _ H10.out ((Below.refl _ _).alloc (Nat.le_refl _) _)
         obtain ⟨W11, hW11⟩ : ∃ W11, w10.alloc (.cells #[.int .i64 2, .int .u32 q.c, .int .u32 q.n, .int .u64 q.sp, .int .u32 q.sl, .int .u64 0, .int .u32 0, .int .u64 t1, .int .u32 t2, .string (bs q.key), .int .u8 0, .bool false, .slice wa q.ws.length wc] 124) = W11 := ⟨_, rfl⟩
         rw [hW11] at hob H11
         have e0 := Drm.blk_cell (k := 0) hob rfl
         have e1 := Drm.blk_cell (k := 1) hob rfl
         have e2 := Drm.blk_cell (k := 2) hob rfl
         have e3 := Drm.blk_cell (k := 3) hob rfl
         have e4 := Drm.blk_cell (k := 4) hob rfl
         have e5 := Drm.blk_cell (k := 5) hob rfl
         have e6 := Drm.blk_cell (k := 6) hob rfl
         have e7 := Drm.blk_cell (k := 7) hob rfl
         have e8 := Drm.blk_cell (k := 8) hob rfl
         have e9 := Drm.blk_cell (k := 9) hob rfl
         have e10 := Drm.blk_cell (k := 10) hob rfl
         have e11 := Drm.blk_cell (k := 11) hob rfl
         have e12 := Drm.blk_cell (k := 12) hob rfl
         clear hob H10b
         go_wp2_with fail
         refine (CN.out _ _ H11.out).mono ?_
         rintro e w12 ⟨rfl, hq⟩
         have H12 : Hid _ := hq
         clear hq CN c1 c2 c3 c4 c7 c11 l0 l1 e0 e1 e2 e3 e4 e5 e6 e7 e8 e9 e10 e11 e12 hW11 H11 H10
         by_cases hh : n0 = 0
         case neg =>
          have hh' : (n0 != 0) = true := by simp [hh]
          have HE : Hid (Y = (refR n0, Xn, Dn)) := by
           show _ = _
           rw [HL.out, if_neg (by decide), if_neg (by decide), if_neg (by decide), if_pos hh]
           try rfl
          have H12b : Hid _ := LS.out _ _ _ _ H12.out
          clear hh
          go_wp2_with fail
          refine (CR.out _ _).mono ?_
          rintro e w13 ⟨rfl, hb⟩
          have H13 : Hid _ := ON.out _ _ _ _ H12b.out hb
          clear hb
          obtain ⟨z0, z1, z2, z3, z4, z5, z6, z7, z8, z9, z10, z11, z12, z13, g0, g1, g2, g3, g4, g5, g6, g7, g8, g9, g10, g11, g12, g13⟩ := free14 (SP.out _ _ _ H13.out)
          go_wp2_with fail
          refine bodyPost_ret (res14 rfl rfl rfl (set14 (SP.out _ _ _ H13.out))) rfl ?_
          rw [HE.out]
          exact ⟨rfl, HR.out _ _ _ _ _ _ _ _ _ _ _ _ _ _ _ _ _ H13.out⟩
         case pos =>
          subst hh
          have HE : Hid (Y = (saidR 4 t1 t2, Xn, Dn)) := by
           show _ = _
           rw [HL.out, if_neg (by decide), if_neg (by decide), if_neg (by decide), if_neg (by decide)]
           try rfl
          have H12b : Hid _ := LS.out _ _ _ _ H12.out
          obtain ⟨l0, l1⟩ := SQ.out _ _ _ _ H12.out
          go_wp2_with fail
          refine (CS.out _ _ _ _).mono ?_
          rintro e w13 ⟨rfl, hb⟩
          have H13 : Hid _ := ON.out _ _ _ _ H12b.out hb
          clear hb l0 l1
          obtain ⟨z0, z1, z2, z3, z4, z5, z6, z7, z8, z9, z10, z11, z12, z13, g0, g1, g2, g3, g4, g5, g6, g7, g8, g9, g10, g11, g12, g13⟩ := free14 (SP.out _ _ _ H13.out)
          go_wp2_with fail
          refine bodyPost_ret (res14 rfl rfl rfl (set14 (SP.out _ _ _ H13.out))) rfl ?_
          rw [HE.out]
          exact ⟨rfl, HR.out _ _ _ _ _ _ _ _ _ _ _ _ _ _ _ _ _ H13.out⟩
end Go.Proofs.YtajjnmdomabmkaaGreat
