import Derived.Test.YtajjnmdomabmkaaGreatWbh
set_option maxHeartbeats 4000000
set_option maxRecDepth 100000
set_option linter.unusedVariables false
namespace Go.Proofs.YtajjnmdomabmkaaGreat
open Go.RowKit
variable {SA : Nat → Nat → (Nat → Prop) → Sto.Sk → World → Prop} {TA : Nat → Nat → (Nat → Prop) → Lat.Tb → World → Prop} {BA : Nat → Nat → (Nat → Prop) → Ver.Bk → World → Prop}
variable {f : Fp} {M : Nat → Prop} {X : Sd} {a : Int} {g : Nat} {D : Drm.Dr} {w W W' : World} {Lo : List (Nat × Obj)}
theorem wt_T (h : X.wt < 9000) : X.T.length < 10000 := by
 unfold Sd.wt at h
 omega
theorem wt_K (h : X.wt < 9000) : X.K.length < 10000 := by
 unfold Sd.wt at h
 omega
theorem wt_S (h : X.wt < 9000) : Sto.totS X.S < 10000 := by
 unfold Sd.wt at h
 omega
theorem fol1 (E : Env SA TA BA) (c n sp sl ap al mp ml : Int) (prim : List UInt8) (pt : Int) (dn : Bool) (ao : Option Addr) (nw cp : Nat) (h : ShAt SA TA BA f M X a g D w)  :
  Calls Tryz.prog 44 #[.pointer (some ⟨f.sb, 0, none⟩), .agg #[.int .i64 1, .int .u32 c, .int .u32 n, .int .u64 sp, .int .u32 sl, .int .u64 ap, .int .u32 al, .int .u64 mp, .int .u32 ml, .string (bs prim), .int .u8 pt, .bool dn, .slice ao nw cp]] w fun e w' => e = .returned (.tuple #[]) ∧ ShTo SA TA BA f M w { X with bp := ap, bl := al } a g D w' := by
 obtain ⟨Lo, hLo⟩ : ∃ Lo : List (Nat × Obj), Lo = [(w.heap.size, .cells #[.int .i64 1, .int .u32 c, .int .u32 n, .int .u64 sp, .int .u32 sl, .int .u64 ap, .int .u32 al, .int .u64 mp, .int .u32 ml, .string (bs prim), .int .u8 pt, .bool dn, .slice ao nw cp] 124)] := ⟨_, rfl⟩
 have H1 : Hid (Cx SA TA BA f M w X a g D Lo (w.alloc (.cells #[.int .i64 1, .int .u32 c, .int .u32 n, .int .u64 sp, .int .u32 sl, .int .u64 ap, .int .u32 al, .int .u64 mp, .int .u32 ml, .string (bs prim), .int .u8 pt, .bool dn, .slice ao nw cp] 124))) := by
  rw [hLo]
  exact (Cx.start h).new E #[.int .i64 1, .int .u32 c, .int .u32 n, .int .u64 sp, .int .u32 sl, .int .u64 ap, .int .u32 al, .int .u64 mp, .int .u32 ml, .string (bs prim), .int .u8 pt, .bool dn, .slice ao nw cp] 124 (by decide)
 have SB : Hid (∀ W, Cx SA TA BA f M w X a g D Lo W → W.cell? ⟨w.heap.size, 0, none⟩ = some (.int .i64 1) ∧ W.cell? ⟨w.heap.size, 1, none⟩ = some (.int .u32 c) ∧ W.cell? ⟨w.heap.size, 2, none⟩ = some (.int .u32 n) ∧ W.cell? ⟨w.heap.size, 5, none⟩ = some (.int .u64 ap) ∧ W.cell? ⟨w.heap.size, 6, none⟩ = some (.int .u32 al) ∧ W.cell? ⟨f.sb, 5, none⟩ = some (.int .u64 X.sp) ∧ W.cell? ⟨f.sb, 6, none⟩ = some (.int .u32 X.sl) ∧ W.cell? ⟨f.sb, 9, none⟩ = some (.int .u64 X.bp) ∧ W.cell? ⟨f.sb, 10, none⟩ = some (.int .u32 X.bl) ∧ W.frozen? ⟨f.sb, 5, none⟩ = false ∧ W.frozen? ⟨f.sb, 6, none⟩ = false ∧ W.frozen? ⟨f.sb, 9, none⟩ = false ∧ W.frozen? ⟨f.sb, 10, none⟩ = false) := fun W hW => by
  subst hLo
  exact ⟨hW.has.cell (.head _) rfl, hW.has.cell (.head _) rfl, hW.has.cell (.head _) rfl, hW.has.cell (.head _) rfl, hW.has.cell (.head _) rfl, hW.nums.1, hW.nums.2.1, hW.nums.2.2.2.2.1, hW.nums.2.2.2.2.2, hW.free _, hW.free _, hW.free _, hW.free _⟩
 have DW : Hid (∀ (X : Sd) W, Cx SA TA BA f M w X a g D Lo W → Cx SA TA BA f M w X a g D Lo W.drew) := fun X W hW => hW.drew E
 have HE : Hid (∀ W, Cx SA TA BA f M w X a g D Lo W → Cx SA TA BA f M w { X with bp := ap, bl := al } a g D Lo ((W.setCell ⟨f.sb, 9, none⟩ (.int .u64 ap)).setCell ⟨f.sb, 10, none⟩ (.int .u32 al))) := fun W hW => hW.setBound E ap al
 clear h hLo E
 obtain ⟨W1, hW1⟩ : ∃ W1, w.alloc (.cells #[.int .i64 1, .int .u32 c, .int .u32 n, .int .u64 sp, .int .u32 sl, .int .u64 ap, .int .u32 al, .int .u64 mp, .int .u32 ml, .string (bs prim), .int .u8 pt, .bool dn, .slice ao nw cp] 124) = W1 := ⟨_, rfl⟩
 rw [hW1] at H1
 obtain ⟨b0, q1, q2, q5, q6, m5, m6, m9, m10, z5, z6, z9, z10⟩ := SB.out _ H1.out
 clear SB q1 q2 m5 m6 z5 z6
 go_enter Tryz.func44, Tryz.ntmps44
 go_wp2_with fail
 go_end0
 exact ⟨rfl, (HE.out _ H1.out).to⟩
theorem fol2 (E : Env SA TA BA) (c n sp sl ap al mp ml : Int) (prim : List UInt8) (pt : Int) (dn : Bool) (ao : Option Addr) (nw cp : Nat) (h : ShAt SA TA BA f M X a g D w) (L : List Wr) (ht : X.T.length < 9000) (hv : ∀ W, Kept M w W → Lat.WsAt W.heap.size (.slice ao nw cp) L W) (hm : 0 < L.length → ∀ k, (Value.slice ao nw cp).ownBlock = some k → ¬ M k ∧ k < w.heap.size) (h0 : 0 ≤ mp ∧ 0 ≤ ml) :
  Calls Tryz.prog 44 #[.pointer (some ⟨f.sb, 0, none⟩), .agg #[.int .i64 2, .int .u32 c, .int .u32 n, .int .u64 sp, .int .u32 sl, .int .u64 ap, .int .u32 al, .int .u64 mp, .int .u32 ml, .string (bs prim), .int .u8 pt, .bool dn, .slice ao nw cp]] w fun e w' => e = .returned (.tuple #[]) ∧ ShTo SA TA BA f M w { X with T := (Lat.layF (Lat.rightB sp sl && Lat.rightB mp ml && kOk prim) c n sp sl mp ml prim L X.T).1 } a g D w' := by
 obtain ⟨Lo, hLo⟩ : ∃ Lo : List (Nat × Obj), Lo = [(w.heap.size, .cells #[.int .i64 2, .int .u32 c, .int .u32 n, .int .u64 sp, .int .u32 sl, .int .u64 ap, .int .u32 al, .int .u64 mp, .int .u32 ml, .string (bs prim), .int .u8 pt, .bool dn, .slice ao nw cp] 124)] := ⟨_, rfl⟩
 have H1 : Hid (Cx SA TA BA f M w X a g D Lo (w.alloc (.cells #[.int .i64 2, .int .u32 c, .int .u32 n, .int .u64 sp, .int .u32 sl, .int .u64 ap, .int .u32 al, .int .u64 mp, .int .u32 ml, .string (bs prim), .int .u8 pt, .bool dn, .slice ao nw cp] 124))) := by
  rw [hLo]
  exact (Cx.start h).new E #[.int .i64 2, .int .u32 c, .int .u32 n, .int .u64 sp, .int .u32 sl, .int .u64 ap, .int .u32 al, .int .u64 mp, .int .u32 ml, .string (bs prim), .int .u8 pt, .bool dn, .slice ao nw cp] 124 (by decide)
 have SB : Hid (∀ W, Cx SA TA BA f M w X a g D Lo W → W.cell? ⟨w.heap.size, 0, none⟩ = some (.int .i64 2) ∧ W.cell? ⟨w.heap.size, 1, none⟩ = some (.int .u32 c) ∧ W.cell? ⟨w.heap.size, 2, none⟩ = some (.int .u32 n) ∧ W.cell? ⟨w.heap.size, 5, none⟩ = some (.int .u64 ap) ∧ W.cell? ⟨w.heap.size, 6, none⟩ = some (.int .u32 al) ∧ W.cell? ⟨f.sb, 5, none⟩ = some (.int .u64 X.sp) ∧ W.cell? ⟨f.sb, 6, none⟩ = some (.int .u32 X.sl) ∧ W.cell? ⟨f.sb, 9, none⟩ = some (.int .u64 X.bp) ∧ W.cell? ⟨f.sb, 10, none⟩ = some (.int .u32 X.bl) ∧ W.frozen? ⟨f.sb, 5, none⟩ = false ∧ W.frozen? ⟨f.sb, 6, none⟩ = false ∧ W.frozen? ⟨f.sb, 9, none⟩ = false ∧ W.frozen? ⟨f.sb, 10, none⟩ = false) := fun W hW => by
  subst hLo
  exact ⟨hW.has.cell (.head _) rfl, hW.has.cell (.head _) rfl, hW.has.cell (.head _) rfl, hW.has.cell (.head _) rfl, hW.has.cell (.head _) rfl, hW.nums.1, hW.nums.2.1, hW.nums.2.2.2.2.1, hW.nums.2.2.2.2.2, hW.free _, hW.free _, hW.free _, hW.free _⟩
 have DW : Hid (∀ (X : Sd) W, Cx SA TA BA f M w X a g D Lo W → Cx SA TA BA f M w X a g D Lo W.drew) := fun X W hW => hW.drew E
 have SO : Hid (∀ (X : Sd) (a : Int) (g : Nat) (D : Drm.Dr) W, Cx SA TA BA f M w X a g D Lo W → W.cell? ⟨f.sb, 3, none⟩ = some (.pointer (some ⟨f.la, 0, none⟩)) ∧ W.cell? ⟨w.heap.size, 1, none⟩ = some (.int .u32 c) ∧ W.cell? ⟨w.heap.size, 2, none⟩ = some (.int .u32 n) ∧ W.cell? ⟨w.heap.size, 3, none⟩ = some (.int .u64 sp) ∧ W.cell? ⟨w.heap.size, 4, none⟩ = some (.int .u32 sl) ∧ W.cell? ⟨w.heap.size, 7, none⟩ = some (.int .u64 mp) ∧ W.cell? ⟨w.heap.size, 8, none⟩ = some (.int .u32 ml) ∧ W.cell? ⟨w.heap.size, 9, none⟩ = some (.string (bs prim)) ∧ W.cell? ⟨w.heap.size, 12, none⟩ = some (.slice ao nw cp)) := fun X a g D W hW => by
  subst hLo
  exact ⟨hW.ptrs.2.2.2.1, hW.has.cell (.head _) rfl, hW.has.cell (.head _) rfl, hW.has.cell (.head _) rfl, hW.has.cell (.head _) rfl, hW.has.cell (.head _) rfl, hW.has.cell (.head _) rfl, hW.has.cell (.head _) rfl, hW.has.cell (.head _) rfl⟩
 have CC : Hid (∀ W, Cx SA TA BA f M w X a g D Lo W → Calls Tryz.prog 80 #[.pointer (some ⟨f.la, 0, none⟩), .agg #[.int .u32 c, .int .u32 n], .agg #[.int .u64 sp, .int .u32 sl], .agg #[.int .u64 mp, .int .u32 ml], .string (bs prim), .slice ao nw cp] W fun e w' => (∃ r, e = .returned (.int .i64 r)) ∧ Cx SA TA BA f M w { X with T := (Lat.layF (Lat.rightB sp sl && Lat.rightB mp ml && kOk prim) c n sp sl mp ml prim L X.T).1 } a g D Lo w') := fun W hW => by
  obtain ⟨M9, h9, h8, h7⟩ := hW.sh
  refine (sh_lay E c n sp sl mp ml prim L (.slice ao nw cp) h9 (by omega) (hv W hW.kp) (fun h1 k hk hm9 => ?_) h0).mono fun e w' h => ⟨⟨_, h.1⟩, hW.next h8 h7 h.2⟩
  rcases h8 k hm9 with e | e
  ·exact (hm h1 k hk).1 e
  ·have := (hm h1 k hk).2
   omega
 clear h hLo E hv hm h0
 obtain ⟨W1, hW1⟩ : ∃ W1, w.alloc (.cells #[.int .i64 2, .int .u32 c, .int .u32 n, .int .u64 sp, .int .u32 sl, .int .u64 ap, .int .u32 al, .int .u64 mp, .int .u32 ml, .string (bs prim), .int .u8 pt, .bool dn, .slice ao nw cp] 124) = W1 := ⟨_, rfl⟩
 rw [hW1] at H1
 obtain ⟨b0, q1, q2, q5, q6, m5, m6, m9, m10, z5, z6, z9, z10⟩ := SB.out _ H1.out
 clear SB q1 q2 q5 q6 m5 m6 m9 m10 z5 z6 z9 z10
 go_enter Tryz.func44, Tryz.ntmps44
 go_wp2_with fail
 go_region_held3 (fun W => W.cell? ⟨f.sb, 3, none⟩ = some (.pointer (some ⟨f.la, 0, none⟩)) ∧ W.cell? ⟨w.heap.size, 1, none⟩ = some (.int .u32 c) ∧ W.cell? ⟨w.heap.size, 2, none⟩ = some (.int .u32 n) ∧ W.cell? ⟨w.heap.size, 3, none⟩ = some (.int .u64 sp) ∧ W.cell? ⟨w.heap.size, 4, none⟩ = some (.int .u32 sl) ∧ W.cell? ⟨w.heap.size, 7, none⟩ = some (.int .u64 mp) ∧ W.cell? ⟨w.heap.size, 8, none⟩ = some (.int .u32 ml) ∧ W.cell? ⟨w.heap.size, 9, none⟩ = some (.string (bs prim)) ∧ W.cell? ⟨w.heap.size, 12, none⟩ = some (.slice ao nw cp))
  (first | exact SO.out _ _ _ _ _ H1.out | exact SO.out _ _ _ _ _ (DW.out _ _ H1.out) | exact SO.out _ _ _ _ _ H2.out)
  (first
  | (go_at_call 80; refine (CC.out _ (DW.out _ _ H1.out)).mono ?_; rintro e w2 ⟨⟨r, rfl⟩, hq⟩; have H2 : Hid _ := hq; clear hq))
 rename_i hHeld
 clear hHeld
 go_wp2_with fail
 go_end0
 exact ⟨rfl, H2.out.to⟩
theorem fol3 (E : Env SA TA BA) (c n sp sl ap al mp ml : Int) (prim : List UInt8) (pt : Int) (dn : Bool) (ao : Option Addr) (nw cp : Nat) (h : ShAt SA TA BA f M X a g D w) (ht : X.wt < 9000) (hr : Ver.RgV ⟨c, n, sp, sl, ap, al, pt, false⟩) :
  Calls Tryz.prog 44 #[.pointer (some ⟨f.sb, 0, none⟩), .agg #[.int .i64 3, .int .u32 c, .int .u32 n, .int .u64 sp, .int .u32 sl, .int .u64 ap, .int .u32 al, .int .u64 mp, .int .u32 ml, .string (bs prim), .int .u8 pt, .bool dn, .slice ao nw cp]] w fun e w' => e = .returned (.tuple #[]) ∧ ShTo SA TA BA f M w { fixF c n ap al X with K := (Ver.setB ⟨c, n, sp, sl, ap, al, pt, false⟩ X.K).1 } a g D w' := by
 obtain ⟨Lo, hLo⟩ : ∃ Lo : List (Nat × Obj), Lo = [(w.heap.size, .cells #[.int .i64 3, .int .u32 c, .int .u32 n, .int .u64 sp, .int .u32 sl, .int .u64 ap, .int .u32 al, .int .u64 mp, .int .u32 ml, .string (bs prim), .int .u8 pt, .bool dn, .slice ao nw cp] 124)] := ⟨_, rfl⟩
 have H1 : Hid (Cx SA TA BA f M w X a g D Lo (w.alloc (.cells #[.int .i64 3, .int .u32 c, .int .u32 n, .int .u64 sp, .int .u32 sl, .int .u64 ap, .int .u32 al, .int .u64 mp, .int .u32 ml, .string (bs prim), .int .u8 pt, .bool dn, .slice ao nw cp] 124))) := by
  rw [hLo]
  exact (Cx.start h).new E #[.int .i64 3, .int .u32 c, .int .u32 n, .int .u64 sp, .int .u32 sl, .int .u64 ap, .int .u32 al, .int .u64 mp, .int .u32 ml, .string (bs prim), .int .u8 pt, .bool dn, .slice ao nw cp] 124 (by decide)
 have SB : Hid (∀ W, Cx SA TA BA f M w X a g D Lo W → W.cell? ⟨w.heap.size, 0, none⟩ = some (.int .i64 3) ∧ W.cell? ⟨w.heap.size, 1, none⟩ = some (.int .u32 c) ∧ W.cell? ⟨w.heap.size, 2, none⟩ = some (.int .u32 n) ∧ W.cell? ⟨w.heap.size, 5, none⟩ = some (.int .u64 ap) ∧ W.cell? ⟨w.heap.size, 6, none⟩ = some (.int .u32 al) ∧ W.cell? ⟨f.sb, 5, none⟩ = some (.int .u64 X.sp) ∧ W.cell? ⟨f.sb, 6, none⟩ = some (.int .u32 X.sl) ∧ W.cell? ⟨f.sb, 9, none⟩ = some (.int .u64 X.bp) ∧ W.cell? ⟨f.sb, 10, none⟩ = some (.int .u32 X.bl) ∧ W.frozen? ⟨f.sb, 5, none⟩ = false ∧ W.frozen? ⟨f.sb, 6, none⟩ = false ∧ W.frozen? ⟨f.sb, 9, none⟩ = false ∧ W.frozen? ⟨f.sb, 10, none⟩ = false) := fun W hW => by
  subst hLo
  exact ⟨hW.has.cell (.head _) rfl, hW.has.cell (.head _) rfl, hW.has.cell (.head _) rfl, hW.has.cell (.head _) rfl, hW.has.cell (.head _) rfl, hW.nums.1, hW.nums.2.1, hW.nums.2.2.2.2.1, hW.nums.2.2.2.2.2, hW.free _, hW.free _, hW.free _, hW.free _⟩
 have DW : Hid (∀ (X : Sd) W, Cx SA TA BA f M w X a g D Lo W → Cx SA TA BA f M w X a g D Lo W.drew) := fun X W hW => hW.drew E
 have SO : Hid (∀ (X : Sd) (a : Int) (g : Nat) (D : Drm.Dr) W, Cx SA TA BA f M w X a g D Lo W → W.cell? ⟨f.sb, 4, none⟩ = some (.pointer (some ⟨f.ve, 0, none⟩)) ∧ W.cell? ⟨w.heap.size, 1, none⟩ = some (.int .u32 c) ∧ W.cell? ⟨w.heap.size, 2, none⟩ = some (.int .u32 n) ∧ W.cell? ⟨w.heap.size, 3, none⟩ = some (.int .u64 sp) ∧ W.cell? ⟨w.heap.size, 4, none⟩ = some (.int .u32 sl) ∧ W.cell? ⟨w.heap.size, 5, none⟩ = some (.int .u64 ap) ∧ W.cell? ⟨w.heap.size, 6, none⟩ = some (.int .u32 al) ∧ W.cell? ⟨w.heap.size, 10, none⟩ = some (.int .u8 pt)) := fun X a g D W hW => by
  subst hLo
  exact ⟨hW.ptrs.2.2.2.2, hW.has.cell (.head _) rfl, hW.has.cell (.head _) rfl, hW.has.cell (.head _) rfl, hW.has.cell (.head _) rfl, hW.has.cell (.head _) rfl, hW.has.cell (.head _) rfl, hW.has.cell (.head _) rfl⟩
 have CF : Hid (∀ W, Cx SA TA BA f M w X a g D Lo W → Calls Tryz.prog 81 #[.pointer (some ⟨f.sb, 0, none⟩), .agg #[.int .u32 c, .int .u32 n], .agg #[.int .u64 ap, .int .u32 al]] W fun e w' => (e = .returned (.tuple #[])) ∧ Cx SA TA BA f M w (fixF c n ap al X) a g D Lo w') := fun W hW => hW.calls fun M' hM => fix81 E c n ap al hM ht
 have CS : Hid (∀ W, Cx SA TA BA f M w (fixF c n ap al X) a g D Lo W → Calls Tryz.prog 82 #[.pointer (some ⟨f.ve, 0, none⟩), .agg #[.int .u32 c, .int .u32 n, .int .u64 sp, .int .u32 sl, .int .u64 ap, .int .u32 al, .int .u8 pt, .bool false]] W fun e w' => (∃ r, e = .returned (.int .i64 r)) ∧ Cx SA TA BA f M w { fixF c n ap al X with K := (Ver.setB ⟨c, n, sp, sl, ap, al, pt, false⟩ X.K).1 } a g D Lo w') := fun W hW => hW.calls fun M' hM => (sh_set E ⟨c, n, sp, sl, ap, al, pt, false⟩ hM (by have h1 : X.K.length ≤ X.wt := Nat.le_add_left _ _; show X.K.length < 10000; omega) hr).mono fun e w' h => ⟨⟨_, h.1⟩, h.2⟩
 generalize fixF c n ap al X = Y at *
 generalize (Ver.setB ⟨c, n, sp, sl, ap, al, pt, false⟩ X.K).1 = K2 at *
 clear h hLo E ht hr
 obtain ⟨W1, hW1⟩ : ∃ W1, w.alloc (.cells #[.int .i64 3, .int .u32 c, .int .u32 n, .int .u64 sp, .int .u32 sl, .int .u64 ap, .int .u32 al, .int .u64 mp, .int .u32 ml, .string (bs prim), .int .u8 pt, .bool dn, .slice ao nw cp] 124) = W1 := ⟨_, rfl⟩
 rw [hW1] at H1
 obtain ⟨b0, q1, q2, q5, q6, m5, m6, m9, m10, z5, z6, z9, z10⟩ := SB.out _ H1.out
 clear SB m5 m6 m9 m10 z5 z6 z9 z10
 go_enter Tryz.func44, Tryz.ntmps44
 go_wp2_with fail
 refine (CF.out _ H1.out).mono ?_
 rintro e w1 ⟨rfl, hq⟩
 have H2 : Hid _ := hq
 clear hq CF q1 q2 q5 q6
 go_wp2_with fail
 go_region_held3 (fun W => W.cell? ⟨f.sb, 4, none⟩ = some (.pointer (some ⟨f.ve, 0, none⟩)) ∧ W.cell? ⟨w.heap.size, 1, none⟩ = some (.int .u32 c) ∧ W.cell? ⟨w.heap.size, 2, none⟩ = some (.int .u32 n) ∧ W.cell? ⟨w.heap.size, 3, none⟩ = some (.int .u64 sp) ∧ W.cell? ⟨w.heap.size, 4, none⟩ = some (.int .u32 sl) ∧ W.cell? ⟨w.heap.size, 5, none⟩ = some (.int .u64 ap) ∧ W.cell? ⟨w.heap.size, 6, none⟩ = some (.int .u32 al) ∧ W.cell? ⟨w.heap.size, 10, none⟩ = some (.int .u8 pt))
  (first | exact SO.out _ _ _ _ _ H2.out | exact SO.out _ _ _ _ _ (DW.out _ _ H2.out) | exact SO.out _ _ _ _ _ H3.out)
  (first
  | (go_at_call 82; refine (CS.out _ (DW.out _ _ H2.out)).mono ?_; rintro e w2 ⟨⟨r, rfl⟩, hq⟩; have H3 : Hid _ := hq; clear hq))
 rename_i hHeld
 clear hHeld
 go_wp2_with fail
 go_end0
 exact ⟨rfl, H3.out.to⟩
end Go.Proofs.YtajjnmdomabmkaaGreat
namespace Go.Proofs.YtajjnmdomabmkaaGreat
open Go.RowKit
variable {SA : Nat → Nat → (Nat → Prop) → Sto.Sk → World → Prop} {TA : Nat → Nat → (Nat → Prop) → Lat.Tb → World → Prop} {BA : Nat → Nat → (Nat → Prop) → Ver.Bk → World → Prop}
variable {f : Fp} {M : Nat → Prop} {X : Sd} {a : Int} {g : Nat} {D : Drm.Dr} {w W W' : World} {Lo : List (Nat × Obj)}
def enV (e : Ent.En) (ao : Option Addr) (cp : Nat) : Value := .agg #[.int .i64 e.k, .int .u32 (e.c : Int), .int .u32 (e.n : Int), .int .u64 (e.sp : Int), .int .u32 (e.sl : Int), .int .u64 (e.ap : Int), .int .u32 (e.al : Int), .int .u64 (e.mp : Int), .int .u32 (e.ml : Int), .string (bs e.prim), .int .u8 (e.pt : Int), .bool e.dn, .slice ao e.ws.length cp]
structure WsIn (M : Nat → Prop) (w : World) (ao : Option Addr) (cp : Nat) (L : List Wr) : Prop where
 at_ : Lat.WsAt w.heap.size (.slice ao L.length cp) L w
 not : 0 < L.length → ∀ k, (Value.slice ao L.length cp).ownBlock = some k → ¬ M k
theorem WsIn.nil (M : Nat → Prop) (w : World) : WsIn M w none 0 [] := ⟨RwAt.nil _ _ _, fun h => absurd h (by simp)⟩
theorem WsIn.kept {L : List Wr} {ao : Option Addr} {cp : Nat} (h : WsIn M w ao cp L) (hk : Kept M w W) : Lat.WsAt W.heap.size (.slice ao L.length cp) L W := by
 rcases Nat.eq_zero_or_pos L.length with e | e
 ·have : L = [] := List.eq_nil_of_length_eq_zero e
  subst this
  obtain ⟨ao', cap', e1, e2, e3, e4, e5⟩ := h.at_
  refine ⟨ao', cap', e1, e2, e3, e4, fun h0 => ?_⟩
  obtain ⟨b, off, rfl, -, -⟩ := e5 h0
  exact ⟨b, off, rfl, fun h => absurd h (by simp), fun j u hj => by simp [rowC] at hj⟩
 ·exact RwAt.le (rw_keep h.at_ hk (h.not e)) hk.size
theorem WsIn.lt {L : List Wr} {ao : Option Addr} {cp : Nat} (h : WsIn M w ao cp L) (h0 : 0 < L.length) {k : Nat} (hk : (Value.slice ao L.length cp).ownBlock = some k) : k < w.heap.size := by
 obtain ⟨ao', cap', e1, e2, e3, e4, e5⟩ := h.at_
 injection e1 with e1 _ e6
 subst e1 e6
 obtain ⟨b, off, rfl, hb, -⟩ := e5 (by omega)
 simp only [Value.ownBlock, Option.some.injEq] at hk
 rw [← hk]
 exact hb h0
theorem rgV_of {e : Ent.En} (he : Ent.EnOk e) : Ver.RgV ⟨e.c, e.n, e.sp, e.sl, e.ap, e.al, e.pt, e.dn⟩ ∧ Ver.RgV ⟨e.c, e.n, e.sp, e.sl, e.ap, e.al, e.pt, false⟩ ∧ Ver.RgV ⟨e.c, e.n, e.sp, e.sl, 0, 0, 0, false⟩ ∧ (Ver.R32 e.c ∧ Ver.R32 e.n) ∧ (Ver.R64 e.ap ∧ Ver.R32 e.al) := by
 have h1 := he.rg.c
 have h2 := he.rg.n
 have h3 := he.rg.pt
 have h4 := he.sp
 have h5 := he.ap
 have c : Ver.R32 (e.c : Int) := ⟨by omega, by omega⟩
 have n : Ver.R32 (e.n : Int) := ⟨by omega, by omega⟩
 have sp : Ver.R64 (e.sp : Int) := ⟨by omega, by omega⟩
 have sl : Ver.R32 (e.sl : Int) := ⟨by omega, by omega⟩
 have ap : Ver.R64 (e.ap : Int) := ⟨by omega, by omega⟩
 have al : Ver.R32 (e.al : Int) := ⟨by omega, by omega⟩
 have pt : Ver.R8 (e.pt : Int) := ⟨by omega, by omega⟩
 exact ⟨⟨c, n, sp, sl, ap, al, pt⟩, ⟨c, n, sp, sl, ap, al, pt⟩, ⟨c, n, sp, sl, ⟨Int.le_refl 0, by show (0 : Int) < _; decide⟩, ⟨Int.le_refl 0, by show (0 : Int) < _; decide⟩, ⟨Int.le_refl 0, by show (0 : Int) < _; decide⟩⟩, ⟨c, n⟩, ⟨ap, al⟩⟩
theorem follow44 (E : Env SA TA BA) (e : Ent.En) (ao : Option Addr) (cp : Nat) (h : ShAt SA TA BA f M X a g D w) (ht : X.wt < 9000) (hT : Ver.RgT (holdF X.T)) (he : Ent.EnOk e) (hr : Ent.rightE e = true) (hw : WsIn M w ao cp e.ws) (hcase : e.k = 1 ∨ e.k = 2 ∨ e.k = 3) :
  Calls Tryz.prog 44 #[.pointer (some ⟨f.sb, 0, none⟩), enV e ao cp] w fun r w' => r = .returned (.tuple #[]) ∧ ShTo SA TA BA f M w (followF e X) a g D w' := by
 obtain ⟨⟨k1, k9⟩, -, -, hk⟩ := Ent.rightE_iff hr
 obtain ⟨v9, v3, v5, cn, apl⟩ := rgV_of he
 have hws := Ent.right_ws hr
 unfold enV
 rcases hcase with e1 | e1 | e1
 ·rw [e1, show followF e X = { X with bp := e.ap, bl := e.al } by unfold followF; rw [if_pos e1]]
  exact fol1 E _ _ _ _ _ _ _ _ _ _ _ _ _ _ h
 ·rw [e1, show followF e X = { X with T := (Lat.layF (Lat.rightB e.sp e.sl && Lat.rightB e.mp e.ml && kOk e.prim) e.c e.n e.sp e.sl e.mp e.ml e.prim e.ws X.T).1 } by unfold followF; rw [if_neg (by omega), if_pos e1]]
  exact fol2 E _ _ _ _ _ _ _ _ _ _ _ _ _ _ h e.ws (by unfold Sd.wt at ht; omega) (fun W hk => hw.kept hk) (fun h0 k hk => ⟨hw.not h0 k hk, hw.lt h0 hk⟩) ⟨by omega, by omega⟩
 ·rw [e1, show followF e X = { fixF e.c e.n e.ap e.al X with K := (Ver.setB ⟨e.c, e.n, e.sp, e.sl, e.ap, e.al, e.pt, false⟩ X.K).1 } by unfold followF; rw [if_neg (by omega), if_neg (by omega), if_pos e1]]
  exact fol3 E _ _ _ _ _ _ _ _ _ _ _ _ _ _ h ht v3
theorem write_right {e : Ent.En} (h : (Ent.writeE e).2 = 0) : Ent.rightE e = true := by
 unfold Ent.writeE at h
 split at h
 ·next hr => exact hr
 ·exact absurd h (by decide)
theorem note198 (E : Env SA TA BA) (e : Ent.En) (ao : Option Addr) (cp : Nat) (h : ShAt SA TA BA f M X a g D w) (ht : X.wt < 9000) (hT : Ver.RgT (holdF X.T)) (he : Ent.EnOk e) (hl : e.ws.length ≤ 100) (hw : WsIn M w ao cp e.ws) (hcase : e.k = 1 ∨ e.k = 2 ∨ e.k = 3) :
  Calls Tryz.prog 198 #[.pointer (some ⟨f.sb, 0, none⟩), enV e ao cp] w fun r w' => r = .returned (.int .i64 (noteF e X a D).1) ∧ ShTo SA TA BA f M w (noteF e X a D).2.1 a g (noteF e X a D).2.2 w' := by
 obtain ⟨Lo, hLo⟩ : ∃ Lo : List (Nat × Obj), Lo = [(w.heap.size, .cells #[.int .i64 e.k, .int .u32 (e.c : Int), .int .u32 (e.n : Int), .int .u64 (e.sp : Int), .int .u32 (e.sl : Int), .int .u64 (e.ap : Int), .int .u32 (e.al : Int), .int .u64 (e.mp : Int), .int .u32 (e.ml : Int), .string (bs e.prim), .int .u8 (e.pt : Int), .bool e.dn, .slice ao e.ws.length cp] 124)] := ⟨_, rfl⟩
 have H1 : Hid (Cx SA TA BA f M w X a g D Lo (w.alloc (.cells #[.int .i64 e.k, .int .u32 (e.c : Int), .int .u32 (e.n : Int), .int .u64 (e.sp : Int), .int .u32 (e.sl : Int), .int .u64 (e.ap : Int), .int .u32 (e.al : Int), .int .u64 (e.mp : Int), .int .u32 (e.ml : Int), .string (bs e.prim), .int .u8 (e.pt : Int), .bool e.dn, .slice ao e.ws.length cp] 124))) := by
  rw [hLo]
  exact (Cx.start h).new E _ 124 (by decide)
 have CW : Hid (∀ W, Cx SA TA BA f M w X a g D Lo W → Calls Tryz.prog 50 #[.agg #[.int .i64 e.k, .int .u32 (e.c : Int), .int .u32 (e.n : Int), .int .u64 (e.sp : Int), .int .u32 (e.sl : Int), .int .u64 (e.ap : Int), .int .u32 (e.al : Int), .int .u64 (e.mp : Int), .int .u32 (e.ml : Int), .string (bs e.prim), .int .u8 (e.pt : Int), .bool e.dn, .slice ao e.ws.length cp]] W fun r w' => r = .returned (.tuple #[.string (bs (Ent.writeE e).1), .int .i64 (Ent.writeE e).2]) ∧ Cx SA TA BA f M w X a g D Lo w') := fun W hW => (E.E.wr e ao cp W hcase he hl (hw.kept hW.kp)).mono fun r w' h => ⟨h.1, hW.on E h.2⟩
 have CA : Hid (∀ W, Cx SA TA BA f M w X a g D Lo W → Calls Tryz.prog 270 #[.pointer (some ⟨f.lb, 0, none⟩), .string (bs (Ent.writeE e).1)] W fun r w' => r = .returned (.int .i64 (Lgs.appendF D a (Ent.writeE e).1).1) ∧ Cx SA TA BA f M w X a g (Lgs.appendF D a (Ent.writeE e).1).2 Lo w') := fun W hW => hW.calls fun M' hM => sh_append E _ hM
 have CF : Hid (∀ D' W, (Ent.writeE e).2 = 0 → Cx SA TA BA f M w X a g D' Lo W → Calls Tryz.prog 44 #[.pointer (some ⟨f.sb, 0, none⟩), .agg #[.int .i64 e.k, .int .u32 (e.c : Int), .int .u32 (e.n : Int), .int .u64 (e.sp : Int), .int .u32 (e.sl : Int), .int .u64 (e.ap : Int), .int .u32 (e.al : Int), .int .u64 (e.mp : Int), .int .u32 (e.ml : Int), .string (bs e.prim), .int .u8 (e.pt : Int), .bool e.dn, .slice ao e.ws.length cp]] W fun r w' => r = .returned (.tuple #[]) ∧ Cx SA TA BA f M w (followF e X) a g D' Lo w') := fun D' W h0 hW => by
  obtain ⟨M9, h9, h8, h7⟩ := hW.sh
  refine (follow44 E e ao cp h9 ht hT he (write_right h0) ⟨hw.kept hW.kp, fun h1 k hk hm => ?_⟩ hcase).mono fun r w' h => ⟨h.1, hW.next h8 h7 h.2⟩
  rcases h8 k hm with e1 | e1
  ·exact hw.not h1 k hk e1
  ·have := hw.lt h1 hk
   omega
 have SB : Hid (∀ (D : Drm.Dr) W, Cx SA TA BA f M w X a g D Lo W → W.cell? ⟨f.sb, 1, none⟩ = some (.pointer (some ⟨f.lb, 0, none⟩)) ∧ W.cell? ⟨w.heap.size, 0, none⟩ = some (.int .i64 e.k) ∧ W.cell? ⟨w.heap.size, 1, none⟩ = some (.int .u32 (e.c : Int)) ∧ W.cell? ⟨w.heap.size, 2, none⟩ = some (.int .u32 (e.n : Int)) ∧ W.cell? ⟨w.heap.size, 3, none⟩ = some (.int .u64 (e.sp : Int)) ∧ W.cell? ⟨w.heap.size, 4, none⟩ = some (.int .u32 (e.sl : Int)) ∧ W.cell? ⟨w.heap.size, 5, none⟩ = some (.int .u64 (e.ap : Int)) ∧ W.cell? ⟨w.heap.size, 6, none⟩ = some (.int .u32 (e.al : Int)) ∧ W.cell? ⟨w.heap.size, 7, none⟩ = some (.int .u64 (e.mp : Int)) ∧ W.cell? ⟨w.heap.size, 8, none⟩ = some (.int .u32 (e.ml : Int)) ∧ W.cell? ⟨w.heap.size, 9, none⟩ = some (.string (bs e.prim)) ∧ W.cell? ⟨w.heap.size, 10, none⟩ = some (.int .u8 (e.pt : Int)) ∧ W.cell? ⟨w.heap.size, 11, none⟩ = some (.bool e.dn) ∧ W.cell? ⟨w.heap.size, 12, none⟩ = some (.slice ao e.ws.length cp)) := fun D W hW => by
  subst hLo
  exact ⟨hW.ptrs.2.1, hW.has.cell (.head _) rfl, hW.has.cell (.head _) rfl, hW.has.cell (.head _) rfl, hW.has.cell (.head _) rfl, hW.has.cell (.head _) rfl, hW.has.cell (.head _) rfl, hW.has.cell (.head _) rfl, hW.has.cell (.head _) rfl, hW.has.cell (.head _) rfl, hW.has.cell (.head _) rfl, hW.has.cell (.head _) rfl, hW.has.cell (.head _) rfl, hW.has.cell (.head _) rfl⟩
 have HN : Hid (noteF e X a D = if (Ent.writeE e).2 ≠ 0 then ((Ent.writeE e).2, X, D) else if (Lgs.appendF D a (Ent.writeE e).1).1 ≠ 0 then ((Lgs.appendF D a (Ent.writeE e).1).1, X, (Lgs.appendF D a (Ent.writeE e).1).2) else (0, followF e X, (Lgs.appendF D a (Ent.writeE e).1).2)) := rfl
 generalize noteF e X a D = Y at *
 generalize followF e X = X2 at *
 generalize Lgs.appendF D a (Ent.writeE e).1 = Z at *
 obtain ⟨z, D2⟩ := Z
 generalize Ent.writeE e = V at *
 obtain ⟨r, er⟩ := V
 dsimp only at CW CA CF HN
 unfold enV
 clear h hLo ht hT he hl hw E
 generalize e.k = ek at *
 generalize (e.c : Int) = ec at *
 generalize (e.n : Int) = en at *
 generalize (e.sp : Int) = esp at *
 generalize (e.sl : Int) = esl at *
 generalize (e.ap : Int) = eap at *
 generalize (e.al : Int) = eal at *
 generalize (e.mp : Int) = emp at *
 generalize (e.ml : Int) = eml at *
 generalize e.prim = epr at *
 generalize (e.pt : Int) = ept at *
 generalize e.dn = edn at *
 generalize e.ws.length = ewl at *
 obtain ⟨W1, hW1⟩ : ∃ W1, w.alloc (.cells #[.int .i64 ek, .int .u32 ec, .int .u32 en, .int .u64 esp, .int .u32 esl, .int .u64 eap, .int .u32 eal, .int .u64 emp, .int .u32 eml, .string (bs epr), .int .u8 ept, .bool edn, .slice ao ewl cp] 124) = W1 := ⟨_, rfl⟩
 rw [hW1] at H1
 obtain ⟨p1, b0, b1, b2, b3, b4, b5, b6, b7, b8, b9, b10, b11, b12⟩ := SB.out _ _ H1.out
 go_enter Tryz.func198, Tryz.ntmps198
 go_wp2_with fail
 refine (CW.out _ H1.out).mono ?_
 rintro r1 w1 ⟨rfl, hq⟩
 have H2 : Hid _ := hq
 clear hq CW H1 p1 b0 b1 b2 b3 b4 b5 b6 b7 b8 b9 b10 b11 b12 hW1
 by_cases h0 : er = 0
 ·subst h0
  have HN2 : Hid (Y = if z ≠ 0 then (z, X, D2) else (0, X2, D2)) := by
   show _ = _
   rw [HN.out, if_neg (by decide)]
  clear HN
  obtain ⟨p1, -⟩ := SB.out _ _ H2.out
  go_wp2_with fail
  refine (CA.out _ H2.out).mono ?_
  rintro r1 w2 ⟨rfl, hq⟩
  have H3 : Hid _ := hq
  clear hq CA H2 p1
  by_cases hz : z = 0
  ·subst hz
   have HN3 : Hid (Y = (0, X2, D2)) := by
    show _ = _
    rw [HN2.out, if_neg (by decide)]
   clear HN2
   obtain ⟨p1, b0, b1, b2, b3, b4, b5, b6, b7, b8, b9, b10, b11, b12⟩ := SB.out _ _ H3.out
   go_wp2_with fail
   refine (CF.out _ _ (by trivial) H3.out).mono ?_
   rintro r1 w3 ⟨rfl, hq⟩
   have H4 : Hid _ := hq
   clear hq p1 b0 b1 b2 b3 b4 b5 b6 b7 b8 b9 b10 b11 b12
   go_wp2_with fail
   go_ret
   rw [HN3.out]
   exact ⟨rfl, H4.out.to⟩
  ·have hz' : (z != 0) = true := by simp [hz]
   have HN3 : Hid (Y = (z, X, D2)) := by
    show _ = _
    rw [HN2.out, if_pos hz]
   clear HN2 hz
   go_wp2_with fail
   go_ret
   rw [HN3.out]
   exact ⟨rfl, H3.out.to⟩
 ·have h0' : (er != 0) = true := by simp [h0]
  have HN2 : Hid (Y = (er, X, D)) := by
   show _ = _
   rw [HN.out, if_pos h0]
  clear HN h0
  go_wp2_with fail
  go_ret
  rw [HN2.out]
  exact ⟨rfl, H2.out.to⟩
end Go.Proofs.YtajjnmdomabmkaaGreat
namespace Go.Proofs.YtajjnmdomabmkaaGreat
open Go.RowKit
variable {SA : Nat → Nat → (Nat → Prop) → Sto.Sk → World → Prop} {TA : Nat → Nat → (Nat → Prop) → Lat.Tb → World → Prop} {BA : Nat → Nat → (Nat → Prop) → Ver.Bk → World → Prop}
variable {f : Fp} {M : Nat → Prop} {X : Sd} {a : Int} {g : Nat} {D : Drm.Dr} {w W W' : World} {Lo : List (Nat × Obj)}
def Ts (p l : Int) : Prop := (0 ≤ p ∧ p < 18446744073709551616) ∧ 0 ≤ l ∧ l < 4294967296
theorem nat_of {x : Int} (h : 0 ≤ x) : ((x.toNat : Nat) : Int) = x := Int.toNat_of_nonneg h
theorem enV_bound {p l : Int} (h : Ts p l) : enV (eBound p l) none 0 = .agg #[.int .i64 1, .int .u32 0, .int .u32 0, .int .u64 0, .int .u32 0, .int .u64 p, .int .u32 l, .int .u64 0, .int .u32 0, .string ⟨#[]⟩, .int .u8 0, .bool false, .slice none 0 0] := by
 unfold enV eBound
 dsimp only
 rw [nat_of h.1.1, nat_of h.2.1]
 rfl
theorem ok_en {k : Int} {c n sp sl ap al mp ml pt : Nat} {prim : List UInt8} {dn : Bool} {ws : List Wr} (hk : 1 ≤ k ∧ k ≤ 9) (hc : c < 4294967296 ∧ n < 4294967296) (hs : sp < 18446744073709551616 ∧ sl < 4294967296) (ha : ap < 18446744073709551616 ∧ al < 4294967296) (hm : mp < 18446744073709551616 ∧ ml < 4294967296) (hp : prim.length ≤ 100) (ht : pt < 256) (hw : ws.length ≤ 100) (hv : ∀ w ∈ ws, w.key.length ≤ 140737488351232 ∧ w.val.length ≤ 140737488351232) : Ent.EnOk ⟨k, c, n, sp, sl, ap, al, mp, ml, prim, pt, dn, ws⟩ :=
 ⟨⟨hc.1, hc.2, ht⟩, ⟨by show _ ≤ k; omega, by show k ≤ _; omega⟩, hs, ha, hm, by show prim.length ≤ _; omega, by show ws.length ≤ _; omega, hv⟩
theorem ts_nat {p l : Int} (h : Ts p l) : p.toNat < 18446744073709551616 ∧ l.toNat < 4294967296 := by
 have := h.1
 have := h.2
 omega
theorem ok_bound {p l : Int} (h : Ts p l) : Ent.EnOk (eBound p l) := ok_en (by omega) (by omega) (by omega) (ts_nat h) (by omega) (by simp) (by omega) (by simp) (fun w hw => by cases hw)
theorem bound_ts {p l : Int} (h : Ts p l) : Ts (Clk.boundF p l).1 (Clk.boundF p l).2 := by
 have h1 := h.1
 unfold Clk.boundF
 split
 ·exact ⟨⟨by show 0 ≤ min (p + 64) 281474976710656; omega, by show min (p + 64) 281474976710656 < _; omega⟩, by show (0 : Int) ≤ 4095; decide, by show (4095 : Int) < _; decide⟩
 ·exact ⟨⟨by show (0 : Int) ≤ 0; decide, by show (0 : Int) < _; decide⟩, by show (0 : Int) ≤ 0; decide, by show (0 : Int) < _; decide⟩
theorem advance197 (E : Env SA TA BA) (p l : Int) (h : ShAt SA TA BA f M X a g D w) (ht : X.wt < 9000) (hT : Ver.RgT (holdF X.T)) (hp : Ts p l) :
  Calls Tryz.prog 197 #[.pointer (some ⟨f.sb, 0, none⟩), .agg #[.int .u64 p, .int .u32 l]] w fun r w' => r = .returned (.int .i64 (advF p l X a D).1) ∧ ShTo SA TA BA f M w (advF p l X a D).2.1 a g (advF p l X a D).2.2 w' := by
 obtain ⟨Lo, hLo⟩ : ∃ Lo : List (Nat × Obj), Lo = [(w.heap.size, .cells #[.int .u64 p, .int .u32 l] 32)] := ⟨_, rfl⟩
 have H1 : Hid (Cx SA TA BA f M w X a g D Lo (w.alloc (.cells #[.int .u64 p, .int .u32 l] 32))) := by
  rw [hLo]
  exact (Cx.start h).new E _ 32 (by decide)
 have CL : Hid (∀ W, Cx SA TA BA f M w X a g D Lo W → Calls Tryz.prog 113 #[.agg #[.int .u64 X.bp, .int .u32 X.bl], .agg #[.int .u64 p, .int .u32 l]] W fun r w' => r = .returned (.bool (Clk.lessB X.bp X.bl p l)) ∧ Cx SA TA BA f M w X a g D Lo w') := fun W hW => (Clk.less17 X.bp X.bl p l W).mono fun r w' h => ⟨h.1, hW.on E h.2⟩
 have CB : Hid (∀ W, Cx SA TA BA f M w X a g D Lo W → Calls Tryz.prog 269 #[.agg #[.int .u64 p, .int .u32 l]] W fun r w' => r = .returned (.agg #[.int .u64 (Clk.boundF p l).1, .int .u32 (Clk.boundF p l).2]) ∧ Cx SA TA BA f M w X a g D Lo w') := fun W hW => (Clk.bound13 p l W hp.1.1 hp.2.1).mono fun r w' h => ⟨h.1, hW.on E h.2⟩
 have CN : Hid (∀ W, Cx SA TA BA f M w X a g D Lo W → Calls Tryz.prog 198 #[.pointer (some ⟨f.sb, 0, none⟩), .agg #[.int .i64 1, .int .u32 0, .int .u32 0, .int .u64 0, .int .u32 0, .int .u64 (Clk.boundF p l).1, .int .u32 (Clk.boundF p l).2, .int .u64 0, .int .u32 0, .string ⟨#[]⟩, .int .u8 0, .bool false, .slice none 0 0]] W fun r w' => r = .returned (.int .i64 (noteF (eBound (Clk.boundF p l).1 (Clk.boundF p l).2) X a D).1) ∧ Cx SA TA BA f M w (noteF (eBound (Clk.boundF p l).1 (Clk.boundF p l).2) X a D).2.1 a g (noteF (eBound (Clk.boundF p l).1 (Clk.boundF p l).2) X a D).2.2 Lo w') := fun W hW => hW.calls fun M' hM => by
  have := note198 E (eBound (Clk.boundF p l).1 (Clk.boundF p l).2) none 0 hM ht hT (ok_bound (bound_ts hp)) (Nat.zero_le _) (WsIn.nil _ _) (.inl rfl)
  rw [enV_bound (bound_ts hp)] at this
  exact this
 have SO : Hid (∀ W, Cx SA TA BA f M w X a g D Lo W → W.cell? ⟨w.heap.size, 0, none⟩ = some (.int .u64 p) ∧ W.cell? ⟨w.heap.size, 1, none⟩ = some (.int .u32 l) ∧ W.cell? ⟨f.sb, 9, none⟩ = some (.int .u64 X.bp) ∧ W.cell? ⟨f.sb, 10, none⟩ = some (.int .u32 X.bl)) := fun W hW => by
  subst hLo
  exact ⟨hW.has.cell (.head _) rfl, hW.has.cell (.head _) rfl, hW.nums.2.2.2.2.1, hW.nums.2.2.2.2.2⟩
 have SP : Hid (∀ (X : Sd) (D : Drm.Dr) W, Cx SA TA BA f M w X a g D Lo W → W.cell? ⟨w.heap.size, 0, none⟩ = some (.int .u64 p) ∧ W.cell? ⟨w.heap.size, 1, none⟩ = some (.int .u32 l) ∧ (∃ u, W.cell? ⟨f.sb, 7, none⟩ = some (.int .u64 u)) ∧ (∃ u, W.cell? ⟨f.sb, 8, none⟩ = some (.int .u32 u)) ∧ W.frozen? ⟨f.sb, 7, none⟩ = false ∧ W.frozen? ⟨f.sb, 8, none⟩ = false) := fun X D W hW => by
  subst hLo
  exact ⟨hW.has.cell (.head _) rfl, hW.has.cell (.head _) rfl, ⟨_, hW.nums.2.2.1⟩, ⟨_, hW.nums.2.2.2.1⟩, hW.free _, hW.free _⟩
 have HE : Hid (∀ (X : Sd) (D : Drm.Dr) W, Cx SA TA BA f M w X a g D Lo W → Cx SA TA BA f M w { X with np := p, nl := l } a g D Lo ((W.setCell ⟨f.sb, 7, none⟩ (.int .u64 p)).setCell ⟨f.sb, 8, none⟩ (.int .u32 l))) := fun X D W hW => hW.setNow E p l
 have DW : Hid (∀ W, Cx SA TA BA f M w X a g D Lo W → Cx SA TA BA f M w X a g D Lo W.drew) := fun W hW => hW.drew E
 have HN : Hid (advF p l X a D = if Clk.lessB X.bp X.bl p l then (if (noteF (eBound (Clk.boundF p l).1 (Clk.boundF p l).2) X a D).1 ≠ 0 then noteF (eBound (Clk.boundF p l).1 (Clk.boundF p l).2) X a D else (0, { (noteF (eBound (Clk.boundF p l).1 (Clk.boundF p l).2) X a D).2.1 with np := p, nl := l }, (noteF (eBound (Clk.boundF p l).1 (Clk.boundF p l).2) X a D).2.2)) else (0, { X with np := p, nl := l }, D)) := rfl
 generalize advF p l X a D = Y at *
 generalize noteF (eBound (Clk.boundF p l).1 (Clk.boundF p l).2) X a D = Z at *
 generalize Clk.boundF p l = bd at *
 generalize Clk.lessB X.bp X.bl p l = q at *
 obtain ⟨z, X2, D2⟩ := Z
 obtain ⟨b1, b2⟩ := bd
 dsimp only at CB CN HN
 clear h hLo ht hT hp E
 obtain ⟨W1, hW1⟩ : ∃ W1, w.alloc (.cells #[.int .u64 p, .int .u32 l] 32) = W1 := ⟨_, rfl⟩
 rw [hW1] at H1
 go_enter Tryz.func197, Tryz.ntmps197
 go_wp2_with fail
 go_region_held3 (fun W => W.cell? ⟨w.heap.size, 0, none⟩ = some (.int .u64 p) ∧ W.cell? ⟨w.heap.size, 1, none⟩ = some (.int .u32 l) ∧ W.cell? ⟨f.sb, 9, none⟩ = some (.int .u64 X.bp) ∧ W.cell? ⟨f.sb, 10, none⟩ = some (.int .u32 X.bl))
  (first | exact SO.out _ H1.out | exact SO.out _ (DW.out _ H1.out) | exact SO.out _ H2.out)
  (first
  | (go_at_call 113; refine (CL.out _ (DW.out _ H1.out)).mono ?_; rintro e w2 ⟨rfl, hq⟩; have H2 : Hid _ := hq; clear hq))
 rename_i hHeld
 clear hHeld CL H1 SO DW hW1
 cases q
 ·have HN2 : Hid (Y = (0, { X with np := p, nl := l }, D)) := by
   show _ = _
   rw [HN.out]
   rfl
  clear HN
  obtain ⟨x0, x1, ⟨u7, m7⟩, ⟨u8, m8⟩, z7, z8⟩ := SP.out _ _ _ H2.out
  go_wp2_with fail
  go_ret
  rw [HN2.out]
  exact ⟨rfl, (HE.out _ _ _ H2.out).to⟩
 ·have HN2 : Hid (Y = if z ≠ 0 then (z, X2, D2) else (0, { X2 with np := p, nl := l }, D2)) := by
   show _ = _
   rw [HN.out]
   rfl
  clear HN
  obtain ⟨x0, x1, -⟩ := SP.out _ _ _ H2.out
  go_wp2_with fail
  refine (CB.out _ H2.out).mono ?_
  rintro e w3 ⟨rfl, hq⟩
  have H3 : Hid _ := hq
  clear hq CB H2 x0 x1
  go_wp2_with fail
  refine (CN.out _ H3.out).mono ?_
  rintro e w4 ⟨rfl, hq⟩
  have H4 : Hid _ := hq
  clear hq CN H3
  by_cases hz : z = 0
  ·subst hz
   have HN3 : Hid (Y = (0, { X2 with np := p, nl := l }, D2)) := by
    show _ = _
    rw [HN2.out, if_neg (by decide)]
   clear HN2
   obtain ⟨x0, x1, ⟨u7, m7⟩, ⟨u8, m8⟩, z7, z8⟩ := SP.out _ _ _ H4.out
   go_wp2_with fail
   go_ret
   rw [HN3.out]
   exact ⟨rfl, (HE.out _ _ _ H4.out).to⟩
  ·have hz' : (z != 0) = true := by simp [hz]
   have HN3 : Hid (Y = (z, X2, D2)) := by
    show _ = _
    rw [HN2.out, if_pos hz]
   clear HN2 hz
   go_wp2_with fail
   go_ret
   rw [HN3.out]
   exact ⟨rfl, H4.out.to⟩
end Go.Proofs.YtajjnmdomabmkaaGreat
