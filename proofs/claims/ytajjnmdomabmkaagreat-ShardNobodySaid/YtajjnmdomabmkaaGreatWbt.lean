import Derived.Test.YtajjnmdomabmkaaGreatWbs
set_option maxHeartbeats 4000000
set_option maxRecDepth 100000
set_option linter.unusedVariables false
namespace Go.Proofs.YtajjnmdomabmkaaGreat
open Go.RowKit
variable {SA : Nat → Nat → (Nat → Prop) → Sto.Sk → World → Prop} {TA : Nat → Nat → (Nat → Prop) → Lat.Tb → World → Prop} {BA : Nat → Nat → (Nat → Prop) → Ver.Bk → World → Prop}
def Bx (w : World) (b : Nat) (o : Obj) (W : World) : Prop := Below w.heap.size w W ∧ W.heap[b]? = some o
theorem Bx.on {w W W' : World} {b : Nat} {o : Obj} (h : Bx w b o W) (hb : Below W.heap.size W W') : Bx w b o W' := ⟨h.1.trans (hb.mono h.1.size), by rw [hb.block b (lt_of_block h.2)]; exact h.2⟩
theorem handle_n (ph k c n sp sl ap al lim pt : Int) (key hi : List UInt8) (wa sa : Option Addr) (wn wc sn sc : Nat) (w : World) : Calls Tryz.prog 16 #[.pointer none, .int .u64 ph, .agg #[.int .i64 k, .int .u32 c, .int .u32 n, .int .u64 sp, .int .u32 sl, .int .u64 ap, .int .u32 al, .string (bs key), .string (bs hi), .int .i64 lim, .int .u8 pt, .slice wa wn wc, .slice sa sn sc]] w fun e w' => e = .returned (.agg #[.int .i64 0, .int .i64 11, .bool false, .string ⟨#[]⟩, .slice none 0 0, .int .u32 0, .int .u32 0, .int .u64 0, .int .u32 0, .int .u64 0, .int .u32 0, .string ⟨#[]⟩, .int .u64 0, .int .u32 0]) ∧ Below w.heap.size w w' := by
 have := handle16n ph ⟨k, c, n, sp, sl, ap, al, key, hi, lim, pt, List.replicate wn ⟨[], [], false⟩, List.replicate sn (0, 0)⟩ wa wc sa sc w
 simp only [List.length_replicate] at this
 exact this
theorem nobody7 (E : Env SA TA BA) (ph k c n sp sl ap al lim pt : Int) (key hi : List UInt8) (wa sa : Option Addr) (wn wc sn sc : Nat) (w : World) : Calls Tryz.prog 7 #[.int .u64 ph, .agg #[.int .i64 k, .int .u32 c, .int .u32 n, .int .u64 sp, .int .u32 sl, .int .u64 ap, .int .u32 al, .string (bs key), .string (bs hi), .int .i64 lim, .int .u8 pt, .slice wa wn wc, .slice sa sn sc]] w fun e w' => e = .returned (.bool true) ∧ Below w.heap.size w w' := by
 have CA : Hid (∀ W : World, 1 = 1 → _) := fun W _ => awake9 E W
 have CO : Hid (∀ W : World, 1 = 1 → _) := fun W _ => open15n W
 have CH : Hid (∀ W : World, 1 = 1 → Calls Tryz.prog 16 #[.pointer none, .int .u64 ph, .agg #[.int .i64 k, .int .u32 c, .int .u32 n, .int .u64 sp, .int .u32 sl, .int .u64 ap, .int .u32 al, .string (bs key), .string (bs hi), .int .i64 lim, .int .u8 pt, .slice wa wn wc, .slice sa sn sc]] W fun e w' => e = .returned (.agg #[.int .i64 0, .int .i64 11, .bool false, .string ⟨#[]⟩, .slice none 0 0, .int .u32 0, .int .u32 0, .int .u64 0, .int .u32 0, .int .u64 0, .int .u32 0, .string ⟨#[]⟩, .int .u64 0, .int .u32 0]) ∧ Below W.heap.size W w') := fun W _ => handle_n ph k c n sp sl ap al lim pt key hi wa sa wn wc sn sc W
 have CS : Hid (∀ W : World, 1 = 1 → Calls Tryz.prog 24 #[.agg #[.int .i64 0, .int .i64 11, .bool false, .string ⟨#[]⟩, .slice none 0 0, .int .u32 0, .int .u32 0, .int .u64 0, .int .u32 0, .int .u64 0, .int .u32 0, .string ⟨#[]⟩, .int .u64 0, .int .u32 0], .agg #[.int .i64 0, .int .i64 11, .bool false, .string ⟨#[]⟩, .slice none 0 0, .int .u32 0, .int .u32 0, .int .u64 0, .int .u32 0, .int .u64 0, .int .u32 0, .string ⟨#[]⟩, .int .u64 0, .int .u32 0]] W fun e w' => e = .returned (.bool true) ∧ Below W.heap.size W w') := fun W _ => same24n W
 have CR : Hid (∀ W : World, 1 = 1 → _) := fun W _ => renew19n W
 have C1 : Hid (∀ W : World, 1 = 1 → _) := fun W _ => items22n W
 have C2 : Hid (∀ W : World, 1 = 1 → _) := fun W _ => intents25n W
 have C3 : Hid (∀ W : World, 1 = 1 → _) := fun W _ => verdicts26n W
 have C4 : Hid (∀ W : World, 1 = 1 → _) := fun W _ => safe21n W
 have C5 : Hid (∀ W : World, 1 = 1 → _) := fun W _ => clock27n W
 have C6 : Hid (∀ W : World, 1 = 1 → _) := fun W _ => bound28n W
 have q32 := eql32
 have H0 : Hid (Bx w w.heap.size (.cells #[.int .i64 k, .int .u32 c, .int .u32 n, .int .u64 sp, .int .u32 sl, .int .u64 ap, .int .u32 al, .string (bs key), .string (bs hi), .int .i64 lim, .int .u8 pt, .slice wa wn wc, .slice sa sn sc] 36 (0, 0)) (w.alloc (.cells #[.int .i64 k, .int .u32 c, .int .u32 n, .int .u64 sp, .int .u32 sl, .int .u64 ap, .int .u32 al, .string (bs key), .string (bs hi), .int .i64 lim, .int .u8 pt, .slice wa wn wc, .slice sa sn sc] 36))) := ⟨(Below.refl _ _).alloc (Nat.le_refl _) _, heap_alloc_new w _⟩
 clear E
 go_enter Tryz.func7, Tryz.ntmps7
 go_upto_region 1 with fail
 obtain ⟨W0, hW0⟩ : ∃ W0, w.alloc (.cells #[.int .i64 k, .int .u32 c, .int .u32 n, .int .u64 sp, .int .u32 sl, .int .u64 ap, .int .u32 al, .string (bs key), .string (bs hi), .int .i64 lim, .int .u8 pt, .slice wa wn wc, .slice sa sn sc] 36) = W0 := ⟨_, rfl⟩
 obtain ⟨b, hb⟩ : ∃ b, w.heap.size = b := ⟨_, rfl⟩
 have HBE : Hid (w.heap.size = b) := hb
 have H1 : Hid (Bx w b (.cells #[.int .i64 k, .int .u32 c, .int .u32 n, .int .u64 sp, .int .u32 sl, .int .u64 ap, .int .u32 al, .string (bs key), .string (bs hi), .int .i64 lim, .int .u8 pt, .slice wa wn wc, .slice sa sn sc] 36 (0, 0)) W0) := by
  have := H0.out
  rw [hW0] at this
  rw [← HBE.out]
  exact this
 rw [hW0, hb]
 clear H0 hW0 hb
 go_wp2_with fail
 refine (CA.out _ (by trivial)).mono ?_
 rintro e w1 ⟨rfl, hb1⟩
 have H2 : Hid (Bx w b (.cells #[.int .i64 k, .int .u32 c, .int .u32 n, .int .u64 sp, .int .u32 sl, .int .u64 ap, .int .u32 al, .string (bs key), .string (bs hi), .int .i64 lim, .int .u8 pt, .slice wa wn wc, .slice sa sn sc] 36 (0, 0)) w1) := H1.out.on hb1
 clear hb1 H1 CA
 go_wp2_with fail
 refine (CO.out _ (by trivial)).mono ?_
 rintro e w2 ⟨rfl, hb2⟩
 have H3 : Hid (Bx w b (.cells #[.int .i64 k, .int .u32 c, .int .u32 n, .int .u64 sp, .int .u32 sl, .int .u64 ap, .int .u32 al, .string (bs key), .string (bs hi), .int .i64 lim, .int .u8 pt, .slice wa wn wc, .slice sa sn sc] 36 (0, 0)) w2) := H2.out.on hb2
 clear hb2 H2 CO
 have d0 := Drm.blk_cell (k := 0) H3.out.2 rfl
 have d1 := Drm.blk_cell (k := 1) H3.out.2 rfl
 have d2 := Drm.blk_cell (k := 2) H3.out.2 rfl
 have d3 := Drm.blk_cell (k := 3) H3.out.2 rfl
 have d4 := Drm.blk_cell (k := 4) H3.out.2 rfl
 have d5 := Drm.blk_cell (k := 5) H3.out.2 rfl
 have d6 := Drm.blk_cell (k := 6) H3.out.2 rfl
 have d7 := Drm.blk_cell (k := 7) H3.out.2 rfl
 have d8 := Drm.blk_cell (k := 8) H3.out.2 rfl
 have d9 := Drm.blk_cell (k := 9) H3.out.2 rfl
 have d10 := Drm.blk_cell (k := 10) H3.out.2 rfl
 have d11 := Drm.blk_cell (k := 11) H3.out.2 rfl
 have d12 := Drm.blk_cell (k := 12) H3.out.2 rfl
 go_wp2_with fail
 refine (CH.out _ (by trivial)).mono ?_
 rintro e w3 ⟨rfl, hb3⟩
 have HB3 : Hid (Below w.heap.size w w3) := H3.out.1.trans (hb3.mono H3.out.1.size)
 clear hb3 H3 CH d0 d1 d2 d3 d4 d5 d6 d7 d8 d9 d10 d11 d12 HBE
 go_upto_region 6 with fail
 have H4 : Hid (Bx w w3.heap.size (.cells #[.int .i64 0, .int .i64 11, .bool false, .string ⟨#[]⟩, .slice none 0 0, .int .u32 0, .int .u32 0, .int .u64 0, .int .u32 0, .int .u64 0, .int .u32 0, .string ⟨#[]⟩, .int .u64 0, .int .u32 0] 43 (0, 0)) (w3.alloc (.cells #[.int .i64 0, .int .i64 11, .bool false, .string ⟨#[]⟩, .slice none 0 0, .int .u32 0, .int .u32 0, .int .u64 0, .int .u32 0, .int .u64 0, .int .u32 0, .string ⟨#[]⟩, .int .u64 0, .int .u32 0] 43))) := ⟨HB3.out.alloc HB3.out.size _, heap_alloc_new w3 _⟩
 obtain ⟨W4, hW4⟩ : ∃ W4, w3.alloc (.cells #[.int .i64 0, .int .i64 11, .bool false, .string ⟨#[]⟩, .slice none 0 0, .int .u32 0, .int .u32 0, .int .u64 0, .int .u32 0, .int .u64 0, .int .u32 0, .string ⟨#[]⟩, .int .u64 0, .int .u32 0] 43) = W4 := ⟨_, rfl⟩
 obtain ⟨b4, hb4⟩ : ∃ b4, w3.heap.size = b4 := ⟨_, rfl⟩
 rw [hW4, hb4] at H4
 rw [hW4, hb4]
 clear hW4 hb4 HB3
 have z0 := Drm.blk_cell (k := 0) H4.out.2 rfl
 have z1 := Drm.blk_cell (k := 1) H4.out.2 rfl
 have z2 := Drm.blk_cell (k := 2) H4.out.2 rfl
 have z3 := Drm.blk_cell (k := 3) H4.out.2 rfl
 have z4 := Drm.blk_cell (k := 4) H4.out.2 rfl
 have z5 := Drm.blk_cell (k := 5) H4.out.2 rfl
 have z6 := Drm.blk_cell (k := 6) H4.out.2 rfl
 have z7 := Drm.blk_cell (k := 7) H4.out.2 rfl
 have z8 := Drm.blk_cell (k := 8) H4.out.2 rfl
 have z9 := Drm.blk_cell (k := 9) H4.out.2 rfl
 have z10 := Drm.blk_cell (k := 10) H4.out.2 rfl
 have z11 := Drm.blk_cell (k := 11) H4.out.2 rfl
 have z12 := Drm.blk_cell (k := 12) H4.out.2 rfl
 have z13 := Drm.blk_cell (k := 13) H4.out.2 rfl
 go_wp2_with fail
 refine (CS.out _ (by trivial)).mono ?_
 rintro e w5 ⟨rfl, hb5⟩
 have H5 : Hid (Below w.heap.size w w5) := H4.out.1.trans (hb5.mono H4.out.1.size)
 clear hb5 H4 CS z0 z1 z2 z3 z4 z5 z6 z7 z8 z9 z10 z11 z12 z13
 go_wp2_with fail
 refine (CR.out _ (by trivial)).mono ?_
 rintro e w6 ⟨rfl, rfl⟩
 go_wp2_with fail
 refine (C1.out _ (by trivial)).mono ?_
 rintro e w6 ⟨rfl, rfl⟩
 go_wp2_with fail
 refine (C2.out _ (by trivial)).mono ?_
 rintro e w6 ⟨rfl, rfl⟩
 go_wp2_with fail
 refine (C3.out _ (by trivial)).mono ?_
 rintro e w6 ⟨rfl, rfl⟩
 go_wp2_with fail
 refine (C4.out _ (by trivial)).mono ?_
 rintro e w7 ⟨rfl, hb7⟩
 have H7 : Hid (Below w.heap.size w w7) := H5.out.trans (hb7.mono H5.out.size)
 clear hb7 H5
 go_wp2_with fail
 refine (C5.out _ (by trivial)).mono ?_
 rintro e w8 ⟨rfl, hb8⟩
 have H8 : Hid (Below w.heap.size w w8) := H7.out.trans (hb8.mono H7.out.size)
 clear hb8 H7
 go_wp2_with fail
 refine (C6.out _ (by trivial)).mono ?_
 rintro e w9 ⟨rfl, hb9⟩
 have H9 : Hid (Below w.heap.size w w9) := H8.out.trans (hb9.mono H8.out.size)
 clear hb9 H8
 go_wp2_with fail
 go_ret
 exact ⟨rfl, H9.out⟩
end Go.Proofs.YtajjnmdomabmkaaGreat
