import Derived.Test.YtajjnmdomabmkaaGreatWbg
set_option maxHeartbeats 4000000
set_option maxRecDepth 100000
set_option linter.unusedVariables false
namespace Go.Proofs.YtajjnmdomabmkaaGreat
open Go.RowKit
variable {SA : Nat → Nat → (Nat → Prop) → Sto.Sk → World → Prop} {TA : Nat → Nat → (Nat → Prop) → Lat.Tb → World → Prop} {BA : Nat → Nat → (Nat → Prop) → Ver.Bk → World → Prop}
variable {f : Fp} {M M1 M2 M3 : Nat → Prop} {X : Sd} {a : Int} {g : Nat} {D : Drm.Dr} {w w' : World}
def PutTo (SA : Nat → Nat → (Nat → Prop) → Sto.Sk → World → Prop) (TA : Nat → Nat → (Nat → Prop) → Lat.Tb → World → Prop) (BA : Nat → Nat → (Nat → Prop) → Ver.Bk → World → Prop) (f : Fp) (M1 M2 M3 : Nat → Prop) (X : Sd) (a : Int) (g : Nat) (D : Drm.Dr) (w w' : World) : Prop := ∃ N1, ShC SA TA BA f N1 M2 M3 X a g D w' ∧ Kept M1 w w' ∧ ∀ i, N1 i → M1 i ∨ w.heap.size ≤ i
theorem kept_obj {G : Nat → Prop} {b : Nat} {o : Obj} (h : w.heap[b]? = some o) (hk : Kept G w w') (hn : ¬ G b) : w'.heap[b]? = some o := by
 rw [hk.block b (lt_of_block h) hn]
 exact h
def Has (L : List (Nat × Obj)) (W : World) : Prop := ∀ p ∈ L, W.heap[p.1]? = some p.2
theorem Has.kept {L : List (Nat × Obj)} {G : Nat → Prop} (h : Has L w) (hk : Kept G w w') (hn : ∀ p ∈ L, ¬ G p.1) : Has L w' := fun p hp => kept_obj (h p hp) hk (hn p hp)
theorem Has.on {L : List (Nat × Obj)} (h : Has L w) (hb : Below w.heap.size w w') : Has L w' := h.kept (G := fun _ => False) (Kept.of_below hb) (fun _ _ e => e)
theorem Has.lt {L : List (Nat × Obj)} (h : Has L w) : ∀ p ∈ L, p.1 < w.heap.size := fun p hp => lt_of_block (h p hp)
theorem Has.new {L : List (Nat × Obj)} (h : Has L w) (o : Obj) : Has ((w.heap.size, o) :: L) (w.alloc o) := fun p hp => by
 rcases List.mem_cons.1 hp with rfl | hp
 ·exact heap_alloc_new w o
 ·rw [Below.heap_alloc w o _ (lt_of_block (h p hp))]
  exact h p hp
theorem Has.cell {L : List (Nat × Obj)} {b k : Nat} {cs : Array Value} {ty : TypeId} {u : Value} (h : Has L w) (hp : (b, Obj.cells cs ty (0, 0)) ∈ L) (hk : cs[k]? = some u) : w.cell? ⟨b, k, none⟩ = some u := Drm.blk_cell (h _ hp) hk
theorem Has.one {b : Nat} {o : Obj} (h : w.heap[b]? = some o) : Has [(b, o)] w := fun p hp => by
 simp only [List.mem_singleton] at hp
 subst hp
 exact h
structure Bo (w : World) (L : List (Nat × Obj)) (W : World) : Prop where
 has : Has L W
 bel : Below w.heap.size w W
theorem Bo.one {b : Nat} {o : Obj} (h : w.heap[b]? = some o) : Bo w [(b, o)] w := ⟨Has.one h, Below.refl _ _⟩
theorem Bo.new {W : World} {L : List (Nat × Obj)} (h : Bo w L W) (o : Obj) : Bo w ((W.heap.size, o) :: L) (W.alloc o) := ⟨h.has.new o, h.bel.alloc h.bel.size o⟩
theorem Bo.on {W W' : World} {L : List (Nat × Obj)} (h : Bo w L W) (hb : Below W.heap.size W W') : Bo w L W' := ⟨h.has.on hb, h.bel.trans (hb.mono h.bel.size)⟩
theorem Bo.drew {W : World} {L : List (Nat × Obj)} (h : Bo w L W) : Bo w L W.drew := ⟨h.has, h.bel.drew⟩
theorem put88 (E : Env SA TA BA) (c n ap al : Int) (key val : List UInt8) (dead : Bool) (h : ShC SA TA BA f M1 M2 M3 X a g D w) (ht : Sto.totS X.S < 10000) :
  Calls Tryz.prog 88 #[.pointer (some ⟨f.sb, 0, none⟩), .agg #[.int .u32 c, .int .u32 n], .agg #[.int .u64 ap, .int .u32 al], .agg #[.string (bs key), .string (bs val), .bool dead]] w fun e w' => e = .returned (.tuple #[]) ∧ PutTo SA TA BA f M1 M2 M3 { X with S := (Sto.putS key ⟨ap, al, c, n, val, dead⟩ X.S).1 } a g D w w' := by
 have CP : Hid (∀ W, Below w.heap.size w W → Calls Tryz.prog 185 #[.pointer (some ⟨f.st, 0, none⟩), .string (bs key), .agg #[.int .u64 ap, .int .u32 al, .int .u32 c, .int .u32 n, .string (bs val), .bool dead]] W fun e w' => ∃ r, e = .returned (.int .i64 r) ∧ PutTo SA TA BA f M1 M2 M3 { X with S := (Sto.putS key ⟨ap, al, c, n, val, dead⟩ X.S).1 } a g D w w' ∧ Kept M1 W w') := fun W hb => by
  have hW := h.on E hb
  refine (E.I.put key ⟨ap, al, c, n, val, dead⟩ hW.s ht).mono ?_
  rintro e w' ⟨rfl, N1, hs, hk, hn⟩
  exact ⟨_, rfl, ⟨N1, hW.setS E hs hk hn, (Kept.of_below hb).trans hk (fun _ e => .inl e), fun i hi => (hn i hi).imp id (fun e => Nat.le_trans hb.size e)⟩, hk⟩
 have HB : Hid (w.heap[f.sb]? = some (.cells (shc f X) 122 (0, 0)) ∧ ¬ M1 f.sb) := ⟨h.blk, fun e => (h.o _ (.inl e)).1 rfl⟩
 have HM : Hid (∀ k, M1 k → k < w.heap.size) := fun k hk => (E.I.lt h.s k hk).2
 generalize PutTo SA TA BA f M1 M2 M3 { X with S := (Sto.putS key ⟨ap, al, c, n, val, dead⟩ X.S).1 } a g D w = Q at *
 have hsb := lt_of_block HB.out.1
 clear h ht E
 have HC : Hid ((shc f X)[2]? = some (.pointer (some ⟨f.st, 0, none⟩))) := rfl
 generalize shc f X = sc at *
 generalize f.sb = sb at *
 generalize f.st = st at *
 have H0 : Hid (Bo w [(w.heap.size + 1 + 1, .cells #[.string (bs key), .string (bs val), .bool dead] 144), (w.heap.size + 1, .cells #[.int .u64 ap, .int .u32 al] 32), (w.heap.size, .cells #[.int .u32 c, .int .u32 n] 30), (sb, .cells sc 122)] (((w.alloc (.cells #[.int .u32 c, .int .u32 n] 30)).alloc (.cells #[.int .u64 ap, .int .u32 al] 32)).alloc (.cells #[.string (bs key), .string (bs val), .bool dead] 144))) := by
  show Bo _ _ _
  have h1 := (((Bo.one HB.out.1).new (.cells #[.int .u32 c, .int .u32 n] 30)).new (.cells #[.int .u64 ap, .int .u32 al] 32)).new (.cells #[.string (bs key), .string (bs val), .bool dead] 144)
  simpa using h1
 go_enter Tryz.func88, Tryz.ntmps88
 go_wp2_with fail
 generalize ((w.alloc (.cells #[.int .u32 c, .int .u32 n] 30)).alloc (.cells #[.int .u64 ap, .int .u32 al] 32)).alloc (.cells #[.string (bs key), .string (bs val), .bool dead] 144) = W3 at *
 obtain ⟨L, hL⟩ : ∃ L, L = [(w.heap.size + 1 + 1, Obj.cells #[.string (bs key), .string (bs val), .bool dead] 144), (w.heap.size + 1, .cells #[.int .u64 ap, .int .u32 al] 32), (w.heap.size, .cells #[.int .u32 c, .int .u32 n] 30), (sb, .cells sc 122)] := ⟨_, rfl⟩
 rw [← hL] at H0
 have HN : Hid (∀ p ∈ L, ¬ M1 p.1) := fun p hp e => by
  have h1 := HM.out _ e
  rw [hL] at hp
  simp only [List.mem_cons, List.not_mem_nil, or_false] at hp
  rcases hp with rfl | rfl | rfl | rfl
  ·dsimp only at h1; omega
  ·dsimp only at h1; omega
  ·dsimp only at h1; omega
  ·exact HB.out.2 e
 have SO : Hid (∀ W, Has L W → W.cell? ⟨sb, 2, none⟩ = some (.pointer (some ⟨st, 0, none⟩)) ∧ W.cell? ⟨w.heap.size, 0, none⟩ = some (.int .u32 c) ∧ W.cell? ⟨w.heap.size, 1, none⟩ = some (.int .u32 n) ∧ W.cell? ⟨w.heap.size + 1, 0, none⟩ = some (.int .u64 ap) ∧ W.cell? ⟨w.heap.size + 1, 1, none⟩ = some (.int .u32 al) ∧ W.cell? ⟨w.heap.size + 1 + 1, 0, none⟩ = some (.string (bs key)) ∧ W.cell? ⟨w.heap.size + 1 + 1, 1, none⟩ = some (.string (bs val)) ∧ W.cell? ⟨w.heap.size + 1 + 1, 2, none⟩ = some (.bool dead) ∧ Hid (Has L W)) := fun W hW => by
  subst hL
  exact ⟨hW.cell (.tail _ (.tail _ (.tail _ (.head _)))) HC.out, hW.cell (.tail _ (.tail _ (.head _))) rfl, hW.cell (.tail _ (.tail _ (.head _))) rfl, hW.cell (.tail _ (.head _)) rfl, hW.cell (.tail _ (.head _)) rfl, hW.cell (.head _) rfl, hW.cell (.head _) rfl, hW.cell (.head _) rfl, hW⟩
 clear hL HM HB HC hsb
 go_region_held3 (fun W => W.cell? ⟨sb, 2, none⟩ = some (.pointer (some ⟨st, 0, none⟩)) ∧ W.cell? ⟨w.heap.size, 0, none⟩ = some (.int .u32 c) ∧ W.cell? ⟨w.heap.size, 1, none⟩ = some (.int .u32 n) ∧ W.cell? ⟨w.heap.size + 1, 0, none⟩ = some (.int .u64 ap) ∧ W.cell? ⟨w.heap.size + 1, 1, none⟩ = some (.int .u32 al) ∧ W.cell? ⟨w.heap.size + 1 + 1, 0, none⟩ = some (.string (bs key)) ∧ W.cell? ⟨w.heap.size + 1 + 1, 1, none⟩ = some (.string (bs val)) ∧ W.cell? ⟨w.heap.size + 1 + 1, 2, none⟩ = some (.bool dead) ∧ Hid (Has L W))
  (first | exact SO.out _ H0.out.has | exact SO.out _ H0.out.drew.has | exact SO.out _ H2.out.2)
  (first | (go_at_call 185; refine (CP.out _ H0.out.drew.bel).mono ?_; rintro e w2 ⟨r, rfl, hq, hk⟩; have H2 : Hid (Q w2 ∧ Has L w2) := ⟨hq, H0.out.drew.has.kept hk HN.out⟩; clear hq hk))
 go_wp2_with fail
 go_end0
 exact ⟨rfl, H2.out.1⟩
end Go.Proofs.YtajjnmdomabmkaaGreat
namespace Go.Proofs.YtajjnmdomabmkaaGreat
open Go.RowKit
variable {SA : Nat → Nat → (Nat → Prop) → Sto.Sk → World → Prop} {TA : Nat → Nat → (Nat → Prop) → Lat.Tb → World → Prop} {BA : Nat → Nat → (Nat → Prop) → Ver.Bk → World → Prop}
variable {f : Fp} {M M1 M2 M3 : Nat → Prop} {X : Sd} {a : Int} {g : Nat} {D : Drm.Dr} {w w' : World}
theorem rw_keep {B size n : Nat} {v : Value} {cs : List Value} {G : Nat → Prop} (h : RwAt B size v n cs w) (hk : Kept G w w') (hn : ∀ k, v.ownBlock = some k → ¬ G k) : RwAt B size v n cs w' := by
 obtain ⟨ao, cap, rfl, h1, h2, h3, h4⟩ := h
 refine ⟨ao, cap, rfl, h1, h2, h3, fun h0 => ?_⟩
 obtain ⟨b, off, rfl, h5, h6⟩ := h4 h0
 exact ⟨b, off, rfl, h5, fun j u hj => hk.cell (h6 j u hj) (hn b rfl)⟩
theorem to_all {N1 N2 N3 : Nat → Prop} {X' : Sd} {a' : Int} {g' : Nat} {D' : Drm.Dr} (h : ShC SA TA BA f N1 N2 N3 X' a' g' D' w') (hk : Kept (f.In M1 M2 M3 w) w w') (h1 : ∀ i, N1 i → M1 i ∨ w.heap.size ≤ i) (h2 : ∀ i, N2 i → M2 i ∨ w.heap.size ≤ i) (h3 : ∀ i, N3 i → M3 i ∨ w.heap.size ≤ i) : ShTo SA TA BA f (f.In M1 M2 M3 w) w X' a' g' D' w' :=
 ⟨_, ⟨N1, N2, N3, h, rfl⟩, hk, In_sub hk (fun _ h => h) h1 h2 h3⟩
theorem puts_snoc (c n ap al : Int) : ∀ (L : Lat.Tb) (x : List UInt8 × Lat.Ii) (S : Sto.Sk), putsF c n ap al (L ++ [x]) S = (Sto.putS x.1 (veI c n ap al x) (putsF c n ap al L S)).1
 | [], _, _ => rfl
 | y :: L, x, S => by
  show putsF c n ap al (L ++ [x]) _ = _
  rw [puts_snoc c n ap al L x]
  rfl
theorem puts_tot {c n ap al : Int} : ∀ {L : Lat.Tb} {S : Sto.Sk}, Sto.SOk S → Sto.totS (putsF c n ap al L S) ≤ Sto.totS S + L.length
 | [], _, _ => Nat.le_refl _
 | x :: L, S, h => by
  have h1 := puts_tot (c := c) (n := n) (ap := ap) (al := al) (L := L) (Sto.put_sok h x.1 (veI c n ap al x))
  have h2 := Sto.tot_put h x.1 (veI c n ap al x)
  show Sto.totS (putsF c n ap al L _) ≤ _
  simp only [List.length_cons]
  omega
structure Fx (SA : Nat → Nat → (Nat → Prop) → Sto.Sk → World → Prop) (TA : Nat → Nat → (Nat → Prop) → Lat.Tb → World → Prop) (BA : Nat → Nat → (Nat → Prop) → Ver.Bk → World → Prop) (f : Fp) (M1 N2 M3 : Nat → Prop) (X : Sd) (a : Int) (g : Nat) (D : Drm.Dr) (c n ap al : Int) (L : Lat.Tb) (Lo : List (Nat × Obj)) (w1 : World) (m : Nat) (W : World) : Prop where
 sh : PutTo SA TA BA f M1 N2 M3 { X with S := putsF c n ap al (L.take m) X.S } a g D w1 W
 has : Has Lo W
theorem Fx.step {N2 : Nat → Prop} {c n ap al : Int} {L : Lat.Tb} {Lo : List (Nat × Obj)} {w1 W W' : World} {m : Nat} {x : List UInt8 × Lat.Ii} (hL : L.take (m + 1) = L.take m ++ [x]) (h : Fx SA TA BA f M1 N2 M3 X a g D c n ap al L Lo w1 m W) {W2 : World} (hb : Below W.heap.size W W2) {N1 : Nat → Prop} (hn : ∀ i, N1 i → M1 i ∨ w1.heap.size ≤ i) (hlt : ∀ i, N1 i → i < W.heap.size) (hk1 : Kept M1 w1 W)
  (hp : PutTo SA TA BA f N1 N2 M3 { X with S := (Sto.putS x.1 (veI c n ap al x) (putsF c n ap al (L.take m) X.S)).1 } a g D W2 W') (hlo : ∀ p ∈ Lo, ¬ N1 p.1) : Fx SA TA BA f M1 N2 M3 X a g D c n ap al L Lo w1 (m + 1) W' := by
 obtain ⟨N, h1, h2, h3⟩ := hp
 refine ⟨⟨N, ?_, ?_, fun i hi => ?_⟩, (h.has.on hb).kept h2 hlo⟩
 ·rw [hL, puts_snoc]
  exact h1
 ·exact (hk1.trans (Kept.of_below (F := N1) hb) hn).trans h2 hn
 ·rcases h3 i hi with e | e
  ·exact hn i e
  ·exact .inr (Nat.le_trans hk1.size (Nat.le_trans hb.size e))
theorem fix81 (E : Env SA TA BA) (c n ap al : Int) (h : ShAt SA TA BA f M X a g D w) (ht : X.wt < 9000) :
  Calls Tryz.prog 81 #[.pointer (some ⟨f.sb, 0, none⟩), .agg #[.int .u32 c, .int .u32 n], .agg #[.int .u64 ap, .int .u32 al]] w fun e w' => e = .returned (.tuple #[]) ∧ ShTo SA TA BA f M w (fixF c n ap al X) a g D w' := by
 obtain ⟨M1, M2, M3, h, rfl⟩ := h
 have hwt : Sto.totS X.S + X.T.length + X.K.length < 9000 := ht
 obtain ⟨L, hL⟩ : ∃ L, L = Lat.byF c n X.T := ⟨_, rfl⟩
 have hll : L.length ≤ X.T.length := by rw [hL]; exact Lat.len_by c n X.T
 have CC : Hid (∀ W, Below w.heap.size w W → Calls Tryz.prog 83 #[.pointer (some ⟨f.la, 0, none⟩), .agg #[.int .u32 c, .int .u32 n]] W fun e w' => ∃ ao cap, e = .returned (.slice ao L.length cap) ∧ L.length ≤ 9000 ∧ Hid (∃ N2, ShC SA TA BA f M1 N2 M3 { X with T := Lat.restF c n X.T } a g D w' ∧ Kept M2 W w' ∧ (∀ i, N2 i → M2 i ∨ w.heap.size ≤ i) ∧ Lat.IsAt w'.heap.size (.slice ao L.length cap) L w' ∧ ∀ k, (Value.slice ao L.length cap).ownBlock = some k → w.heap.size ≤ k)) := fun W hb => by
  have hW := h.on E hb
  refine (E.J.cut c n hW.t (by omega)).mono ?_
  rintro e w' ⟨v', N2, rfl, hi, hv, hs, hk, hn⟩
  rw [← hL] at hi
  have hi' := hi
  obtain ⟨ao, cap, rfl, -⟩ := hi'
  exact ⟨ao, cap, rfl, by omega, N2, hW.setT E hs hk hn, hk, fun i hi => (hn i hi).imp id (fun e => Nat.le_trans hb.size e), hi, fun k e => Nat.le_trans hb.size (hv k e)⟩
 have CP : Hid (∀ (N1 N2 : Nat → Prop) (S : Sto.Sk) (x : List UInt8 × Lat.Ii) W, ShC SA TA BA f N1 N2 M3 { X with T := Lat.restF c n X.T, S := S } a g D W → Sto.totS S < 10000 → Calls Tryz.prog 88 #[.pointer (some ⟨f.sb, 0, none⟩), .agg #[.int .u32 c, .int .u32 n], .agg #[.int .u64 ap, .int .u32 al], .agg #[.string (bs x.1), .string (bs x.2.val), .bool x.2.dead]] W fun e w' => e = .returned (.tuple #[]) ∧ PutTo SA TA BA f N1 N2 M3 { X with T := Lat.restF c n X.T, S := (Sto.putS x.1 (veI c n ap al x) S).1 } a g D W w') := fun N1 N2 S x W hW hS => put88 E c n ap al x.1 x.2.val x.2.dead hW hS
 have HT : Hid (∀ m, Sto.totS (putsF c n ap al (L.take m) X.S) < 10000) := fun m => by
  have h1 := puts_tot (c := c) (n := n) (ap := ap) (al := al) (L := L.take m) (E.I.sok h.s)
  have h2 := List.length_take_le' m L
  omega
 have HE : Hid (fixF c n ap al X = { X with T := Lat.restF c n X.T, S := putsF c n ap al L X.S }) := by rw [hL]; rfl
 have HB : Hid (w.heap[f.sb]? = some (.cells (shc f X) 122 (0, 0)) ∧ ¬ M1 f.sb ∧ ¬ M2 f.sb) := ⟨h.blk, fun e => (h.o _ (.inl e)).1 rfl, fun e => (h.o _ (.inr (.inl e))).1 rfl⟩
 have HM : Hid ((∀ k, M1 k → k < w.heap.size) ∧ ∀ k, M2 k → k < w.heap.size) := ⟨fun k hk => (E.I.lt h.s k hk).2, fun k hk => (E.J.lt h.t k hk).2⟩
 have HON : Hid (∀ {N1 N2 : Nat → Prop} {Y : Sd} {W W' : World}, ShC SA TA BA f N1 N2 M3 Y a g D W → Below W.heap.size W W' → ShC SA TA BA f N1 N2 M3 Y a g D W') := fun hh hb => hh.on E hb
 have HI : Hid (∀ {N1 N2 : Nat → Prop} {Y : Sd} {W : World}, ShC SA TA BA f N1 N2 M3 Y a g D W → ∀ k, N1 k → k < W.heap.size) := fun hh k hk => (E.I.lt hh.s k hk).2
 have HC : Hid ((shc f X)[3]? = some (.pointer (some ⟨f.la, 0, none⟩))) := rfl
 generalize shc f X = sc at *
 rw [HE.out]
 clear hwt ht hL hll HE h E
 generalize hsb : f.sb = sb at *
 generalize hla : f.la = la at *
 clear hsb hla
 have H0 : Hid (Bo w [(w.heap.size + 1, .cells #[.int .u64 ap, .int .u32 al] 32), (w.heap.size, .cells #[.int .u32 c, .int .u32 n] 30), (sb, .cells sc 122)] ((w.alloc (.cells #[.int .u32 c, .int .u32 n] 30)).alloc (.cells #[.int .u64 ap, .int .u32 al] 32))) := by
  show Bo _ _ _
  have h1 := ((Bo.one HB.out.1).new (.cells #[.int .u32 c, .int .u32 n] 30)).new (.cells #[.int .u64 ap, .int .u32 al] 32)
  simpa using h1
 go_enter Tryz.func81, Tryz.ntmps81
 go_wp2_with fail
 generalize (w.alloc (.cells #[.int .u32 c, .int .u32 n] 30)).alloc (.cells #[.int .u64 ap, .int .u32 al] 32) = W2 at *
 obtain ⟨Lo, hLo⟩ : ∃ Lo, Lo = [(w.heap.size + 1, Obj.cells #[.int .u64 ap, .int .u32 al] 32), (w.heap.size, .cells #[.int .u32 c, .int .u32 n] 30), (sb, .cells sc 122)] := ⟨_, rfl⟩
 rw [← hLo] at H0
 have HN : Hid (∀ p ∈ Lo, ∀ N : Nat → Prop, (N sb → False) → (∀ k, N k → k < w.heap.size ∨ W2.heap.size ≤ k) → ¬ N p.1) := fun p hp N h0 h1 e => by
  have h2 := h1 _ e
  have h3 := H0.out.has.lt p hp
  rw [hLo] at hp
  simp only [List.mem_cons, List.not_mem_nil, or_false] at hp
  rcases hp with rfl | rfl | rfl
  ·dsimp only at h2 h3; omega
  ·dsimp only at h2 h3; omega
  ·exact h0 e
 have SO : Hid (∀ W, Has Lo W → W.cell? ⟨sb, 3, none⟩ = some (.pointer (some ⟨la, 0, none⟩)) ∧ W.cell? ⟨w.heap.size, 0, none⟩ = some (.int .u32 c) ∧ W.cell? ⟨w.heap.size, 1, none⟩ = some (.int .u32 n) ∧ Hid (Has Lo W)) := fun W hW => by
  subst hLo
  exact ⟨hW.cell (.tail _ (.tail _ (.head _))) HC.out, hW.cell (.tail _ (.head _)) rfl, hW.cell (.tail _ (.head _)) rfl, hW⟩
 have SO2 : Hid (∀ W, Has Lo W → W.cell? ⟨w.heap.size, 0, none⟩ = some (.int .u32 c) ∧ W.cell? ⟨w.heap.size, 1, none⟩ = some (.int .u32 n) ∧ W.cell? ⟨w.heap.size + 1, 0, none⟩ = some (.int .u64 ap) ∧ W.cell? ⟨w.heap.size + 1, 1, none⟩ = some (.int .u32 al)) := fun W hW => by
  subst hLo
  exact ⟨hW.cell (.tail _ (.head _)) rfl, hW.cell (.tail _ (.head _)) rfl, hW.cell (.head _) rfl, hW.cell (.head _) rfl⟩
 clear hLo HC
 go_region_held3 (fun W => W.cell? ⟨sb, 3, none⟩ = some (.pointer (some ⟨la, 0, none⟩)) ∧ W.cell? ⟨w.heap.size, 0, none⟩ = some (.int .u32 c) ∧ W.cell? ⟨w.heap.size, 1, none⟩ = some (.int .u32 n) ∧ Hid (Has Lo W))
  (first | exact SO.out _ H0.out.has | exact SO.out _ H0.out.drew.has | exact SO.out _ H1.out)
  (first | (go_at_call 83; refine (CC.out _ H0.out.drew.bel).mono ?_; rintro e w1 ⟨ao, cap, rfl, hl9, hc⟩; have HCt : Hid _ := hc; have H1 : Hid (Has Lo w1) := (by obtain ⟨N2, -, hk, -⟩ := hc.out; exact H0.out.drew.has.kept hk (fun p hp => HN.out p hp M2 HB.out.2.2 (fun k hk => .inl (HM.out.2 k hk)))); clear hc))
 rename_i hHeld
 clear hHeld
 obtain ⟨N2, hsh, hk1, hn1, his, hrow⟩ := HCt.out
 have HD : Hid (ShC SA TA BA f M1 N2 M3 { X with T := Lat.restF c n X.T } a g D w1 ∧ Kept (f.In M1 M2 M3 w) w w1 ∧ (∀ i, N2 i → M2 i ∨ w.heap.size ≤ i) ∧ Lat.IsAt w1.heap.size (.slice ao L.length cap) L w1 ∧ (∀ k, (Value.slice ao L.length cap).ownBlock = some k → ¬ M1 k) ∧ w.heap.size ≤ w1.heap.size ∧ W2.heap.size ≤ w1.heap.size) :=
  ⟨hsh, (Kept.of_below H0.out.drew.bel).trans (hk1.mono (fun i e => (.inr (.inr (.inr (.inr (.inl e)))) : f.In M1 M2 M3 w i))) (fun i e => .inl e), hn1, his, fun k e hm => by have := hrow k e; have := HM.out.1 k hm; omega, Nat.le_trans H0.out.drew.bel.size hk1.size, hk1.size⟩
 have F0 : Hid (Fx SA TA BA f M1 N2 M3 { X with T := Lat.restF c n X.T } a g D c n ap al L Lo w1 0 w1) := ⟨⟨M1, hsh, Kept.refl _ _, fun _ e => .inl e⟩, H1.out⟩
 clear hsh hk1 hn1 his hrow HCt CC H0 H1 SO
 go_wp2_with fail
 go_loopw [15] (fun i wr => ∃ m : Nat, m ≤ L.length ∧ i = .int .i64 m ∧ Fx SA TA BA f M1 N2 M3 { X with T := Lat.restF c n X.T } a g D c n ap al L Lo w1 m wr) (fun i _ => L.length - (intOf i).toNat)
 case atStart => exact ⟨0, Nat.zero_le _, rfl, F0.out⟩
 case round =>
  obtain ⟨m, hm, rfl, hf⟩ := hrel
  have HF : Hid _ := hf
  obtain ⟨⟨N1, hs1, hk1, hn1⟩, hhas⟩ := hf
  by_cases hml : m < L.length
  ·have hml' : (m : Int) < L.length := by omega
   obtain ⟨b, off, rfl, e0, e1, e2, e3, e4, e5, e6, e7, e8, e9⟩ := Lat.IsAt.el (rw_keep HD.out.2.2.2.1 hk1 HD.out.2.2.2.2.1) hml
   have hT := Lat.ttk_snoc hml
   generalize L.getD m Lat.di = x at *
   obtain ⟨k, y⟩ := x
   dsimp only at e0 e1 e2 e3 e4 e5 e6 e7 e8 e9
   have CQ : Hid (∀ W, Below wr.heap.size wr W → Calls Tryz.prog 88 #[.pointer (some ⟨sb, 0, none⟩), .agg #[.int .u32 c, .int .u32 n], .agg #[.int .u64 ap, .int .u32 al], .agg #[.string (bs k), .string (bs y.val), .bool y.dead]] W fun e w' => e = .returned (.tuple #[]) ∧ Fx SA TA BA f M1 N2 M3 { X with T := Lat.restF c n X.T } a g D c n ap al L Lo w1 (m + 1) w') := fun W hb => by
    refine (CP.out N1 N2 _ (k, y) W ?_ (HT.out m)).mono ?_
    ·exact HON.out hs1 hb
    ·rintro e w' ⟨rfl, hp⟩
     refine ⟨rfl, HF.out.step hT hb hn1 (HI.out hs1) hk1 hp (fun p hp => HN.out p hp N1 ?_ ?_)⟩
     ·intro e
      rcases hn1 _ e with e | e
      ·exact HB.out.2.1 e
      ·have := lt_of_block HB.out.1
       have := HD.out.2.2.2.2.2.1
       omega
     ·intro k hk
      rcases hn1 k hk with e | e
      ·exact .inl (HM.out.1 k e)
      ·exact .inr (Nat.le_trans HD.out.2.2.2.2.2.2 e)
   have H4 : Hid (Bo wr [(wr.heap.size, .cells #[.int .u32 y.c, .int .u32 y.n, .int .u64 y.sp, .int .u32 y.sl, .int .u64 y.mp, .int .u32 y.ml, .string (bs y.prim), .string (bs k), .string (bs y.val), .bool y.dead] 146)] (wr.alloc (.cells #[.int .u32 y.c, .int .u32 y.n, .int .u64 y.sp, .int .u32 y.sl, .int .u64 y.mp, .int .u32 y.ml, .string (bs y.prim), .string (bs k), .string (bs y.val), .bool y.dead] 146))) := ⟨Has.one (heap_alloc_new _ _), (Below.refl _ _).alloc (Nat.le_refl _) _⟩
   obtain ⟨W4, hW4⟩ : ∃ W4, wr.alloc (.cells #[.int .u32 y.c, .int .u32 y.n, .int .u64 y.sp, .int .u32 y.sl, .int .u64 y.mp, .int .u32 y.ml, .string (bs y.prim), .string (bs k), .string (bs y.val), .bool y.dead] 146) = W4 := ⟨_, rfl⟩
   rw [hW4] at H4
   obtain ⟨q0, q1, q2, q3⟩ := SO2.out W4 (hhas.on H4.out.bel)
   have r7 := H4.out.has.cell (.head _) (k := 7) rfl
   have r8 := H4.out.has.cell (.head _) (k := 8) rfl
   have r9 := H4.out.has.cell (.head _) (k := 9) rfl
   have HQ : Hid (m + 1 ≤ L.length) := hml
   clear hs1 hk1 hn1 hhas hT hm
   go_wp2_with fail
   refine (CQ.out _ H4.out.bel).mono ?_
   rintro e w5 ⟨rfl, hf5⟩
   have HF5 : Hid _ := hf5
   clear hf5 e0 e1 e2 e3 e4 e5 e6 e7 e8 e9 q0 q1 q2 q3 r7 r8 r9 hW4
   go_wp2_with fail
   go_roundw
   case rel => exact ⟨m + 1, HQ.out, by go_num, HF5.out⟩
   case measure => simp [intOf]; omega
  ·have hml' : ¬ (m : Int) < L.length := by omega
   have HZ : Hid (L.take m = L) := List.take_of_length_le (by omega)
   clear hs1 hk1 hn1 hhas hm
   go_wp2_with fail
   go_end0
   refine ⟨rfl, ?_⟩
   obtain ⟨⟨N1, hs1, hk1, hn1⟩, -⟩ := HF.out
   rw [HZ.out] at hs1
   refine to_all (M1 := M1) (M2 := M2) (M3 := M3) hs1 (HD.out.2.1.trans (hk1.mono (fun i e => (.inr (.inr (.inr (.inl e))) : f.In M1 M2 M3 w i))) (fun i e => .inl e)) (fun i hi => (hn1 i hi).imp id (fun e => Nat.le_trans HD.out.2.2.2.2.2.1 e)) HD.out.2.2.1 (fun _ e => .inl e)
end Go.Proofs.YtajjnmdomabmkaaGreat
namespace Go.Proofs.YtajjnmdomabmkaaGreat
open Go.RowKit
variable {SA : Nat → Nat → (Nat → Prop) → Sto.Sk → World → Prop} {TA : Nat → Nat → (Nat → Prop) → Lat.Tb → World → Prop} {BA : Nat → Nat → (Nat → Prop) → Ver.Bk → World → Prop}
variable {f : Fp} {M : Nat → Prop} {X : Sd} {a : Int} {g : Nat} {D : Drm.Dr} {w W W' : World} {Lo : List (Nat × Obj)}
structure Cx (SA : Nat → Nat → (Nat → Prop) → Sto.Sk → World → Prop) (TA : Nat → Nat → (Nat → Prop) → Lat.Tb → World → Prop) (BA : Nat → Nat → (Nat → Prop) → Ver.Bk → World → Prop) (f : Fp) (M : Nat → Prop) (w : World) (X : Sd) (a : Int) (g : Nat) (D : Drm.Dr) (Lo : List (Nat × Obj)) (W : World) : Prop where
 sh : ∃ M', ShAt SA TA BA f M' X a g D W ∧ (∀ i, M' i → M i ∨ w.heap.size ≤ i) ∧ ∀ p ∈ Lo, ¬ M' p.1
 kp : Kept M w W
 has : Has Lo W
theorem Cx.start (h : ShAt SA TA BA f M X a g D w) : Cx SA TA BA f M w X a g D [] w := ⟨⟨M, h, fun _ e => .inl e, fun _ e => by cases e⟩, Kept.refl _ _, fun _ e => by cases e⟩
theorem Cx.to (h : Cx SA TA BA f M w X a g D Lo W) : ShTo SA TA BA f M w X a g D W := by
 obtain ⟨⟨M', h1, h2, -⟩, h3, -⟩ := h
 exact ⟨M', h1, h3, h2⟩
theorem Cx.new (E : Env SA TA BA) (h : Cx SA TA BA f M w X a g D Lo W) (cs : Array Value) (ty : TypeId) (ht : ty ≠ 5) : Cx SA TA BA f M w X a g D ((W.heap.size, .cells cs ty (0, 0)) :: Lo) (W.alloc (.cells cs ty (0, 0))) := by
 obtain ⟨⟨M', h1, h2, h3⟩, h4, h5⟩ := h
 have hl : ∀ k, M' k → k < W.heap.size := fun k hk => h1.lt E hk
 obtain ⟨M1, M2, M3, hc, rfl⟩ := h1
 have hb := al (W := W) (.cells cs ty (0, 0))
 refine ⟨⟨_, ⟨M1, M2, M3, hc.on E hb, rfl⟩, fun i hi => ?_, fun p hp hi => ?_⟩, h4.trans (Kept.of_below (F := fun _ => False) hb) (fun _ e => e.elim), h5.new _⟩
 ·rcases In_kept (G := fun _ => False) (Kept.of_below hb) hi with e | e | e
  ·exact h2 i e
  ·exact .inr (Nat.le_trans h4.size e)
  ·exact e.elim
 ·rcases List.mem_cons.1 hp with rfl | hp
  ·rcases hi with e | e | e | e | e | e | ⟨-, cs', fz, e⟩
   ·exact absurd (lt_of_block hc.blk) (by rw [← e]; exact Nat.lt_irrefl _)
   ·exact absurd (Lgs.LbAt.lt hc.lg.blk) (by rw [← e]; exact Nat.lt_irrefl _)
   ·exact absurd hc.lg.drum.lt (by rw [← e]; exact Nat.lt_irrefl _)
   ·exact absurd (E.I.lt hc.s _ e).2 (Nat.lt_irrefl _)
   ·exact absurd (E.J.lt hc.t _ e).2 (Nat.lt_irrefl _)
   ·exact absurd (E.V.lt hc.v _ e).2 (Nat.lt_irrefl _)
   ·rw [heap_alloc_new] at e
    injection e with e
    injection e with _ e _
    exact ht e
  ·rcases In_kept (G := fun _ => False) (Kept.of_below hb) hi with e | e | e
   ·exact h3 p hp e
   ·have := h5.lt p hp
    omega
   ·exact e.elim
theorem Cx.on (E : Env SA TA BA) (h : Cx SA TA BA f M w X a g D Lo W) (hb : Below W.heap.size W W') : Cx SA TA BA f M w X a g D Lo W' := by
 obtain ⟨⟨M', h1, h2, h3⟩, h4, h5⟩ := h
 obtain ⟨M2, h6, h7⟩ := h1.on E hb
 refine ⟨⟨M2, h6, fun i hi => ?_, fun p hp hi => ?_⟩, h4.trans (Kept.of_below (F := fun _ => False) hb) (fun _ e => e.elim), h5.on hb⟩
 ·rcases h7 i hi with e | e
  ·exact h2 i e
  ·exact .inr (Nat.le_trans h4.size e)
 ·rcases h7 _ hi with e | e
  ·exact h3 p hp e
  ·have := h5.lt p hp
   omega
theorem Cx.drew (E : Env SA TA BA) (h : Cx SA TA BA f M w X a g D Lo W) : Cx SA TA BA f M w X a g D Lo W.drew := h.on E (Below.refl _ _).drew
theorem Cx.less {Lo' : List (Nat × Obj)} (h : Cx SA TA BA f M w X a g D Lo W) (hl : ∀ p ∈ Lo', p ∈ Lo) : Cx SA TA BA f M w X a g D Lo' W := by
 obtain ⟨⟨M', h1, h2, h3⟩, h4, h5⟩ := h
 exact ⟨⟨M', h1, h2, fun p hp => h3 p (hl p hp)⟩, h4, fun p hp => h5 p (hl p hp)⟩
theorem Cx.next {M' : Nat → Prop} {X2 : Sd} {a2 : Int} {g2 : Nat} {D2 : Drm.Dr} (h : Cx SA TA BA f M w X a g D Lo W) (h2 : ∀ i, M' i → M i ∨ w.heap.size ≤ i) (h3 : ∀ p ∈ Lo, ¬ M' p.1) (ht : ShTo SA TA BA f M' W X2 a2 g2 D2 W') : Cx SA TA BA f M w X2 a2 g2 D2 Lo W' := by
 obtain ⟨M2, h5, h6, h7⟩ := ht
 refine ⟨⟨M2, h5, fun i hi => ?_, fun p hp hi => ?_⟩, h.kp.trans h6 h2, h.has.kept h6 h3⟩
 ·rcases h7 i hi with e | e
  ·exact h2 i e
  ·exact .inr (Nat.le_trans h.kp.size e)
 ·rcases h7 _ hi with e | e
  ·exact h3 p hp e
  ·have := h.has.lt p hp
   omega
theorem Cx.calls {n : Nat} {args : Array Value} {R : Ending → Prop} {X2 : Sd} {a2 : Int} {g2 : Nat} {D2 : Drm.Dr} (h : Cx SA TA BA f M w X a g D Lo W) (C : ∀ M', ShAt SA TA BA f M' X a g D W → Calls Tryz.prog n args W fun e w' => R e ∧ ShTo SA TA BA f M' W X2 a2 g2 D2 w') : Calls Tryz.prog n args W fun e w' => R e ∧ Cx SA TA BA f M w X2 a2 g2 D2 Lo w' := by
 obtain ⟨M', h1, h2, h3⟩ := h.sh
 refine (C M' h1).mono ?_
 rintro e w' ⟨hr, ht⟩
 exact ⟨hr, h.next h2 h3 ht⟩
theorem Cx.reads (E : Env SA TA BA) {n : Nat} {args : Array Value} {R : Ending → World → Prop} (h : Cx SA TA BA f M w X a g D Lo W) (C : ∀ M', ShAt SA TA BA f M' X a g D W → Calls Tryz.prog n args W fun e w' => R e w' ∧ Below W.heap.size W w') : Calls Tryz.prog n args W fun e w' => R e w' ∧ Cx SA TA BA f M w X a g D Lo w' ∧ Below W.heap.size W w' := by
 obtain ⟨M', h1, h2, h3⟩ := h.sh
 refine (C M' h1).mono ?_
 rintro e w' ⟨hr, hb⟩
 exact ⟨hr, h.on E hb, hb⟩
theorem Cx.ptrs (h : Cx SA TA BA f M w X a g D Lo W) : W.cell? ⟨f.sb, 0, none⟩ = some (.pointer (some ⟨f.pb, 0, none⟩)) ∧ W.cell? ⟨f.sb, 1, none⟩ = some (.pointer (some ⟨f.lb, 0, none⟩)) ∧ W.cell? ⟨f.sb, 2, none⟩ = some (.pointer (some ⟨f.st, 0, none⟩)) ∧ W.cell? ⟨f.sb, 3, none⟩ = some (.pointer (some ⟨f.la, 0, none⟩)) ∧ W.cell? ⟨f.sb, 4, none⟩ = some (.pointer (some ⟨f.ve, 0, none⟩)) := by
 obtain ⟨M', h1, -, -⟩ := h.sh
 exact h1.cells
theorem Cx.nums (h : Cx SA TA BA f M w X a g D Lo W) : W.cell? ⟨f.sb, 5, none⟩ = some (.int .u64 X.sp) ∧ W.cell? ⟨f.sb, 6, none⟩ = some (.int .u32 X.sl) ∧ W.cell? ⟨f.sb, 7, none⟩ = some (.int .u64 X.np) ∧ W.cell? ⟨f.sb, 8, none⟩ = some (.int .u32 X.nl) ∧ W.cell? ⟨f.sb, 9, none⟩ = some (.int .u64 X.bp) ∧ W.cell? ⟨f.sb, 10, none⟩ = some (.int .u32 X.bl) := by
 obtain ⟨M', h1, -, -⟩ := h.sh
 exact h1.nums
theorem Cx.free (h : Cx SA TA BA f M w X a g D Lo W) (k : Nat) : W.frozen? ⟨f.sb, k, none⟩ = false := by
 obtain ⟨M', h1, -, -⟩ := h.sh
 exact h1.free k
theorem set_two (E : Env SA TA BA) (h : ShAt SA TA BA f M X a g D w) (j : Nat) (u v : Value) (X' : Sd) (hX : ((shc f X).setIfInBounds j u).setIfInBounds (j + 1) v = shc f X') (hS : X'.S = X.S) (hT : X'.T = X.T) (hK : X'.K = X.K) : ShTo SA TA BA f M w X' a g D ((w.setCell ⟨f.sb, j, none⟩ u).setCell ⟨f.sb, j + 1, none⟩ v) := by
 obtain ⟨M1, M2, M3, h, rfl⟩ := h
 have h1 := Drm.blk_setCell (k := j) (u := u) h.blk
 have h2 := Drm.blk_setCell (k := j + 1) (u := v) h1
 rw [hX] at h2
 refine to_n E h h2 ⟨rfl, rfl, rfl, by simp, fun k hk hn => ?_⟩ hS hT hK
 rw [Below.heap_setCell _ _ _ _ hn, Below.heap_setCell _ _ _ _ hn]
theorem Cx.set (E : Env SA TA BA) (h : Cx SA TA BA f M w X a g D Lo W) (j : Nat) (u v : Value) (X' : Sd) (hX : ((shc f X).setIfInBounds j u).setIfInBounds (j + 1) v = shc f X') (hS : X'.S = X.S) (hT : X'.T = X.T) (hK : X'.K = X.K) : Cx SA TA BA f M w X' a g D Lo ((W.setCell ⟨f.sb, j, none⟩ u).setCell ⟨f.sb, j + 1, none⟩ v) := by
 obtain ⟨M', h1, h2, h3⟩ := h.sh
 exact h.next h2 h3 (set_two E h1 j u v X' hX hS hT hK)
theorem Cx.setNow (E : Env SA TA BA) (h : Cx SA TA BA f M w X a g D Lo W) (p l : Int) : Cx SA TA BA f M w { X with np := p, nl := l } a g D Lo ((W.setCell ⟨f.sb, 7, none⟩ (.int .u64 p)).setCell ⟨f.sb, 8, none⟩ (.int .u32 l)) := h.set E 7 _ _ _ rfl rfl rfl rfl
theorem Cx.setBound (E : Env SA TA BA) (h : Cx SA TA BA f M w X a g D Lo W) (p l : Int) : Cx SA TA BA f M w { X with bp := p, bl := l } a g D Lo ((W.setCell ⟨f.sb, 9, none⟩ (.int .u64 p)).setCell ⟨f.sb, 10, none⟩ (.int .u32 l)) := h.set E 9 _ _ _ rfl rfl rfl rfl
end Go.Proofs.YtajjnmdomabmkaaGreat
namespace Go.Proofs.YtajjnmdomabmkaaGreat
open Go.RowKit
variable {SA : Nat → Nat → (Nat → Prop) → Sto.Sk → World → Prop} {TA : Nat → Nat → (Nat → Prop) → Lat.Tb → World → Prop} {BA : Nat → Nat → (Nat → Prop) → Ver.Bk → World → Prop}
variable {f : Fp} {M : Nat → Prop} {X : Sd} {a : Int} {g : Nat} {D : Drm.Dr} {w W W' : World} {Lo : List (Nat × Obj)}
theorem info30 : (Tryz.prog.info? 30).map (fun i => (i.zero, i.size, i.bytes)) = some (some (.agg #[.int .u32 0, .int .u32 0]), 2, 8) := by kernel_rfl
end Go.Proofs.YtajjnmdomabmkaaGreat
