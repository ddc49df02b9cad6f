import Derived.Test.YtkdkgdollmmcnaaGreatWbu
set_option maxHeartbeats 4000000
set_option maxRecDepth 100000
set_option linter.unusedVariables false
set_option linter.unusedSimpArgs false
namespace Go.Proofs.YtkdkgdollmmcnaaGreat
open Go.RowKit Go.Sort Go.Shelf
variable {W W' w w1 : World} {f f' : Fo} {X X' : Ss} {Lb Lb' Ls : List Bo} {vS : Value} {S : List Lx} {sb k : Nat}
structure Se (w : World) (sb : Nat) (X : Ss) (k : Nat) (Lb : List Bo) (vS : Value) (S : List Lx) (W : World) : Prop where
 ex : ∃ f Ls, Lw w f X Lb Ls vS S W ∧ f.sb = sb ∧ Ok f X k
theorem Se.box (h : Se w sb X k Lb vS S W) (cs : Array Value) (ty : TypeId) (ht : ty ≠ 55) : Se w sb X k ((W.heap.size, cs, ty) :: Lb) vS S (W.alloc (.cells cs ty)) := by
 obtain ⟨f, Ls, h1, h2⟩ := h
 exact ⟨f, Ls, h1.box cs ty ht, h2⟩
theorem Se.bm (h : Se w sb X k Lb vS S W) {b : Nat} {cs : Array Value} {ty : TypeId} (hp : (b, cs, ty) ∈ Lb) : W.heap[b]? = some (.cells cs ty (0, 0)) := by
 obtain ⟨f, Ls, h1, h2⟩ := h
 exact h1.bm hp
theorem Se.kp (h : Se w sb X k Lb vS S W) : Kept nob w W := by
 obtain ⟨f, Ls, h1, h2⟩ := h
 exact h1.cx.kp
theorem Se.below (h : Se w sb X k Lb vS S W) : Below w.heap.size w W := ⟨h.kp.os, h.kp.tape, h.kp.output, h.kp.size, fun j hj => h.kp.block j hj (fun e => e)⟩
theorem out_len {N : Nat → Prop} (h : SC f N X W) : f.lo.length = X.out.length := by rw [h.eo, List.length_map]
theorem Se.do (h : Se w sb X k Lb vS S W) (hk : k ≤ 100000) (ho : X.out.length ≤ 100000) (ph : Nat) (op : Op) : Calls Tryz.prog 11 #[pz sb, uw ph, .agg #[iw op.k, sd op.key, sd op.val, sd op.to, iw op.lim]] W fun e w' => e = .returned (rsV (doF bt X ph op).2) ∧ Se w sb (doF bt X ph op).1 (k + 9) Lb vS S w' := by
 obtain ⟨f, Ls, h1, rfl, h3⟩ := h
 exact (do_ok hk h1.cx.sc h1.cx.nok h3 (by rw [out_len h1.cx.sc]; exact ho) ph op).mono fun e w' ⟨g1, f', g2, g3, g4⟩ => ⟨g1, f', Ls, h1.next g2, g3, h3.do ph op g4⟩
theorem rwf_arg {M : Nat → Prop} {B size n : Nat} {v : Value} {cs : List Value} (h : RwAt B size v n cs W) (hM : ∀ j, M j → B ≤ j) : RwF M size v n cs W := by
 obtain ⟨ao, cap, e, h1, h2, h3, h4⟩ := h
 exact ⟨ao, cap, e, h1, h2, h3, fun hc => by
  obtain ⟨b, off, e2, h5, h6⟩ := h4 hc
  exact ⟨b, off, e2, fun hn hm => absurd (hM b hm) (by have := h5 hn; omega), h6⟩⟩
theorem Se.out (h : Se w sb X k Lb vS S W) : Calls Tryz.prog 13 #[pz sb] W fun e w' => ∃ (vo : Value) (L : List Lx), e = .returned vo ∧ Se w sb { X with out := [] } k Lb vS S w' ∧ w'.ownsRow 0 55 31 vo L.length (rowC lxc L) ∧ L.map Lx.l = X.out ∧ (∀ x ∈ L, x.l.an = false ∧ x.l.r = zR ∧ x.vw.oneCell' = true ∧ x.vs.oneCell' = true ∧ QAt w'.heap.size x.l.q x.vw x.vs w') := by
 obtain ⟨f, Ls, h1, rfl, h3⟩ := h
 refine (out13 h1.cx.sc h1.cx.nok (fun x hx => ?_)).mono fun e w' ⟨g1, L, g2⟩ => ?_
 ·have hm : x.l ∈ X.out := by rw [h1.cx.sc.eo]; exact List.mem_map_of_mem hx
  have := (h3.g.ou _ hm).q.ok
  exact ⟨by have := this.wl; omega, by have := this.sk; omega⟩
 ·obtain ⟨Ls', g3⟩ := h1.out g2
  exact ⟨f.vo, L, g1, ⟨_, Ls', g3, rfl, h3.out _ _⟩, g2.own, g2.el, fun x hx => ⟨(g2.qf x hx).2.1, (g2.qf x hx).2.2.1, (g2.qf x hx).2.2.2.1, (g2.qf x hx).2.2.2.2, (g2.qf x hx).1.at⟩⟩
theorem Se.new (c n : Nat) (hc : c < 4) (hn : 1 ≤ n ∧ n ≤ 8) (hb : Below w.heap.size w w1) : Calls Tryz.prog 8 #[iw (c : Int), iw (n : Int)] w1 fun e w' => ∃ sb, e = .returned (.tuple #[pz sb, iw 0]) ∧ Se w sb (Ss.new c n) 0 [] sy [] w' := by
 refine (new8 c n hc hn w1).mono fun e w' ⟨h1, h2, h3⟩ => ⟨w1.heap.size, h1, ?_⟩
 have hsz : w.heap.size ≤ w1.heap.size := hb.size
 have hin : ∀ i, (⟨w1.heap.size, 0, sy, sy, sy, 0, 0, 0, 0, zO, 0, sy, [], fun _ => 0, fun _ => 0, [], []⟩ : Fo).In false i → i = w1.heap.size := fun i e => by
  rcases e with e | e | e | ⟨e, -⟩ | ⟨e, -⟩ | ⟨n, e, -⟩
  ·exact e
  ·cases e
  ·cases e
  ·cases e
  ·exact absurd rfl e
  ·cases e
 refine ⟨_, [], ⟨⟨SC.fresh0 c n w1 h3, fun i hi => .inr (by rw [hin i hi]; exact hsz), ?_, (fun p hp => by cases hp), (fun p hp => by cases hp), fun j e => e.elim⟩, (fun p hp => by cases hp), (fun p hp => by cases hp), World.ownsRow_nil _ _ _ _, fun j e => by cases e⟩, rfl, Ok.new _ rfl hc hn⟩
 have hb2 : Below w.heap.size w w' := hb.trans (h2.mono hsz)
 exact ⟨hb2.os, hb2.tape, hb2.output, hb2.size, fun j hj _ => hb2.block j hj⟩
end Go.Proofs.YtkdkgdollmmcnaaGreat
namespace Go.Proofs.YtkdkgdollmmcnaaGreat
open Go.RowKit Go.Sort Go.Shelf
variable {M M' G N : Nat → Prop} {W W' w : World} {f f' : Fo} {X X' : Ss}
def aw1 : Ss × Rs := doF bt (Ss.new 0 2) 5 ⟨1, [], [], [], 0⟩
def aw2 : Ss × Rs := doF bt aw1.1 5 ⟨4, [97], [], [118], 0⟩
def aw3 : Ss × Rs := doF bt aw2.1 5 ⟨2, [97], [], [], 0⟩
def aw4 : Ss × Rs := doF bt aw3.1 5 ⟨6, [], [], [], 0⟩
theorem aw_facts : aw1.2.k = 1 ∧ aw2.2.k = 1 ∧ aw3.2.k = 2 ∧ aw3.2.val = [118] ∧ aw4.2.k = 0 ∧ aw1.1.out.length = 0 ∧ aw2.1.out.length = 0 ∧ aw3.1.out.length = 0 ∧ aw4.1.out.map (fun l => l.q.k) = [3] := by
 refine ⟨?_, ?_, ?_, ?_, ?_, ?_, ?_, ?_, ?_⟩ <;> kernel_rfl
theorem out_one {L : List Lx} (h : L.map Lx.l = aw4.1.out) : ∃ x, L = [x] ∧ x.l.q.k = 3 := by
 have h1 := aw_facts.2.2.2.2.2.2.2.2
 rw [← h, List.map_map] at h1
 cases L with
 | nil => cases h1
 | cons x L =>
  cases L with
  | nil =>
   rw [List.map_cons, List.map_nil] at h1
   injection h1 with h1 _
   exact ⟨x, rfl, h1⟩
  | cons y L =>
   rw [List.map_cons, List.map_cons] at h1
   injection h1 with _ h1
   cases h1
theorem awake7 (w : World) : Calls Tryz.prog 7 #[] w fun e w' => e = .returned (.bool true) ∧ Below w.heap.size w w' := by
 obtain ⟨F1, F2, F3, F3v, F4, G1, G2, G3, -⟩ := aw_facts
 have HF : Hid _ := And.intro F1 (And.intro F2 (And.intro F3 (And.intro F3v F4)))
 have HG : Hid _ := And.intro G1 (And.intro G2 G3)
 clear F1 F2 F3 F3v F4 G1 G2 G3
 have C8 : Hid (1 = 1 → _) := fun _ => Se.new (w := w) (w1 := w) 0 2 (by decide) (by decide) (Below.refl _ _)
 go_enter Tryz.func7, Tryz.ntmps7
 go_wp2_with fail
 refine (C8.out (by trivial)).mono ?_
 rintro e w0 ⟨sb, rfl, h0⟩
 have X0 : Hid _ := h0
 clear h0 C8
 have C1 : Hid (1 = 1 → Calls Tryz.prog 11 #[pz sb, .int .u64 5, .agg #[iw 1, su, su, su, iw 0]] w0 fun e w' => e = .returned (rsV aw1.2) ∧ Se w sb aw1.1 9 [] sy [] w') := fun _ => X0.out.do (by decide) (by show (0 : Nat) ≤ 100000; decide) 5 ⟨1, [], [], [], 0⟩
 obtain ⟨r1, hr1⟩ := xj aw1.2
 rw [hr1] at C1 HF
 go_wp2_with fail
 refine (C1.out (by trivial)).mono ?_
 rintro e v1 ⟨rfl, h1⟩
 obtain ⟨b1, hb1⟩ := xj v1.heap.size
 have X1 : Hid (Se w sb aw1.1 9 [(b1, (rsc r1 sy).toArray, 41)] sy [] (v1.alloc (.cells (rsc r1 sy).toArray 41))) := by rw [← hb1]; exact h1.box _ 41 (by decide)
 obtain ⟨w1, hw1⟩ := xj (v1.alloc (.cells (rsc r1 sy).toArray 41))
 rw [hw1] at X1
 have N1 : Hid ((v1.alloc (.cells RZ 41)).heap[b1]? = some (.cells RZ 41 (0, 0))) := by rw [← hb1]; exact heap_alloc_new v1 _
 have E1 : Hid ((v1.alloc (.cells RZ 41)).setRow b1 (rsc r1 sy).toArray = w1) := by
  show _ = _
  rw [← hb1, World.setRow_alloc_new, hw1]
 clear h1 C1 hw1 X0
 unfold rsV
 go_upto_region 3 with (first
  | (refine wpList_store_row rfl 41 _ _ rfl b1 (rsc r1 sy).toArray rfl rfl 41 _ N1.out (by kernel_rfl) rfl (rsc_all _ _ rfl) ?_; rewrite [E1.out]))
 simp only [Act.put]
 clear N1 E1 hb1
 have C2 : Hid (1 = 1 → Calls Tryz.prog 11 #[pz sb, .int .u64 5, .agg #[iw 4, .string ⟨#[97]⟩, .string ⟨#[118]⟩, su, iw 0]] w1 fun e w' => e = .returned (rsV aw2.2) ∧ Se w sb aw2.1 18 [(b1, (rsc r1 sy).toArray, 41)] sy [] w') := fun _ => X1.out.do (by decide) (by rw [HG.out.1]; decide) 5 ⟨4, [97], [], [118], 0⟩
 obtain ⟨r2, hr2⟩ := xj aw2.2
 rw [hr2] at C2 HF
 go_wp2_with fail
 refine (C2.out (by trivial)).mono ?_
 rintro e v2 ⟨rfl, h2⟩
 obtain ⟨b2, hb2⟩ := xj v2.heap.size
 have X2 : Hid (Se w sb aw2.1 18 [(b2, (rsc r2 sy).toArray, 41), (b1, (rsc r1 sy).toArray, 41)] sy [] (v2.alloc (.cells (rsc r2 sy).toArray 41))) := by rw [← hb2]; exact h2.box _ 41 (by decide)
 obtain ⟨w2, hw2⟩ := xj (v2.alloc (.cells (rsc r2 sy).toArray 41))
 rw [hw2] at X2
 have N2 : Hid ((v2.alloc (.cells RZ 41)).heap[b2]? = some (.cells RZ 41 (0, 0))) := by rw [← hb2]; exact heap_alloc_new v2 _
 have E2 : Hid ((v2.alloc (.cells RZ 41)).setRow b2 (rsc r2 sy).toArray = w2) := by
  show _ = _
  rw [← hb2, World.setRow_alloc_new, hw2]
 clear h2 C2 hw2 X1
 unfold rsV
 go_upto_region 4 with (first
  | (refine wpList_store_row rfl 41 _ _ rfl b2 (rsc r2 sy).toArray rfl rfl 41 _ N2.out (by kernel_rfl) rfl (rsc_all _ _ rfl) ?_; rewrite [E2.out]))
 simp only [Act.put]
 clear N2 E2 hb2
 have C3 : Hid (1 = 1 → Calls Tryz.prog 11 #[pz sb, .int .u64 5, .agg #[iw 2, .string ⟨#[97]⟩, su, su, iw 0]] w2 fun e w' => e = .returned (rsV aw3.2) ∧ Se w sb aw3.1 27 [(b2, (rsc r2 sy).toArray, 41), (b1, (rsc r1 sy).toArray, 41)] sy [] w') := fun _ => X2.out.do (by decide) (by rw [HG.out.2.1]; decide) 5 ⟨2, [97], [], [], 0⟩
 obtain ⟨r3, hr3⟩ := xj aw3.2
 rw [hr3] at C3 HF
 go_wp2_with fail
 refine (C3.out (by trivial)).mono ?_
 rintro e v3 ⟨rfl, h3⟩
 obtain ⟨b3, hb3⟩ := xj v3.heap.size
 have X3 : Hid (Se w sb aw3.1 27 [(b3, (rsc r3 sy).toArray, 41), (b2, (rsc r2 sy).toArray, 41), (b1, (rsc r1 sy).toArray, 41)] sy [] (v3.alloc (.cells (rsc r3 sy).toArray 41))) := by rw [← hb3]; exact h3.box _ 41 (by decide)
 obtain ⟨w3, hw3⟩ := xj (v3.alloc (.cells (rsc r3 sy).toArray 41))
 rw [hw3] at X3
 have N3 : Hid ((v3.alloc (.cells RZ 41)).heap[b3]? = some (.cells RZ 41 (0, 0))) := by rw [← hb3]; exact heap_alloc_new v3 _
 have E3 : Hid ((v3.alloc (.cells RZ 41)).setRow b3 (rsc r3 sy).toArray = w3) := by
  show _ = _
  rw [← hb3, World.setRow_alloc_new, hw3]
 clear h3 C3 hw3 X2
 unfold rsV
 go_upto_region 5 with (first
  | (refine wpList_store_row rfl 41 _ _ rfl b3 (rsc r3 sy).toArray rfl rfl 41 _ N3.out (by kernel_rfl) rfl (rsc_all _ _ rfl) ?_; rewrite [E3.out]))
 simp only [Act.put]
 clear N3 E3 hb3
 have C4 : Hid (1 = 1 → Calls Tryz.prog 11 #[pz sb, .int .u64 5, .agg #[iw 6, su, su, su, iw 0]] w3 fun e w' => e = .returned (rsV aw4.2) ∧ Se w sb aw4.1 36 [(b3, (rsc r3 sy).toArray, 41), (b2, (rsc r2 sy).toArray, 41), (b1, (rsc r1 sy).toArray, 41)] sy [] w') := fun _ => X3.out.do (by decide) (by rw [HG.out.2.2]; decide) 5 ⟨6, [], [], [], 0⟩
 obtain ⟨r4, hr4⟩ := xj aw4.2
 rw [hr4] at C4 HF
 go_wp2_with fail
 refine (C4.out (by trivial)).mono ?_
 rintro e v4 ⟨rfl, h4⟩
 obtain ⟨b4, hb4⟩ := xj v4.heap.size
 have X4 : Hid (Se w sb aw4.1 36 [(b4, (rsc r4 sy).toArray, 41), (b3, (rsc r3 sy).toArray, 41), (b2, (rsc r2 sy).toArray, 41), (b1, (rsc r1 sy).toArray, 41)] sy [] (v4.alloc (.cells (rsc r4 sy).toArray 41))) := by rw [← hb4]; exact h4.box _ 41 (by decide)
 obtain ⟨w4, hw4⟩ := xj (v4.alloc (.cells (rsc r4 sy).toArray 41))
 rw [hw4] at X4
 have N4 : Hid ((v4.alloc (.cells RZ 41)).heap[b4]? = some (.cells RZ 41 (0, 0))) := by rw [← hb4]; exact heap_alloc_new v4 _
 have E4 : Hid ((v4.alloc (.cells RZ 41)).setRow b4 (rsc r4 sy).toArray = w4) := by
  show _ = _
  rw [← hb4, World.setRow_alloc_new, hw4]
 clear h4 C4 hw4 X3
 unfold rsV
 go_upto_region 6 with (first
  | (refine wpList_store_row rfl 41 _ _ rfl b4 (rsc r4 sy).toArray rfl rfl 41 _ N4.out (by kernel_rfl) rfl (rsc_all _ _ rfl) ?_; rewrite [E4.out]))
 simp only [Act.put]
 clear N4 E4 hb4
 have C13 : Hid (1 = 1 → _) := fun _ => X4.out.out
 clear X4
 go_wp2_with fail
 refine (C13.out (by trivial)).mono ?_
 rintro e w5 ⟨vo, L, rfl, h5, hown, hel, -⟩
 obtain ⟨x, rfl, hxk⟩ := out_one hel
 have X5 : Hid _ := h5
 obtain ⟨ao, cap, hve, -⟩ := rw_own hown
 subst hve
 have hL1 : ([x] : List Lx).length = 1 := rfl
 rw [hL1] at hown
 have hao : ∃ g, ao = some ⟨g, 0, none⟩ := by
  rcases hown.2 with ⟨e, -⟩ | ⟨g, cap', cur, e, -⟩
  ·cases e
  ·injection e with e
   exact ⟨g, e⟩
 obtain ⟨g, rfl⟩ := hao
 have d4 : w5.cell? ⟨g, 4, none⟩ = some (iw x.l.q.k) := by
  have k := World.ownsRow.cells hown (g := g) rfl 4 (iw x.l.q.k) rfl
  rw [Addr.add_lit] at k
  exact k
 have q1 : w5.cell? ⟨b1, 0, none⟩ = some (iw r1.k) := block_cell (X5.out.bm (b := b1) (cs := (rsc r1 sy).toArray) (ty := 41) (by simp)) rfl
 have q2 : w5.cell? ⟨b2, 0, none⟩ = some (iw r2.k) := block_cell (X5.out.bm (b := b2) (cs := (rsc r2 sy).toArray) (ty := 41) (by simp)) rfl
 have q3 : w5.cell? ⟨b3, 0, none⟩ = some (iw r3.k) := block_cell (X5.out.bm (b := b3) (cs := (rsc r3 sy).toArray) (ty := 41) (by simp)) rfl
 have q3v : w5.cell? ⟨b3, 9, none⟩ = some (sd r3.val) := block_cell (X5.out.bm (b := b3) (cs := (rsc r3 sy).toArray) (ty := 41) (by simp)) rfl
 have q4 : w5.cell? ⟨b4, 0, none⟩ = some (iw r4.k) := block_cell (X5.out.bm (b := b4) (cs := (rsc r4 sy).toArray) (ty := 41) (by simp)) rfl
 rw [HF.out.1] at q1
 rw [HF.out.2.1] at q2
 rw [HF.out.2.2.1] at q3
 rw [HF.out.2.2.2.1] at q3v
 have q3v' : w5.cell? ⟨b3, 9, none⟩ = some (.string ⟨#[118]⟩) := q3v
 clear q3v
 rw [HF.out.2.2.2.2] at q4
 rw [hxk] at d4
 have HB : Hid _ := X5.out.below
 clear HF HG hown h5 hel X5 hxk C13
 go_wp2_with fail
 go_ret
 exact ⟨rfl, HB.out⟩
structure AcOk (w : World) (a : Ac) : Prop where
 one : a.one
 raw : -9223372036854775808 ≤ a.raw ∧ a.raw ≤ 9223372036854775807
 rp : PsAt w.heap.size a.vp a.r.ps w
 l : LAt w.heap.size a.l a.lw a.ls a.lp w
def dac : Ac := ⟨0, 0, 0, zO, zR, zL, sy, sy, sy, sy⟩
theorem acc_one {a : Ac} (h : a.one) : ∀ u ∈ acc a, u.oneCell' = true := fun u hu => by
 unfold acc at hu
 simp only [List.mem_cons, List.mem_append] at hu
 rcases hu with rfl | rfl | rfl | rfl | rfl | rfl | rfl | rfl | hu | hu
 ·rfl
 ·rfl
 ·rfl
 ·rfl
 ·rfl
 ·rfl
 ·rfl
 ·rfl
 ·exact rpc_one h.1 u hu
 ·exact lfc_one h.2.1 h.2.2.1 h.2.2.2 u hu
theorem acts_at {acts : List Ac} {ao : Option Addr} {cap i : Nat} {w W : World} (h : RwAt w.heap.size 53 (.slice ao acts.length cap) acts.length (rowC acc acts) w) (hb : Below w.heap.size w W) (hi : i < acts.length) : ∃ b off, ao = some ⟨b, off, none⟩ ∧ W.rangeAt b (off + i * 53) (acc (acts.getD i dac)) := by
 obtain ⟨b, off, e, k⟩ := rw_range acc_len dac (by decide) (h.on hb) hi
 exact ⟨b, off, e, k⟩
theorem heard_at {a : Ac} {S : List Lx} {w W : World} (h : AcOk w a) (hb : Below w.heap.size w W) : LAt w.heap.size (heardF a S) (heardW a S.length) (heardS a S.length) (heardP a S.length) W := by
 unfold heardF heardW heardS heardP
 by_cases h4 : a.what = 4 ∨ S.length = 0
 ·rw [if_pos h4, if_pos h4, if_pos h4, if_pos h4]
  exact h.l.on hb
 ·rw [if_neg h4, if_neg h4, if_neg h4, if_neg h4]
  exact ⟨qat_nil _ _, h.rp.on hb⟩
theorem heard16 {a : Ac} {S : List Lx} {w W : World} {vS : Value} (h : AcOk w a) (hS : W.ownsRow w.heap.size 55 31 vS S.length (rowC lxc S)) (h1 : ∀ x ∈ S, x.vw.oneCell' = true ∧ x.vs.oneCell' = true) (hl : S.length ≤ 1000000) : Calls Tryz.prog 16 #[.agg (acc a).toArray, vS] W fun e w' => e = .returned (.agg (lfc (heardF a S) (heardW a S.length) (heardS a S.length) (heardP a S.length)).toArray) ∧ Below W.heap.size W w' := by
 obtain ⟨ao, cap, hv, -⟩ := rw_own hS
 by_cases h4 : a.what = 4 ∨ S.length = 0
 ·unfold heardF heardW heardS heardP
  rw [if_pos h4, if_pos h4, if_pos h4, if_pos h4, hv]
  exact heard16a a h.one S.length cap ao W h4
 ·have hg : ∃ g, ao = some ⟨g, 0, none⟩ := by
   rcases hS.2 with ⟨e, e2⟩ | ⟨g, cap', cur, e, -⟩
   ·exact absurd (.inr e2) h4
   ·rw [hv] at e
    injection e with e
    exact ⟨g, e⟩
  obtain ⟨g, rfl⟩ := hg
  unfold heardW heardS heardP
  rw [if_neg h4, if_neg h4, if_neg h4, hv]
  rw [hv] at hS
  exact heard16b a h.one S w.heap.size g cap W h.raw hS h1 hl h4
theorem row_one55 {L : List Lx} (h : ∀ x ∈ L, x.vw.oneCell' = true ∧ x.vs.oneCell' = true) : ∀ u ∈ rowC lxc L, u.oneCell' = true := fun u hu => by
 obtain ⟨x, hx, hu⟩ := List.mem_flatMap.1 hu
 unfold lxc lec at hu
 simp only [List.mem_cons, List.mem_append] at hu
 rcases hu with rfl | rfl | rfl | rfl | hu | hu
 ·rfl
 ·rfl
 ·rfl
 ·rfl
 ·exact rqc_one (h x hx).1 (h x hx).2 u hu
 ·unfold zrc at hu
  simp only [List.mem_cons, List.not_mem_nil, or_false] at hu
  rcases hu with rfl | rfl | rfl | rfl | rfl | rfl | rfl | rfl | rfl | rfl | rfl | rfl | rfl | rfl <;> rfl
theorem hearR_out {X : Ss} (hp : (bt.parts X.ws X.nsh).length ≤ 8) (l : Le) : (hearR X l).1.out.length ≤ X.out.length + 9 := by
 unfold hearR
 split
 ·exact (hear_gw hp l).lo
 ·exact Nat.le_add_right _ _
section
variable {W W' w : World} {X : Ss} {Lb : List Bo} {vS : Value} {S : List Lx} {sb k br : Nat}
end
end Go.Proofs.YtkdkgdollmmcnaaGreat
