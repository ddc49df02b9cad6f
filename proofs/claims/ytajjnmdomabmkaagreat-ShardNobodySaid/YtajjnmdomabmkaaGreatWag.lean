import Derived.Deep.Trees
import Derived.Test.YtajjnmdomabmkaaGreatWaf
set_option maxHeartbeats 4000000
set_option maxRecDepth 100000
set_option linter.unusedVariables false
namespace Go.Proofs.YtajjnmdomabmkaaGreat.Sto
open Go.RowKit Go.Sort
theorem atF_bad {C : List Ve} {p l : Int} (h : rightC C = false) : atF C p l = none := by unfold atF; rw [h]; rfl
theorem atF_good {C : List Ve} {p l : Int} (h : rightC C = true) : atF C p l = C[seenN p l C]? := by unfold atF; rw [if_pos h, atR_seen]
theorem at10 (B : Nat) (C : List Ve) (v : Value) (p l : Int) (w : World) (hv : VsAt B v C w) (hB : B ≤ w.heap.size) :
  Calls Tryz.prog 23 #[v, .agg #[.int .u64 p, .int .u32 l]] w fun e w' => e = .returned (.tuple #[veV ((atF C p l).getD dv), .bool (atF C p l).isSome]) ∧ Below w.heap.size w w' := by
 have hv' := hv
 obtain ⟨ao, cap, rfl, hlc, hcm, -⟩ := hv
 have H : Hid (VsAt w.heap.size (.slice ao C.length cap) C w) := hv'.le hB
 clear hv' hB
 have HSn : Hid (seenN p l C ≤ C.length) := seenN_le _ _ _
 have HP1 : Hid (rightC C = false → atF C p l = none) := atF_bad
 have HP2 : Hid (rightC C = true → atF C p l = C[seenN p l C]?) := atF_good
 have CR : Hid (∀ W, Below w.heap.size w W → Calls Tryz.prog 53 #[.slice ao C.length cap] W fun e w' => e = .returned (.bool (rightC C)) ∧ Below W.heap.size W w') := fun W hW => right12 w.heap.size C _ W (H.out.on hW) hW.size
 have CS : Hid (∀ W, Below w.heap.size w W → Calls Tryz.prog 54 #[.slice ao C.length cap, .agg #[.int .u64 p, .int .u32 l]] W fun e w' => e = .returned (.int .i64 (seenN p l C)) ∧ Below W.heap.size W w') := fun W hW => seen21 w.heap.size C _ _ _ W (H.out.on hW) hW.size
 generalize atF C p l = y at *
 generalize rightC C = r1 at *
 generalize seenN p l C = k at *
 have HB0 : Hid (Below w.heap.size w ((w.alloc (.cells #[.int .u64 p, .int .u32 l] 32)).alloc (.cells #[.int .u64 0, .int .u32 0, .int .u32 0, .int .u32 0, .string ⟨#[]⟩, .bool false] 69))) := ((Below.refl _ _).alloc (Nat.le_refl _) _).alloc (by simp) _
 go_enter Tryz.func23, Tryz.ntmps23
 go_wp2_with fail
 refine (CR.out _ HB0.out).mono ?_
 rintro e w1 ⟨rfl, hb1⟩
 have HB1 : Hid (Below w.heap.size w w1) := HB0.out.trans (hb1.mono HB0.out.size)
 obtain ⟨hc, hf⟩ := bcell hb1
 have hz1 : w.heap.size + 1 < w1.heap.size := by have := hb1.size; simp at this; omega
 have hz0 : w.heap.size < w1.heap.size := by omega
 cases r1
 ·have HE : Hid _ := HP1.out rfl
  go_wp2_with fail
  rw [HE.out]
  refine bodyPost_ret (v := .tuple #[veV dv, .bool false]) (by simp [results, Tryz.results23, go_sem, hc, veV, dv, bs]) rfl ?_
  refine ⟨rfl, ?_⟩
  exact ((((((HB1.out.setCell (by simp) _).setCell (by simp) _).setCell (by simp) _).setCell (by simp) _).setCell (by simp) _).setCell (by simp) _)
 ·go_wp2_with fail
  refine (CS.out _ HB1.out).mono ?_
  rintro e w2 ⟨rfl, hb2⟩
  have HB2 : Hid (Below w.heap.size w w2) := HB1.out.trans (hb2.mono HB1.out.size)
  obtain ⟨hc2, hf2⟩ := bcell hb2
  have hy2 : w.heap.size + 1 < w2.heap.size := by have := hb2.size; omega
  have hy0 : w.heap.size < w2.heap.size := by omega
  have HE : Hid _ := HP2.out (by trivial)
  have hk := HSn.out
  by_cases hkl : k < C.length
  ·obtain ⟨b, off, rfl, hb, hck⟩ := H.out.el hkl
   have hck2 := hck.on HB2.out hb
   have HG : Hid (y = some (C.getD k dv)) := by rw [HE.out]; exact getD_some hkl
   clear hck HE CS CR HP2 HP1 hb
   generalize C.getD k dv = u at hck2 HG
   obtain ⟨yp, yl, yc, yn, ys, yd⟩ := u
   obtain ⟨m0, m1, m2, m3, m4, m5⟩ := hck2
   dsimp only at m0 m1 m2 m3 m4 m5
   have hkl' : ((k : Int) == C.length) = false := by simp; omega
   have hkl2 : (k : Int) < C.length := by omega
   go_wp2_with fail
   rw [HG.out]
   refine bodyPost_ret (v := .tuple #[veV ⟨yp, yl, yc, yn, ys, yd⟩, .bool true]) (by simp [results, Tryz.results23, go_sem, hc2, hc, hz1, veV]) rfl ?_
   refine ⟨rfl, ?_⟩
   exact ((((((HB2.out.setCell (by simp) _).setCell (by simp) _).setCell (by simp) _).setCell (by simp) _).setCell (by simp) _).setCell (by simp) _)
  ·have HG : Hid (y = none) := by rw [HE.out]; exact List.getElem?_eq_none (by omega)
   have hkl' : ((k : Int) == C.length) = true := by simp; omega
   clear HE CS CR HP2 HP1
   go_wp2_with fail
   rw [HG.out]
   refine bodyPost_ret (v := .tuple #[veV dv, .bool false]) (by simp [results, Tryz.results23, go_sem, hc2, hc, hz1, veV, dv, bs]) rfl ?_
   refine ⟨rfl, ?_⟩
   exact ((((((HB2.out.setCell (by simp) _).setCell (by simp) _).setCell (by simp) _).setCell (by simp) _).setCell (by simp) _).setCell (by simp) _)
def newF (C : List Ve) : Int × Int := if rightC C then ((C.getD 0 dv).p, (C.getD 0 dv).l) else (0, 0)
theorem newF_nil : newF [] = (0, 0) := by simp [newF, dv]
theorem newest15 (B : Nat) (C : List Ve) (v : Value) (w : World) (hv : VsAt B v C w) (hB : B ≤ w.heap.size) :
  Calls Tryz.prog 313 #[v] w fun e w' => e = .returned (.agg #[.int .u64 (newF C).1, .int .u32 (newF C).2]) ∧ Below w.heap.size w w' := by
 have hv' := hv
 obtain ⟨ao, cap, rfl, hlc, hcm, -⟩ := hv
 have H : Hid (VsAt w.heap.size (.slice ao C.length cap) C w) := hv'.le hB
 clear hv' hB
 have HB0 : Hid (Below w.heap.size w (w.alloc (.cells #[.int .u64 0, .int .u32 0] 32))) := (Below.refl _ _).alloc (Nat.le_refl _) _
 by_cases h0 : C.length = 0
 ·have : C = [] := List.eq_nil_of_length_eq_zero h0
  subst this
  rw [newF_nil]
  clear h0
  go_enter Tryz.func313, Tryz.ntmps313
  go_wp2_with fail
  refine bodyPost_ret (v := .agg #[.int .u64 0, .int .u32 0]) (by simp [results, Tryz.results313, go_sem]) rfl ?_
  exact ⟨rfl, HB0.out⟩
 ·obtain ⟨b, off, rfl, hb, hck⟩ := H.out.el (k := 0) (by omega)
  have CR : Hid (∀ W, Below w.heap.size w W → Calls Tryz.prog 53 #[.slice (some ⟨b, off, none⟩) C.length cap] W fun e w' => e = .returned (.bool (rightC C)) ∧ Below W.heap.size W w') := fun W hW => right12 w.heap.size C _ W (H.out.on hW) hW.size
  have HN : Hid (newF C = if rightC C then ((C.getD 0 dv).p, (C.getD 0 dv).l) else (0, 0)) := rfl
  generalize newF C = y at *
  generalize C.getD 0 dv = u at *
  generalize rightC C = r1 at *
  have h0' : ((C.length : Int) == 0) = false := by rw [beq_eq_false_iff_ne]; omega
  have h00 : (0 : Int) < C.length := by omega
  have HCk : Hid _ := hck
  clear hck h0
  go_enter Tryz.func313, Tryz.ntmps313
  go_wp2_with fail
  refine (CR.out _ HB0.out).mono ?_
  rintro e w1 ⟨rfl, hb1⟩
  have HB1 : Hid (Below w.heap.size w w1) := HB0.out.trans (hb1.mono HB0.out.size)
  obtain ⟨hc, hf⟩ := bcell hb1
  have hz0 : w.heap.size < w1.heap.size := by have := hb1.size; simp at this; omega
  have hck := HCk.out.on HB1.out hb
  clear HCk CR hb
  obtain ⟨yp, yl, yc, yn, ys, yd⟩ := u
  obtain ⟨m0, m1, -, -, -, -⟩ := hck
  dsimp only at m0 m1
  simp only [Nat.zero_mul, Nat.add_zero] at m0 m1
  cases r1
  ·go_wp2_with fail
   rw [HN.out]
   refine bodyPost_ret (v := .agg #[.int .u64 0, .int .u32 0]) (by simp [results, Tryz.results313, go_sem, hc]) rfl ?_
   exact ⟨rfl, (HB1.out.setCell (by simp) _).setCell (by simp) _⟩
  ·go_wp2_with fail
   rw [HN.out]
   refine bodyPost_ret (v := .agg #[.int .u64 yp, .int .u32 yl]) (by simp [results, Tryz.results313, go_sem, hc]) rfl ?_
   exact ⟨rfl, (HB1.out.setCell (by simp) _).setCell (by simp) _⟩
end Go.Proofs.YtajjnmdomabmkaaGreat.Sto
namespace Go.Proofs.YtajjnmdomabmkaaGreat.Sto
open Go.RowKit
abbrev Sv := Option Addr × Nat × Nat
abbrev Tr := Go.Deep.BT (List UInt8 × Sv)
abbrev Tr.nil : Tr := Go.Deep.BT.nil
abbrev Tr.node (b : Nat) (l : Tr) (k : List UInt8) (v : Sv) (x : Nat) (r : Tr) : Tr := Go.Deep.BT.node b x (k, v) l r
theorem Tr.ind {motive : Tr → Prop} (nil : motive .nil) (node : ∀ (b : Nat) (l : Tr) (k : List UInt8) (v : Sv) (x : Nat) (r : Tr), motive l → motive r → motive (.node b l k v x r)) (t : Tr) : motive t := by
 induction t with
 | nil => exact nil
 | node b x a l r ihl ihr =>
  obtain ⟨k, v⟩ := a
  exact node b l k v x r ihl ihr
theorem Tr.cas {motive : Tr → Prop} (nil : motive .nil) (node : ∀ (b : Nat) (l : Tr) (k : List UInt8) (v : Sv) (x : Nat) (r : Tr), motive (.node b l k v x r)) (t : Tr) : motive t := Tr.ind nil (fun b l k v x r _ _ => node b l k v x r) t
def Tr.toL : Tr → Kv Sv
 | Go.Deep.BT.nil => []
 | Go.Deep.BT.node _ _ (k, v) l r => Tr.toL l ++ (k, v) :: Tr.toL r
def Tr.ptr : Tr → Value
 | Go.Deep.BT.nil => .pointer none
 | Go.Deep.BT.node b _ _ _ _ => .pointer (some ⟨b, 0, none⟩)
def Tr.blocks : Tr → List Nat
 | Go.Deep.BT.nil => []
 | Go.Deep.BT.node b _ _ l r => b :: (Tr.blocks l ++ Tr.blocks r)
structure Lay where
 ty : TypeId
 cells : List UInt8 → Sv → Nat → Value → Value → Array Value
def TrAt (Y : Lay) : Tr → World → Prop
 | Go.Deep.BT.nil, _ => True
 | Go.Deep.BT.node b x (k, v) l r, w => w.heap[b]? = some (.cells (Y.cells k v x (Tr.ptr l) (Tr.ptr r)) Y.ty (0, 0)) ∧ TrAt Y l w ∧ TrAt Y r w
theorem TrAt.lt {Y : Lay} {w : World} {t : Tr} : TrAt Y t w → ∀ b ∈ t.blocks, b < w.heap.size := by
 induction t using Tr.ind with
 | nil =>
  intro _ b hb
  simp [Tr.blocks] at hb
 | node c l k v x r ihl ihr =>
  intro h b hb
  obtain ⟨h1, h2, h3⟩ := h
  simp only [Tr.blocks, List.mem_cons, List.mem_append] at hb
  rcases hb with rfl | hb | hb
  ·exact (Array.getElem?_eq_some_iff.1 h1).1
  ·exact ihl h2 b hb
  ·exact ihr h3 b hb
theorem TrAt.kept {Y : Lay} {F : Nat → Prop} {w w' : World} (hk : Kept F w w') {t : Tr} : TrAt Y t w → (∀ b ∈ t.blocks, ¬ F b) → TrAt Y t w' := by
 induction t using Tr.ind with
 | nil => exact fun _ _ => trivial
 | node c l k v x r ihl ihr =>
  intro h hF
  obtain ⟨h1, h2, h3⟩ := h
  refine ⟨?_, ihl h2 (fun b hb => hF b (by simp [Tr.blocks, hb])), ihr h3 (fun b hb => hF b (by simp [Tr.blocks, hb]))⟩
  rw [hk.block c (Array.getElem?_eq_some_iff.1 h1).1 (hF c (by simp [Tr.blocks]))]
  exact h1
theorem TrAt.on {Y : Lay} {w w' : World} {t : Tr} (h : TrAt Y t w) (hb : Below w.heap.size w w') : TrAt Y t w' := TrAt.kept (F := fun _ => False) (Kept.of_below hb) h (fun _ _ h => h)
theorem TrAt.new {Y : Lay} {w : World} {l r : Tr} (hl : TrAt Y l w) (hr : TrAt Y r w) (k : List UInt8) (v : Sv) (x : Nat) : TrAt Y (.node w.heap.size l k v x r) (w.alloc (.cells (Y.cells k v x l.ptr r.ptr) Y.ty)) :=
 ⟨heap_alloc_new w _, hl.on (al _), hr.on (al _)⟩
theorem TrAt.write {Y : Lay} {w w' : World} {b : Nat} {l r : Tr} {k : List UInt8} {v : Sv} {x : Nat} (hk : Kept (fun c => c = b) w w') (hb : w'.heap[b]? = some (.cells (Y.cells k v x l.ptr r.ptr) Y.ty (0, 0))) (hl : TrAt Y l w) (hr : TrAt Y r w) (hnl : b ∉ l.blocks) (hnr : b ∉ r.blocks) : TrAt Y (.node b l k v x r) w' :=
 ⟨hb, TrAt.kept hk hl (fun _ hc e => hnl (e ▸ hc)), TrAt.kept hk hr (fun _ hc e => hnr (e ▸ hc))⟩
theorem block_set {w : World} {b j : Nat} {cs : Array Value} {ty : TypeId} (u : Value) (h : w.heap[b]? = some (.cells cs ty (0, 0))) : (w.setCell ⟨b, j, none⟩ u).heap[b]? = some (.cells (cs.setIfInBounds j u) ty (0, 0)) := by
 show (w.heap.modify b _)[b]? = _
 rw [Array.getElem?_modify, if_pos rfl, h]
 rfl
theorem set_kept' (w : World) (b j : Nat) (u : Value) : Kept (fun c => c = b) w (w.setCell ⟨b, j, none⟩ u) := by
 have hb : Below b w (w.setCell ⟨b, j, none⟩ u) := (Below.refl b w).setCell (p := ⟨b, j, none⟩) (Nat.le_refl b) u
 exact ⟨hb.os, hb.tape, hb.output, hb.size, fun k _ hF => Below.heap_setCell w ⟨b, j, none⟩ u k hF⟩
theorem block_cell {w : World} {b j : Nat} {cs : Array Value} {ty : TypeId} {u : Value} (h : w.heap[b]? = some (.cells cs ty (0, 0))) (hj : cs[j]? = some u) : w.cell? ⟨b, j, none⟩ = some u := by
 unfold World.cell?
 rw [h]
 exact hj
theorem block_frozen {w : World} {b : Nat} {cs : Array Value} {ty : TypeId} (h : w.heap[b]? = some (.cells cs ty (0, 0))) (j : Nat) : w.frozen? ⟨b, j, none⟩ = false := by
 unfold World.frozen?
 rw [h]
 simp
end Go.Proofs.YtajjnmdomabmkaaGreat.Sto
namespace Go.Proofs.YtajjnmdomabmkaaGreat.Sto
open Go.RowKit
def kc (K : List (List UInt8)) : List Value := K.map fun k => .string (bs k)
theorem kc_length (K : List (List UInt8)) : (kc K).length = K.length := by simp [kc]
theorem kc_append (K R : List (List UInt8)) : kc (K ++ R) = kc K ++ kc R := by simp [kc]
theorem kc_one (K : List (List UInt8)) : ∀ u ∈ kc K, u.oneCell' = true := by
 intro u hu
 obtain ⟨_, _, rfl⟩ := List.mem_map.1 hu
 rfl
theorem own_nil (base e size : Nat) (w : World) : w.ownsRow base e size (.slice none 0 0) 0 [] := World.ownsRow_nil w base e size
theorem below_own {base e size : Nat} {v : Value} {n : Nat} {cs : List Value} {a w w' : World} (hb : Below base a w) (hs : base ≤ w.heap.size) (hI : w.ownsRow base e size v n cs) (hg : w.grownBy w' v.ownBlock) : Below base a w' :=
 hb.grown hg hs fun k hk => (World.ownsRow.lt hI k hk).1
theorem bl (a b : List UInt8) : Op.bytesLess (bs a).toList (bs b).toList = ltK a b := by rw [bs_list, bs_list]; rfl
theorem info9 : (Tryz.prog.info? 9).map (fun i => (i.zero, i.size, i.bytes)) = some (some (.string ⟨#[]⟩), 1, 16) := by kernel_rfl
theorem ks_one (w : World) (k : List UInt8) : RwAt (w.heap.size + 1) 1 (.slice (some ⟨w.heap.size, 0, none⟩) 1 1) 1 (kc [k]) (w.alloc (.cells #[.string (bs k)] 9)) := by
 refine ⟨_, 1, rfl, rfl, Nat.le_refl _, by omega, fun _ => ⟨w.heap.size, 0, rfl, fun _ => Nat.lt_succ_self _, fun j u hj => ?_⟩⟩
 match j, hj with
 | 0, hj => simp [kc] at hj; subst hj; simp [go_sem]
 | j + 1, hj => simp [kc] at hj
end Go.Proofs.YtajjnmdomabmkaaGreat.Sto
namespace Go.Proofs.YtajjnmdomabmkaaGreat.Sto
open Go.RowKit
abbrev Sk := Kv (List Ve)
def chainF (k : List UInt8) (S : Sk) : List Ve := (getF k S).getD []
def keyB (k : List UInt8) : Bool := decide (1 ≤ k.length) && decide (k.length ≤ 32)
def seeF (c : List Ve) (p l : Int) : Option (List UInt8) := match atF c p l with
 | none => none
 | some v => if v.dead then none else some v.val
def putS (k : List UInt8) (v : Ve) (S : Sk) : Sk × Int := if keyB k then (if (putF (chainF k S) v).2 = 0 then (setF k (putF (chainF k S) v).1 S, 0) else (S, (putF (chainF k S) v).2)) else (S, 1)
def prune1 (p l : Int) (x : List UInt8 × List Ve) : Option (List UInt8 × List Ve) := if (pruneF x.2 p l).isEmpty then none else some (x.1, pruneF x.2 p l)
def pruneS (p l : Int) (S : Sk) : Sk := S.filterMap (prune1 p l)
def totS (S : Sk) : Nat := (S.map fun x => x.2.length).sum
structure SOk (S : Sk) : Prop where
 srt : Srt S
 all : ∀ x ∈ S, Ch x.2 ∧ x.2 ≠ []
theorem SOk.nil : SOk [] := ⟨List.Pairwise.nil, fun _ h => by cases h⟩
theorem chain_mem {S : Sk} (h : SOk S) {k : List UInt8} {c : List Ve} (hm : (k, c) ∈ S) : chainF k S = c := by
 unfold chainF
 rw [(getF_mem h.srt).2 hm]
 rfl
theorem ins_ne {v : Ve} : ∀ {c d : List Ve}, insF v c = some d → d ≠ []
 | [], d, h => by
  simp only [insF, Option.some.injEq] at h
  subst h
  simp
 | u :: r, d, h => by
  unfold insF at h
  split at h
  ·cases e : insF v r with
   | none => rw [e] at h; cases h
   | some x => rw [e] at h; simp only [Option.map_some, Option.some.injEq] at h; subst h; simp
  ·split at h
   ·split at h
    ·simp only [Option.some.injEq] at h; subst h; simp
    ·cases h
   ·simp only [Option.some.injEq] at h; subst h; simp
theorem put_good {c : List Ve} {v : Ve} (h : (putF c v).2 = 0) : Ch (putF c v).1 ∧ (putF c v).1 ≠ [] ∧ (putF c v).1.length ≤ c.length + 1 := by
 have e : putF c v = ((putF c v).1, 0) := by rw [← h]
 obtain ⟨h1, h2, _, h4, _⟩ := putF_ok e
 refine ⟨h2, ins_ne h4, ?_⟩
 rcases (insF_cases h4 h1.desc).2.2 with ⟨e1, _⟩ | e1
 ·rw [e1]; omega
 ·omega
theorem put_sok {S : Sk} (h : SOk S) (k : List UInt8) (v : Ve) : SOk (putS k v S).1 := by
 unfold putS
 split
 ·split
  ·rename_i h0
   refine ⟨setF_srt h.srt, fun x hx => ?_⟩
   rcases setF_keys hx with rfl | hx
   ·exact ⟨(put_good h0).1, (put_good h0).2.1⟩
   ·exact h.all x hx
  ·exact h
 ·exact h
theorem tot_set {k : List UInt8} {c : List Ve} : ∀ {S : Sk}, Srt S → totS (setF k c S) + (chainF k S).length = totS S + c.length
 | [], _ => by simp [totS, setF, chainF, getF]
 | (a, u) :: r, h => by
  obtain ⟨h1, h2⟩ := List.pairwise_cons.1 h
  have ih := tot_set (S := r) (k := k) (c := c) h2
  unfold setF
  by_cases e : ltK a k = true
  ·rw [if_pos e]
   have hne : (a == k) = false := by simpa using ltK_ne e
   simp only [chainF, getF, hne, Bool.false_eq_true, if_false] at ih ⊢
   simp only [totS, List.map_cons, List.sum_cons] at ih ⊢
   omega
  ·rw [if_neg e]
   by_cases e2 : (a == k) = true
   ·rw [if_pos e2]
    simp only [chainF, getF, e2, if_true, Option.getD_some, totS, List.map_cons, List.sum_cons]
    omega
   ·rw [if_neg e2]
    have hn : getF k ((a, u) :: r) = none := by
     refine getF_none fun x hx => ?_
     have hka : ltK k a = true := by
      cases h5 : ltK k a
      ·exact absurd (ltK_tri (by simpa using e) h5) (by simpa using e2)
      ·rfl
     rcases List.mem_cons.1 hx with rfl | hx
     ·exact (ltK_ne hka).symm
     ·exact (ltK_ne (ltK_trans hka (h1 x hx))).symm
    simp only [chainF, hn, Option.getD_none, List.length_nil, totS, List.map_cons, List.sum_cons]
    omega
theorem tot_put {S : Sk} (h : SOk S) (k : List UInt8) (v : Ve) : totS (putS k v S).1 ≤ totS S + 1 := by
 unfold putS
 split
 ·split
  ·rename_i h0
   have := tot_set (S := S) (k := k) (c := (putF (chainF k S) v).1) h.srt
   have := (put_good h0).2.2
   dsimp only
   omega
  ·exact Nat.le_succ _
 ·exact Nat.le_succ _
theorem len_tot : ∀ {S : Sk}, (∀ x ∈ S, Ch x.2 ∧ x.2 ≠ []) → S.length ≤ totS S
 | [], _ => Nat.le_refl _
 | x :: r, h => by
  have ih := len_tot (S := r) (fun y hy => h y (by simp [hy]))
  have h0 := List.length_pos_iff.2 (h x (by simp)).2
  simp only [totS, List.map_cons, List.sum_cons, List.length_cons] at ih ⊢
  omega
theorem mem_tot : ∀ {S : Sk} {x : List UInt8 × List Ve}, x ∈ S → x.2.length ≤ totS S
 | [], _, h => by cases h
 | y :: r, x, h => by
  simp only [totS, List.map_cons, List.sum_cons]
  rcases List.mem_cons.1 h with rfl | h
  ·omega
  ·have := mem_tot h
   simp only [totS] at this
   omega
end Go.Proofs.YtajjnmdomabmkaaGreat.Sto
namespace Go.Proofs.YtajjnmdomabmkaaGreat.Sto
open Go.RowKit
def dk : List UInt8 × Sv := ([], none, 0, 0)
def itc : Kv Sv → List Value
 | [] => []
 | x :: r => [Value.string (bs x.1), .slice x.2.1 x.2.2.1 x.2.2.2] ++ itc r
theorem itc_append (L R : Kv Sv) : itc (L ++ R) = itc L ++ itc R := by
 induction L with
 | nil => rfl
 | cons a L ih => simp [itc, ih]
theorem itc_length (L : Kv Sv) : (itc L).length = L.length * 2 := by
 induction L with
 | nil => rfl
 | cons a L ih => simp [itc, ih]; omega
theorem itc_one (L : Kv Sv) : ∀ u ∈ itc L, u.oneCell' = true := by
 induction L with
 | nil => intro u hu; simp [itc] at hu
 | cons a L ih =>
  intro u hu
  simp only [itc, List.cons_append, List.nil_append, List.mem_cons] at hu
  rcases hu with rfl | rfl | hu
  ·rfl
  ·rfl
  ·exact ih u hu
theorem itc_key : ∀ (L : Kv Sv) (i : Nat), i < L.length → (itc L)[i * 2]? = some (.string (bs (L.getD i dk).1)) ∧ (itc L)[i * 2 + 1]? = some (.slice (L.getD i dk).2.1 (L.getD i dk).2.2.1 (L.getD i dk).2.2.2)
 | [], i, h => absurd h (by simp)
 | x :: r, 0, _ => ⟨rfl, rfl⟩
 | x :: r, i + 1, h => by
  have := itc_key r i (by simpa using h)
  simp only [itc, List.cons_append, List.nil_append]
  rw [show (i + 1) * 2 = i * 2 + 1 + 1 from by omega]
  simpa using this
def svV (s : Sv) : Value := .slice s.1 s.2.1 s.2.2
def Chs (w : World) : Kv Sv → Sk → Prop
 | [], [] => True
 | (k, s) :: L, (q, c) :: S => k = q ∧ VsAt w.heap.size (svV s) c w ∧ Chs w L S
 | _, _ => False
def NoVe (w : World) (b : Nat) : Prop := ∀ off x, ¬ VeAt w b off x
theorem VeAt.kept {w w' : World} {G : Nat → Prop} {b off : Nat} {x : Ve} (h : VeAt w b off x) (hk : Kept G w w') (hG : ¬ G b) : VeAt w' b off x :=
 ⟨hk.cell h.c0 hG, hk.cell h.c1 hG, hk.cell h.c2 hG, hk.cell h.c3 hG, hk.cell h.c4 hG, hk.cell h.c5 hG, by rw [hk.block b (World.block_lt_of_cell? _ _ h.c0) hG]; exact h.ty⟩
theorem VsAt.kept {w w' : World} {G : Nat → Prop} {B : Nat} {v : Value} {C : List Ve} (h : VsAt B v C w) (hk : Kept G w w') (hG : ∀ k, G k → NoVe w k) : VsAt B v C w' := by
 obtain ⟨ao, cap, rfl, h1, h2, h3⟩ := h
 refine ⟨ao, cap, rfl, h1, h2, fun h0 => ?_⟩
 obtain ⟨b, off, rfl, hb, hc⟩ := h3 h0
 exact ⟨b, off, rfl, hb, fun i hi => (hc i hi).kept hk (fun hg => hG b hg _ _ (hc i hi))⟩
theorem Chs.kept {w w' : World} {G : Nat → Prop} (hk : Kept G w w') (hG : ∀ k, G k → NoVe w k) : ∀ {L : Kv Sv} {S : Sk}, Chs w L S → Chs w' L S
 | [], [], _ => trivial
 | (_, _) :: _, (_, _) :: _, h => ⟨h.1, (VsAt.kept h.2.1 hk hG).le hk.size, Chs.kept hk hG h.2.2⟩
theorem Chs.on {w w' : World} {L : Kv Sv} {S : Sk} (h : Chs w L S) (hb : Below w.heap.size w w') : Chs w' L S := Chs.kept (G := fun _ => False) (Kept.of_below hb) (fun _ h => h.elim) h
theorem Chs.len {w : World} : ∀ {L : Kv Sv} {S : Sk}, Chs w L S → L.length = S.length
 | [], [], _ => rfl
 | (_, _) :: _, (_, _) :: _, h => by simp [Chs.len h.2.2]
theorem Chs.map {w : World} : ∀ {L : Kv Sv} {S : Sk}, Chs w L S → L.map (·.1) = S.map (·.1)
 | [], [], _ => rfl
 | (_, _) :: _, (_, _) :: _, h => by simp [Chs.map h.2.2, h.1]
theorem Chs.at {w : World} : ∀ {L : Kv Sv} {S : Sk}, Chs w L S → ∀ (i : Nat), i < L.length → (L.getD i dk).1 = (S.getD i ([], [])).1 ∧ VsAt w.heap.size (svV (L.getD i dk).2) (S.getD i ([], [])).2 w
 | (k, s) :: L, (q, c) :: S, h, 0, _ => ⟨h.1, h.2.1⟩
 | (k, s) :: L, (q, c) :: S, h, i + 1, hi => by
  have := Chs.at h.2.2 i (by simpa using hi)
  simpa using this
theorem noVe_tag {w : World} {b : Nat} {o : Obj} (h : w.heap[b]? = some o) (hn : ∀ cs fz, o ≠ .cells cs 69 fz) : NoVe w b := fun off x hv => by
 obtain ⟨cs, fz, hh⟩ := hv.ty
 rw [h] at hh
 injection hh with hh
 exact hn cs fz hh
theorem noVe_small {w : World} {b : Nat} {cs : Array Value} {ty : TypeId} (h : w.heap[b]? = some (.cells cs ty (0, 0))) (hs : cs.size < 6) : NoVe w b := by
 intro off x hv
 have := hv.c5
 unfold World.cell? at this
 rw [h] at this
 have h2 : cs[off + 5]? = some (.bool x.dead) := this
 rw [Array.getElem?_eq_none (by omega)] at h2
 cases h2
end Go.Proofs.YtajjnmdomabmkaaGreat.Sto
namespace Go.Proofs.YtajjnmdomabmkaaGreat.Sto
open Go.RowKit
theorem info57 : (Tryz.prog.info? 67).map (fun i => (i.zero, i.size, i.bytes)) = some (some (.agg #[.string ⟨#[]⟩, .slice none 0 0]), 2, 40) := by kernel_rfl
theorem it_one (w : World) (k : List UInt8) (s : Sv) : RwAt (w.heap.size + 1) 2 (.slice (some ⟨w.heap.size, 0, none⟩) 1 1) 1 (itc [(k, s)]) (w.alloc (.cells #[.string (bs k), .slice s.1 s.2.1 s.2.2] 67)) := by
 refine ⟨_, 1, rfl, rfl, Nat.le_refl _, by omega, fun _ => ⟨w.heap.size, 0, rfl, fun _ => Nat.lt_succ_self _, fun j u hj => ?_⟩⟩
 match j, hj with
 | 0, hj => simp [itc] at hj; subst hj; simp [go_sem]
 | 1, hj => simp [itc] at hj; subst hj; simp [go_sem]
 | j + 2, hj => simp [itc] at hj
theorem it_ow {base n : Nat} {sa : Option Addr} {sc : Nat} {l : Kv Sv} {w : World} (k : List UInt8) (s : Sv) (ho : w.ownsRow base 67 2 (.slice sa n sc) n (itc l)) (hb : base ≤ w.heap.size) (hl : n < 1000000) :
  Ow base 67 2 (.slice sa n sc) n (itc l) (w.heap.size + 1) (.slice (some ⟨w.heap.size, 0, none⟩) 1 1) 1 (itc [(k, s)]) (w.alloc (.cells #[.string (bs k), .slice s.1 s.2.1 s.2.2] 67)) :=
 ⟨World.ownsRow.alloc ho _, it_one w k s, itc_one _, Nat.le_trans hb (by simp), by omega⟩
end Go.Proofs.YtajjnmdomabmkaaGreat.Sto
namespace Go.Proofs.YtajjnmdomabmkaaGreat.Sto
open Go.RowKit
theorem Chs.get {w : World} (k : List UInt8) : ∀ {L : Kv Sv} {S : Sk}, Chs w L S → VsAt w.heap.size (svV ((getF k L).getD (none, 0, 0))) (chainF k S) w
 | [], [], _ => vs_nil _ _
 | (a, s) :: L, (q, c) :: S, h => by
  obtain ⟨rfl, h1, h2⟩ := h
  unfold chainF getF
  by_cases e : (a == k) = true
  ·rw [if_pos e, if_pos e]; exact h1
  ·rw [if_neg e, if_neg e]; exact Chs.get k h2
theorem Chs.set {w : World} {k : List UInt8} {s : Sv} {c : List Ve} (hv : VsAt w.heap.size (svV s) c w) : ∀ {L : Kv Sv} {S : Sk}, Chs w L S → Chs w (setF k s L) (setF k c S)
 | [], [], _ => ⟨rfl, hv, trivial⟩
 | (a, t) :: L, (q, d) :: S, h => by
  obtain ⟨rfl, h1, h2⟩ := h
  unfold setF
  by_cases e : ltK a k = true
  ·rw [if_pos e, if_pos e]; exact ⟨rfl, h1, Chs.set hv h2⟩
  ·rw [if_neg e, if_neg e]
   by_cases e2 : (a == k) = true
   ·rw [if_pos e2, if_pos e2]; exact ⟨rfl, hv, h2⟩
   ·rw [if_neg e2, if_neg e2]; exact ⟨rfl, hv, rfl, h1, h2⟩
end Go.Proofs.YtajjnmdomabmkaaGreat.Sto
namespace Go.Proofs.YtajjnmdomabmkaaGreat.Sto
open Go.RowKit
def ds : List UInt8 × List Ve := ([], [])
theorem stk_snoc {S : Sk} {m : Nat} (h : m < S.length) : S.take (m + 1) = S.take m ++ [S.getD m ds] := by
 rw [List.take_add_one]
 simp [List.getD, h]
def prc : List (List UInt8 × List UInt8) → List Value
 | [] => []
 | x :: r => [Value.string (bs x.1), .string (bs x.2)] ++ prc r
end Go.Proofs.YtajjnmdomabmkaaGreat.Sto
namespace Go.Proofs.YtajjnmdomabmkaaGreat.Sto
open Go.RowKit
def ItAt (v : Value) (L : Kv Sv) (S : Sk) (w : World) : Prop := RwAt w.heap.size 2 v L.length (itc L) w ∧ Chs w L S
theorem ItAt.on {v : Value} {L : Kv Sv} {S : Sk} {w w' : World} (h : ItAt v L S w) (hb : Below w.heap.size w w') : ItAt v L S w' := ⟨(RwAt.on h.1 hb).le hb.size, h.2.on hb⟩
theorem ItAt.el {ao : Option Addr} {cap : Nat} {L : Kv Sv} {S : Sk} {w : World} (h : ItAt (.slice ao S.length cap) L S w) {i : Nat} (hi : i < S.length) : ∃ b off ca cc, ao = some ⟨b, off, none⟩ ∧ w.cell? ⟨b, off + i * 2, none⟩ = some (.string (bs (S.getD i ds).1)) ∧ w.cell? ⟨b, off + i * 2 + 1, none⟩ = some (.slice ca (S.getD i ds).2.length cc) ∧ VsAt w.heap.size (.slice ca (S.getD i ds).2.length cc) (S.getD i ds).2 w := by
 have hiL : i < L.length := by rw [h.2.len]; exact hi
 obtain ⟨h1, h2⟩ := itc_key L i hiL
 have hr : RwAt w.heap.size 2 (.slice ao L.length cap) L.length (itc L) w := by rw [h.2.len]; have := h.1; rw [h.2.len] at this; exact this
 obtain ⟨b, off, e, _, hc⟩ := RwAt.cellAt hr (j := 0) (by rw [itc_length]; omega)
 obtain ⟨k1, k2⟩ := h.2.at i hiL
 have k1' : (L.getD i dk).1 = (S.getD i ds).1 := k1
 have k2' : VsAt w.heap.size (svV (L.getD i dk).2) (S.getD i ds).2 w := k2
 have k3 := k2'
 obtain ⟨ca, cc, e2, _⟩ := k3
 refine ⟨b, off, ca, cc, e, by rw [← k1']; exact hc _ _ h1, ?_, by rw [← e2]; exact k2'⟩
 rw [← e2]
 exact hc _ _ h2
end Go.Proofs.YtajjnmdomabmkaaGreat.Sto
namespace Go.Proofs.YtajjnmdomabmkaaGreat.Sto
open Go.RowKit
def getV : Option (List UInt8) → List UInt8 × Bool
 | some s => (s, true)
 | none => ([], false)
theorem see_at (C : List Ve) (p l : Int) : getV (seeF C p l) = if (atF C p l).isSome = true ∧ ((atF C p l).getD dv).dead = false then (((atF C p l).getD dv).val, true) else ([], false) := by
 unfold seeF
 cases h : atF C p l with
 | none => rfl
 | some v =>
  cases hd : v.dead with
  | true => simp [getV, hd]
  | false => simp [getV, hd]
structure Tx (w : World) (bx : Nat) (p l : Int) (W : World) : Prop where
 c0 : W.cell? ⟨bx, 0, none⟩ = some (.int .u64 p)
 c1 : W.cell? ⟨bx, 1, none⟩ = some (.int .u32 l)
 bel : Below w.heap.size w W
theorem Tx.on {w W W' : World} {bx : Nat} {p l : Int} (h : Tx w bx p l W) (hb : Below W.heap.size W W') : Tx w bx p l W' :=
 ⟨by rw [hb.cell (World.block_lt_of_cell? _ _ h.c0)]; exact h.c0, by rw [hb.cell (World.block_lt_of_cell? _ _ h.c1)]; exact h.c1, h.bel.trans (hb.mono h.bel.size)⟩
theorem Tx.dr {w W : World} {bx : Nat} {p l : Int} (h : Tx w bx p l W) : Tx w bx p l W.drew := h.on (Below.refl _ _).drew
theorem Tx.two {w W : World} {bx : Nat} {p l : Int} (h : Tx w bx p l W) : W.cell? ⟨bx, 0, none⟩ = some (.int .u64 p) ∧ W.cell? ⟨bx, 1, none⟩ = some (.int .u32 l) ∧ Tx w bx p l W := ⟨h.c0, h.c1, h⟩
theorem Tx.al {w W : World} {bx : Nat} {p l : Int} (h : Tx w bx p l W) (o : Obj) : Tx w bx p l (W.alloc o) := h.on (Go.Proofs.YtajjnmdomabmkaaGreat.al _)
theorem Tx.st {w W : World} {bx b : Nat} {p l : Int} (h : Tx w bx p l W) (hb : bx < b ∧ w.heap.size ≤ b) (j : Nat) (u : Value) : Tx w bx p l (W.setCell ⟨b, j, none⟩ u) :=
 ⟨(set_kept' W b j u).cell h.c0 (by omega), (set_kept' W b j u).cell h.c1 (by omega), h.bel.setCell (p := ⟨b, j, none⟩) hb.2 u⟩
theorem tx_new (w : World) (p l : Int) : Tx w w.heap.size p l (w.alloc (.cells #[.int .u64 p, .int .u32 l] 32)) := ⟨by simp [go_sem], by simp [go_sem], al _⟩
theorem zero_box {W W3 : World} {o : Obj} (hb : Below (W.alloc o).drew.heap.size (W.alloc o).drew W3) : W3.heap[W.heap.size]? = some o := by
 rw [hb.block W.heap.size (by simp)]
 exact heap_alloc_new W _
theorem zero_cells {W : World} {b : Nat} (h : W.heap[b]? = some (.cells #[.int .u64 0, .int .u32 0, .int .u32 0, .int .u32 0, .string ⟨#[]⟩, .bool false] 69 (0, 0))) : W.cell? ⟨b, 0, none⟩ = some (.int .u64 0) ∧ W.cell? ⟨b, 1, none⟩ = some (.int .u32 0) ∧ W.cell? ⟨b, 2, none⟩ = some (.int .u32 0) ∧ W.cell? ⟨b, 3, none⟩ = some (.int .u32 0) ∧ W.cell? ⟨b, 4, none⟩ = some (.string ⟨#[]⟩) ∧ W.cell? ⟨b, 5, none⟩ = some (.bool false) ∧ W.frozen? ⟨b, 0, none⟩ = false ∧ W.frozen? ⟨b, 1, none⟩ = false ∧ W.frozen? ⟨b, 2, none⟩ = false ∧ W.frozen? ⟨b, 3, none⟩ = false ∧ W.frozen? ⟨b, 4, none⟩ = false ∧ W.frozen? ⟨b, 5, none⟩ = false :=
 ⟨block_cell h rfl, block_cell h rfl, block_cell h rfl, block_cell h rfl, block_cell h rfl, block_cell h rfl, block_frozen h _, block_frozen h _, block_frozen h _, block_frozen h _, block_frozen h _, block_frozen h _⟩
theorem six_set {W : World} {b : Nat} {p l c n : Int} {s : List UInt8} {d : Bool} (h : W.heap[b]? = some (.cells #[.int .u64 0, .int .u32 0, .int .u32 0, .int .u32 0, .string ⟨#[]⟩, .bool false] 69 (0, 0))) :
  VeAt ((((((W.setCell ⟨b, 0, none⟩ (.int .u64 p)).setCell ⟨b, 1, none⟩ (.int .u32 l)).setCell ⟨b, 2, none⟩ (.int .u32 c)).setCell ⟨b, 3, none⟩ (.int .u32 n)).setCell ⟨b, 4, none⟩ (.string (bs s))).setCell ⟨b, 5, none⟩ (.bool d)) b 0 ⟨p, l, c, n, s, d⟩ := by
 have h1 : (W.setCell ⟨b, 0, none⟩ (.int .u64 p)).heap[b]? = some (.cells #[.int .u64 p, .int .u32 0, .int .u32 0, .int .u32 0, .string ⟨#[]⟩, .bool false] 69 (0, 0)) := block_set _ h
 generalize W.setCell ⟨b, 0, none⟩ (.int .u64 p) = W1 at *
 have h2 : (W1.setCell ⟨b, 1, none⟩ (.int .u32 l)).heap[b]? = some (.cells #[.int .u64 p, .int .u32 l, .int .u32 0, .int .u32 0, .string ⟨#[]⟩, .bool false] 69 (0, 0)) := block_set _ h1
 generalize W1.setCell ⟨b, 1, none⟩ (.int .u32 l) = W2 at *
 have h3 : (W2.setCell ⟨b, 2, none⟩ (.int .u32 c)).heap[b]? = some (.cells #[.int .u64 p, .int .u32 l, .int .u32 c, .int .u32 0, .string ⟨#[]⟩, .bool false] 69 (0, 0)) := block_set _ h2
 generalize W2.setCell ⟨b, 2, none⟩ (.int .u32 c) = W3 at *
 have h4 : (W3.setCell ⟨b, 3, none⟩ (.int .u32 n)).heap[b]? = some (.cells #[.int .u64 p, .int .u32 l, .int .u32 c, .int .u32 n, .string ⟨#[]⟩, .bool false] 69 (0, 0)) := block_set _ h3
 generalize W3.setCell ⟨b, 3, none⟩ (.int .u32 n) = W4 at *
 have h5 : (W4.setCell ⟨b, 4, none⟩ (.string (bs s))).heap[b]? = some (.cells #[.int .u64 p, .int .u32 l, .int .u32 c, .int .u32 n, .string (bs s), .bool false] 69 (0, 0)) := block_set _ h4
 generalize W4.setCell ⟨b, 4, none⟩ (.string (bs s)) = W5 at *
 have h6 : (W5.setCell ⟨b, 5, none⟩ (.bool d)).heap[b]? = some (.cells #[.int .u64 p, .int .u32 l, .int .u32 c, .int .u32 n, .string (bs s), .bool d] 69 (0, 0)) := block_set _ h5
 exact ⟨block_cell h6 rfl, block_cell h6 rfl, block_cell h6 rfl, block_cell h6 rfl, block_cell h6 rfl, block_cell h6 rfl, _, _, h6⟩
end Go.Proofs.YtajjnmdomabmkaaGreat.Sto
namespace Go.Proofs.YtajjnmdomabmkaaGreat.Sto
open Go.RowKit
theorem getD_mem {S : Sk} {m : Nat} (h : m < S.length) : S.getD m ds ∈ S := by
 simp [List.getD, h]
end Go.Proofs.YtajjnmdomabmkaaGreat.Sto
namespace Go.Proofs.YtajjnmdomabmkaaGreat.Sto
open Go.RowKit
structure Ifs (SA : Nat → Nat → (Nat → Prop) → Sk → World → Prop) : Prop where
 lt : ∀ {B p : Nat} {M : Nat → Prop} {S : Sk} {w : World}, SA B p M S w → ∀ k, M k → B ≤ k ∧ k < w.heap.size
 nov : ∀ {B p : Nat} {M : Nat → Prop} {S : Sk} {w : World}, SA B p M S w → ∀ k, M k → NoVe w k
 keep : ∀ {B p : Nat} {M G : Nat → Prop} {S : Sk} {w w' : World}, SA B p M S w → Kept G w w' → (∀ k, M k → ¬ G k) → (∀ k, G k → NoVe w k) → SA B p M S w'
 sok : ∀ {B p : Nat} {M : Nat → Prop} {S : Sk} {w : World}, SA B p M S w → SOk S
 new : ∀ w : World, Calls Tryz.prog 40 #[] w fun e w' => ∃ p M, e = .returned (.pointer (some ⟨p, 0, none⟩)) ∧ SA w.heap.size p M [] w' ∧ Below w.heap.size w w'
 put : ∀ {B p : Nat} {M : Nat → Prop} {S : Sk} {w : World} (k : List UInt8) (x : Ve), SA B p M S w → totS S < 10000 → Calls Tryz.prog 185 #[.pointer (some ⟨p, 0, none⟩), .string (bs k), veV x] w fun e w' => e = .returned (.int .i64 (putS k x S).2) ∧ ∃ M', SA B p M' (putS k x S).1 w' ∧ Kept M w w' ∧ ∀ i, M' i → M i ∨ w.heap.size ≤ i
 get : ∀ {B p : Nat} {M : Nat → Prop} {S : Sk} {w : World} (k : List UInt8) (t u : Int), SA B p M S w → totS S < 10000 → Calls Tryz.prog 189 #[.pointer (some ⟨p, 0, none⟩), .string (bs k), .agg #[.int .u64 t, .int .u32 u]] w fun e w' => e = .returned (.tuple #[.string (bs (getV (seeF (chainF k S) t u)).1), .bool (getV (seeF (chainF k S) t u)).2]) ∧ Below w.heap.size w w'
 newest : ∀ {B p : Nat} {M : Nat → Prop} {S : Sk} {w : World} (k : List UInt8), SA B p M S w → totS S < 10000 → Calls Tryz.prog 266 #[.pointer (some ⟨p, 0, none⟩), .string (bs k)] w fun e w' => e = .returned (.agg #[.int .u64 (newF (chainF k S)).1, .int .u32 (newF (chainF k S)).2]) ∧ Below w.heap.size w w'
 count : ∀ {B p : Nat} {M : Nat → Prop} {S : Sk} {w : World} (k : List UInt8), SA B p M S w → totS S < 10000 → Calls Tryz.prog 267 #[.pointer (some ⟨p, 0, none⟩), .string (bs k)] w fun e w' => e = .returned (.int .i64 (chainF k S).length) ∧ Below w.heap.size w w'
 items : ∀ {B p : Nat} {M : Nat → Prop} {S : Sk} {w : World}, SA B p M S w → totS S < 10000 → Calls Tryz.prog 52 #[.pointer (some ⟨p, 0, none⟩)] w fun e w' => ∃ v' L, e = .returned v' ∧ ItAt v' L S w' ∧ Below w.heap.size w w'
variable {SA : Nat → Nat → (Nat → Prop) → Sk → World → Prop}
end Go.Proofs.YtajjnmdomabmkaaGreat.Sto
