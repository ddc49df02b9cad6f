import Derived.Sort.Walk0
import Derived.Test.YtajjnmdomabmkaaGreatProg
import Derived.WideKeyRuns
import Derived.Maps.Range
import Derived.RangeFuncNested
import Derived.Test.YtajjnmdomabmkaaGreatWaa
set_option maxHeartbeats 4000000
set_option maxRecDepth 100000
set_option linter.unusedVariables false
namespace Go.Proofs.YtajjnmdomabmkaaGreat.Ver
structure Vd where
 c : Int
 n : Int
 sp : Int
 sl : Int
 ap : Int
 al : Int
 pt : Int
 dn : Bool
abbrev Bk := List Vd
def ltT (a b c d : Int) : Bool := decide (a < c) || decide (a = c) && decide (b < d)
def rightB (p l : Int) : Bool := decide (p ≤ 281474976710656 ∧ l ≤ 4095)
def lessB (p l q m : Int) : Bool := decide (p < q ∨ p = q ∧ l < m)
theorem ltT_irrefl (a b : Int) : ltT a b a b = false := by simp [ltT]
theorem ltT_iff {a b c d : Int} : ltT a b c d = true ↔ a < c ∨ a = c ∧ b < d := by simp [ltT]
theorem ltT_trans {a b c d e f : Int} (h1 : ltT a b c d = true) (h2 : ltT c d e f = true) : ltT a b e f = true := by
 rw [ltT_iff] at *
 omega
theorem ltT_tri {a b c d : Int} (h1 : ltT a b c d = false) (h2 : ltT c d a b = false) : a = c ∧ b = d := by
 rw [← Bool.not_eq_true, ltT_iff] at *
 omega
def ofN (c n : Int) (x : Vd) : Bool := x.c == c && x.n == n
theorem ofN_iff {c n : Int} {x : Vd} : ofN c n x = true ↔ x.c = c ∧ x.n = n := by simp [ofN]
def SrtV (B : Bk) : Prop := B.Pairwise fun x y => ltT x.c x.n y.c y.n = true
def getB (c n : Int) : Bk → Option Vd
 | [] => none
 | x :: B => if ofN c n x then some x else getB c n B
def insB (v : Vd) : Bk → Bk
 | [] => [v]
 | x :: B => if ltT x.c x.n v.c v.n then x :: insB v B else v :: x :: B
def cmB (x : Vd) : Bool := !(x.ap == 0 && x.al == 0)
def okV (v : Vd) : Bool := rightB v.sp v.sl && rightB v.ap v.al && (cmB v || (v.pt == 0 && !v.dn))
def eqV (x y : Vd) : Bool := x.c == y.c && x.n == y.n && x.sp == y.sp && x.sl == y.sl && x.ap == y.ap && x.al == y.al && x.pt == y.pt && x.dn == y.dn
def setB (v : Vd) (B : Bk) : Bk × Int := if okV v then (match getB v.c v.n B with
 | some o => (B, if eqV { o with dn := v.dn } v then 0 else 40)
 | none => (insB v B, 0)) else (B, 1)
def mkDone (c n : Int) (B : Bk) : Bk := B.map fun x => if ofN c n x then { x with dn := true } else x
def doneB (c n : Int) (B : Bk) : Bk × Bool := match getB c n B with
 | some o => if cmB o then (mkDone c n B, true) else (B, false)
 | none => (B, false)
def stayB (sp sl : Int) (keep : List (Int × Int)) (x : Vd) : Bool := !lessB x.sp x.sl sp sl || (cmB x && !x.dn) || keep.contains (x.c, x.n)
def retB (sp sl : Int) (keep : List (Int × Int)) (B : Bk) : Bk := B.filter (stayB sp sl keep)
theorem srtV_nil : SrtV [] := List.Pairwise.nil
theorem ins_mem {v x : Vd} : ∀ {B : Bk}, x ∈ insB v B ↔ x = v ∨ x ∈ B
 | [] => by simp [insB]
 | y :: B => by
  unfold insB
  split
  ·simp only [List.mem_cons, ins_mem (B := B)]
   constructor
   ·rintro (h | h | h) <;> simp [h]
   ·rintro (h | h | h) <;> simp [h]
  ·simp
theorem ins_srt {v : Vd} : ∀ {B : Bk}, SrtV B → getB v.c v.n B = none → SrtV (insB v B)
 | [], _, _ => List.pairwise_singleton _ _
 | x :: B, hs, hg => by
  obtain ⟨hs1, hs2⟩ := List.pairwise_cons.1 hs
  unfold getB at hg
  split at hg
  ·cases hg
  ·rename_i e
   unfold insB
   split
   ·rename_i hlt
    refine List.pairwise_cons.2 ⟨fun y hy => ?_, ins_srt hs2 hg⟩
    rcases ins_mem.1 hy with rfl | hy
    ·exact hlt
    ·exact hs1 y hy
   ·rename_i hlt
    have hvx : ltT v.c v.n x.c x.n = true := by
     cases h : ltT v.c v.n x.c x.n with
     | true => rfl
     | false =>
      obtain ⟨h1, h2⟩ := ltT_tri (by simpa using hlt) h
      exact absurd (ofN_iff.2 ⟨h1, h2⟩) e
    refine List.pairwise_cons.2 ⟨fun y hy => ?_, hs⟩
    rcases List.mem_cons.1 hy with rfl | hy
    ·exact hvx
    ·exact ltT_trans hvx (hs1 y hy)
end Go.Proofs.YtajjnmdomabmkaaGreat.Ver
namespace Go.Proofs.YtajjnmdomabmkaaGreat.Ver
open Go.RowKit
def vdV (x : Vd) : Value := .agg #[.int .u32 x.c, .int .u32 x.n, .int .u64 x.sp, .int .u32 x.sl, .int .u64 x.ap, .int .u32 x.al, .int .u8 x.pt, .bool x.dn]
def dv : Vd := ⟨0, 0, 0, 0, 0, 0, 0, false⟩
structure VdAt (w : World) (b off : Nat) (x : Vd) : Prop where
 c0 : w.cell? ⟨b, off, none⟩ = some (.int .u32 x.c)
 c1 : w.cell? ⟨b, off + 1, none⟩ = some (.int .u32 x.n)
 c2 : w.cell? ⟨b, off + 2, none⟩ = some (.int .u64 x.sp)
 c3 : w.cell? ⟨b, off + 3, none⟩ = some (.int .u32 x.sl)
 c4 : w.cell? ⟨b, off + 4, none⟩ = some (.int .u64 x.ap)
 c5 : w.cell? ⟨b, off + 5, none⟩ = some (.int .u32 x.al)
 c6 : w.cell? ⟨b, off + 6, none⟩ = some (.int .u8 x.pt)
 c7 : w.cell? ⟨b, off + 7, none⟩ = some (.bool x.dn)
theorem block_set {w : World} {b j : Nat} {cs : Array Value} {ty : TypeId} (u : Value) (h : w.heap[b]? = some (.cells cs ty (0, 0))) : (w.setCell ⟨b, j, none⟩ u).heap[b]? = some (.cells (cs.setIfInBounds j u) ty (0, 0)) := by
 show (w.heap.modify b _)[b]? = _
 rw [Array.getElem?_modify, if_pos rfl, h]
 rfl
theorem block_cell {w : World} {b j : Nat} {cs : Array Value} {ty : TypeId} {u : Value} (h : w.heap[b]? = some (.cells cs ty (0, 0))) (hj : cs[j]? = some u) : w.cell? ⟨b, j, none⟩ = some u := by
 unfold World.cell?
 rw [h]
 exact hj
theorem block_frozen {w : World} {b : Nat} {cs : Array Value} {ty : TypeId} (h : w.heap[b]? = some (.cells cs ty (0, 0))) (j : Nat) : w.frozen? ⟨b, j, none⟩ = false := by
 unfold World.frozen?
 rw [h]
 simp
theorem set_kept' (w : World) (b j : Nat) (u : Value) : Kept (fun c => c = b) w (w.setCell ⟨b, j, none⟩ u) := by
 have hb : Below b w (w.setCell ⟨b, j, none⟩ u) := (Below.refl b w).setCell (p := ⟨b, j, none⟩) (Nat.le_refl b) u
 exact ⟨hb.os, hb.tape, hb.output, hb.size, fun k _ hF => Below.heap_setCell w ⟨b, j, none⟩ u k hF⟩
theorem size_al (w : World) (o : Obj) : (w.alloc o).heap.size = w.heap.size + 1 := by simp
theorem ret_bool {a b : Bool} (h : a = b) : Ending.returned (.bool a) = .returned (.bool b) := by rw [h]
theorem bx8 {W : World} {b : Nat} {a0 a1 a2 a3 a4 a5 a6 a7 : Value} (x : Vd) (h0 : W.heap[b]? = some (.cells #[a0, a1, a2, a3, a4, a5, a6, a7] 188 (0, 0))) : ((((((((W.setCell ⟨b, 0, none⟩ (.int .u32 x.c)).setCell ⟨b, 1, none⟩ (.int .u32 x.n)).setCell ⟨b, 2, none⟩ (.int .u64 x.sp)).setCell ⟨b, 3, none⟩ (.int .u32 x.sl)).setCell ⟨b, 4, none⟩ (.int .u64 x.ap)).setCell ⟨b, 5, none⟩ (.int .u32 x.al)).setCell ⟨b, 6, none⟩ (.int .u8 x.pt)).setCell ⟨b, 7, none⟩ (.bool x.dn)).heap[b]? = some (.cells #[.int .u32 x.c, .int .u32 x.n, .int .u64 x.sp, .int .u32 x.sl, .int .u64 x.ap, .int .u32 x.al, .int .u8 x.pt, .bool x.dn] 188 (0, 0)) := by
 have h1 : (W.setCell ⟨b, 0, none⟩ (.int .u32 x.c)).heap[b]? = some (.cells #[.int .u32 x.c, a1, a2, a3, a4, a5, a6, a7] 188 (0, 0)) := block_set _ h0
 generalize W.setCell ⟨b, 0, none⟩ (.int .u32 x.c) = W1 at *
 have h2 : (W1.setCell ⟨b, 1, none⟩ (.int .u32 x.n)).heap[b]? = some (.cells #[.int .u32 x.c, .int .u32 x.n, a2, a3, a4, a5, a6, a7] 188 (0, 0)) := block_set _ h1
 generalize W1.setCell ⟨b, 1, none⟩ (.int .u32 x.n) = W2 at *
 have h3 : (W2.setCell ⟨b, 2, none⟩ (.int .u64 x.sp)).heap[b]? = some (.cells #[.int .u32 x.c, .int .u32 x.n, .int .u64 x.sp, a3, a4, a5, a6, a7] 188 (0, 0)) := block_set _ h2
 generalize W2.setCell ⟨b, 2, none⟩ (.int .u64 x.sp) = W3 at *
 have h4 : (W3.setCell ⟨b, 3, none⟩ (.int .u32 x.sl)).heap[b]? = some (.cells #[.int .u32 x.c, .int .u32 x.n, .int .u64 x.sp, .int .u32 x.sl, a4, a5, a6, a7] 188 (0, 0)) := block_set _ h3
 generalize W3.setCell ⟨b, 3, none⟩ (.int .u32 x.sl) = W4 at *
 have h5 : (W4.setCell ⟨b, 4, none⟩ (.int .u64 x.ap)).heap[b]? = some (.cells #[.int .u32 x.c, .int .u32 x.n, .int .u64 x.sp, .int .u32 x.sl, .int .u64 x.ap, a5, a6, a7] 188 (0, 0)) := block_set _ h4
 generalize W4.setCell ⟨b, 4, none⟩ (.int .u64 x.ap) = W5 at *
 have h6 : (W5.setCell ⟨b, 5, none⟩ (.int .u32 x.al)).heap[b]? = some (.cells #[.int .u32 x.c, .int .u32 x.n, .int .u64 x.sp, .int .u32 x.sl, .int .u64 x.ap, .int .u32 x.al, a6, a7] 188 (0, 0)) := block_set _ h5
 generalize W5.setCell ⟨b, 5, none⟩ (.int .u32 x.al) = W6 at *
 have h7 : (W6.setCell ⟨b, 6, none⟩ (.int .u8 x.pt)).heap[b]? = some (.cells #[.int .u32 x.c, .int .u32 x.n, .int .u64 x.sp, .int .u32 x.sl, .int .u64 x.ap, .int .u32 x.al, .int .u8 x.pt, a7] 188 (0, 0)) := block_set _ h6
 generalize W6.setCell ⟨b, 6, none⟩ (.int .u8 x.pt) = W7 at *
 have h8 : (W7.setCell ⟨b, 7, none⟩ (.bool x.dn)).heap[b]? = some (.cells #[.int .u32 x.c, .int .u32 x.n, .int .u64 x.sp, .int .u32 x.sl, .int .u64 x.ap, .int .u32 x.al, .int .u8 x.pt, .bool x.dn] 188 (0, 0)) := block_set _ h7
 exact h8
theorem bx8_below {B b : Nat} {w W : World} (x : Vd) (h : Below B w W) (hb : B ≤ b) : Below B w ((((((((W.setCell ⟨b, 0, none⟩ (.int .u32 x.c)).setCell ⟨b, 1, none⟩ (.int .u32 x.n)).setCell ⟨b, 2, none⟩ (.int .u64 x.sp)).setCell ⟨b, 3, none⟩ (.int .u32 x.sl)).setCell ⟨b, 4, none⟩ (.int .u64 x.ap)).setCell ⟨b, 5, none⟩ (.int .u32 x.al)).setCell ⟨b, 6, none⟩ (.int .u8 x.pt)).setCell ⟨b, 7, none⟩ (.bool x.dn)) := ((((((((h.setCell (p := ⟨b, 0, none⟩) hb _).setCell (p := ⟨b, 1, none⟩) hb _).setCell (p := ⟨b, 2, none⟩) hb _).setCell (p := ⟨b, 3, none⟩) hb _).setCell (p := ⟨b, 4, none⟩) hb _).setCell (p := ⟨b, 5, none⟩) hb _).setCell (p := ⟨b, 6, none⟩) hb _).setCell (p := ⟨b, 7, none⟩) hb _)
theorem run_neq35 (p l q m : Int) (w : World) : (binOp .neq 32 (.agg #[.int .u64 p, .int .u32 l]) (.agg #[.int .u64 q, .int .u32 m])).run Tryz.prog w = .ok (.bool (!(p == q && l == m))) w := by
 by_cases h : p = q <;> by_cases h2 : l = m <;> simp [go_sem, h, h2]
end Go.Proofs.YtajjnmdomabmkaaGreat.Ver
namespace Go.Proofs.YtajjnmdomabmkaaGreat.Ver
open Go.RowKit
theorem rightP (p l : Int) (w : World) :
  Calls Tryz.prog 166 #[.agg #[.int .u64 p, .int .u32 l]] w fun e w' => e = .returned (.bool (rightB p l)) ∧ Below w.heap.size w w' := by
 by_cases h1 : p ≤ 281474976710656 <;> by_cases h2 : l ≤ 4095
 all_goals
  go_enter Tryz.func166, Tryz.ntmps166
  go_wp2
  go_ret
  exact ⟨ret_bool (by simp [rightB, h1, h2]), (Below.refl _ _).alloc (Nat.le_refl _) _⟩
end Go.Proofs.YtajjnmdomabmkaaGreat.Ver
namespace Go.Proofs.YtajjnmdomabmkaaGreat.Ver
open Go.RowKit
def ofV : Option Vd → Value
 | some x => .tuple #[vdV x, .bool true]
 | none => .tuple #[vdV dv, .bool false]
end Go.Proofs.YtajjnmdomabmkaaGreat.Ver
namespace Go.Proofs.YtajjnmdomabmkaaGreat.Ver
open Go.RowKit
def R32 (x : Int) : Prop := 0 ≤ x ∧ x < 4294967296
def R64 (x : Int) : Prop := 0 ≤ x ∧ x < 18446744073709551616
def R8 (x : Int) : Prop := 0 ≤ x ∧ x < 256
structure RgV (v : Vd) : Prop where
 c : R32 v.c
 n : R32 v.n
 sp : R64 v.sp
 sl : R32 v.sl
 ap : R64 v.ap
 al : R32 v.al
 pt : R8 v.pt
def RgT (L : List (Int × Int)) : Prop := ∀ x ∈ L, R32 x.1 ∧ R32 x.2
structure Ifv (BA : Nat → Nat → (Nat → Prop) → Bk → World → Prop) : Prop where
 lt : ∀ {B p : Nat} {M : Nat → Prop} {K : Bk} {w : World}, BA B p M K w → ∀ k, M k → B ≤ k ∧ k < w.heap.size
 keep : ∀ {B p : Nat} {M G : Nat → Prop} {K : Bk} {w w' : World}, BA B p M K w → Kept G w w' → (∀ k, M k → ¬ G k) → BA B p M K w'
 ok : ∀ {B p : Nat} {M : Nat → Prop} {K : Bk} {w : World}, BA B p M K w → SrtV K
 new : ∀ w : World, Calls Tryz.prog 42 #[] w fun e w' => ∃ p M, e = .returned (.pointer (some ⟨p, 0, none⟩)) ∧ BA w.heap.size p M [] w' ∧ Below w.heap.size w w'
 set : ∀ {B p : Nat} {M : Nat → Prop} {K : Bk} {w : World} (v : Vd), BA B p M K w → K.length < 10000 → RgV v → Calls Tryz.prog 82 #[.pointer (some ⟨p, 0, none⟩), .agg #[.int .u32 v.c, .int .u32 v.n, .int .u64 v.sp, .int .u32 v.sl, .int .u64 v.ap, .int .u32 v.al, .int .u8 v.pt, .bool v.dn]] w fun e w' => e = .returned (.int .i64 (setB v K).2) ∧ ∃ M', BA B p M' (setB v K).1 w' ∧ Kept M w w' ∧ ∀ i, M' i → M i ∨ w.heap.size ≤ i
 of : ∀ {B p : Nat} {M : Nat → Prop} {K : Bk} {w : World} (c n : Int), BA B p M K w → K.length < 10000 → R32 c ∧ R32 n → Calls Tryz.prog 175 #[.pointer (some ⟨p, 0, none⟩), .agg #[.int .u32 c, .int .u32 n]] w fun e w' => e = .returned (ofV (getB c n K)) ∧ Below w.heap.size w w'
variable {BA : Nat → Nat → (Nat → Prop) → Bk → World → Prop}
end Go.Proofs.YtajjnmdomabmkaaGreat.Ver
namespace Go.Proofs.YtajjnmdomabmkaaGreat.Ver
open Go.RowKit
namespace Gv
def kx (k : Int × Int) : Value := .agg #[.int .u32 k.1, .int .u32 k.2]
theorem run_same (a b : Int × Int) (w : World) : (Op.equal 30 (kx a) (kx b)).run Tryz.prog w = .ok (decide (a = b)) w := by
 obtain ⟨p, l⟩ := a
 obtain ⟨q, m⟩ := b
 show (Op.equalIn 10000 30 (.agg #[.int .u32 p, .int .u32 l]) (.agg #[.int .u32 q, .int .u32 m])).run Tryz.prog w = _
 by_cases h : p = q <;> by_cases h2 : l = m <;> simp [go_sem, h, h2]
theorem run_check1 (n : Nat) (k : Int) (em : Bool) (w : World) : (Instr.checkKey em (n + 1) 28 (.int .u32 k)).run Tryz.prog w = .ok () w := by
 unfold Instr.checkKey
 simp [go_sem]
theorem run_check2 (n : Nat) (k : Int × Int) (em : Bool) (w : World) : (Instr.checkKey em (n + 1 + 1) 30 (kx k)).run Tryz.prog w = .ok () w := by
 unfold kx
 unfold Instr.checkKey
 simp [go_sem, run_check1]
theorem run_check (k : Int × Int) (em : Bool) (w : World) : (Instr.checkKey em 10000 30 (kx k)).run Tryz.prog w = .ok () w := run_check2 9998 k em w
theorem set_kb {w : World} {b : Nat} {o o' : Obj} (h : w.heap[b]? = some o) : Kept (fun i => i = b) w { w with heap := w.heap.setIfInBounds b o' } := ⟨rfl, rfl, rfl, by simp, fun k _ hk => (MapKept.heap_set h).2 k hk⟩
section
variable {α : Type} (key : α → Int × Int) (val : α → Value)
def Ek (es : List MapEntry) (m : List α) : Prop := es.map (fun e => (e.key, e.val)) = m.map (fun x => (kx (key x), val x))
def isK (k : Int × Int) (x : α) : Bool := decide (key x = k)
def idx (k : Int × Int) : List α → Nat → Option (Nat × α)
 | [], _ => none
 | x :: m, i => if k = key x then some (i, x) else idx k m (i + 1)
variable {key val}
theorem idx_none {k : Int × Int} : ∀ {m : List α} {i : Nat}, m.find? (isK key k) = none → idx key k m i = none
 | [], _, _ => rfl
 | x :: m, i, h => by
  simp only [List.find?_cons] at h
  split at h
  ·cases h
  ·rename_i e
   unfold idx
   rw [if_neg (fun e2 => by simp [isK, e2] at e)]
   exact idx_none h
theorem idx_some {k : Int × Int} {x : α} : ∀ {m : List α} {i : Nat}, m.find? (isK key k) = some x → ∃ j, idx key k m i = some (i + j, x) ∧ m[j]? = some x ∧ key x = k
 | [], _, h => by cases h
 | y :: m, i, h => by
  simp only [List.find?_cons] at h
  split at h
  ·rename_i e
   injection h with h
   subst h
   have e' : key y = k := by simpa [isK] using e
   exact ⟨0, by unfold idx; rw [if_pos e'.symm]; rfl, rfl, e'⟩
  ·rename_i e
   obtain ⟨j, h1, h2, h3⟩ := idx_some (i := i + 1) h
   refine ⟨j + 1, ?_, h2, h3⟩
   unfold idx
   rw [if_neg (fun e2 => by simp [isK, e2] at e), h1]
   congr 2
   omega
theorem run_ask (k : Int × Int) (w : World) : ∀ (es : List MapEntry) (m : List α) (i : Nat), Ek key val es m → (Instr.findAsking 30 (kx k) es i).run Tryz.prog w = .ok ((idx key k m i).map fun p => (p.1, val p.2)) w
 | [], [], i, _ => rfl
 | [], x :: m, _, h => by cases h
 | e :: es, [], _, h => by cases h
 | e :: es, x :: m, i, h => by
  simp only [Ek, List.map_cons, List.cons.injEq, Prod.mk.injEq] at h
  obtain ⟨⟨h1, h2⟩, h3⟩ := h
  unfold Instr.findAsking idx
  simp only [h1, h2, Sem.run_bind, run_same, Result.andThen]
  by_cases e1 : k = key x
  ·rw [if_pos e1]
   simp [e1]
  ·rw [if_neg e1]
   simp [e1, run_ask k w es m (i + 1) h3]
theorem run_findK (k : Int × Int) {es : List MapEntry} {m : List α} (h : Ek key val es m) (w : World) : (Instr.findKey 30 (kx k) es).run Tryz.prog w = .ok ((idx key k m 0).map fun p => (p.1, val p.2)) w := by
 rw [run_findKey_eq w (by kernel_rfl)]
 exact run_ask k w es m 0 h
variable (key val)
def At (b : Nat) (m : List α) (w : World) : Prop := ∃ es clock, w.heap[b]? = some (.map es clock) ∧ Ek key val es.toList m ∧ (es.toList.map (·.born)).Nodup ∧ ∀ e ∈ es.toList, e.born < clock
variable {key val}
theorem At.kept {b : Nat} {m : List α} {w w' : World} {F : Nat → Prop} (h : At key val b m w) (hk : Kept F w w') (hF : ¬ F b) : At key val b m w' := by
 obtain ⟨es, cl, h1, h2⟩ := h
 exact ⟨es, cl, by rw [hk.block b (Array.getElem?_eq_some_iff.1 h1).1 hF]; exact h1, h2⟩
theorem At.on {b : Nat} {m : List α} {w w' : World} (h : At key val b m w) (hb : Below w.heap.size w w') : At key val b m w' := h.kept (F := fun _ => False) (Kept.of_below hb) (fun h => h)
theorem At.lt {b : Nat} {m : List α} {w : World} (h : At key val b m w) : b < w.heap.size := by
 obtain ⟨es, cl, h1, _⟩ := h
 exact (Array.getElem?_eq_some_iff.1 h1).1
theorem At.new (w : World) : At key val w.heap.size [] (w.alloc (.map #[] 0)) := ⟨#[], 0, heap_alloc_new w _, rfl, by simp, by simp⟩
theorem run_upd0 {t e b : Nat} {m : List α} {w : World} (ht : Tryz.prog.underlying t = some (.map 30 e)) (h : At key val b m w) (v : α) (hg : m.find? (isK key (key v)) = none) : ∃ w', (Instr.mapUpdate t (.map (some b)) (kx (key v)) (val v)).run Tryz.prog w = .ok () w' ∧ At key val b (m ++ [v]) w' ∧ Kept (fun i => i = b) w w' ∧ w'.heap.size = w.heap.size := by
 obtain ⟨es, cl, h1, h2, h3, h4⟩ := h
 refine ⟨_, ?_, ⟨es.push ⟨kx (key v), val v, cl⟩, cl + 1, (MapKept.heap_set h1).1, ?_, ?_, ?_⟩, set_kb h1, by simp⟩
 ·simp [Instr.mapUpdate, run_underlying ht, MapKept.run_getObj_map h1, run_check, run_findK (key v) h2, idx_none (i := 0) hg, MapKept.run_setObj_map _ h1, Result.andThen]
 ·unfold Ek
  rw [Array.toList_push, List.map_append, List.map_append, h2]
  rfl
 ·rw [Array.toList_push, List.map_append, List.nodup_append]
  refine ⟨h3, by simp, fun a ha b' hb' => ?_⟩
  simp at hb'
  subst hb'
  obtain ⟨x, hx, rfl⟩ := List.mem_map.1 ha
  have := h4 x hx
  omega
 ·intro x hx
  rw [Array.toList_push] at hx
  rcases List.mem_append.1 hx with hx | hx
  ·have := h4 x hx
   omega
  ·simp at hx
   subst hx
   exact Nat.lt_succ_self _
variable (key val)
variable {key val}
end
end Gv
end Go.Proofs.YtajjnmdomabmkaaGreat.Ver
namespace Go.Proofs.YtajjnmdomabmkaaGreat.Ver
open Go.RowKit
def kd (x : Vd) : Int × Int := (x.c, x.n)
def Kd (m : Bk) : Prop := m.Pairwise fun x y => kd x ≠ kd y
structure Rl (m K : Bk) : Prop where
 srt : SrtV K
 perm : K.Perm m
theorem srt_kd {K : Bk} (h : SrtV K) : Kd K := h.imp fun {a b} hab e => by
 have e1 : a.c = b.c := congrArg Prod.fst e
 have e2 : a.n = b.n := congrArg Prod.snd e
 rw [e1, e2, ltT_irrefl] at hab
 cases hab
theorem Rl.apart {m K : Bk} (h : Rl m K) : Kd m := (h.perm.pairwise_iff (fun {_ _} hne => Ne.symm hne)).1 (srt_kd h.srt)
theorem Rl.nil : Rl [] [] := ⟨srtV_nil, List.Perm.refl _⟩
theorem kd_find {k : Int × Int} {o : Vd} : ∀ {m : Bk}, Kd m → (m.find? (Gv.isK kd k) = some o ↔ o ∈ m ∧ kd o = k)
 | [], _ => by simp
 | x :: m, h => by
  obtain ⟨h1, h2⟩ := List.pairwise_cons.1 h
  rw [List.find?_cons]
  split
  ·rename_i e
   have e' : kd x = k := by simpa [Gv.isK] using e
   constructor
   ·intro ho
    injection ho with ho
    subst ho
    exact ⟨List.mem_cons_self .., e'⟩
   ·rintro ⟨ho, hk⟩
    rcases List.mem_cons.1 ho with rfl | ho
    ·rfl
    ·exact absurd (e'.trans hk.symm) (h1 o ho)
  ·rename_i e
   rw [kd_find h2]
   constructor
   ·rintro ⟨a, b⟩
    exact ⟨List.mem_cons_of_mem _ a, b⟩
   ·rintro ⟨a, b⟩
    rcases List.mem_cons.1 a with rfl | a
    ·simp [Gv.isK, b] at e
    ·exact ⟨a, b⟩
theorem getB_find (c n : Int) : ∀ m : Bk, getB c n m = m.find? (Gv.isK kd (c, n))
 | [] => rfl
 | x :: m => by
  unfold getB
  rw [List.find?_cons, getB_find c n m]
  have : Gv.isK kd (c, n) x = ofN c n x := by
   simp only [Gv.isK, kd, ofN, Prod.mk.injEq]
   by_cases h1 : x.c = c <;> by_cases h2 : x.n = n <;> simp [h1, h2]
  rw [this]
  cases ofN c n x <;> rfl
theorem Rl.get {m K : Bk} (h : Rl m K) (c n : Int) : m.find? (Gv.isK kd (c, n)) = getB c n K := by
 rw [getB_find]
 cases hm : m.find? (Gv.isK kd (c, n)) with
 | some o =>
  obtain ⟨h1, h2⟩ := (kd_find h.apart).1 hm
  exact ((kd_find (srt_kd h.srt)).2 ⟨h.perm.mem_iff.2 h1, h2⟩).symm
 | none =>
  cases hK : K.find? (Gv.isK kd (c, n)) with
  | none => rfl
  | some o =>
   obtain ⟨h1, h2⟩ := (kd_find (srt_kd h.srt)).1 hK
   have := (kd_find h.apart).2 ⟨h.perm.mem_iff.1 h1, h2⟩
   rw [hm] at this
   cases this
theorem ins_perm (v : Vd) : ∀ B : Bk, (insB v B).Perm (v :: B)
 | [] => List.Perm.refl _
 | x :: B => by
  unfold insB
  split
  ·exact ((ins_perm v B).cons x).trans (List.Perm.swap v x B)
  ·exact List.Perm.refl _
theorem Rl.ins {m K : Bk} {v : Vd} (h : Rl m K) (hg : getB v.c v.n K = none) : Rl (m ++ [v]) (insB v K) := ⟨ins_srt h.srt hg, (ins_perm v K).trans ((h.perm.cons v).trans (List.perm_append_singleton v m).symm)⟩
end Go.Proofs.YtajjnmdomabmkaaGreat.Ver
namespace Go.Proofs.YtajjnmdomabmkaaGreat.Ver
open Go.RowKit
theorem comm23 (x : Vd) (w : World) : Calls Tryz.prog 184 #[.agg #[.int .u32 x.c, .int .u32 x.n, .int .u64 x.sp, .int .u32 x.sl, .int .u64 x.ap, .int .u32 x.al, .int .u8 x.pt, .bool x.dn]] w fun e w' => e = .returned (.bool (cmB x)) ∧ Below w.heap.size w w' := by
 have hq := run_neq35 x.ap x.al 0 0
 have HB : Hid (∀ o, Below w.heap.size w (w.alloc o)) := fun o => al o
 have HC : Hid (cmB x = !(x.ap == 0 && x.al == 0)) := rfl
 generalize (x.ap == 0 && x.al == 0) = z at *
 go_enter Tryz.func184, Tryz.ntmps184
 go_wp2_with fail
 go_ret
 exact ⟨by rw [HC.out]; rfl, HB.out _⟩
theorem right19 (x : Vd) (w : World) : Calls Tryz.prog 174 #[.agg #[.int .u32 x.c, .int .u32 x.n, .int .u64 x.sp, .int .u32 x.sl, .int .u64 x.ap, .int .u32 x.al, .int .u8 x.pt, .bool x.dn]] w fun e w' => e = .returned (.bool (okV x)) ∧ Below w.heap.size w w' := by
 obtain ⟨c, n, sp, sq, ap, aq, pt, dn⟩ := x
 have CC : Hid (∀ W, 1 = 1 → _) := fun W _ => comm23 ⟨c, n, sp, sq, ap, aq, pt, dn⟩ W
 have C1 : Hid (∀ W, 1 = 1 → _) := fun W _ => rightP sp sq W
 have C2 : Hid (∀ W, 1 = 1 → _) := fun W _ => rightP ap aq W
 have HO : Hid (okV ⟨c, n, sp, sq, ap, aq, pt, dn⟩ = (rightB sp sq && rightB ap aq && (cmB ⟨c, n, sp, sq, ap, aq, pt, dn⟩ || (pt == 0 && !dn)))) := rfl
 generalize okV ⟨c, n, sp, sq, ap, aq, pt, dn⟩ = y at *
 generalize cmB ⟨c, n, sp, sq, ap, aq, pt, dn⟩ = z at *
 generalize rightB sp sq = r1 at *
 generalize rightB ap aq = r2 at *
 obtain ⟨W0, hW0⟩ : ∃ W0, w.alloc (.cells #[.int .u32 c, .int .u32 n, .int .u64 sp, .int .u32 sq, .int .u64 ap, .int .u32 aq, .int .u8 pt, .bool dn] 188) = W0 := ⟨_, rfl⟩
 have HB0 : Hid (Below w.heap.size w W0) := by rw [← hW0]; exact al _
 have hx0 : W0.heap[w.heap.size]? = some (.cells #[.int .u32 c, .int .u32 n, .int .u64 sp, .int .u32 sq, .int .u64 ap, .int .u32 aq, .int .u8 pt, .bool dn] 188 (0, 0)) := by rw [← hW0]; exact heap_alloc_new w _
 have HV : Hid (∀ W, Below W0.heap.size W0 W → VdAt W w.heap.size 0 ⟨c, n, sp, sq, ap, aq, pt, dn⟩) := fun W hb => by
  have hx : W.heap[w.heap.size]? = some (.cells #[.int .u32 c, .int .u32 n, .int .u64 sp, .int .u32 sq, .int .u64 ap, .int .u32 aq, .int .u8 pt, .bool dn] 188 (0, 0)) := by rw [hb.block _ (Array.getElem?_eq_some_iff.1 hx0).1]; exact hx0
  exact ⟨block_cell hx rfl, block_cell hx rfl, block_cell hx rfl, block_cell hx rfl, block_cell hx rfl, block_cell hx rfl, block_cell hx rfl, block_cell hx rfl⟩
 clear hx0
 obtain ⟨c0, c1, c2, c3, c4, c5, c6, c7⟩ := HV.out W0 (Below.refl _ _)
 go_enter Tryz.func174, Tryz.ntmps174
 go_wp2_with fail
 refine (C1.out W0 (by simp)).mono ?_
 rintro e w1 ⟨rfl, hb1⟩
 clear c0 c1 c2 c3 c4 c5 c6 c7
 obtain ⟨c0, c1, c2, c3, c4, c5, c6, c7⟩ := HV.out w1 hb1
 have HB1 : Hid (Below W0.heap.size W0 w1) := hb1
 have HX : Hid (∀ W, Below W0.heap.size W0 W → Below w.heap.size w W) := fun W hb => HB0.out.trans (hb.mono HB0.out.size)
 clear hb1 hW0
 cases r1
 ·go_wp2_with fail
  go_ret
  exact ⟨by rw [HO.out]; rfl, HX.out _ HB1.out⟩
 ·go_wp2_with fail
  refine (C2.out w1 (by simp)).mono ?_
  rintro e w2 ⟨rfl, hb2⟩
  have HB2 : Hid (Below W0.heap.size W0 w2) := HB1.out.trans (hb2.mono HB1.out.size)
  clear c0 c1 c2 c3 c4 c5 c6 c7 hb2
  obtain ⟨c0, c1, c2, c3, c4, c5, c6, c7⟩ := HV.out w2 HB2.out
  cases r2
  ·go_wp2_with fail
   go_ret
   exact ⟨by rw [HO.out]; rfl, HX.out _ HB2.out⟩
  ·go_wp2_with fail
   refine (CC.out w2 (by simp)).mono ?_
   rintro e w3 ⟨rfl, hb3⟩
   have HB3 : Hid (Below W0.heap.size W0 w3) := HB2.out.trans (hb3.mono HB2.out.size)
   clear c0 c1 c2 c3 c4 c5 c6 c7 hb3
   obtain ⟨c0, c1, c2, c3, c4, c5, c6, c7⟩ := HV.out w3 HB3.out
   cases z
   ·by_cases hp : pt = 0
    ·subst hp
     cases dn
     ·go_wp2_with fail
      go_ret
      exact ⟨by rw [HO.out]; rfl, HX.out _ HB3.out⟩
     ·go_wp2_with fail
      go_ret
      exact ⟨by rw [HO.out]; rfl, HX.out _ HB3.out⟩
    ·have hp' : (pt == 0) = false := by simpa using hp
     go_wp2_with fail
     go_ret
     exact ⟨by rw [HO.out, hp']; rfl, HX.out _ HB3.out⟩
   ·go_wp2_with fail
    go_ret
    exact ⟨by rw [HO.out]; rfl, HX.out _ HB3.out⟩
end Go.Proofs.YtajjnmdomabmkaaGreat.Ver
