import Derived.Test.YtkdkgdollmmcnaaGreatProg
import Derived.Shelf.Abstract
import Derived.Laws.Cover2
import Derived.Laws.FloatArith
import Derived.Laws.ComplexArith
import Derived.Test.YtkdkgdollmmcnaaGreatWzLt
import Derived.Test.YtkdkgdollmmcnaaGreatWac
set_option maxHeartbeats 4000000
set_option maxRecDepth 100000
set_option linter.unusedVariables false
set_option linter.unusedSimpArgs false
namespace Go.Proofs.YtkdkgdollmmcnaaGreat
open Go.RowKit Go.Shelf
theorem block_set {w : World} {b j : Nat} {cs : Array Value} {ty : TypeId} (u : Value) (h : w.heap[b]? = some (.cells cs ty (0, 0))) : (w.setCell ⟨b, j, none⟩ u).heap[b]? = some (.cells (cs.setIfInBounds j u) ty (0, 0)) := by
 show (w.heap.modify b _)[b]? = _
 rw [Array.getElem?_modify, if_pos rfl, h]
 rfl
theorem block_cell {w : World} {b j : Nat} {cs : Array Value} {ty : TypeId} {u : Value} (h : w.heap[b]? = some (.cells cs ty (0, 0))) (hj : cs[j]? = some u) : w.cell? ⟨b, j, none⟩ = some u := by
 unfold World.cell?
 rw [h]
 exact hj
theorem block_frozen {w : World} {b : Nat} {cs : Array Value} {ty : TypeId} (h : w.heap[b]? = some (.cells cs ty (0, 0))) (j : Nat) : w.frozen? ⟨b, j, none⟩ = false := by
 unfold World.frozen?
 rw [h]
 simp
theorem set_kept' (w : World) (b j : Nat) (u : Value) : Kept (fun c => c = b) w (w.setCell ⟨b, j, none⟩ u) := by
 have hb : Below b w (w.setCell ⟨b, j, none⟩ u) := (Below.refl b w).setCell (p := ⟨b, j, none⟩) (Nat.le_refl b) u
 exact ⟨hb.os, hb.tape, hb.output, hb.size, fun k _ hF => Below.heap_setCell w ⟨b, j, none⟩ u k hF⟩
theorem below_own {base e size : Nat} {v : Value} {n : Nat} {cs : List Value} {a w w' : World} (hb : Below base a w) (hs : base ≤ w.heap.size) (hI : w.ownsRow base e size v n cs) (hg : w.grownBy w' v.ownBlock) : Below base a w' :=
 hb.grown hg hs fun k hk => (World.ownsRow.lt hI k hk).1
theorem own_nil (base e size : Nat) (w : World) : w.ownsRow base e size (.slice none 0 0) 0 [] := World.ownsRow_nil w base e size
theorem below_of {a b : Nat} {w w' : World} (e : a = b) (h : Below a w w') : Below b w w' := e ▸ h
theorem size_al (w : World) (o : Obj) : (w.alloc o).heap.size = w.heap.size + 1 := by simp
theorem ret_bool {a b : Bool} (h : a = b) : Ending.returned (.bool a) = .returned (.bool b) := by rw [h]
def rightB (p l : Int) : Bool := decide (p ≤ 281474976710656 ∧ l ≤ 4095)
theorem rightP (p l : Int) (w : World) :
  Calls Tryz.prog 110 #[.agg #[.int .u64 p, .int .u32 l]] w fun e w' => e = .returned (.bool (rightB p l)) ∧ Below w.heap.size w w' := by
 by_cases h1 : p ≤ 281474976710656 <;> by_cases h2 : l ≤ 4095
 all_goals
  go_enter Tryz.func110, Tryz.ntmps110
  go_wp2
  go_ret
  exact ⟨ret_bool (by simp [rightB, h1, h2]), (Below.refl _ _).alloc (Nat.le_refl _) _⟩
theorem rightB_S (p l : Nat) : rightB p l = rightS p l := by
 rw [Bool.eq_iff_iff]
 simp only [rightB, rightS, Bool.and_eq_true, decide_eq_true_eq]
 omega
theorem nat_beq (a b : Nat) : ((a : Int) == (b : Int)) = (a == b) := by
 rw [Bool.eq_iff_iff]
 simp only [beq_iff_eq]
 omega
theorem run_eql24 (p l q m : Nat) (w : World) : (binOp .eql 38 (.agg #[.int .u32 (p : Int), .int .u32 (l : Int)]) (.agg #[.int .u32 (q : Int), .int .u32 (m : Int)])).run Tryz.prog w = .ok (.bool (p == q && l == m)) w := by
 rw [← nat_beq p q, ← nat_beq l m]
 generalize (p : Int) = p
 generalize (l : Int) = l
 generalize (q : Int) = q
 generalize (m : Int) = m
 by_cases h : p = q <;> by_cases h2 : l = m <;> simp [go_sem, h, h2]
theorem run_eql27 (p l q m : Nat) (w : World) : (binOp .eql 34 (.agg #[.int .u64 (p : Int), .int .u32 (l : Int)]) (.agg #[.int .u64 (q : Int), .int .u32 (m : Int)])).run Tryz.prog w = .ok (.bool (p == q && l == m)) w := by
 rw [← nat_beq p q, ← nat_beq l m]
 generalize (p : Int) = p
 generalize (l : Int) = l
 generalize (q : Int) = q
 generalize (m : Int) = m
 by_cases h : p = q <;> by_cases h2 : l = m <;> simp [go_sem, h, h2]
theorem run_neq24 (a b : Tn) (w : World) : (binOp .neq 38 (.agg #[.int .u32 (a.c : Int), .int .u32 (a.n : Int)]) (.agg #[.int .u32 (b.c : Int), .int .u32 (b.n : Int)])).run Tryz.prog w = .ok (.bool (!eqT a b)) w := by
 obtain ⟨p, l⟩ := a
 obtain ⟨q, m⟩ := b
 simp only [eqT]
 rw [← nat_beq p q, ← nat_beq l m]
 generalize (p : Int) = p
 generalize (l : Int) = l
 generalize (q : Int) = q
 generalize (m : Int) = m
 by_cases h : p = q <;> by_cases h2 : l = m <;> simp [go_sem, h, h2]
theorem run_neq65 (a b : Wr) (w : World) : (binOp .neq 70 (.agg #[.string (bs a.key), .string (bs a.val), .bool a.dead]) (.agg #[.string (bs b.key), .string (bs b.val), .bool b.dead])).run Tryz.prog w = .ok (.bool (!eqW a b)) w := by
 obtain ⟨k, v, d⟩ := a
 obtain ⟨k', v', d'⟩ := b
 simp only [eqW]
 simp [go_sem, bs_list]
 repeat' split
 all_goals simp_all
theorem run_neq67 (a b : Pr) (w : World) : (binOp .neq 143 (.agg #[.string (bs a.key), .string (bs a.val)]) (.agg #[.string (bs b.key), .string (bs b.val)])).run Tryz.prog w = .ok (.bool (!eqP a b)) w := by
 obtain ⟨k, v⟩ := a
 obtain ⟨k', v'⟩ := b
 simp only [eqP]
 simp [go_sem, bs_list]
 repeat' split
 all_goals simp_all
structure Bx (w : World) (b : Nat) (cs : Array Value) (ty : TypeId) (W : World) : Prop where
 bel : Below w.heap.size w W
 x : W.heap[b]? = some (.cells cs ty (0, 0))
theorem Bx.on {w W W' : World} {b : Nat} {cs : Array Value} {ty : TypeId} (h : Bx w b cs ty W) (hb : Below W.heap.size W W') : Bx w b cs ty W' :=
 ⟨h.bel.trans (hb.mono h.bel.size), by rw [hb.block _ (Array.getElem?_eq_some_iff.1 h.x).1]; exact h.x⟩
theorem bx_new (w : World) (cs : Array Value) (ty : TypeId) : Bx w w.heap.size cs ty (w.alloc (.cells cs ty)) := ⟨al _, heap_alloc_new w _⟩
def wrc (x : Wr) : List Value := [.string (bs x.key), .string (bs x.val), .bool x.dead]
theorem wrc_len (x : Wr) : (wrc x).length = 3 := rfl
theorem wrc_one : ∀ x, ∀ u ∈ wrc x, u.oneCell' = true := fun x u hu => by
 simp only [wrc, List.mem_cons, List.not_mem_nil, or_false] at hu
 rcases hu with rfl | rfl | rfl <;> rfl
def dw : Wr := ⟨[], [], false⟩
structure WtAt (w : World) (b off : Nat) (x : Wr) : Prop where
 c0 : w.cell? ⟨b, off, none⟩ = some (.string (bs x.key))
 c1 : w.cell? ⟨b, off + 1, none⟩ = some (.string (bs x.val))
 c2 : w.cell? ⟨b, off + 2, none⟩ = some (.bool x.dead)
def WsAt (B : Nat) (v : Value) (L : List Wr) (w : World) : Prop := RwAt B 3 v L.length (rowC wrc L) w
theorem WsAt.el {B : Nat} {ao : Option Addr} {cap : Nat} {L : List Wr} {w : World} (h : WsAt B (.slice ao L.length cap) L w) {i : Nat} (hi : i < L.length) : ∃ b off, ao = some ⟨b, off, none⟩ ∧ WtAt w b (off + i * 3) (L.getD i dw) := by
 obtain ⟨b, off, e, hc⟩ := rowC_el wrc_len dw (by omega) rfl h hi
 exact ⟨b, off, e, hc 0 _ (by omega) rfl, hc 1 _ (by omega) rfl, hc 2 _ (by omega) rfl⟩
theorem WsAt.shape {B : Nat} {v : Value} {L : List Wr} {w : World} (h : WsAt B v L w) : ∃ ao cap, v = .slice ao L.length cap ∧ L.length ≤ cap ∧ cap ≤ 9223372036854775807 := by
 obtain ⟨ao, cap, e, _, h1, h2, _⟩ := h
 exact ⟨ao, cap, e, h1, h2⟩
theorem WsAt.cap {B : Nat} {ao : Option Addr} {cap : Nat} {L : List Wr} {w : World} (h : WsAt B (.slice ao L.length cap) L w) : L.length ≤ cap ∧ cap ≤ 9223372036854775807 := by
 obtain ⟨ao', cap', e, _, h1, h2, _⟩ := h
 simp only [Value.slice.injEq, true_and] at e
 obtain ⟨rfl, rfl⟩ := e
 exact ⟨h1, h2⟩
theorem WsAt.on {B : Nat} {v : Value} {L : List Wr} {w w' : World} (h : WsAt B v L w) (hb : Below B w w') : WsAt B v L w' := RwAt.on h hb
theorem WsAt.le {B B' : Nat} {v : Value} {L : List Wr} {w : World} (h : WsAt B v L w) (hb : B ≤ B') : WsAt B' v L w := RwAt.le h hb
theorem getD_memWr {L : List Wr} {i : Nat} (h : i < L.length) : L.getD i dw ∈ L := by
 rw [List.getD, List.getElem?_eq_getElem h]
 exact List.getElem_mem h
def tnc (x : Tn) : List Value := [.int .u32 (x.c : Int), .int .u32 (x.n : Int)]
theorem tnc_len (x : Tn) : (tnc x).length = 2 := rfl
theorem tnc_one : ∀ x, ∀ u ∈ tnc x, u.oneCell' = true := fun x u hu => by
 simp only [tnc, List.mem_cons, List.not_mem_nil, or_false] at hu
 rcases hu with rfl | rfl <;> rfl
def dt : Tn := ⟨0, 0⟩
structure TtAt (w : World) (b off : Nat) (x : Tn) : Prop where
 c0 : w.cell? ⟨b, off, none⟩ = some (.int .u32 (x.c : Int))
 c1 : w.cell? ⟨b, off + 1, none⟩ = some (.int .u32 (x.n : Int))
def TsAt (B : Nat) (v : Value) (L : List Tn) (w : World) : Prop := RwAt B 2 v L.length (rowC tnc L) w
theorem TsAt.el {B : Nat} {ao : Option Addr} {cap : Nat} {L : List Tn} {w : World} (h : TsAt B (.slice ao L.length cap) L w) {i : Nat} (hi : i < L.length) : ∃ b off, ao = some ⟨b, off, none⟩ ∧ TtAt w b (off + i * 2) (L.getD i dt) := by
 obtain ⟨b, off, e, hc⟩ := rowC_el tnc_len dt (by omega) rfl h hi
 exact ⟨b, off, e, hc 0 _ (by omega) rfl, hc 1 _ (by omega) rfl⟩
theorem TsAt.cap {B : Nat} {ao : Option Addr} {cap : Nat} {L : List Tn} {w : World} (h : TsAt B (.slice ao L.length cap) L w) : L.length ≤ cap ∧ cap ≤ 9223372036854775807 := by
 obtain ⟨ao', cap', e, _, h1, h2, _⟩ := h
 simp only [Value.slice.injEq, true_and] at e
 obtain ⟨rfl, rfl⟩ := e
 exact ⟨h1, h2⟩
theorem TsAt.on {B : Nat} {v : Value} {L : List Tn} {w w' : World} (h : TsAt B v L w) (hb : Below B w w') : TsAt B v L w' := RwAt.on h hb
theorem TsAt.le {B B' : Nat} {v : Value} {L : List Tn} {w : World} (h : TsAt B v L w) (hb : B ≤ B') : TsAt B' v L w := RwAt.le h hb
def prc (x : Pr) : List Value := [.string (bs x.key), .string (bs x.val)]
theorem prc_len (x : Pr) : (prc x).length = 2 := rfl
theorem prc_one : ∀ x, ∀ u ∈ prc x, u.oneCell' = true := fun x u hu => by
 simp only [prc, List.mem_cons, List.not_mem_nil, or_false] at hu
 rcases hu with rfl | rfl <;> rfl
def dp : Pr := ⟨[], []⟩
structure PtAt (w : World) (b off : Nat) (x : Pr) : Prop where
 c0 : w.cell? ⟨b, off, none⟩ = some (.string (bs x.key))
 c1 : w.cell? ⟨b, off + 1, none⟩ = some (.string (bs x.val))
def PsAt (B : Nat) (v : Value) (L : List Pr) (w : World) : Prop := RwAt B 2 v L.length (rowC prc L) w
theorem PsAt.el {B : Nat} {ao : Option Addr} {cap : Nat} {L : List Pr} {w : World} (h : PsAt B (.slice ao L.length cap) L w) {i : Nat} (hi : i < L.length) : ∃ b off, ao = some ⟨b, off, none⟩ ∧ PtAt w b (off + i * 2) (L.getD i dp) := by
 obtain ⟨b, off, e, hc⟩ := rowC_el prc_len dp (by omega) rfl h hi
 exact ⟨b, off, e, hc 0 _ (by omega) rfl, hc 1 _ (by omega) rfl⟩
theorem PsAt.shape {B : Nat} {v : Value} {L : List Pr} {w : World} (h : PsAt B v L w) : ∃ ao cap, v = .slice ao L.length cap ∧ L.length ≤ cap ∧ cap ≤ 9223372036854775807 := by
 obtain ⟨ao, cap, e, _, h1, h2, _⟩ := h
 exact ⟨ao, cap, e, h1, h2⟩
theorem PsAt.cap {B : Nat} {ao : Option Addr} {cap : Nat} {L : List Pr} {w : World} (h : PsAt B (.slice ao L.length cap) L w) : L.length ≤ cap ∧ cap ≤ 9223372036854775807 := by
 obtain ⟨ao', cap', e, _, h1, h2, _⟩ := h
 simp only [Value.slice.injEq, true_and] at e
 obtain ⟨rfl, rfl⟩ := e
 exact ⟨h1, h2⟩
theorem PsAt.on {B : Nat} {v : Value} {L : List Pr} {w w' : World} (h : PsAt B v L w) (hb : Below B w w') : PsAt B v L w' := RwAt.on h hb
theorem PsAt.le {B B' : Nat} {v : Value} {L : List Pr} {w : World} (h : PsAt B v L w) (hb : B ≤ B') : PsAt B' v L w := RwAt.le h hb
structure QAt (B : Nat) (q : Rq) (vw vs : Value) (w : World) : Prop where
 ws : WsAt B vw q.ws w
 sk : TsAt B vs q.sk w
theorem QAt.on {B : Nat} {q : Rq} {vw vs : Value} {w w' : World} (h : QAt B q vw vs w) (hb : Below B w w') : QAt B q vw vs w' := ⟨h.ws.on hb, h.sk.on hb⟩
theorem QAt.le {B B' : Nat} {q : Rq} {vw vs : Value} {w : World} (h : QAt B q vw vs w) (hb : B ≤ B') : QAt B' q vw vs w := ⟨h.ws.le hb, h.sk.le hb⟩
theorem QAt.up {q : Rq} {vw vs : Value} {w w' : World} (h : QAt w.heap.size q vw vs w) (hb : Below w.heap.size w w') : QAt w'.heap.size q vw vs w' := (h.on hb).le hb.size
theorem PsAt.up {L : List Pr} {v : Value} {w w' : World} (h : PsAt w.heap.size v L w) (hb : Below w.heap.size w w') : PsAt w'.heap.size v L w' := (h.on hb).le hb.size
theorem qat_nil (B : Nat) (w : World) : QAt B zQ (.slice none 0 0) (.slice none 0 0) w := ⟨RwAt.nil _ _ _, RwAt.nil _ _ _⟩
theorem all_step {α : Type} {L : List α} {P : α → Bool} {d : α} {m : Nat} (h : m < L.length) : (L.drop m).all P = (P (L.getD m d) && (L.drop (m + 1)).all P) := by
 rw [List.drop_eq_getElem_cons h, show L.getD m d = L[m] from by simp [List.getD, h]]
 rfl
theorem eqL_step {α : Type} {f : α → α → Bool} {d : α} : ∀ {a b : List α} {m : Nat}, a.length = b.length → m < a.length → eqL f (a.drop m) (b.drop m) = (f (a.getD m d) (b.getD m d) && eqL f (a.drop (m + 1)) (b.drop (m + 1))) := by
 intro a b m hl hm
 rw [List.drop_eq_getElem_cons hm, List.drop_eq_getElem_cons (show m < b.length by omega), show a.getD m d = a[m] from by simp [List.getD, hm], show b.getD m d = b[m] from by simp [List.getD, show m < b.length by omega]]
 rfl
theorem eqL_len {α : Type} {f : α → α → Bool} (hf : ∀ {a b}, f a b = true ↔ a = b) {a b : List α} (h : a.length ≠ b.length) : eqL f a b = false := by
 cases h1 : eqL f a b with
 | false => rfl
 | true => exact absurd (congrArg List.length ((eqL_iff hf).1 h1)) h
theorem fits53 (k v : List UInt8) (w : World) : Calls Tryz.prog 108 #[.string (bs k), .string (bs v)] w fun e w' => e = .returned (.bool (fitB k v)) ∧ w = w' := by
 have hk := bs_size k
 have hv := bs_size v
 by_cases h1 : k.length ≤ 32 <;> by_cases h2 : v.length ≤ 256
 ·have h1' : (k.length : Int) ≤ 32 := by omega
  have h2' : (v.length : Int) ≤ 256 := by omega
  go_enter Tryz.func108, Tryz.ntmps108
  go_wp2
  go_ret
  exact ⟨ret_bool (by simp [fitB, h1, h2]), rfl⟩
 ·have h1' : (k.length : Int) ≤ 32 := by omega
  have h2' : ¬ (v.length : Int) ≤ 256 := by omega
  go_enter Tryz.func108, Tryz.ntmps108
  go_wp2
  go_ret
  exact ⟨ret_bool (by simp [fitB, h1, h2]), rfl⟩
 all_goals
  have h1' : ¬ (k.length : Int) ≤ 32 := by omega
  go_enter Tryz.func108, Tryz.ntmps108
  go_wp2
  go_ret
  exact ⟨ret_bool (by simp [fitB, h1, h2]), rfl⟩
end Go.Proofs.YtkdkgdollmmcnaaGreat
namespace Go.Proofs.YtkdkgdollmmcnaaGreat.Pla
open Ieee
def fq : Nat := 1074
theorem fq_eq : fq = 1074 := rfl
theorem lp_eq : double.leastPlace = -(fq : Int) := by decide
theorem binade_eq : double.binade = 4503599627370496 := by decide
theorem infRung_eq : double.infRung = 9218868437227405312 := by decide
theorem signW_eq : double.signWeight = 9223372036854775808 := by decide
theorem frac_eq : double.fractionBits = 52 := rfl
theorem two_pow_posI (k : Nat) : (0 : Int) < 2 ^ k := Int.pow_pos (by decide)
theorem signed_eq (s : Bool) (m i : Nat) : signed s m i = (if s then -1 else 1) * ((m : Int) * 2 ^ i) := by
 unfold signed
 rw [Nat.shiftLeft_eq]
 cases s <;> simp
theorem log2_shift (a k : Nat) (h : a ≠ 0) : (a * 2 ^ k).log2 = a.log2 + k := by
 have h1 := Nat.log2_self_le h
 have h2 := @Nat.lt_log2_self a
 have hp : 0 < 2 ^ k := Nat.two_pow_pos k
 rw [Nat.log2_eq_iff (Nat.mul_ne_zero h (Nat.pos_iff_ne_zero.1 hp))]
 refine ⟨?_, ?_⟩
 ·rw [Nat.pow_add]; exact Nat.mul_le_mul_right _ h1
 ·rw [show a.log2 + k + 1 = (a.log2 + 1) + k by omega, Nat.pow_add]; exact Nat.mul_lt_mul_of_pos_right h2 hp
theorem cut_zero (s : Bool) (x : Nat) : Toward.even.cut s x 0 = x := by
 simp [Toward.cut, Nat.mod_one]
theorem cut_exact (s : Bool) (x k : Nat) (hx : 2 ^ 52 ≤ x) : Toward.even.cut s (x * 2 ^ k) k = x := by
 have hx0 : x ≠ 0 := by have := Nat.two_pow_pos 52; omega
 have hp : 0 < 2 ^ k := Nat.two_pow_pos k
 unfold Toward.cut
 rw [log2_shift x k hx0, Nat.min_eq_left (by omega), Nat.shiftLeft_eq, Nat.one_mul]
 have e1 : x * 2 ^ k / 2 ^ k = x := Nat.mul_div_cancel _ hp
 have e2 : x * 2 ^ k % 2 ^ k = 0 := Nat.mul_mod_left _ _
 simp only [e1, e2]
 have : (2 ^ k == 2 * 0) = false := by simp
 simp [this]
def rungOf (N : Nat) : Nat := (N.log2 + 1022) * 4503599627370496 + N * 2 ^ (52 - N.log2)
theorem top_bounds (N : Nat) (h0 : N ≠ 0) (h : N < 2 ^ 53) : N.log2 ≤ 52 ∧ 4503599627370496 ≤ N * 2 ^ (52 - N.log2) ∧ N * 2 ^ (52 - N.log2) < 9007199254740992 := by
 have h1 := Nat.log2_self_le h0
 have h2 := @Nat.lt_log2_self N
 have hl : N.log2 < 53 := (Nat.log2_lt h0).2 h
 have hp : 0 < 2 ^ (52 - N.log2) := Nat.two_pow_pos _
 refine ⟨by omega, ?_, ?_⟩
 ·calc 4503599627370496 = 2 ^ N.log2 * 2 ^ (52 - N.log2) := by rw [← Nat.pow_add, show N.log2 + (52 - N.log2) = 52 by omega]
   _ ≤ _ := Nat.mul_le_mul_right _ h1
 ·calc N * 2 ^ (52 - N.log2) < 2 ^ (N.log2 + 1) * 2 ^ (52 - N.log2) := Nat.mul_lt_mul_of_pos_right h2 hp
   _ = _ := by rw [← Nat.pow_add, show N.log2 + 1 + (52 - N.log2) = 53 by omega]
theorem near_canon (s : Bool) (m i N : Nat) (h : m * 2 ^ i = N * 2 ^ fq) (h0 : N ≠ 0) (hN : N < 2 ^ 53) : double.nearest s m (-(fq : Int) + i) = double.word s (rungOf N) := by
 obtain ⟨hl, hlo, hhi⟩ := top_bounds N h0 hN
 have hm : m ≠ 0 := by
  intro e
  rw [e, Nat.zero_mul] at h
  exact Nat.mul_ne_zero h0 (Nat.pos_iff_ne_zero.1 (Nat.two_pow_pos fq)) h.symm
 have hlog : m.log2 + i = N.log2 + fq := by rw [← log2_shift m i hm, h, log2_shift N fq h0]
 have hq := fq_eq
 unfold Format.nearest
 rw [if_neg hm, lp_eq, frac_eq, binade_eq, infRung_eq]
 have hlast : max (-(fq : Int) + (i : Int) + (m.log2 : Int) - ((52 : Nat) : Int)) (-(fq : Int)) = (N.log2 : Int) - 52 := by omega
 simp only [hlast]
 have hkept : Toward.even.cut s (m <<< (-(fq : Int) + (i : Int) - ((N.log2 : Int) - 52)).toNat) ((N.log2 : Int) - 52 - (-(fq : Int) + (i : Int))).toNat = N * 2 ^ (52 - N.log2) := by
  by_cases hc : N.log2 + fq ≤ i + 52
  ·have e1 : (-(fq : Int) + (i : Int) - ((N.log2 : Int) - 52)).toNat = i + 52 - N.log2 - fq := by omega
   have e2 : ((N.log2 : Int) - 52 - (-(fq : Int) + (i : Int))).toNat = 0 := by omega
   rw [e1, e2, cut_zero, Nat.shiftLeft_eq]
   have hp : 0 < 2 ^ (N.log2 + fq - 52) := Nat.two_pow_pos _
   refine Nat.eq_of_mul_eq_mul_right hp ?_
   rw [Nat.mul_assoc, ← Nat.pow_add, Nat.mul_assoc, ← Nat.pow_add, show i + 52 - N.log2 - fq + (N.log2 + fq - 52) = i by omega, show 52 - N.log2 + (N.log2 + fq - 52) = fq by omega]
   exact h
  ·have e1 : (-(fq : Int) + (i : Int) - ((N.log2 : Int) - 52)).toNat = 0 := by omega
   have e2 : ((N.log2 : Int) - 52 - (-(fq : Int) + (i : Int))).toNat = N.log2 + fq - 52 - i := by omega
   rw [e1, e2, Nat.shiftLeft_zero]
   have hmm : m = N * 2 ^ (52 - N.log2) * 2 ^ (N.log2 + fq - 52 - i) := by
    refine Nat.eq_of_mul_eq_mul_right (Nat.two_pow_pos i) ?_
    rw [h, Nat.mul_assoc, Nat.mul_assoc, ← Nat.pow_add, ← Nat.pow_add, show 52 - N.log2 + (N.log2 + fq - 52 - i + i) = fq by omega]
   rw [hmm]
   exact cut_exact s _ _ (by omega)
 rw [hkept]
 have e3 : ((N.log2 : Int) - 52 - -(fq : Int)).toNat = N.log2 + 1022 := by omega
 rw [e3, Nat.min_eq_left (by omega)]
 rfl
theorem read_rung (s : Bool) (N : Nat) (h0 : N ≠ 0) (hN : N < 2 ^ 53) : double.read (double.word s (rungOf N)) = .number s (N * 2 ^ (52 - N.log2)) (-(fq : Int) + ((N.log2 + 1022 : Nat) : Int)) := by
 obtain ⟨hl, hlo, hhi⟩ := top_bounds N h0 hN
 unfold Format.read Format.word
 rw [signW_eq, binade_eq, infRung_eq, lp_eq]
 unfold rungOf
 generalize N * 2 ^ (52 - N.log2) = X at hlo hhi
 generalize N.log2 = L at hl
 have hr : (if s = true then 9223372036854775808 + ((L + 1022) * 4503599627370496 + X) else (L + 1022) * 4503599627370496 + X) % 9223372036854775808 = (L + 1022) * 4503599627370496 + X := by
  cases s <;> simp <;> omega
 have hs : ((if s = true then 9223372036854775808 + ((L + 1022) * 4503599627370496 + X) else (L + 1022) * 4503599627370496 + X) / 9223372036854775808 % 2 == 1) = s := by
  cases s <;> simp <;> omega
 simp only [hr, hs]
 rw [if_neg (by omega), if_pos (by omega)]
 have e1 : ((L + 1022) * 4503599627370496 + X) % 4503599627370496 = X - 4503599627370496 := by omega
 have e2 : ((L + 1022) * 4503599627370496 + X) / 4503599627370496 = L + 1023 := by omega
 rw [e1, e2, show 4503599627370496 + (X - 4503599627370496) = X by omega, show L + 1023 - 1 = L + 1022 by omega]
theorem ofInt_eq (n : Int) : floatOfInt .f64 n = double.nearest (decide (n < 0)) n.natAbs 0 := rfl
theorem near_int (s : Bool) (m i : Nat) (n : Int) (h : signed s m i = n * 2 ^ fq) (hn : n.natAbs < 2 ^ 53) (hz : n = 0 → s = false) : double.nearest s m (-(fq : Int) + i) = floatOfInt .f64 n := by
 have hp : (0 : Int) < 2 ^ i := two_pow_posI i
 have hpq : (0 : Int) < 2 ^ fq := two_pow_posI fq
 rw [signed_eq] at h
 by_cases h0 : n = 0
 ·have hs := hz h0
  subst hs
  rw [h0, Int.zero_mul] at h
  simp only [Bool.false_eq_true, if_false, Int.one_mul] at h
  have hm : m = 0 := by
   rcases Int.mul_eq_zero.1 h with h | h
   ·exact_mod_cast h
   ·omega
  rw [hm, h0, ofInt_eq]
  simp [Format.nearest]
 ·have habs : m * 2 ^ i = n.natAbs * 2 ^ fq := by
   have := congrArg Int.natAbs h
   rw [Int.natAbs_mul, Int.natAbs_mul, Int.natAbs_mul, Int.natAbs_pow, Int.natAbs_pow] at this
   have e : (if s = true then (-1 : Int) else 1).natAbs = 1 := by cases s <;> rfl
   rw [e, Nat.one_mul] at this
   simpa using this
  have hs : s = decide (n < 0) := by
   have hm0 : (0 : Int) ≤ (m : Int) * 2 ^ i := Int.mul_nonneg (by omega) (by omega)
   cases s
   ·simp only [Bool.false_eq_true, if_false, Int.one_mul] at h
    have : ¬ n < 0 := fun hlt => by
     have := Int.mul_neg_of_neg_of_pos hlt hpq
     omega
    simp [this]
   ·simp only [if_true] at h
    have : n < 0 := by
     rcases Int.lt_or_le n 0 with h1 | h1
     ·exact h1
     ·have := Int.mul_nonneg h1 (Int.le_of_lt hpq)
      have h2 : n * 2 ^ fq = 0 := by omega
      rcases Int.mul_eq_zero.1 h2 with h3 | h3
      ·exact absurd h3 h0
      ·omega
    simp [this]
  have hnn : n.natAbs ≠ 0 := by omega
  rw [near_canon s m i n.natAbs habs hnn hn, ofInt_eq, ← hs]
  have := near_canon s n.natAbs fq n.natAbs rfl hnn hn
  rw [show (-(fq : Int) + (fq : Int)) = 0 by omega] at this
  exact this.symm
theorem read_int (n : Int) (hn : n.natAbs < 2 ^ 53) : ∃ m i : Nat, double.read (floatOfInt .f64 n) = .number (decide (n < 0)) m (-(fq : Int) + i) ∧ signed (decide (n < 0)) m i = n * 2 ^ fq := by
 by_cases h0 : n = 0
 ·subst h0
  refine ⟨0, 0, ?_, ?_⟩
  ·decide
  ·rw [signed_eq]; simp
 ·have hnn : n.natAbs ≠ 0 := by omega
  have hc := near_canon (decide (n < 0)) n.natAbs fq n.natAbs rfl hnn hn
  rw [show (-(fq : Int) + (fq : Int)) = 0 by omega] at hc
  refine ⟨n.natAbs * 2 ^ (52 - n.natAbs.log2), n.natAbs.log2 + 1022, ?_, ?_⟩
  ·rw [ofInt_eq, hc]
   exact read_rung _ _ hnn hn
  ·obtain ⟨hl, _, _⟩ := top_bounds _ hnn hn
   rw [signed_eq]
   have e : ((n.natAbs * 2 ^ (52 - n.natAbs.log2) : Nat) : Int) * 2 ^ (n.natAbs.log2 + 1022) = (n.natAbs : Int) * 2 ^ fq := by
    rw [Int.natCast_mul, Int.natCast_pow, Int.mul_assoc]
    show (n.natAbs : Int) * ((2 : Int) ^ _ * _) = _
    rw [← Int.pow_add, show 52 - n.natAbs.log2 + (n.natAbs.log2 + 1022) = fq by have := fq_eq; omega]
   rw [e, ← Int.mul_assoc]
   congr 1
   by_cases hlt : n < 0
   ·simp [hlt]; omega
   ·simp [hlt]; omega
theorem signed_scale (s : Bool) (m i k : Nat) (h : k ≤ i) : signed s m (i - k) * 2 ^ k = signed s m i := by
 rw [signed_eq, signed_eq, Int.mul_assoc, Int.mul_assoc, ← Int.pow_add, Nat.sub_add_cancel h]
theorem place_sub (i j : Nat) : (-(fq : Int) + (i : Int) - min (-(fq : Int) + (i : Int)) (-(fq : Int) + (j : Int))).toNat = i - min i j := by omega
theorem place_sub' (i j : Nat) : (-(fq : Int) + (j : Int) - min (-(fq : Int) + (i : Int)) (-(fq : Int) + (j : Int))).toNat = j - min i j := by omega
theorem place_min (i j : Nat) : min (-(fq : Int) + (i : Int)) (-(fq : Int) + (j : Int)) = -(fq : Int) + ((min i j : Nat) : Int) := by omega
theorem ofInt_zero : floatOfInt .f64 0 = 0 := by decide
structure Fw (x : Nat) (n : Int) : Prop where
 eq : x = floatOfInt .f64 n ∨ n = 0 ∧ x = 9223372036854775808
 lt : n.natAbs < 2 ^ 53
theorem fw_int (n : Int) (h : n.natAbs < 2 ^ 53) : Fw (floatOfInt .f64 n) n := ⟨.inl rfl, h⟩
theorem fw_zero : Fw 0 0 := ⟨.inl (by decide), by decide⟩
theorem fw_read {x : Nat} {n : Int} (h : Fw x n) : ∃ (s : Bool) (m i : Nat), double.read x = .number s m (-(fq : Int) + i) ∧ signed s m i = n * 2 ^ fq ∧ (n ≠ 0 → fq ≤ i + i) := by
 rcases h.eq with rfl | ⟨rfl, rfl⟩
 ·by_cases h0 : n = 0
  ·obtain ⟨m, i, h1, h2⟩ := read_int n h.lt
   exact ⟨_, m, i, h1, h2, fun hn => absurd h0 hn⟩
  ·have hnn : n.natAbs ≠ 0 := by omega
   have hc := near_canon (decide (n < 0)) n.natAbs fq n.natAbs rfl hnn h.lt
   rw [show (-(fq : Int) + (fq : Int)) = 0 by omega] at hc
   obtain ⟨m, i, h1, h2⟩ := read_int n h.lt
   rw [ofInt_eq, hc, read_rung _ _ hnn h.lt] at h1
   injection h1 with e1 e2 e3
   refine ⟨_, _, _, by rw [ofInt_eq, hc]; exact read_rung _ _ hnn h.lt, ?_, fun _ => by have := fq_eq; omega⟩
   have e4 : n.natAbs.log2 + 1022 = i := by omega
   rw [e4, e2]
   exact h2
 ·refine ⟨true, 0, 0, by decide, ?_, fun hn => absurd rfl hn⟩
  rw [signed_eq]
  simp
theorem fw_near (s : Bool) (m i : Nat) (n : Int) (h : signed s m i = n * 2 ^ fq) (hn : n.natAbs < 2 ^ 53) : Fw (double.nearest s m (-(fq : Int) + i)) n := by
 by_cases h0 : n = 0
 ·subst h0
  have hm : m = 0 := by
   have hp : (0 : Int) < 2 ^ i := two_pow_posI i
   rw [signed_eq, Int.zero_mul] at h
   have h1 : (m : Int) * 2 ^ i = 0 := by cases s <;> simp only [Bool.false_eq_true, if_false, if_true] at h <;> omega
   rcases Int.mul_eq_zero.1 h1 with h2 | h2
   ·exact_mod_cast h2
   ·omega
  subst hm
  refine ⟨?_, hn⟩
  cases s
  ·left; simp [Format.nearest, Format.word, ofInt_zero]
  ·right; exact ⟨rfl, by simp [Format.nearest, Format.word, signW_eq]⟩
 ·exact ⟨.inl (near_int s m i n h hn (fun hz => absurd hz h0)), hn⟩
theorem sum_near (s t : Bool) (m n i j : Nat) (a b : Int) (h1 : signed s m i = a * 2 ^ fq) (h2 : signed t n j = b * 2 ^ fq) (hn : (a + b).natAbs < 2 ^ 53) :
  ∃ z, ((Datum.number s m (-(fq : Int) + i)).sum (Datum.number t n (-(fq : Int) + j))).map double.write = some z ∧ Fw z (a + b) := by
 refine ⟨_, rfl, ?_⟩
 show Fw (double.nearest (if signed s m _ + signed t n _ = 0 then s && t else decide (signed s m _ + signed t n _ < 0)) (signed s m _ + signed t n _).natAbs _) _
 rw [place_sub, place_sub', place_min]
 have ht : (signed s m (i - min i j) + signed t n (j - min i j)) * 2 ^ (min i j) = (a + b) * 2 ^ fq := by
  rw [Int.add_mul, signed_scale _ _ _ _ (Nat.min_le_left i j), signed_scale _ _ _ _ (Nat.min_le_right i j), h1, h2, Int.add_mul]
 generalize signed s m (i - min i j) + signed t n (j - min i j) = T at ht
 refine fw_near _ _ _ _ ?_ hn
 rw [signed_eq, ← ht, ← Int.mul_assoc]
 congr 1
 by_cases h : T = 0
 ·simp [h]
 ·by_cases hlt : T < 0
  ·simp [h, hlt]; omega
  ·simp [h, hlt]; omega
theorem Fw.add {x y : Nat} {a b : Int} (hx : Fw x a) (hy : Fw y b) (h : (a + b).natAbs < 2 ^ 53) : ∃ z, double.add x y = some z ∧ Fw z (a + b) := by
 obtain ⟨s, m, i, r1, e1, _⟩ := fw_read hx
 obtain ⟨t, n, j, r2, e2, _⟩ := fw_read hy
 unfold Format.add
 rw [r1, r2]
 exact sum_near s t m n i j a b e1 e2 h
theorem Fw.sub {x y : Nat} {a b : Int} (hx : Fw x a) (hy : Fw y b) (h : (a - b).natAbs < 2 ^ 53) : ∃ z, double.sub x y = some z ∧ Fw z (a - b) := by
 obtain ⟨s, m, i, r1, e1, _⟩ := fw_read hx
 obtain ⟨t, n, j, r2, e2, _⟩ := fw_read hy
 unfold Format.sub
 rw [r1, r2]
 have e3 : signed (!t) n j = (-b) * 2 ^ fq := by
  rw [Int.neg_mul, ← e2, signed_eq, signed_eq]
  cases t <;> simp
 have := sum_near s (!t) m n i j a (-b) e1 e3 (by rw [← Int.sub_eq_add_neg]; exact h)
 rw [← Int.sub_eq_add_neg] at this
 exact this
theorem Fw.mul {x y : Nat} {a b : Int} (hx : Fw x a) (hy : Fw y b) (h : (a * b).natAbs < 2 ^ 53) : ∃ z, double.mul x y = some z ∧ Fw z (a * b) := by
 obtain ⟨s, m, i, r1, e1, g1⟩ := fw_read hx
 obtain ⟨t, n, j, r2, e2, g2⟩ := fw_read hy
 unfold Format.mul
 rw [r1, r2]
 refine ⟨_, rfl, ?_⟩
 show Fw (double.nearest (s ^^ t) (m * n) (-(fq : Int) + (i : Int) + (-(fq : Int) + (j : Int)))) _
 by_cases h0 : a * b = 0
 ·have hmn : m * n = 0 := by
   have hp : ∀ k : Nat, (0 : Int) < 2 ^ k := two_pow_posI
   have z : ∀ {u : Bool} {p k : Nat} {c : Int}, signed u p k = c * 2 ^ fq → c = 0 → p = 0 := fun {u p k c} e hc => by
    rw [hc, signed_eq, Int.zero_mul] at e
    have h1 : (p : Int) * 2 ^ k = 0 := by cases u <;> simp only [Bool.false_eq_true, if_false, if_true] at e <;> omega
    rcases Int.mul_eq_zero.1 h1 with h2 | h2
    ·exact_mod_cast h2
    ·have := hp k; omega
   rcases Int.mul_eq_zero.1 h0 with e | e
   ·rw [z e1 e, Nat.zero_mul]
   ·rw [z e2 e, Nat.mul_zero]
  rw [hmn, h0]
  refine ⟨?_, by decide⟩
  cases (s ^^ t)
  ·left; simp [Format.nearest, Format.word, ofInt_zero]
  ·right; exact ⟨rfl, by simp [Format.nearest, Format.word, signW_eq]⟩
 ·have ha : a ≠ 0 := fun e => h0 (by rw [e, Int.zero_mul])
  have hb : b ≠ 0 := fun e => h0 (by rw [e, Int.mul_zero])
  have g3 := g1 ha
  have g4 := g2 hb
  have hij : fq ≤ i + j := by omega
  rw [show (-(fq : Int) + (i : Int) + (-(fq : Int) + (j : Int))) = -(fq : Int) + ((i + j - fq : Nat) : Int) by omega]
  refine fw_near _ _ _ _ ?_ h
  have hq : (2 : Int) ^ fq ≠ 0 := by have := two_pow_posI fq; omega
  refine Int.eq_of_mul_eq_mul_right hq ?_
  rw [signed_eq] at e1 e2 ⊢
  have e5 : ((m * n : Nat) : Int) * 2 ^ (i + j - fq) * 2 ^ fq = ((m : Int) * 2 ^ i) * ((n : Int) * 2 ^ j) := by
   rw [Int.mul_assoc, ← Int.pow_add, Nat.sub_add_cancel hij, Int.pow_add, Int.natCast_mul]
   simp only [Int.mul_assoc, Int.mul_left_comm]
  have e6 : (if (s ^^ t) = true then (-1 : Int) else 1) = (if s = true then -1 else 1) * (if t = true then -1 else 1) := by cases s <;> cases t <;> rfl
  rw [Int.mul_assoc, e5, e6]
  rw [show a * b * 2 ^ fq * 2 ^ fq = (a * 2 ^ fq) * (b * 2 ^ fq) by simp only [Int.mul_assoc, Int.mul_left_comm, Int.mul_comm], ← e1, ← e2]
  simp only [Int.mul_assoc, Int.mul_left_comm]
def stepW (p : Int × Int) (b : UInt8) : Int × Int := (-p.2 + b.toNat + 1, p.1)
def walkL (l : List UInt8) (p : Int × Int) : Int × Int := l.foldl stepW p
def walkF (key : List UInt8) : Int × Int := walkL (key.take 32) (0, 0)
def rot (p : Int × Int) : Int × Int := (-p.2, p.1)
def addP (p q : Int × Int) : Int × Int := (p.1 + q.1, p.2 + q.2)
theorem walk_cons (b : UInt8) (l : List UInt8) (p : Int × Int) : walkL (b :: l) p = walkL l (stepW p b) := rfl
theorem walk_app (a b : List UInt8) (p : Int × Int) : walkL (a ++ b) p = walkL b (walkL a p) := List.foldl_append
theorem walk_snoc (l : List UInt8) (b : UInt8) (p : Int × Int) : walkL (l ++ [b]) p = stepW (walkL l p) b := by rw [walk_app]; rfl
theorem walk_bound (l : List UInt8) : ∀ p : Int × Int, ∀ k : Nat, p.1.natAbs ≤ k → p.2.natAbs ≤ k → (walkL l p).1.natAbs ≤ k + 256 * l.length ∧ (walkL l p).2.natAbs ≤ k + 256 * l.length := by
 induction l with
 | nil => intro p k h1 h2; exact ⟨h1, h2⟩
 | cons b l ih =>
  intro p k h1 h2
  have hb : b.toNat < 256 := UInt8.toNat_lt b
  have := ih (stepW p b) (k + 256) (by unfold stepW; simp only; omega) (by unfold stepW; simp only; omega)
  rw [walk_cons, List.length_cons]
  omega
theorem walkF_bound (key : List UInt8) : (walkF key).1.natAbs ≤ 8192 ∧ (walkF key).2.natAbs ≤ 8192 := by
 have := walk_bound (key.take 32) (0, 0) 0 (by decide) (by decide)
 have hl : (key.take 32).length ≤ 32 := by rw [List.length_take]; omega
 unfold walkF
 omega
def keyB (key : List UInt8) : Bool := decide (1 ≤ key.length) && decide (key.length ≤ 32)
def shardF (key : List UInt8) (n : Int) : Int × Int :=
 if keyB key = true ∧ 1 ≤ n ∧ n ≤ 8 then ((3 * (walkF key).1 + 5 * (walkF key).2) % n, 0) else (0, 1)
theorem shard_range (key : List UInt8) (n : Int) : (shardF key n).2 = 0 → 0 ≤ (shardF key n).1 ∧ (shardF key n).1 < n := by
 unfold shardF
 split
 ·rename_i h
  intro _
  exact ⟨Int.emod_nonneg _ (by omega), Int.emod_lt_of_pos _ (by omega)⟩
 ·intro h
  simp at h
theorem shard_code (key : List UInt8) (n : Int) : (shardF key n).2 = 0 ∧ (keyB key = true ∧ 1 ≤ n ∧ n ≤ 8) ∨ (shardF key n) = (0, 1) ∧ ¬ (keyB key = true ∧ 1 ≤ n ∧ n ≤ 8) := by
 unfold shardF
 by_cases h : keyB key = true ∧ 1 ≤ n ∧ n ≤ 8
 ·rw [if_pos h]; exact .inl ⟨rfl, h⟩
 ·rw [if_neg h]; exact .inr ⟨rfl, h⟩
theorem rem_up (a n : Int) (h : 1 ≤ n) : (if a.tmod n < 0 then a.tmod n + n else a.tmod n) = a % n := by
 have h1 := Int.tmod_eq_emod (a := a) (b := n)
 have h2 := Int.emod_nonneg a (show n ≠ 0 by omega)
 have h3 := Int.emod_lt_of_pos a (show 0 < n by omega)
 rw [h1]
 have h4 : (n.natAbs : Int) = n := by omega
 split <;> split <;> omega
open Go.RowKit Go.Sort
theorem bs_get (l : List UInt8) (i : Nat) (h : i < l.length) (hx : i < (bs l).size) : (bs l)[i]'hx = l.getD i 0 := by
 show (bs l).data[i] = _
 simp [bs, List.getD, h]
theorem w64 {n : Int} (h0 : -9223372036854775808 ≤ n) (h1 : n ≤ 9223372036854775807) : wrap64 n = n := by
 unfold wrap64
 omega
theorem walk_take {l : List UInt8} {m : Nat} (h : m < l.length) : walkL (l.take (m + 1)) (0, 0) = stepW (walkL (l.take m) (0, 0)) (l.getD m 0) := by
 rw [List.take_succ_eq_append_getElem h, walk_snoc]
 congr 1
 simp [List.getD, h]
structure Cw (x y : Nat) (p : Int × Int) : Prop where
 re : Fw x p.1
 im : Fw y p.2
theorem sum_bits {x y c d : Nat} {p q : Int × Int} (h : Cw x y p) (k : Cw c d q) (hp : (p.1 + q.1).natAbs < 2 ^ 53) (hq : (p.2 + q.2).natAbs < 2 ^ 53) : ∃ e f, cSumBits .add .f64 x y c d = some (e, f) ∧ Cw e f (addP p q) := by
 obtain ⟨e, h1, f1⟩ := h.re.add k.re hp
 obtain ⟨f, h2, f2⟩ := h.im.add k.im hq
 refine ⟨e, f, ?_, f1, f2⟩
 show ((Ieee.double.add x c).bind fun re => (Ieee.double.add y d).bind fun im => some (re, im)) = _
 rw [h1, h2]
 rfl
theorem fw_one : Fw 4607182418800017408 1 := ⟨.inl (by decide), by decide⟩
theorem turn_bits {x y : Nat} {p : Int × Int} (h : Cw x y p) : ∃ e f, cMulBits x y 0 4607182418800017408 = some (e, f) ∧ Cw e f (rot p) := by
 have b1 := h.re.lt
 have b2 := h.im.lt
 obtain ⟨ac, h1, f1⟩ := h.re.mul fw_zero (by rw [Int.mul_zero]; decide)
 obtain ⟨bd, h2, f2⟩ := h.im.mul fw_one (by rw [Int.mul_one]; exact b2)
 obtain ⟨re, h3, f3⟩ := f1.sub f2 (by rw [Int.mul_zero, Int.mul_one]; omega)
 obtain ⟨ad, h4, f4⟩ := h.re.mul fw_one (by rw [Int.mul_one]; exact b1)
 obtain ⟨bc, h5, f5⟩ := h.im.mul fw_zero (by rw [Int.mul_zero]; decide)
 obtain ⟨im, h6, f6⟩ := f4.add f5 (by rw [Int.mul_zero, Int.mul_one]; omega)
 refine ⟨re, im, ?_, ?_⟩
 ·show ((Ieee.double.mul x 0).bind fun ac => (Ieee.double.mul y 4607182418800017408).bind fun bd => (Ieee.double.sub ac bd).bind fun re => (Ieee.double.mul x 4607182418800017408).bind fun ad => (Ieee.double.mul y 0).bind fun bc => (Ieee.double.add ad bc).bind fun im => some (re, im)) = _
  rw [h1, h2]
  simp only [Option.bind_some]
  rw [h3, h4, h5]
  simp only [Option.bind_some]
  rw [h6]
  rfl
 ·rw [Int.mul_zero, Int.mul_one, Int.zero_sub] at f3
  rw [Int.mul_zero, Int.mul_one, Int.add_zero] at f6
  exact ⟨f3, f6⟩
section
variable {P : Program}
end
theorem block_cell {w : World} {b j : Nat} {cs : Array Value} {ty : TypeId} {u : Value} (h : w.heap[b]? = some (.cells cs ty (0, 0))) (hj : cs[j]? = some u) : w.cell? ⟨b, j, none⟩ = some u := by
 unfold World.cell?
 rw [h]
 exact hj
def ownF (l : List Wr) (n k : Int) : List Wr := l.filter fun x => shardF x.key n == (k, 0)
def splitF (l : List Wr) (n : Int) : List (List Wr) := if 1 ≤ n ∧ n ≤ 8 then (List.range n.toNat).map (fun k : Nat => ownF l n (k : Int)) else []
def bitsF : Nat → List (List Wr) → Nat
 | _, [] => 0
 | m, r :: L => (if r.isEmpty then 0 else 2 ^ m) ||| bitsF (m + 1) L
def bitsL (L : List (List Wr)) : Nat := bitsF 0 L
theorem bits_lt (L : List (List Wr)) : ∀ m, bitsF m L < 2 ^ (m + L.length) := by
 induction L with
 | nil => intro m; exact Nat.two_pow_pos _
 | cons r L ih =>
  intro m
  unfold bitsF
  rw [List.length_cons]
  have h1 := ih (m + 1)
  rw [show m + 1 + L.length = m + (L.length + 1) by omega] at h1
  refine Nat.or_lt_two_pow ?_ h1
  split
  ·exact Nat.two_pow_pos _
  ·exact Nat.pow_lt_pow_right (by decide) (by omega)
theorem bitsL_lt {L : List (List Wr)} (h : L.length ≤ 8) : bitsL L < 256 := by
 have := bits_lt L 0
 rw [Nat.zero_add] at this
 exact Nat.lt_of_lt_of_le this (show 2 ^ L.length ≤ 2 ^ 8 from Nat.pow_le_pow_right (by decide) h)
theorem split_len (l : List Wr) (n : Int) : (splitF l n).length ≤ 8 := by
 unfold splitF
 split
 ·simp; omega
 ·simp
def SsAt (v : Value) (L : List (List Wr)) (W : World) : Prop :=
 ∃ vs : List Value, vs.length = L.length ∧ RwAt W.heap.size 1 v L.length vs W ∧ ∀ i, i < L.length → WsAt W.heap.size (vs.getD i sy) (L.getD i []) W
def partS (n : Int) (P : Nat) (x : Wr) : Nat := if (shardF x.key n).2 = 0 then P ||| 2 ^ (shardF x.key n).1.toNat else P
def partsF (l : List Wr) (n : Int) : Nat := l.foldl (partS n) 0
theorem parts_step {l : List Wr} {n : Int} {m : Nat} (h : m < l.length) : partsF (l.take (m + 1)) n = partS n (partsF (l.take m) n) (l.getD m dw) := by
 unfold partsF
 rw [List.take_succ_eq_append_getElem h, List.foldl_append, show l.getD m dw = l[m] from by simp [List.getD, h]]
 rfl
theorem bits_test (L : List (List Wr)) : ∀ m i, (bitsF m L).testBit i = (decide (m ≤ i) && decide (i < m + L.length) && !(L.getD (i - m) []).isEmpty) := by
 induction L with
 | nil => intro m i; simp [bitsF]
 | cons r L ih =>
  intro m i
  unfold bitsF
  rw [Nat.testBit_or, ih]
  by_cases h : i = m
  ·subst h
   have h9 : ¬ i + 1 ≤ i := by omega
   cases r with
   | nil => simp [h9]
   | cons a t => simp
  ·have h1 : (if r.isEmpty = true then 0 else 2 ^ m).testBit i = false := by
    split
    ·simp
    ·rw [Nat.testBit_two_pow]; simp; omega
   rw [h1, Bool.false_or]
   by_cases hlt : m ≤ i
   ·have e : i - m = (i - (m + 1)) + 1 := by omega
    have hm : m + 1 ≤ i := by omega
    rw [e, List.getD_cons_succ, List.length_cons]
    simp only [hlt, hm, decide_true, Bool.true_and]
    have e2 : decide (i < m + 1 + L.length) = decide (i < m + (L.length + 1)) := by
     rw [decide_eq_decide]
     omega
    rw [e2]
   ·have : ¬ m + 1 ≤ i := by omega
    simp [hlt, this]
theorem part_test (n : Int) (P : Nat) (x : Wr) (i : Nat) : (partS n P x).testBit i = (P.testBit i || decide (shardF x.key n = ((i : Int), 0))) := by
 unfold partS
 have hr := shard_range x.key n
 generalize shardF x.key n = u at *
 obtain ⟨a, b⟩ := u
 dsimp only at *
 by_cases hb : b = 0
 ·subst hb
  obtain ⟨h0, _⟩ := hr rfl
  rw [if_pos rfl, Nat.testBit_or, Nat.testBit_two_pow]
  congr 1
  simp only [Prod.mk.injEq, and_true, decide_eq_decide]
  omega
 ·rw [if_neg hb]
  simp [hb]
theorem parts_test (l : List Wr) (n : Int) (i : Nat) : ∀ P, (l.foldl (partS n) P).testBit i = (P.testBit i || l.any fun x => decide (shardF x.key n = ((i : Int), 0))) := by
 induction l with
 | nil => intro P; simp
 | cons x l ih =>
  intro P
  rw [List.foldl_cons, ih, part_test, List.any_cons, Bool.or_assoc]
theorem parts_bits (l : List Wr) (n : Int) : partsF l n = bitsL (splitF l n) := by
 apply Nat.eq_of_testBit_eq
 intro i
 unfold partsF bitsL
 rw [parts_test, bits_test, Nat.zero_testBit, Bool.false_or, Nat.zero_add, Nat.sub_zero]
 unfold splitF
 by_cases hn : 1 ≤ n ∧ n ≤ 8
 ·rw [if_pos hn]
  by_cases hi : i < n.toNat
  ·have e : ((List.range n.toNat).map (fun k : Nat => ownF l n (k : Int))).getD i [] = ownF l n (i : Int) := by simp [List.getD, hi]
   rw [e]
   simp only [Nat.zero_le, decide_true, Bool.true_and, List.length_map, List.length_range, hi]
   unfold ownF
   rw [Bool.eq_iff_iff]
   simp only [List.any_eq_true, decide_eq_true_eq, Bool.not_eq_true', List.isEmpty_eq_false_iff, ne_eq, List.filter_eq_nil_iff, beq_iff_eq]
   constructor
   ·rintro ⟨x, hx, h⟩ hall
    exact hall x hx h
   ·intro h
    exact Classical.byContradiction fun hc => h fun x hx hs => hc ⟨x, hx, hs⟩
  ·simp only [List.length_map, List.length_range, hi, decide_false, Bool.and_false, Bool.false_and]
   rw [List.any_eq_false]
   intro x _
   simp only [decide_eq_true_eq]
   intro hs
   have := shard_range x.key n (by rw [hs])
   rw [hs] at this
   dsimp only at this
   omega
 ·rw [if_neg hn]
  simp only [List.length_nil, Nat.not_lt_zero, decide_false, Bool.and_false, Bool.false_and]
  rw [List.any_eq_false]
  intro x _
  simp only [decide_eq_true_eq]
  intro hs
  unfold shardF at hs
  rw [if_neg (fun h => hn h.2)] at hs
  simp at hs
theorem parts_lt (l : List Wr) (n : Int) : partsF l n < 256 := by
 rw [parts_bits]
 exact bitsL_lt (split_len l n)
end Go.Proofs.YtkdkgdollmmcnaaGreat.Pla
