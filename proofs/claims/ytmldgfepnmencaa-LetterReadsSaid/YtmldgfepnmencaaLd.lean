/-
  Boxes, rows of writes, pairs and transactions; stamps, keys and values: are they right?
-/
import Derived.Test.YtmldgfepnmencaaLt
import Derived.Test.YtmldgfepnmencaaGr
import Derived.Test.YtmldgfepnmencaaRefWr
import Derived.BigQuiet
import Derived.Shelf.Abstract
namespace Go.Proofs.Ytmldgfepnmencaa
open Go.RowKit Go.Shelf

theorem block_set {w : World} {b j : Nat} {cs : Array Value} {ty : TypeId} (u : Value) (h : w.heap[b]? = some (.cells cs ty (0, 0))) : (w.setCell ⟨b, j, none⟩ u).heap[b]? = some (.cells (cs.setIfInBounds j u) ty (0, 0)) := by
  show (w.heap.modify b _)[b]? = _
  rw [Array.getElem?_modify, if_pos rfl, h]
  rfl
theorem block_cell {w : World} {b j : Nat} {cs : Array Value} {ty : TypeId} {u : Value} (h : w.heap[b]? = some (.cells cs ty (0, 0))) (hj : cs[j]? = some u) : w.cell? ⟨b, j, none⟩ = some u := by
  unfold World.cell?
  rw [h]
  exact hj
theorem block_frozen {w : World} {b : Nat} {cs : Array Value} {ty : TypeId} (h : w.heap[b]? = some (.cells cs ty (0, 0))) (j : Nat) : w.frozen? ⟨b, j, none⟩ = false := by
  unfold World.frozen?
  rw [h]
  simp
theorem set_kept' (w : World) (b j : Nat) (u : Value) : Kept (fun c => c = b) w (w.setCell ⟨b, j, none⟩ u) := by
  have hb : Below b w (w.setCell ⟨b, j, none⟩ u) := (Below.refl b w).setCell (p := ⟨b, j, none⟩) (Nat.le_refl b) u
  exact ⟨hb.os, hb.tape, hb.output, hb.size, fun k _ hF => Below.heap_setCell w ⟨b, j, none⟩ u k hF⟩
theorem below_own {base e size : Nat} {v : Value} {n : Nat} {cs : List Value} {a w w' : World} (hb : Below base a w) (hs : base ≤ w.heap.size) (hI : w.ownsRow base e size v n cs) (hg : w.grownBy w' v.ownBlock) : Below base a w' :=
  hb.grown hg hs fun k hk => (World.ownsRow.lt hI k hk).1
theorem own_nil (base e size : Nat) (w : World) : w.ownsRow base e size (.slice none 0 0) 0 [] := World.ownsRow_nil w base e size
theorem below_of {a b : Nat} {w w' : World} (e : a = b) (h : Below a w w') : Below b w w' := e ▸ h
theorem size_al (w : World) (o : Obj) : (w.alloc o).heap.size = w.heap.size + 1 := by simp
theorem ret_bool {a b : Bool} (h : a = b) : Ending.returned (.bool a) = .returned (.bool b) := by rw [h]
def rightB (p l : Int) : Bool := decide (p ≤ 281474976710656 ∧ l ≤ 4095)

set_option maxHeartbeats 400000 in
set_option maxRecDepth 100000 in
theorem rightR (p l : Int) (w : World) :
    Calls Try.prog 75 #[.agg #[.int .u64 p, .int .u32 l]] w fun e w' => e = .returned (.bool (rightB p l)) ∧ Below w.heap.size w w' := by
  by_cases h1 : p ≤ 281474976710656 <;> by_cases h2 : l ≤ 4095
  all_goals
    go_enter Try.func75, Try.ntmps75
    go_wp2
    go_ret
    exact ⟨ret_bool (by simp [rightB, h1, h2]), (Below.refl _ _).alloc (Nat.le_refl _) _⟩

set_option maxHeartbeats 400000 in
set_option maxRecDepth 100000 in
theorem rightP (p l : Int) (w : World) :
    Calls Try.prog 55 #[.agg #[.int .u64 p, .int .u32 l]] w fun e w' => e = .returned (.bool (rightB p l)) ∧ Below w.heap.size w w' := by
  by_cases h1 : p ≤ 281474976710656 <;> by_cases h2 : l ≤ 4095
  all_goals
    go_enter Try.func55, Try.ntmps55
    go_wp2
    go_ret
    exact ⟨ret_bool (by simp [rightB, h1, h2]), (Below.refl _ _).alloc (Nat.le_refl _) _⟩

theorem rightB_S (p l : Nat) : rightB p l = rightS p l := by
  rw [Bool.eq_iff_iff]
  simp only [rightB, rightS, Bool.and_eq_true, decide_eq_true_eq]
  omega
theorem nat_beq (a b : Nat) : ((a : Int) == (b : Int)) = (a == b) := by
  rw [Bool.eq_iff_iff]
  simp only [beq_iff_eq]
  omega
theorem run_eql24 (p l q m : Nat) (w : World) : (binOp .eql 24 (.agg #[.int .u32 (p : Int), .int .u32 (l : Int)]) (.agg #[.int .u32 (q : Int), .int .u32 (m : Int)])).run Try.prog w = .ok (.bool (p == q && l == m)) w := by
  rw [← nat_beq p q, ← nat_beq l m]
  generalize (p : Int) = p
  generalize (l : Int) = l
  generalize (q : Int) = q
  generalize (m : Int) = m
  by_cases h : p = q <;> by_cases h2 : l = m <;> simp [go_sem, h, h2]
theorem run_eql27 (p l q m : Nat) (w : World) : (binOp .eql 27 (.agg #[.int .u64 (p : Int), .int .u32 (l : Int)]) (.agg #[.int .u64 (q : Int), .int .u32 (m : Int)])).run Try.prog w = .ok (.bool (p == q && l == m)) w := by
  rw [← nat_beq p q, ← nat_beq l m]
  generalize (p : Int) = p
  generalize (l : Int) = l
  generalize (q : Int) = q
  generalize (m : Int) = m
  by_cases h : p = q <;> by_cases h2 : l = m <;> simp [go_sem, h, h2]
theorem run_neq24 (a b : Tn) (w : World) : (binOp .neq 24 (.agg #[.int .u32 (a.c : Int), .int .u32 (a.n : Int)]) (.agg #[.int .u32 (b.c : Int), .int .u32 (b.n : Int)])).run Try.prog w = .ok (.bool (!eqT a b)) w := by
  obtain ⟨p, l⟩ := a
  obtain ⟨q, m⟩ := b
  simp only [eqT]
  rw [← nat_beq p q, ← nat_beq l m]
  generalize (p : Int) = p
  generalize (l : Int) = l
  generalize (q : Int) = q
  generalize (m : Int) = m
  by_cases h : p = q <;> by_cases h2 : l = m <;> simp [go_sem, h, h2]
theorem run_neq65 (a b : Wr) (w : World) : (binOp .neq 65 (.agg #[.string (bs a.key), .string (bs a.val), .bool a.dead]) (.agg #[.string (bs b.key), .string (bs b.val), .bool b.dead])).run Try.prog w = .ok (.bool (!eqW a b)) w := by
  obtain ⟨k, v, d⟩ := a
  obtain ⟨k', v', d'⟩ := b
  simp only [eqW]
  simp [go_sem, bs_list]
  repeat' split
  all_goals simp_all
theorem run_neq67 (a b : Pr) (w : World) : (binOp .neq 67 (.agg #[.string (bs a.key), .string (bs a.val)]) (.agg #[.string (bs b.key), .string (bs b.val)])).run Try.prog w = .ok (.bool (!eqP a b)) w := by
  obtain ⟨k, v⟩ := a
  obtain ⟨k', v'⟩ := b
  simp only [eqP]
  simp [go_sem, bs_list]
  repeat' split
  all_goals simp_all
/-- A box of a call's own. -/
structure Bx (w : World) (b : Nat) (cs : Array Value) (ty : TypeId) (W : World) : Prop where
  bel : Below w.heap.size w W
  x : W.heap[b]? = some (.cells cs ty (0, 0))
theorem Bx.on {w W W' : World} {b : Nat} {cs : Array Value} {ty : TypeId} (h : Bx w b cs ty W) (hb : Below W.heap.size W W') : Bx w b cs ty W' :=
  ⟨h.bel.trans (hb.mono h.bel.size), by rw [hb.block _ (Array.getElem?_eq_some_iff.1 h.x).1]; exact h.x⟩
theorem Bx.dr {w W : World} {b : Nat} {cs : Array Value} {ty : TypeId} (h : Bx w b cs ty W) : Bx w b cs ty W.drew := h.on (Below.refl _ _).drew
theorem bx_new (w : World) (cs : Array Value) (ty : TypeId) : Bx w w.heap.size cs ty (w.alloc (.cells cs ty)) := ⟨al _, heap_alloc_new w _⟩
def wrc (x : Wr) : List Value := [.string (bs x.key), .string (bs x.val), .bool x.dead]
theorem wrc_len (x : Wr) : (wrc x).length = 3 := rfl
theorem wrc_one : ∀ x, ∀ u ∈ wrc x, u.oneCell' = true := fun x u hu => by
  simp only [wrc, List.mem_cons, List.not_mem_nil, or_false] at hu
  rcases hu with rfl | rfl | rfl <;> rfl
def dw : Wr := ⟨[], [], false⟩
structure WtAt (w : World) (b off : Nat) (x : Wr) : Prop where
  c0 : w.cell? ⟨b, off, none⟩ = some (.string (bs x.key))
  c1 : w.cell? ⟨b, off + 1, none⟩ = some (.string (bs x.val))
  c2 : w.cell? ⟨b, off + 2, none⟩ = some (.bool x.dead)
def WsAt (B : Nat) (v : Value) (L : List Wr) (w : World) : Prop := RwAt B 3 v L.length (rowC wrc L) w
theorem WsAt.el {B : Nat} {ao : Option Addr} {cap : Nat} {L : List Wr} {w : World} (h : WsAt B (.slice ao L.length cap) L w) {i : Nat} (hi : i < L.length) : ∃ b off, ao = some ⟨b, off, none⟩ ∧ WtAt w b (off + i * 3) (L.getD i dw) := by
  obtain ⟨b, off, e, hc⟩ := rowC_el wrc_len dw (by omega) rfl h hi
  exact ⟨b, off, e, hc 0 _ (by omega) rfl, hc 1 _ (by omega) rfl, hc 2 _ (by omega) rfl⟩
theorem WsAt.shape {B : Nat} {v : Value} {L : List Wr} {w : World} (h : WsAt B v L w) : ∃ ao cap, v = .slice ao L.length cap ∧ L.length ≤ cap ∧ cap ≤ 9223372036854775807 := by
  obtain ⟨ao, cap, e, _, h1, h2, _⟩ := h
  exact ⟨ao, cap, e, h1, h2⟩
theorem WsAt.cap {B : Nat} {ao : Option Addr} {cap : Nat} {L : List Wr} {w : World} (h : WsAt B (.slice ao L.length cap) L w) : L.length ≤ cap ∧ cap ≤ 9223372036854775807 := by
  obtain ⟨ao', cap', e, _, h1, h2, _⟩ := h
  simp only [Value.slice.injEq, true_and] at e
  obtain ⟨rfl, rfl⟩ := e
  exact ⟨h1, h2⟩
theorem WsAt.on {B : Nat} {v : Value} {L : List Wr} {w w' : World} (h : WsAt B v L w) (hb : Below B w w') : WsAt B v L w' := RwAt.on h hb
theorem WsAt.le {B B' : Nat} {v : Value} {L : List Wr} {w : World} (h : WsAt B v L w) (hb : B ≤ B') : WsAt B' v L w := RwAt.le h hb
theorem getD_memWr {L : List Wr} {i : Nat} (h : i < L.length) : L.getD i dw ∈ L := by
  rw [List.getD, List.getElem?_eq_getElem h]
  exact List.getElem_mem h
def tnc (x : Tn) : List Value := [.int .u32 (x.c : Int), .int .u32 (x.n : Int)]
theorem tnc_len (x : Tn) : (tnc x).length = 2 := rfl
theorem tnc_one : ∀ x, ∀ u ∈ tnc x, u.oneCell' = true := fun x u hu => by
  simp only [tnc, List.mem_cons, List.not_mem_nil, or_false] at hu
  rcases hu with rfl | rfl <;> rfl
def dt : Tn := ⟨0, 0⟩
structure TtAt (w : World) (b off : Nat) (x : Tn) : Prop where
  c0 : w.cell? ⟨b, off, none⟩ = some (.int .u32 (x.c : Int))
  c1 : w.cell? ⟨b, off + 1, none⟩ = some (.int .u32 (x.n : Int))
def TsAt (B : Nat) (v : Value) (L : List Tn) (w : World) : Prop := RwAt B 2 v L.length (rowC tnc L) w
theorem TsAt.el {B : Nat} {ao : Option Addr} {cap : Nat} {L : List Tn} {w : World} (h : TsAt B (.slice ao L.length cap) L w) {i : Nat} (hi : i < L.length) : ∃ b off, ao = some ⟨b, off, none⟩ ∧ TtAt w b (off + i * 2) (L.getD i dt) := by
  obtain ⟨b, off, e, hc⟩ := rowC_el tnc_len dt (by omega) rfl h hi
  exact ⟨b, off, e, hc 0 _ (by omega) rfl, hc 1 _ (by omega) rfl⟩
theorem TsAt.shape {B : Nat} {v : Value} {L : List Tn} {w : World} (h : TsAt B v L w) : ∃ ao cap, v = .slice ao L.length cap ∧ L.length ≤ cap ∧ cap ≤ 9223372036854775807 := by
  obtain ⟨ao, cap, e, _, h1, h2, _⟩ := h
  exact ⟨ao, cap, e, h1, h2⟩
theorem TsAt.cap {B : Nat} {ao : Option Addr} {cap : Nat} {L : List Tn} {w : World} (h : TsAt B (.slice ao L.length cap) L w) : L.length ≤ cap ∧ cap ≤ 9223372036854775807 := by
  obtain ⟨ao', cap', e, _, h1, h2, _⟩ := h
  simp only [Value.slice.injEq, true_and] at e
  obtain ⟨rfl, rfl⟩ := e
  exact ⟨h1, h2⟩
theorem TsAt.on {B : Nat} {v : Value} {L : List Tn} {w w' : World} (h : TsAt B v L w) (hb : Below B w w') : TsAt B v L w' := RwAt.on h hb
theorem TsAt.le {B B' : Nat} {v : Value} {L : List Tn} {w : World} (h : TsAt B v L w) (hb : B ≤ B') : TsAt B' v L w := RwAt.le h hb
theorem getD_memTn {L : List Tn} {i : Nat} (h : i < L.length) : L.getD i dt ∈ L := by
  rw [List.getD, List.getElem?_eq_getElem h]
  exact List.getElem_mem h
def prc (x : Pr) : List Value := [.string (bs x.key), .string (bs x.val)]
theorem prc_len (x : Pr) : (prc x).length = 2 := rfl
theorem prc_one : ∀ x, ∀ u ∈ prc x, u.oneCell' = true := fun x u hu => by
  simp only [prc, List.mem_cons, List.not_mem_nil, or_false] at hu
  rcases hu with rfl | rfl <;> rfl
def dp : Pr := ⟨[], []⟩
structure PtAt (w : World) (b off : Nat) (x : Pr) : Prop where
  c0 : w.cell? ⟨b, off, none⟩ = some (.string (bs x.key))
  c1 : w.cell? ⟨b, off + 1, none⟩ = some (.string (bs x.val))
def PsAt (B : Nat) (v : Value) (L : List Pr) (w : World) : Prop := RwAt B 2 v L.length (rowC prc L) w
theorem PsAt.el {B : Nat} {ao : Option Addr} {cap : Nat} {L : List Pr} {w : World} (h : PsAt B (.slice ao L.length cap) L w) {i : Nat} (hi : i < L.length) : ∃ b off, ao = some ⟨b, off, none⟩ ∧ PtAt w b (off + i * 2) (L.getD i dp) := by
  obtain ⟨b, off, e, hc⟩ := rowC_el prc_len dp (by omega) rfl h hi
  exact ⟨b, off, e, hc 0 _ (by omega) rfl, hc 1 _ (by omega) rfl⟩
theorem PsAt.shape {B : Nat} {v : Value} {L : List Pr} {w : World} (h : PsAt B v L w) : ∃ ao cap, v = .slice ao L.length cap ∧ L.length ≤ cap ∧ cap ≤ 9223372036854775807 := by
  obtain ⟨ao, cap, e, _, h1, h2, _⟩ := h
  exact ⟨ao, cap, e, h1, h2⟩
theorem PsAt.cap {B : Nat} {ao : Option Addr} {cap : Nat} {L : List Pr} {w : World} (h : PsAt B (.slice ao L.length cap) L w) : L.length ≤ cap ∧ cap ≤ 9223372036854775807 := by
  obtain ⟨ao', cap', e, _, h1, h2, _⟩ := h
  simp only [Value.slice.injEq, true_and] at e
  obtain ⟨rfl, rfl⟩ := e
  exact ⟨h1, h2⟩
theorem PsAt.on {B : Nat} {v : Value} {L : List Pr} {w w' : World} (h : PsAt B v L w) (hb : Below B w w') : PsAt B v L w' := RwAt.on h hb
theorem PsAt.le {B B' : Nat} {v : Value} {L : List Pr} {w : World} (h : PsAt B v L w) (hb : B ≤ B') : PsAt B' v L w := RwAt.le h hb
theorem getD_memPr {L : List Pr} {i : Nat} (h : i < L.length) : L.getD i dp ∈ L := by
  rw [List.getD, List.getElem?_eq_getElem h]
  exact List.getElem_mem h
/-- A request's lists. -/
structure QAt (B : Nat) (q : Rq) (vw vs : Value) (w : World) : Prop where
  ws : WsAt B vw q.ws w
  sk : TsAt B vs q.sk w
theorem QAt.on {B : Nat} {q : Rq} {vw vs : Value} {w w' : World} (h : QAt B q vw vs w) (hb : Below B w w') : QAt B q vw vs w' := ⟨h.ws.on hb, h.sk.on hb⟩
theorem QAt.le {B B' : Nat} {q : Rq} {vw vs : Value} {w : World} (h : QAt B q vw vs w) (hb : B ≤ B') : QAt B' q vw vs w := ⟨h.ws.le hb, h.sk.le hb⟩
theorem QAt.up {q : Rq} {vw vs : Value} {w w' : World} (h : QAt w.heap.size q vw vs w) (hb : Below w.heap.size w w') : QAt w'.heap.size q vw vs w' := (h.on hb).le hb.size
theorem PsAt.up {L : List Pr} {v : Value} {w w' : World} (h : PsAt w.heap.size v L w) (hb : Below w.heap.size w w') : PsAt w'.heap.size v L w' := (h.on hb).le hb.size
theorem WsAt.up {L : List Wr} {v : Value} {w w' : World} (h : WsAt w.heap.size v L w) (hb : Below w.heap.size w w') : WsAt w'.heap.size v L w' := (h.on hb).le hb.size
theorem TsAt.up {L : List Tn} {v : Value} {w w' : World} (h : TsAt w.heap.size v L w) (hb : Below w.heap.size w w') : TsAt w'.heap.size v L w' := (h.on hb).le hb.size
theorem qat_nil (B : Nat) (w : World) : QAt B zQ (.slice none 0 0) (.slice none 0 0) w := ⟨RwAt.nil _ _ _, RwAt.nil _ _ _⟩
theorem pat_nil (B : Nat) (w : World) : PsAt B (.slice none 0 0) [] w := RwAt.nil _ _ _
theorem all_step {α : Type} {L : List α} {P : α → Bool} {d : α} {m : Nat} (h : m < L.length) : (L.drop m).all P = (P (L.getD m d) && (L.drop (m + 1)).all P) := by
  rw [List.drop_eq_getElem_cons h, show L.getD m d = L[m] from by simp [List.getD, h]]
  rfl
theorem eqL_step {α : Type} {f : α → α → Bool} {d : α} : ∀ {a b : List α} {m : Nat}, a.length = b.length → m < a.length → eqL f (a.drop m) (b.drop m) = (f (a.getD m d) (b.getD m d) && eqL f (a.drop (m + 1)) (b.drop (m + 1))) := by
  intro a b m hl hm
  rw [List.drop_eq_getElem_cons hm, List.drop_eq_getElem_cons (show m < b.length by omega), show a.getD m d = a[m] from by simp [List.getD, hm], show b.getD m d = b[m] from by simp [List.getD, show m < b.length by omega]]
  rfl
theorem eqL_len {α : Type} {f : α → α → Bool} (hf : ∀ {a b}, f a b = true ↔ a = b) {a b : List α} (h : a.length ≠ b.length) : eqL f a b = false := by
  cases h1 : eqL f a b with
  | false => rfl
  | true => exact absurd (congrArg List.length ((eqL_iff hf).1 h1)) h

set_option maxHeartbeats 400000 in
set_option maxRecDepth 100000 in
theorem fits53 (k v : List UInt8) (w : World) : Calls Try.prog 53 #[.string (bs k), .string (bs v)] w fun e w' => e = .returned (.bool (fitB k v)) ∧ w = w' := by
  have hk := bs_size k
  have hv := bs_size v
  by_cases h1 : k.length ≤ 32 <;> by_cases h2 : v.length ≤ 256
  · have h1' : (k.length : Int) ≤ 32 := by omega
    have h2' : (v.length : Int) ≤ 256 := by omega
    go_enter Try.func53, Try.ntmps53
    go_wp2
    go_ret
    exact ⟨ret_bool (by simp [fitB, h1, h2]), rfl⟩
  · have h1' : (k.length : Int) ≤ 32 := by omega
    have h2' : ¬ (v.length : Int) ≤ 256 := by omega
    go_enter Try.func53, Try.ntmps53
    go_wp2
    go_ret
    exact ⟨ret_bool (by simp [fitB, h1, h2]), rfl⟩
  all_goals
    have h1' : ¬ (k.length : Int) ≤ 32 := by omega
    go_enter Try.func53, Try.ntmps53
    go_wp2
    go_ret
    exact ⟨ret_bool (by simp [fitB, h1, h2]), rfl⟩
end Go.Proofs.Ytmldgfepnmencaa
