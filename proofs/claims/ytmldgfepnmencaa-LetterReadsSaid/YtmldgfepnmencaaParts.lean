/-
  What a Writer's and a Reader's memory hold, and what a call on one leaves as it was.
-/
import Derived.Test.YtmldgfepnmencaaShelf
import Derived.Test.YtmldgfepnmencaaForm
import Derived.WalkKit
import Derived.WalkSpells
import Derived.WalkLawsBesides
import Derived.Deep.RegionLaw
import Derived.Lib.AppendStr
import Derived.Laws.BytesArg
namespace Go.Proofs.Ytmldgfepnmencaa
open Go.RowKit

theorem info5 : (Try.prog.info? 5).map (fun i => (i.zero, i.size, i.bytes)) = some (some (.int .u8 0), 1, 1) := by kernel_rfl

/-- The Writer in block pb has written l. -/
def WrAt (pb : Nat) (l : List UInt8) (w : World) : Prop :=
  ∃ v, w.heap[pb]? = some (.cells #[v] 52 (0, 0)) ∧ w.ownsRow (pb + 1) 5 1 v l.length (cl l)

/-- Below pb all is as it was; from there on whatever is not the Writer's (its block; rows of bytes). -/
structure KeptW (pb : Nat) (w w' : World) : Prop where
  below : Below pb w w'
  other : ∀ k o, w.heap[k]? = some o → k ≠ pb → (∀ cs fz, o ≠ .cells cs 5 fz) → w'.heap[k]? = some o

theorem KeptW.refl (pb : Nat) (w : World) : KeptW pb w w := ⟨Below.refl _ _, fun _ _ h _ _ => h⟩
theorem KeptW.trans {pb : Nat} {a b c : World} (h : KeptW pb a b) (k : KeptW pb b c) : KeptW pb a c :=
  ⟨h.below.trans k.below, fun i o ho hne h5 => k.other i o (h.other i o ho hne h5) hne h5⟩

theorem own_not {w : World} {base : Nat} {v : Value} {n : Nat} {xs : List Value} (h : w.ownsRow base 5 1 v n xs) {k : Nat} {o : Obj} (ho : w.heap[k]? = some o) (h5 : ∀ cs fz, o ≠ .cells cs 5 fz) : some k ≠ v.ownBlock := by
  rcases h.2 with ⟨rfl, _⟩ | ⟨g, cap, cur, rfl, _, hg, _⟩
  · simp [Value.ownBlock]
  · simp only [Value.ownBlock]
    intro e
    injection e with e
    subst e
    rw [hg] at ho
    injection ho with ho
    exact h5 _ _ ho.symm

theorem own_past {w : World} {pb : Nat} {v : Value} {n : Nat} {xs : List Value} (h : w.ownsRow (pb + 1) 5 1 v n xs) {k : Nat} (hk : k ≤ pb) : some k ≠ v.ownBlock := by
  intro e
  have := h.lt k e.symm
  omega

theorem own_shape {w : World} {base : Nat} {v : Value} {n : Nat} {xs : List Value} (h : w.ownsRow base 5 1 v n xs) : ∃ ao cp, v = .slice ao n cp := by
  rcases h.2 with ⟨rfl, rfl⟩ | ⟨g, cap, cur, rfl, _⟩
  · exact ⟨_, _, rfl⟩
  · exact ⟨_, _, rfl⟩

/-- What is known of the world behind an append onto a Writer's row: the Writer's own cell is as it was. -/
theorem wr_cell {pb : Nat} {l : List UInt8} {w wa w1 : World} {v : Value} (hv : w.heap[pb]? = some (.cells #[v] 52 (0, 0))) (hown : w.ownsRow (pb + 1) 5 1 v l.length (cl l))
    (ha : Below w.heap.size w wa) (hg : wa.grownBy w1 v.ownBlock) : w1.heap[pb]? = some (.cells #[v] 52 (0, 0)) := by
  have hlt := lt_of_block hv
  have := ha.size
  rw [hg.block pb (by omega) (own_past hown (Nat.le_refl _)), ha.block pb hlt, hv]

theorem wr_put {pb : Nat} {l r : List UInt8} {w wa w1 : World} {v v' : Value} (hv : w.heap[pb]? = some (.cells #[v] 52 (0, 0))) (hown : w.ownsRow (pb + 1) 5 1 v l.length (cl l))
    (ha : Below w.heap.size w wa) (hg : wa.grownBy w1 v.ownBlock) (hown' : w1.ownsRow (pb + 1) 5 1 v' (l.length + r.length) (cl l ++ cl r)) :
    WrAt pb (l ++ r) (w1.setCell ⟨pb, 0, none⟩ v') ∧ KeptW pb w (w1.setCell ⟨pb, 0, none⟩ v') := by
  have hlt := lt_of_block hv
  have hs := ha.size
  have h1 := wr_cell hv hown ha hg
  refine ⟨⟨v', one_setCell h1, ?_⟩, ⟨?_, ?_⟩⟩
  · rw [List.length_append, cl_append]
    exact ownsRow_setCell_below hown' (Nat.lt_succ_self _) _
  · exact (((show Below pb w wa from ha.mono (by omega)).grown hg (by omega) (fun k hk => by have := hown.lt k hk; omega)).setCell (Nat.le_refl _) _)
  · intro k o ho hne h5
    have hkl := lt_of_block ho
    rw [Below.heap_setCell _ _ _ _ hne, hg.block k (by omega) (own_not hown ho h5), ha.block k hkl, ho]

theorem step_append_own {P : Program} {ops : Array Oper} {o : Oper} {a : Act} {w : World} {K : Act → World → Prop} {Q : Exit → Act → World → Prop} {E : Prop}
    (hg : o.guard = none) (s x : Operand) (t : TypeId) (hop : o.op = .call { callee := .builtin .append, args := #[s, x], argTypes := #[t, t] })
    (base : Nat) (e : TypeId) (i : TypeInfo) (z : Value) (size bytes : Nat) (ht : P.underlying t = some (.slice e)) (hi : P.info? e = some i) (hz : i.zero = some z)
    (hsize : i.size = size) (hby : i.bytes = bytes) (hzs : z.cells.size = size) (hsz : 0 < size)
    (v : Value) (n : Nat) (xs : List Value) (hs : a.eval s = v) (hown : w.ownsRow base e size v n xs)
    (ad : Addr) (m c : Nat) (news : List Value) (hx : a.eval x = .slice (some ad) m c) (hl : news.length = m * size) (hnews : ∀ j u, news[j]? = some u → w.cell? (ad.add j) = some u) (h1 : ∀ u ∈ news, u.oneCell' = true)
    (h63 : n + m ≤ maxLen) (hbytes : (n + m) * bytes ≤ 140737488355328) (hbase : base ≤ w.heap.size)
    (h : ∀ v' w', w'.ownsRow base e size v' (n + m) (xs ++ news) → w.grownBy w' v.ownBlock → K (a.put o.dst v') w') :
    if Region.wanted o (yielded ops a.tmps) = true then Oper.wp P o a w K Q else E := by
  have hw : Region.wanted o (yielded ops a.tmps) = true := by simp [Region.wanted, hg]
  rw [if_pos hw]
  exact wp_append_own w s x t hop base e i z size bytes ht hi hz hsize hby hzs hsz v n xs hs hown ad m c news hx hl hnews h1 h63 hbytes hbase fun v' w' h2 h3 _ => h v' w' h2 h3

/-- A slice of one new block of one cell. -/
theorem one_new (w : World) (u : Value) (e : TypeId) : ∀ j x, [u][j]? = some x → (w.alloc (.cells #[u] e)).cell? ((⟨w.heap.size, 0, none⟩ : Addr).add j) = some x := by
  intro j x hj
  match j, hj with
  | 0, hj => simp at hj; subst hj; simp [Addr.add]

theorem int_one (k : IntKind) (n : Int) : ∀ u ∈ [Value.int k n], u.oneCell' = true := by
  intro u hu
  simp at hu
  subst hu
  rfl

/-- .. of one byte more. -/
theorem wr_put1 {pb : Nat} {l : List UInt8} {w wa w1 : World} {v v' : Value} {X : Int} (hv : w.heap[pb]? = some (.cells #[v] 52 (0, 0))) (hown : w.ownsRow (pb + 1) 5 1 v l.length (cl l))
    (ha : Below w.heap.size w wa) (hg : wa.grownBy w1 v.ownBlock) (hown' : w1.ownsRow (pb + 1) 5 1 v' (l.length + 1) (cl l ++ [Value.int .u8 X])) (k : Nat) (hk : k < 256) (hX : X = (k : Int)) :
    WrAt pb (l ++ [UInt8.ofNat k]) (w1.setCell ⟨pb, 0, none⟩ v') ∧ KeptW pb w (w1.setCell ⟨pb, 0, none⟩ v') := by
  subst hX
  exact wr_put hv hown ha hg (by rw [cl_one k hk]; exact hown')

theorem WrAt.alloc {pb : Nat} {l : List UInt8} {w : World} (h : WrAt pb l w) (o : Obj) : WrAt pb l (w.alloc o) := by
  obtain ⟨v, hv, hown⟩ := h
  exact ⟨v, by rw [Below.heap_alloc w o pb (lt_of_block hv), hv], hown.alloc o⟩
theorem WrAt.drew {pb : Nat} {l : List UInt8} {w : World} (h : WrAt pb l w) : WrAt pb l w.drew := by
  obtain ⟨v, hv, hown⟩ := h
  exact ⟨v, hv, hown.drew⟩
theorem WrAt.lt {pb : Nat} {l : List UInt8} {w : World} (h : WrAt pb l w) : pb < w.heap.size := by
  obtain ⟨v, hv, _⟩ := h
  exact lt_of_block hv
theorem KeptW.alloc {pb : Nat} {w0 w : World} (h : KeptW pb w0 w) (hp : pb ≤ w.heap.size) (o : Obj) : KeptW pb w0 (w.alloc o) :=
  ⟨h.below.alloc hp o, fun k o' ho hne h5 => by
    have := h.other k o' ho hne h5
    rw [Below.heap_alloc w o k (lt_of_block this), this]⟩
theorem KeptW.drew {pb : Nat} {w0 w : World} (h : KeptW pb w0 w) : KeptW pb w0 w.drew := ⟨h.below.drew, h.other⟩

/-- A block of two cells of a call's own. -/
theorem two_cells {w : World} {b : Nat} {x y : Value} {t : TypeId} (h : w.heap[b]? = some (.cells #[x, y] t (0, 0))) : w.cell? ⟨b, 0, none⟩ = some x ∧ w.cell? ⟨b, 1, none⟩ = some y ∧ w.frozen? ⟨b, 0, none⟩ = false ∧ w.frozen? ⟨b, 1, none⟩ = false := by
  refine ⟨?_, ?_, ?_, ?_⟩ <;> simp [World.cell?, World.frozen?, h]

/-- The row's text. -/
theorem strOf_bs (l : List UInt8) : strOfNums (l.map fun c => (c.toNat : Int)) = bs l := by
  unfold strOfNums bs
  congr 1
  simp [List.map_map, Function.comp_def]

theorem row_text {w : World} {base : Nat} {v : Value} {l : List UInt8} (h : w.ownsRow base 5 1 v l.length (cl l)) : (convert 50 9 v).run Try.prog w = .ok (.string (bs l)) w := by
  rcases h.2 with ⟨rfl, h0⟩ | ⟨g, cap, cur, rfl, hb, hg, _⟩
  · rw [run_convert_bytes_nil w 50 5 Try.underlying50 Try.underlying5 0 0 9 Try.underlying9, List.length_eq_zero_iff.1 h0]; rfl
  · rw [run_convert_bytes_arg w 50 5 Try.underlying50 Try.underlying5 g 0 l.length cap (l.map fun c => (c.toNat : Int)) (by simp) ?_ 9 Try.underlying9, strOf_bs]
    intro i hi
    have := h.cells (g := g) rfl i (.int .u8 (l[i]).toNat) (by simp [cl, hi])
    simp only [Nat.zero_add]
    have e : (⟨g, 0, none⟩ : Addr).add i = ⟨g, i, none⟩ := by simp [Addr.add_lit]
    rw [e] at this
    rw [this]
    simp [hi]

end Go.Proofs.Ytmldgfepnmencaa
