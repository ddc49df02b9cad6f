/-
  A binary tree of claims in memory: plain, heights, keys in rows, keys gathered.
-/
import Derived.Test.YtknfkpnicjellaaPut
import Derived.Deep.Trees
namespace Go.Proofs.Ytknfkpnicjellaa
open Go.RowKit

/-- A claim: a transaction's name, and what it is about to write. -/
abbrev Cv := (Int × Int) × Wr
/-- A tree: each node in its block, with a number beside (a height, a count, a rank): the library's trees, the number in the second place. -/
abbrev Tr := Go.Deep.BT (List UInt8 × Cv)
abbrev Tr.nil : Tr := Go.Deep.BT.nil
abbrev Tr.node (b : Nat) (l : Tr) (k : List UInt8) (v : Cv) (x : Nat) (r : Tr) : Tr := Go.Deep.BT.node b x (k, v) l r
theorem Tr.ind {motive : Tr → Prop} (nil : motive .nil) (node : ∀ (b : Nat) (l : Tr) (k : List UInt8) (v : Cv) (x : Nat) (r : Tr), motive l → motive r → motive (.node b l k v x r)) (t : Tr) : motive t := by
  induction t with
  | nil => exact nil
  | node b x a l r ihl ihr =>
    obtain ⟨k, v⟩ := a
    exact node b l k v x r ihl ihr
theorem Tr.cas {motive : Tr → Prop} (nil : motive .nil) (node : ∀ (b : Nat) (l : Tr) (k : List UInt8) (v : Cv) (x : Nat) (r : Tr), motive (.node b l k v x r)) (t : Tr) : motive t := Tr.ind nil (fun b l k v x r _ _ => node b l k v x r) t
def Tr.toL : Tr → Kv Cv
  | Go.Deep.BT.nil => []
  | Go.Deep.BT.node _ _ (k, v) l r => Tr.toL l ++ (k, v) :: Tr.toL r
def Tr.ptr : Tr → Value
  | Go.Deep.BT.nil => .pointer none
  | Go.Deep.BT.node b _ _ _ _ => .pointer (some ⟨b, 0, none⟩)
def Tr.blocks : Tr → List Nat
  | Go.Deep.BT.nil => []
  | Go.Deep.BT.node b _ _ l r => b :: (Tr.blocks l ++ Tr.blocks r)
/-- How a node lies in its block. -/
structure Lay where
  ty : TypeId
  cells : List UInt8 → Cv → Nat → Value → Value → Array Value
def TrAt (Y : Lay) : Tr → World → Prop
  | Go.Deep.BT.nil, _ => True
  | Go.Deep.BT.node b x (k, v) l r, w => w.heap[b]? = some (.cells (Y.cells k v x (Tr.ptr l) (Tr.ptr r)) Y.ty (0, 0)) ∧ TrAt Y l w ∧ TrAt Y r w
theorem TrAt.lt {Y : Lay} {w : World} {t : Tr} : TrAt Y t w → ∀ b ∈ t.blocks, b < w.heap.size := by
  induction t using Tr.ind with
  | nil =>
    intro _ b hb
    simp [Tr.blocks] at hb
  | node c l k v x r ihl ihr =>
    intro h b hb
    obtain ⟨h1, h2, h3⟩ := h
    simp only [Tr.blocks, List.mem_cons, List.mem_append] at hb
    rcases hb with rfl | hb | hb
    · exact (Array.getElem?_eq_some_iff.1 h1).1
    · exact ihl h2 b hb
    · exact ihr h3 b hb
theorem TrAt.kept {Y : Lay} {F : Nat → Prop} {w w' : World} (hk : Kept F w w') {t : Tr} : TrAt Y t w → (∀ b ∈ t.blocks, ¬ F b) → TrAt Y t w' := by
  induction t using Tr.ind with
  | nil => exact fun _ _ => trivial
  | node c l k v x r ihl ihr =>
    intro h hF
    obtain ⟨h1, h2, h3⟩ := h
    refine ⟨?_, ihl h2 (fun b hb => hF b (by simp [Tr.blocks, hb])), ihr h3 (fun b hb => hF b (by simp [Tr.blocks, hb]))⟩
    rw [hk.block c (Array.getElem?_eq_some_iff.1 h1).1 (hF c (by simp [Tr.blocks]))]
    exact h1
theorem TrAt.on {Y : Lay} {w w' : World} {t : Tr} (h : TrAt Y t w) (hb : Below w.heap.size w w') : TrAt Y t w' := TrAt.kept (F := fun _ => False) (Kept.of_below hb) h (fun _ _ h => h)
/-- A new node over two trees. -/
theorem TrAt.new {Y : Lay} {w : World} {l r : Tr} (hl : TrAt Y l w) (hr : TrAt Y r w) (k : List UInt8) (v : Cv) (x : Nat) : TrAt Y (.node w.heap.size l k v x r) (w.alloc (.cells (Y.cells k v x l.ptr r.ptr) Y.ty)) :=
  ⟨heap_alloc_new w _, hl.on (al _), hr.on (al _)⟩
/-- A node's block written anew: what stands beneath it lies elsewhere. -/
theorem TrAt.write {Y : Lay} {w w' : World} {b : Nat} {l r : Tr} {k : List UInt8} {v : Cv} {x : Nat} (hk : Kept (fun c => c = b) w w') (hb : w'.heap[b]? = some (.cells (Y.cells k v x l.ptr r.ptr) Y.ty (0, 0))) (hl : TrAt Y l w) (hr : TrAt Y r w) (hnl : b ∉ l.blocks) (hnr : b ∉ r.blocks) : TrAt Y (.node b l k v x r) w' :=
  ⟨hb, TrAt.kept hk hl (fun _ hc e => hnl (e ▸ hc)), TrAt.kept hk hr (fun _ hc e => hnr (e ▸ hc))⟩
/-- Turned about: the list stays. -/
theorem rot_right (b c : Nat) (A B C : Tr) (k q : List UInt8) (v u : Cv) (x y x' y' : Nat) : (Tr.node b (.node c A q u y B) k v x C).toL = (Tr.node c A q u y' (.node b B k v x' C)).toL := by simp [Tr.toL]
theorem rot_left (b c : Nat) (A B C : Tr) (k q : List UInt8) (v u : Cv) (x y x' y' : Nat) : (Tr.node b A k v x (.node c B q u y C)).toL = (Tr.node c (.node b A k v x' B) q u y' C).toL := by simp [Tr.toL]
end Go.Proofs.Ytknfkpnicjellaa

namespace Go.Proofs.Ytknfkpnicjellaa
open Go.RowKit

def Tr.hn : Tr → Nat
  | Go.Deep.BT.nil => 0
  | Go.Deep.BT.node _ x _ _ _ => x
def Tr.hi : Tr → Int
  | Go.Deep.BT.nil => 0
  | Go.Deep.BT.node _ x _ _ _ => (x : Int)
theorem Tr.hi_hn (t : Tr) : t.hi = t.hn := by
  cases t using Tr.cas with
  | nil => rfl
  | node b l k v x r => rfl
theorem max_hn (l r : Tr) : ((1 + max l.hn r.hn : Nat) : Int) = 1 + max l.hi r.hi := by
  rw [l.hi_hn, r.hi_hn]
  omega
/-- Each node tells its height. -/
def Hk : Tr → Prop
  | Go.Deep.BT.nil => True
  | Go.Deep.BT.node _ x _ l r => x = 1 + max (Tr.hn l) (Tr.hn r) ∧ Hk l ∧ Hk r
theorem Hk.bounds {t : Tr} : Hk t → 0 ≤ t.hi ∧ t.hi ≤ t.toL.length := by
  induction t using Tr.ind with
  | nil => intro _; simp [Tr.hi, Tr.toL]
  | node b l k v x r ihl ihr =>
    intro h
    obtain ⟨h1, h2, h3⟩ := h
    have i2 := ihl h2
    have i3 := ihr h3
    rw [l.hi_hn] at i2
    rw [r.hi_hn] at i3
    simp only [Tr.hi, Tr.toL, List.length_append, List.length_cons]
    omega
theorem Hk.node {t : Tr} (h0 : 0 < t.hi) : ∃ b l k v x r, t = .node b l k v x r := by
  cases t using Tr.cas with
  | nil => simp [Tr.hi] at h0
  | node b l k v x r => exact ⟨b, l, k, v, x, r, rfl⟩
/-- A node's cells. -/
def nl : Lay := ⟨94, fun k v x l r => #[.string (bs k), .int .u32 v.1.1, .int .u32 v.1.2, .string (bs v.2.key), .string (bs v.2.val), .bool v.2.dead, l, r, .int .i64 (x : Int)]⟩

/-- The block of a key's node. -/
def findT (k : List UInt8) : Tr → Option Nat
  | Go.Deep.BT.nil => none
  | Go.Deep.BT.node b _ (q, _) l r => if ltK k q then findT k l else if ltK q k then findT k r else some b
def putT (k : List UInt8) (v : Cv) : Tr → Tr
  | Go.Deep.BT.nil => .nil
  | Go.Deep.BT.node b x (q, u) l r => if ltK k q then .node b (putT k v l) q u x r else if ltK q k then .node b l q u x (putT k v r) else .node b l q v x r
theorem find_node (k : List UInt8) (b : Nat) (l : Tr) (q : List UInt8) (u : Cv) (x : Nat) (r : Tr) : findT k (.node b l q u x r) = if ltK k q then findT k l else if ltK q k then findT k r else some b := rfl
theorem put_node (k : List UInt8) (v : Cv) (b : Nat) (l : Tr) (q : List UInt8) (u : Cv) (x : Nat) (r : Tr) : putT k v (.node b l q u x r) = if ltK k q then .node b (putT k v l) q u x r else if ltK q k then .node b l q u x (putT k v r) else .node b l q v x r := rfl
theorem find_in {k : List UInt8} {t : Tr} : ∀ {b : Nat}, findT k t = some b → b ∈ t.blocks := by
  induction t using Tr.ind with
  | nil => intro b h; cases h
  | node c l q u x r ihl ihr =>
    intro b h
    rw [find_node] at h
    simp only [Tr.blocks, List.mem_cons, List.mem_append]
    split at h
    · exact .inr (.inl (ihl h))
    · split at h
      · exact .inr (.inr (ihr h))
      · injection h with h; exact .inl h.symm
theorem find_get {k : List UInt8} {t : Tr} : Srt t.toL → (findT k t).isSome = (getF k t.toL).isSome := by
  induction t using Tr.ind with
  | nil => intro _; rfl
  | node c l q u x r ihl ihr =>
    intro h
    obtain ⟨h1, h2, _, _⟩ := srt_parts h
    rw [find_node]
    simp only [Tr.toL]
    rw [get_parts h]
    split
    · exact ihl h1
    · split
      · exact ihr h2
      · rfl
theorem find_at {w : World} {k : List UInt8} {t : Tr} : ∀ {b : Nat}, Srt t.toL → TrAt nl t w → findT k t = some b → ∃ q v x l r, w.heap[b]? = some (.cells (nl.cells q v x l r) nl.ty (0, 0)) ∧ getF k t.toL = some v := by
  induction t using Tr.ind with
  | nil => intro b _ _ h; cases h
  | node c l q u x r ihl ihr =>
    intro b hs ha h
    obtain ⟨h1, h2, _, _⟩ := srt_parts hs
    obtain ⟨a1, a2, a3⟩ := ha
    rw [find_node] at h
    simp only [Tr.toL]
    rw [get_parts hs]
    split at h
    · rename_i e; rw [if_pos e]; exact ihl h1 a2 h
    · rename_i e
      rw [if_neg e]
      split at h
      · rename_i e2; rw [if_pos e2]; exact ihr h2 a3 h
      · rename_i e2
        rw [if_neg e2]
        injection h with h
        subst h
        exact ⟨q, u, x, _, _, a1, rfl⟩
theorem put_ptr (k : List UInt8) (v : Cv) (t : Tr) : (putT k v t).ptr = t.ptr := by
  cases t using Tr.cas with
  | nil => rfl
  | node b l q u x r => rw [put_node]; split; rfl; split <;> rfl
theorem put_hn (k : List UInt8) (v : Cv) (t : Tr) : (putT k v t).hn = t.hn := by
  cases t using Tr.cas with
  | nil => rfl
  | node b l q u x r => rw [put_node]; split; rfl; split <;> rfl
theorem put_blocks (k : List UInt8) (v : Cv) (t : Tr) : (putT k v t).blocks = t.blocks := by
  induction t using Tr.ind with
  | nil => rfl
  | node b l q u x r ihl ihr =>
    rw [put_node]
    split
    · simp only [Tr.blocks, ihl]
    · split
      · simp only [Tr.blocks, ihr]
      · rfl
theorem put_hk (k : List UInt8) (v : Cv) {t : Tr} : Hk t → Hk (putT k v t) := by
  induction t using Tr.ind with
  | nil => exact fun _ => trivial
  | node b l q u x r ihl ihr =>
    intro h
    obtain ⟨h1, h2, h3⟩ := h
    rw [put_node]
    split
    · exact ⟨by rw [put_hn]; exact h1, ihl h2, h3⟩
    · split
      · exact ⟨by rw [put_hn]; exact h1, h2, ihr h3⟩
      · exact ⟨h1, h2, h3⟩
theorem put_toL {k : List UInt8} {v : Cv} {t : Tr} : Srt t.toL → (findT k t).isSome = true → (putT k v t).toL = setF k v t.toL := by
  induction t using Tr.ind with
  | nil => intro _ h; cases h
  | node b l q u x r ihl ihr =>
    intro hs h
    obtain ⟨h1, h2, _, _⟩ := srt_parts hs
    rw [find_node] at h
    rw [put_node]
    simp only [Tr.toL]
    rw [set_parts hs]
    split
    · rename_i e; rw [if_pos e] at h; simp only [Tr.toL]; rw [ihl h1 h]
    · rename_i e
      rw [if_neg e] at h
      split
      · rename_i e2; rw [if_pos e2] at h; simp only [Tr.toL]; rw [ihr h2 h]
      · rename_i e2
        have : q = k := ltK_tri (by simpa using e2) (by simpa using e)
        subst this
        rfl
end Go.Proofs.Ytknfkpnicjellaa

namespace Go.Proofs.Ytknfkpnicjellaa
open Go.RowKit

def kc (K : List (List UInt8)) : List Value := K.map fun k => .string (bs k)
theorem kc_length (K : List (List UInt8)) : (kc K).length = K.length := by simp [kc]
theorem kc_append (K R : List (List UInt8)) : kc (K ++ R) = kc K ++ kc R := by simp [kc]
theorem kc_one (K : List (List UInt8)) : ∀ u ∈ kc K, u.oneCell' = true := by
  intro u hu
  obtain ⟨_, _, rfl⟩ := List.mem_map.1 hu
  rfl
theorem info9 : (Try.prog.info? 9).map (fun i => (i.zero, i.size, i.bytes)) = some (some (.string ⟨#[]⟩), 1, 16) := by kernel_rfl
theorem ks_one (w : World) (k : List UInt8) : RwAt (w.heap.size + 1) 1 (.slice (some ⟨w.heap.size, 0, none⟩) 1 1) 1 (kc [k]) (w.alloc (.cells #[.string (bs k)] 9)) := by
  refine ⟨_, 1, rfl, rfl, Nat.le_refl _, by omega, fun _ => ⟨w.heap.size, 0, rfl, fun _ => Nat.lt_succ_self _, fun j u hj => ?_⟩⟩
  match j, hj with
  | 0, hj => simp [kc] at hj; subst hj; simp [go_sem]
  | j + 1, hj => simp [kc] at hj

end Go.Proofs.Ytknfkpnicjellaa

namespace Go.Proofs.Ytknfkpnicjellaa
open Go.RowKit

theorem range_len (lo hi : List UInt8) (L : Kv Cv) : (rangeF lo hi L).length ≤ L.length := by
  unfold rangeF
  exact Nat.le_trans (List.length_filter_le _ _) (by simp)
theorem cut_none {k : List UInt8} : ∀ {L : Kv Cv}, getF k L = none → cutF k L = L
  | [], _ => rfl
  | (a, v) :: r, h => by
    unfold getF at h
    split at h
    · cases h
    · rename_i e
      unfold cutF
      rw [if_neg e, cut_none h]
/-- Behind K so many of A that there are lim in all. -/
def gatF (lim : Nat) (K A : List (List UInt8)) : List (List UInt8) := K ++ A.take (lim - K.length)
theorem gat_nil (lim : Nat) (K : List (List UInt8)) : gatF lim K [] = K := by simp [gatF]
theorem gat_full {lim : Nat} {K : List (List UInt8)} (h : lim ≤ K.length) (A : List (List UInt8)) : gatF lim K A = K := by
  unfold gatF
  rw [show lim - K.length = 0 by omega]
  simp
theorem gat_append (lim : Nat) (K A C : List (List UInt8)) : gatF lim K (A ++ C) = gatF lim (gatF lim K A) C := by
  unfold gatF
  rw [List.take_append, List.append_assoc, List.length_append, List.length_take]
  congr 3
  omega
theorem gat_one (lim : Nat) (K : List (List UInt8)) (k : List UInt8) : gatF lim K [k] = if K.length < lim then K ++ [k] else K := by
  by_cases h : K.length < lim
  · rw [if_pos h]
    unfold gatF
    obtain ⟨n, hn⟩ : ∃ n, lim - K.length = n + 1 := ⟨lim - K.length - 1, by omega⟩
    rw [hn]
    simp
  · rw [if_neg h]
    exact gat_full (by omega) _
theorem gat_len (lim : Nat) (K A : List (List UInt8)) : (gatF lim K A).length ≤ K.length + A.length := by
  unfold gatF
  rw [List.length_append, List.length_take]
  omega
theorem gat_start (lo hi : List UInt8) (limit : Int) (L : Kv Cv) : gatF limit.toNat [] (rangeF lo hi L) = keysF lo hi limit L := by simp [gatF, keysF]
theorem below_lo {lo hi : List UInt8} {A R : Kv Cv} {k : List UInt8} {u : Cv} (hs : Srt (A ++ (k, u) :: R)) (h : ltK lo k = false) : rangeF lo hi A = [] := by
  obtain ⟨_, _, h1, _⟩ := srt_parts hs
  refine range_none fun x hx => ?_
  have := ltK_le2 (h1 x hx) h
  simp [inR, this]
theorem above_hi {lo hi : List UInt8} {A R : Kv Cv} {k : List UInt8} {u : Cv} (hs : Srt (A ++ (k, u) :: R)) (h0 : hi.isEmpty = false) (h : ltK k hi = false) : rangeF lo hi ((k, u) :: R) = [] := by
  obtain ⟨_, _, _, h2⟩ := srt_parts hs
  refine range_none fun x hx => ?_
  have hx' : ltK x.1 hi = false := by
    rcases List.mem_cons.1 hx with rfl | hx
    · exact h
    · cases e : ltK x.1 hi
      · rfl
      · exact absurd (ltK_trans (h2 x hx) e) (by simp [h])
  simp only [inR, h0, hx', Bool.or_false, Bool.and_false]
theorem gat_stop {lo hi : List UInt8} {A R : Kv Cv} {k : List UInt8} {u : Cv} {lim : Nat} {K : List (List UInt8)} (hs : Srt (A ++ (k, u) :: R)) (h0 : hi.isEmpty = false) (h : ltK k hi = false) : gatF lim K (rangeF lo hi (A ++ (k, u) :: R)) = gatF lim K (rangeF lo hi A) := by
  rw [range_append, above_hi hs h0 h, List.append_nil]
theorem gat_on {lo hi : List UInt8} {A R : Kv Cv} {k : List UInt8} {u : Cv} {lim : Nat} {K : List (List UInt8)} (h : (hi.isEmpty || ltK k hi) = true) :
    gatF lim K (rangeF lo hi (A ++ (k, u) :: R)) = gatF lim (if ltK k lo = false ∧ (gatF lim K (rangeF lo hi A)).length < lim then gatF lim K (rangeF lo hi A) ++ [k] else gatF lim K (rangeF lo hi A)) (rangeF lo hi R) := by
  rw [range_append, range_cons, gat_append]
  cases h1 : ltK k lo
  · rw [if_pos (by simp only [inR, h1, h]; rfl), show k :: rangeF lo hi R = [k] ++ rangeF lo hi R from rfl, gat_append, gat_one]
    simp
  · rw [if_neg (by simp [inR, h1])]
    simp
end Go.Proofs.Ytknfkpnicjellaa
