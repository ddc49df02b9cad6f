/-
  A store as a plain list of keys and chains: put, seen, scanned, pruned. (Of no dump.)
-/
import Derived.Test.YtcfhkggijdjagaaPlain
import Derived.Test.YtcfhkggijdjagaaCAa
namespace Go.Proofs.Ytcfhkggijdjagaa
open Go.RowKit

abbrev Sk := Kv (List Ve)
def chainF (k : List UInt8) (S : Sk) : List Ve := (getF k S).getD []
def keyB (k : List UInt8) : Bool := decide (1 ≤ k.length) && decide (k.length ≤ 32)
/-- The value that is seen of a chain. -/
def seeF (c : List Ve) (p l : Int) : Option (List UInt8) := match atF c p l with
  | none => none
  | some v => if v.dead then none else some v.val
def putS (k : List UInt8) (v : Ve) (S : Sk) : Sk × Int := if keyB k then (if (putF (chainF k S) v).2 = 0 then (setF k (putF (chainF k S) v).1 S, 0) else (S, (putF (chainF k S) v).2)) else (S, 1)
def scanR (p l : Int) (S : Sk) : List (List UInt8 × List UInt8) := S.filterMap fun x => (seeF x.2 p l).map fun s => (x.1, s)
def rngS (lo hi : List UInt8) (S : Sk) : Sk := S.filter fun x => inR lo hi x.1
def scanS (lo hi : List UInt8) (p l limit : Int) (S : Sk) : List (List UInt8 × List UInt8) := (scanR p l (rngS lo hi S)).take (min limit 32).toNat
def prune1 (p l : Int) (x : List UInt8 × List Ve) : Option (List UInt8 × List Ve) := if (pruneF x.2 p l).isEmpty then none else some (x.1, pruneF x.2 p l)
def pruneS (p l : Int) (S : Sk) : Sk := S.filterMap (prune1 p l)
def goneS (p l : Int) (S : Sk) : Nat := (S.map fun x => x.2.length - (pruneF x.2 p l).length).sum
def totS (S : Sk) : Nat := (S.map fun x => x.2.length).sum
structure SOk (S : Sk) : Prop where
  srt : Srt S
  all : ∀ x ∈ S, Ch x.2 ∧ x.2 ≠ []
theorem SOk.nil : SOk [] := ⟨List.Pairwise.nil, fun _ h => by cases h⟩

theorem chain_ch {S : Sk} (h : SOk S) (k : List UInt8) : Ch (chainF k S) := by
  unfold chainF
  cases e : getF k S with
  | none => exact ch_nil
  | some c => exact (h.all _ ((getF_mem h.srt).1 e)).1
theorem chain_mem {S : Sk} (h : SOk S) {k : List UInt8} {c : List Ve} (hm : (k, c) ∈ S) : chainF k S = c := by
  unfold chainF
  rw [(getF_mem h.srt).2 hm]
  rfl
theorem ins_ne {v : Ve} : ∀ {c d : List Ve}, insF v c = some d → d ≠ []
  | [], d, h => by
    simp only [insF, Option.some.injEq] at h
    subst h
    simp
  | u :: r, d, h => by
    unfold insF at h
    split at h
    · cases e : insF v r with
      | none => rw [e] at h; cases h
      | some x => rw [e] at h; simp only [Option.map_some, Option.some.injEq] at h; subst h; simp
    · split at h
      · split at h
        · simp only [Option.some.injEq] at h; subst h; simp
        · cases h
      · simp only [Option.some.injEq] at h; subst h; simp
theorem put_good {c : List Ve} {v : Ve} (h : (putF c v).2 = 0) : Ch (putF c v).1 ∧ (putF c v).1 ≠ [] ∧ (putF c v).1.length ≤ c.length + 1 := by
  have e : putF c v = ((putF c v).1, 0) := by rw [← h]
  obtain ⟨h1, h2, _, h4, _⟩ := putF_ok e
  refine ⟨h2, ins_ne h4, ?_⟩
  rcases (insF_cases h4 h1.desc).2.2 with ⟨e1, _⟩ | e1
  · rw [e1]; omega
  · omega
theorem put_sok {S : Sk} (h : SOk S) (k : List UInt8) (v : Ve) : SOk (putS k v S).1 := by
  unfold putS
  split
  · split
    · rename_i h0
      refine ⟨setF_srt h.srt, fun x hx => ?_⟩
      rcases setF_keys hx with rfl | hx
      · exact ⟨(put_good h0).1, (put_good h0).2.1⟩
      · exact h.all x hx
    · exact h
  · exact h
theorem chain_put {S : Sk} (h : SOk S) (k q : List UInt8) (v : Ve) : chainF q (putS k v S).1 = if k = q ∧ (putS k v S).2 = 0 then (putF (chainF k S) v).1 else chainF q S := by
  unfold putS
  split
  · split
    · rename_i h0
      dsimp only
      unfold chainF
      rw [get_set h.srt]
      by_cases e : k = q
      · rw [if_pos (by simp [e]), if_pos ⟨e, rfl⟩]; rfl
      · rw [if_neg (by simp [e]), if_neg (fun h => e h.1)]
    · rename_i h0
      rw [if_neg (fun h => h0 h.2)]
  · rw [if_neg (fun h => by simp at h)]

theorem tot_set {k : List UInt8} {c : List Ve} : ∀ {S : Sk}, Srt S → totS (setF k c S) + (chainF k S).length = totS S + c.length
  | [], _ => by simp [totS, setF, chainF, getF]
  | (a, u) :: r, h => by
    obtain ⟨h1, h2⟩ := List.pairwise_cons.1 h
    have ih := tot_set (S := r) (k := k) (c := c) h2
    unfold setF
    by_cases e : ltK a k = true
    · rw [if_pos e]
      have hne : (a == k) = false := by simpa using ltK_ne e
      simp only [chainF, getF, hne, Bool.false_eq_true, if_false] at ih ⊢
      simp only [totS, List.map_cons, List.sum_cons] at ih ⊢
      omega
    · rw [if_neg e]
      by_cases e2 : (a == k) = true
      · rw [if_pos e2]
        simp only [chainF, getF, e2, if_true, Option.getD_some, totS, List.map_cons, List.sum_cons]
        omega
      · rw [if_neg e2]
        have hn : getF k ((a, u) :: r) = none := by
          refine getF_none fun x hx => ?_
          have hka : ltK k a = true := by
            cases h5 : ltK k a
            · exact absurd (ltK_tri (by simpa using e) h5) (by simpa using e2)
            · rfl
          rcases List.mem_cons.1 hx with rfl | hx
          · exact (ltK_ne hka).symm
          · exact (ltK_ne (ltK_trans hka (h1 x hx))).symm
        simp only [chainF, hn, Option.getD_none, List.length_nil, totS, List.map_cons, List.sum_cons]
        omega
theorem tot_put {S : Sk} (h : SOk S) (k : List UInt8) (v : Ve) : totS (putS k v S).1 ≤ totS S + 1 := by
  unfold putS
  split
  · split
    · rename_i h0
      have := tot_set (S := S) (k := k) (c := (putF (chainF k S) v).1) h.srt
      have := (put_good h0).2.2
      dsimp only
      omega
    · exact Nat.le_succ _
  · exact Nat.le_succ _
theorem len_tot : ∀ {S : Sk}, (∀ x ∈ S, Ch x.2 ∧ x.2 ≠ []) → S.length ≤ totS S
  | [], _ => Nat.le_refl _
  | x :: r, h => by
    have ih := len_tot (S := r) (fun y hy => h y (by simp [hy]))
    have h0 := List.length_pos_iff.2 (h x (by simp)).2
    simp only [totS, List.map_cons, List.sum_cons, List.length_cons] at ih ⊢
    omega
theorem mem_tot : ∀ {S : Sk} {x : List UInt8 × List Ve}, x ∈ S → x.2.length ≤ totS S
  | [], _, h => by cases h
  | y :: r, x, h => by
    simp only [totS, List.map_cons, List.sum_cons]
    rcases List.mem_cons.1 h with rfl | h
    · omega
    · have := mem_tot h
      simp only [totS] at this
      omega
theorem chain_tot {S : Sk} (h : SOk S) (k : List UInt8) : (chainF k S).length ≤ totS S := by
  unfold chainF
  cases e : getF k S with
  | none => simp
  | some c => exact mem_tot ((getF_mem h.srt).1 e)

/-- Of a pruned chain the same is seen. -/
theorem prune_ch {c : List Ve} (h : Ch c) (p l : Int) : pruneF c p l = pruneR p l c ∧ Ch (pruneF c p l) := by
  have e : pruneF c p l = pruneR p l c := by unfold pruneF; rw [if_pos (rightC_iff.2 h)]
  exact ⟨e, by rw [e]; exact (pruneR_ch h p l).1⟩
theorem see_live {c : List Ve} (h : Ch c) (p l : Int) : seeF c p l = (live (atR p l c)).map (·.val) := by
  unfold seeF atF live
  rw [if_pos (rightC_iff.2 h)]
  cases atR p l c with
  | none => rfl
  | some v => dsimp only [Option.bind_some]; split <;> rfl
theorem see_prune {c : List Ve} {p l q m : Int} (hc : Ch c) (h : ¬ (q < p ∨ q = p ∧ m < l)) : seeF (pruneF c p l) q m = seeF c q m := by
  obtain ⟨e, h2⟩ := prune_ch hc p l
  rw [see_live h2, see_live hc, e, prune_sees h]
theorem see_nil (p l : Int) : seeF [] p l = none := rfl
theorem prune_nil (p l : Int) : pruneF [] p l = [] := rfl
theorem prune_again {c : List Ve} (hc : Ch c) (p l : Int) : pruneF (pruneF c p l) p l = pruneF c p l := by
  obtain ⟨e, h2⟩ := prune_ch hc p l
  rw [(prune_ch h2 p l).1, e, prune_twice (by omega)]
theorem prune_le {c : List Ve} (hc : Ch c) (p l : Int) : (pruneF c p l).length ≤ c.length := by
  rw [(prune_ch hc p l).1]
  exact (pruneR_ch hc p l).2

theorem prune_key {p l : Int} {x y : List UInt8 × List Ve} (h : prune1 p l x = some y) : y = (x.1, pruneF x.2 p l) ∧ pruneF x.2 p l ≠ [] := by
  unfold prune1 at h
  split at h
  · cases h
  · rename_i e
    simp only [Option.some.injEq] at h
    exact ⟨h.symm, by simpa using e⟩
theorem pruneS_mem {p l : Int} {S : Sk} {y : List UInt8 × List Ve} : y ∈ pruneS p l S ↔ ∃ x ∈ S, y = (x.1, pruneF x.2 p l) ∧ pruneF x.2 p l ≠ [] := by
  unfold pruneS
  rw [List.mem_filterMap]
  constructor
  · rintro ⟨x, hx, h⟩
    exact ⟨x, hx, prune_key h⟩
  · rintro ⟨x, hx, rfl, h⟩
    refine ⟨x, hx, ?_⟩
    unfold prune1
    rw [if_neg (by simpa using h)]
theorem pruneS_srt (p l : Int) : ∀ {S : Sk}, Srt S → Srt (pruneS p l S)
  | [], _ => List.Pairwise.nil
  | x :: r, h => by
    obtain ⟨h1, h2⟩ := List.pairwise_cons.1 h
    have ih := pruneS_srt p l h2
    unfold pruneS
    rw [List.filterMap_cons]
    split
    · exact ih
    · rename_i y e
      refine List.pairwise_cons.2 ⟨fun z hz => ?_, ih⟩
      obtain ⟨a, ha, rfl, _⟩ := pruneS_mem.1 hz
      rw [(prune_key e).1]
      exact h1 a ha
theorem pruneS_sok {S : Sk} (h : SOk S) (p l : Int) : SOk (pruneS p l S) := by
  refine ⟨pruneS_srt p l h.srt, fun y hy => ?_⟩
  obtain ⟨x, hx, rfl, hne⟩ := pruneS_mem.1 hy
  exact ⟨(prune_ch (h.all x hx).1 p l).2, hne⟩
theorem chain_prune {S : Sk} (h : SOk S) (p l : Int) (k : List UInt8) : chainF k (pruneS p l S) = pruneF (chainF k S) p l := by
  have hp := pruneS_sok h p l
  cases e : getF k S with
  | none =>
    have e1 : chainF k S = [] := by unfold chainF; rw [e]; rfl
    rw [e1, prune_nil]
    cases e2 : getF k (pruneS p l S) with
    | none => unfold chainF; rw [e2]; rfl
    | some c =>
      obtain ⟨x, hx, hy, _⟩ := pruneS_mem.1 ((getF_mem hp.srt).1 e2)
      injection hy with h1 h2
      have := (getF_mem h.srt).2 (show (k, x.2) ∈ S by rw [h1]; exact hx)
      rw [this] at e
      cases e
  | some c =>
    have hm := (getF_mem h.srt).1 e
    rw [chain_mem h hm]
    by_cases h0 : pruneF c p l = []
    · rw [h0]
      cases e2 : getF k (pruneS p l S) with
      | none => unfold chainF; rw [e2]; rfl
      | some d =>
        obtain ⟨x, hx, hy, hne⟩ := pruneS_mem.1 ((getF_mem hp.srt).1 e2)
        injection hy with h1 h2
        have hx2 : (k, x.2) ∈ S := by rw [h1]; exact hx
        have := (getF_mem h.srt).2 hx2
        rw [e] at this
        injection this with this
        rw [← this] at hne
        exact absurd h0 hne
    · exact chain_mem hp (pruneS_mem.2 ⟨(k, c), hm, rfl, h0⟩)
theorem tot_prune (p l : Int) : ∀ {S : Sk}, (∀ x ∈ S, Ch x.2 ∧ x.2 ≠ []) → totS (pruneS p l S) + goneS p l S = totS S
  | [], _ => rfl
  | x :: r, h => by
    have ih := tot_prune p l (S := r) (fun y hy => h y (by simp [hy]))
    have hle := prune_le (h x (by simp)).1 p l
    unfold pruneS at ih ⊢
    rw [List.filterMap_cons]
    simp only [totS, goneS, List.map_cons, List.sum_cons] at ih ⊢
    split
    · rename_i e
      have h0 : (pruneF x.2 p l).length = 0 := by
        unfold prune1 at e
        split at e
        · rename_i e2; simpa using e2
        · cases e
      omega
    · rename_i y e
      rw [(prune_key e).1]
      simp only [List.map_cons, List.sum_cons]
      omega
theorem gone_again {S : Sk} (h : SOk S) (p l : Int) : goneS p l (pruneS p l S) = 0 := by
  unfold goneS
  rw [List.sum_eq_zero_iff_forall_eq_nat] <;> intro n hn
  obtain ⟨y, hy, rfl⟩ := List.mem_map.1 hn
  obtain ⟨x, hx, rfl, _⟩ := pruneS_mem.1 hy
  dsimp only
  rw [prune_again (h.all x hx).1]
  omega
theorem scan_prune1 {p l q m : Int} (lo hi : List UInt8) (h : ¬ (q < p ∨ q = p ∧ m < l)) : ∀ {S : Sk}, (∀ x ∈ S, Ch x.2 ∧ x.2 ≠ []) → scanR q m (rngS lo hi (pruneS p l S)) = scanR q m (rngS lo hi S)
  | [], _ => rfl
  | x :: r, hS => by
    have ih := scan_prune1 lo hi h (S := r) (fun y hy => hS y (by simp [hy]))
    have hs := see_prune (hS x (by simp)).1 h
    unfold pruneS rngS scanR at ih ⊢
    rw [List.filterMap_cons]
    split
    · rename_i e
      have h0 : pruneF x.2 p l = [] := by
        unfold prune1 at e
        split at e
        · rename_i e2; simpa using e2
        · cases e
      rw [h0, see_nil] at hs
      rw [ih, List.filter_cons]
      split
      · rw [List.filterMap_cons, ← hs]; rfl
      · rfl
    · rename_i y e
      rw [(prune_key e).1, List.filter_cons, List.filter_cons]
      dsimp only
      split
      · rw [List.filterMap_cons, List.filterMap_cons]
        dsimp only
        rw [hs, ih]
      · exact ih
theorem scan_prune {S : Sk} (hS : SOk S) {p l q m : Int} (lo hi : List UInt8) (limit : Int) (h : ¬ (q < p ∨ q = p ∧ m < l)) : scanS lo hi q m limit (pruneS p l S) = scanS lo hi q m limit S := by
  unfold scanS
  rw [scan_prune1 lo hi h hS.all]

theorem rng_all (S : Sk) : rngS [] [] S = S := by
  unfold rngS
  rw [List.filter_eq_self]
  intro x _
  cases x.1 <;> rfl
theorem scan_all (p l limit : Int) (S : Sk) : scanS [] [] p l limit S = (scanR p l S).take (min limit 32).toNat := by unfold scanS; rw [rng_all]
end Go.Proofs.Ytcfhkggijdjagaa
