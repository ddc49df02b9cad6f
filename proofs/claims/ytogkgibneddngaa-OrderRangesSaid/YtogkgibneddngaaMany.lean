/-
  A Go map of texts beside a map in order: they have the same. And the keys of a range, gathered one by one up to a limit. (Of no seat: to be carried.)
-/
import Derived.Test.YtogkgibneddngaaPlain
import Derived.Maps.OwnSet
namespace Go.Proofs.Ytogkgibneddngaa
open Go.Maps (Tidy IsMap)

structure Twin (D : DataW Unit) (L : Kv) : Prop where
  tidy : Tidy D
  srt : Srt L
  has : ∀ k, Maps.has D (.string k) = (getF k L).isSome
  at_ : ∀ k v z, getF k L = some v → D.atKey (.string k) z = .lit (.int .i64 v)
  size : Maps.size D = L.length
theorem Twin.none : Twin (.map []) [] := ⟨Maps.tidy_empty, List.Pairwise.nil, fun _ => rfl, fun _ _ _ h => by simp [getF] at h, rfl⟩
theorem isKey (k : List UInt8) : WideAt.IsKeyLit (.string k) := trivial
theorem Twin.put {D : DataW Unit} {L : Kv} (h : Twin D L) (k : List UInt8) (v : Int) : Twin (D.put (.string k) (.lit (.int .i64 v))) (setF k v L) := by
  refine ⟨h.tidy.put (isKey k) _, setF_srt h.srt, fun q => ?_, fun q u z hq => ?_, ?_⟩
  · rw [get_set h.srt]
    by_cases e : k = q
    · subst e
      rw [Maps.has_put_same h.tidy.isMap (isKey k)]
      simp
    · rw [Maps.has_put_other (fun e2 => e (by injection e2 with e2; exact e2.symm)), h.has q, if_neg (by simpa using e)]
  · rw [get_set h.srt] at hq
    by_cases e : k = q
    · subst e
      rw [Maps.atKey_put_same h.tidy.isMap (isKey k)]
      simp at hq
      rw [hq]
    · rw [if_neg (by simpa using e)] at hq
      rw [Maps.atKey_put_other (fun e2 => e (by injection e2 with e2; exact e2.symm))]
      exact h.at_ q u z hq
  · rw [Maps.size_put h.tidy, len_set h.srt, h.has k, h.size]
theorem Twin.del {D : DataW Unit} {L : Kv} (h : Twin D L) (k : List UInt8) : Twin (D.del (.string k)) (cutF k L) := by
  refine ⟨h.tidy.del _, cutF_srt h.srt, fun q => ?_, fun q u z hq => ?_, ?_⟩
  · rw [get_cut h.srt]
    by_cases e : k = q
    · subst e
      rw [Maps.has_del_same]
      simp
    · rw [Maps.has_del_other (fun e2 => e (by injection e2 with e2; exact e2.symm)), h.has q, if_neg (by simpa using e)]
  · rw [get_cut h.srt] at hq
    by_cases e : k = q
    · subst e
      simp at hq
    · rw [if_neg (by simpa using e)] at hq
      rw [Maps.atKey_del_other (fun e2 => e (by injection e2 with e2; exact e2.symm))]
      exact h.at_ q u z hq
  · have h1 := Maps.size_del (D := D) (k := .string k) h.tidy
    rw [h.has k, h.size] at h1
    rw [len_cut h.srt]
    split
    · rename_i hs; rw [if_pos hs] at h1; omega
    · rename_i hs; rw [if_neg hs] at h1; omega
theorem cut_none {k : List UInt8} : ∀ {L : Kv}, getF k L = none → cutF k L = L
  | [], _ => rfl
  | (a, u) :: r, h => by
    unfold getF at h
    unfold cutF
    by_cases h3 : (a == k) = true
    · rw [if_pos h3] at h; cases h
    · rw [if_neg h3] at h ⊢
      rw [cut_none h]

/-! The document's Keys: one key behind the other, while there is room. -/
def dk : List UInt8 × Int := ([], 0)
theorem range_snoc {lo hi : List UInt8} {L : Kv} {i : Nat} (h : i < L.length) : rangeF lo hi (L.take (i + 1)) = if inR lo hi (L.getD i dk).1 then rangeF lo hi (L.take i) ++ [(L.getD i dk).1] else rangeF lo hi (L.take i) := by
  rw [List.take_succ_eq_append_getElem h, range_append]
  have e : L.getD i dk = L[i] := by simp [List.getD, h]
  rw [e]
  have := range_cons lo hi L[i].1 L[i].2 []
  rw [this]
  split
  · rfl
  · simp [rangeF]
/-- All gone through, and never too many. -/
theorem keys_end {lo hi : List UInt8} {L : Kv} {limit : Int} (h : (rangeF lo hi L).length ≤ limit.toNat) : keysF lo hi limit L = rangeF lo hi L := List.take_of_length_le h
/-- As many as were asked for. -/
theorem keys_full {lo hi : List UInt8} {L : Kv} {limit : Int} {i : Nat} (h : (rangeF lo hi (L.take i)).length = limit.toNat) : keysF lo hi limit L = rangeF lo hi (L.take i) := by
  unfold keysF
  conv => lhs; rw [← List.take_append_drop i L, range_append]
  rw [← h]
  exact List.take_left
theorem keys_zero {lo hi : List UInt8} {L : Kv} {limit : Int} (h : limit ≤ 0) : keysF lo hi limit L = [] := by
  unfold keysF
  rw [show limit.toNat = 0 from by omega]
  rfl
theorem range_len (lo hi : List UInt8) (L : Kv) : (rangeF lo hi L).length ≤ L.length := by
  unfold rangeF
  exact Nat.le_trans (List.length_filter_le _ _) (by simp)
theorem keys_all {L : Kv} {limit : Int} (h : (L.length : Int) ≤ limit) : keysF [] [] limit L = L.map (·.1) := by
  rw [keys_end (Nat.le_trans (range_len _ _ _) (by omega)), range_all]
/-- OrderRanges: with a limit they are the first ones. -/
theorem keys_first {L : Kv} {limit : Int} : keysF [] [] limit L = (L.map (·.1)).take limit.toNat := by unfold keysF; rw [range_all]
/-- OrderRanges: two parts, one behind the other. -/
theorem keys_split {mid : List UInt8} (hm : mid.isEmpty = false) {L : Kv} (h : Srt L) {limit : Int} (hl : (L.length : Int) ≤ limit) : keysF [] mid limit L ++ keysF mid [] limit L = keysF [] [] limit L := by
  rw [keys_end (Nat.le_trans (range_len _ _ _) (by omega)), keys_end (Nat.le_trans (range_len _ _ _) (by omega)), keys_all hl, range_split hm h]
/-- Keys that were set one behind the other. -/
def setsF (L : Kv) (i : Int) : List (List UInt8) → Kv
  | [] => L
  | k :: r => setsF (setF k i L) (i + 1) r
theorem setsF_srt : ∀ {l : List (List UInt8)} {L : Kv} {i : Int}, Srt L → Srt (setsF L i l) ∧ (setsF L i l).length ≤ L.length + l.length
  | [], L, i, h => ⟨h, by simp [setsF]⟩
  | k :: r, L, i, h => by
    obtain ⟨h1, h2⟩ := setsF_srt (l := r) (i := i + 1) (setF_srt (k := k) (v := i) h)
    refine ⟨h1, ?_⟩
    have h3 := len_set (k := k) (v := i) h
    show (setsF _ _ r).length ≤ _
    simp only [List.length_cons]
    split at h3 <;> omega
end Go.Proofs.Ytogkgibneddngaa
