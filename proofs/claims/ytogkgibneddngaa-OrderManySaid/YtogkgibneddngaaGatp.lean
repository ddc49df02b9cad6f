/-
  Keys gathered from parts, plain.
-/
import Derived.Test.YtogkgibneddngaaMany
namespace Go.Proofs.Ytogkgibneddngaa
open Go.RowKit

/-- Behind K so many of A that there are lim in all. -/
def gatF (lim : Nat) (K A : List (List UInt8)) : List (List UInt8) := K ++ A.take (lim - K.length)
theorem gat_nil (lim : Nat) (K : List (List UInt8)) : gatF lim K [] = K := by simp [gatF]
theorem gat_full {lim : Nat} {K : List (List UInt8)} (h : lim ≤ K.length) (A : List (List UInt8)) : gatF lim K A = K := by
  unfold gatF
  rw [show lim - K.length = 0 by omega]
  simp
theorem gat_append (lim : Nat) (K A C : List (List UInt8)) : gatF lim K (A ++ C) = gatF lim (gatF lim K A) C := by
  unfold gatF
  rw [List.take_append, List.append_assoc, List.length_append, List.length_take]
  congr 3
  omega
theorem gat_one (lim : Nat) (K : List (List UInt8)) (k : List UInt8) : gatF lim K [k] = if K.length < lim then K ++ [k] else K := by
  by_cases h : K.length < lim
  · rw [if_pos h]
    unfold gatF
    obtain ⟨n, hn⟩ : ∃ n, lim - K.length = n + 1 := ⟨lim - K.length - 1, by omega⟩
    rw [hn]
    simp
  · rw [if_neg h]
    exact gat_full (by omega) _
theorem gat_len (lim : Nat) (K A : List (List UInt8)) : (gatF lim K A).length ≤ K.length + A.length := by
  unfold gatF
  rw [List.length_append, List.length_take]
  omega
theorem gat_start (lo hi : List UInt8) (limit : Int) (L : Kv) : gatF limit.toNat [] (rangeF lo hi L) = keysF lo hi limit L := by simp [gatF, keysF]
theorem below_lo {lo hi : List UInt8} {A R : Kv} {k : List UInt8} {u : Int} (hs : Srt (A ++ (k, u) :: R)) (h : ltK lo k = false) : rangeF lo hi A = [] := by
  obtain ⟨_, _, h1, _⟩ := srt_parts hs
  refine range_none fun x hx => ?_
  have := ltK_le2 (h1 x hx) h
  simp [inR, this]
theorem above_hi {lo hi : List UInt8} {A R : Kv} {k : List UInt8} {u : Int} (hs : Srt (A ++ (k, u) :: R)) (h0 : hi.isEmpty = false) (h : ltK k hi = false) : rangeF lo hi ((k, u) :: R) = [] := by
  obtain ⟨_, _, _, h2⟩ := srt_parts hs
  refine range_none fun x hx => ?_
  have hx' : ltK x.1 hi = false := by
    rcases List.mem_cons.1 hx with rfl | hx
    · exact h
    · cases e : ltK x.1 hi
      · rfl
      · exact absurd (ltK_trans (h2 x hx) e) (by simp [h])
  simp only [inR, h0, hx', Bool.or_false, Bool.and_false]
theorem gat_stop {lo hi : List UInt8} {A R : Kv} {k : List UInt8} {u : Int} {lim : Nat} {K : List (List UInt8)} (hs : Srt (A ++ (k, u) :: R)) (h0 : hi.isEmpty = false) (h : ltK k hi = false) : gatF lim K (rangeF lo hi (A ++ (k, u) :: R)) = gatF lim K (rangeF lo hi A) := by
  rw [range_append, above_hi hs h0 h, List.append_nil]
theorem gat_on {lo hi : List UInt8} {A R : Kv} {k : List UInt8} {u : Int} {lim : Nat} {K : List (List UInt8)} (h : (hi.isEmpty || ltK k hi) = true) :
    gatF lim K (rangeF lo hi (A ++ (k, u) :: R)) = gatF lim (if ltK k lo = false ∧ (gatF lim K (rangeF lo hi A)).length < lim then gatF lim K (rangeF lo hi A) ++ [k] else gatF lim K (rangeF lo hi A)) (rangeF lo hi R) := by
  rw [range_append, range_cons, gat_append]
  cases h1 : ltK k lo
  · rw [if_pos (by simp only [inR, h1, h]; rfl), show k :: rangeF lo hi R = [k] ++ rangeF lo hi R from rfl, gat_append, gat_one]
    simp
  · rw [if_neg (by simp [inR, h1])]
    simp
end Go.Proofs.Ytogkgibneddngaa
