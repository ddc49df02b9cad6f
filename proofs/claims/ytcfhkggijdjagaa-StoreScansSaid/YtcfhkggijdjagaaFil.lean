/-
  Acts among the arguments; the law's filled.
-/
import Derived.Test.YtcfhkggijdjagaaAwk
namespace Go.Proofs.Ytcfhkggijdjagaa
open Go.RowKit
variable {SA : Nat → Nat → (Nat → Prop) → Sk → World → Prop}

structure Ac where
  what : Int
  limit : Int
  key : List UInt8
  til : List UInt8
  v : Ve
def dac : Ac := ⟨0, 0, [], [], dv⟩
def acv (a : Ac) : List Value := [.int .i64 a.what, .int .i64 a.limit, .string (bs a.key), .string (bs a.til), .int .u64 a.v.p, .int .u32 a.v.l, .int .u32 a.v.c, .int .u32 a.v.n, .string (bs a.v.val), .bool a.v.dead]
def acc : List Ac → List Value
  | [] => []
  | a :: r => acv a ++ acc r
theorem acc_length (L : List Ac) : (acc L).length = L.length * 10 := by
  induction L with
  | nil => rfl
  | cons a L ih => simp [acc, acv, ih]; omega
theorem acc_get : ∀ (L : List Ac) (i j : Nat), i < L.length → j < 10 → (acc L)[i * 10 + j]? = (acv (L.getD i dac))[j]?
  | [], i, _, h, _ => absurd h (by simp)
  | a :: r, 0, j, _, hj => by
    simp only [acc, Nat.zero_mul, Nat.zero_add]
    rw [List.getElem?_append_left (by simp [acv]; omega)]
    rfl
  | a :: r, i + 1, j, h, hj => by
    simp only [acc]
    rw [List.getElem?_append_right (by simp [acv]; omega), show (acv a).length = 10 from rfl, show (i + 1) * 10 + j - 10 = i * 10 + j from by omega, acc_get r i j (by simpa using h) hj]
    rfl
def AcsAt (B : Nat) (v : Value) (L : List Ac) (w : World) : Prop := RwAt B 10 v L.length (acc L) w
/-- An act's ten cells from off on. -/
structure AcAt (w : World) (b off : Nat) (a : Ac) : Prop where
  c0 : w.cell? ⟨b, off, none⟩ = some (.int .i64 a.what)
  c1 : w.cell? ⟨b, off + 1, none⟩ = some (.int .i64 a.limit)
  c2 : w.cell? ⟨b, off + 2, none⟩ = some (.string (bs a.key))
  c3 : w.cell? ⟨b, off + 3, none⟩ = some (.string (bs a.til))
  c4 : w.cell? ⟨b, off + 4, none⟩ = some (.int .u64 a.v.p)
  c5 : w.cell? ⟨b, off + 5, none⟩ = some (.int .u32 a.v.l)
  c6 : w.cell? ⟨b, off + 6, none⟩ = some (.int .u32 a.v.c)
  c7 : w.cell? ⟨b, off + 7, none⟩ = some (.int .u32 a.v.n)
  c8 : w.cell? ⟨b, off + 8, none⟩ = some (.string (bs a.v.val))
  c9 : w.cell? ⟨b, off + 9, none⟩ = some (.bool a.v.dead)
theorem AcsAt.el {B : Nat} {ao : Option Addr} {cap : Nat} {L : List Ac} {w : World} (h : AcsAt B (.slice ao L.length cap) L w) {i : Nat} (hi : i < L.length) : ∃ b off, ao = some ⟨b, off, none⟩ ∧ AcAt w b (off + i * 10) (L.getD i dac) := by
  obtain ⟨b, off, e, hb, hc⟩ := RwAt.cellAt h (j := i * 10) (by rw [acc_length]; omega)
  have g : ∀ j u, j < 10 → (acv (L.getD i dac))[j]? = some u → w.cell? ⟨b, off + i * 10 + j, none⟩ = some u := fun j u hj hu => by
    rw [Nat.add_assoc]
    exact hc _ _ (by rw [acc_get L i j hi hj]; exact hu)
  exact ⟨b, off, e, ⟨by have := g 0 _ (by omega) rfl; simpa using this, g 1 _ (by omega) rfl, g 2 _ (by omega) rfl, g 3 _ (by omega) rfl, g 4 _ (by omega) rfl, g 5 _ (by omega) rfl, g 6 _ (by omega) rfl, g 7 _ (by omega) rfl, g 8 _ (by omega) rfl, g 9 _ (by omega) rfl⟩⟩
theorem AcsAt.shape {B : Nat} {v : Value} {L : List Ac} {w : World} (h : AcsAt B v L w) : ∃ ao cap, v = .slice ao L.length cap ∧ L.length ≤ cap ∧ cap ≤ 9223372036854775807 := by
  obtain ⟨ao, cap, e, _, h1, h2, _⟩ := h
  exact ⟨ao, cap, e, h1, h2⟩

def fillS (S : Sk) : List Ac → Sk
  | [] => S
  | a :: r => fillS (putS a.key a.v S).1 r
theorem fillS_snoc : ∀ (L : List Ac) (S : Sk) (a : Ac), fillS S (L ++ [a]) = (putS a.key a.v (fillS S L)).1
  | [], _, _ => rfl
  | b :: r, S, a => by
    show fillS (putS b.key b.v S).1 (r ++ [a]) = _
    rw [fillS_snoc r]
    rfl
theorem act_snoc {L : List Ac} {m : Nat} (h : m < L.length) : L.take (m + 1) = L.take m ++ [L.getD m dac] := by
  rw [List.take_add_one]
  simp [List.getD, h]
theorem fill_step {L : List Ac} {S : Sk} {m : Nat} (h : m < L.length) : fillS S (L.take (m + 1)) = (putS (L.getD m dac).key (L.getD m dac).v (fillS S (L.take m))).1 := by rw [act_snoc h, fillS_snoc]
theorem fill_sok : ∀ {L : List Ac} {S : Sk}, SOk S → SOk (fillS S L) ∧ totS (fillS S L) ≤ totS S + L.length
  | [], S, h => ⟨h, Nat.le_refl _⟩
  | a :: r, S, h => by
    obtain ⟨h1, h2⟩ := fill_sok (L := r) (put_sok h a.key a.v)
    have := tot_put h a.key a.v
    refine ⟨h1, ?_⟩
    simp only [fillS, List.length_cons]
    omega
theorem ltake {L : List Ac} {m : Nat} : (L.take m).length ≤ m := List.length_take_le _ _
theorem Pw.le {w W W' : World} {p : Nat} {S : Sk} (h : Pw SA W p S W') (hb : Below w.heap.size w W) : Pw SA w p S W' := by
  obtain ⟨B, M, hm, hB⟩ := h.sa
  exact ⟨⟨B, M, hm, Nat.le_trans hb.size hB⟩, h.tot, hb.trans (h.bel.mono hb.size)⟩

set_option maxHeartbeats 1600000 in
set_option maxRecDepth 100000 in
theorem filled26 (I : Ifs SA) (B : Nat) (L : List Ac) (v : Value) (w : World) (hv : AcsAt B v L w) (hB : B ≤ w.heap.size) :
    Calls Try.prog 26 #[v] w fun e w' => ∃ p, e = .returned (.pointer (some ⟨p, 0, none⟩)) ∧ Pw SA w p (fillS [] (L.take 100)) w' := by
  obtain ⟨ao, cap, rfl, hlc, hcm⟩ := hv.shape
  have HE : Hid (∀ W, Below w.heap.size w W → ∀ i, i < L.length → ∃ b off, ao = some ⟨b, off, none⟩ ∧ AcAt W b (off + i * 10) (L.getD i dac)) := fun W hb i hi => (AcsAt.el (RwAt.on hv (hb.mono hB)) hi)
  have CN : Hid (1 = 1 → Calls Try.prog 10 #[] w fun e w' => ∃ p, e = .returned (.pointer (some ⟨p, 0, none⟩)) ∧ Pw SA w p [] w') := fun _ => pw_new I (Below.refl _ _)
  have CP : Hid (∀ p S k xp xl xc xn xs xd W, totS S < 9000 → Pw SA w p S W → Calls Try.prog 11 #[.pointer (some ⟨p, 0, none⟩), .string (bs k), .agg #[.int .u64 xp, .int .u32 xl, .int .u32 xc, .int .u32 xn, .string (bs xs), .bool xd]] W fun e w' => e = .returned (.int .i64 (putS k ⟨xp, xl, xc, xn, xs, xd⟩ S).2) ∧ Pw SA w p (putS k ⟨xp, xl, xc, xn, xs, xd⟩ S).1 w') := fun p S k xp xl xc xn xs xd W ht h => pw_put I k ⟨xp, xl, xc, xn, xs, xd⟩ h ht
  have hL9 : L.length < 9223372036854775808 := by omega
  clear hv hlc hcm
  go_enter Try.func26, Try.ntmps26
  go_wp2_with fail
  refine (CN.out (by trivial)).mono ?_
  rintro e w1 ⟨p, rfl, h1⟩
  have H1 : Hid (Pw SA w p (fillS [] (L.take 0)) w1) := h1
  clear h1 CN
  go_wp2_with fail
  go_loopw [9] (fun i wr => ∃ m : Nat, m ≤ L.length ∧ m ≤ 100 ∧ i = .int .i64 m ∧ Pw SA w p (fillS [] (L.take m)) wr) (fun i _ => L.length - (intOf i).toNat)
  case atStart => exact ⟨0, Nat.zero_le _, by omega, rfl, H1.out⟩
  case round =>
    obtain ⟨m, hm, hm100, rfl, hp⟩ := hrel
    have HP : Hid _ := hp
    clear hp
    by_cases hml : m < L.length
    · obtain ⟨b, off, rfl, ha⟩ := HE.out _ HP.out.bel m hml
      have hml' : (m : Int) < L.length := by omega
      have hst := fill_step (S := []) hml
      have htot : totS (fillS [] (L.take m)) < 9000 := by
        have h1 := (fill_sok (L := L.take m) SOk.nil).2
        have h2 : totS ([] : Sk) = 0 := rfl
        have h3 := ltake (L := L) (m := m)
        omega
      have HT : Hid _ := htot
      clear htot
      obtain ⟨S1, hS1⟩ : ∃ S1, fillS [] (L.take (m + 1)) = S1 := ⟨_, rfl⟩
      have HS1 : Hid (fillS [] (L.take (m + 1)) = S1) := hS1
      rw [hS1] at hst
      clear hS1
      by_cases h100 : m = 100
      · subst h100
        obtain ⟨c0, c1, c2, c3, c4, c5, c6, c7, c8, c9⟩ := ha
        simp only [Nat.reduceMul] at c0 c1 c2 c3 c4 c5 c6 c7 c8 c9
        have HX : Hid (Pw SA w p (fillS [] (L.take 100)) (wr.alloc (.cells #[.int .i64 (L.getD 100 dac).what, .int .i64 (L.getD 100 dac).limit, .string (bs (L.getD 100 dac).key), .string (bs (L.getD 100 dac).til), .int .u64 (L.getD 100 dac).v.p, .int .u32 (L.getD 100 dac).v.l, .int .u32 (L.getD 100 dac).v.c, .int .u32 (L.getD 100 dac).v.n, .string (bs (L.getD 100 dac).v.val), .bool (L.getD 100 dac).v.dead] 39))) := HP.out.on I (al _)
        generalize L.getD 100 dac = a at *
        obtain ⟨aw, alm, ak, atl, ⟨xp, xl, xc, xn, xs, xd⟩⟩ := a
        dsimp only at c0 c1 c2 c3 c4 c5 c6 c7 c8 c9 HX
        clear hst HT HP HE
        go_wp2_with fail
        go_ret
        exact ⟨p, rfl, HX.out⟩
      · have h100' : ((m : Int) == 100) = false := by simp; omega
        generalize fillS [] (L.take m) = S at *
        generalize L.getD m dac = a at *
        obtain ⟨aw, alm, ak, atl, ⟨xp, xl, xc, xn, xs, xd⟩⟩ := a
        obtain ⟨c0, c1, c2, c3, c4, c5, c6, c7, c8, c9⟩ := ha
        dsimp only at c0 c1 c2 c3 c4 c5 c6 c7 c8 c9 hst
        have CP2 : Hid (∀ W, Pw SA w p S W → _) := fun W h => CP.out p S ak xp xl xc xn xs xd W HT.out h
        rw [← hst] at CP2
        generalize (putS ak ⟨xp, xl, xc, xn, xs, xd⟩ S).2 = er at *
        have HA : Hid (Pw SA w p S (wr.alloc (.cells #[.int .i64 aw, .int .i64 alm, .string (bs ak), .string (bs atl), .int .u64 xp, .int .u32 xl, .int .u32 xc, .int .u32 xn, .string (bs xs), .bool xd] 39))) := HP.out.on I (al _)
        clear hst
        go_wp2_with fail
        refine (CP2.out _ HA.out).mono ?_
        rintro e w2 ⟨rfl, h2⟩
        have H2 : Hid (Pw SA w p S1 w2) := h2
        clear h2 HA CP2 c0 c1 c2 c3 c4 c5 c6 c7 c8 c9
        go_wp2_with fail
        go_roundw
        case rel => exact ⟨m + 1, by omega, by omega, by go_num, by rw [HS1.out]; exact H2.out⟩
        case measure => simp [intOf]; omega
    · have hml' : ¬ (m : Int) < L.length := by omega
      have HX : Hid (fillS [] (L.take m) = fillS [] (L.take 100)) := by
        show _ = _
        rw [List.take_of_length_le (by omega), List.take_of_length_le (show L.length ≤ 100 by omega)]
      go_wp2_with fail
      go_ret
      refine ⟨p, rfl, ?_⟩
      rw [← HX.out]
      exact HP.out
end Go.Proofs.Ytcfhkggijdjagaa
