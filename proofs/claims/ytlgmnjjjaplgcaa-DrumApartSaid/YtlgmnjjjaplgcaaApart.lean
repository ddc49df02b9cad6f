/-
  DrumApart's walk: what is done to one area changes nothing of another one's bytes.
-/
import Derived.Test.YtlgmnjjjaplgcaaActs
namespace Go.Proofs.Ytlgmnjjjaplgcaa
open Go.RowKit

def ap1 (room : Int) : Dr := ((Dr.new room).lay 3).2
def ap2 (room : Int) (t : List UInt8) : Dr := ((ap1 room).write 3 t).2
def ap3 (room : Int) (t : List UInt8) : Dr := ((ap2 room t).sync 3).2

theorem ap1_eq (room : Int) : (Dr.new room).lay 3 = (0, (Dr.new room).set 3 ⟨true, [], 0⟩) := by
  simp [Dr.lay, Dr.step, Dr.new, Dr.set, Dr.burn, Pt.none]
theorem ap2_eq (room : Int) (t : List UInt8) (h : (t.length : Int) ≤ room) : (ap1 room).write 3 t = (0, (Dr.new room).set 3 ⟨true, t, 0⟩) := by
  have hu : (ap1 room).used = 0 := by rw [ap1, ap1_eq]; simp [Dr.used, Dr.set, Dr.new, Pt.none]
  have hd : (ap1 room).down = false := by rw [ap1, ap1_eq]; rfl
  have hp : (ap1 room).p 3 = ⟨true, [], 0⟩ := by rw [ap1, ap1_eq, Dr.set_same]
  have hr : (ap1 room).room = room := by rw [ap1, ap1_eq]; rfl
  have hf : (ap1 room).fuel = -1 := by rw [ap1, ap1_eq]; rfl
  have e3 : (3 : Int).toNat = 3 := rfl
  rw [Dr.write, Dr.step, if_neg (by simp [hd]), if_neg (by simp)]
  simp only [e3, hp, hr, hu]
  rw [if_neg (by simp; omega), if_neg (by rw [hf]; decide)]
  refine Prod.ext rfl ?_
  rw [ap1, ap1_eq]
  simp only [List.nil_append, Dr.set, Dr.burn, Dr.new]
  simp only [Dr.mk.injEq, true_and]
  refine ⟨?_, by simp⟩
  funext i
  by_cases hi : i = 3 <;> simp [hi]
theorem ap3_eq (room : Int) (t : List UInt8) (h : (t.length : Int) ≤ room) : (ap2 room t).sync 3 = (0, (Dr.new room).set 3 ⟨true, t, t.length⟩) := by
  have hd : (ap2 room t).down = false := by rw [ap2, ap2_eq room t h]; rfl
  have hp : (ap2 room t).p 3 = ⟨true, t, 0⟩ := by rw [ap2, ap2_eq room t h, Dr.set_same]
  have hf : (ap2 room t).fuel = -1 := by rw [ap2, ap2_eq room t h]; rfl
  have e3 : (3 : Int).toNat = 3 := rfl
  rw [Dr.sync, Dr.step, if_neg (by simp [hd]), if_neg (by simp)]
  simp only [e3, hp, missing]
  rw [if_neg (by simp), if_neg (by rw [hf]; decide)]
  refine Prod.ext rfl ?_
  rw [ap2, ap2_eq room t h]
  simp only [Pt.settle, List.take_length, Nat.min_self, Dr.set, Dr.burn, Dr.new]
  simp only [Dr.mk.injEq, true_and]
  refine ⟨?_, by simp⟩
  funext i
  by_cases hi : i = 3 <;> simp [hi]

/-- What holds of the drum all along. -/
structure ApInv (room : Int) (t : List UInt8) (D : Dr) : Prop where
  ok : D.Ok
  room_eq : D.room = room
  p3 : D.p 3 = ⟨true, t, t.length⟩

theorem ApInv.act {room : Int} {t : List UInt8} {D : Dr} (h : ApInv room t D) {c : Ac} (hc : c.ok) (ha : c.area ≠ 3) : ApInv room t (D.act c).2 :=
  ⟨h.ok.act hc, by rw [act_room, h.room_eq], by rw [act_other D c 3 (by simpa using ha) (by rw [h.p3])]; exact h.p3⟩
theorem ApInv.has {room : Int} {t : List UInt8} {D : Dr} (h : ApInv room t D) : D.has 3 = true := by
  have e3 : (3 : Int).toNat = 3 := rfl
  simp [Dr.has, e3, h.p3]
theorem ApInv.read {room : Int} {t : List UInt8} {D : Dr} (h : ApInv room t D) : D.read 3 = if D.down = true then ([], 11) else (t, 0) := by
  have e3 : (3 : Int).toNat = 3 := rfl
  simp [Dr.read, e3, h.p3]
theorem ApInv.fall {room : Int} {t : List UInt8} {D : Dr} (h : ApInv room t D) : ApInv room t (D.fall []) := by
  refine ⟨h.ok.fall _, h.room_eq, ?_⟩
  have hl : D.left [] 3 = t.length := by
    unfold Dr.left
    rw [h.p3]
    simp
  show (D.p 3).settle (D.left [] 3) = _
  rw [hl, h.p3]
  simp [Pt.settle]


set_option maxHeartbeats 1600000 in
theorem apart6 (room : Int) (t : List UInt8) (acts : List Ac) (ao : Option Addr) (b off cap : Nat) (w : World) (hr0 : -9223372036854775808 ≤ room) (hr1 : room ≤ 9223372036854775807)
    (hao : 0 < acts.length → ao = some ⟨b, off, none⟩) (hcell : ∀ i, i < acts.length → AcAt w b off i (acts.getD i dflt) ∧ (acts.getD i dflt).ok) (hN : acts.length < 9223372036854775807) :
    Calls Try.prog 6 #[.int .i64 room, .string (bs t), .slice ao acts.length cap] w fun e w' => e = .returned (.bool true) ∧ Below w.heap.size w w' := by
  have HC : Hid (∀ i, 1 = 1 → i < acts.length → AcAt w b off i (acts.getD i dflt) ∧ (acts.getD i dflt).ok) := fun i _ h => hcell i h
  have HA : Hid (1 = 1 → 0 < acts.length → ao = some ⟨b, off, none⟩) := fun _ => hao
  clear hcell hao
  have hsz := bs_size t
  by_cases hg : 0 ≤ room ∧ room ≤ 5000 ∧ (t.length : Int) ≤ room
  · obtain ⟨hg0, hg1, hg2⟩ := hg
    have HE1 : Hid ((Dr.new room).lay 3 = (0, ap1 room)) := by
      show _ = _
      exact Prod.ext (by rw [ap1_eq]) rfl
    have HE2 : Hid ((ap1 room).write 3 t = (0, ap2 room t)) := by
      show _ = _
      exact Prod.ext (by rw [ap2_eq room t hg2]) rfl
    have HE3 : Hid ((ap2 room t).sync 3 = (0, ap3 room t)) := by
      show _ = _
      exact Prod.ext (by rw [ap3_eq room t hg2]) rfl
    have HI : Hid (ApInv room t (ap3 room t)) := by
      have h0 := Dr.Ok.new room hg0 (by omega)
      exact ⟨((h0.lay 3).write 3 t).sync 3, by rw [ap3, ap3_eq room t hg2]; rfl, by rw [ap3, ap3_eq room t hg2, Dr.set_same]⟩
    go_enter Try.func6, Try.ntmps6
    go_wp2_with fail
    refine (awake7 _).mono ?_
    rintro e w1 ⟨rfl, k1⟩
    have K1 : Hid (Below w.heap.size w w1) := k1
    clear k1
    go_wp2_with fail
    refine (new8 room _ (by omega) (by omega)).mono ?_
    rintro e w2 ⟨rfl, h2, k2⟩
    obtain ⟨pb, hpb⟩ : ∃ pb, pb = w1.heap.size := ⟨_, rfl⟩
    rw [← hpb] at h2 k2 ⊢
    have HP : Hid (w.heap.size ≤ pb) := by
      have := K1.out.size
      show _ ≤ _
      omega
    have H2 : Hid (DrumAt pb (Dr.new room) w2 ∧ Below w.heap.size w w2) := ⟨h2, K1.out.trans (k2.mono (by rw [hpb]; exact K1.out.size))⟩
    clear hpb h2 k2 K1
    go_wp2_with fail
    refine (lay11 pb _ 3 _ H2.out.1 (Dr.Ok.new room (by omega) (by omega))).mono ?_
    rw [HE1.out]
    rintro e w3 ⟨rfl, h3, k3⟩
    have H3 : Hid (DrumAt pb (ap1 room) w3 ∧ Below w.heap.size w w3) := ⟨h3, H2.out.2.trans (k3.below.mono HP.out)⟩
    clear H2 h3 k3
    go_wp2_with fail
    refine (write12 pb _ 3 t _ H3.out.1 ((Dr.Ok.new room (by omega) (by omega)).lay 3)).mono ?_
    rw [HE2.out]
    rintro e w4 ⟨rfl, h4, k4⟩
    have H4 : Hid (DrumAt pb (ap2 room t) w4 ∧ Below w.heap.size w w4) := ⟨h4, H3.out.2.trans (k4.below.mono HP.out)⟩
    clear H3 h4 k4
    go_wp2_with fail
    refine (sync28 pb _ 3 _ H4.out.1 (((Dr.Ok.new room (by omega) (by omega)).lay 3).write 3 t)).mono ?_
    rw [HE3.out]
    rintro e w5 ⟨rfl, h5, k5⟩
    have H5 : Hid (DrumAt pb (ap3 room t) w5 ∧ Below w.heap.size w w5) := ⟨h5, H4.out.2.trans (k5.below.mono HP.out)⟩
    clear H4 h5 k5 HE1 HE2 HE3
    go_wp2_with fail
    go_loopw [54] (fun i wr => ∃ (k : Nat) (D : Dr), k ≤ acts.length ∧ i = .int .i64 k ∧ DrumAt pb D wr ∧ ApInv room t D ∧ Below w.heap.size w wr) (fun i _ => acts.length - (intOf i).toNat)
    case atStart => exact ⟨0, ap3 room t, Nat.zero_le _, rfl, H5.out.1, HI.out, H5.out.2⟩
    case round =>
      obtain ⟨k, D, hk, rfl, hD, hI, hbel⟩ := hrel
      have HW : Hid (DrumAt pb D wr ∧ ApInv room t D ∧ Below w.heap.size w wr) := ⟨hD, hI, hbel⟩
      clear hD hI hbel H5 HI
      by_cases hkl : k < acts.length
      · obtain ⟨hat, hok⟩ := HC.out k (by trivial) hkl
        obtain ⟨x, hx⟩ : ∃ x, x = acts.getD k dflt := ⟨_, rfl⟩
        rw [← hx] at hat hok
        clear hx
        obtain rfl : ao = some ⟨b, off, none⟩ := HA.out (by trivial) (by omega)
        obtain ⟨y0, y1, y2, y3, y4⟩ := hat.on HW.out.2.2
        have HX : Hid (ArgKeep w x.kv x.keep ∧ x.ok) := ⟨hat.keep, hok⟩
        clear hat hok
        obtain ⟨what, area, n, text, keep, kv⟩ := x
        dsimp only at y0 y1 y2 y3 y4
        obtain ⟨ka, kc, hkv, _⟩ := id HX.out.1
        dsimp only at hkv
        subst hkv
        obtain ⟨bk, hbk⟩ : ∃ bk : Bool, ((k : Int) == 80) = bk := ⟨_, rfl⟩
        cases bk
        · obtain ⟨ba, hba⟩ : ∃ ba : Bool, (area == 3) = ba := ⟨_, rfl⟩
          cases ba
          · have HN : Hid (area ≠ 3) := by
              show _ ≠ _
              intro h
              rw [h] at hba
              simp at hba
            go_wp2_with fail
            refine (do22 pb D ⟨what, area, n, text, keep, .slice ka keep.length kc⟩ _ (HW.out.1.alloc _) HW.out.2.1.ok HX.out.2 (HX.out.1.at (HW.out.2.2.alloc HW.out.2.2.size _) HP.out)).mono ?_
            have HI2 : Hid (ApInv room t (D.act ⟨what, area, n, text, keep, .slice ka keep.length kc⟩).2) := HW.out.2.1.act HX.out.2 HN.out
            generalize D.act ⟨what, area, n, text, keep, .slice ka keep.length kc⟩ = r at *
            obtain ⟨r1, D2⟩ := r
            dsimp only at HI2 ⊢
            rintro e w6 ⟨rfl, h6, k6⟩
            have H6 : Hid (DrumAt pb D2 w6 ∧ Below w.heap.size w w6) := ⟨h6, (HW.out.2.2.alloc HW.out.2.2.size _).trans (k6.below.mono HP.out)⟩
            clear h6 k6
            have hfit : (D2.used : Int) ≤ room := by have := HI2.out.ok.fits; rw [HI2.out.room_eq] at this; exact this
            go_wp2_with fail
            refine (read10 pb _ 3 _ H6.out.1).mono ?_
            rw [HI2.out.read]
            obtain ⟨dn, hdn⟩ : ∃ dn, D2.down = dn := ⟨_, rfl⟩
            rw [hdn]
            have HDn : Hid (D2.down = dn) := hdn
            clear hdn
            cases dn
            · rw [show (if false = true then (([] : List UInt8), (11 : Int)) else (t, 0)) = (t, 0) from rfl]
              rintro e w7 ⟨rfl, rfl⟩
              go_wp2_with fail
              refine (used14 pb _ _ H6.out.1 (by omega)).mono ?_
              rintro e w7 ⟨rfl, rfl⟩
              go_wp2_with fail
              refine (has15 pb _ 3 _ H6.out.1).mono ?_
              rw [HI2.out.has]
              rintro e w7 ⟨rfl, rfl⟩
              go_wp2
              go_roundw
              case rel => exact ⟨k + 1, D2, by omega, by go_num, H6.out.1, HI2.out, H6.out.2⟩
              case measure => simp [intOf]; omega
            · rw [show (if true = true then (([] : List UInt8), (11 : Int)) else (t, 0)) = ([], 11) from rfl]
              rintro e w7 ⟨rfl, rfl⟩
              go_wp2_with fail
              refine (used14 pb _ _ H6.out.1 (by omega)).mono ?_
              rintro e w7 ⟨rfl, rfl⟩
              go_wp2_with fail
              refine (has15 pb _ 3 _ H6.out.1).mono ?_
              rw [HI2.out.has]
              rintro e w7 ⟨rfl, rfl⟩
              go_wp2_with fail
              refine (down13d pb _ _ H6.out.1).mono ?_
              rw [HDn.out]
              rintro e w7 ⟨rfl, rfl⟩
              go_wp2
              go_roundw
              case rel => exact ⟨k + 1, D2, by omega, by go_num, H6.out.1, HI2.out, H6.out.2⟩
              case measure => simp [intOf]; omega
          · go_wp2
            go_roundw
            case rel => exact ⟨k + 1, D, by omega, by go_num, HW.out.1.alloc _, HW.out.2.1, HW.out.2.2.alloc HW.out.2.2.size _⟩
            case measure => simp [intOf]; omega
        · go_wp2_with fail
          refine (fall26 pb _ _ [] _ (HW.out.1.alloc _) HW.out.2.1.ok (KeepAt.nil _ _) (by simp) (by simp)).mono ?_
          rintro e w6 ⟨rfl, h6, k6⟩
          have H6 : Hid (DrumAt pb (D.fall []) w6 ∧ Below w.heap.size w w6) := ⟨h6, (HW.out.2.2.alloc HW.out.2.2.size _).trans (k6.below.mono HP.out)⟩
          clear h6 k6
          go_wp2_with fail
          refine (read10 pb _ 3 _ H6.out.1).mono ?_
          rw [HW.out.2.1.fall.read, show (if (D.fall []).down = true then (([] : List UInt8), (11 : Int)) else (t, 0)) = (t, 0) from rfl]
          rintro e w7 ⟨rfl, rfl⟩
          go_wp2
          go_ret
          exact ⟨rfl, H6.out.2⟩
      · go_wp2_with fail
        refine (fall26 pb _ _ [] _ HW.out.1 HW.out.2.1.ok (KeepAt.nil _ _) (by simp) (by simp)).mono ?_
        rintro e w6 ⟨rfl, h6, k6⟩
        have H6 : Hid (DrumAt pb (D.fall []) w6 ∧ Below w.heap.size w w6) := ⟨h6, HW.out.2.2.trans (k6.below.mono HP.out)⟩
        clear h6 k6
        go_wp2_with fail
        refine (read10 pb _ 3 _ H6.out.1).mono ?_
        rw [HW.out.2.1.fall.read, show (if (D.fall []).down = true then (([] : List UInt8), (11 : Int)) else (t, 0)) = (t, 0) from rfl]
        rintro e w7 ⟨rfl, rfl⟩
        go_wp2
        go_ret
        exact ⟨rfl, H6.out.2⟩
  · go_enter Try.func6, Try.ntmps6
    go_wp2_with fail
    refine (awake7 _).mono ?_
    rintro e w1 ⟨rfl, k1⟩
    have K1 : Hid (Below w.heap.size w w1) := k1
    clear k1
    by_cases h1 : room < 0
    · clear hg
      go_wp2
      go_ret
      exact ⟨rfl, K1.out⟩
    · by_cases h2 : 5000 < room
      · clear hg
        go_wp2
        go_ret
        exact ⟨rfl, K1.out⟩
      · have h4 : room < (t.length : Int) := by omega
        clear hg
        go_wp2
        go_ret
        exact ⟨rfl, K1.out⟩

end Go.Proofs.Ytlgmnjjjaplgcaa
