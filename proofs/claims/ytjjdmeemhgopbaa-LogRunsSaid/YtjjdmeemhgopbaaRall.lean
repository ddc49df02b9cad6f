/-
  The document's log: its frames, Read, Append, lay, Renew, Open; what is alone; both drums held against each other; the program's log and the document's beside each other.
-/
import Derived.Test.YtjjdmeemhgopbaaHead
import Derived.Test.YtjjdmeemhgopbaaScan
import Derived.Test.YtjjdmeemhgopbaaApnd
import Derived.Test.YtjjdmeemhgopbaaRenew
import Derived.Test.YtjjdmeemhgopbaaDRefAll
import Derived.Test.YtjjdmeemhgopbaaKe
import Derived.Test.YtjjdmeemhgopbaaOpn
import Derived.Test.YtjjdmeemhgopbaaActs
import Derived.Test.YtjjdmeemhgopbaaSam
import Derived.Test.YtjjdmeemhgopbaaWak
namespace Go.Proofs.Ytjjdmeemhgopbaa
open Go.RowKit Go.Sort
open Drm (Dr Pt DrumAt DrumIn)

theorem cell_at_below {w w2 : World} {b o : Nat} {u : Value} (h : w.cell? ⟨b, o, none⟩ = some u) (hb : Below w.heap.size w w2) : w2.cell? ⟨b, o, none⟩ = some u := by
  have hlt : b < w.heap.size := World.block_lt_of_cell? _ _ h
  unfold World.cell? at h ⊢
  dsimp only at h ⊢
  rw [hb.block b hlt]
  exact h

/-- Frames behind each other. -/
def framesOf (L : List (List UInt8)) : List UInt8 := L.flatMap frameOf
theorem framesOf_take (L : List (List UInt8)) (k : Nat) (h : k < L.length) : framesOf (L.take (k + 1)) = framesOf (L.take k) ++ frameOf (L.getD k []) := by
  have e : L.take (k + 1) = L.take k ++ [L.getD k []] := by
    rw [List.take_add_one]
    simp [List.getElem?_eq_getElem h, List.getD]
  rw [e]
  simp [framesOf]
theorem framesOf_len (L : List (List UInt8)) (k : Nat) (h : ∀ p ∈ L, p.length ≤ 16384) (hk : k ≤ L.length) : (framesOf (L.take k)).length ≤ 16400 * k := by
  induction k with
  | zero => simp [framesOf]
  | succ k ih =>
    rw [framesOf_take L k (by omega), List.length_append, frameOf_len]
    have h1 := ih (by omega)
    have h2 := h (L.getD k []) (by simp [List.getD, List.getElem?_eq_getElem (by omega : k < L.length)])
    have h3 := sz_small (n := (L.getD k []).length) h2
    omega

set_option maxHeartbeats 1600000 in
theorem frames42 (pb : Nat) (L : List (List UInt8)) (v : Value) (w : World) (hv : StrsAt pb v L w) (hL : ∀ p ∈ L, p.length ≤ 16384) (hn : L.length ≤ 2000) :
    Calls Try.prog 42 #[v] w fun e w' => e = .returned (.string (bs (framesOf L))) ∧ Below w.heap.size w w' := by
  obtain ⟨ao, cap, rfl, hvx⟩ := hv
  have HV : Hid _ := hvx
  have HL : Hid (∀ p ∈ L, p.length ≤ 16384) := hL
  clear hvx hL
  go_enter Try.func42, Try.ntmps42
  go_wp2_with fail
  go_loopw [3, 4] (fun s i wr => ∃ k : Nat, k ≤ L.length ∧ i = .int .i64 k ∧ s = .string (bs (framesOf (L.take k))) ∧ Below w.heap.size w wr) (fun _ i _ => L.length - (intOf i).toNat)
  case atStart => exact ⟨0, by omega, rfl, rfl, Below.refl _ _⟩
  case round =>
    obtain ⟨k, hk, rfl, rfl, hB⟩ := hrel
    have HB : Hid (Below w.heap.size w wr) := hB
    clear hB
    have hfl := framesOf_len L k HL.out hk
    by_cases hlt : k < L.length
    · obtain ⟨b, o, rfl, hne, hc, hor⟩ := HV.out (by omega)
      have hck := cell_at_below (hc k hlt) HB.out
      clear hc hor
      have HT : Hid (framesOf (L.take (k + 1)) = framesOf (L.take k) ++ frameOf (L.getD k [])) := framesOf_take L k hlt
      have hpl : (L.getD k []).length ≤ 16384 := HL.out _ (by simp [List.getD, List.getElem?_eq_getElem hlt])
      generalize framesOf (L.take k) = F at *
      generalize L.getD k [] = p at *
      have hfp : (frameOf p).length ≤ 16400 := by
        rw [frameOf_len]
        have := sz_small hpl
        omega
      have HW : Hid (∀ w, 1 = 1 → Calls Try.prog 65 #[.string (bs p)] w fun e w' => e = .returned (.tuple #[.string (bs (frameOf p)), .int .i64 0]) ∧ Below w.heap.size w w') := fun w _ => refWrap18 p w hpl
      generalize frameOf p = G at *
      have hcat : bs F ++ bs G = bs (F ++ G) := bs_append F G
      have s1 := bs_size F
      have s2 := bs_size G
      have hsz : ¬ 9223372036854775807 < (bs F).size + (bs G).size := by rw [s1, s2]; omega
      go_wp2_with (go_at_call 65; refine (HW.out _ (by trivial)).mono ?_; rintro e w5 ⟨rfl, hb5⟩; have H5 : Hid (Below w.heap.size w w5) := HB.out.trans (hb5.mono HB.out.size); clear hb5)
      go_roundw
      case rel => exact ⟨k + 1, by omega, by go_num, by rw [HT.out], H5.out⟩
      case measure => simp [intOf]; omega
    · have hkL : L.take k = L := List.take_of_length_le (by omega)
      rw [hkL]
      go_wp2_with fail
      go_ret
      exact ⟨rfl, HB.out⟩

set_option maxHeartbeats 400000 in
theorem rend56 (rb : Nat) (st : St) (w : World) (h : RdAt 108 rb st w) : Calls Try.prog 56 #[.pointer (some ⟨rb, 0, none⟩)] w fun e w' => e = .returned (.int .i64 (rdEnd st)) ∧ w = w' := by
  obtain ⟨l, e⟩ := st
  obtain ⟨c0, c1, f0, f1⟩ := two_cells h
  clear h
  dsimp only at c0 c1
  by_cases he : e = 0
  · subst he
    cases l with
    | nil =>
      have hb := bs_nil_empty
      go_enter Try.func56, Try.ntmps56
      go_wp2_with fail
      go_ret
      exact ⟨rfl, rfl⟩
    | cons b r =>
      have hb : (bs (b :: r)).toList.isEmpty = false := by rw [bs_empty]; rfl
      go_enter Try.func56, Try.ntmps56
      go_wp2_with fail
      go_ret
      exact ⟨rfl, rfl⟩
  · have he' : ((e : Int) != 0) = true := by simp; omega
    go_enter Try.func56, Try.ntmps56
    go_wp2_with fail
    go_ret
    exact ⟨by simp [rdEnd, he], rfl⟩

end Go.Proofs.Ytjjdmeemhgopbaa

namespace Go.Proofs.Ytjjdmeemhgopbaa
open Go.RowKit Go.Sort
open Drm (Dr Pt DrumAt DrumIn)

theorem results_tmp4 {fn : Func} {t u v x : Tmp} (h : fn.results = #[.tmp t, .tmp u, .tmp v, .tmp x]) (tmps : Array Value) (P : Program) (w : World) :
    (results fn tmps).run P w = .ok (.tuple #[tmps.getD t undef, tmps.getD u undef, tmps.getD v undef, tmps.getD x undef]) w := by
  simp [results, h]

/-- What the loop knows. -/
def RdInv (s : List UInt8) (g : Nat) (b : Bool) (R : List (List UInt8)) (t : Nat) : Prop :=
  (b = false ∧ lgOf s = (match cop s R t with | none => none | some x => some (g, app s x.1 x.2))) ∨ (b = true ∧ lgOf s = some (g, app s R t))

/-- Behind an append to the row of records. -/
theorem grown_rd {ao : Option Addr} {cp : Nat} {L : List (List UInt8)} {r : List UInt8} {w w1 w3 : World} {v' : Value} (ht : TxAt w.heap.size (.slice ao L.length cp) L w1) (hb : Below w.heap.size w w1)
    (hown : w3.ownsRow w.heap.size 9 1 v' (L.length + 1) (sl L ++ [.string (bs r)])) (hg : (w1.alloc (.cells #[.string (bs r)] 9)).grownBy w3 (Value.ownBlock (.slice ao L.length cp))) :
    ∃ ao2 cp2, v' = .slice ao2 (L.length + 1) cp2 ∧ TxAt w.heap.size v' (L ++ [r]) w3 ∧ Below w.heap.size w w3 := by
  have h3 : TxAt w.heap.size v' (L ++ [r]) w3 := by
    unfold TxAt
    rw [sl_snoc, List.length_append]
    exact hown
  obtain ⟨ao2, cp2, e⟩ := tx_shape h3
  rw [List.length_append] at e
  exact ⟨ao2, cp2, e, h3, (hb.alloc hb.size _).grown hg (by have := hb.size; simp; omega) (fun k hk => (World.ownsRow.lt ht k hk).1)⟩

set_option maxHeartbeats 3200000 in
set_option maxRecDepth 100000 in
theorem rread31 (s : List UInt8) (w : World) (hs : s.length ≤ 1048576) :
    Calls Try.prog 31 #[.string (bs s)] w fun e w' => (∃ V, e = .returned (.tuple #[.int .u64 (scanOf s).1.gen, V, .int .i64 (scanOf s).1.fin, .bool (scanOf s).2]) ∧ TxAt w.heap.size V (scanOf s).1.recs w') ∧ Below w.heap.size w w' := by
  obtain ⟨i0, hi, hz0, hz1, hz2⟩ := info_parts info9
  have hsz := bs_size s
  have HNx : Hid (∀ D w, D.length ≤ 1048576 → Calls Try.prog 54 #[.string (bs D)] w fun e w' => e = .returned (.tuple #[.string (bs (rdNext D).1), .int .i64 (rdNext D).2.1, .int .i64 (rdNext D).2.2]) ∧ Below w.heap.size w w') := fun D w h => refNext11 D w (by omega)
  obtain ⟨p, n, x, hf⟩ : ∃ p n x, rdNext s = (p, n, x) := ⟨_, _, _, rfl⟩
  have hnx : nx s = if x ≠ 0 ∨ p = [] then (0, [], 0) else (p.headD 0, p.tail, n) := by unfold nx; rw [hf]
  have HN1 : Hid (1 = 1 → Calls Try.prog 54 #[.string (bs s)] w fun e w' => e = .returned (.tuple #[.string (bs p), .int .i64 n, .int .i64 x]) ∧ Below w.heap.size w w') := fun _ => by
    have := HNx.out s w hs
    rw [hf] at this
    exact this
  clear hf
  have hno : (nx s).1 ≠ 71 → scanOf s = (Ct.zero, false) := fun h => scan_none (lg_not h)
  by_cases hx : x = 0
  · subst hx
    cases p with
    | nil =>
      have hsc := hno (by rw [hnx, if_pos (.inr rfl)]; decide)
      rw [hsc]
      have hb := bs_nil_empty
      clear hno hsc hnx
      go_enter Try.func31, Try.ntmps31
      go_wp2_with (go_at_call 54; refine (HN1.out (by trivial)).mono ?_; rintro e w2 ⟨rfl, hb2⟩)
      (try simp only [Exit.inBlock, Exit.then]); refine bodyPost_ret (results_tmp4 rfl _ _ _) rfl ?_
      exact ⟨⟨_, rfl, tx_nil _ _⟩, hb2⟩
    | cons b r =>
      have hnx' : nx s = (b, r, n) := by rw [hnx, if_neg (by simp)]; rfl
      have hb : (bs (b :: r)).toList.isEmpty = false := by rw [bs_empty]; rfl
      have hss : (bs (b :: r)).size = r.length + 1 := bs_size _
      have hg0 : ∀ h, (bs (b :: r))[0]'h = b := fun _ => rfl
      have hd : (bs (b :: r)).extract 1 (r.length + 1) = bs r := by rw [← hss]; exact bs_drop (b :: r) 1
      by_cases hk : b = 71
      · have hm18 : (18446744073709551615 : Nat) = 18446744073709551615 := rfl
        obtain ⟨st, hst⟩ : ∃ st, st = rdNum 18446744073709551615 ⟨r, 0⟩ := ⟨_, rfl⟩
        have hrl : r.length < 16384 := by have := nx_rest s; rw [hnx'] at this; exact this
        have HNum : Hid (∀ rb w, RdAt 108 rb ⟨r, 0⟩ w → Calls Try.prog 55 #[.pointer (some ⟨rb, 0, none⟩), .int .u64 (18446744073709551615 : Nat)] w fun e w' => e = .returned (.int .u64 st.1) ∧ RdAt 108 rb st.2 w' ∧ Sole rb w w') := by
          rw [hst]
          exact fun rb w h => num26 rb ⟨r, 0⟩ 18446744073709551615 w h (by show r.length < _; omega)
        have hnB : numB r = decide (rdEnd st.2 = 0) := by rw [hst]; rfl
        have hnone : numB r = false → scanOf s = (Ct.zero, false) := fun h => scan_none (lg_nonum (by rw [hnx']; exact h))
        have hyes : numB r = true → lgOf s = (match cop s [] n with | none => none | some x => some (st.1, app s x.1 x.2)) := fun h => by
          have := lg_num (s := s) (by rw [hnx']; exact hk) (by rw [hnx']; exact h)
          rw [hnx'] at this
          rw [hst]
          exact this
        have hnle : n ≤ s.length := by have := nx_le s; rw [hnx'] at this; exact this
        have hk' : ((b.toNat : Int) != 71) = false := by have := u8_yes (n := 71) (by decide) hk; simpa using this
        have HS : Hid ((numB r = false → scanOf s = (Ct.zero, false)) ∧ (numB r = true → lgOf s = (match cop s [] n with | none => none | some x => some (st.1, app s x.1 x.2)))) := ⟨hnone, hyes⟩
        have HNB : Hid (numB r = decide (rdEnd st.2 = 0)) := hnB
        obtain ⟨g, st2⟩ := st
        clear hst hnB hnone hyes hno hnx hnx' hk hm18
        go_enter Try.func31, Try.ntmps31
        go_wp2_with (first | (go_at_call 54; refine (HN1.out (by trivial)).mono ?_; rintro e w2 ⟨rfl, hb2⟩) | fail)
        obtain ⟨rb, hrb⟩ : ∃ rb, rb = w2.heap.size := ⟨_, rfl⟩
        have hr0 : RdAt 108 rb ⟨r, 0⟩ (w2.alloc (.cells #[.string (bs r), .int .i64 0] 108)) := by rw [hrb]; exact heap_alloc_new w2 _
        have hb1 : Below w.heap.size w (w2.alloc (.cells #[.string (bs r), .int .i64 0] 108)) := hb2.trans ((Below.refl _ _).alloc hb2.size _)
        have hwr : w.heap.size ≤ rb := by rw [hrb]; exact hb2.size
        rw [← hrb]
        clear hrb hb2
        refine (HNum.out rb _ hr0).mono ?_
        rintro e w3 ⟨rfl, h1, k1⟩
        have H3 : Hid (RdAt 108 rb st2 w3 ∧ Below w.heap.size w w3) := ⟨h1, hb1.trans (k1.below hwr hb1.size)⟩
        clear h1 k1 HNum hr0 hb1
        have HE : Hid (1 = 1 → Calls Try.prog 56 #[.pointer (some ⟨rb, 0, none⟩)] w3 fun e w' => e = .returned (.int .i64 (rdEnd st2)) ∧ w3 = w') := fun _ => rend56 rb st2 w3 H3.out.1
        have HNB : Hid (numB r = decide (rdEnd st2 = 0)) := HNB
        generalize rdEnd st2 = ee at *
        by_cases he : ee = 0
        · subst he
          have hyes := HS.out.2 (by rw [HNB.out]; rfl)
          have HY : Hid (lgOf s = (match cop s [] n with | none => none | some x => some (g, app s x.1 x.2))) := hyes
          clear hyes HS HNB
          go_wp2_with (go_at_call 56; refine (HE.out (by trivial)).mono ?_; rintro e w4 ⟨rfl, rfl⟩)
          go_loopw [11, 12, 13] (fun va vl vb wr => ∃ (t : Nat) (R : List (List UInt8)) (q : Bool), va = .int .i64 t ∧ TxAt w.heap.size vl R wr ∧ vb = .bool q ∧ t ≤ s.length ∧ R.length ≤ t ∧ RdInv s g q R t ∧ Below w.heap.size w wr) (fun va _ _ _ => 2000000 - (intOf va).toNat)
          case atStart => exact ⟨n, [], false, rfl, tx_nil _ _, rfl, hnle, Nat.zero_le _, .inl ⟨rfl, HY.out⟩, H3.out.2⟩
          case round =>
            clear hg0 hd hss hb hk' HE HY H3
            obtain ⟨t, R, q, rfl, htx, rfl, htl, hRt, hinv, hB⟩ := hrel
            obtain ⟨ao, cp, rfl⟩ := tx_shape htx
            have HB : Hid (TxAt w.heap.size (.slice ao R.length cp) R wr ∧ Below w.heap.size w wr) := ⟨htx, hB⟩
            clear htx hB
            have HI : Hid (RdInv s g q R t) := hinv
            clear hinv
            have hdr := bs_drop s t
            rw [hsz] at hdr
            have hcm := cop_more (l := s) (R := R) (a := t)
            have hce := cop_end (l := s) (R := R) (a := t)
            have hcn := cop_none (l := s) (R := R) (a := t)
            have ham := app_more (l := s) (R := R) (a := t)
            have hae := app_end (l := s) (R := R) (a := t)
            have hnl := nx_le (s.drop t)
            have hrl2 := nx_rest (s.drop t)
            have hpos := nx_pos (l := s.drop t)
            have hDl : (s.drop t).length = s.length - t := List.length_drop
            generalize s.drop t = D at *
            obtain ⟨p, m, x, hf⟩ : ∃ p m x, rdNext D = (p, m, x) := ⟨_, _, _, rfl⟩
            have hnx : nx D = if x ≠ 0 ∨ p = [] then (0, [], 0) else (p.headD 0, p.tail, m) := by unfold nx; rw [hf]
            have HN2 : Hid (1 = 1 → Calls Try.prog 54 #[.string (bs D)] wr fun e w' => e = .returned (.tuple #[.string (bs p), .int .i64 m, .int .i64 x]) ∧ Below wr.heap.size wr w') := fun _ => by
              have := HNx.out D wr (by omega)
              rw [hf] at this
              exact this
            clear hf
            have HFN : Hid ((nx D).1 ≠ 67 ∧ ¬ ((nx D).1 = 69 ∧ (nx D).2.1 = []) → q = false → scanOf s = (Ct.zero, false)) := fun h hq => by
              rcases HI.out with ⟨_, h2⟩ | ⟨h1, _⟩
              · exact scan_none (by rw [h2, hcn h.1 h.2])
              · rw [hq] at h1; exact absurd h1 (by decide)
            have HTN : Hid ((nx D).1 ≠ 82 → q = true → scanOf s = (⟨g, R, t, s.length - t⟩, true)) := fun h hq => by
              rcases HI.out with ⟨h1, _⟩ | ⟨_, h2⟩
              · rw [hq] at h1; exact absurd h1 (by decide)
              · exact scan_some (by rw [h2, hae h])
            have HFC : Hid ((nx D).1 = 67 → q = false → RdInv s g false (R ++ [(nx D).2.1]) (t + (nx D).2.2)) := fun h hq => by
              rcases HI.out with ⟨_, h2⟩ | ⟨h1, _⟩
              · exact .inl ⟨rfl, by rw [h2, hcm h]⟩
              · rw [hq] at h1; exact absurd h1 (by decide)
            have HFE : Hid ((nx D).1 = 69 → (nx D).2.1 = [] → q = false → RdInv s g true R (t + (nx D).2.2)) := fun h h3 hq => by
              rcases HI.out with ⟨_, h2⟩ | ⟨h1, _⟩
              · exact .inr ⟨rfl, by rw [h2, hce h h3]⟩
              · rw [hq] at h1; exact absurd h1 (by decide)
            have HTR : Hid ((nx D).1 = 82 → q = true → RdInv s g true (R ++ [(nx D).2.1]) (t + (nx D).2.2)) := fun h hq => by
              rcases HI.out with ⟨h1, _⟩ | ⟨_, h2⟩
              · rw [hq] at h1; exact absurd h1 (by decide)
              · exact .inr ⟨rfl, by rw [h2, ham h]⟩
            clear hcm hce hcn ham hae HI
            have hbrk : (nx D).1 ≠ 67 ∧ ¬ ((nx D).1 = 69 ∧ (nx D).2.1 = []) → (nx D).1 ≠ 82 → scanOf s = if q then (⟨g, R, t, s.length - t⟩, true) else (Ct.zero, false) := fun h1 h2 => by
              cases q
              · exact HFN.out h1 rfl
              · exact HTN.out h2 rfl
            by_cases hx : x = 0
            · subst hx
              cases p with
              | nil =>
                have hz : nx D = (0, [], 0) := by rw [hnx, if_pos (.inr rfl)]
                have HSC : Hid _ := hbrk (by rw [hz]; decide) (by rw [hz]; decide)
                clear hbrk HFN HTN HFC HFE HTR hnx hz hpos hrl2 hnl
                have hb := bs_nil_empty
                cases q
                all_goals
                  go_wp2_with (go_at_call 54; refine (HN2.out (by trivial)).mono ?_; rintro e w5 ⟨rfl, hb5⟩)
                  (try simp only [Exit.inBlock, Exit.then]); refine bodyPost_ret (results_tmp4 rfl _ _ _) rfl ?_
                  rw [HSC.out]
                · exact ⟨⟨_, rfl, tx_nil _ _⟩, HB.out.2.trans (hb5.mono HB.out.2.size)⟩
                · exact ⟨⟨_, rfl, HB.out.1.on hb5⟩, HB.out.2.trans (hb5.mono HB.out.2.size)⟩
              | cons k r2 =>
                have hz : nx D = (k, r2, m) := by rw [hnx, if_neg (by simp)]; rfl
                rw [hz] at hbrk HFN HTN HFC HFE HTR hpos hrl2 hnl
                clear hnx hz
                have hb : (bs (k :: r2)).toList.isEmpty = false := by rw [bs_empty]; rfl
                have hss : (bs (k :: r2)).size = r2.length + 1 := bs_size _
                have hg0 : ∀ h, (bs (k :: r2))[0]'h = k := fun _ => rfl
                have hd : (bs (k :: r2)).extract 1 (r2.length + 1) = bs r2 := by rw [← hss]; exact bs_drop (k :: r2) 1
                have hkE : k = 69 ∧ r2 = [] → ((bs (k :: r2)).toList == [69]) = true := fun h => by rw [toList_list, bs_data, h.1, h.2]; rfl
                have hkE' : ¬ (k = 69 ∧ r2 = []) → ((bs (k :: r2)).toList == [69]) = false := fun h => by rw [toList_list, bs_data]; simpa using h
                have h67 : k = 67 → ((k.toNat : Int) == 67) = true := fun h => u8_yes (n := 67) (by decide) h
                have h67' : k ≠ 67 → ((k.toNat : Int) == 67) = false := fun h => u8_ne (n := 67) h
                have h82 : k = 82 → ((k.toNat : Int) == 82) = true := fun h => u8_yes (n := 82) (by decide) h
                have h82' : k ≠ 82 → ((k.toNat : Int) == 82) = false := fun h => u8_ne (n := 82) h
                dsimp only at hpos hrl2 hnl
                cases q
                · by_cases hE : k = 69 ∧ r2 = []
                  · have hq := hkE hE
                    have hn6 := hpos (by rw [hE.1]; decide)
                    have HR : Hid (RdInv s g true R (t + m)) := HFE.out hE.1 hE.2 rfl
                    clear hbrk HFN HTN HFC HFE HTR hkE hkE' h67 h67' h82 h82' hE hpos
                    go_wp2_with (go_at_call 54; refine (HN2.out (by trivial)).mono ?_; rintro e w5 ⟨rfl, hb5⟩; have H5 : Hid (TxAt w.heap.size (.slice ao R.length cp) R w5 ∧ Below w.heap.size w w5) := ⟨HB.out.1.on hb5, HB.out.2.trans (hb5.mono HB.out.2.size)⟩; clear hb5)
                    go_roundw
                    case rel => exact ⟨t + m, R, true, by go_num, H5.out.1, rfl, by omega, by omega, HR.out, H5.out.2⟩
                    case measure => simp [intOf]; omega
                  · have hq := hkE' hE
                    by_cases hC : k = 67
                    · have hc := h67 hC
                      have hn6 := hpos (by rw [hC]; decide)
                      have HR : Hid (RdInv s g false (R ++ [r2]) (t + m)) := HFC.out hC rfl
                      clear hbrk HFN HTN HFC HFE HTR hkE hkE' h67 h67' h82 h82' hE hpos hC
                      go_wp2_with fail
                      refine (HN2.out (by trivial)).mono ?_
                      rintro e w5 ⟨rfl, hb5⟩
                      have H5 : Hid (TxAt w.heap.size (.slice ao R.length cp) R w5 ∧ Below w.heap.size w w5) := ⟨HB.out.1.on hb5, HB.out.2.trans (hb5.mono HB.out.2.size)⟩
                      clear hb5
                      go_wp2_with (at_builtin; refine wpList_append_own _ rfl (.tmp 76) (.tmp 79) 33 rfl w.heap.size 9 i0 (.string ⟨#[]⟩) 1 16 Try.underlying33 hi hz0 hz1 hz2 rfl (by decide) (.slice ao R.length cp) R.length (sl R) rfl (World.ownsRow.alloc H5.out.1 _) ⟨w5.heap.size, 0, none⟩ 1 1 [.string (bs r2)] rfl rfl (one_new _ _ _) (str_one _) (by unfold maxLen; omega) (by omega) (by have := H5.out.2.size; simp; omega) ?_; intro v' w6 hown' hgrow _; have H6 : Hid _ := grown_rd H5.out.1 H5.out.2 hown' hgrow; clear hown' hgrow)
                      obtain ⟨ao2, cp2, rfl, h6t, h6b⟩ := H6.out
                      go_roundw
                      case rel => exact ⟨t + m, R ++ [r2], false, by go_num, h6t, rfl, by omega, by rw [List.length_append]; show R.length + 1 ≤ _; omega, HR.out, h6b⟩
                      case measure => simp [intOf]; omega
                    · have hc := h67' hC
                      have HSC : Hid _ := HFN.out ⟨hC, hE⟩ rfl
                      clear hbrk HFN HTN HFC HFE HTR hkE hkE' h67 h67' h82 h82' hE hpos hC
                      go_wp2_with (go_at_call 54; refine (HN2.out (by trivial)).mono ?_; rintro e w5 ⟨rfl, hb5⟩)
                      (try simp only [Exit.inBlock, Exit.then]); refine bodyPost_ret (results_tmp4 rfl _ _ _) rfl ?_
                      rw [HSC.out]
                      exact ⟨⟨_, rfl, tx_nil _ _⟩, HB.out.2.trans (hb5.mono HB.out.2.size)⟩
                · by_cases hC : k = 82
                  · have hc := h82 hC
                    have hn6 := hpos (by rw [hC]; decide)
                    have HR : Hid (RdInv s g true (R ++ [r2]) (t + m)) := HTR.out hC rfl
                    clear hbrk HFN HTN HFC HFE HTR hkE hkE' h67 h67' h82 h82' hpos hC
                    go_wp2_with fail
                    refine (HN2.out (by trivial)).mono ?_
                    rintro e w5 ⟨rfl, hb5⟩
                    have H5 : Hid (TxAt w.heap.size (.slice ao R.length cp) R w5 ∧ Below w.heap.size w w5) := ⟨HB.out.1.on hb5, HB.out.2.trans (hb5.mono HB.out.2.size)⟩
                    clear hb5
                    go_wp2_with (at_builtin; refine wpList_append_own _ rfl (.tmp 76) (.tmp 79) 33 rfl w.heap.size 9 i0 (.string ⟨#[]⟩) 1 16 Try.underlying33 hi hz0 hz1 hz2 rfl (by decide) (.slice ao R.length cp) R.length (sl R) rfl (World.ownsRow.alloc H5.out.1 _) ⟨w5.heap.size, 0, none⟩ 1 1 [.string (bs r2)] rfl rfl (one_new _ _ _) (str_one _) (by unfold maxLen; omega) (by omega) (by have := H5.out.2.size; simp; omega) ?_; intro v' w6 hown' hgrow _; have H6 : Hid _ := grown_rd H5.out.1 H5.out.2 hown' hgrow; clear hown' hgrow)
                    obtain ⟨ao2, cp2, rfl, h6t, h6b⟩ := H6.out
                    go_roundw
                    case rel => exact ⟨t + m, R ++ [r2], true, by go_num, h6t, rfl, by omega, by rw [List.length_append]; show R.length + 1 ≤ _; omega, HR.out, h6b⟩
                    case measure => simp [intOf]; omega
                  · have hc := h82' hC
                    have HSC : Hid _ := HTN.out hC rfl
                    clear hbrk HFN HTN HFC HFE HTR hkE hkE' h67 h67' h82 h82' hpos hC
                    go_wp2_with (go_at_call 54; refine (HN2.out (by trivial)).mono ?_; rintro e w5 ⟨rfl, hb5⟩)
                    (try simp only [Exit.inBlock, Exit.then]); refine bodyPost_ret (results_tmp4 rfl _ _ _) rfl ?_
                    rw [HSC.out]
                    exact ⟨⟨_, rfl, HB.out.1.on hb5⟩, HB.out.2.trans (hb5.mono HB.out.2.size)⟩
            · have hx' : ((x : Int) != 0) = true := by simp; omega
              have hz : nx D = (0, [], 0) := by rw [hnx, if_pos (.inl hx)]
              have HSC : Hid _ := hbrk (by rw [hz]; decide) (by rw [hz]; decide)
              clear hbrk HFN HTN HFC HFE HTR hnx hz hpos hrl2 hnl
              cases q
              all_goals
                go_wp2_with (go_at_call 54; refine (HN2.out (by trivial)).mono ?_; rintro e w5 ⟨rfl, hb5⟩)
                (try simp only [Exit.inBlock, Exit.then]); refine bodyPost_ret (results_tmp4 rfl _ _ _) rfl ?_
                rw [HSC.out]
              · exact ⟨⟨_, rfl, tx_nil _ _⟩, HB.out.2.trans (hb5.mono HB.out.2.size)⟩
              · exact ⟨⟨_, rfl, HB.out.1.on hb5⟩, HB.out.2.trans (hb5.mono HB.out.2.size)⟩
        · have he' : ((ee : Int) != 0) = true := by simp; omega
          have hsc := HS.out.1 (by rw [HNB.out]; simp [he])
          have HSC : Hid _ := hsc
          clear hsc HS HNB
          go_wp2_with (go_at_call 56; refine (HE.out (by trivial)).mono ?_; rintro e w4 ⟨rfl, rfl⟩)
          (try simp only [Exit.inBlock, Exit.then]); refine bodyPost_ret (results_tmp4 rfl _ _ _) rfl ?_
          rw [HSC.out]
          exact ⟨⟨_, rfl, tx_nil _ _⟩, H3.out.2⟩
      · have hk' : ((b.toNat : Int) != 71) = true := by have := u8_ne (n := 71) hk; simpa using this
        have hsc := hno (by rw [hnx']; exact hk)
        rw [hsc]
        clear hno hsc hnx hnx' hk
        go_enter Try.func31, Try.ntmps31
        go_wp2_with (go_at_call 54; refine (HN1.out (by trivial)).mono ?_; rintro e w2 ⟨rfl, hb2⟩)
        (try simp only [Exit.inBlock, Exit.then]); refine bodyPost_ret (results_tmp4 rfl _ _ _) rfl ?_
        exact ⟨⟨_, rfl, tx_nil _ _⟩, hb2⟩
  · have hx' : ((x : Int) != 0) = true := by simp; omega
    have hsc := hno (by rw [hnx, if_pos (.inl hx)]; decide)
    rw [hsc]
    clear hno hsc hnx
    go_enter Try.func31, Try.ntmps31
    go_wp2_with (go_at_call 54; refine (HN1.out (by trivial)).mono ?_; rintro e w2 ⟨rfl, hb2⟩)
    (try simp only [Exit.inBlock, Exit.then]); refine bodyPost_ret (results_tmp4 rfl _ _ _) rfl ?_
    exact ⟨⟨_, rfl, tx_nil _ _⟩, hb2⟩

end Go.Proofs.Ytjjdmeemhgopbaa

namespace Go.Proofs.Ytjjdmeemhgopbaa
open Go.RowKit Go.Sort
open Drm (Dr Pt DrumAt DrumIn RefAt)

/-- The document's log: its drum in block rb, its area, its generation. -/
def RbAt (qb rb : Nat) (a : Int) (g : Nat) (w : World) : Prop := w.heap[qb]? = some (.cells #[.pointer (some ⟨rb, 0, none⟩), .int .i64 a, .int .u64 g] 58 (0, 0))
structure RgAt (qb rb : Nat) (a : Int) (g : Nat) (D : Dr) (w : World) : Prop where
  blk : RbAt qb rb a g w
  drum : RefAt rb D w
  ne : rb < qb

section
variable {qb rb g : Nat} {a : Int} {D : Dr} {w : World}
theorem RbAt.lt (h : RbAt qb rb a g w) : qb < w.heap.size := lt_of_block h
theorem RbAt.cells (h : RbAt qb rb a g w) : w.cell? ⟨qb, 0, none⟩ = some (.pointer (some ⟨rb, 0, none⟩)) ∧ w.cell? ⟨qb, 1, none⟩ = some (.int .i64 a) ∧ w.cell? ⟨qb, 2, none⟩ = some (.int .u64 g) ∧ ∀ k, w.frozen? ⟨qb, k, none⟩ = false := by
  unfold RbAt at h
  refine ⟨?_, ?_, ?_, ?_⟩ <;> simp [World.cell?, World.frozen?, h]
theorem RbAt.on {w' : World} (h : RbAt qb rb a g w) (hb : Below w.heap.size w w') : RbAt qb rb a g w' := by
  unfold RbAt
  rw [hb.block qb h.lt]
  exact h
theorem RbAt.sole {w' : World} (h : RbAt qb rb a g w) (hne : rb < qb) (hs : Drm.Sole rb w w') : RbAt qb rb a g w' := by
  unfold RbAt
  rw [hs.block qb h.lt (by omega)]
  exact h
theorem RgAt.on {w' : World} (h : RgAt qb rb a g D w) (hb : Below w.heap.size w w') : RgAt qb rb a g D w' := ⟨h.blk.on hb, h.drum.on hb, h.ne⟩
theorem RgAt.sole {D' : Dr} {w' : World} (h : RgAt qb rb a g D w) (hd : RefAt rb D' w') (hs : Drm.Sole rb w w') : RgAt qb rb a g D' w' := ⟨h.blk.sole h.ne hs, hd, h.ne⟩
/-- What the regions read of it. -/
def RbS (qb rb : Nat) (a : Int) (g : Nat) (w : World) : Prop := w.cell? ⟨qb, 0, none⟩ = some (.pointer (some ⟨rb, 0, none⟩)) ∧ w.cell? ⟨qb, 1, none⟩ = some (.int .i64 a) ∧ Hid (RbAt qb rb a g w)
theorem RbAt.s (h : RbAt qb rb a g w) : w.cell? ⟨qb, 0, none⟩ = some (.pointer (some ⟨rb, 0, none⟩)) ∧ w.cell? ⟨qb, 1, none⟩ = some (.int .i64 a) ∧ Hid (RbAt qb rb a g w) := ⟨h.cells.1, h.cells.2.1, h⟩
end

theorem framesOf_one (p : List UInt8) : framesOf [p] = frameOf p := by simp [framesOf]
theorem framesOf_head (g : Nat) (R : List (List UInt8)) : framesOf ((71 :: numForm g) :: (R.map (fun r => 67 :: r) ++ [[69]])) = headOf g R := by
  simp [framesOf, headOf, copies, List.flatMap_map]

set_option maxHeartbeats 1600000 in
theorem rapp19 (qb rb g : Nat) (a : Int) (D : Dr) (r : List UInt8) (w : World) (h : RgAt qb rb a g D w) (hOk : D.Ok) :
    Calls Try.prog 19 #[.pointer (some ⟨qb, 0, none⟩), .string (bs r)] w fun e w' => e = .returned (.int .i64 (appendF D a r).1) ∧ RefAt rb (appendF D a r).2 w' ∧ Drm.Sole rb w w' := by
  have hs : (bs r).size = r.length := bs_size _
  by_cases hl : 16000 < r.length
  · have hp : appendF D a r = (3, D) := by unfold appendF; rw [if_pos hl]
    rw [hp]
    dsimp only
    have hl' : (16000 : Int) < r.length := by omega
    have H : Hid _ := h
    clear hp h hOk
    go_enter Try.func19, Try.ntmps19
    go_wp2
    go_ret
    exact ⟨rfl, H.out.drum, Drm.Sole.refl _ _⟩
  · have hp : appendF D a r = putF D a (frameOf (82 :: r)) := by unfold appendF; rw [if_neg hl]
    rw [hp]
    have hl' : ¬ (16000 : Int) < r.length := by omega
    obtain ⟨c0, c1, c2, cf⟩ := h.blk.cells
    have hcat : ByteArray.mk #[82] ++ bs r = bs (82 :: r) := bs_append [82] r
    have hsz : ¬ 9223372036854775807 < (ByteArray.mk #[82]).size + (bs r).size := by rw [hs]; show ¬ 9223372036854775807 < 1 + r.length; omega
    have hA1 : ¬ 9223372036854775807 < 1 + r.length := by omega
    have hA2 : 1 + r.length ≤ 9223372036854775807 := by omega
    have hA3 : ¬ 9223372036854775807 < (ByteArray.mk #[82]).size + r.length := hA1
    have hfl : (frameOf (82 :: r)).length ≤ 16400 := by
      rw [frameOf_len, List.length_cons]
      have := sz_small (n := r.length + 1) (by omega)
      omega
    have HF : Hid (∀ v w, StrsAt rb v [82 :: r] w → Calls Try.prog 42 #[v] w fun e w' => e = .returned (.string (bs (frameOf (82 :: r)))) ∧ Below w.heap.size w w') := fun v w hv => by
      have := frames42 rb [82 :: r] v w hv (by intro p hp; simp at hp; subst hp; simp; omega) (by simp)
      rw [framesOf_one] at this
      exact this
    obtain ⟨x, D1, hx⟩ : ∃ x D1, D.write a (frameOf (82 :: r)) = (x, D1) := ⟨_, _, rfl⟩
    have hok1 : D1.Ok := by have := hOk.write a (frameOf (82 :: r)); rw [hx] at this; exact this
    have HW : Hid (∀ w, RefAt rb D w → Calls Try.prog 41 #[.pointer (some ⟨rb, 0, none⟩), .int .i64 a, .string (bs (frameOf (82 :: r)))] w fun e w' => e = .returned (.int .i64 x) ∧ RefAt rb D1 w' ∧ Drm.Sole rb w w') := fun w h => by
      have := Drm.rwrite19 rb D a (frameOf (82 :: r)) w h hOk (by omega)
      rw [hx] at this
      exact this
    have HS : Hid (∀ w, RefAt rb D1 w → Calls Try.prog 43 #[.pointer (some ⟨rb, 0, none⟩), .int .i64 a] w fun e w' => e = .returned (.int .i64 (D1.sync a).1) ∧ RefAt rb (D1.sync a).2 w' ∧ Drm.Sole rb w w') := fun w h => Drm.rsync20 rb D1 a w h hok1
    have hy : putF D a (frameOf (82 :: r)) = if x ≠ 0 then (x, D1) else D1.sync a := by unfold putF; rw [hx]
    obtain ⟨y, hyy⟩ : ∃ y, putF D a (frameOf (82 :: r)) = y := ⟨_, rfl⟩
    rw [hyy] at hy ⊢
    have HY : Hid (y = if x ≠ 0 then (x, D1) else D1.sync a) := hy
    have H : Hid _ := h
    have hrlt : rb < w.heap.size := h.drum.lt
    have HO : Hid (∀ w : World, rb < w.heap.size → StrsAt rb (.slice (some ⟨w.heap.size, 0, none⟩) 1 1) [82 :: r] (w.alloc (.cells #[.string (bs (82 :: r))] 9))) := fun w h => strs_one w (82 :: r) h
    clear hp h hOk hx hok1 hy hfl hyy
    generalize D1.sync a = z at *
    obtain ⟨xz, Dz⟩ := z
    generalize bs (frameOf (82 :: r)) = F at *
    clear cf
    go_enter Try.func19, Try.ntmps19
    go_wp2_with fail
    go_region_held3 (fun w' => w'.cell? ⟨qb, 0, none⟩ = some (.pointer (some ⟨rb, 0, none⟩)) ∧ w'.cell? ⟨qb, 1, none⟩ = some (.int .i64 a) ∧ Hid (RbAt qb rb a g w'))
      (first | exact H.out.blk.s | exact (H.out.blk.on (Below.refl _ _).drew).s | exact (H.out.blk.on (((Below.refl _ _).alloc (Nat.le_refl _) _).drew)).s | exact H1.out.1.blk.s | exact H2.out.1.blk.s)
      (first
      | (go_at_call 42; refine (HF.out _ _ ((HO.out _ hrlt).on (Below.refl _ _).drew)).mono ?_; rintro e W1 ⟨rfl, hb1⟩; have H1 : Hid (RgAt qb rb a g D W1 ∧ Below w.heap.size w W1) := ⟨(H.out.on (((Below.refl _ _).alloc (Nat.le_refl _) _).drew)).on hb1, (((Below.refl _ _).alloc (Nat.le_refl _) _).drew).trans (hb1.mono (by simp))⟩; clear hb1)
      | (go_at_call 41; refine (HW.out _ H1.out.1.drum).mono ?_; rintro e W2 ⟨rfl, h2, k2⟩; have H2 : Hid (RgAt qb rb a g D1 W2 ∧ Drm.Sole rb w W2) := ⟨H1.out.1.sole h2 k2, (Drm.Sole.of_below H1.out.2).trans k2⟩; clear h2 k2))
    by_cases hx0 : x = 0
    · subst hx0
      go_wp2_with fail
      go_region_held3 (fun w' => w'.cell? ⟨qb, 0, none⟩ = some (.pointer (some ⟨rb, 0, none⟩)) ∧ w'.cell? ⟨qb, 1, none⟩ = some (.int .i64 a) ∧ Hid (RbAt qb rb a g w'))
        (first | exact H2.out.1.blk.s | exact (H2.out.1.blk.on (Below.refl _ _).drew).s | exact H3.out.1.blk.s)
        (first
        | (go_at_call 43; refine (HS.out _ (H2.out.1.on (Below.refl _ _).drew).drum).mono ?_; rintro e W3 ⟨rfl, h3, k3⟩; have H3 : Hid (RgAt qb rb a g Dz W3 ∧ Drm.Sole rb w W3) := ⟨(H2.out.1.on (Below.refl _ _).drew).sole h3 k3, (H2.out.2.drew).trans k3⟩; clear h3 k3))
      go_wp2_with fail
      go_ret
      have e : y = (xz, Dz) := by rw [HY.out]; simp
      rw [e]
      exact ⟨rfl, H3.out.1.drum, H3.out.2⟩
    · have hx' : (x != 0) = true := by simp [hx0]
      go_wp2_with fail
      go_ret
      have e : y = (x, D1) := by rw [HY.out, if_pos hx0]
      rw [e]
      exact ⟨rfl, H2.out.1.drum, H2.out.2⟩

end Go.Proofs.Ytjjdmeemhgopbaa

namespace Go.Proofs.Ytjjdmeemhgopbaa
open Go.RowKit Go.Sort
open Drm (Dr Pt DrumAt DrumIn RefAt)

/-- The payloads of a log's beginning, without its end. -/
def pays (g : Nat) (R : List (List UInt8)) (k : Nat) : List (List UInt8) := (71 :: numForm g) :: (R.take k).map (fun r => 67 :: r)
theorem pays_len (g : Nat) (R : List (List UInt8)) (k : Nat) (h : k ≤ R.length) : (pays g R k).length = k + 1 := by
  simp [pays, List.length_take]
  omega
theorem pays_succ (g : Nat) (R : List (List UInt8)) (k : Nat) (h : k < R.length) : pays g R (k + 1) = pays g R k ++ [67 :: R.getD k []] := by
  have e : R.take (k + 1) = R.take k ++ [R.getD k []] := by
    rw [List.take_add_one]
    simp [List.getElem?_eq_getElem h, List.getD]
  simp [pays, e]
theorem pays_all (g : Nat) (R : List (List UInt8)) : framesOf (pays g R R.length ++ [[69]]) = headOf g R := by
  rw [← framesOf_head]
  simp [pays]
theorem pays_fit (g : Nat) (R : List (List UInt8)) (hg : g < 18446744073709551616) (hR : Fit R) : ∀ p ∈ pays g R R.length ++ [[69]], p.length ≤ 16384 := by
  intro p hp
  simp only [pays, List.take_length, List.mem_append, List.mem_cons, List.mem_map] at hp
  rcases hp with (rfl | ⟨r, hr, rfl⟩) | rfl | h
  · have := numForm_length g
    have := sz_le hg
    simp only [List.length_cons]
    omega
  · have := hR r hr
    simp only [List.length_cons]
    omega
  · simp
  · simp at h
theorem head_le (g : Nat) (R : List (List UInt8)) (hg : g < 18446744073709551616) (hR : Fit R) (hn : R.length ≤ 1000) : (headOf g R).length ≤ 17000000 := by
  have h := framesOf_len (pays g R R.length ++ [[69]]) (R.length + 2) (pays_fit g R hg hR) (by rw [List.length_append, pays_len g R _ (Nat.le_refl _)]; simp)
  rw [List.take_of_length_le (by rw [List.length_append, pays_len g R _ (Nat.le_refl _)]; simp), pays_all] at h
  omega
theorem tx_first (w : World) (x : List UInt8) {B : Nat} (hB : B ≤ w.heap.size) : TxAt B (.slice (some ⟨w.heap.size, 0, none⟩) 1 1) [x] (w.alloc (.cells #[.string (bs x)] 9)) :=
  ⟨rfl, .inr ⟨w.heap.size, 1, #[.string (bs x)], rfl, hB, heap_alloc_new w _, Nat.le_refl _, by unfold maxLen; omega, rfl, rfl⟩⟩

theorem StrsAt.sole {rb : Nat} {v : Value} {R : List (List UInt8)} {w w' : World} (h : StrsAt rb v R w) (hs : Drm.Sole rb w w') : StrsAt rb v R w' := by
  obtain ⟨ao, cap, rfl, h⟩ := h
  refine ⟨ao, cap, rfl, fun h0 => ?_⟩
  obtain ⟨b, o, rfl, hne, hc, hor⟩ := h h0
  have hlt : b < w.heap.size := World.block_lt_of_cell? _ _ (hc 0 h0)
  have hblk := hs.block b hlt hne
  refine ⟨b, o, rfl, hne, fun i hi => ?_, ?_⟩
  · have := hc i hi
    unfold World.cell? at this ⊢
    dsimp only at this ⊢
    rw [hblk]
    exact this
  · rcases hor with h1 | ⟨cs, fz, h1⟩
    · exact .inl h1
    · exact .inr ⟨cs, fz, by rw [hblk]; exact h1⟩

set_option maxHeartbeats 3200000 in
set_option maxRecDepth 100000 in
theorem rlay35 (qb rb g0 g pb : Nat) (a0 a : Int) (D : Dr) (R : List (List UInt8)) (v : Value) (w : World) (h : RgAt qb rb a0 g0 D w) (hOk : D.Ok) (hg : g < 18446744073709551616) (hR : Fit R) (hn : R.length ≤ 1000) (hv : StrsAt pb v R w) :
    Calls Try.prog 35 #[.pointer (some ⟨qb, 0, none⟩), .int .i64 a, .int .u64 g, v] w fun e w' => e = .returned (.int .i64 (layF D a g R).1) ∧ RefAt rb (layF D a g R).2 w' ∧ Drm.Sole rb w w' := by
  obtain ⟨i0, hi, hz0, hz1, hz2⟩ := info_parts info9
  obtain ⟨x, D1, hx⟩ : ∃ x D1, D.lay a = (x, D1) := ⟨_, _, rfl⟩
  have hok1 : D1.Ok := by have := hOk.lay a; rw [hx] at this; exact this
  obtain ⟨u, D2, hu⟩ : ∃ u D2, D1.write a (headOf g R) = (u, D2) := ⟨_, _, rfl⟩
  have hok2 : D2.Ok := by have := hok1.write a (headOf g R); rw [hu] at this; exact this
  have HL : Hid (∀ w, RefAt rb D w → Calls Try.prog 59 #[.pointer (some ⟨rb, 0, none⟩), .int .i64 a] w fun e w' => e = .returned (.int .i64 x) ∧ RefAt rb D1 w' ∧ Drm.Sole rb w w') := fun w h => by
    have := Drm.rlay16 rb D a w h hOk
    rw [hx] at this
    exact this
  have hhl := head_le g R hg hR hn
  have HW : Hid (∀ w, RefAt rb D1 w → Calls Try.prog 41 #[.pointer (some ⟨rb, 0, none⟩), .int .i64 a, .string (bs (headOf g R))] w fun e w' => e = .returned (.int .i64 u) ∧ RefAt rb D2 w' ∧ Drm.Sole rb w w') := fun w h => by
    have := Drm.rwrite19 rb D1 a (headOf g R) w h hok1 (by omega)
    rw [hu] at this
    exact this
  have HS : Hid (∀ w, RefAt rb D2 w → Calls Try.prog 43 #[.pointer (some ⟨rb, 0, none⟩), .int .i64 a] w fun e w' => e = .returned (.int .i64 (D2.sync a).1) ∧ RefAt rb (D2.sync a).2 w' ∧ Drm.Sole rb w w') := fun w h => Drm.rsync20 rb D2 a w h hok2
  have HF : Hid (∀ v w, StrsAt rb v (pays g R R.length ++ [[69]]) w → Calls Try.prog 42 #[v] w fun e w' => e = .returned (.string (bs (headOf g R))) ∧ Below w.heap.size w w') := fun v w hv => by
    have := frames42 rb (pays g R R.length ++ [[69]]) v w hv (pays_fit g R hg hR) (by rw [List.length_append, pays_len g R _ (Nat.le_refl _)]; simp; omega)
    rw [pays_all] at this
    exact this
  obtain ⟨y, hyy⟩ : ∃ y, layF D a g R = y := ⟨_, rfl⟩
  have hy : y = if x ≠ 0 then (x, D1) else if u ≠ 0 then (u, D2) else D2.sync a := by
    rw [← hyy]
    unfold layF putF
    rw [hx]
    dsimp only
    rw [hu]
  rw [hyy]
  have HY : Hid (y = if x ≠ 0 then (x, D1) else if u ≠ 0 then (u, D2) else D2.sync a) := hy
  have H : Hid (RgAt qb rb a0 g0 D w) := h
  have hrlt : rb < w.heap.size := h.drum.lt
  obtain ⟨ao, cap, rfl, hvx⟩ := hv
  have HV : Hid (0 < R.length → ∃ b o, ao = some ⟨b, o, none⟩ ∧ b ≠ pb ∧ (∀ i, i < R.length → w.cell? ⟨b, o + i, none⟩ = some (.string (bs (R.getD i [])))) ∧ (b < pb ∨ ∃ cs fz, w.heap[b]? = some (.cells cs 9 fz))) := hvx
  have HNm : Hid (1 = 1 → Calls Try.prog 58 #[.int .u64 g] w fun e w' => e = .returned (.string (bs (numForm g))) ∧ Below w.heap.size w w') := fun _ => refNum11 g w hg
  have hcat : ByteArray.mk #[71] ++ bs (numForm g) = bs (71 :: numForm g) := bs_append [71] (numForm g)
  have hnl : (numForm g).length ≤ 9 := by rw [numForm_length]; exact sz_le hg
  have hns : (bs (numForm g)).size = (numForm g).length := bs_size _
  have HP0 : Hid (pays g R 0 = [71 :: numForm g]) := by show _ = _; simp [pays]
  have HFit : Hid (Fit R) := hR
  have HOk2 : Hid (D2.Ok) := hok2
  clear hx hok1 hu hok2 hyy hy h hOk hvx hR hhl hg
  generalize D2.sync a = z at *
  obtain ⟨xz, Dz⟩ := z
  generalize bs (headOf g R) = F at *
  generalize numForm g = N at *
  have hA1 : ¬ 9223372036854775807 < 1 + N.length := by omega
  go_enter Try.func35, Try.ntmps35
  go_wp2_with fail
  refine (HNm.out (by trivial)).mono ?_
  rintro e w1 ⟨rfl, hb1⟩
  have H1 : Hid (Below w.heap.size w w1) := hb1
  clear hb1
  go_wp2_with fail
  go_loopw [9, 10] (fun vp i wr => ∃ k : Nat, k ≤ R.length ∧ i = .int .i64 k ∧ TxAt w.heap.size vp (pays g R k) wr ∧ Below w.heap.size w wr) (fun _ i _ => R.length - (intOf i).toNat)
  case atStart =>
    refine ⟨0, by omega, rfl, ?_, H1.out.trans ((Below.refl _ _).alloc H1.out.size _)⟩
    rw [HP0.out]
    exact tx_first w1 _ H1.out.size
  case round =>
    obtain ⟨k, hk, rfl, htx, hB⟩ := hrel
    have HLn : Hid ((pays g R k).length = k + 1) := pays_len g R k hk
    obtain ⟨L, hL⟩ : ∃ L, pays g R k = L := ⟨_, rfl⟩
    rw [hL] at htx HLn
    obtain ⟨ap, cp, rfl⟩ := tx_shape htx
    have HT : Hid (TxAt w.heap.size (.slice ap L.length cp) L wr ∧ Below w.heap.size w wr) := ⟨htx, hB⟩
    have HLe : Hid (pays g R k = L) := hL
    clear htx hB hL
    by_cases hlt : k < R.length
    · obtain ⟨b, o, rfl, hne, hc, hor⟩ := HV.out (by omega)
      have hck := cell_at_below (hc k hlt) HT.out.2
      clear hc hor
      have hpl : (R.getD k []).length ≤ 16000 := HFit.out _ (by simp [List.getD, List.getElem?_eq_getElem hlt])
      have HSu : Hid (pays g R (k + 1) = L ++ [67 :: R.getD k []]) := by show _ = _; rw [pays_succ g R k hlt, HLe.out]
      generalize R.getD k [] = r at *
      have hrs : (bs r).size = r.length := bs_size _
      have hcat2 : ByteArray.mk #[67] ++ bs r = bs (67 :: r) := bs_append [67] r
      have hB1 : ¬ 9223372036854775807 < 1 + r.length := by omega
      go_wp2_with (at_builtin; refine wpList_append_own _ rfl (.tmp 23) (.tmp 29) 33 rfl w.heap.size 9 i0 (.string ⟨#[]⟩) 1 16 Try.underlying33 hi hz0 hz1 hz2 rfl (by decide) (.slice ap L.length cp) L.length (sl L) rfl (World.ownsRow.alloc HT.out.1 _) ⟨wr.heap.size, 0, none⟩ 1 1 [.string (bs (67 :: r))] rfl rfl (one_new _ _ _) (str_one _) (by have := HLn.out; unfold maxLen; omega) (by have := HLn.out; omega) (by have := HT.out.2.size; simp; omega) ?_; intro v' w6 hown' hgrow _; have H6 : Hid _ := grown_rd HT.out.1 HT.out.2 hown' hgrow; clear hown' hgrow)
      obtain ⟨ao2, cp2, rfl, h6t, h6b⟩ := H6.out
      go_roundw
      case rel => exact ⟨k + 1, by omega, by go_num, by rw [HSu.out]; exact h6t, h6b⟩
      case measure => simp [intOf]; omega
    · have hkL : k = R.length := by omega
      subst hkL
      go_wp2_with (at_builtin; refine wpList_append_own _ rfl (.tmp 31) (.tmp 32) 33 rfl w.heap.size 9 i0 (.string ⟨#[]⟩) 1 16 Try.underlying33 hi hz0 hz1 hz2 rfl (by decide) (.slice ap L.length cp) L.length (sl L) rfl (World.ownsRow.alloc HT.out.1 _) ⟨wr.heap.size, 0, none⟩ 1 1 [.string (bs [69])] rfl rfl (one_new _ _ _) (str_one _) (by have := HLn.out; unfold maxLen; omega) (by have := HLn.out; omega) (by have := HT.out.2.size; simp; omega) ?_; intro v' w6 hown' hgrow _; obtain ⟨ao2, cp2, rfl, h6t, h6b⟩ := grown_rd (r := [69]) HT.out.1 HT.out.2 hown' hgrow; have H7 : Hid (StrsAt rb (.slice ao2 (L.length + 1) cp2) (pays g R R.length ++ [[69]]) w6 ∧ RgAt qb rb a0 g0 D w6 ∧ Below w.heap.size w w6) := ⟨by rw [HLe.out]; exact h6t.strs hrlt, H.out.on h6b, h6b⟩; obtain ⟨c0, c1, c2, cf⟩ := H7.out.2.1.blk.cells; clear hown' hgrow h6t h6b)
      refine (HL.out _ H7.out.2.1.drum).mono ?_
      rintro e w7 ⟨rfl, h8, k8⟩
      have H8 : Hid (RgAt qb rb a0 g0 D1 w7 ∧ StrsAt rb (.slice ao2 (L.length + 1) cp2) (pays g R R.length ++ [[69]]) w7 ∧ Drm.Sole rb w w7) := ⟨H7.out.2.1.sole h8 k8, H7.out.1.sole k8, (Drm.Sole.of_below H7.out.2.2).trans k8⟩
      obtain ⟨d0, d1, d2, df⟩ := H8.out.1.blk.cells
      clear c0 c1 c2 cf h8 k8 df
      by_cases hx0 : x = 0
      · subst hx0
        go_wp2_with fail
        go_region_held3 (fun w' => w'.cell? ⟨qb, 0, none⟩ = some (.pointer (some ⟨rb, 0, none⟩)) ∧ w'.cell? ⟨qb, 1, none⟩ = some (.int .i64 a0) ∧ Hid (RbAt qb rb a0 g0 w'))
          (first | exact H8.out.1.blk.s | exact (H8.out.1.blk.on (Below.refl _ _).drew).s | exact H9.out.1.blk.s | exact Ha.out.1.blk.s)
          (first
          | (go_at_call 42; refine (HF.out _ _ (H8.out.2.1.on (Below.refl _ _).drew)).mono ?_; rintro e W1 ⟨rfl, hb1⟩; have H9 : Hid (RgAt qb rb a0 g0 D1 W1 ∧ Drm.Sole rb w W1) := ⟨(H8.out.1.on (Below.refl _ _).drew).on hb1, H8.out.2.2.drew.trans (Drm.Sole.of_below hb1)⟩; clear hb1)
          | (go_at_call 41; refine (HW.out _ H9.out.1.drum).mono ?_; rintro e W2 ⟨rfl, h2, k2⟩; have Ha : Hid (RgAt qb rb a0 g0 D2 W2 ∧ Drm.Sole rb w W2) := ⟨H9.out.1.sole h2 k2, H9.out.2.trans k2⟩; clear h2 k2))
        obtain ⟨f0, f1, f2, ff⟩ := Ha.out.1.blk.cells
        by_cases hu0 : u = 0
        · subst hu0
          go_wp2_with fail
          refine (HS.out _ Ha.out.1.drum).mono ?_
          rintro e w9 ⟨rfl, h9, k9⟩
          have Hb : Hid (RefAt rb Dz w9 ∧ Drm.Sole rb w w9) := ⟨h9, Ha.out.2.trans k9⟩
          clear h9 k9
          go_wp2_with fail
          go_ret
          have e : y = (xz, Dz) := by rw [HY.out]; simp
          rw [e]
          exact ⟨rfl, Hb.out⟩
        · have hu' : (u != 0) = true := by simp [hu0]
          go_wp2_with fail
          go_ret
          have e : y = (u, D2) := by rw [HY.out]; simp [hu0]
          rw [e]
          exact ⟨rfl, Ha.out.1.drum, Ha.out.2⟩
      · have hx' : (x != 0) = true := by simp [hx0]
        go_wp2_with fail
        go_ret
        have e : y = (x, D1) := by rw [HY.out, if_pos hx0]
        rw [e]
        exact ⟨rfl, H8.out.1.drum, H8.out.2.2⟩

end Go.Proofs.Ytjjdmeemhgopbaa

namespace Go.Proofs.Ytjjdmeemhgopbaa
open Go.RowKit Go.Sort
open Drm (Dr Pt DrumAt DrumIn RefAt)

theorem RbAt.set1 {qb rb g : Nat} {a : Int} {w : World} (h : RbAt qb rb a g w) (s : Int) : RbAt qb rb s g (w.setCell ⟨qb, 1, none⟩ (.int .i64 s)) := Drm.blk_setCell h
theorem RbAt.set2 {qb rb g : Nat} {a : Int} {w : World} (h : RbAt qb rb a g w) (s : Nat) : RbAt qb rb a s (w.setCell ⟨qb, 2, none⟩ (.int .u64 s)) := Drm.blk_setCell h
theorem RefAt.box {qb rb k : Nat} {D : Dr} {w : World} (h : RefAt rb D w) (hne : rb ≠ qb) (v : Value) : RefAt rb D (w.setCell ⟨qb, k, none⟩ v) := by
  unfold RefAt
  rw [Below.heap_setCell _ _ _ _ (by simpa using hne)]
  exact h

/-- Nothing but the document's log and its drum has turned, and new blocks. -/
structure Sole2 (qb rb : Nat) (w w' : World) : Prop where
  os : w'.os = w.os
  tape : w'.tape = w.tape
  output : w'.output = w.output
  size : w.heap.size ≤ w'.heap.size
  block : ∀ k, k < w.heap.size → k ≠ rb → k ≠ qb → w'.heap[k]? = w.heap[k]?
theorem Sole2.of {qb rb : Nat} {w w' : World} (h : Drm.Sole rb w w') : Sole2 qb rb w w' := ⟨h.os, h.tape, h.output, h.size, fun k h1 h2 _ => h.block k h1 h2⟩
theorem Sole2.refl (qb rb : Nat) (w : World) : Sole2 qb rb w w := Sole2.of (Drm.Sole.refl _ _)
theorem Sole2.trans {qb rb : Nat} {a b c : World} (h : Sole2 qb rb a b) (k : Sole2 qb rb b c) : Sole2 qb rb a c :=
  ⟨k.os.trans h.os, k.tape.trans h.tape, k.output.trans h.output, Nat.le_trans h.size k.size, fun i hi h1 h2 => by
    have := h.size
    exact (k.block i (by omega) h1 h2).trans (h.block i hi h1 h2)⟩
theorem Sole2.set {qb rb : Nat} {w0 w : World} (h : Sole2 qb rb w0 w) (k : Nat) (v : Value) : Sole2 qb rb w0 (w.setCell ⟨qb, k, none⟩ v) :=
  ⟨h.os, h.tape, h.output, by simpa using h.size, fun i hi h1 h2 => by rw [Below.heap_setCell _ _ _ _ h2]; exact h.block i hi h1 h2⟩

theorem cut_no {D : Dr} {k : Nat} (h : D.has k = false) : (D.cut k).2 = D := by
  unfold Drm.Dr.cut Drm.Dr.step
  split
  · rfl
  split
  · rfl
  · next hr =>
    have hr := Decidable.not_not.1 hr
    have ht : (D.p k).there = false := by
      rw [← has_nat D k (by omega)]
      exact h
    rw [if_pos (by simp [Drm.missing, ht])]

/-- The document's Renew is the same. -/
theorem ren_ref {D : Dr} {a : Int} {g k : Nat} {L : List (List UInt8)} (hf : fitB L = true) (hk : k ≤ 4) (hall : ∀ j, j < k → (D.p j).there = true) (hno : D.has k = false) (hsp : D.down = true ∨ spareF D ≠ 4) :
    renewF D a g L = if (layF D k (gsucc g) L).1 ≠ 0 then ((layF D k (gsucc g) L).1, (a, g), if (layF D k (gsucc g) L).2.has k = true then ((layF D k (gsucc g) L).2.cut k).2 else (layF D k (gsucc g) L).2)
      else (((layF D k (gsucc g) L).2.cut a).1, ((k : Int), gsucc g), ((layF D k (gsucc g) L).2.cut a).2) := by
  by_cases hd : D.down = true
  · have hl : layF D k (gsucc g) L = (11, D) := by
      have : D.lay k = (11, D) := step_down hd _ _ _
      unfold layF
      rw [this]
      rfl
    rw [hl]
    unfold renewF
    rw [if_neg (by rw [hf]; decide), if_pos hd]
    simp [hno]
  · have hs4 : spareF D ≠ 4 := by
      rcases hsp with h | h
      · exact absurd h hd
      · exact h
    have hk4 : k < 4 := by
      by_cases h : k < 4
      · exact h
      · exact absurd (spare_all fun j hj => hall j (by omega)) hs4
    have hsk : spareF D = k := spare_first hk4 hall (by rw [← has_nat D k hk4]; exact hno)
    unfold renewF
    rw [if_neg (by rw [hf]; decide), if_neg hd, if_neg hs4, hsk]
    congr 2
    by_cases hh : (layF D k (gsucc g) L).2.has k = true
    · rw [if_pos hh]
    · rw [if_neg hh, cut_no (by simpa using hh)]

/-- What it leaves. -/
def RrPost (qb rb : Nat) (w : World) (y : Int × (Int × Nat) × Dr) (e : Ending) (w' : World) : Prop :=
  e = .returned (.int .i64 y.1) ∧ RgAt qb rb y.2.1.1 y.2.1.2 y.2.2 w' ∧ Sole2 qb rb w w'

set_option maxHeartbeats 1600000 in
theorem rren21 (qb rb pb g : Nat) (a : Int) (D : Dr) (L : List (List UInt8)) (v : Value) (w : World) (h : RgAt qb rb a g D w) (hOk : D.Ok) (hv : StrsAt pb v L w) (hn : L.length ≤ 1000) (hsp : D.down = true ∨ spareF D ≠ 4) :
    Calls Try.prog 21 #[.pointer (some ⟨qb, 0, none⟩), v] w (RrPost qb rb w (renewF D a g L)) := by
  obtain ⟨y, hy⟩ : ∃ y, renewF D a g L = y := ⟨_, rfl⟩
  rw [hy]
  have HY : Hid (renewF D a g L = y) := hy
  obtain ⟨c0, c1, c2, cf⟩ := h.blk.cells
  have H : Hid (RgAt qb rb a g D w ∧ D.Ok ∧ StrsAt pb v L w ∧ (D.down = true ∨ spareF D ≠ 4)) := ⟨h, hOk, hv, hsp⟩
  obtain ⟨ao, cap, rfl, hvx⟩ := hv
  have HV : Hid (0 < L.length → ∃ b o, ao = some ⟨b, o, none⟩ ∧ b ≠ pb ∧ (∀ i, i < L.length → w.cell? ⟨b, o + i, none⟩ = some (.string (bs (L.getD i [])))) ∧ (b < pb ∨ ∃ cs fz, w.heap[b]? = some (.cells cs 9 fz))) := hvx
  clear h hOk hy hvx hsp
  generalize hQ : RrPost qb rb w y = Q at *
  have HQE : Hid (RrPost qb rb w y = Q) := hQ
  clear hQ
  go_enter Try.func21, Try.ntmps21
  go_wp2_with fail
  go_loop [5] (fun i => ∃ k : Nat, k ≤ L.length ∧ i = .int .i64 k ∧ ∀ j, j < k → (L.getD j []).length ≤ 16000) (fun i => L.length - (intOf i).toNat)
  case atStart => exact ⟨0, by omega, rfl, fun j hj => absurd hj (by omega)⟩
  case round =>
    obtain ⟨k, hk, rfl, hall⟩ := hrel
    have HA : Hid (∀ j, j < k → (L.getD j []).length ≤ 16000) := hall
    clear hall
    by_cases hlt : k < L.length
    · obtain ⟨b, o, rfl, hne, hc, hor⟩ := HV.out (by omega)
      have hck := hc k hlt
      have hsz : (bs (L.getD k [])).size = (L.getD k []).length := bs_size _
      have hnf := fun h => not_fit (L := L) hlt h
      have hle : (L.getD k []).length ≤ 16000 → ∀ j, j < k + 1 → (L.getD j []).length ≤ 16000 := fun h j hj => by
        by_cases hjk : j = k
        · subst hjk; exact h
        · exact HA.out j (by omega)
      clear hc hor
      have HNF : Hid _ := And.intro hnf hle
      clear hnf hle
      generalize L.getD k [] = r at *
      by_cases hr : 16000 < r.length
      · have hr' : (16000 : Int) < r.length := by omega
        have hf := HNF.out.1 hr
        have HY2 : Hid (y = (3, (a, g), D)) := by
          show _ = _
          rw [← HY.out]
          unfold renewF
          rw [if_pos hf]
        clear hf
        go_wp2_with fail
        rw [← HQE.out, HY2.out]
        exact ⟨rfl, H.out.1, Sole2.refl _ _ _⟩
      · have hr' : ¬ (16000 : Int) < r.length := by omega
        have HLE : Hid _ := HNF.out.2 (by omega)
        go_wp2_with fail
        go_round
        case rel => exact ⟨k + 1, by omega, by go_num, HLE.out⟩
        case measure => simp [intOf]; omega
    · have hfit : Fit L := is_fit fun i hi => HA.out i (by omega)
      have hfb : fitB L = true := (fit_iff L).2 hfit
      have HF : Hid (Fit L ∧ fitB L = true) := ⟨hfit, hfb⟩
      clear hfit hfb
      have HH : Hid (∀ i : Int, Calls Try.prog 32 #[.pointer (some ⟨rb, 0, none⟩), .int .i64 i] w fun e w' => e = .returned (.bool (D.has i)) ∧ w = w') := fun i => Drm.rhas25 rb D i w H.out.1.drum
      go_wp2_with fail
      go_loop [6] (fun i => ∃ k : Nat, k ≤ 4 ∧ i = .int .i64 k ∧ ∀ j, j < k → (D.p j).there = true) (fun i => 4 - (intOf i).toNat)
      case atStart => exact ⟨0, by omega, rfl, fun j hj => absurd hj (by omega)⟩
      case round =>
        obtain ⟨s, hs, rfl, hall⟩ := hrel
        have HAl : Hid (∀ j, j < s → (D.p j).there = true) := hall
        clear hall
        cases hh : D.has s with
        | true =>
          have hs4 : s < 4 := by
            by_cases h : s < 4
            · exact h
            · have : D.has s = false := by unfold Drm.Dr.has; simp; intro h1; omega
              rw [this] at hh
              exact absurd hh (by decide)
          have HT : Hid ((D.p s).there = true) := by show _ = _; rw [← has_nat D s hs4]; exact hh
          go_wp2_with (go_at_call 32; refine (HH.out (s : Int)).mono ?_; rintro e w1 ⟨rfl, rfl⟩)
          go_round
          case rel =>
            refine ⟨s + 1, by omega, by go_num, fun j hj => ?_⟩
            by_cases hjs : j = s
            · subst hjs; exact HT.out
            · exact HAl.out j (by omega)
          case measure => simp [intOf]; omega
        | false =>
          have hyy := ren_ref (a := a) (g := g) HF.out.2 hs HAl.out hh H.out.2.2.2
          rw [HY.out] at hyy
          obtain ⟨x, D1, hx⟩ : ∃ x D1, layF D s (gsucc g) L = (x, D1) := ⟨_, _, rfl⟩
          rw [hx] at hyy
          dsimp only at hyy
          have hok1 : D1.Ok := by have := layF_ok H.out.2.1 s (gsucc g) L; rw [hx] at this; exact this
          have HLy : Hid (1 = 1 → Calls Try.prog 35 #[.pointer (some ⟨qb, 0, none⟩), .int .i64 s, .int .u64 (gsucc g : Int), .slice ao L.length cap] w fun e w' => e = .returned (.int .i64 x) ∧ RefAt rb D1 w' ∧ Drm.Sole rb w w') := fun _ => by
            have := rlay35 qb rb g (gsucc g) pb a s D L (.slice ao L.length cap) w H.out.1 H.out.2.1 (Nat.mod_lt _ (by decide)) HF.out.1 hn H.out.2.2.1
            rw [hx] at this
            exact this
          have HCt : Hid (∀ (i : Int) (w1 : World), RefAt rb D1 w1 → Calls Try.prog 33 #[.pointer (some ⟨rb, 0, none⟩), .int .i64 i] w1 fun e w' => e = .returned (.int .i64 (D1.cut i).1) ∧ RefAt rb (D1.cut i).2 w' ∧ Drm.Sole rb w1 w') := fun i w1 h1 => Drm.rcut17 rb D1 i w1 h1 hok1
          have HHs : Hid (∀ (w1 : World), RefAt rb D1 w1 → Calls Try.prog 32 #[.pointer (some ⟨rb, 0, none⟩), .int .i64 s] w1 fun e w' => e = .returned (.bool (D1.has s)) ∧ w1 = w') := fun w1 h1 => Drm.rhas25 rb D1 s w1 h1
          have hadd : IntKind.u64.wrap ((g : Int) + 1) = (gsucc g : Int) := by
            simp [IntKind.wrap, IntKind.bits, IntKind.signed, gsucc]
          obtain ⟨g1, hg1⟩ : ∃ g1, g1 = gsucc g := ⟨_, rfl⟩
          rw [← hg1] at hyy HLy hadd
          have HYY : Hid _ := hyy
          clear hg1 hx hok1 hyy
          go_wp2_with (go_at_call 32; refine (HH.out (s : Int)).mono ?_; rintro e w1 ⟨rfl, rfl⟩)
          refine (HLy.out (by trivial)).mono ?_
          rintro e W2 ⟨rfl, h2, k2⟩
          have H2 : Hid (RgAt qb rb a g D1 W2 ∧ Sole2 qb rb w W2) := ⟨H.out.1.sole h2 k2, Sole2.of k2⟩
          clear h2 k2 c0 c1 c2 cf
          obtain ⟨d0, d1, d2, df⟩ := H2.out.1.blk.cells
          by_cases hx0 : x = 0
          · subst hx0
            have hyy : y = ((D1.cut a).1, ((s : Int), g1), (D1.cut a).2) := by rw [HYY.out]; simp
            have HY3 : Hid _ := hyy
            clear hyy
            have hl3 : RbAt qb rb s g (W2.setCell ⟨qb, 1, none⟩ (.int .i64 s)) := H2.out.1.blk.set1 s
            obtain ⟨e0, e1, e2, ef⟩ := hl3.cells
            have hl4 : RbAt qb rb s g1 ((W2.setCell ⟨qb, 1, none⟩ (.int .i64 s)).setCell ⟨qb, 2, none⟩ (.int .u64 g1)) := hl3.set2 g1
            obtain ⟨f0, f1, f2, ff⟩ := hl4.cells
            have hne := H2.out.1.ne
            have hd4 : RefAt rb D1 ((W2.setCell ⟨qb, 1, none⟩ (.int .i64 s)).setCell ⟨qb, 2, none⟩ (.int .u64 g1)) := RefAt.box (RefAt.box H2.out.1.drum (by omega) _) (by omega) _
            have H4 : Hid (RgAt qb rb s g1 D1 ((W2.setCell ⟨qb, 1, none⟩ (.int .i64 s)).setCell ⟨qb, 2, none⟩ (.int .u64 g1)) ∧ Sole2 qb rb w ((W2.setCell ⟨qb, 1, none⟩ (.int .i64 s)).setCell ⟨qb, 2, none⟩ (.int .u64 g1))) := ⟨⟨hl4, hd4, hne⟩, (H2.out.2.set _ _).set _ _⟩
            clear hl3 hl4 hd4
            go_wp2_with (first | (go_at_call 33; refine (HCt.out a _ H4.out.1.drum).mono ?_; rintro e W5 ⟨rfl, h5, k5⟩; have H5 : Hid _ := And.intro (H4.out.1.sole h5 k5) (H4.out.2.trans (Sole2.of k5)); clear h5 k5))
            rw [← HQE.out, HY3.out]
            exact ⟨rfl, H5.out⟩
          · have hx' : (x != 0) = true := by simp [hx0]
            have hyy : y = (x, (a, g), if D1.has s = true then (D1.cut s).2 else D1) := by rw [HYY.out, if_pos hx0]
            have HY3 : Hid _ := hyy
            clear hyy hx0
            generalize D1.has s = q at *
            cases q
            · go_wp2_with (first | (go_at_call 32; refine (HHs.out _ H2.out.1.drum).mono ?_; rintro e w5 ⟨rfl, rfl⟩))
              rw [← HQE.out, HY3.out]
              exact ⟨rfl, H2.out⟩
            · go_wp2_with (first | (go_at_call 32; refine (HHs.out _ H2.out.1.drum).mono ?_; rintro e w5 ⟨rfl, rfl⟩) | (go_at_call 33; refine (HCt.out s _ H2.out.1.drum).mono ?_; rintro e W5 ⟨rfl, h5, k5⟩; have H5 : Hid _ := And.intro (H2.out.1.sole h5 k5) (H2.out.2.trans (Sole2.of k5)); clear h5 k5))
              rw [← HQE.out, HY3.out]
              exact ⟨rfl, H5.out⟩

end Go.Proofs.Ytjjdmeemhgopbaa

namespace Go.Proofs.Ytjjdmeemhgopbaa
open Go.RowKit Go.Sort
open Drm (Dr Pt DrumAt DrumIn RefAt)

/-- What the document's Open leaves. -/
def RoPost (rb : Nat) (w : World) (y : Int × (Int × Nat × List (List UInt8)) × Dr) (e : Ending) (w' : World) : Prop :=
  (y.1 ≠ 0 ∧ e = .returned (.tuple #[.pointer none, .slice none 0 0, .int .i64 y.1]) ∧ RefAt rb y.2.2 w' ∧ Drm.Sole rb w w') ∨
  (y.1 = 0 ∧ ∃ qb V, e = .returned (.tuple #[.pointer (some ⟨qb, 0, none⟩), V, .int .i64 0]) ∧ RgAt qb rb y.2.1.1 y.2.1.2.1 y.2.2 w' ∧ TxAt w.heap.size V y.2.1.2.2 w' ∧ w.heap.size ≤ qb ∧ Drm.Sole rb w w')

theorem TxAt.sole {B rb : Nat} {V : Value} {L : List (List UInt8)} {w w' : World} (h : TxAt B V L w) (hp : rb < B) (hs : Drm.Sole rb w w') : TxAt B V L w' := by
  refine ⟨h.1, ?_⟩
  rcases h.2 with h1 | ⟨g, cap, cur, e, hB, hg, hr⟩
  · exact .inl h1
  · exact .inr ⟨g, cap, cur, e, hB, by rw [hs.block g (lt_of_block hg) (by omega)]; exact hg, hr⟩

/-- What the first loop knows. -/
structure OpIn (rb qb : Nat) (w : World) (D : Dr) (k : Nat) (V : Value) (ar : Int) (c : Ct) (sz : Nat) (wr : World) : Prop where
  nw : newestTo D k = (ar, c)
  blk : RbAt qb rb ar c.gen wr
  tx : TxAt (qb + 1) V c.recs wr
  szs : c.fin < sz ↔ 0 < c.beh
  below : Below w.heap.size w wr

set_option maxHeartbeats 3200000 in
set_option maxRecDepth 100000 in
theorem ropen12 (rb : Nat) (D : Dr) (w : World) (hD : RefAt rb D w) (hOk : D.Ok) (hdn : D.down = false) : Calls Try.prog 12 #[.pointer (some ⟨rb, 0, none⟩)] w (RoPost rb w (openF D)) := by
  obtain ⟨y, hy⟩ : ∃ y, openF D = y := ⟨_, rfl⟩
  rw [hy]
  have HY : Hid (openF D = y) := hy
  have H : Hid (RefAt rb D w ∧ D.Ok ∧ D.down = false) := ⟨hD, hOk, hdn⟩
  have hlt := hD.lt
  obtain ⟨qb, hqb⟩ : ∃ qb, qb = w.heap.size := ⟨_, rfl⟩
  have HQ : Hid (qb = w.heap.size) := hqb
  clear hD hOk hdn hy hqb
  generalize hQ : RoPost rb w y = Q at *
  have HQE : Hid (RoPost rb w y = Q) := hQ
  clear hQ
  go_enter Try.func12, Try.ntmps12
  go_wp2_with fail
  rw [← HQ.out]
  go_loopw [6, 7, 8, 9] (fun v6 v7 v8 v9 wr => ∃ (k : Nat) (V : Value) (ar : Int) (c : Ct) (sz : Nat), k ≤ 4 ∧ v6 = V ∧ v7 = .int .i64 c.fin ∧ v8 = .int .i64 sz ∧ v9 = .int .i64 k ∧ OpIn rb qb w D k V ar c sz wr) (fun _ _ _ v9 _ => 4 - (intOf v9).toNat)
  case atStart =>
    refine ⟨0, _, -1, Ct.zero, 0, by omega, rfl, rfl, rfl, rfl, ⟨rfl, ?_, tx_nil _ _, by simp [Ct.zero], (Below.refl _ _).alloc (Nat.le_refl _) _⟩⟩
    rw [HQ.out]
    exact heap_alloc_new w _
  case round =>
    obtain ⟨k, V, ar, c, sz, hk, hv6, rfl, rfl, rfl, hin⟩ := hrel
    obtain ⟨ao, cp, hV⟩ := tx_shape hin.tx
    subst hV
    subst hv6
    have hrg := newest_range D k
    rw [hin.nw] at hrg
    dsimp only at hrg
    obtain ⟨n, hn⟩ : ∃ n, c.recs.length = n := ⟨_, rfl⟩
    rw [hn] at hin ⊢
    have HN : Hid (c.recs.length = n) := hn
    have HI : Hid (OpIn rb qb w D k (.slice ao n cp) ar c sz wr) := hin
    clear hin hn
    have hdc : wr.cell? ⟨rb, 2, none⟩ = some (.bool false) := by rw [← H.out.2.2]; exact (H.out.1.on HI.out.below).down
    obtain ⟨c0, c1, c2, cf⟩ := HI.out.blk.cells
    by_cases hk4 : k < 4
    · obtain ⟨l, x, hr⟩ : ∃ l x, D.read k = (l, x) := ⟨_, _, rfl⟩
      have hrd : (D.p k).there = false ∧ x = 12 ∨ (D.p k).there = true ∧ x = 0 ∧ l = (D.p k).l := by
        unfold Drm.Dr.read at hr
        rw [if_neg (by rw [H.out.2.2]; decide), if_neg (by omega)] at hr
        cases ht : (D.p k).there with
        | false =>
          rw [if_neg (by simp [ht])] at hr
          injection hr with h1 h2
          exact .inl ⟨rfl, h2.symm⟩
        | true =>
          rw [if_pos (by simpa using ht)] at hr
          injection hr with h1 h2
          exact .inr ⟨rfl, h2.symm, h1.symm⟩
      have CR : Hid (1 = 1 → Calls Try.prog 30 #[.pointer (some ⟨rb, 0, none⟩), .int .i64 k] wr fun e w' => e = .returned (.tuple #[.string (bs l), .int .i64 x]) ∧ Below wr.heap.size wr w') := fun _ => by
        have := Drm.rread24 rb D k wr (H.out.1.on HI.out.below) H.out.2.1
        rw [hr] at this
        exact this
      have hnw : newestTo D (k + 1) = if (D.p k).there = true ∧ (scanOf (D.p k).l).2 = true ∧ (ar = -1 ∨ c.gen < (scanOf (D.p k).l).1.gen) then ((k : Int), (scanOf (D.p k).l).1) else (ar, c) := by
        show (if _ then _ else newestTo D k) = _
        rw [HI.out.nw]
      have hll : (D.p k).l.length ≤ 1048576 := by
        have h1 := Drm.Dr.len_le_used D k hk4
        have h2 := H.out.2.1.fits
        have h3 := H.out.2.1.room1
        omega
      clear hr
      rcases hrd with ⟨ht, rfl⟩ | ⟨ht, rfl, rfl⟩
      · rw [if_neg (by simp [ht])] at hnw
        have HNW : Hid (newestTo D (k + 1) = (ar, c)) := hnw
        clear hnw ht
        go_wp2_with (go_at_call 30; refine (CR.out (by trivial)).mono ?_; rintro e w1 ⟨rfl, hb1⟩; have H1 : Hid (Below wr.heap.size wr w1) := hb1; clear hb1)
        go_roundw
        case rel => exact ⟨k + 1, _, ar, c, sz, by omega, rfl, rfl, rfl, by go_num, ⟨HNW.out, HI.out.blk.on H1.out, HI.out.tx.on H1.out, HI.out.szs, HI.out.below.trans (H1.out.mono HI.out.below.size)⟩⟩
        case measure => simp [intOf]; omega
      · have CS : Hid (∀ w1, Calls Try.prog 31 #[.string (bs (D.p k).l)] w1 fun e w' => (∃ V, e = .returned (.tuple #[.int .u64 (scanOf (D.p k).l).1.gen, V, .int .i64 (scanOf (D.p k).l).1.fin, .bool (scanOf (D.p k).l).2]) ∧ TxAt w1.heap.size V (scanOf (D.p k).l).1.recs w') ∧ Below w1.heap.size w1 w') := fun w1 => rread31 _ w1 hll
        have hbh : (scanOf (D.p k).l).2 = true → ((scanOf (D.p k).l).1.fin < (D.p k).l.length ↔ 0 < (scanOf (D.p k).l).1.beh) := fun h => by
          cases hl : lgOf (D.p k).l with
          | none => rw [scan_none hl] at h; exact absurd h (by decide)
          | some x => rw [scan_some hl]; dsimp only; omega
        have hls : (bs (D.p k).l).size = (D.p k).l.length := bs_size _
        have HBH : Hid ((scanOf (D.p k).l).2 = true → ((scanOf (D.p k).l).1.fin < (D.p k).l.length ↔ 0 < (scanOf (D.p k).l).1.beh)) := hbh
        have HNW : Hid (newestTo D (k + 1) = if (D.p k).there = true ∧ (scanOf (D.p k).l).2 = true ∧ (ar = -1 ∨ c.gen < (scanOf (D.p k).l).1.gen) then ((k : Int), (scanOf (D.p k).l).1) else (ar, c)) := hnw
        have HTh : Hid ((D.p k).there = true) := ht
        clear hnw hbh ht
        generalize (D.p k).l = l at *
        generalize scanOf l = S at *
        obtain ⟨S, ok⟩ := S
        dsimp only at HBH HNW CS
        cases ok
        · have HN2 : Hid (newestTo D (k + 1) = (ar, c)) := by show _ = _; rw [HNW.out]; simp
          clear HNW HBH HTh
          go_wp2_with (first | (go_at_call 30; refine (CR.out (by trivial)).mono ?_; rintro e w1 ⟨rfl, hb1⟩; have H1 : Hid (RbAt qb rb ar c.gen w1 ∧ TxAt (qb + 1) (.slice ao n cp) c.recs w1 ∧ Below w.heap.size w w1 ∧ qb + 1 ≤ w1.heap.size) := ⟨HI.out.blk.on hb1, HI.out.tx.on hb1, HI.out.below.trans (hb1.mono HI.out.below.size), (HI.out.blk.on hb1).lt⟩; clear hb1) | (go_at_call 31; refine (CS.out _).mono ?_; rintro e w2 ⟨⟨V2, rfl, ht2⟩, hb2⟩; have H2 : Hid (TxAt (qb + 1) V2 S.recs w2 ∧ RbAt qb rb ar c.gen w2 ∧ TxAt (qb + 1) (.slice ao n cp) c.recs w2 ∧ Below w.heap.size w w2) := ⟨ht2.widen H1.out.2.2.2, H1.out.1.on hb2, H1.out.2.1.on hb2, H1.out.2.2.1.trans (hb2.mono H1.out.2.2.1.size)⟩; obtain ⟨d0, d1, d2, df⟩ := H2.out.2.1.cells; have hl3 := H2.out.2.1.set1 (k : Int); obtain ⟨e0, e1, e2, ef⟩ := hl3.cells; clear ht2 hb2 hl3))
          go_roundw
          case rel => exact ⟨k + 1, _, ar, c, sz, by omega, rfl, rfl, rfl, by go_num, ⟨HN2.out, H2.out.2.1, H2.out.2.2.1, HI.out.szs, H2.out.2.2.2⟩⟩
          case measure => simp [intOf]; omega
        by_cases ha1 : ar = -1
        · subst ha1
          have HN2 : Hid (newestTo D (k + 1) = ((k : Int), S)) := by show _ = _; rw [HNW.out, HTh.out]; simp
          clear HNW HTh
          go_wp2_with (first | (go_at_call 30; refine (CR.out (by trivial)).mono ?_; rintro e w1 ⟨rfl, hb1⟩; have H1 : Hid (RbAt qb rb (-1) c.gen w1 ∧ TxAt (qb + 1) (.slice ao n cp) c.recs w1 ∧ Below w.heap.size w w1 ∧ qb + 1 ≤ w1.heap.size) := ⟨HI.out.blk.on hb1, HI.out.tx.on hb1, HI.out.below.trans (hb1.mono HI.out.below.size), (HI.out.blk.on hb1).lt⟩; clear hb1) | (go_at_call 31; refine (CS.out _).mono ?_; rintro e w2 ⟨⟨V2, rfl, ht2⟩, hb2⟩; have H2 : Hid (TxAt (qb + 1) V2 S.recs w2 ∧ RbAt qb rb (-1) c.gen w2 ∧ TxAt (qb + 1) (.slice ao n cp) c.recs w2 ∧ Below w.heap.size w w2) := ⟨ht2.widen H1.out.2.2.2, H1.out.1.on hb2, H1.out.2.1.on hb2, H1.out.2.2.1.trans (hb2.mono H1.out.2.2.1.size)⟩; obtain ⟨d0, d1, d2, df⟩ := H2.out.2.1.cells; have hl3 := H2.out.2.1.set1 (k : Int); obtain ⟨e0, e1, e2, ef⟩ := hl3.cells; clear ht2 hb2 hl3))
          go_roundw
          case rel => exact ⟨k + 1, V2, (k : Int), S, l.length, by omega, rfl, rfl, by rfl, by go_num, ⟨HN2.out, (H2.out.2.1.set1 (k : Int)).set2 S.gen, (H2.out.1.box (Nat.lt_succ_self qb) _ _).box (Nat.lt_succ_self qb) _ _, HBH.out (by trivial), (H2.out.2.2.2.setCell (p := ⟨qb, 1, none⟩) (by rw [HQ.out]; exact Nat.le_refl _) _).setCell (p := ⟨qb, 2, none⟩) (by rw [HQ.out]; exact Nat.le_refl _) _⟩⟩
          case measure => simp [intOf]; omega
        · have ha0 : ¬ ar < 0 := by omega
          by_cases hg : c.gen < S.gen
          · have hg' : (c.gen : Int) < S.gen := by omega
            have HN2 : Hid (newestTo D (k + 1) = ((k : Int), S)) := by show _ = _; rw [HNW.out, HTh.out]; simp [hg]
            clear HNW HTh hg
            go_wp2_with (first | (go_at_call 30; refine (CR.out (by trivial)).mono ?_; rintro e w1 ⟨rfl, hb1⟩; have H1 : Hid (RbAt qb rb ar c.gen w1 ∧ TxAt (qb + 1) (.slice ao n cp) c.recs w1 ∧ Below w.heap.size w w1 ∧ qb + 1 ≤ w1.heap.size) := ⟨HI.out.blk.on hb1, HI.out.tx.on hb1, HI.out.below.trans (hb1.mono HI.out.below.size), (HI.out.blk.on hb1).lt⟩; clear hb1) | (go_at_call 31; refine (CS.out _).mono ?_; rintro e w2 ⟨⟨V2, rfl, ht2⟩, hb2⟩; have H2 : Hid (TxAt (qb + 1) V2 S.recs w2 ∧ RbAt qb rb ar c.gen w2 ∧ TxAt (qb + 1) (.slice ao n cp) c.recs w2 ∧ Below w.heap.size w w2) := ⟨ht2.widen H1.out.2.2.2, H1.out.1.on hb2, H1.out.2.1.on hb2, H1.out.2.2.1.trans (hb2.mono H1.out.2.2.1.size)⟩; obtain ⟨d0, d1, d2, df⟩ := H2.out.2.1.cells; have hl3 := H2.out.2.1.set1 (k : Int); obtain ⟨e0, e1, e2, ef⟩ := hl3.cells; clear ht2 hb2 hl3))
            go_roundw
            case rel => exact ⟨k + 1, V2, (k : Int), S, l.length, by omega, rfl, rfl, by rfl, by go_num, ⟨HN2.out, (H2.out.2.1.set1 (k : Int)).set2 S.gen, (H2.out.1.box (Nat.lt_succ_self qb) _ _).box (Nat.lt_succ_self qb) _ _, HBH.out (by trivial), (H2.out.2.2.2.setCell (p := ⟨qb, 1, none⟩) (by rw [HQ.out]; exact Nat.le_refl _) _).setCell (p := ⟨qb, 2, none⟩) (by rw [HQ.out]; exact Nat.le_refl _) _⟩⟩
            case measure => simp [intOf]; omega
          · have hg' : ¬ (c.gen : Int) < S.gen := by omega
            have HN2 : Hid (newestTo D (k + 1) = (ar, c)) := by show _ = _; rw [HNW.out]; simp [hg, ha1]
            clear HNW HTh hg HBH
            go_wp2_with (first | (go_at_call 30; refine (CR.out (by trivial)).mono ?_; rintro e w1 ⟨rfl, hb1⟩; have H1 : Hid (RbAt qb rb ar c.gen w1 ∧ TxAt (qb + 1) (.slice ao n cp) c.recs w1 ∧ Below w.heap.size w w1 ∧ qb + 1 ≤ w1.heap.size) := ⟨HI.out.blk.on hb1, HI.out.tx.on hb1, HI.out.below.trans (hb1.mono HI.out.below.size), (HI.out.blk.on hb1).lt⟩; clear hb1) | (go_at_call 31; refine (CS.out _).mono ?_; rintro e w2 ⟨⟨V2, rfl, ht2⟩, hb2⟩; have H2 : Hid (TxAt (qb + 1) V2 S.recs w2 ∧ RbAt qb rb ar c.gen w2 ∧ TxAt (qb + 1) (.slice ao n cp) c.recs w2 ∧ Below w.heap.size w w2) := ⟨ht2.widen H1.out.2.2.2, H1.out.1.on hb2, H1.out.2.1.on hb2, H1.out.2.2.1.trans (hb2.mono H1.out.2.2.1.size)⟩; obtain ⟨d0, d1, d2, df⟩ := H2.out.2.1.cells; have hl3 := H2.out.2.1.set1 (k : Int); obtain ⟨e0, e1, e2, ef⟩ := hl3.cells; clear ht2 hb2 hl3))
            go_roundw
            case rel => exact ⟨k + 1, _, ar, c, sz, by omega, rfl, rfl, rfl, by go_num, ⟨HN2.out, H2.out.2.1, H2.out.2.2.1, HI.out.szs, H2.out.2.2.2⟩⟩
            case measure => simp [intOf]; omega
    · have hk44 : k = 4 := by omega
      subst hk44
      have HOE : Hid (∀ x E, cutTo D ar 4 = (x, E) → y = if x ≠ 0 then (x, (0, 0, []), E) else if ar = -1 then (if (layF E 0 1 []).1 ≠ 0 then ((layF E 0 1 []).1, (0, 0, []), (layF E 0 1 []).2) else (0, (0, 1, []), (layF E 0 1 []).2)) else if 0 < c.beh then (if (E.trim ar c.fin).1 ≠ 0 then ((E.trim ar c.fin).1, (0, 0, []), (E.trim ar c.fin).2) else (0, (ar, c.gen, c.recs), (E.trim ar c.fin).2)) else (0, (ar, c.gen, c.recs), E)) := fun x E h => by
        rw [← HY.out]
        unfold openF
        rw [HI.out.nw]
        dsimp only
        rw [h]
      go_wp2_with fail
      go_loopw [16] (fun v16 wq => ∃ (j : Nat) (E : Dr), j ≤ 4 ∧ v16 = .int .i64 j ∧ cutTo D ar j = (0, E) ∧ RgAt qb rb ar c.gen E wq ∧ TxAt (qb + 1) (.slice ao n cp) c.recs wq ∧ Drm.Sole rb w wq) (fun v16 _ => 4 - (intOf v16).toNat)
      case atStart => exact ⟨0, D, by omega, rfl, rfl, ⟨HI.out.blk, H.out.1.on HI.out.below, by rw [HQ.out]; exact hlt⟩, HI.out.tx, Drm.Sole.of_below HI.out.below⟩
      case round =>
        clear hdc c0 c1 c2 cf
        obtain ⟨j, E, hj, rfl, hE, hRg, htx, hso⟩ := hrel
        have hEo : E.Ok := by have := cutTo_ok H.out.2.1 ar j; rw [hE] at this; exact this
        have HR : Hid (RgAt qb rb ar c.gen E wr ∧ TxAt (qb + 1) (.slice ao n cp) c.recs wr ∧ Drm.Sole rb w wr) := ⟨hRg, htx, hso⟩
        clear hRg htx hso
        obtain ⟨c0, c1, c2, cf⟩ := HR.out.1.blk.cells
        by_cases hj4 : j < 4
        · have CH : Hid (1 = 1 → Calls Try.prog 32 #[.pointer (some ⟨rb, 0, none⟩), .int .i64 j] wr fun e w' => e = .returned (.bool (E.has j)) ∧ wr = w') := fun _ => Drm.rhas25 rb E j wr HR.out.1.drum
          have hcu : cutTo D ar (j + 1) = if (j : Int) = ar ∨ E.has j = false then (0, E) else E.cut j := by
            show (if (cutTo D ar j).1 ≠ 0 then _ else _) = _
            rw [hE]
            simp
          have hc4 : ∀ x E', E.cut j = (x, E') → x ≠ 0 → cutTo D ar (j + 1) = (x, E') → cutTo D ar 4 = (x, E') := fun x E' _ h1 h2 => by
            rw [cutTo_four (k := j + 1) (by omega) (by rw [h2]; exact h1), h2]
          have HCU : Hid (cutTo D ar (j + 1) = if (j : Int) = ar ∨ E.has j = false then (0, E) else E.cut j) := hcu
          clear hcu hE
          cases hh : E.has j with
          | false =>
            rw [hh] at CH
            have HC2 : Hid (cutTo D ar (j + 1) = (0, E)) := by show _ = _; rw [HCU.out, hh]; simp
            clear HCU hh
            go_wp2_with (go_at_call 32; refine (CH.out (by trivial)).mono ?_; rintro e w5 ⟨rfl, rfl⟩)
            go_roundw
            case rel =>
              (repeat apply Exists.intro)
              refine ⟨?_, rfl⟩
              exact ⟨j + 1, E, by omega, by go_num, HC2.out, HR.out⟩
            case measure => simp [intOf]; omega
          | true =>
            rw [hh] at CH
            by_cases hja : (j : Int) = ar
            · have hja' : ((j : Int) != ar) = false := by simp [hja]
              have HC2 : Hid (cutTo D ar (j + 1) = (0, E)) := by show _ = _; rw [HCU.out, if_pos (.inl hja)]
              clear HCU hh hja
              go_wp2_with (go_at_call 32; refine (CH.out (by trivial)).mono ?_; rintro e w5 ⟨rfl, rfl⟩)
              go_roundw
              case rel =>
                (repeat apply Exists.intro)
                refine ⟨?_, rfl⟩
                exact ⟨j + 1, E, by omega, by go_num, HC2.out, HR.out⟩
              case measure => simp [intOf]; omega
            · have hja' : ((j : Int) != ar) = true := by simp [hja]
              obtain ⟨x, E1, hx⟩ : ∃ x E1, E.cut j = (x, E1) := ⟨_, _, rfl⟩
              have hC2 : cutTo D ar (j + 1) = (x, E1) := by rw [HCU.out, if_neg (by rw [hh]; simp [hja]), hx]
              have CC : Hid (1 = 1 → Calls Try.prog 33 #[.pointer (some ⟨rb, 0, none⟩), .int .i64 j] wr fun e w' => e = .returned (.int .i64 x) ∧ RefAt rb E1 w' ∧ Drm.Sole rb wr w') := fun _ => by
                have := Drm.rcut17 rb E j wr HR.out.1.drum hEo
                rw [hx] at this
                exact this
              have HC2 : Hid (cutTo D ar (j + 1) = (x, E1)) := hC2
              have HC4 : Hid (x ≠ 0 → cutTo D ar 4 = (x, E1)) := fun h => hc4 x E1 hx h hC2
              clear HCU hh hja hx hC2 hc4
              by_cases hx0 : x = 0
              · subst hx0
                go_wp2_with (first | (go_at_call 32; refine (CH.out (by trivial)).mono ?_; rintro e w5 ⟨rfl, rfl⟩) | (go_at_call 33; refine (CC.out (by trivial)).mono ?_; rintro e w6 ⟨rfl, h6, k6⟩; have H6 : Hid (RgAt qb rb ar c.gen E1 w6 ∧ TxAt (qb + 1) (.slice ao n cp) c.recs w6 ∧ Drm.Sole rb w w6) := ⟨HR.out.1.sole h6 k6, HR.out.2.1.sole (by have := HR.out.1.ne; omega) k6, HR.out.2.2.trans k6⟩; clear h6 k6))
                go_roundw
                case rel =>
                  (repeat apply Exists.intro)
                  refine ⟨?_, rfl⟩
                  exact ⟨j + 1, E1, by omega, by go_num, HC2.out, H6.out⟩
                case measure => simp [intOf]; omega
              · have hx' : (x != 0) = true := by simp [hx0]
                have HY2 : Hid (y = (x, (0, 0, []), E1)) := by show _ = _; rw [HOE.out x E1 (HC4.out hx0), if_pos hx0]
                have HX0 : Hid (x ≠ 0) := hx0
                clear hx0
                go_wp2_with (first | (go_at_call 32; refine (CH.out (by trivial)).mono ?_; rintro e w5 ⟨rfl, rfl⟩) | (go_at_call 33; refine (CC.out (by trivial)).mono ?_; rintro e w6 ⟨rfl, h6, k6⟩; have H6 : Hid (RefAt rb E1 w6 ∧ Drm.Sole rb w w6) := ⟨h6, HR.out.2.2.trans k6⟩; clear h6 k6))
                go_ret3
                rw [← HQE.out, HY2.out]
                exact .inl ⟨HX0.out, rfl, H6.out⟩
        · have hj44 : j = 4 := by omega
          subst hj44
          have hoe := HOE.out 0 E hE
          rw [if_neg (by simp)] at hoe
          have hwq : w.heap.size ≤ qb := by rw [HQ.out]; exact Nat.le_refl _
          clear hE
          by_cases ha1 : ar = -1
          · subst ha1
            rw [if_pos rfl] at hoe
            obtain ⟨x, E1, hx⟩ : ∃ x E1, layF E 0 1 [] = (x, E1) := ⟨_, _, rfl⟩
            rw [hx] at hoe
            dsimp only at hoe
            have hl3 : RbAt qb rb 0 c.gen (wr.setCell ⟨qb, 1, none⟩ (.int .i64 0)) := HR.out.1.blk.set1 0
            obtain ⟨e0, e1, e2, ef⟩ := hl3.cells
            have hl4 : RbAt qb rb 0 1 ((wr.setCell ⟨qb, 1, none⟩ (.int .i64 0)).setCell ⟨qb, 2, none⟩ (.int .u64 1)) := hl3.set2 1
            have hne := HR.out.1.ne
            have hd4 : RefAt rb E ((wr.setCell ⟨qb, 1, none⟩ (.int .i64 0)).setCell ⟨qb, 2, none⟩ (.int .u64 1)) := RefAt.box (RefAt.box HR.out.1.drum (by omega) _) (by omega) _
            have hso : Drm.Sole rb w ((wr.setCell ⟨qb, 1, none⟩ (.int .i64 0)).setCell ⟨qb, 2, none⟩ (.int .u64 1)) := (HR.out.2.2.box hwq _ _).box hwq _ _
            have H4 : Hid (RgAt qb rb 0 1 E ((wr.setCell ⟨qb, 1, none⟩ (.int .i64 0)).setCell ⟨qb, 2, none⟩ (.int .u64 1)) ∧ Drm.Sole rb w ((wr.setCell ⟨qb, 1, none⟩ (.int .i64 0)).setCell ⟨qb, 2, none⟩ (.int .u64 1))) := ⟨⟨hl4, hd4, hne⟩, hso⟩
            have CL : Hid (1 = 1 → Calls Try.prog 35 #[.pointer (some ⟨qb, 0, none⟩), .int .i64 0, .int .u64 1, .slice none 0 0] ((wr.setCell ⟨qb, 1, none⟩ (.int .i64 0)).setCell ⟨qb, 2, none⟩ (.int .u64 1)) fun e w' => e = .returned (.int .i64 x) ∧ RefAt rb E1 w' ∧ Drm.Sole rb ((wr.setCell ⟨qb, 1, none⟩ (.int .i64 0)).setCell ⟨qb, 2, none⟩ (.int .u64 1)) w') := fun _ => by
              have := rlay35 qb rb 1 1 rb 0 0 E [] (.slice none 0 0) _ H4.out.1 hEo (by decide) fit_nil (by simp) (StrsAt.nil rb _)
              rw [hx] at this
              exact this
            have HOE2 : Hid (y = if x ≠ 0 then (x, (0, 0, []), E1) else (0, (0, 1, []), E1)) := hoe
            clear hl3 hl4 hd4 hso hoe hx
            by_cases hx0 : x = 0
            · subst hx0
              have HY2 : Hid (y = (0, (0, 1, []), E1)) := by show _ = _; rw [HOE2.out]; simp
              go_wp2_with (first | (go_at_call 35; refine (CL.out (by trivial)).mono ?_; rintro e w6 ⟨rfl, h6, k6⟩; have H6 : Hid (RgAt qb rb 0 1 E1 w6 ∧ Drm.Sole rb w w6) := ⟨H4.out.1.sole h6 k6, H4.out.2.trans k6⟩; clear h6 k6))
              go_ret3
              rw [← HQE.out, HY2.out]
              exact .inr ⟨rfl, qb, _, rfl, H6.out.1, tx_nil _ _, hwq, H6.out.2⟩
            · have hx' : (x != 0) = true := by simp [hx0]
              have HY2 : Hid (y = (x, (0, 0, []), E1)) := by show _ = _; rw [HOE2.out, if_pos hx0]
              have HX0 : Hid (x ≠ 0) := hx0
              clear hx0
              go_wp2_with (first | (go_at_call 35; refine (CL.out (by trivial)).mono ?_; rintro e w6 ⟨rfl, h6, k6⟩; have H6 : Hid (RefAt rb E1 w6 ∧ Drm.Sole rb w w6) := ⟨h6, H4.out.2.trans k6⟩; clear h6 k6))
              go_ret3
              rw [← HQE.out, HY2.out]
              exact .inl ⟨HX0.out, rfl, H6.out⟩
          · rw [if_neg ha1] at hoe
            have ha0 : (0 : Int) ≤ ar := by omega
            have htw : ∀ w6, TxAt (qb + 1) (.slice ao n cp) c.recs w6 → TxAt w.heap.size (.slice ao n cp) c.recs w6 := fun w6 h => h.widen (by rw [HQ.out]; omega)
            by_cases hbe : 0 < c.beh
            · have hfs : (c.fin : Int) < sz := by have := HI.out.szs.2 hbe; omega
              rw [if_pos hbe] at hoe
              obtain ⟨x, E1, hx⟩ : ∃ x E1, E.trim ar c.fin = (x, E1) := ⟨_, _, rfl⟩
              rw [hx] at hoe
              dsimp only at hoe
              have CT : Hid (1 = 1 → Calls Try.prog 34 #[.pointer (some ⟨rb, 0, none⟩), .int .i64 ar, .int .i64 c.fin] wr fun e w' => e = .returned (.int .i64 x) ∧ RefAt rb E1 w' ∧ Drm.Sole rb wr w') := fun _ => by
                have := Drm.rtrim18 rb E ar c.fin wr HR.out.1.drum hEo
                rw [hx] at this
                exact this
              have HOE2 : Hid (y = if x ≠ 0 then (x, (0, 0, []), E1) else (0, (ar, c.gen, c.recs), E1)) := hoe
              clear hoe hx hbe
              by_cases hx0 : x = 0
              · subst hx0
                have HY2 : Hid (y = (0, (ar, c.gen, c.recs), E1)) := by show _ = _; rw [HOE2.out]; simp
                go_wp2_with (first | (go_at_call 34; refine (CT.out (by trivial)).mono ?_; rintro e w6 ⟨rfl, h6, k6⟩; have H6 : Hid (RgAt qb rb ar c.gen E1 w6 ∧ TxAt (qb + 1) (.slice ao n cp) c.recs w6 ∧ Drm.Sole rb w w6) := ⟨HR.out.1.sole h6 k6, HR.out.2.1.sole (by have := HR.out.1.ne; omega) k6, HR.out.2.2.trans k6⟩; clear h6 k6))
                go_ret3
                rw [← HQE.out, HY2.out]
                exact .inr ⟨rfl, qb, _, rfl, H6.out.1, htw _ H6.out.2.1, hwq, H6.out.2.2⟩
              · have hx' : (x != 0) = true := by simp [hx0]
                have HY2 : Hid (y = (x, (0, 0, []), E1)) := by show _ = _; rw [HOE2.out, if_pos hx0]
                have HX0 : Hid (x ≠ 0) := hx0
                clear hx0
                go_wp2_with (first | (go_at_call 34; refine (CT.out (by trivial)).mono ?_; rintro e w6 ⟨rfl, h6, k6⟩; have H6 : Hid (RefAt rb E1 w6 ∧ Drm.Sole rb w w6) := ⟨h6, HR.out.2.2.trans k6⟩; clear h6 k6))
                go_ret3
                rw [← HQE.out, HY2.out]
                exact .inl ⟨HX0.out, rfl, H6.out⟩
            · have hfs : ¬ (c.fin : Int) < sz := by have := fun h => HI.out.szs.1 h; omega
              rw [if_neg hbe] at hoe
              have HY2 : Hid (y = (0, (ar, c.gen, c.recs), E)) := hoe
              clear hoe hbe
              go_wp2_with fail
              go_ret3
              rw [← HQE.out, HY2.out]
              exact .inr ⟨rfl, qb, _, rfl, HR.out.1, htw _ HR.out.2.1, hwq, HR.out.2.2⟩

end Go.Proofs.Ytjjdmeemhgopbaa

namespace Go.Proofs.Ytjjdmeemhgopbaa
open Go.RowKit Go.Sort
open Drm (Dr Pt)

/-- Down, or just these areas are there. -/
def DT (D : Dr) (T : Nat → Bool) : Prop := D.down = true ∨ ∀ i, i < 4 → (D.p i).there = T i
def Alone (D : Dr) (a : Int) : Prop := ∃ n : Nat, n < 4 ∧ a = (n : Int) ∧ DT D (fun i => decide (i = n))
def upd (T : Nat → Bool) (n : Nat) (b : Bool) : Nat → Bool := fun i => if i = n then b else T i

theorem DT.congr {D : Dr} {T U : Nat → Bool} (h : DT D T) (e : ∀ i, i < 4 → T i = U i) : DT D U := by
  rcases h with h | h
  · exact .inl h
  · exact .inr fun i hi => by rw [h i hi, e i hi]
theorem DT.fuel {D : Dr} {T : Nat → Bool} (h : DT D T) (n : Int) : DT { D with fuel := n } T := h
theorem DT.keep {D : Dr} {T : Nat → Bool} (h : DT D T) (a : Int) (r : Pt → Int) (f : Pt → Pt) (hf : ∀ q, (f q).there = q.there) : DT (D.step a r f).2 T := by
  unfold Drm.Dr.step
  split
  · exact h
  split
  · exact h
  split
  · exact h
  split
  · exact .inl rfl
  · rcases h with h | h
    · exact .inl h
    · refine .inr fun i hi => ?_
      show ((D.burn.set _ _).p i).there = _
      by_cases hia : i = a.toNat
      · subst hia
        rw [Drm.Dr.set_same, hf]
        exact h _ hi
      · rw [Drm.Dr.set_other _ _ _ _ hia]
        exact h i hi
theorem DT.write {D : Dr} {T : Nat → Bool} (h : DT D T) (a : Int) (s : List UInt8) : DT (D.write a s).2 T := h.keep _ _ _ fun _ => rfl
theorem DT.sync {D : Dr} {T : Nat → Bool} (h : DT D T) (a : Int) : DT (D.sync a).2 T := h.keep _ _ _ fun _ => rfl
theorem DT.trim {D : Dr} {T : Nat → Bool} (h : DT D T) (a n : Int) : DT (D.trim a n).2 T := h.keep _ _ _ fun _ => rfl
theorem DT.put {D : Dr} {T : Nat → Bool} (h : DT D T) (a : Int) (s : List UInt8) : DT (putF D a s).2 T := by
  unfold putF
  split
  · exact h.write _ _
  · exact (h.write _ _).sync _
theorem DT.set {D : Dr} {T : Nat → Bool} (h : ∀ i, i < 4 → (D.p i).there = T i) (n : Nat) (q : Pt) : DT (D.burn.set n q) (upd T n q.there) := by
  refine .inr fun i hi => ?_
  unfold upd
  by_cases hin : i = n
  · subst hin; rw [Drm.Dr.set_same, if_pos rfl]
  · rw [Drm.Dr.set_other _ _ _ _ hin, if_neg hin]; exact h i hi
theorem DT.lay0 {D : Dr} {T : Nat → Bool} (h : DT D T) {n : Nat} (hn : n < 4) (h0 : (D.lay n).1 = 0) : DT (D.lay n).2 (upd T n true) := by
  by_cases hd : D.down = true
  · have : D.lay n = (11, D) := step_down hd _ _ _
    rw [this]; exact .inl hd
  · have hd' : D.down = false := by simpa using hd
    rcases h with h | h
    · exact absurd h hd
    · cases ht : (D.p n).there with
      | false =>
        rw [lay_goes hd' hn ht]
        split
        · exact .inl rfl
        · exact DT.set h n _
      | true =>
        have : D.lay n = (1, D) := by unfold Drm.Dr.lay; rw [step_goes _ _ hd' hn]; simp [ht]
        rw [this] at h0
        exact absurd h0 (by show ¬ (1 : Int) = 0; decide)
theorem DT.lay1 {D : Dr} {T : Nat → Bool} (h : DT D T) {n : Nat} (hn : n < 4) (h0 : (D.lay n).1 ≠ 0) : DT (D.lay n).2 T := by
  by_cases hd : D.down = true
  · have : D.lay n = (11, D) := step_down hd _ _ _
    rw [this]; exact .inl hd
  · have hd' : D.down = false := by simpa using hd
    cases ht : (D.p n).there with
    | false =>
      rw [lay_goes hd' hn ht] at h0 ⊢
      split
      · exact .inl rfl
      · next hf => rw [if_neg hf] at h0; exact absurd rfl h0
    | true =>
      have : D.lay n = (1, D) := by unfold Drm.Dr.lay; rw [step_goes _ _ hd' hn]; simp [ht]
      rw [this]
      exact h
theorem DT.cut1 {D : Dr} {T : Nat → Bool} (h : DT D T) {n : Nat} (hn : n < 4) : DT (D.cut n).2 (upd T n false) := by
  by_cases hd : D.down = true
  · have : D.cut n = (11, D) := step_down hd _ _ _
    rw [this]; exact .inl hd
  · have hd' : D.down = false := by simpa using hd
    rcases h with h | h
    · exact absurd h hd
    · cases ht : (D.p n).there with
      | true =>
        rw [cut_goes hd' hn ht]
        split
        · exact .inl rfl
        · exact DT.set h n _
      | false =>
        have : D.cut n = (12, D) := by unfold Drm.Dr.cut; rw [step_goes _ _ hd' hn]; simp [ht, Drm.missing]
        rw [this]
        refine .inr fun i hi => ?_
        unfold upd
        by_cases hin : i = n
        · subst hin; rw [if_pos rfl]; exact ht
        · rw [if_neg hin]; exact h i hi
theorem DT.layF0 {D : Dr} {T : Nat → Bool} (h : DT D T) {n : Nat} (hn : n < 4) (g : Nat) (R : List (List UInt8)) (h0 : (layF D n g R).1 = 0) : DT (layF D n g R).2 (upd T n true) := by
  unfold layF at h0 ⊢
  split
  · next h1 => rw [if_pos h1] at h0; exact absurd h0 h1
  · next h1 => exact (h.lay0 hn (by simpa using h1)).put _ _
/-- Behind a lay that failed and a cut. -/
theorem DT.layF1 {D : Dr} {T : Nat → Bool} (h : DT D T) {n : Nat} (hn : n < 4) (hT : T n = false) (g : Nat) (R : List (List UInt8)) : DT ((layF D n g R).2.cut n).2 T := by
  unfold layF
  split
  · next h1 =>
    refine ((h.lay1 hn h1).cut1 hn).congr fun i hi => ?_
    unfold upd
    split
    · next e => rw [e, hT]
    · rfl
  · next h1 =>
    refine (((h.lay0 hn (by simpa using h1)).put _ _).cut1 hn).congr fun i hi => ?_
    unfold upd
    split
    · next e => rw [e, hT]
    · rfl

theorem Alone.spare {D : Dr} {a : Int} (h : Alone D a) : D.down = true ∨ spareF D ≠ 4 := by
  obtain ⟨n, hn, rfl, h⟩ := h
  rcases h with h | h
  · exact .inl h
  · right
    unfold spareF
    have h0 := h 0 (by omega)
    have h1 := h 1 (by omega)
    by_cases hn0 : n = 0
    · subst hn0
      rw [if_neg (by simp [h0]), if_pos (by simp [h1])]
      decide
    · rw [if_pos (by rw [h0]; simp; omega)]
      decide
theorem Alone.append {D : Dr} {a : Int} (h : Alone D a) (r : List UInt8) : Alone (appendF D a r).2 a := by
  unfold appendF
  split
  · exact h
  · obtain ⟨n, hn, rfl, h⟩ := h
    exact ⟨n, hn, rfl, h.put _ _⟩
theorem Alone.fuel {D : Dr} {a : Int} (h : Alone D a) (m : Int) : Alone { D with fuel := m } a := by
  obtain ⟨n, hn, rfl, h⟩ := h
  exact ⟨n, hn, rfl, h.fuel m⟩
theorem Alone.renew {D : Dr} {a : Int} (h : Alone D a) (g : Nat) (L : List (List UInt8)) : Alone (renewF D a g L).2.2 (renewF D a g L).2.1.1 := by
  unfold renewF
  split
  · exact h
  split
  · exact h
  · next hd =>
    split
    · exact h
    · next hs4 =>
      obtain ⟨n, hn, rfl, h⟩ := h
      obtain ⟨s, hs⟩ : ∃ s, spareF D = s := ⟨_, rfl⟩
      have hs' : s < 4 := by
        rw [← hs]
        rw [← hs] at *
        unfold spareF at hs4 ⊢
        repeat' split
        all_goals first | omega | (simp_all)
      have hst : (D.p s).there = false := by
        rw [← hs]
        unfold spareF at hs4 ⊢
        repeat' split
        all_goals simp_all
      have hsn : s ≠ n := by
        rcases h with h | h
        · exact absurd h hd
        · intro e
          have := h s hs'
          rw [hst, e] at this
          simp at this
      rw [hs]
      split
      · exact ⟨n, hn, rfl, h.layF1 hs' (by simpa using hsn) _ _⟩
      · next h0 =>
        refine ⟨s, hs', rfl, ((h.layF0 hs' _ _ (by simpa using h0)).cut1 hn).congr fun i hi => ?_⟩
        unfold upd
        by_cases hi1 : i = n
        · subst hi1; simp; omega
        · by_cases hi2 : i = s
          · simp [hi2, hsn]
          · simp [hi1, hi2]

theorem cut_zero {D : Dr} {n : Nat} (h : (D.cut n).1 = 0) : D.down = false ∧ (D.cut n).2 = D.burn.set n Pt.none := by
  unfold Drm.Dr.cut Drm.Dr.step at h ⊢
  split at h
  · exact absurd h (by show ¬ (11 : Int) = 0; decide)
  · next h1 =>
    split at h
    · exact absurd h (by show ¬ (1 : Int) = 0; decide)
    · next h2 =>
      split at h
      · next h3 => exact absurd h h3
      · next h3 =>
        split at h
        · exact absurd h (by show ¬ (11 : Int) = 0; decide)
        · next h4 =>
          refine ⟨by simpa using h1, ?_⟩
          rw [if_neg h1, if_neg h2, if_neg h3, if_neg h4]
          rfl
theorem cutTo_there {D : Dr} (hd : D.down = false) (ar : Int) : ∀ k, k ≤ 4 → (cutTo D ar k).1 = 0 → (cutTo D ar k).2.down = false ∧ ∀ i, ((cutTo D ar k).2.p i).there = if i < k ∧ (i : Int) ≠ ar then false else (D.p i).there
  | 0, _, _ => ⟨hd, fun i => by rw [if_neg (by omega)]; rfl⟩
  | k + 1, hk, h => by
    unfold cutTo at h ⊢
    split at h
    · next h1 => exact absurd h h1
    · next h1 =>
      rw [if_neg h1]
      have ih := cutTo_there hd ar k (by omega) (by simpa using h1)
      split at h
      · next h2 =>
        rw [if_pos h2]
        refine ⟨ih.1, fun i => ?_⟩
        rw [ih.2 i]
        by_cases hik : i = k
        · subst hik
          rw [if_neg (by omega)]
          rcases h2 with h2 | h2
          · rw [if_neg (by simp [h2])]
          · split
            · have h3 := ih.2 i
              rw [if_neg (by omega)] at h3
              rw [← h3]
              rw [← has_nat _ i (by omega)]
              exact h2
            · rfl
        · have : (i < k + 1 ∧ (i : Int) ≠ ar) ↔ (i < k ∧ (i : Int) ≠ ar) := by omega
          simp only [this]
      · next h2 =>
        rw [if_neg h2]
        obtain ⟨c1, c2⟩ := cut_zero h
        rw [c2]
        refine ⟨ih.1, fun i => ?_⟩
        by_cases hik : i = k
        · subst hik
          rw [Drm.Dr.set_same, if_pos ⟨by omega, fun e => h2 (.inl e)⟩]
          rfl
        · rw [Drm.Dr.set_other _ _ _ _ hik]
          show ((cutTo D ar k).2.p i).there = _
          rw [ih.2 i]
          have : (i < k + 1 ∧ (i : Int) ≠ ar) ↔ (i < k ∧ (i : Int) ≠ ar) := by omega
          simp only [this]
theorem newest_there (D : Dr) : ∀ k, (newestTo D k).1 ≠ -1 → (D.p (newestTo D k).1.toNat).there = true
  | 0, h => absurd rfl h
  | k + 1, h => by
    unfold newestTo at h ⊢
    split
    · next h1 => exact h1.1
    · next h1 =>
      rw [if_neg h1] at h
      exact newest_there D k h
theorem open_alone {D : Dr} (hd : D.down = false) (h : (openF D).1 = 0) : Alone (openF D).2.2 (openF D).2.1.1 := by
  have hn := newest_there D 4
  have hr := newest_range D 4
  unfold openF at h ⊢
  obtain ⟨ar, c, hnw⟩ : ∃ ar c, newestTo D 4 = (ar, c) := ⟨_, _, rfl⟩
  rw [hnw] at h hn hr ⊢
  dsimp only at h hn hr ⊢
  split at h
  · next h1 => exact absurd h h1
  · next h1 =>
    rw [if_neg h1]
    have hc := cutTo_there hd ar 4 (by omega) (by simpa using h1)
    have hT : DT (cutTo D ar 4).2 (fun i => if (i : Int) ≠ ar then false else (D.p i).there) := .inr fun i hi => by
      rw [hc.2 i]
      simp [hi]
    split at h
    · next h2 =>
      rw [if_pos h2]
      subst h2
      split at h
      · next h3 => exact absurd h h3
      · next h3 =>
        rw [if_neg h3]
        refine ⟨0, by omega, rfl, (hT.layF0 (n := 0) (by omega) 1 [] (by simpa using h3)).congr fun i hi => ?_⟩
        unfold upd
        by_cases h0 : i = 0
        · simp [h0]
        · rw [if_neg h0]
          simp [h0]
    · next h2 =>
      rw [if_neg h2]
      have hal : DT (cutTo D ar 4).2 (fun i => decide (i = ar.toNat)) := hT.congr fun i hi => by
        by_cases he : (i : Int) = ar
        · have : i = ar.toNat := by omega
          subst this
          rw [if_neg (by simp [he])]
          simpa using hn h2
        · rw [if_pos he]
          simp
          omega
      split at h
      · next h3 =>
        rw [if_pos h3]
        split at h
        · next h4 => exact absurd h h4
        · next h4 =>
          rw [if_neg h4]
          exact ⟨ar.toNat, by omega, by simp; omega, hal.trim _ _⟩
      · next h3 =>
        rw [if_neg h3]
        exact ⟨ar.toNat, by omega, by simp; omega, hal⟩

end Go.Proofs.Ytjjdmeemhgopbaa

namespace Go.Proofs.Ytjjdmeemhgopbaa
open Go.RowKit Go.Sort
open Drm (Dr Pt DrumAt DrumIn RefAt)

set_option maxHeartbeats 1600000 in
theorem same14 (pb rb : Nat) (D : Dr) (w : World) (hD : DrumAt pb D w) (hR : RefAt rb D w) (hOk : D.Ok) :
    Calls Try.prog 14 #[.pointer (some ⟨pb, 0, none⟩), .pointer (some ⟨rb, 0, none⟩)] w fun e w' => e = .returned (.bool true) ∧ Below w.heap.size w w' := by
  have H : Hid (DrumAt pb D w ∧ RefAt rb D w ∧ D.Ok) := ⟨hD, hR, hOk⟩
  clear hD hR hOk
  go_enter Try.func14, Try.ntmps14
  go_wp2_with fail
  go_loopw [10] (fun i wr => ∃ k : Nat, k ≤ 4 ∧ i = .int .i64 k ∧ Below w.heap.size w wr) (fun i _ => 4 - (intOf i).toNat)
  case atStart => exact ⟨0, by omega, rfl, Below.refl _ _⟩
  case round =>
    obtain ⟨k, hk, rfl, hb⟩ := hrel
    have HB : Hid (Below w.heap.size w wr ∧ DrumAt pb D wr ∧ RefAt rb D wr) := ⟨hb, H.out.1.on hb, H.out.2.1.on hb⟩
    clear hb
    by_cases hlt : k < 4
    · obtain ⟨l, x, hr⟩ : ∃ l x, D.read k = (l, x) := ⟨_, _, rfl⟩
      have C1 : Hid (1 = 1 → Calls Try.prog 36 #[.pointer (some ⟨pb, 0, none⟩), .int .i64 k] wr fun e w' => e = .returned (.tuple #[.string (bs l), .int .i64 x]) ∧ wr = w') := fun _ => by
        have := Drm.read10 pb D k wr HB.out.2.1
        rw [hr] at this
        exact this
      have C2 : Hid (1 = 1 → Calls Try.prog 30 #[.pointer (some ⟨rb, 0, none⟩), .int .i64 k] wr fun e w' => e = .returned (.tuple #[.string (bs l), .int .i64 x]) ∧ Below wr.heap.size wr w') := fun _ => by
        have := Drm.rread24 rb D k wr HB.out.2.2 H.out.2.2
        rw [hr] at this
        exact this
      have C3 : Hid (∀ w, DrumAt pb D w → Calls Try.prog 37 #[.pointer (some ⟨pb, 0, none⟩), .int .i64 k] w fun e w' => e = .returned (.bool (D.has k)) ∧ w = w') := fun w h => Drm.has15 pb D k w h
      have C4 : Hid (∀ w, RefAt rb D w → Calls Try.prog 32 #[.pointer (some ⟨rb, 0, none⟩), .int .i64 k] w fun e w' => e = .returned (.bool (D.has k)) ∧ w = w') := fun w h => Drm.rhas25 rb D k w h
      clear hr
      generalize D.has k = q at *
      cases q
      all_goals
        go_wp2_with (first | (go_at_call 36; refine (C1.out (by trivial)).mono ?_; rintro e w1 ⟨rfl, rfl⟩) | (go_at_call 30; refine (C2.out (by trivial)).mono ?_; rintro e w2 ⟨rfl, hb2⟩; have H2 : Hid (Below w.heap.size w w2 ∧ DrumAt pb D w2 ∧ RefAt rb D w2) := ⟨HB.out.1.trans (hb2.mono HB.out.1.size), HB.out.2.1.on hb2, HB.out.2.2.on hb2⟩; clear hb2) | (go_at_call 37; refine (C3.out _ H2.out.2.1).mono ?_; rintro e w3 ⟨rfl, rfl⟩) | (go_at_call 32; refine (C4.out _ H2.out.2.2).mono ?_; rintro e w4 ⟨rfl, rfl⟩))
        go_roundw
        case rel => exact ⟨k + 1, by omega, by go_num, H2.out.1⟩
        case measure => simp [intOf]; omega
    · have hdc := HB.out.2.2.down
      have CD : Hid (∀ w, DrumAt pb D w → Calls Try.prog 24 #[.pointer (some ⟨pb, 0, none⟩)] w fun e w' => e = .returned (.bool D.down) ∧ w = w') := fun w h => by obtain ⟨vs, h⟩ := h; exact Drm.down13 pb D.down w h.down
      generalize D.down = q at *
      go_wp2_with fail
      go_region_held3 (fun w' => w'.cell? ⟨rb, 2, none⟩ = some (.bool q) ∧ Hid (DrumAt pb D w'))
        (first | exact ⟨hdc, HB.out.2.1⟩ | exact ⟨hdc, HB.out.2.1.drew⟩)
        (first | (go_at_call 24; refine (CD.out _ HB.out.2.1.drew).mono ?_; rintro e w5 ⟨rfl, rfl⟩))
      go_wp2_with fail
      go_ret
      exact ⟨by simp, HB.out.1.drew⟩

end Go.Proofs.Ytjjdmeemhgopbaa

namespace Go.Proofs.Ytjjdmeemhgopbaa
open Go.RowKit Go.Sort
open Drm (Dr Pt DrumAt DrumIn RefAt)

theorem DrumAt.sole2 {pb rb qb : Nat} {D D' : Dr} {a : Int} {g : Nat} {w w' : World} (h : DrumAt pb D w) (hr : RefAt rb D' w) (hq : RbAt qb rb a g w) (hs : Sole2 qb rb w w') (h1 : pb ≠ rb) (h2 : pb ≠ qb) : DrumAt pb D w' := by
  obtain ⟨vs, h⟩ := h
  refine ⟨vs, by rw [hs.block pb h.lt h1 h2, h.blk], fun i hi => ⟨(h.own i hi).1, ?_⟩, h.apart⟩
  rcases (h.own i hi).2 with hv | ⟨k, cap, cur, hv, hB, hgg, hrest⟩
  · exact .inl hv
  · refine .inr ⟨k, cap, cur, hv, hB, ?_, hrest⟩
    rw [hs.block k (lt_of_block hgg) ?_ ?_]
    · exact hgg
    · rintro rfl
      unfold RefAt at hr
      rw [hr] at hgg
      injection hgg with hgg
      injection hgg with _ h2 _
      exact absurd h2 (by decide)
    · rintro rfl
      unfold RbAt at hq
      rw [hq] at hgg
      injection hgg with hgg
      injection hgg with _ h2 _
      exact absurd h2 (by decide)
theorem RbAt.kept {qb rb pb g : Nat} {a : Int} {w w' : World} (h : RbAt qb rb a g w) (hk : Drm.Kept pb w w') (hne : qb ≠ pb) : RbAt qb rb a g w' :=
  hk.other qb _ h hne (by intro cs fz e; injection e with _ e _; exact absurd e (by decide))
theorem RbAt.keep2 {qb rb pb lb g : Nat} {a : Int} {w w' : World} (h : RbAt qb rb a g w) (hk : Keep2 lb pb w w') (h1 : qb ≠ pb) (h2 : qb ≠ lb) : RbAt qb rb a g w' :=
  hk.other qb _ h h1 h2 (by intro cs fz e; injection e with _ e _; exact absurd e (by decide))
theorem RefAt.keep2 {rb pb lb : Nat} {D : Dr} {w w' : World} (h : RefAt rb D w) (hk : Keep2 lb pb w w') (h1 : rb ≠ pb) (h2 : rb ≠ lb) : RefAt rb D w' :=
  hk.other rb _ h h1 h2 (by intro cs fz e; injection e with _ e _; exact absurd e (by decide))
theorem LbAt.sole {lb pb rb g : Nat} {a : Int} {w w' : World} (h : LbAt lb pb a g w) (hs : Drm.Sole rb w w') (hne : lb ≠ rb) : LbAt lb pb a g w' := by
  unfold LbAt
  rw [hs.block lb h.lt hne]
  exact h
theorem LbAt.sole2 {lb pb rb qb g : Nat} {a : Int} {w w' : World} (h : LbAt lb pb a g w) (hs : Sole2 qb rb w w') (h1 : lb ≠ rb) (h2 : lb ≠ qb) : LbAt lb pb a g w' := by
  unfold LbAt
  rw [hs.block lb h.lt h1 h2]
  exact h
theorem Sole2.below {qb rb B : Nat} {w w' : World} (h : Sole2 qb rb w w') (h1 : B ≤ rb) (h2 : B ≤ qb) (hs : B ≤ w.heap.size) : Below B w w' :=
  ⟨h.os, h.tape, h.output, h.size, fun k hk => h.block k (by omega) (by omega) (by omega)⟩

/-- Both logs: none, or of one area and one generation. -/
def Logs (pb rb : Nat) (lp mp : Option Addr) (D : Dr) (w : World) : Prop :=
  (lp = none ∧ mp = none) ∨ ∃ lb qb a g, lp = some ⟨lb, 0, none⟩ ∧ mp = some ⟨qb, 0, none⟩ ∧ LbAt lb pb a g w ∧ RbAt qb rb a g w ∧ rb < lb ∧ lb < qb ∧ Alone D a
structure Pair (pb rb : Nat) (lp mp : Option Addr) (D : Dr) (w0 w : World) : Prop where
  drum : DrumAt pb D w
  ref : RefAt rb D w
  ok : D.Ok
  lt : pb < rb
  wp : w0.heap.size ≤ pb
  below : Below w0.heap.size w0 w
  logs : Logs pb rb lp mp D w

section
variable {pb rb : Nat} {lp mp : Option Addr} {D : Dr} {w0 w w1 : World}
theorem Pair.on (h : Pair pb rb lp mp D w0 w) (hb : Below w.heap.size w w1) : Pair pb rb lp mp D w0 w1 := by
  refine ⟨h.drum.on hb, h.ref.on hb, h.ok, h.lt, h.wp, h.below.trans (hb.mono h.below.size), ?_⟩
  rcases h.logs with h1 | ⟨lb, qb, a, g, h1, h2, h3, h4, h5⟩
  · exact .inl h1
  · exact .inr ⟨lb, qb, a, g, h1, h2, h3.on hb, h4.on hb, h5⟩
theorem Pair.wr (h : Pair pb rb lp mp D w0 w) : w0.heap.size ≤ rb := by have := h.wp; have := h.lt; omega

/-- Between the two openings. -/
structure Half (pb rb : Nat) (lp : Option Addr) (va : Value) (D : Dr) (w0 w : World) : Prop where
  drum : DrumAt pb (openF D).2.2 w
  ref : RefAt rb D w
  ok : D.Ok
  up : D.down = false
  lt : pb < rb
  wp : w0.heap.size ≤ pb
  below : Below w0.heap.size w0 w
  log : (openF D).1 ≠ 0 ∧ lp = none ∧ va = .slice none 0 0 ∨ (openF D).1 = 0 ∧ ∃ lb, lp = some ⟨lb, 0, none⟩ ∧ LbAt lb pb (openF D).2.1.1 (openF D).2.1.2.1 w ∧ rb < lb ∧ TxAt (rb + 1) va (openF D).2.1.2.2 w

theorem pair_open1 (h : Pair pb rb lp mp D w0 w) (hd : D.down = false) : Calls Try.prog 11 #[.pointer (some ⟨pb, 0, none⟩)] w fun e w1 => ∃ lp' va, e = .returned (.tuple #[.pointer lp', va, .int .i64 (openF D).1]) ∧ Half pb rb lp' va D w0 w1 := by
  refine (open11 pb D w h.drum h.ok hd).mono ?_
  intro e w1 hp
  have hlt := h.ref.lt
  have hne : rb ≠ pb := by have := h.lt; omega
  rcases hp with ⟨h0, rfl, hD, hk⟩ | ⟨h0, lb, V, rfl, hL, hT, hs, hk⟩
  · exact ⟨none, _, rfl, hD, h.ref.kept hk hne, h.ok, hd, h.lt, h.wp, h.below.trans (hk.below.mono h.wp), .inl ⟨h0, rfl, rfl⟩⟩
  · exact ⟨_, V, by rw [h0], hL.drum, h.ref.kept hk hne, h.ok, hd, h.lt, h.wp, h.below.trans (hk.below.mono h.wp), .inr ⟨h0, lb, rfl, hL.blk, by omega, hT.widen (by omega)⟩⟩

theorem appF_len : ∀ f l R a, (appF f l R a).1.length ≤ R.length + f
  | 0, l, R, a => by unfold appF; simp
  | f + 1, l, R, a => by
    unfold appF
    split
    · refine Nat.le_trans (appF_len f _ _ _) ?_
      simp
      omega
    · show R.length ≤ _
      omega
theorem copF_len : ∀ f l R a x, copF f l R a = some x → x.1.length ≤ R.length + f
  | 0, l, R, a, x, h => by unfold copF at h; exact absurd h (by simp)
  | f + 1, l, R, a, x, h => by
    unfold copF at h
    split at h
    · refine Nat.le_trans (copF_len f _ _ _ x h) ?_
      simp
      omega
    · split at h
      · injection h with h
        rw [← h]
        show R.length ≤ _
        omega
      · exact absurd h (by simp)
theorem scanOf_len (l : List UInt8) : (scanOf l).1.recs.length ≤ 2 * l.length + 2 := by
  cases h : lgOf l with
  | none => rw [scan_none h]; simp [Ct.zero]
  | some x =>
    rw [scan_some h]
    dsimp only
    unfold lgOf at h
    split at h
    · split at h
      · exact absurd h (by simp)
      · split at h
        · exact absurd h (by simp)
        · next R' hc =>
          injection h with h
          rw [← h]
          have h1 := copF_len _ _ _ _ _ hc
          refine Nat.le_trans (appF_len _ _ _ _) ?_
          simp at h1
          omega
    · exact absurd h (by simp)
theorem newest_len {D : Dr} (hO : D.Ok) : ∀ k, k ≤ 4 → (newestTo D k).2.recs.length ≤ 2097154
  | 0, _ => by unfold newestTo; simp [Ct.zero]
  | k + 1, hk => by
    unfold newestTo
    split
    · have h0 := scanOf_len (D.p k).l
      have h1 := Drm.Dr.len_le_used D k (by omega)
      have h2 := hO.fits
      have h3 := hO.room1
      dsimp only
      omega
    · exact newest_len hO k (by omega)
theorem open_len {D : Dr} (hO : D.Ok) : (openF D).2.1.2.2.length ≤ 2097154 := by
  have h := newest_len hO 4 (Nat.le_refl _)
  unfold openF
  repeat' split
  all_goals first | exact h | simp
theorem pair_open2 {va : Value} (h : Half pb rb lp va D w0 w) : Calls Try.prog 12 #[.pointer (some ⟨rb, 0, none⟩)] w fun e w1 => ∃ mp' vb, e = .returned (.tuple #[.pointer mp', vb, .int .i64 (openF D).1]) ∧ Pair pb rb lp mp' (openF D).2.2 w0 w1 ∧ ∃ R, StrsAt pb va R w1 ∧ StrsAt pb vb R w1 ∧ R.length < 9223372036854775807 := by
  refine (ropen12 rb D w h.ref h.ok h.up).mono ?_
  intro e w1 hp
  have hlt := h.ref.lt
  have hne : pb ≠ rb := by have := h.lt; omega
  have hwr : w0.heap.size ≤ rb := by have := h.wp; have := h.lt; omega
  have hpr := h.lt
  rcases hp with ⟨h0, rfl, hD, hk⟩ | ⟨h0, qb, V, rfl, hL, hT, hs, hk⟩
  · rcases h.log with ⟨_, rfl, rfl⟩ | ⟨h1, _⟩
    · exact ⟨none, _, rfl, ⟨h.drum.sole h.ref hk hne, hD, openF_ok h.ok, h.lt, h.wp, h.below.trans (hk.below hwr h.below.size), .inl ⟨rfl, rfl⟩⟩, [], StrsAt.nil _ _, StrsAt.nil _ _, by simp⟩
    · exact absurd h1 h0
  · rcases h.log with ⟨h1, _⟩ | ⟨_, lb, rfl, hl, hrl, ht⟩
    · exact absurd h0 h1
    · have hll := hl.lt
      exact ⟨_, V, by rw [h0], ⟨h.drum.sole h.ref hk hne, hL.drum, openF_ok h.ok, h.lt, h.wp, h.below.trans (hk.below hwr h.below.size), .inr ⟨lb, qb, _, _, rfl, rfl, hl.sole hk (by omega), hL.blk, hrl, by omega, open_alone h.up h0⟩⟩, _, (ht.sole (by omega) hk).strs (by omega), hT.strs (by omega), by have := open_len h.ok; omega⟩

theorem pair_app {lb qb g : Nat} {a : Int} {r : List UInt8} {w2 : World} (h : Pair pb rb (some ⟨lb, 0, none⟩) (some ⟨qb, 0, none⟩) D w0 w) (hrl : rb < lb) (hlq : lb < qb) (hal : Alone D a) (hq : RbAt qb rb a g w) (hL : LgAt lb pb a g (appendF D a r).2 w1) (hk : Drm.Kept pb w w1) (hR : RefAt rb (appendF D a r).2 w2) (hs : Drm.Sole rb w1 w2) : Pair pb rb (some ⟨lb, 0, none⟩) (some ⟨qb, 0, none⟩) (appendF D a r).2 w0 w2 := by
  have hpr := h.lt
  have hwr := h.wr
  have hb1 : Below w0.heap.size w0 w1 := h.below.trans (hk.below.mono h.wp)
  have hr1 := h.ref.kept hk (by omega)
  have hq1 := hq.kept hk (by omega)
  exact ⟨hL.drum.sole hr1 hs (by omega), hR, appendF_ok h.ok a r, h.lt, h.wp, hb1.trans (hs.below hwr hb1.size), .inr ⟨lb, qb, a, g, rfl, rfl, hL.blk.sole hs (by omega), hq1.sole (by omega) hs, hrl, hlq, hal.append r⟩⟩
theorem pair_ren {lb qb g : Nat} {a : Int} {L : List (List UInt8)} {w2 : World} (h : Pair pb rb (some ⟨lb, 0, none⟩) (some ⟨qb, 0, none⟩) D w0 w) (hrl : rb < lb) (hlq : lb < qb) (hal : Alone D a) (hq : RbAt qb rb a g w) (hL : LgAt lb pb (renewF D a g L).2.1.1 (renewF D a g L).2.1.2 (renewF D a g L).2.2 w1) (hk : Keep2 lb pb w w1) (hR : RgAt qb rb (renewF D a g L).2.1.1 (renewF D a g L).2.1.2 (renewF D a g L).2.2 w2) (hs : Sole2 qb rb w1 w2) : Pair pb rb (some ⟨lb, 0, none⟩) (some ⟨qb, 0, none⟩) (renewF D a g L).2.2 w0 w2 := by
  have hpr := h.lt
  have hwr := h.wr
  have hb1 : Below w0.heap.size w0 w1 := h.below.trans (hk.below.mono h.wp)
  have hr1 := RefAt.keep2 h.ref hk (by omega) (by omega)
  have hq1 := hq.keep2 hk (by omega) (by omega)
  exact ⟨DrumAt.sole2 hL.drum hr1 hq1 hs (by omega) (by omega), hR.drum, renewF_ok h.ok a g L, h.lt, h.wp, hb1.trans (hs.below hwr (by omega) hb1.size), .inr ⟨lb, qb, _, _, rfl, rfl, hL.blk.sole2 hs (by omega) (by omega), hR.blk, hrl, hlq, hal.renew g L⟩⟩
theorem ref_fuel {x n : Int} (h : RefAt rb D w) (hx : x = max n (-1)) : RefAt rb { D with fuel := n } (w.setCell ⟨rb, 1, none⟩ (.int .i64 x)) := by
  subst hx
  exact Drm.blk_setCell h
theorem pair_fuel {x n : Int} (h : Pair pb rb lp mp D w0 w) (h0 : -9223372036854775808 ≤ n) (h1 : n ≤ 9223372036854775807) (hx : x = max n (-1)) (hD : DrumAt pb { D with fuel := n } w1) (hk : Drm.Kept pb w w1) : Pair pb rb lp mp { D with fuel := n } w0 (w1.setCell ⟨rb, 1, none⟩ (.int .i64 x)) := by
  have hpr := h.lt
  have hwr := h.wr
  have hb1 : Below w0.heap.size w0 w1 := h.below.trans (hk.below.mono h.wp)
  have hr1 := h.ref.kept hk (by omega)
  refine ⟨hD.store hr1 (by omega) (by decide) _ _, ref_fuel hr1 hx, h.ok.fuelled n h0 h1, h.lt, h.wp, hb1.setCell (p := ⟨rb, 1, none⟩) hwr _, ?_⟩
  have hs : Drm.Sole rb w1 (w1.setCell ⟨rb, 1, none⟩ (.int .i64 x)) := (Drm.Sole.refl _ _).set _ _
  rcases h.logs with h1 | ⟨lb, qb, a, g, h1, h2, h3, h4, h5, h6, h7⟩
  · exact .inl h1
  · exact .inr ⟨lb, qb, a, g, h1, h2, (h3.kept (by omega) hk).sole hs (by omega), (h4.kept hk (by omega)).sole (by omega) hs, h5, h6, h7.fuel n⟩
/-- Behind both falls no log is there any more. -/
theorem pair_fall {w2 : World} {keep : List Int} (h : Pair pb rb lp mp D w0 w) (hO : (D.fall keep).Ok) (hD : DrumAt pb (D.fall keep) w1) (hk : Drm.Kept pb w w1) (hR : RefAt rb (D.fall keep) w2) (hs : Drm.Sole rb w1 w2) : Pair pb rb none none (D.fall keep) w0 w2 := by
  have hpr := h.lt
  have hwr := h.wr
  have hb1 : Below w0.heap.size w0 w1 := h.below.trans (hk.below.mono h.wp)
  have hr1 := h.ref.kept hk (by omega)
  exact ⟨hD.sole hr1 hs (by omega), hR, hO, h.lt, h.wp, hb1.trans (hs.below hwr hb1.size), .inl ⟨rfl, rfl⟩⟩
end

end Go.Proofs.Ytjjdmeemhgopbaa
