/-
  Contracts of the document's answer: its forms, and its Reader's methods: each answers what the same plain functions say.
-/
import Derived.Test.YtmldgfepnmencaaBack
import Derived.Laws.AppendOwnNone
namespace Go.Proofs.Ytmldgfepnmencaa
open Go.RowKit

theorem bs_append (a b : List UInt8) : bs a ++ bs b = bs (a ++ b) := by
  apply bs_eq
  simp [bs]

/-- A slice of one byte that was just made. -/
theorem own_one (w : World) (X : Int) (k base : Nat) (hk : k < 256) (hX : X = (k : Int)) (hb : base ≤ w.heap.size) :
    (w.alloc (.cells #[.int .u8 X] 5)).ownsRow base 5 1 (.slice (some ⟨w.heap.size, 0, none⟩) 1 1) [UInt8.ofNat k].length (cl [UInt8.ofNat k]) := by
  refine ⟨by simp [cl], .inr ⟨w.heap.size, 1, #[.int .u8 X], rfl, hb, heap_alloc_new w _, Nat.le_refl _, by unfold maxLen; omega, rfl, ?_⟩⟩
  rw [cl_one k hk, hX]
  rfl

theorem own_bytes {w : World} {base : Nat} {v : Value} {L : List UInt8} (h : w.ownsRow base 5 1 v L.length (cl L)) (hL : L ≠ []) :
    ∃ g cp, v = .slice (some ⟨g, 0, none⟩) L.length cp ∧ ∀ j u, (cl L)[j]? = some u → w.cell? ((⟨g, 0, none⟩ : Addr).add j) = some u := by
  have h2 := h.2
  rcases h2 with ⟨rfl, h0⟩ | ⟨g, cap, cur, rfl, _⟩
  · exact absurd (List.length_eq_zero_iff.1 h0) hL
  · exact ⟨g, cap, rfl, h.cells (g := g) rfl⟩

theorem cl_oneCell (L : List UInt8) : ∀ u ∈ cl L, u.oneCell' = true := by
  intro u hu
  simp only [cl, List.mem_map] at hu
  obtain ⟨_, _, rfl⟩ := hu
  rfl

set_option maxRecDepth 100000 in
set_option maxHeartbeats 1000000 in
theorem refNum11 (n : Nat) (w : World) (hn : n < 18446744073709551616) :
    Calls Try.prog 52 #[.int .u64 n] w fun e w' => e = .returned (.string (bs (numForm n))) ∧ Below w.heap.size w w' := by
  obtain ⟨i0, hi, hz0, hz1, hz2⟩ := info_parts info5
  by_cases h : n ≤ 247
  · have h' : (n : Int) < 248 := by omega
    have hnf : numForm n = [UInt8.ofNat n] := by simp [numForm, h]
    have hcv := row_text (own_one w n n 0 (by omega) rfl (Nat.zero_le _))
    have HNF : Hid (numForm n = [UInt8.ofNat n]) := hnf
    clear hnf
    go_enter Try.func52, Try.ntmps52
    go_wp2
    go_ret
    rw [HNF.out]
    exact ⟨rfl, (Below.refl _ _).alloc (Nat.le_refl _) _⟩
  · have h' : ¬ (n : Int) < 248 := by omega
    have hk := nb_le8 hn
    have hd := dg_length n
    go_enter Try.func52, Try.ntmps52
    go_wp2_with fail
    go_loopw [3, 4] (fun v m wr => ∃ (V : Value) (M : Nat) (L : List UInt8), v = V ∧ M ≤ n ∧ m = .int .u64 M ∧ wr.ownsRow w.heap.size 5 1 V L.length (cl L) ∧ dg M ++ L = dg n ∧ Below w.heap.size w wr) (fun _ m _ => (intOf m).toNat)
    case atStart => exact ⟨_, n, [], rfl, Nat.le_refl _, rfl, World.ownsRow_nil _ _ _ _, by rw [List.append_nil], Below.refl _ _⟩
    case round =>
      obtain ⟨V, M, L, hVe, hM, rfl, hown, hL, hbel⟩ := hrel
      have hVe' := hVe.symm
      clear hVe
      subst hVe'
      have hlen := congrArg List.length hL
      rw [List.length_append, hd] at hlen
      have HV : Hid (wr.ownsRow w.heap.size 5 1 V L.length (cl L) ∧ dg M ++ L = dg n ∧ Below w.heap.size w wr) := ⟨hown, hL, hbel⟩
      have hws := hbel.size
      by_cases hM0 : M = 0
      · subst hM0
        rw [dg_zero, List.nil_append] at hL
        rw [dg_zero] at hlen
        have hk1 := nb_one (n := n) (by omega)
        have hne : L ≠ [] := by intro h0; subst h0; simp at hlen; omega
        obtain ⟨g, cp, rfl, _⟩ := own_bytes hown hne
        have hLl : L.length = nb n := by simp at hlen; exact hlen
        have hone := own_one wr (247 + (L.length : Int)) (247 + L.length) 0 (by omega) (by omega) (Nat.zero_le _)
        have hcv1 := row_text hone
        have hcv2 := row_text (hown.alloc (.cells #[.int .u8 (247 + (L.length : Int))] 5))
        have hadd : bs [UInt8.ofNat (247 + L.length)] ++ bs L = bs (numForm n) := by
          rw [bs_append, hLl, hL]
          simp only [numForm, if_neg h]
          rfl
        obtain ⟨c0, hc0⟩ : ∃ c0, c0 = UInt8.ofNat (247 + L.length) := ⟨_, rfl⟩
        rw [← hc0] at hcv1 hadd
        have hsz : (bs [c0]).size = 1 := by rw [bs_size]; rfl
        have hsz2 : (bs L).size = L.length := bs_size L
        have hL8 : L.length ≤ 8 := by omega
        clear hown hL hbel hone hLl hlen hd hc0
        go_wp2
        go_ret
        exact ⟨rfl, HV.out.2.2.alloc hws _⟩
      · have hM' : (0 : Int) < M := by omega
        have hstep := dg_pos hM0
        have HD : Hid (dg M = dg (M / 256) ++ [UInt8.ofNat (M % 256)]) := hstep
        have hMl : L.length ≤ 8 := by omega
        clear hown hL hbel hstep hlen hd
        by_cases hL0 : L = []
        · subst hL0
          have hL := HV.out.2.1
          obtain ⟨ao, cp, rfl⟩ := own_shape HV.out.1
          obtain ⟨c0, hc0⟩ : ∃ c0, c0 = UInt8.ofNat (M % 256) := ⟨_, rfl⟩
          have HC0 : Hid (c0 = UInt8.ofNat (M % 256)) := hc0
          clear hL hc0
          by_cases hao : ao = none
          · subst hao
            obtain rfl : cp = 0 := by
              rcases HV.out.1.2 with ⟨h0, _⟩ | ⟨g, cap, cur, h0, _⟩
              · simp at h0; exact h0
              · simp at h0
            go_wp2_with (at_builtin; refine wpList_append_own_none rfl (.tmp 19) (.tmp 20) 50 rfl w.heap.size 5 i0 1 Try.underlying50 hi (.slice (some ⟨wr.heap.size, 0, none⟩) 1 1) 1 (cl [UInt8.ofNat (M % 256)]) rfl (own_one wr _ (M % 256) w.heap.size (by omega) (by omega) hws) rfl ?_)
            go_roundw
            case rel => exact ⟨_, M / 256, [UInt8.ofNat (M % 256)], rfl, by omega, by go_num, own_one wr _ (M % 256) w.heap.size (by omega) (by omega) hws, by rw [← HD.out, ← HV.out.2.1, List.append_nil], HV.out.2.2.alloc hws _⟩
            case measure => simp [intOf]; omega
          · obtain ⟨ad, rfl⟩ : ∃ ad, ao = some ad := Option.ne_none_iff_exists'.1 hao
            go_wp2_with (at_builtin; refine wpList_append_own _ rfl (.tmp 19) (.tmp 20) 50 rfl w.heap.size 5 i0 (.int .u8 0) 1 1 Try.underlying50 hi hz0 hz1 hz2 rfl (by decide) (.slice (some ⟨wr.heap.size, 0, none⟩) 1 1) 1 (cl [UInt8.ofNat (M % 256)]) rfl (own_one wr _ (M % 256) w.heap.size (by omega) (by omega) hws) ad 0 cp [] rfl rfl (fun j u hj => by simp at hj) (fun u hu => by simp at hu) (by unfold maxLen; omega) (by omega) (by simp; omega) ?_; intro v' w2 hown' hgrow _; have HG : Hid _ := And.intro hown' hgrow; clear hown' hgrow)
            go_roundw
            case rel =>
              refine ⟨_, M / 256, [UInt8.ofNat (M % 256)], rfl, by omega, by go_num, ?_, by rw [← HD.out, ← HV.out.2.1, List.append_nil], ?_⟩
              · have := HG.out.1
                rw [List.append_nil] at this
                exact this
              · exact (HV.out.2.2.alloc hws _).grown HG.out.2 (by simp; omega) (fun k hk => by simp [Value.ownBlock] at hk; omega)
            case measure => simp [intOf]; omega
        · obtain ⟨g, cp, rfl, hcells⟩ := own_bytes HV.out.1 hL0
          have hcs : ∀ (o : Obj) j u, (cl L)[j]? = some u → (wr.alloc o).cell? ((⟨g, 0, none⟩ : Addr).add j) = some u := by
            intro o j u hj
            have h1 := hcells j u hj
            rw [World.cell?_alloc_lt (h := World.block_lt_of_cell? _ _ h1)]
            exact h1
          have HCS : Hid (1 = 1 → ∀ (o : Obj) j u, (cl L)[j]? = some u → (wr.alloc o).cell? ((⟨g, 0, none⟩ : Addr).add j) = some u) := fun _ => hcs
          clear hcells hcs
          go_wp2_with (at_builtin; refine wpList_append_own _ rfl (.tmp 19) (.tmp 20) 50 rfl w.heap.size 5 i0 (.int .u8 0) 1 1 Try.underlying50 hi hz0 hz1 hz2 rfl (by decide) (.slice (some ⟨wr.heap.size, 0, none⟩) 1 1) 1 (cl [UInt8.ofNat (M % 256)]) rfl (own_one wr _ (M % 256) w.heap.size (by omega) (by omega) hws) ⟨g, 0, none⟩ L.length cp (cl L) rfl (by rw [cl_length, Nat.mul_one]) (HCS.out (by trivial) _) (cl_oneCell L) (by unfold maxLen; omega) (by omega) (by simp; omega) ?_; intro v' w2 hown' hgrow _; have HG : Hid _ := And.intro hown' hgrow; clear hown' hgrow)
          go_roundw
          case rel =>
            refine ⟨_, M / 256, [UInt8.ofNat (M % 256)] ++ L, rfl, by omega, by go_num, ?_, by rw [← List.append_assoc, ← HD.out]; exact HV.out.2.1, ?_⟩
            · rw [List.length_append, cl_append]
              exact HG.out.1
            · exact (HV.out.2.2.alloc hws _).grown HG.out.2 (by simp; omega) (fun k hk => by simp [Value.ownBlock] at hk; omega)
          case measure => simp [intOf]; omega

end Go.Proofs.Ytmldgfepnmencaa
