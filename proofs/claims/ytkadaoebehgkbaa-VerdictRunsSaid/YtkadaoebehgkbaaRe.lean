/-
  The program's Retire.
-/
import Derived.Test.YtkadaoebehgkbaaDf
namespace Go.Proofs.Ytkadaoebehgkbaa
open Go.RowKit

theorem ret_filter {S L : List (Int × Int)} (h : ∀ x, x ∈ S ↔ x ∈ L) (sp sl : Int) (K : Bk) : K.filter (fun x => !goB S sp sl x) = retB sp sl L K := by
  unfold retB
  exact List.filter_congr (fun x _ => go_stay h sp sl x)

set_option maxHeartbeats 1600000 in
set_option maxRecDepth 100000 in
theorem retire13 {B p hb : Nat} {m K : Bk} {w : World} (sp sl : Int) (L : List (Int × Int)) (v : Value) (h : Bo B p hb m K w) (hl : K.length < 10000) (hz : L.length * 8 ≤ 140737488355328) (hv : TsAt w.heap.size v L w) :
    Calls Try.prog 13 #[.pointer (some ⟨p, 0, none⟩), .agg #[.int .u64 sp, .int .u32 sl], v] w fun e w' => e = .returned (.int .i64 ((K.length - (retB sp sl L K).length : Nat) : Int)) ∧ ∃ M', BoAt B p M' (retB sp sl L K) w' ∧ Kept (fun k => k = p ∨ k = hb) w w' ∧ ∀ i, M' i → (i = p ∨ i = hb) ∨ w.heap.size ≤ i := by
  obtain ⟨W0, hW0⟩ : ∃ W0, w.alloc (.cells #[.int .u64 sp, .int .u32 sl] 35) = W0 := ⟨_, rfl⟩
  have hb0 : Below w.heap.size w W0 := by rw [← hW0]; exact al _
  have hx0 : W0.heap[w.heap.size]? = some (.cells #[.int .u64 sp, .int .u32 sl] 35 (0, 0)) := by rw [← hW0]; exact heap_alloc_new w _
  have hp := (Array.getElem?_eq_some_iff.1 h.box).1
  have hhb := h.map.lt
  obtain ⟨bs, hbs⟩ : ∃ bs, w.heap.size = bs := ⟨_, rfl⟩
  rw [hbs] at hx0
  have HN : Hid (hb ≠ bs ∧ w.heap.size ≤ bs) := ⟨by omega, by omega⟩
  have CS : Hid (1 = 1 → Calls Try.prog 24 #[v] W0 fun e w' => ∃ sb, e = .returned (.map (some sb)) ∧ Hid (∃ S, SetAt sb S w' ∧ (∀ x, x ∈ S ↔ x ∈ L) ∧ hb ≠ sb ∧ Bo B p hb m K w' ∧ Below w.heap.size w w' ∧ w'.heap[bs]? = some (.cells #[.int .u64 sp, .int .u32 sl] 35 (0, 0)))) := fun _ => by
    have hv0 : TsAt W0.heap.size v L W0 := RwAt.le (RwAt.on hv hb0) hb0.size
    refine (setOf24 L v W0 hv0 hz).mono ?_
    rintro e w' ⟨sb, S, rfl, h1, h2, h3, h4⟩
    have := hb0.size
    exact ⟨sb, rfl, S, h1, h2, by omega, (h.on hb0).on h4, hb0.trans (h4.mono hb0.size), by rw [h4.block _ (Array.getElem?_eq_some_iff.1 hx0).1]; exact hx0⟩
  have HR : Hid (Rl m K ∧ K.length < 10000) := ⟨h.rel, hl⟩
  clear h hb0 hx0 hv hz hp hhb hl
  go_enter Try.func13, Try.ntmps13
  go_wp2_with fail
  refine (CS.out (by simp)).mono ?_
  rintro e w1 ⟨sb, rfl, H1⟩
  clear CS hW0 hbs
  obtain ⟨S, h1, h2, h3, h4, h5, h6⟩ := H1.out
  have HSL : Hid (∀ x, x ∈ S ↔ x ∈ L) := h2
  clear H1
  obtain ⟨W2, hW2⟩ : ∃ W2, w1.alloc (.cells #[.map (some sb)] 62) = W2 := ⟨_, rfl⟩
  have hb2 : Below w1.heap.size w1 W2 := by rw [← hW2]; exact al _
  have hk2 : W2.heap[w1.heap.size]? = some (.cells #[.map (some sb)] 62 (0, 0)) := by rw [← hW2]; exact heap_alloc_new w1 _
  have hhb : hb ≠ w1.heap.size := Nat.ne_of_lt h4.map.lt
  obtain ⟨bk, hbk⟩ : ∃ bk, w1.heap.size = bk := ⟨_, rfl⟩
  rw [hbk] at hk2 hhb
  have H2 : Hid (Bo B p hb m K W2 ∧ Below w.heap.size w W2 ∧ Cap sb bk bs S sp sl W2 ∧ hb ≠ sb ∧ hb ≠ bk ∧ hb ≠ bs) := ⟨h4.on hb2, h5.trans (hb2.mono h5.size), ⟨h1.on hb2, hk2, by rw [hb2.block _ (Array.getElem?_eq_some_iff.1 h6).1]; exact h6⟩, h3, hhb, HN.out.1⟩
  clear h1 h2 h3 h4 h5 h6 hb2 hk2 hhb
  have c0 := H2.out.1.cell
  have l0 := H2.out.1.map.size 55 37 Try.underlying55
  have hln : m.length = K.length := HR.out.1.len
  have hlt : (K.length : Int) < 10000 := by have := HR.out.2; omega
  rw [hln] at l0
  have CD : Hid (1 = 1 → Calls Try.prog 25 #[.map (some hb), .func (.func 26) #[] #[.pointer (some ⟨bk, 0, none⟩), .pointer (some ⟨bs, 0, none⟩)]] W2 fun e w' => e = .returned (.tuple #[]) ∧ Hid (∃ m', Gv.At kd vdV hb m' w' ∧ Rl m' (retB sp sl L K) ∧ Kept (fun i => i = hb) W2 w')) := fun _ => by
    refine (df25 H2.out.1.map HR.out.1.apart H2.out.2.2.1 H2.out.2.2.2).mono ?_
    rintro e w' ⟨rfl, m', hp, hm, hk⟩
    have := HR.out.1.filt _ hp.out
    rw [ret_filter HSL.out] at this
    exact ⟨rfl, m', hm, this, hk⟩
  clear hln
  have HLE : Hid ((retB sp sl L K).length ≤ K.length) := ret_len sp sl L K
  obtain ⟨K', hK'⟩ : ∃ K', retB sp sl L K = K' := ⟨_, rfl⟩
  rw [hK'] at CD HLE
  have HK' : Hid _ := hK'
  clear hK'
  go_wp2_with fail
  refine (CD.out (by simp)).mono ?_
  rintro e w3 ⟨rfl, H3⟩
  clear CD c0 l0 hW2 hbk
  obtain ⟨m', h1, h2, h3⟩ := H3.out
  have H4 : Hid (Gv.At kd vdV hb m' w3 ∧ Rl m' K' ∧ Kept (fun i => i = hb) W2 w3) := ⟨h1, h2, h3⟩
  have c0 : w3.cell? ⟨p, 0, none⟩ = some (.map (some hb)) := h3.cell H2.out.1.cell H2.out.1.ne
  have l0 := h1.size 55 37 Try.underlying55
  rw [h2.len] at l0
  clear h1 h2 h3 H3
  have hle : (K'.length : Int) ≤ K.length := by have := HLE.out; omega
  go_wp2_with fail
  go_ret
  have hsub : ((K.length - K'.length : Nat) : Int) = (K.length : Int) - K'.length := by have := HLE.out; omega
  rw [HK'.out, hsub]
  exact ⟨rfl, bo_turn H2.out.1 H2.out.2.1 H4.out.2.2 H4.out.1 H4.out.2.1⟩
set_option maxHeartbeats 400000 in
set_option maxRecDepth 100000 in
theorem retire13_nil (sp sl : Int) (v : Value) (w : World) : Calls Try.prog 13 #[.pointer none, .agg #[.int .u64 sp, .int .u32 sl], v] w fun e w' => e = .returned (.int .i64 0) ∧ Below w.heap.size w w' := by
  go_enter Try.func13, Try.ntmps13
  go_wp2_with fail
  go_ret
  exact ⟨rfl, al _⟩
end Go.Proofs.Ytkadaoebehgkbaa
