/-
  Contracts of Right, New, Lay's closure.
-/
import Derived.Test.YtknfkpnicjellaaLvs
namespace Go.Proofs.Ytknfkpnicjellaa
open Go.RowKit

theorem any_keys {L : List Wr} {k : List UInt8} {m : Nat} (hm : m ≤ L.length) : ((L.take m).any fun a => a.key == k) = true ↔ ∃ i, i < m ∧ (L.getD i dw).key = k := by
  rw [List.any_eq_true]
  constructor
  · rintro ⟨a, ha, he⟩
    obtain ⟨i, hi, rfl⟩ := List.mem_take_iff_getElem.1 ha
    exact ⟨i, by omega, by rw [List.getD, List.getElem?_eq_getElem (by omega)]; simpa using he⟩
  · rintro ⟨i, hi, he⟩
    refine ⟨L.getD i dw, ?_, by simpa using he⟩
    rw [List.getD, List.getElem?_eq_getElem (by omega)]
    exact List.mem_take_iff_getElem.2 ⟨i, by omega, rfl⟩
theorem WsAt.tk {B : Nat} {ao : Option Addr} {cap : Nat} {L : List Wr} {w : World} (h : WsAt B (.slice ao L.length cap) L w) {m : Nat} (hm : m ≤ L.length) : WsAt B (.slice ao m cap) (L.take m) w := by
  have := RwAt.take h hm
  rw [rowC_take wrc_len] at this
  unfold WsAt
  rw [List.length_take, Nat.min_eq_left hm]
  exact this
theorem ent51 : ∀ args w, (callFunc 51 args).run Try.prog w = .ok (.enter 51 args) w := enters_of Try.func51 (by kernel_rfl) rfl
theorem ent31 : ∀ args w, (callFunc 31 args).run Try.prog w = .ok (.enter 31 args) w := enters_of Try.func31 (by kernel_rfl) rfl

set_option maxHeartbeats 3200000 in
set_option maxRecDepth 100000 in
theorem right24 (B : Nat) (L : List Wr) (v : Value) (w : World) (h : WsAt B v L w) (hB : B ≤ w.heap.size) :
    Calls Try.prog 24 #[v] w fun e w' => e = .returned (.bool (rightW L)) ∧ Below w.heap.size w w' := by
  obtain ⟨ao, cap, rfl, hlc, hcm⟩ := h.shape
  have HW : Hid (∀ W, Below w.heap.size w W → WsAt w.heap.size (.slice ao L.length cap) L W) := fun W hW => RwAt.le (h.on (hW.mono hB)) hB
  have HE : Hid (∀ W, Below w.heap.size w W → ∀ i, i < L.length → ∃ b off, ao = some ⟨b, off, none⟩ ∧ WrAt W b (off + i * 3) (L.getD i dw)) := fun W hW i hi => (HW.out W hW).el hi
  have HBad : Hid (∀ m, m < L.length → wOk (L.getD m dw) = false → rightW L = false) := fun m hm hw => right_bad hm hw
  have HTw : Hid (∀ k m, k < m → m < L.length → (L.getD k dw).key = (L.getD m dw).key → rightW L = false) := fun k m hk hm he => right_twice hk hm he
  have HEnd : Hid (RtN L L.length → rightW L = (decide (1 ≤ L.length) && decide (L.length ≤ 16))) := right_end
  have HSz : Hid (¬ (1 ≤ L.length ∧ L.length ≤ 16) → rightW L = false) := fun hn => by
    unfold rightW
    by_cases h1 : 1 ≤ L.length
    · have h2 : ¬ L.length ≤ 16 := fun e => hn ⟨h1, e⟩
      simp [h2]
    · simp [h1]
  have hL9 : L.length < 9223372036854775808 := by omega
  have HCap : Hid (L.length ≤ cap) := hlc
  generalize rightW L = y at *
  clear h hB hcm hlc
  by_cases h1 : (L.length : Int) < 1
  · have hy : y = false := HSz.out (by omega)
    subst hy
    go_enter Try.func24, Try.ntmps24
    go_wp2_with fail
    go_ret
    exact ⟨rfl, Below.refl _ _⟩
  by_cases h2 : (16 : Int) < L.length
  · have hy : y = false := HSz.out (by omega)
    subst hy
    go_enter Try.func24, Try.ntmps24
    go_wp2_with fail
    go_ret
    exact ⟨rfl, Below.refl _ _⟩
  go_enter Try.func24, Try.ntmps24
  go_wp2_with fail
  go_loopw [15] (fun i wr => Below w.heap.size w wr ∧ ∃ m : Nat, m ≤ L.length ∧ i = .int .i64 m ∧ RtN L m) (fun i _ => L.length - (intOf i).toNat)
  case atStart => exact ⟨Below.refl _ _, 0, Nat.zero_le _, rfl, fun _ h => by omega, fun _ _ _ h => by omega⟩
  case round =>
    obtain ⟨hbr, m, hm, rfl, hrt⟩ := hrel
    have HBr : Hid (Below w.heap.size w wr) := hbr
    have HRt : Hid (RtN L m) := hrt
    by_cases hml : m < L.length
    · obtain ⟨b, off, rfl, e0, e1, e2⟩ := HE.out wr hbr m hml
      have hml' : (m : Int) < L.length := by omega
      have hm0 : ¬ (m : Int) < 0 := by omega
      have hmc : (m : Int) ≤ cap := by have := HCap.out; omega
      have HQ : Hid (m + 1 ≤ L.length) := hml
      have hAny := any_keys (k := (L.getD m dw).key) (Nat.le_of_lt hml)
      have HNo : Hid (wOk (L.getD m dw) = false → y = false) := HBad.out m hml
      have HTt : Hid (((L.take m).any fun a => a.key == (L.getD m dw).key) = true → y = false) := fun ht => by
        obtain ⟨i, hi, he⟩ := hAny.1 ht
        exact HTw.out i m hi hml he
      have HNx : Hid (wOk (L.getD m dw) = true → ((L.take m).any fun a => a.key == (L.getD m dw).key) = false → RtN L (m + 1)) := fun h3 h4 => HRt.out.next h3 (fun i hi he => by
        rw [hAny.2 ⟨i, hi, he⟩] at h4
        cases h4)
      clear hAny hrt
      generalize L.getD m dw = x at *
      obtain ⟨Wa, hWa⟩ : ∃ Wa, wr.alloc (.cells #[.string (bs x.key), .string (bs x.val), .bool x.dead] 44) = Wa := ⟨_, rfl⟩
      have hxa : Wa.heap[wr.heap.size]? = some (.cells #[.string (bs x.key), .string (bs x.val), .bool x.dead] 44 (0, 0)) := by rw [← hWa]; exact heap_alloc_new wr _
      have hba : Below w.heap.size w Wa := by rw [← hWa]; exact hbr.alloc hbr.size _
      have a0 : Wa.cell? ⟨wr.heap.size, 0, none⟩ = some (.string (bs x.key)) := block_cell hxa rfl
      have a1 : Wa.cell? ⟨wr.heap.size, 1, none⟩ = some (.string (bs x.val)) := block_cell hxa rfl
      have a2 : Wa.cell? ⟨wr.heap.size, 2, none⟩ = some (.bool x.dead) := block_cell hxa rfl
      obtain ⟨bp, hbp⟩ : ∃ bp, wr.heap.size = bp := ⟨_, rfl⟩
      rw [hbp] at a0 a1 a2 hxa
      have CR : Hid (1 = 1 → Calls Try.prog 50 #[.agg #[.string (bs x.key), .string (bs x.val), .bool x.dead]] Wa fun e w' => e = .returned (.bool (wOk x)) ∧ Hid (Below w.heap.size w w' ∧ w'.heap[bp]? = some (.cells #[.string (bs x.key), .string (bs x.val), .bool x.dead] 44 (0, 0)))) := fun _ => by
        refine (right50 x Wa).mono ?_
        rintro e w' ⟨rfl, hb'⟩
        exact ⟨rfl, hba.trans (hb'.mono hba.size), by rw [hb'.block _ (Array.getElem?_eq_some_iff.1 hxa).1]; exact hxa⟩
      have CC : Hid (∀ W, Hid (Below w.heap.size w W ∧ W.heap[bp]? = some (.cells #[.string (bs x.key), .string (bs x.val), .bool x.dead] 44 (0, 0))) → Calls Try.prog 30 #[.slice (some ⟨b, off, none⟩) m cap, .func (.func 51) #[] #[.pointer (some ⟨bp, 0, none⟩)]] W fun e w' => e = .returned (.bool ((L.take m).any fun a => a.key == x.key)) ∧ Hid (Below w.heap.size w w')) := fun W hW => by
        have hws := (HW.out W hW.out.1).tk hm
        refine (cont30 51 #[.pointer (some ⟨bp, 0, none⟩)] (fun a => a.key == x.key) (L.take m) _ W (RwAt.le hws hW.out.1.size) ent51 (fun a W2 hb2 => ?_)).mono ?_
        · exact same51 a bp x.key W2 (block_cell (by rw [hb2.block _ (Array.getElem?_eq_some_iff.1 hW.out.2).1]; exact hW.out.2) rfl)
        · rintro e w' ⟨rfl, hb'⟩
          exact ⟨rfl, hW.out.1.trans (hb'.mono hW.out.1.size)⟩
      clear hxa hba hbr HE HW HEnd HSz HBad HTw HRt
      cases hwo : wOk x with
      | false =>
        have hy : y = false := HNo.out hwo
        subst hy
        rw [hwo] at CR
        clear hwo HNo HNx HTt CC
        go_wp2_with fail
        refine (CR.out (by trivial)).mono ?_
        rintro e w1 ⟨rfl, HB1⟩
        clear CR a0 a1 a2 hWa hbp e0 e1 e2
        go_wp2_with fail
        go_ret
        exact ⟨rfl, HB1.out.1⟩
      | true =>
        rw [hwo] at CR
        cases han : (L.take m).any fun a => a.key == x.key with
        | true =>
          have hy : y = false := HTt.out han
          subst hy
          rw [han] at CC
          clear hwo han HNo HNx HTt
          go_wp2_with fail
          refine (CR.out (by trivial)).mono ?_
          rintro e w1 ⟨rfl, HB1⟩
          clear CR a0 a1 a2 hWa hbp e0 e1 e2
          go_wp2_with fail
          refine (CC.out _ HB1).mono ?_
          rintro e w2 ⟨rfl, HB2⟩
          clear CC HB1
          go_wp2_with fail
          go_ret
          exact ⟨rfl, HB2.out⟩
        | false =>
          rw [han] at CC
          have HNN : Hid (RtN L (m + 1)) := HNx.out hwo han
          clear hwo han HNo HNx HTt
          go_wp2_with fail
          refine (CR.out (by trivial)).mono ?_
          rintro e w1 ⟨rfl, HB1⟩
          clear CR a0 a1 a2 hWa hbp e0 e1 e2
          go_wp2_with fail
          refine (CC.out _ HB1).mono ?_
          rintro e w2 ⟨rfl, HB2⟩
          clear CC HB1
          go_wp2_with fail
          go_roundw
          case rel => exact ⟨HB2.out, m + 1, HQ.out, by go_num, HNN.out⟩
          case measure => simp [intOf]; omega
    · have hml' : ¬ (m : Int) < L.length := by omega
      have hm2 : m = L.length := by omega
      have hy : y = true := by
        have := HEnd.out (hm2 ▸ hrt)
        rw [this]
        simp
        omega
      subst hy
      clear hbr hrt hm2
      go_wp2_with fail
      go_ret
      exact ⟨rfl, HBr.out⟩

set_option maxHeartbeats 800000 in
set_option maxRecDepth 100000 in
theorem new9 (w : World) : Calls Try.prog 9 #[] w fun e w' => ∃ p M, e = .returned (.pointer (some ⟨p, 0, none⟩)) ∧ TabAt w.heap.size p M [] w' ∧ Below w.heap.size w w' := by
  have hmm := @run_makeMap Try.prog
  have CN : Hid (1 = 1 → Calls Try.prog 26 #[] w fun e w' => ∃ pm, e = .returned (.pointer (some ⟨pm, 0, none⟩)) ∧ Hid (∃ t, Mp w.heap.size pm t w' ∧ t.toL = [] ∧ Below w.heap.size w w')) := fun _ => by
    refine (new8 w).mono ?_
    rintro e w' ⟨pm, F, rfl, ⟨t, hm, hl, _⟩, hb⟩
    exact ⟨pm, rfl, t, hm, hl, hb⟩
  have HT : Hid (∀ pm w1, (∃ t, Mp w.heap.size pm t w1 ∧ t.toL = [] ∧ Below w.heap.size w w1) → TabAt w.heap.size (w1.alloc (.map #[] 0)).heap.size (footT (w1.alloc (.map #[] 0)).heap.size pm w1.heap.size .nil []) [] ((w1.alloc (.map #[] 0)).alloc (.cells #[.pointer (some ⟨pm, 0, none⟩), .map (some w1.heap.size)] 65)) ∧ Below w.heap.size w ((w1.alloc (.map #[] 0)).alloc (.cells #[.pointer (some ⟨pm, 0, none⟩), .map (some w1.heap.size)] 65))) := fun pm w1 => by
    rintro ⟨t, hm, hl, hb⟩
    have ht : t = .nil := by
      cases t using Tr.cas with
      | nil => rfl
      | node b l k v x r => simp [Tr.toL] at hl
    subst ht
    have hpl := (Array.getElem?_eq_some_iff.1 hm.box).1
    have b1 : Below w1.heap.size w1 (w1.alloc (.map #[] 0)) := al _
    have b2 : Below (w1.alloc (.map #[] 0)).heap.size (w1.alloc (.map #[] 0)) ((w1.alloc (.map #[] 0)).alloc (.cells #[.pointer (some ⟨pm, 0, none⟩), .map (some w1.heap.size)] 65)) := al _
    have s1 : (w1.alloc (.map #[] 0)).heap.size = w1.heap.size + 1 := size_al _ _
    have hbb : Below w.heap.size w ((w1.alloc (.map #[] 0)).alloc (.cells #[.pointer (some ⟨pm, 0, none⟩), .map (some w1.heap.size)] 65)) := (hb.trans (b1.mono hb.size)).trans (b2.mono (by rw [s1]; have := hb.size; omega))
    refine ⟨⟨pm, w1.heap.size, .nil, [], ⟨heap_alloc_new _ _, ?_, ?_, by simp, ?_⟩, Rel.nil, rfl⟩, hbb⟩
    · exact (hm.kept (Kept.of_below (F := fun _ => False) b1) (fun h => h) (fun _ _ h => h)).kept (Kept.of_below (F := fun _ => False) b2) (fun h => h) (fun _ _ h => h)
    · exact (GmAt.new w1).kept (Kept.of_below (F := fun _ => False) b2) (fun h => h)
    · refine ⟨by omega, by omega, by omega, by simp [Tr.blocks], by simp [Tr.blocks], ?_, hb.size⟩
      rw [s1]
      have := hb.size
      omega
  go_enter Try.func9, Try.ntmps9
  go_wp2_with fail
  refine (CN.out (by trivial)).mono ?_
  rintro e w1 ⟨pm, rfl, HM⟩
  obtain ⟨h1, h2⟩ := HT.out pm w1 HM.out
  have HX : Hid _ := And.intro h1 h2
  clear CN HT HM h1 h2
  rw [size_al] at HX
  go_wp2_with fail
  go_ret
  exact ⟨_, _, rfl, HX.out⟩

set_option maxHeartbeats 800000 in
set_option maxRecDepth 100000 in
theorem lay31 {B p pm hb : Nat} {t : Tr} {m : Mm} {T : Tb} {w : World} (x : Wr) (b6 : Nat) (h : Tx B p pm hb t m w) (hr : Rel t.toL m T) (h6 : w.cell? ⟨b6, 0, none⟩ = some (.pointer (some ⟨p, 0, none⟩))) : Calls Try.prog 31 #[.agg #[.string (bs x.key), .string (bs x.val), .bool x.dead], .pointer (some ⟨b6, 0, none⟩)] w fun e w' => e = .returned (.bool (getF x.key T).isSome) ∧ Below w.heap.size w w' := by
  obtain ⟨W0, hW0⟩ : ∃ W0, w.alloc (.cells #[.string (bs x.key), .string (bs x.val), .bool x.dead] 44) = W0 := ⟨_, rfl⟩
  have hb0 : Below w.heap.size w W0 := by rw [← hW0]; exact al _
  have hx0 : W0.heap[w.heap.size]? = some (.cells #[.string (bs x.key), .string (bs x.val), .bool x.dead] 44 (0, 0)) := by rw [← hW0]; exact heap_alloc_new w _
  have z0 : W0.cell? ⟨w.heap.size, 0, none⟩ = some (.string (bs x.key)) := block_cell hx0 rfl
  have y0 : W0.cell? ⟨b6, 0, none⟩ = some (.pointer (some ⟨p, 0, none⟩)) := by rw [hb0.cell (World.block_lt_of_cell? _ _ h6)]; exact h6
  have CC : Hid (1 = 1 → Calls Try.prog 32 #[.pointer (some ⟨p, 0, none⟩), .string (bs x.key)] W0 fun e w' => e = .returned (.bool (getF x.key T).isSome) ∧ Hid (Below w.heap.size w w')) := fun _ => by
    refine (claimed32 x.key (h.on hb0) hr).mono ?_
    rintro e w' ⟨rfl, hb'⟩
    exact ⟨rfl, hb0.trans (hb'.mono hb0.size)⟩
  clear h hr h6 hb0 hx0
  generalize (getF x.key T).isSome = z at *
  go_enter Try.func31, Try.ntmps31
  go_wp2_with fail
  refine (CC.out (by trivial)).mono ?_
  rintro e w1 ⟨rfl, HB⟩
  clear CC z0 y0 hW0
  go_wp2_with fail
  go_ret
  exact ⟨rfl, HB.out⟩
end Go.Proofs.Ytknfkpnicjellaa
