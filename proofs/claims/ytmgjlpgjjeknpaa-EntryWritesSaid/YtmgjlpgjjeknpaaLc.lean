/-
  The program's leaves: a stamp, a key, writes: are they right?
-/
import Derived.Test.YtmgjlpgjjeknpaaRg
import Derived.Shelf.Abstract
namespace Go.Proofs.Ytmgjlpgjjeknpaa
open Go.RowKit Go.Shelf

set_option maxHeartbeats 400000 in
set_option maxRecDepth 100000 in
theorem rightP (p l : Int) (w : World) :
    Calls Try.prog 49 #[.agg #[.int .u64 p, .int .u32 l]] w fun e w' => e = .returned (.bool (rightB p l)) ∧ Below w.heap.size w w' := by
  by_cases h1 : p ≤ 281474976710656 <;> by_cases h2 : l ≤ 4095
  all_goals
    go_enter Try.func49, Try.ntmps49
    go_wp2
    go_ret
    exact ⟨ret_bool (by simp [rightB, h1, h2]), (Below.refl _ _).alloc (Nat.le_refl _) _⟩

theorem key28 (k : List UInt8) (w : World) : Calls Try.prog 64 #[.string (bs k)] w fun e w' => e = .returned (.bool (kOk k)) ∧ w' = w := by
  have hs := bs_size k
  by_cases h1 : 1 ≤ k.length
  · by_cases h2 : k.length ≤ 32
    · have hk : kOk k = true := by simp [kOk, h1, h2]
      rw [hk]
      have h1' : (1 : Int) ≤ k.length := by omega
      have h2' : (k.length : Int) ≤ 32 := by omega
      clear hk
      go_enter Try.func64, Try.ntmps64
      go_wp2_with fail
      go_ret
      exact ⟨rfl, rfl⟩
    · have hk : kOk k = false := by simp [kOk, h2]
      rw [hk]
      have h1' : (1 : Int) ≤ k.length := by omega
      have h2' : ¬ (k.length : Int) ≤ 32 := by omega
      clear hk
      go_enter Try.func64, Try.ntmps64
      go_wp2_with fail
      go_ret
      exact ⟨rfl, rfl⟩
  · have hk : kOk k = false := by simp [kOk, h1]
    rw [hk]
    have h1' : ¬ (1 : Int) ≤ k.length := by omega
    clear hk
    go_enter Try.func64, Try.ntmps64
    go_wp2_with fail
    go_ret
    exact ⟨rfl, rfl⟩

set_option maxHeartbeats 800000 in
set_option maxRecDepth 100000 in
theorem right50 (x : Wr) (w : World) : Calls Try.prog 61 #[.agg #[.string (bs x.key), .string (bs x.val), .bool x.dead]] w fun e w' => e = .returned (.bool (wOk x)) ∧ Below w.heap.size w w' := by
  obtain ⟨xk, xv, xd⟩ := x
  dsimp only
  have hs := bs_size xv
  have q0 : ((bs xv).toList == []) = xv.isEmpty := by rw [bs_list]; cases xv <;> rfl
  have CK : Hid (∀ W, Calls Try.prog 64 #[.string (bs xk)] W fun e w' => e = .returned (.bool (kOk xk)) ∧ w' = W) := fun W => key28 xk W
  have HOk : Hid (∀ kb, kOk xk = kb → ∀ eb, xv.isEmpty = eb → wOk ⟨xk, xv, xd⟩ = (kb && decide (xv.length ≤ 256) && !(xd && !eb))) := fun kb h1 eb h2 => by subst h1 h2; rfl
  obtain ⟨kb, hkb⟩ : ∃ kb, kOk xk = kb := ⟨_, rfl⟩
  obtain ⟨eb, heb⟩ : ∃ eb, xv.isEmpty = eb := ⟨_, rfl⟩
  rw [HOk.out kb hkb eb heb]
  rw [hkb] at CK
  rw [heb] at q0
  have HB : Hid (∀ o, Below w.heap.size w (w.alloc o)) := fun o => al o
  clear hkb heb HOk
  cases kb
  · go_enter Try.func61, Try.ntmps61
    go_wp2_with fail
    refine (CK.out _).mono ?_
    rintro e w1 ⟨rfl, rfl⟩
    go_wp2_with fail
    go_ret
    exact ⟨rfl, HB.out _⟩
  · by_cases hv : (xv.length : Int) ≤ 256
    · have hv2 : decide (xv.length ≤ 256) = true := by simp; omega
      rw [hv2]
      clear hv2
      cases xd
      · go_enter Try.func61, Try.ntmps61
        go_wp2_with fail
        refine (CK.out _).mono ?_
        rintro e w1 ⟨rfl, rfl⟩
        go_wp2_with fail
        go_ret
        exact ⟨rfl, HB.out _⟩
      · cases eb
        · go_enter Try.func61, Try.ntmps61
          go_wp2_with fail
          refine (CK.out _).mono ?_
          rintro e w1 ⟨rfl, rfl⟩
          go_wp2_with fail
          go_ret
          exact ⟨rfl, HB.out _⟩
        · go_enter Try.func61, Try.ntmps61
          go_wp2_with fail
          refine (CK.out _).mono ?_
          rintro e w1 ⟨rfl, rfl⟩
          go_wp2_with fail
          go_ret
          exact ⟨rfl, HB.out _⟩
    · have hv2 : decide (xv.length ≤ 256) = false := by simp; omega
      rw [hv2]
      clear hv2
      go_enter Try.func61, Try.ntmps61
      go_wp2_with fail
      refine (CK.out _).mono ?_
      rintro e w1 ⟨rfl, rfl⟩
      go_wp2_with fail
      go_ret
      exact ⟨rfl, HB.out _⟩

set_option maxHeartbeats 400000 in
set_option maxRecDepth 100000 in
theorem same51 (x : Wr) (bp : Nat) (k : List UInt8) (w : World) (h : w.cell? ⟨bp, 0, none⟩ = some (.string (bs k))) : Calls Try.prog 63 #[.agg #[.string (bs x.key), .string (bs x.val), .bool x.dead], .pointer (some ⟨bp, 0, none⟩)] w fun e w' => e = .returned (.bool (x.key == k)) ∧ Below w.heap.size w w' := by
  have hq := bs_beq x.key k
  obtain ⟨W0, hW0⟩ : ∃ W0, w.alloc (.cells #[.string (bs x.key), .string (bs x.val), .bool x.dead] 60) = W0 := ⟨_, rfl⟩
  have hb0 : Below w.heap.size w W0 := by rw [← hW0]; exact al _
  have hx0 : W0.heap[w.heap.size]? = some (.cells #[.string (bs x.key), .string (bs x.val), .bool x.dead] 60 (0, 0)) := by rw [← hW0]; exact heap_alloc_new w _
  have z0 : W0.cell? ⟨w.heap.size, 0, none⟩ = some (.string (bs x.key)) := block_cell hx0 rfl
  have h0 : W0.cell? ⟨bp, 0, none⟩ = some (.string (bs k)) := by rw [hb0.cell (World.block_lt_of_cell? _ _ h)]; exact h
  have HB : Hid (Below w.heap.size w W0) := hb0
  clear h hb0 hx0
  generalize (x.key == k) = z at *
  go_enter Try.func63, Try.ntmps63
  go_wp2_with fail
  go_ret
  exact ⟨rfl, HB.out⟩

theorem any_step {L : List Wr} {P : Wr → Bool} {m : Nat} (h : m < L.length) : (L.drop m).any P = (P (L.getD m dw) || (L.drop (m + 1)).any P) := by
  rw [List.drop_eq_getElem_cons h, List.any_cons, List.getD, List.getElem?_eq_getElem h]
  rfl

set_option maxHeartbeats 800000 in
set_option maxRecDepth 100000 in
theorem index52 (f : Nat) (cf : Array Value) (P : Wr → Bool) (L : List Wr) (v : Value) (w : World) (hL : WsAt w.heap.size v L w) (ef : ∀ args w, (callFunc f args).run Try.prog w = .ok (.enter f args) w)
    (HF : Hid (∀ (x : Wr) W, Below w.heap.size w W → Calls Try.prog f (#[.agg #[.string (bs x.key), .string (bs x.val), .bool x.dead]] ++ cf) W fun e w' => e = .returned (.bool (P x)) ∧ Below W.heap.size W w')) :
    Calls Try.prog 65 #[v, .func (.func f) #[] cf] w fun e w' => ∃ i : Int, e = .returned (.int .i64 i) ∧ decide (0 ≤ i) = L.any P ∧ Below w.heap.size w w' := by
  have HL : Hid (WsAt w.heap.size v L w) := hL
  obtain ⟨ao, cap, rfl, hlc, hcm⟩ := hL.shape
  have hL9 : L.length < 9223372036854775808 := by omega
  have H0 : Hid ((L.drop 0).any P = L.any P) := by show _ = _; rw [List.drop_zero]
  have HE : Hid (∀ W, Below w.heap.size w W → ∀ i, i < L.length → ∃ b off, ao = some ⟨b, off, none⟩ ∧ WtAt W b (off + i * 3) (L.getD i dw)) := fun W hW i hi => (HL.out.on hW).el hi
  obtain ⟨y, hy⟩ : ∃ y, L.any P = y := ⟨_, rfl⟩
  rw [hy] at H0 ⊢
  clear hL hlc hcm HL hy
  go_enter Try.func65, Try.ntmps65
  go_wp2_with fail
  go_loopw [8] (fun i wr => Below w.heap.size w wr ∧ ∃ m : Nat, m ≤ L.length ∧ i = .int .i64 m ∧ (L.drop m).any P = y) (fun i _ => L.length - (intOf i).toNat)
  case atStart => exact ⟨Below.refl _ _, 0, Nat.zero_le _, rfl, H0.out⟩
  case round =>
    obtain ⟨hbr, m, hm, rfl, hy⟩ := hrel
    have HBr : Hid (Below w.heap.size w wr) := hbr
    by_cases hml : m < L.length
    · obtain ⟨b, off, rfl, e0, e1, e2⟩ := HE.out wr hbr m hml
      have hml' : (m : Int) < L.length := by omega
      have hm9 : ¬ (m : Int) < 0 := by omega
      have hst := any_step (P := P) hml
      rw [hy] at hst
      have HQ : Hid (m + 1 ≤ L.length) := hml
      generalize L.getD m dw = x at *
      have CF : Hid (1 = 1 → _) := fun _ => HF.out x wr hbr
      obtain ⟨z, hz⟩ : ∃ z, P x = z := ⟨_, rfl⟩
      rw [hz] at CF hst
      clear hz hbr hy HE
      cases z
      · have HY : Hid ((L.drop (m + 1)).any P = y) := by show _ = _; rw [hst]; rfl
        clear hst
        go_wp2_with fail
        refine (CF.out (by trivial)).mono ?_
        rintro e w1 ⟨rfl, hb1⟩
        have HB1 : Hid (Below w.heap.size w w1) := HBr.out.trans (hb1.mono HBr.out.size)
        clear hb1 CF e0 e1 e2
        go_wp2_with fail
        go_roundw
        case rel => exact ⟨HB1.out, m + 1, HQ.out, by go_num, HY.out⟩
        case measure => simp [intOf]; omega
      · have hy1 : y = true := hst
        subst hy1
        clear hst
        go_wp2_with fail
        refine (CF.out (by trivial)).mono ?_
        rintro e w1 ⟨rfl, hb1⟩
        have HB1 : Hid (Below w.heap.size w w1) := HBr.out.trans (hb1.mono HBr.out.size)
        clear hb1 CF e0 e1 e2
        go_wp2_with fail
        go_ret
        exact ⟨_, rfl, by simp, HB1.out⟩
    · have hml' : ¬ (m : Int) < L.length := by omega
      have hy1 : y = false := by rw [← hy, List.drop_eq_nil_of_le (by omega)]; rfl
      subst hy1
      clear hy hbr
      go_wp2_with fail
      go_ret
      exact ⟨_, rfl, by decide, HBr.out⟩

set_option maxHeartbeats 800000 in
set_option maxRecDepth 100000 in
theorem cont30 (f : Nat) (cf : Array Value) (P : Wr → Bool) (L : List Wr) (v : Value) (w : World) (hL : WsAt w.heap.size v L w) (ef : ∀ args w, (callFunc f args).run Try.prog w = .ok (.enter f args) w)
    (HF : Hid (∀ (x : Wr) W, Below w.heap.size w W → Calls Try.prog f (#[.agg #[.string (bs x.key), .string (bs x.val), .bool x.dead]] ++ cf) W fun e w' => e = .returned (.bool (P x)) ∧ Below W.heap.size W w')) :
    Calls Try.prog 62 #[v, .func (.func f) #[] cf] w fun e w' => e = .returned (.bool (L.any P)) ∧ Below w.heap.size w w' := by
  have CI : Hid (1 = 1 → _) := fun _ => index52 f cf P L v w hL ef HF
  obtain ⟨ao, cap, rfl, hlc, hcm⟩ := hL.shape
  clear hL HF ef hlc hcm
  generalize L.any P = y at *
  go_enter Try.func62, Try.ntmps62
  go_wp2_with fail
  refine (CI.out (by trivial)).mono ?_
  rintro e w1 ⟨i, rfl, hi, hb1⟩
  have HB : Hid _ := hb1
  have HI : Hid (decide (0 ≤ i) = y) := hi
  clear CI hb1 hi
  go_wp2_with fail
  go_ret
  exact ⟨by rw [← HI.out]; rfl, HB.out⟩

theorem any_keys {L : List Wr} {k : List UInt8} {m : Nat} (hm : m ≤ L.length) : ((L.take m).any fun a => a.key == k) = true ↔ ∃ i, i < m ∧ (L.getD i dw).key = k := by
  rw [List.any_eq_true]
  constructor
  · rintro ⟨a, ha, he⟩
    obtain ⟨i, hi, rfl⟩ := List.mem_take_iff_getElem.1 ha
    exact ⟨i, by omega, by rw [List.getD, List.getElem?_eq_getElem (by omega)]; simpa using he⟩
  · rintro ⟨i, hi, he⟩
    refine ⟨L.getD i dw, ?_, by simpa using he⟩
    rw [List.getD, List.getElem?_eq_getElem (by omega)]
    exact List.mem_take_iff_getElem.2 ⟨i, by omega, rfl⟩

theorem WsAt.tk {B : Nat} {ao : Option Addr} {cap : Nat} {L : List Wr} {w : World} (h : WsAt B (.slice ao L.length cap) L w) {m : Nat} (hm : m ≤ L.length) : WsAt B (.slice ao m cap) (L.take m) w := by
  have := RwAt.take h hm
  rw [rowC_take wrc_len] at this
  unfold WsAt
  rw [List.length_take, Nat.min_eq_left hm]
  exact this

theorem ent51 : ∀ args w, (callFunc 63 args).run Try.prog w = .ok (.enter 63 args) w := enters_of Try.func63 (by kernel_rfl) rfl

set_option maxHeartbeats 3200000 in
set_option maxRecDepth 100000 in
theorem right24 (B : Nat) (L : List Wr) (v : Value) (w : World) (h : WsAt B v L w) (hB : B ≤ w.heap.size) :
    Calls Try.prog 50 #[v] w fun e w' => e = .returned (.bool (rightW L)) ∧ Below w.heap.size w w' := by
  obtain ⟨ao, cap, rfl, hlc, hcm⟩ := h.shape
  have HW : Hid (∀ W, Below w.heap.size w W → WsAt w.heap.size (.slice ao L.length cap) L W) := fun W hW => RwAt.le (h.on (hW.mono hB)) hB
  have HE : Hid (∀ W, Below w.heap.size w W → ∀ i, i < L.length → ∃ b off, ao = some ⟨b, off, none⟩ ∧ WtAt W b (off + i * 3) (L.getD i dw)) := fun W hW i hi => (HW.out W hW).el hi
  have HBad : Hid (∀ m, m < L.length → wOk (L.getD m dw) = false → rightW L = false) := fun m hm hw => right_bad hm hw
  have HTw : Hid (∀ k m, k < m → m < L.length → (L.getD k dw).key = (L.getD m dw).key → rightW L = false) := fun k m hk hm he => right_twice hk hm he
  have HEnd : Hid (RtN L L.length → rightW L = (decide (1 ≤ L.length) && decide (L.length ≤ 16))) := right_end
  have HSz : Hid (¬ (1 ≤ L.length ∧ L.length ≤ 16) → rightW L = false) := fun hn => by
    unfold rightW
    by_cases h1 : 1 ≤ L.length
    · have h2 : ¬ L.length ≤ 16 := fun e => hn ⟨h1, e⟩
      simp [h2]
    · simp [h1]
  have hL9 : L.length < 9223372036854775808 := by omega
  have HCap : Hid (L.length ≤ cap) := hlc
  generalize rightW L = y at *
  clear h hB hcm hlc
  by_cases h1 : (L.length : Int) < 1
  · have hy : y = false := HSz.out (by omega)
    subst hy
    go_enter Try.func50, Try.ntmps50
    go_wp2_with fail
    go_ret
    exact ⟨rfl, Below.refl _ _⟩
  by_cases h2 : (16 : Int) < L.length
  · have hy : y = false := HSz.out (by omega)
    subst hy
    go_enter Try.func50, Try.ntmps50
    go_wp2_with fail
    go_ret
    exact ⟨rfl, Below.refl _ _⟩
  go_enter Try.func50, Try.ntmps50
  go_wp2_with fail
  go_loopw [15] (fun i wr => Below w.heap.size w wr ∧ ∃ m : Nat, m ≤ L.length ∧ i = .int .i64 m ∧ RtN L m) (fun i _ => L.length - (intOf i).toNat)
  case atStart => exact ⟨Below.refl _ _, 0, Nat.zero_le _, rfl, fun _ h => by omega, fun _ _ _ h => by omega⟩
  case round =>
    obtain ⟨hbr, m, hm, rfl, hrt⟩ := hrel
    have HBr : Hid (Below w.heap.size w wr) := hbr
    have HRt : Hid (RtN L m) := hrt
    by_cases hml : m < L.length
    · obtain ⟨b, off, rfl, e0, e1, e2⟩ := HE.out wr hbr m hml
      have hml' : (m : Int) < L.length := by omega
      have hm0 : ¬ (m : Int) < 0 := by omega
      have hmc : (m : Int) ≤ cap := by have := HCap.out; omega
      have HQ : Hid (m + 1 ≤ L.length) := hml
      have hAny := any_keys (k := (L.getD m dw).key) (Nat.le_of_lt hml)
      have HNo : Hid (wOk (L.getD m dw) = false → y = false) := HBad.out m hml
      have HTt : Hid (((L.take m).any fun a => a.key == (L.getD m dw).key) = true → y = false) := fun ht => by
        obtain ⟨i, hi, he⟩ := hAny.1 ht
        exact HTw.out i m hi hml he
      have HNx : Hid (wOk (L.getD m dw) = true → ((L.take m).any fun a => a.key == (L.getD m dw).key) = false → RtN L (m + 1)) := fun h3 h4 => HRt.out.next h3 (fun i hi he => by
        rw [hAny.2 ⟨i, hi, he⟩] at h4
        cases h4)
      clear hAny hrt
      generalize L.getD m dw = x at *
      obtain ⟨Wa, hWa⟩ : ∃ Wa, wr.alloc (.cells #[.string (bs x.key), .string (bs x.val), .bool x.dead] 60) = Wa := ⟨_, rfl⟩
      have hxa : Wa.heap[wr.heap.size]? = some (.cells #[.string (bs x.key), .string (bs x.val), .bool x.dead] 60 (0, 0)) := by rw [← hWa]; exact heap_alloc_new wr _
      have hba : Below w.heap.size w Wa := by rw [← hWa]; exact hbr.alloc hbr.size _
      have a0 : Wa.cell? ⟨wr.heap.size, 0, none⟩ = some (.string (bs x.key)) := block_cell hxa rfl
      have a1 : Wa.cell? ⟨wr.heap.size, 1, none⟩ = some (.string (bs x.val)) := block_cell hxa rfl
      have a2 : Wa.cell? ⟨wr.heap.size, 2, none⟩ = some (.bool x.dead) := block_cell hxa rfl
      obtain ⟨bp, hbp⟩ : ∃ bp, wr.heap.size = bp := ⟨_, rfl⟩
      rw [hbp] at a0 a1 a2 hxa
      have CR : Hid (1 = 1 → Calls Try.prog 61 #[.agg #[.string (bs x.key), .string (bs x.val), .bool x.dead]] Wa fun e w' => e = .returned (.bool (wOk x)) ∧ Hid (Below w.heap.size w w' ∧ w'.heap[bp]? = some (.cells #[.string (bs x.key), .string (bs x.val), .bool x.dead] 60 (0, 0)))) := fun _ => by
        refine (right50 x Wa).mono ?_
        rintro e w' ⟨rfl, hb'⟩
        exact ⟨rfl, hba.trans (hb'.mono hba.size), by rw [hb'.block _ (Array.getElem?_eq_some_iff.1 hxa).1]; exact hxa⟩
      have CC : Hid (∀ W, Hid (Below w.heap.size w W ∧ W.heap[bp]? = some (.cells #[.string (bs x.key), .string (bs x.val), .bool x.dead] 60 (0, 0))) → Calls Try.prog 62 #[.slice (some ⟨b, off, none⟩) m cap, .func (.func 63) #[] #[.pointer (some ⟨bp, 0, none⟩)]] W fun e w' => e = .returned (.bool ((L.take m).any fun a => a.key == x.key)) ∧ Hid (Below w.heap.size w w')) := fun W hW => by
        have hws := (HW.out W hW.out.1).tk hm
        refine (cont30 63 #[.pointer (some ⟨bp, 0, none⟩)] (fun a => a.key == x.key) (L.take m) _ W (RwAt.le hws hW.out.1.size) ent51 (fun a W2 hb2 => ?_)).mono ?_
        · exact same51 a bp x.key W2 (block_cell (by rw [hb2.block _ (Array.getElem?_eq_some_iff.1 hW.out.2).1]; exact hW.out.2) rfl)
        · rintro e w' ⟨rfl, hb'⟩
          exact ⟨rfl, hW.out.1.trans (hb'.mono hW.out.1.size)⟩
      clear hxa hba hbr HE HW HEnd HSz HBad HTw HRt
      cases hwo : wOk x with
      | false =>
        have hy : y = false := HNo.out hwo
        subst hy
        rw [hwo] at CR
        clear hwo HNo HNx HTt CC
        go_wp2_with fail
        refine (CR.out (by trivial)).mono ?_
        rintro e w1 ⟨rfl, HB1⟩
        clear CR a0 a1 a2 hWa hbp e0 e1 e2
        go_wp2_with fail
        go_ret
        exact ⟨rfl, HB1.out.1⟩
      | true =>
        rw [hwo] at CR
        cases han : (L.take m).any fun a => a.key == x.key with
        | true =>
          have hy : y = false := HTt.out han
          subst hy
          rw [han] at CC
          clear hwo han HNo HNx HTt
          go_wp2_with fail
          refine (CR.out (by trivial)).mono ?_
          rintro e w1 ⟨rfl, HB1⟩
          clear CR a0 a1 a2 hWa hbp e0 e1 e2
          go_wp2_with fail
          refine (CC.out _ HB1).mono ?_
          rintro e w2 ⟨rfl, HB2⟩
          clear CC HB1
          go_wp2_with fail
          go_ret
          exact ⟨rfl, HB2.out⟩
        | false =>
          rw [han] at CC
          have HNN : Hid (RtN L (m + 1)) := HNx.out hwo han
          clear hwo han HNo HNx HTt
          go_wp2_with fail
          refine (CR.out (by trivial)).mono ?_
          rintro e w1 ⟨rfl, HB1⟩
          clear CR a0 a1 a2 hWa hbp e0 e1 e2
          go_wp2_with fail
          refine (CC.out _ HB1).mono ?_
          rintro e w2 ⟨rfl, HB2⟩
          clear CC HB1
          go_wp2_with fail
          go_roundw
          case rel => exact ⟨HB2.out, m + 1, HQ.out, by go_num, HNN.out⟩
          case measure => simp [intOf]; omega
    · have hml' : ¬ (m : Int) < L.length := by omega
      have hm2 : m = L.length := by omega
      have hy : y = true := by
        have := HEnd.out (hm2 ▸ hrt)
        rw [this]
        simp
        omega
      subst hy
      clear hbr hrt hm2
      go_wp2_with fail
      go_ret
      exact ⟨rfl, HBr.out⟩

end Go.Proofs.Ytmgjlpgjjeknpaa
