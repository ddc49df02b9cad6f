import Derived.Test.YtkdkgdollmmcnaaGreatWaj
import Derived.Test.YtkdkgdollmmcnaaGreatWak
set_option maxHeartbeats 4000000
set_option maxRecDepth 100000
set_option linter.unusedVariables false
set_option linter.unusedSimpArgs false
namespace Go.Proofs.YtkdkgdollmmcnaaGreat
open Go.RowKit Go.Sort Go.Shelf
def kOk (k : List UInt8) : Bool := decide (1 ≤ k.length) && decide (k.length ≤ 32)
def wOk (x : Wr) : Bool := kOk x.key && decide (x.val.length ≤ 256) && !(x.dead && !x.val.isEmpty)
def rightW (l : List Wr) : Bool := l.all wOk && decide ((l.map (·.key)).Nodup) && decide (1 ≤ l.length) && decide (l.length ≤ 16)
theorem nodup_keys {L : List Wr} : (L.map (·.key)).Nodup ↔ ∀ i j, i < j → j < L.length → (L.getD i dw).key ≠ (L.getD j dw).key := by
 rw [List.nodup_iff_pairwise_ne, List.pairwise_map, List.pairwise_iff_getElem]
 refine ⟨fun h i j hij hj => ?_, fun h i j hi hj hij => ?_⟩
 ·have := h i j (by omega) hj hij
  simpa [List.getD, hj, show i < L.length by omega] using this
 ·have := h i j hij hj
  simpa [List.getD, hj, hi] using this
def RtN (L : List Wr) (m : Nat) : Prop := (∀ i, i < m → wOk (L.getD i dw) = true) ∧ ∀ i j, i < j → j < m → (L.getD i dw).key ≠ (L.getD j dw).key
theorem right_bad {L : List Wr} {m : Nat} (h : m < L.length) (hw : wOk (L.getD m dw) = false) : rightW L = false := by
 unfold rightW
 have : L.all wOk = false := by
  rw [List.all_eq_false]
  exact ⟨_, getD_memWr h, by rw [hw]; simp⟩
 rw [this]
 simp
theorem right_twice {L : List Wr} {k m : Nat} (hk : k < m) (h : m < L.length) (he : (L.getD k dw).key = (L.getD m dw).key) : rightW L = false := by
 unfold rightW
 have : decide ((L.map (·.key)).Nodup) = false := by
  rw [decide_eq_false_iff_not, nodup_keys]
  exact fun hn => hn k m hk h he
 rw [this]
 simp
theorem right_end {L : List Wr} (h : RtN L L.length) : rightW L = (decide (1 ≤ L.length) && decide (L.length ≤ 16)) := by
 unfold rightW
 have h1 : L.all wOk = true := by
  rw [List.all_eq_true]
  intro x hx
  obtain ⟨i, hi, rfl⟩ := List.mem_iff_getElem.1 hx
  have := h.1 i hi
  simpa [List.getD, hi] using this
 have h2 : decide ((L.map (·.key)).Nodup) = true := by
  rw [decide_eq_true_eq, nodup_keys]
  exact h.2
 rw [h1, h2]
 simp
theorem RtN.next {L : List Wr} {m : Nat} (h : RtN L m) (hw : wOk (L.getD m dw) = true) (hk : ∀ i, i < m → (L.getD i dw).key ≠ (L.getD m dw).key) : RtN L (m + 1) := by
 refine ⟨fun i hi => ?_, fun i j hij hj => ?_⟩
 ·by_cases e : i = m
  ·subst e; exact hw
  ·exact h.1 i (by omega)
 ·by_cases e : j = m
  ·subst e; exact hk i hij
  ·exact h.2 i j hij (by omega)
theorem key28 (k : List UInt8) (w : World) : Calls Tryz.prog 153 #[sd k] w fun e w' => e = .returned (.bool (kOk k)) ∧ w' = w := by
 have hs := bs_size k
 by_cases h1 : 1 ≤ k.length
 ·by_cases h2 : k.length ≤ 32
  ·have hk : kOk k = true := by simp [kOk, h1, h2]
   rw [hk]
   have h1' : (1 : Int) ≤ k.length := by omega
   have h2' : (k.length : Int) ≤ 32 := by omega
   clear hk
   go_enter Tryz.func153, Tryz.ntmps153
   go_wp2_with fail
   go_ret
   exact ⟨rfl, rfl⟩
  ·have hk : kOk k = false := by simp [kOk, h2]
   rw [hk]
   have h1' : (1 : Int) ≤ k.length := by omega
   have h2' : ¬ (k.length : Int) ≤ 32 := by omega
   clear hk
   go_enter Tryz.func153, Tryz.ntmps153
   go_wp2_with fail
   go_ret
   exact ⟨rfl, rfl⟩
 ·have hk : kOk k = false := by simp [kOk, h1]
  rw [hk]
  have h1' : ¬ (1 : Int) ≤ k.length := by omega
  clear hk
  go_enter Tryz.func153, Tryz.ntmps153
  go_wp2_with fail
  go_ret
  exact ⟨rfl, rfl⟩
theorem right50 (x : Wr) (w : World) : Calls Tryz.prog 127 #[.agg #[sd x.key, sd x.val, .bool x.dead]] w fun e w' => e = .returned (.bool (wOk x)) ∧ Below w.heap.size w w' := by
 obtain ⟨xk, xv, xd⟩ := x
 dsimp only
 have hs := bs_size xv
 have q0 : ((bs xv).toList == []) = xv.isEmpty := by rw [bs_list]; cases xv <;> rfl
 have CK : Hid (∀ W, Calls Tryz.prog 153 #[sd xk] W fun e w' => e = .returned (.bool (kOk xk)) ∧ w' = W) := fun W => key28 xk W
 have HOk : Hid (∀ kb, kOk xk = kb → ∀ eb, xv.isEmpty = eb → wOk ⟨xk, xv, xd⟩ = (kb && decide (xv.length ≤ 256) && !(xd && !eb))) := fun kb h1 eb h2 => by subst h1 h2; rfl
 obtain ⟨kb, hkb⟩ := xj (kOk xk)
 obtain ⟨eb, heb⟩ := xj xv.isEmpty
 rw [HOk.out kb hkb eb heb]
 rw [hkb] at CK
 rw [heb] at q0
 have HB : Hid (∀ o, Below w.heap.size w (w.alloc o)) := fun o => al o
 clear hkb heb HOk
 cases kb
 ·go_enter Tryz.func127, Tryz.ntmps127
  go_wp2_with fail
  refine (CK.out _).mono ?_
  rintro e w1 ⟨rfl, rfl⟩
  go_wp2_with fail
  go_ret
  exact ⟨rfl, HB.out _⟩
 ·by_cases hv : (xv.length : Int) ≤ 256
  ·have hv2 : decide (xv.length ≤ 256) = true := by simp; omega
   rw [hv2]
   clear hv2
   cases xd
   ·go_enter Tryz.func127, Tryz.ntmps127
    go_wp2_with fail
    refine (CK.out _).mono ?_
    rintro e w1 ⟨rfl, rfl⟩
    go_wp2_with fail
    go_ret
    exact ⟨rfl, HB.out _⟩
   ·cases eb
    ·go_enter Tryz.func127, Tryz.ntmps127
     go_wp2_with fail
     refine (CK.out _).mono ?_
     rintro e w1 ⟨rfl, rfl⟩
     go_wp2_with fail
     go_ret
     exact ⟨rfl, HB.out _⟩
    ·go_enter Tryz.func127, Tryz.ntmps127
     go_wp2_with fail
     refine (CK.out _).mono ?_
     rintro e w1 ⟨rfl, rfl⟩
     go_wp2_with fail
     go_ret
     exact ⟨rfl, HB.out _⟩
  ·have hv2 : decide (xv.length ≤ 256) = false := by simp; omega
   rw [hv2]
   clear hv2
   go_enter Tryz.func127, Tryz.ntmps127
   go_wp2_with fail
   refine (CK.out _).mono ?_
   rintro e w1 ⟨rfl, rfl⟩
   go_wp2_with fail
   go_ret
   exact ⟨rfl, HB.out _⟩
theorem same51 (x : Wr) (bp : Nat) (k : List UInt8) (w : World) (h : w.cell? ⟨bp, 0, none⟩ = some (sd k)) : Calls Tryz.prog 129 #[.agg #[sd x.key, sd x.val, .bool x.dead], pz bp] w fun e w' => e = .returned (.bool (x.key == k)) ∧ Below w.heap.size w w' := by
 have hq := bs_beq x.key k
 obtain ⟨W0, hW0⟩ := xj (w.alloc (.cells #[sd x.key, sd x.val, .bool x.dead] 70))
 have hb0 : Below w.heap.size w W0 := by rw [← hW0]; exact al _
 have hx0 : W0.heap[w.heap.size]? = some (.cells #[sd x.key, sd x.val, .bool x.dead] 70 (0, 0)) := by rw [← hW0]; exact heap_alloc_new w _
 have z0 : W0.cell? ⟨w.heap.size, 0, none⟩ = some (sd x.key) := block_cell hx0 rfl
 have h0 : W0.cell? ⟨bp, 0, none⟩ = some (sd k) := by rw [hb0.cell (World.block_lt_of_cell? _ _ h)]; exact h
 have HB : Hid (Below w.heap.size w W0) := hb0
 clear h hb0 hx0
 generalize (x.key == k) = z at *
 go_enter Tryz.func129, Tryz.ntmps129
 go_wp2_with fail
 go_ret
 exact ⟨rfl, HB.out⟩
theorem any_step {L : List Wr} {P : Wr → Bool} {m : Nat} (h : m < L.length) : (L.drop m).any P = (P (L.getD m dw) || (L.drop (m + 1)).any P) := by
 rw [List.drop_eq_getElem_cons h, List.any_cons, List.getD, List.getElem?_eq_getElem h]
 rfl
theorem index52 (f : Nat) (cf : Array Value) (P : Wr → Bool) (L : List Wr) (v : Value) (w : World) (hL : WsAt w.heap.size v L w) (ef : ∀ args w, (callFunc f args).run Tryz.prog w = .ok (.enter f args) w)
  (HF : Hid (∀ (x : Wr) W, Below w.heap.size w W → Calls Tryz.prog f (#[.agg #[sd x.key, sd x.val, .bool x.dead]] ++ cf) W fun e w' => e = .returned (.bool (P x)) ∧ Below W.heap.size W w')) :
  Calls Tryz.prog 152 #[v, .func (.func f) #[] cf] w fun e w' => ∃ i : Int, e = .returned (iw i) ∧ decide (0 ≤ i) = L.any P ∧ Below w.heap.size w w' := by
 have HL : Hid (WsAt w.heap.size v L w) := hL
 obtain ⟨ao, cap, rfl, hlc, hcm⟩ := hL.shape
 have hL9 : L.length < 9223372036854775808 := by omega
 have H0 : Hid ((L.drop 0).any P = L.any P) := by show _ = _; rw [List.drop_zero]
 have HE : Hid (∀ W, Below w.heap.size w W → ∀ i, i < L.length → ∃ b off, ao = some ⟨b, off, none⟩ ∧ WtAt W b (off + i * 3) (L.getD i dw)) := fun W hW i hi => (HL.out.on hW).el hi
 obtain ⟨y, hy⟩ := xj (L.any P)
 rw [hy] at H0 ⊢
 clear hL hlc hcm HL hy
 go_enter Tryz.func152, Tryz.ntmps152
 go_wp2_with fail
 go_loopw [8] (fun i wr => Below w.heap.size w wr ∧ ∃ m : Nat, m ≤ L.length ∧ i = iw m ∧ (L.drop m).any P = y) (fun i _ => L.length - (intOf i).toNat)
 case atStart => exact ⟨Below.refl _ _, 0, Nat.zero_le _, rfl, H0.out⟩
 case round =>
  obtain ⟨hbr, m, hm, rfl, hy⟩ := hrel
  have HBr : Hid (Below w.heap.size w wr) := hbr
  by_cases hml : m < L.length
  ·obtain ⟨b, off, rfl, e0, e1, e2⟩ := HE.out wr hbr m hml
   have hml' : (m : Int) < L.length := by omega
   have hm9 : ¬ (m : Int) < 0 := by omega
   have hst := any_step (P := P) hml
   rw [hy] at hst
   have HQ : Hid (m + 1 ≤ L.length) := hml
   generalize L.getD m dw = x at *
   have CF : Hid (1 = 1 → _) := fun _ => HF.out x wr hbr
   obtain ⟨z, hz⟩ := xj (P x)
   rw [hz] at CF hst
   clear hz hbr hy HE
   cases z
   ·have HY : Hid ((L.drop (m + 1)).any P = y) := by show _ = _; rw [hst]; rfl
    clear hst
    go_wp2_with fail
    refine (CF.out (by trivial)).mono ?_
    rintro e w1 ⟨rfl, hb1⟩
    have HB1 : Hid (Below w.heap.size w w1) := HBr.out.trans (hb1.mono HBr.out.size)
    clear hb1 CF e0 e1 e2
    go_wp2_with fail
    go_roundw
    case rel => exact ⟨HB1.out, m + 1, HQ.out, by go_num, HY.out⟩
    case measure => simp [intOf]; omega
   ·have hy1 : y = true := hst
    subst hy1
    clear hst
    go_wp2_with fail
    refine (CF.out (by trivial)).mono ?_
    rintro e w1 ⟨rfl, hb1⟩
    have HB1 : Hid (Below w.heap.size w w1) := HBr.out.trans (hb1.mono HBr.out.size)
    clear hb1 CF e0 e1 e2
    go_wp2_with fail
    go_ret
    exact ⟨_, rfl, by simp, HB1.out⟩
  ·have hml' : ¬ (m : Int) < L.length := by omega
   have hy1 : y = false := by rw [← hy, List.drop_eq_nil_of_le (by omega)]; rfl
   subst hy1
   clear hy hbr
   go_wp2_with fail
   go_ret
   exact ⟨_, rfl, by decide, HBr.out⟩
theorem cont30 (f : Nat) (cf : Array Value) (P : Wr → Bool) (L : List Wr) (v : Value) (w : World) (hL : WsAt w.heap.size v L w) (ef : ∀ args w, (callFunc f args).run Tryz.prog w = .ok (.enter f args) w)
  (HF : Hid (∀ (x : Wr) W, Below w.heap.size w W → Calls Tryz.prog f (#[.agg #[sd x.key, sd x.val, .bool x.dead]] ++ cf) W fun e w' => e = .returned (.bool (P x)) ∧ Below W.heap.size W w')) :
  Calls Tryz.prog 128 #[v, .func (.func f) #[] cf] w fun e w' => e = .returned (.bool (L.any P)) ∧ Below w.heap.size w w' := by
 have CI : Hid (1 = 1 → _) := fun _ => index52 f cf P L v w hL ef HF
 obtain ⟨ao, cap, rfl, hlc, hcm⟩ := hL.shape
 clear hL HF ef hlc hcm
 generalize L.any P = y at *
 go_enter Tryz.func128, Tryz.ntmps128
 go_wp2_with fail
 refine (CI.out (by trivial)).mono ?_
 rintro e w1 ⟨i, rfl, hi, hb1⟩
 have HB : Hid _ := hb1
 have HI : Hid (decide (0 ≤ i) = y) := hi
 clear CI hb1 hi
 go_wp2_with fail
 go_ret
 exact ⟨by rw [← HI.out]; rfl, HB.out⟩
theorem any_keys {L : List Wr} {k : List UInt8} {m : Nat} (hm : m ≤ L.length) : ((L.take m).any fun a => a.key == k) = true ↔ ∃ i, i < m ∧ (L.getD i dw).key = k := by
 rw [List.any_eq_true]
 constructor
 ·rintro ⟨a, ha, he⟩
  obtain ⟨i, hi, rfl⟩ := List.mem_take_iff_getElem.1 ha
  exact ⟨i, by omega, by rw [List.getD, List.getElem?_eq_getElem (by omega)]; simpa using he⟩
 ·rintro ⟨i, hi, he⟩
  refine ⟨L.getD i dw, ?_, by simpa using he⟩
  rw [List.getD, List.getElem?_eq_getElem (by omega)]
  exact List.mem_take_iff_getElem.2 ⟨i, by omega, rfl⟩
theorem WsAt.tk {B : Nat} {ao : Option Addr} {cap : Nat} {L : List Wr} {w : World} (h : WsAt B (.slice ao L.length cap) L w) {m : Nat} (hm : m ≤ L.length) : WsAt B (.slice ao m cap) (L.take m) w := by
 have := RwAt.take h hm
 rw [rowC_take wrc_len] at this
 unfold WsAt
 rw [List.length_take, Nat.min_eq_left hm]
 exact this
theorem ent51 : ∀ args w, (callFunc 129 args).run Tryz.prog w = .ok (.enter 129 args) w := enters_of Tryz.func129 (by kernel_rfl) rfl
theorem right24 (B : Nat) (L : List Wr) (v : Value) (w : World) (h : WsAt B v L w) (hB : B ≤ w.heap.size) :
  Calls Tryz.prog 86 #[v] w fun e w' => e = .returned (.bool (rightW L)) ∧ Below w.heap.size w w' := by
 obtain ⟨ao, cap, rfl, hlc, hcm⟩ := h.shape
 have HW : Hid (∀ W, Below w.heap.size w W → WsAt w.heap.size (.slice ao L.length cap) L W) := fun W hW => RwAt.le (h.on (hW.mono hB)) hB
 have HE : Hid (∀ W, Below w.heap.size w W → ∀ i, i < L.length → ∃ b off, ao = some ⟨b, off, none⟩ ∧ WtAt W b (off + i * 3) (L.getD i dw)) := fun W hW i hi => (HW.out W hW).el hi
 have HBad : Hid (∀ m, m < L.length → wOk (L.getD m dw) = false → rightW L = false) := fun m hm hw => right_bad hm hw
 have HTw : Hid (∀ k m, k < m → m < L.length → (L.getD k dw).key = (L.getD m dw).key → rightW L = false) := fun k m hk hm he => right_twice hk hm he
 have HEnd : Hid (RtN L L.length → rightW L = (decide (1 ≤ L.length) && decide (L.length ≤ 16))) := right_end
 have HSz : Hid (¬ (1 ≤ L.length ∧ L.length ≤ 16) → rightW L = false) := fun hn => by
  unfold rightW
  by_cases h1 : 1 ≤ L.length
  ·have h2 : ¬ L.length ≤ 16 := fun e => hn ⟨h1, e⟩
   simp [h2]
  ·simp [h1]
 have hL9 : L.length < 9223372036854775808 := by omega
 have HCap : Hid (L.length ≤ cap) := hlc
 generalize rightW L = y at *
 clear h hB hcm hlc
 by_cases h1 : (L.length : Int) < 1
 ·have hy : y = false := HSz.out (by omega)
  subst hy
  go_enter Tryz.func86, Tryz.ntmps86
  go_wp2_with fail
  go_ret
  exact ⟨rfl, Below.refl _ _⟩
 by_cases h2 : (16 : Int) < L.length
 ·have hy : y = false := HSz.out (by omega)
  subst hy
  go_enter Tryz.func86, Tryz.ntmps86
  go_wp2_with fail
  go_ret
  exact ⟨rfl, Below.refl _ _⟩
 go_enter Tryz.func86, Tryz.ntmps86
 go_wp2_with fail
 go_loopw [15] (fun i wr => Below w.heap.size w wr ∧ ∃ m : Nat, m ≤ L.length ∧ i = iw m ∧ RtN L m) (fun i _ => L.length - (intOf i).toNat)
 case atStart => exact ⟨Below.refl _ _, 0, Nat.zero_le _, rfl, fun _ h => by omega, fun _ _ _ h => by omega⟩
 case round =>
  obtain ⟨hbr, m, hm, rfl, hrt⟩ := hrel
  have HBr : Hid (Below w.heap.size w wr) := hbr
  have HRt : Hid (RtN L m) := hrt
  by_cases hml : m < L.length
  ·obtain ⟨b, off, rfl, e0, e1, e2⟩ := HE.out wr hbr m hml
   have hml' : (m : Int) < L.length := by omega
   have hm0 : ¬ (m : Int) < 0 := by omega
   have hmc : (m : Int) ≤ cap := by have := HCap.out; omega
   have HQ : Hid (m + 1 ≤ L.length) := hml
   have hAny := any_keys (k := (L.getD m dw).key) (Nat.le_of_lt hml)
   have HNo : Hid (wOk (L.getD m dw) = false → y = false) := HBad.out m hml
   have HTt : Hid (((L.take m).any fun a => a.key == (L.getD m dw).key) = true → y = false) := fun ht => by
    obtain ⟨i, hi, he⟩ := hAny.1 ht
    exact HTw.out i m hi hml he
   have HNx : Hid (wOk (L.getD m dw) = true → ((L.take m).any fun a => a.key == (L.getD m dw).key) = false → RtN L (m + 1)) := fun h3 h4 => HRt.out.next h3 (fun i hi he => by
    rw [hAny.2 ⟨i, hi, he⟩] at h4
    cases h4)
   clear hAny hrt
   generalize L.getD m dw = x at *
   obtain ⟨Wa, hWa⟩ := xj (wr.alloc (.cells #[sd x.key, sd x.val, .bool x.dead] 70))
   have hxa : Wa.heap[wr.heap.size]? = some (.cells #[sd x.key, sd x.val, .bool x.dead] 70 (0, 0)) := by rw [← hWa]; exact heap_alloc_new wr _
   have hba : Below w.heap.size w Wa := by rw [← hWa]; exact hbr.alloc hbr.size _
   have a0 : Wa.cell? ⟨wr.heap.size, 0, none⟩ = some (sd x.key) := block_cell hxa rfl
   have a1 : Wa.cell? ⟨wr.heap.size, 1, none⟩ = some (sd x.val) := block_cell hxa rfl
   have a2 : Wa.cell? ⟨wr.heap.size, 2, none⟩ = some (.bool x.dead) := block_cell hxa rfl
   obtain ⟨bp, hbp⟩ := xj wr.heap.size
   rw [hbp] at a0 a1 a2 hxa
   have CR : Hid (1 = 1 → Calls Tryz.prog 127 #[.agg #[sd x.key, sd x.val, .bool x.dead]] Wa fun e w' => e = .returned (.bool (wOk x)) ∧ Hid (Below w.heap.size w w' ∧ w'.heap[bp]? = some (.cells #[sd x.key, sd x.val, .bool x.dead] 70 (0, 0)))) := fun _ => by
    refine (right50 x Wa).mono ?_
    rintro e w' ⟨rfl, hb'⟩
    exact ⟨rfl, hba.trans (hb'.mono hba.size), by rw [hb'.block _ (Array.getElem?_eq_some_iff.1 hxa).1]; exact hxa⟩
   have CC : Hid (∀ W, Hid (Below w.heap.size w W ∧ W.heap[bp]? = some (.cells #[sd x.key, sd x.val, .bool x.dead] 70 (0, 0))) → Calls Tryz.prog 128 #[.slice (some ⟨b, off, none⟩) m cap, .func (.func 129) #[] #[pz bp]] W fun e w' => e = .returned (.bool ((L.take m).any fun a => a.key == x.key)) ∧ Hid (Below w.heap.size w w')) := fun W hW => by
    have hws := (HW.out W hW.out.1).tk hm
    refine (cont30 129 #[pz bp] (fun a => a.key == x.key) (L.take m) _ W (RwAt.le hws hW.out.1.size) ent51 (fun a W2 hb2 => ?_)).mono ?_
    ·exact same51 a bp x.key W2 (block_cell (by rw [hb2.block _ (Array.getElem?_eq_some_iff.1 hW.out.2).1]; exact hW.out.2) rfl)
    ·rintro e w' ⟨rfl, hb'⟩
     exact ⟨rfl, hW.out.1.trans (hb'.mono hW.out.1.size)⟩
   clear hxa hba hbr HE HW HEnd HSz HBad HTw HRt
   cases hwo : wOk x with
   | false =>
    have hy : y = false := HNo.out hwo
    subst hy
    rw [hwo] at CR
    clear hwo HNo HNx HTt CC
    go_wp2_with fail
    refine (CR.out (by trivial)).mono ?_
    rintro e w1 ⟨rfl, HB1⟩
    clear CR a0 a1 a2 hWa hbp e0 e1 e2
    go_wp2_with fail
    go_ret
    exact ⟨rfl, HB1.out.1⟩
   | true =>
    rw [hwo] at CR
    cases han : (L.take m).any fun a => a.key == x.key with
    | true =>
     have hy : y = false := HTt.out han
     subst hy
     rw [han] at CC
     clear hwo han HNo HNx HTt
     go_wp2_with fail
     refine (CR.out (by trivial)).mono ?_
     rintro e w1 ⟨rfl, HB1⟩
     clear CR a0 a1 a2 hWa hbp e0 e1 e2
     go_wp2_with fail
     refine (CC.out _ HB1).mono ?_
     rintro e w2 ⟨rfl, HB2⟩
     clear CC HB1
     go_wp2_with fail
     go_ret
     exact ⟨rfl, HB2.out⟩
    | false =>
     rw [han] at CC
     have HNN : Hid (RtN L (m + 1)) := HNx.out hwo han
     clear hwo han HNo HNx HTt
     go_wp2_with fail
     refine (CR.out (by trivial)).mono ?_
     rintro e w1 ⟨rfl, HB1⟩
     clear CR a0 a1 a2 hWa hbp e0 e1 e2
     go_wp2_with fail
     refine (CC.out _ HB1).mono ?_
     rintro e w2 ⟨rfl, HB2⟩
     clear CC HB1
     go_wp2_with fail
     go_roundw
     case rel => exact ⟨HB2.out, m + 1, HQ.out, by go_num, HNN.out⟩
     case measure => simp [intOf]; omega
  ·have hml' : ¬ (m : Int) < L.length := by omega
   have hm2 : m = L.length := by omega
   have hy : y = true := by
    have := HEnd.out (hm2 ▸ hrt)
    rw [this]
    simp
    omega
   subst hy
   clear hbr hrt hm2
   go_wp2_with fail
   go_ret
   exact ⟨rfl, HBr.out⟩
open Go.RowKit Go.Sort
variable {M M' G N : Nat → Prop} {W W' w : World} {f f' : Fo} {X X' : Ss}
def bt : Bt where
 home k n := if (Pla.shardF k n).2 = 0 then some (Pla.shardF k n).1.toNat else none
 parts ws n := Pla.splitF ws n
 bits := Pla.bitsL
 tick p l f := ((Clk.tickF p l f).1.toNat, (Clk.tickF p l f).2.1.toNat, (Clk.tickF p l f).2.2)
 right := wOk
 key := kOk
theorem home_int (k : List UInt8) (n : Nat) : (Pla.shardF k n).1 = (((bt.home k n).getD 0 : Nat) : Int) := by
 unfold bt
 dsimp only
 rcases Pla.shard_code k n with ⟨h, _⟩ | ⟨h, _⟩
 ·rw [if_pos h]
  have := (Pla.shard_range k n h).1
  simp only [Option.getD_some]
  omega
 ·rw [h]
  rfl
theorem primary91 (h : SC f N X w) (ha : X.act = true) (hne : X.ws ≠ []) : Calls Tryz.prog 91 #[pz f.tb] w fun r w' => r = .returned (.string (bs (priF X))) ∧ w = w' := by
 have t4 : w.cell? ⟨f.tb, 4, none⟩ = some f.vw := block_cell (h.tx ha).1 rfl
 have hl : 0 < X.ws.length := by
  cases hx : X.ws
  ·exact absurd hx hne
  ·simp
 obtain ⟨ao, cap, hv, h1, h2⟩ := WsAt.shape (rw_own (h.tx ha).2)
 have hw : WsAt w.heap.size (.slice ao X.ws.length cap) X.ws w := by rw [← hv]; exact rw_own (h.tx ha).2
 obtain ⟨b, off, rfl, hc⟩ := hw.el hl
 have c0 := hc.c0
 rw [Nat.zero_mul, Nat.add_zero] at c0
 have HP : Hid (priF X = (X.ws.getD 0 dw).key) := by
  show _ = _
  unfold priF
  cases hx : X.ws
  ·exact absurd hx hne
  ·rfl
 rw [hv] at t4
 rw [HP.out]
 have hl' : 0 < (X.ws.length : Int) := by omega
 generalize X.ws.length = n at *
 generalize X.ws.getD 0 dw = x at *
 clear h hw hc hne HP ha hv
 go_enter Tryz.func91, Tryz.ntmps91
 go_wp2_with fail
 go_ret
 exact ⟨rfl, rfl⟩
theorem info53 : (Tryz.prog.info? 53).map (·.size) = some 13 := by kernel_rfl
theorem res13 {fn : Func} {p : Tmp} (hf : fn.results = #[.cell p 53]) {tmps : Array Value} {b : Nat} (hp : tmps.getD p undef = .pointer (some ⟨b, 0, none⟩)) {vs : Array Value} (hs : vs.size = 13) (h : W.heap[b]? = some (.cells vs 53 (0, 0))) : (results fn tmps).run Tryz.prog W = .ok (.agg vs) W :=
 results_cell_row hf tmps W b 53 vs (0, 0) _ hp h Tryz.underlying53 rfl (by rw [hs]; exact info53)
def undoQ (X : Ss) : Rq := { zQ with k := 6, c := X.cl, n := X.n, sp := X.sp, sl := X.sl }
def rqV (q : Rq) : Value := .agg (rqc q sy sy).toArray
theorem undo133 (h : SC f N X w) (ha : X.act = true) : Calls Tryz.prog 133 #[pz f.sb] w fun r w' => r = .returned (rqV (undoQ X)) ∧ Below w.heap.size w w' := by
 have p6 : w.cell? ⟨f.sb, 6, none⟩ = some (pz f.tb) := block_cell (h.blk) (by simp [sbA, vtV, ha])
 have t0 : w.cell? ⟨f.tb, 0, none⟩ = some (uu X.cl) := block_cell (h.tx ha).1 rfl
 have t1 : w.cell? ⟨f.tb, 1, none⟩ = some (uu X.n) := block_cell (h.tx ha).1 rfl
 have t2 : w.cell? ⟨f.tb, 2, none⟩ = some (uw X.sp) := block_cell (h.tx ha).1 rfl
 have t3 : w.cell? ⟨f.tb, 3, none⟩ = some (uu X.sl) := block_cell (h.tx ha).1 rfl
 have hl : f.sb < w.heap.size := lt_blk h.blk
 have hlt : f.tb < w.heap.size := lt_blk (h.tx ha).1
 clear h ha
 go_enter Tryz.func133, Tryz.ntmps133
 go_upto_region 1 with fail
 go_region_held3 (fun W => W.cell? ⟨f.sb, 6, none⟩ = some (pz f.tb) ∧ W.cell? ⟨f.tb, 0, none⟩ = some (uu X.cl) ∧ W.cell? ⟨f.tb, 1, none⟩ = some (uu X.n) ∧ W.cell? ⟨f.tb, 2, none⟩ = some (uw X.sp) ∧ W.cell? ⟨f.tb, 3, none⟩ = some (uu X.sl))
  (go_keep) (fail)
 rename_i hHeld
 clear hHeld p6 t0 t1 t2 t3
 go_wp2_with fail
 refine bodyPost_ret (res13 rfl rfl rfl (heap_alloc_new w _)) rfl ?_
 exact ⟨rfl, (al _).drew⟩
theorem home137 (h : SC f N X w) (ha : X.act = true) (hne : X.ws ≠ []) : Calls Tryz.prog 137 #[pz f.sb] w fun r w' => r = .returned (iw (homeF bt X (priF X) : Int)) ∧ Below w.heap.size w w' := by
 have p6 : w.cell? ⟨f.sb, 6, none⟩ = some (pz f.tb) := block_cell (h.blk) (by simp [sbA, vtV, ha])
 have p1 : w.cell? ⟨f.sb, 1, none⟩ = some (iw (X.nsh : Int)) := block_cell h.blk rfl
 have C1 : Hid (∀ W, Below w.heap.size w W → Calls Tryz.prog 91 #[pz f.tb] W fun r w' => r = .returned (.string (bs (priF X))) ∧ W = w') := fun W hb => primary91 (h.on hb) ha hne
 have C2 : Hid (∀ W, 1 = 1 → Calls Tryz.prog 26 #[.string (bs (priF X)), iw (X.nsh : Int)] W fun r w' => r = .returned (.tuple #[iw (homeF bt X (priF X) : Int), iw (Pla.shardF (priF X) (X.nsh : Int)).2]) ∧ W = w') := fun W _ => by
  have c := Pla.shard11 (priF X) (X.nsh : Int) W
  rw [home_int] at c
  exact c
 generalize (homeF bt X (priF X) : Int) = hm at *
 generalize (Pla.shardF (priF X) (X.nsh : Int)).2 = er at *
 generalize priF X = pk at *
 clear h ha hne
 have HB : Hid (Below w.heap.size w w.drew) := (Below.refl _ _).drew
 go_enter Tryz.func137, Tryz.ntmps137
 go_upto_region 1 with fail
 go_region_held3 (fun W => W.cell? ⟨f.sb, 6, none⟩ = some (pz f.tb) ∧ W.cell? ⟨f.sb, 1, none⟩ = some (iw (X.nsh : Int)) ∧ W = w.drew)
  (first | exact ⟨p6, p1, rfl⟩ | go_keep)
  (first
  | (go_at_call 91; refine (C1.out _ HB.out).mono ?_; rintro e w1 ⟨rfl, rfl⟩)
  | (go_at_call 26; refine (C2.out _ (by trivial)).mono ?_; rintro e w2 ⟨rfl, rfl⟩))
 rename_i hHeld
 clear hHeld C1 C2 p1 p6
 go_wp2_with fail
 go_ret
 exact ⟨rfl, HB.out⟩
def inc (n : Nat) : List Value := [iw (n : Int)]
theorem inc_len (n : Nat) : (inc n).length = 1 := rfl
def partsN (L : List (List Wr)) (m : Nat) : List Nat := (List.range m).filter fun i => !(L.getD i []).isEmpty
theorem parts_succ (L : List (List Wr)) (m : Nat) : partsN L (m + 1) = if (L.getD m []).isEmpty then partsN L m else partsN L m ++ [m] := by
 unfold partsN
 rw [List.range_succ, List.filter_append]
 rw [show (List.filter (fun i => !(L.getD i []).isEmpty) [m]) = if !(L.getD m []).isEmpty then [m] else [] from by rw [List.filter_cons]; rfl]
 cases h : (L.getD m []).isEmpty
 ·rfl
 ·exact List.append_nil _
theorem parts_len (L : List (List Wr)) (m : Nat) : (partsN L m).length ≤ m := by
 have := List.length_filter_le (fun i => !(L.getD i []).isEmpty) (List.range m)
 rw [List.length_range] at this
 exact this
theorem info3 : (Tryz.prog.info? 3).map (fun i => (i.zero, i.size, i.bytes)) = some (some (iw 0), 1, 8) := by kernel_rfl
structure Pn (w : World) (g : Nat) (vs : List Value) (L : List (List Wr)) (v : Value) (m : Nat) (W : World) : Prop where
 bel : Below w.heap.size w W
 s : Pla.Sm w.heap.size g vs L W
 own : W.ownsRow w.heap.size 3 1 v (partsN L m).length (rowC inc (partsN L m))
 ng : v.ownBlock ≠ some g
 nv : ∀ i, i < L.length → ∀ k, (vs.getD i Pla.nv).ownBlock = some k → v.ownBlock ≠ some k
theorem Pn.on {g : Nat} {vs : List Value} {L : List (List Wr)} {v : Value} {m : Nat} (h : Pn w g vs L v m W) (hb : Below W.heap.size W W') : Pn w g vs L v m W' :=
 ⟨h.bel.trans (hb.mono h.bel.size), h.s.on hb, own_on h.own hb, h.ng, h.nv⟩
theorem Pn.push {g : Nat} {vs : List Value} {L : List (List Wr)} {v v' : Value} {m : Nat} (h : Pn w g vs L v m W) (hl : (L.getD m []).isEmpty = false) (h2 : W'.ownsRow w.heap.size 3 1 v' ((partsN L m).length + 1) (rowC inc (partsN L m) ++ [iw (m : Int)])) (hg : W.grownBy W' v.ownBlock) (hat : v'.ownBlock = v.ownBlock ∨ v'.ownBlock = some W.heap.size) : Pn w g vs L v' (m + 1) W' := by
 have hk := grown_kept hg
 have e : partsN L (m + 1) = partsN L m ++ [m] := by rw [parts_succ, hl]; rfl
 refine ⟨below_own h.bel h.bel.size h.own hg, ⟨h.s.len, by rw [hk.block g (lt_blk h.s.x) h.ng]; exact h.s.x, h.s.gB, fun i hi => own_kept (h.s.ins i hi) hk fun k hv e => h.nv i hi k hv e, h.s.ag, h.s.ap⟩, ?_, ?_, ?_⟩
 ·rw [e, List.length_append, rowC_append, rowC_one]
  exact h2
 ·rcases hat with e | e
  ·rw [e]; exact h.ng
  ·rw [e]
   intro e2
   injection e2 with e2
   exact absurd (lt_blk h.s.x) (by omega)
 ·intro i hi k hv
  rcases hat with e | e
  ·rw [e]; exact h.nv i hi k hv
  ·rw [e]
   intro e2
   injection e2 with e2
   have := (World.ownsRow.lt (h.s.ins i hi) k hv).2
   omega
theorem parts89 (h : SC f N X w) (ha : X.act = true) (hn : 1 ≤ X.nsh ∧ X.nsh ≤ 8) (hw : X.ws.length ≤ 1000) : Calls Tryz.prog 89 #[pz f.sb] w fun r w' =>
  (∃ v, r = .returned v ∧ w'.ownsRow w.heap.size 3 1 v (partsN (bt.parts X.ws X.nsh) (bt.parts X.ws X.nsh).length).length (rowC inc (partsN (bt.parts X.ws X.nsh) (bt.parts X.ws X.nsh).length))) ∧ Below w.heap.size w w' := by
 obtain ⟨ao, cap, hv, h1, h2⟩ := WsAt.shape (rw_own (h.tx ha).2)
 have SN : Hid (∀ W, Below w.heap.size w W → W.cell? ⟨f.sb, 6, none⟩ = some (pz f.tb) ∧ W.cell? ⟨f.sb, 1, none⟩ = some (iw (X.nsh : Int)) ∧ W.cell? ⟨f.tb, 4, none⟩ = some (.slice ao X.ws.length cap)) := fun W hb => by
  have h' := h.on hb
  refine ⟨block_cell h'.blk (by simp [sbA, vtV, ha]), block_cell h'.blk rfl, ?_⟩
  rw [← hv]
  exact block_cell (h'.tx ha).1 rfl
 have C : Hid (∀ W, Below w.heap.size w W → Calls Tryz.prog 90 #[.slice ao X.ws.length cap, iw (X.nsh : Int)] W fun r w' => (∃ g vs, r = .returned (.slice (some ⟨g, 0, none⟩) (bt.parts X.ws X.nsh).length (bt.parts X.ws X.nsh).length) ∧ Pla.Sm W.heap.size g vs (bt.parts X.ws X.nsh) w') ∧ Below W.heap.size W w') := fun W hb => by
  have hws : WsAt W.heap.size (.slice ao X.ws.length cap) X.ws W := by rw [← hv]; exact rw_own ((h.on hb).tx ha).2
  refine (Pla.split15 X.ws ao cap (X.nsh : Int) W hw hws).mono ?_
  rintro r w' ⟨⟨v, rfl, -, h3⟩, h4⟩
  obtain ⟨g, vs, rfl, h5⟩ := h3 (by omega)
  exact ⟨⟨g, vs, rfl, h5⟩, h4⟩
 have HL : Hid ((bt.parts X.ws X.nsh).length ≤ 8) := Pla.split_len X.ws (X.nsh : Int)
 generalize bt.parts X.ws X.nsh = L at *
 clear h ha hn hw hv
 have HD : Hid (Below w.heap.size w w.drew) := (Below.refl _ _).drew
 go_enter Tryz.func89, Tryz.ntmps89
 go_upto_region 2 with fail
 go_region_held3 (fun W => W.cell? ⟨f.sb, 6, none⟩ = some (pz f.tb) ∧ W.cell? ⟨f.sb, 1, none⟩ = some (iw (X.nsh : Int)) ∧ W.cell? ⟨f.tb, 4, none⟩ = some (.slice ao X.ws.length cap))
  (first | exact SN.out _ HD.out | exact SN.out _ HB1.out)
  (first
  | (go_at_call 90; refine (C.out _ HD.out).mono ?_; rintro e w1 ⟨⟨g, vs, rfl, hs1⟩, hb1⟩; have HB1 : Hid (Below w.heap.size w w1) := HD.out.trans (hb1.mono HD.out.size); have HS1 : Hid (Pla.Sm w.heap.size g vs L w1) := hs1; clear hs1 hb1))
 rename_i hHeld
 have HP : Hid (Pn w g vs L sy 0 w1) := ⟨HB1.out, HS1.out, own_nil _ _ _ _, (fun e => by cases e), (fun i hi k hv e => by cases e)⟩
 clear hHeld SN C HD HB1 HS1
 go_wp2_with fail
 have hL8 : L.length ≤ 8 := HL.out
 obtain ⟨i3, jin, j1, j2, j3⟩ := info_parts info3
 go_loopw [19, 3] (fun i v wr => ∃ m : Nat, m ≤ L.length ∧ i = iw m ∧ Hid (Pn w g vs L v m wr)) (fun i _ _ => L.length - (intOf i).toNat)
 case atStart => exact ⟨0, Nat.zero_le _, rfl, HP.out⟩
 case round =>
  obtain ⟨m, hm, rfl, HE⟩ := hrel
  clear HP
  by_cases hml : m < L.length
  ·have hml1 : (m : Int) < L.length := by omega
   have HM : Hid (m + 1 ≤ L.length) := hml
   have hc : wr.cell? ⟨g, m, none⟩ = some (vs.getD m Pla.nv) := HE.out.s.cell hml
   obtain ⟨sa, scp, hsv, hs1, hs2⟩ := WsAt.shape (rw_own (HE.out.s.ins m hml))
   rw [hsv] at hc
   cases hz : (L.getD m []).isEmpty
   ·have hlen : ¬ ((L.getD m []).length : Int) ≤ 0 := by
     have : (L.getD m []) ≠ [] := fun e => by rw [e] at hz; cases hz
     have := List.length_pos_iff.2 this
     omega
    have hlen2 : (0 : Int) < ((L.getD m []).length : Int) := by omega
    have HZ : Hid ((L.getD m []).isEmpty = false) := hz
    obtain ⟨sv, scv, rfl, -, -, -, -⟩ := rw_own HE.out.own
    have H5 : Hid (Pn w g vs L (.slice sv (partsN L m).length scv) m (wr.alloc (.cells #[iw (m : Int)] 3))) := HE.out.on (al _)
    have R5 : Hid (RwAt (wr.heap.size + 1) 1 (.slice (some ⟨wr.heap.size, 0, none⟩) 1 1) 1 [iw (m : Int)] (wr.alloc (.cells #[iw (m : Int)] 3))) := by
     refine ⟨_, 1, rfl, rfl, Nat.le_refl _, by omega, fun _ => ⟨_, 0, rfl, fun _ => by omega, fun j u hj => ?_⟩⟩
     rw [Nat.zero_add]
     exact block_cell (heap_alloc_new _ _) (by simpa using hj)
    have HO : Hid (Ow w.heap.size 3 1 (.slice sv (partsN L m).length scv) (partsN L m).length (rowC inc (partsN L m)) (wr.heap.size + 1) (.slice (some ⟨wr.heap.size, 0, none⟩) 1 1) 1 [iw (m : Int)] (wr.alloc (.cells #[iw (m : Int)] 3))) := ⟨H5.out.own, R5.out, (fun u hu => by rw [List.mem_singleton] at hu; subst hu; rfl), H5.out.bel.size, by have := parts_len L m; omega⟩
    have HPU : Hid _ := fun (v' : Value) (w6 : World) h1 h2 h3 => H5.out.push (v' := v') (W' := w6) HZ.out h1 h2 h3
    generalize (partsN L m).length = pl at *
    generalize rowC inc (partsN L m) = pc at *
    generalize (L.getD m []).length = rl at *
    clear R5 HE hsv hz H5
    go_wp2_with (refine wpList_append_rw HO.out Tryz.underlying130 jin j1 j2 j3 rfl (by decide) (by decide) (.tmp 27) (.tmp 29) rfl rfl rfl rfl ?_; intro v' w6 hown hg hat; have H6 : Hid _ := HPU.out _ _ hown hg hat; clear hown hg hat HPU)
    go_roundw
    case rel => exact ⟨m + 1, HM.out, by go_num, H6.out⟩
    case measure => simp [intOf]; omega
   ·have hlen : ((L.getD m []).length : Int) ≤ 0 := by
     have : (L.getD m []) = [] := List.isEmpty_iff.1 hz
     rw [this]
     simp
    have hlen2 : ¬ (0 : Int) < ((L.getD m []).length : Int) := by omega
    have HZ : Hid (Pn w g vs L u3 (m + 1) wr) := by
     have e : partsN L (m + 1) = partsN L m := by rw [parts_succ, hz]; rfl
     exact ⟨HE.out.bel, HE.out.s, by rw [e]; exact HE.out.own, HE.out.ng, HE.out.nv⟩
    generalize (L.getD m []).length = rl at *
    clear hz hsv HE
    go_wp2_with fail
    go_roundw
    case rel => exact ⟨m + 1, HM.out, by go_num, HZ.out⟩
    case measure => simp [intOf]; omega
  ·have hml1 : ¬ (m : Int) < L.length := by omega
   have hme : m = L.length := by omega
   have HF : Hid (wr.ownsRow w.heap.size 3 1 u3 (partsN L L.length).length (rowC inc (partsN L L.length)) ∧ Below w.heap.size w wr) := by
    rw [← hme]
    exact ⟨HE.out.own, HE.out.bel⟩
   clear HE hme
   go_wp2_with fail
   go_ret
   exact ⟨⟨_, rfl, HF.out.1⟩, HF.out.2⟩
end Go.Proofs.YtkdkgdollmmcnaaGreat
