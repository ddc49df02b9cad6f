/-
  Writes in rows; the document's leaves: a stamp, a key, writes: are they right?
-/
import Derived.Test.YtmgjlpgjjeknpaaEq
import Derived.Test.YtmgjlpgjjeknpaaGr
import Derived.Test.YtmgjlpgjjeknpaaRefWr
import Derived.BigQuiet
namespace Go.Proofs.Ytmgjlpgjjeknpaa
open Go.RowKit

theorem block_set {w : World} {b j : Nat} {cs : Array Value} {ty : TypeId} (u : Value) (h : w.heap[b]? = some (.cells cs ty (0, 0))) : (w.setCell ⟨b, j, none⟩ u).heap[b]? = some (.cells (cs.setIfInBounds j u) ty (0, 0)) := by
  show (w.heap.modify b _)[b]? = _
  rw [Array.getElem?_modify, if_pos rfl, h]
  rfl
theorem block_cell {w : World} {b j : Nat} {cs : Array Value} {ty : TypeId} {u : Value} (h : w.heap[b]? = some (.cells cs ty (0, 0))) (hj : cs[j]? = some u) : w.cell? ⟨b, j, none⟩ = some u := by
  unfold World.cell?
  rw [h]
  exact hj
theorem block_frozen {w : World} {b : Nat} {cs : Array Value} {ty : TypeId} (h : w.heap[b]? = some (.cells cs ty (0, 0))) (j : Nat) : w.frozen? ⟨b, j, none⟩ = false := by
  unfold World.frozen?
  rw [h]
  simp
theorem set_kept' (w : World) (b j : Nat) (u : Value) : Kept (fun c => c = b) w (w.setCell ⟨b, j, none⟩ u) := by
  have hb : Below b w (w.setCell ⟨b, j, none⟩ u) := (Below.refl b w).setCell (p := ⟨b, j, none⟩) (Nat.le_refl b) u
  exact ⟨hb.os, hb.tape, hb.output, hb.size, fun k _ hF => Below.heap_setCell w ⟨b, j, none⟩ u k hF⟩
theorem below_own {base e size : Nat} {v : Value} {n : Nat} {cs : List Value} {a w w' : World} (hb : Below base a w) (hs : base ≤ w.heap.size) (hI : w.ownsRow base e size v n cs) (hg : w.grownBy w' v.ownBlock) : Below base a w' :=
  hb.grown hg hs fun k hk => (World.ownsRow.lt hI k hk).1
theorem own_nil (base e size : Nat) (w : World) : w.ownsRow base e size (.slice none 0 0) 0 [] := World.ownsRow_nil w base e size
theorem below_of {a b : Nat} {w w' : World} (e : a = b) (h : Below a w w') : Below b w w' := e ▸ h
theorem size_al (w : World) (o : Obj) : (w.alloc o).heap.size = w.heap.size + 1 := by simp
theorem ret_bool {a b : Bool} (h : a = b) : Ending.returned (.bool a) = .returned (.bool b) := by rw [h]
def rightB (p l : Int) : Bool := decide (p ≤ 281474976710656 ∧ l ≤ 4095)

set_option maxHeartbeats 400000 in
set_option maxRecDepth 100000 in
theorem rightR (p l : Int) (w : World) :
    Calls Try.prog 46 #[.agg #[.int .u64 p, .int .u32 l]] w fun e w' => e = .returned (.bool (rightB p l)) ∧ Below w.heap.size w w' := by
  by_cases h1 : p ≤ 281474976710656 <;> by_cases h2 : l ≤ 4095
  all_goals
    go_enter Try.func46, Try.ntmps46
    go_wp2
    go_ret
    exact ⟨ret_bool (by simp [rightB, h1, h2]), (Below.refl _ _).alloc (Nat.le_refl _) _⟩

theorem key32 (k : List UInt8) (w : World) : Calls Try.prog 47 #[.string (bs k)] w fun e w' => e = .returned (.bool (kOk k)) ∧ w' = w := by
  have hs := bs_size k
  by_cases h1 : 1 ≤ k.length
  · by_cases h2 : k.length ≤ 32
    · have hk : kOk k = true := by simp [kOk, h1, h2]
      rw [hk]
      have h1' : (1 : Int) ≤ k.length := by omega
      have h2' : (k.length : Int) ≤ 32 := by omega
      clear hk
      go_enter Try.func47, Try.ntmps47
      go_wp2_with fail
      go_ret
      exact ⟨rfl, rfl⟩
    · have hk : kOk k = false := by simp [kOk, h2]
      rw [hk]
      have h1' : (1 : Int) ≤ k.length := by omega
      have h2' : ¬ (k.length : Int) ≤ 32 := by omega
      clear hk
      go_enter Try.func47, Try.ntmps47
      go_wp2_with fail
      go_ret
      exact ⟨rfl, rfl⟩
  · have hk : kOk k = false := by simp [kOk, h1]
    rw [hk]
    have h1' : ¬ (1 : Int) ≤ k.length := by omega
    clear hk
    go_enter Try.func47, Try.ntmps47
    go_wp2_with fail
    go_ret
    exact ⟨rfl, rfl⟩

def wrc (x : Wr) : List Value := [.string (bs x.key), .string (bs x.val), .bool x.dead]
theorem wrc_len (x : Wr) : (wrc x).length = 3 := rfl
theorem wrc_one : ∀ x, ∀ u ∈ wrc x, u.oneCell' = true := fun x u hu => by
  simp only [wrc, List.mem_cons, List.not_mem_nil, or_false] at hu
  rcases hu with rfl | rfl | rfl <;> rfl
def dw : Wr := ⟨[], [], false⟩
/-- A write's three cells. -/
structure WtAt (w : World) (b off : Nat) (x : Wr) : Prop where
  c0 : w.cell? ⟨b, off, none⟩ = some (.string (bs x.key))
  c1 : w.cell? ⟨b, off + 1, none⟩ = some (.string (bs x.val))
  c2 : w.cell? ⟨b, off + 2, none⟩ = some (.bool x.dead)
/-- Writes at a slice. -/
def WsAt (B : Nat) (v : Value) (L : List Wr) (w : World) : Prop := RwAt B 3 v L.length (rowC wrc L) w
theorem WsAt.el {B : Nat} {ao : Option Addr} {cap : Nat} {L : List Wr} {w : World} (h : WsAt B (.slice ao L.length cap) L w) {i : Nat} (hi : i < L.length) : ∃ b off, ao = some ⟨b, off, none⟩ ∧ WtAt w b (off + i * 3) (L.getD i dw) := by
  obtain ⟨b, off, e, hc⟩ := rowC_el wrc_len dw (by omega) rfl h hi
  exact ⟨b, off, e, hc 0 _ (by omega) rfl, hc 1 _ (by omega) rfl, hc 2 _ (by omega) rfl⟩
theorem WsAt.shape {B : Nat} {v : Value} {L : List Wr} {w : World} (h : WsAt B v L w) : ∃ ao cap, v = .slice ao L.length cap ∧ L.length ≤ cap ∧ cap ≤ 9223372036854775807 := by
  obtain ⟨ao, cap, e, _, h1, h2, _⟩ := h
  exact ⟨ao, cap, e, h1, h2⟩
theorem WsAt.on {B : Nat} {v : Value} {L : List Wr} {w w' : World} (h : WsAt B v L w) (hb : Below B w w') : WsAt B v L w' := RwAt.on h hb

/-- The first m writes are right, and no two of them of one key. -/
def RtN (L : List Wr) (m : Nat) : Prop := (∀ i, i < m → wOk (L.getD i dw) = true) ∧ ∀ i j, i < j → j < m → (L.getD i dw).key ≠ (L.getD j dw).key
theorem getD_memW {L : List Wr} {i : Nat} (h : i < L.length) : L.getD i dw ∈ L := by
  rw [List.getD, List.getElem?_eq_getElem h]
  exact List.getElem_mem h
theorem right_bad {L : List Wr} {m : Nat} (h : m < L.length) (hw : wOk (L.getD m dw) = false) : rightW L = false := by
  unfold rightW
  have : L.all wOk = false := by
    rw [List.all_eq_false]
    exact ⟨_, getD_memW h, by rw [hw]; simp⟩
  rw [this]
  simp
theorem nodup_keys {L : List Wr} : (L.map (·.key)).Nodup ↔ ∀ i j, i < j → j < L.length → (L.getD i dw).key ≠ (L.getD j dw).key := by
  rw [List.nodup_iff_pairwise_ne, List.pairwise_map, List.pairwise_iff_getElem]
  refine ⟨fun h i j hij hj => ?_, fun h i j hi hj hij => ?_⟩
  · have := h i j (by omega) hj hij
    simpa [List.getD, hj, show i < L.length by omega] using this
  · have := h i j hij hj
    simpa [List.getD, hj, hi] using this
theorem right_twice {L : List Wr} {k m : Nat} (hk : k < m) (h : m < L.length) (he : (L.getD k dw).key = (L.getD m dw).key) : rightW L = false := by
  unfold rightW
  have : decide ((L.map (·.key)).Nodup) = false := by
    rw [decide_eq_false_iff_not, nodup_keys]
    exact fun hn => hn k m hk h he
  rw [this]
  simp
theorem right_end {L : List Wr} (h : RtN L L.length) : rightW L = (decide (1 ≤ L.length) && decide (L.length ≤ 16)) := by
  unfold rightW
  have h1 : L.all wOk = true := by
    rw [List.all_eq_true]
    intro x hx
    obtain ⟨i, hi, rfl⟩ := List.mem_iff_getElem.1 hx
    have := h.1 i hi
    simpa [List.getD, hi] using this
  have h2 : decide ((L.map (·.key)).Nodup) = true := by
    rw [decide_eq_true_eq, nodup_keys]
    exact h.2
  rw [h1, h2]
  simp
theorem RtN.next {L : List Wr} {m : Nat} (h : RtN L m) (hw : wOk (L.getD m dw) = true) (hk : ∀ i, i < m → (L.getD i dw).key ≠ (L.getD m dw).key) : RtN L (m + 1) := by
  refine ⟨fun i hi => ?_, fun i j hij hj => ?_⟩
  · by_cases e : i = m
    · subst e; exact hw
    · exact h.1 i (by omega)
  · by_cases e : j = m
    · subst e; exact hk i hij
    · exact h.2 i j hij (by omega)

set_option maxHeartbeats 1600000 in
set_option maxRecDepth 100000 in
theorem right25 (B : Nat) (L : List Wr) (v : Value) (w : World) (h : WsAt B v L w) (hB : B ≤ w.heap.size) :
    Calls Try.prog 48 #[v] w fun e w' => e = .returned (.bool (rightW L)) ∧ Below w.heap.size w w' := by
  obtain ⟨ao, cap, rfl, hlc, hcm⟩ := h.shape
  have HE : Hid (∀ W, Below w.heap.size w W → ∀ i, i < L.length → ∃ b off, ao = some ⟨b, off, none⟩ ∧ WtAt W b (off + i * 3) (L.getD i dw)) := fun W hW i hi => (h.on (hW.mono hB)).el hi
  have HBad : Hid (∀ m, m < L.length → wOk (L.getD m dw) = false → rightW L = false) := fun m hm hw => right_bad hm hw
  have HTw : Hid (∀ k m, k < m → m < L.length → (L.getD k dw).key = (L.getD m dw).key → rightW L = false) := fun k m hk hm he => right_twice hk hm he
  have HEnd : Hid (RtN L L.length → rightW L = (decide (1 ≤ L.length) && decide (L.length ≤ 16))) := right_end
  have CK : Hid (∀ k W, Calls Try.prog 47 #[.string (bs k)] W fun e w' => e = .returned (.bool (kOk k)) ∧ w' = W) := fun k W => key32 k W
  have hL9 : L.length < 9223372036854775808 := by omega
  generalize rightW L = y at *
  clear h hB hlc hcm
  go_enter Try.func48, Try.ntmps48
  go_wp2_with fail
  go_loopw [3] (fun i wr => Below w.heap.size w wr ∧ ∃ m : Nat, m ≤ L.length ∧ i = .int .i64 m ∧ RtN L m) (fun i _ => L.length - (intOf i).toNat)
  case atStart => exact ⟨Below.refl _ _, 0, Nat.zero_le _, rfl, fun _ h => by omega, fun _ _ _ h => by omega⟩
  case round =>
    obtain ⟨hbr, m, hm, rfl, hrt⟩ := hrel
    have HBr : Hid (Below w.heap.size w wr) := hbr
    have HRt : Hid (RtN L m) := hrt
    by_cases hml : m < L.length
    · obtain ⟨b, off, rfl, e0, e1, e2⟩ := HE.out wr hbr m hml
      have hml' : (m : Int) < L.length := by omega
      have HEm : Hid (∀ W, Below w.heap.size w W → W.cell? ⟨b, off + m * 3, none⟩ = some (.string (bs (L.getD m dw).key))) := fun W hW => by
        obtain ⟨b', off', e, h0, _⟩ := HE.out W hW m hml
        simp only [Option.some.injEq, Addr.mk.injEq] at e
        obtain ⟨rfl, rfl, _⟩ := e
        exact h0
      have HEn : Hid (∀ W, Below w.heap.size w W → ∀ n, n < L.length → W.cell? ⟨b, off + n * 3, none⟩ = some (.string (bs (L.getD n dw).key))) := fun W hW n hn => by
        obtain ⟨b', off', e, h0, _⟩ := HE.out W hW n hn
        simp only [Option.some.injEq, Addr.mk.injEq] at e
        obtain ⟨rfl, rfl, _⟩ := e
        exact h0
      have HBm : Hid _ := HBad.out m hml
      have HTm : Hid (∀ k, k < m → (L.getD k dw).key = (L.getD m dw).key → y = false) := fun k hk => HTw.out k m hk hml
      have HNx : Hid (wOk (L.getD m dw) = true → (∀ i, i < m → (L.getD i dw).key ≠ (L.getD m dw).key) → RtN L (m + 1)) := fun h1 h2 => HRt.out.next h1 h2
      generalize L.getD m dw = x at *
      obtain ⟨xk, xv, xd⟩ := x
      dsimp only at e0 e1 e2 HTm HNx HEm
      have hs := bs_size xv
      have q0 : (bs xv).toList.isEmpty = xv.isEmpty := by rw [bs_list]
      have CX : Hid (1 = 1 → _) := fun _ => CK.out xk wr
      have HOk : Hid (∀ kb, kOk xk = kb → ∀ eb, xv.isEmpty = eb → wOk ⟨xk, xv, xd⟩ = (kb && decide (xv.length ≤ 256) && !(xd && !eb))) := fun kb h1 eb h2 => by subst h1 h2; rfl
      obtain ⟨kb, hkb⟩ : ∃ kb, kOk xk = kb := ⟨_, rfl⟩
      obtain ⟨eb, heb⟩ : ∃ eb, xv.isEmpty = eb := ⟨_, rfl⟩
      have hwo := HOk.out kb hkb eb heb
      rw [hkb] at CX
      rw [heb] at q0
      clear hkb heb HOk hbr hrt
      cases kb
      · have hy : y = false := HBm.out (by rw [hwo]; simp)
        subst hy
        clear hwo
        go_wp2_with fail
        refine (CX.out (by trivial)).mono ?_
        rintro e w1 ⟨rfl, rfl⟩
        go_wp2_with fail
        go_ret
        exact ⟨rfl, HBr.out⟩
      · by_cases hv : (256 : Int) < xv.length
        · have hy : y = false := HBm.out (by rw [hwo]; simp; omega)
          subst hy
          clear hwo
          go_wp2_with fail
          refine (CX.out (by trivial)).mono ?_
          rintro e w1 ⟨rfl, rfl⟩
          go_wp2_with fail
          go_ret
          exact ⟨rfl, HBr.out⟩
        · by_cases hd : xd = true ∧ eb = false
          · obtain ⟨rfl, rfl⟩ := hd
            have hy : y = false := HBm.out (by rw [hwo]; simp)
            subst hy
            clear hwo
            go_wp2_with fail
            refine (CX.out (by trivial)).mono ?_
            rintro e w1 ⟨rfl, rfl⟩
            go_wp2_with fail
            go_ret
            exact ⟨rfl, HBr.out⟩
          · have hwt : wOk ⟨xk, xv, xd⟩ = true := by
              rw [hwo]
              have : decide (xv.length ≤ 256) = true := by simp; omega
              rw [this]
              cases xd <;> cases eb <;> simp at hd ⊢
            have HN2 : Hid _ := HNx.out hwt
            have harm : xd = false ∨ xd = true ∧ eb = true := by cases xd <;> cases eb <;> simp at hd ⊢
            clear hwo hwt hd HNx HBm
            rcases harm with rfl | ⟨rfl, rfl⟩
            all_goals
              go_wp2_with fail
              refine (CX.out (by trivial)).mono ?_
              rintro e w1 ⟨rfl, rfl⟩
              go_wp2_with fail
              go_loopw [4] (fun j w2 => Below w.heap.size w w2 ∧ ∃ n : Nat, n ≤ m ∧ j = .int .i64 n ∧ ∀ i, i < n → (L.getD i dw).key ≠ xk) (fun j _ => m - (intOf j).toNat)
              case atStart => exact ⟨HBr.out, 0, Nat.zero_le _, rfl, fun _ h => by omega⟩
              case round =>
                obtain ⟨hb2, n, hn, rfl, hne⟩ := hrel
                have HB2 : Hid (Below w.heap.size w _) := hb2
                have HNe : Hid (∀ i, i < n → (L.getD i dw).key ≠ xk) := hne
                by_cases hnm : n < m
                · have hnm' : (n : Int) < m := by omega
                  have hnl : (n : Int) < L.length := by omega
                  have f0 := HEm.out wr hb2
                  have g0 := HEn.out wr hb2 n (by omega)
                  have HTn : Hid _ := HTm.out n hnm
                  have HNn : Hid ((L.getD n dw).key ≠ xk → ∀ i, i < n + 1 → (L.getD i dw).key ≠ xk) := fun h9 i hi => by
                    by_cases e : i = n
                    · subst e; exact h9
                    · exact HNe.out i (by omega)
                  generalize (L.getD n dw).key = kn at *
                  have q1 := bs_beq kn xk
                  have HF : Hid (wr.cell? ⟨b, off + n * 3, none⟩ = some (.string (bs kn)) ∧ wr.cell? ⟨b, off + m * 3, none⟩ = some (.string (bs xk))) := ⟨g0, f0⟩
                  clear hb2 hne
                  obtain ⟨z, hz⟩ : ∃ z, (kn == xk) = z := ⟨_, rfl⟩
                  rw [hz] at q1
                  go_wp2_with fail
                  go_region_held3 (fun W => W.cell? ⟨b, off + n * 3, none⟩ = some (.string (bs kn)) ∧ W.cell? ⟨b, off + m * 3, none⟩ = some (.string (bs xk)))
                    (exact HF.out) (fail)
                  rename_i hHeld
                  clear hHeld f0 g0 HF
                  cases z
                  · have HN3 : Hid _ := HNn.out (by simpa using hz)
                    clear hz
                    go_wp2_with fail
                    go_roundw
                    case rel => exact ⟨HB2.out.drew, n + 1, by omega, by go_num, HN3.out⟩
                    case measure => simp [intOf]; omega
                  · have hy : y = false := HTn.out (by simpa using hz)
                    subst hy
                    clear hz
                    go_wp2_with fail
                    go_ret
                    exact ⟨rfl, HB2.out.drew⟩
                · have hnm' : ¬ (n : Int) < m := by omega
                  have HR1 : Hid (RtN L (m + 1)) := HN2.out (fun i hi => HNe.out i (by omega))
                  clear hb2 hne
                  go_wp2_with fail
                  go_roundw
                  case rel => exact ⟨HB2.out, m + 1, by omega, by go_num, HR1.out⟩
                  case measure => simp [intOf]; omega
    · have hml' : ¬ (m : Int) < L.length := by omega
      have hy := HEnd.out (by have : m = L.length := by omega
                              exact this ▸ HRt.out)
      subst hy
      by_cases h1 : 1 ≤ L.length
      · have h1' : (1 : Int) ≤ L.length := by omega
        by_cases h2 : L.length ≤ 16
        · have h2' : (L.length : Int) ≤ 16 := by omega
          clear hbr hrt
          go_wp2_with fail
          go_ret
          exact ⟨by first | rfl | simp, HBr.out⟩
        · have h2' : ¬ (L.length : Int) ≤ 16 := by omega
          clear hbr hrt
          go_wp2_with fail
          go_ret
          exact ⟨by first | rfl | simp, HBr.out⟩
      · have h1' : ¬ (1 : Int) ≤ L.length := by omega
        clear hbr hrt
        go_wp2_with fail
        go_ret
        exact ⟨by first | rfl | simp, HBr.out⟩
end Go.Proofs.Ytmgjlpgjjeknpaa
