/-
  The program's Write: transactions, writes, pairs, and lists of them.
-/
import Derived.Test.YtmldgfepnmencaaLg
import Derived.Shelf.Abstract
namespace Go.Proofs.Ytmldgfepnmencaa
open Go.RowKit Go.Sort Go.Shelf

/-- The Writer's Text, told by the text's form. -/
theorem text19 (pb : Nat) (l s : List UInt8) (w : World) (hw : WrAt pb l w) (hl : l.length + 9 + s.length ≤ 140737488355328) : Calls Try.prog 42 #[.pointer (some ⟨pb, 0, none⟩), .string (bs s)] w fun e w' => e = .returned (.tuple #[]) ∧ WrAt pb (l ++ textForm s) w' ∧ KeptW pb w w' := by
  have := text12 pb l (bs s) w hw (by rw [bs_size]; exact hl)
  rw [bs_size, bs_data] at this
  exact this
/-- A Writer, and a box of the call's own. -/
structure Pz (w : World) (pb b : Nat) (cs : Array Value) (ty : TypeId) (L : List UInt8) (W : World) : Prop where
  wr : WrAt pb L W
  kept : KeptW pb w W
  x : W.heap[b]? = some (.cells cs ty (0, 0))
  ne : b ≠ pb
theorem pz_new {w : World} {pb : Nat} {L : List UInt8} (h : WrAt pb L w) (cs : Array Value) (ty : TypeId) : Pz w pb w.heap.size cs ty L (w.alloc (.cells cs ty)) :=
  ⟨h.alloc _, (KeptW.refl pb w).alloc (by have := h.lt; omega) _, heap_alloc_new w _, by have := h.lt; omega⟩
theorem Pz.go {w W W' : World} {pb b : Nat} {cs : Array Value} {ty : TypeId} {L L' : List UInt8} (h : Pz w pb b cs ty L W) (h5 : ty ≠ 5) (hw : WrAt pb L' W') (hk : KeptW pb W W') : Pz w pb b cs ty L' W' :=
  ⟨hw, h.kept.trans hk, hk.other b _ h.x h.ne (fun cs fz hh => by injection hh with _ h2 _; exact h5 h2), h.ne⟩
set_option maxHeartbeats 3200000 in
set_option maxRecDepth 100000 in
theorem tn45 (pb : Nat) (l : List UInt8) (c n : Nat) (w : World) (hw : WrAt pb l w) (hl : l.length ≤ 100000) (hc : c < 4294967296 ∧ n < 4294967296) :
    Calls Try.prog 45 #[.pointer (some ⟨pb, 0, none⟩), .agg #[.int .u32 (c : Int), .int .u32 (n : Int)]] w fun e w' => e = .returned (.tuple #[]) ∧ WrAt pb (l ++ tnForm ⟨c, n⟩) w' ∧ KeptW pb w w' := by
  have H0 : Hid _ := pz_new hw #[.int .u32 (c : Int), .int .u32 (n : Int)] 24
  obtain ⟨W1, hW1⟩ : ∃ W1, w.alloc (.cells #[.int .u32 (c : Int), .int .u32 (n : Int)] 24) = W1 := ⟨_, rfl⟩
  obtain ⟨b, hb⟩ : ∃ b, w.heap.size = b := ⟨_, rfl⟩
  have P0 : Hid (Pz w pb b #[.int .u32 (c : Int), .int .u32 (n : Int)] 24 l W1) := by rw [← hb, ← hW1]; exact H0.out
  clear H0 hw
  have p0 : W1.cell? ⟨b, 0, none⟩ = some (.int .u32 (c : Int)) := block_cell P0.out.x rfl
  go_enter Try.func45, Try.ntmps45
  go_wp2_with fail
  refine (num10 pb l c _ (by omega) P0.out.wr (by omega)).mono ?_
  rintro e w2 ⟨rfl, hw, hk⟩
  clear hW1 hb
  obtain ⟨L1, hL1⟩ : ∃ L, l ++ numForm c = L := ⟨_, rfl⟩
  rw [hL1] at hw
  have HL1 : Hid (l ++ numForm c = L1) := hL1
  have hl1 : L1.length ≤ 100009 := by
    have h0 := congrArg List.length hL1
    rw [List.length_append] at h0
    have := nf_len (n := c) (by omega)
    omega
  have P1 : Hid (Pz w pb b #[.int .u32 (c : Int), .int .u32 (n : Int)] 24 L1 w2) := P0.out.go (by decide) hw hk
  clear hw hk hL1 p0 P0
  have p1 : w2.cell? ⟨b, 1, none⟩ = some (.int .u32 (n : Int)) := block_cell P1.out.x rfl
  go_wp2_with fail
  refine (num10 pb L1 n _ (by omega) P1.out.wr (by omega)).mono ?_
  rintro e w3 ⟨rfl, hw, hk⟩
  obtain ⟨L2, hL2⟩ : ∃ L, L1 ++ numForm n = L := ⟨_, rfl⟩
  rw [hL2] at hw
  have HL2 : Hid (L1 ++ numForm n = L2) := hL2
  have hl2 : L2.length ≤ 100018 := by
    have h0 := congrArg List.length hL2
    rw [List.length_append] at h0
    have := nf_len (n := n) (by omega)
    omega
  have P2 : Hid (Pz w pb b #[.int .u32 (c : Int), .int .u32 (n : Int)] 24 L2 w3) := P1.out.go (by decide) hw hk
  clear hw hk hL2 p1 P1
  go_wp2_with fail
  go_end0
  refine ⟨rfl, ?_, P2.out.kept⟩
  have h := P2.out.wr
  rw [← HL2.out, ← HL1.out] at h
  simpa only [tnForm, List.append_assoc] using h
set_option maxHeartbeats 3200000 in
set_option maxRecDepth 100000 in
theorem wr48 (pb : Nat) (l : List UInt8) (x : Wr) (w : World) (hw : WrAt pb l w) (hl : l.length ≤ 100000) (hx : x.key.length ≤ 32 ∧ x.val.length ≤ 256) :
    Calls Try.prog 48 #[.pointer (some ⟨pb, 0, none⟩), .agg #[.string (bs x.key), .string (bs x.val), .bool x.dead]] w fun e w' => e = .returned (.tuple #[]) ∧ WrAt pb (l ++ wrForm x) w' ∧ KeptW pb w w' := by
  have H0 : Hid _ := pz_new hw #[.string (bs x.key), .string (bs x.val), .bool x.dead] 65
  obtain ⟨W1, hW1⟩ : ∃ W1, w.alloc (.cells #[.string (bs x.key), .string (bs x.val), .bool x.dead] 65) = W1 := ⟨_, rfl⟩
  obtain ⟨b, hb⟩ : ∃ b, w.heap.size = b := ⟨_, rfl⟩
  have P0 : Hid (Pz w pb b #[.string (bs x.key), .string (bs x.val), .bool x.dead] 65 l W1) := by rw [← hb, ← hW1]; exact H0.out
  clear H0 hw
  have p0 : W1.cell? ⟨b, 0, none⟩ = some (.string (bs x.key)) := block_cell P0.out.x rfl
  go_enter Try.func48, Try.ntmps48
  go_wp2_with fail
  refine (text19 pb l x.key _ P0.out.wr (by omega)).mono ?_
  rintro e w2 ⟨rfl, hw, hk⟩
  clear hW1 hb
  obtain ⟨L1, hL1⟩ : ∃ L, l ++ textForm x.key = L := ⟨_, rfl⟩
  rw [hL1] at hw
  have HL1 : Hid (l ++ textForm x.key = L1) := hL1
  have hl1 : L1.length ≤ 100041 := by
    have h0 := congrArg List.length hL1
    rw [List.length_append] at h0
    have := tx_len hx.1 (by decide)
    omega
  have P1 : Hid (Pz w pb b #[.string (bs x.key), .string (bs x.val), .bool x.dead] 65 L1 w2) := P0.out.go (by decide) hw hk
  clear hw hk hL1 p0 P0
  have p2 : w2.cell? ⟨b, 2, none⟩ = some (.bool x.dead) := block_cell P1.out.x rfl
  go_wp2_with fail
  refine (flag14 pb L1 x.dead _ P1.out.wr (by omega)).mono ?_
  rintro e w3 ⟨rfl, hw, hk⟩
  obtain ⟨L2, hL2⟩ : ∃ L, L1 ++ flagForm x.dead = L := ⟨_, rfl⟩
  rw [hL2] at hw
  have HL2 : Hid (L1 ++ flagForm x.dead = L2) := hL2
  have hl2 : L2.length ≤ 100042 := by
    have h0 := congrArg List.length hL2
    rw [List.length_append] at h0
    have := fl_len x.dead
    omega
  have P2 : Hid (Pz w pb b #[.string (bs x.key), .string (bs x.val), .bool x.dead] 65 L2 w3) := P1.out.go (by decide) hw hk
  clear hw hk hL2 p2 P1
  have p1 : w3.cell? ⟨b, 1, none⟩ = some (.string (bs x.val)) := block_cell P2.out.x rfl
  go_wp2_with fail
  refine (text19 pb L2 x.val _ P2.out.wr (by omega)).mono ?_
  rintro e w4 ⟨rfl, hw, hk⟩
  obtain ⟨L3, hL3⟩ : ∃ L, L2 ++ textForm x.val = L := ⟨_, rfl⟩
  rw [hL3] at hw
  have HL3 : Hid (L2 ++ textForm x.val = L3) := hL3
  have hl3 : L3.length ≤ 100307 := by
    have h0 := congrArg List.length hL3
    rw [List.length_append] at h0
    have := tx_len hx.2 (by decide)
    omega
  have P3 : Hid (Pz w pb b #[.string (bs x.key), .string (bs x.val), .bool x.dead] 65 L3 w4) := P2.out.go (by decide) hw hk
  clear hw hk hL3 p1 P2
  go_wp2_with fail
  go_end0
  refine ⟨rfl, ?_, P3.out.kept⟩
  have h := P3.out.wr
  rw [← HL3.out, ← HL2.out, ← HL1.out] at h
  simpa only [wrForm, List.append_assoc] using h
set_option maxHeartbeats 3200000 in
set_option maxRecDepth 100000 in
theorem pr44 (pb : Nat) (l : List UInt8) (x : Pr) (w : World) (hw : WrAt pb l w) (hl : l.length ≤ 100000) (hx : x.key.length ≤ 32 ∧ x.val.length ≤ 256) :
    Calls Try.prog 44 #[.pointer (some ⟨pb, 0, none⟩), .agg #[.string (bs x.key), .string (bs x.val)]] w fun e w' => e = .returned (.tuple #[]) ∧ WrAt pb (l ++ prForm x) w' ∧ KeptW pb w w' := by
  have H0 : Hid _ := pz_new hw #[.string (bs x.key), .string (bs x.val)] 67
  obtain ⟨W1, hW1⟩ : ∃ W1, w.alloc (.cells #[.string (bs x.key), .string (bs x.val)] 67) = W1 := ⟨_, rfl⟩
  obtain ⟨b, hb⟩ : ∃ b, w.heap.size = b := ⟨_, rfl⟩
  have P0 : Hid (Pz w pb b #[.string (bs x.key), .string (bs x.val)] 67 l W1) := by rw [← hb, ← hW1]; exact H0.out
  clear H0 hw
  have p0 : W1.cell? ⟨b, 0, none⟩ = some (.string (bs x.key)) := block_cell P0.out.x rfl
  go_enter Try.func44, Try.ntmps44
  go_wp2_with fail
  refine (text19 pb l x.key _ P0.out.wr (by omega)).mono ?_
  rintro e w2 ⟨rfl, hw, hk⟩
  clear hW1 hb
  obtain ⟨L1, hL1⟩ : ∃ L, l ++ textForm x.key = L := ⟨_, rfl⟩
  rw [hL1] at hw
  have HL1 : Hid (l ++ textForm x.key = L1) := hL1
  have hl1 : L1.length ≤ 100041 := by
    have h0 := congrArg List.length hL1
    rw [List.length_append] at h0
    have := tx_len hx.1 (by decide)
    omega
  have P1 : Hid (Pz w pb b #[.string (bs x.key), .string (bs x.val)] 67 L1 w2) := P0.out.go (by decide) hw hk
  clear hw hk hL1 p0 P0
  have p1 : w2.cell? ⟨b, 1, none⟩ = some (.string (bs x.val)) := block_cell P1.out.x rfl
  go_wp2_with fail
  refine (text19 pb L1 x.val _ P1.out.wr (by omega)).mono ?_
  rintro e w3 ⟨rfl, hw, hk⟩
  obtain ⟨L2, hL2⟩ : ∃ L, L1 ++ textForm x.val = L := ⟨_, rfl⟩
  rw [hL2] at hw
  have HL2 : Hid (L1 ++ textForm x.val = L2) := hL2
  have hl2 : L2.length ≤ 100306 := by
    have h0 := congrArg List.length hL2
    rw [List.length_append] at h0
    have := tx_len hx.2 (by decide)
    omega
  have P2 : Hid (Pz w pb b #[.string (bs x.key), .string (bs x.val)] 67 L2 w3) := P1.out.go (by decide) hw hk
  clear hw hk hL2 p1 P1
  go_wp2_with fail
  go_end0
  refine ⟨rfl, ?_, P2.out.kept⟩
  have h := P2.out.wr
  rw [← HL2.out, ← HL1.out] at h
  simpa only [prForm, List.append_assoc] using h
theorem ent48 : ∀ args w, (callFunc 48 args).run Try.prog w = .ok (.enter 48 args) w := enters_of Try.func48 (by kernel_rfl) rfl
set_option maxHeartbeats 3200000 in
set_option maxRecDepth 100000 in
theorem pws47 (pb : Nat) (l : List UInt8) (X : List Wr) (ao : Option Addr) (cap : Nat) (w : World) (hw : WrAt pb l w) (hl : l.length ≤ 50000) (hX : WsAt pb (.slice ao X.length cap) X w) (hm : X.length ≤ 16) (hx : ∀ x ∈ X, x.key.length ≤ 32 ∧ x.val.length ≤ 256) :
    Calls Try.prog 47 #[.pointer (some ⟨pb, 0, none⟩), .slice ao X.length cap, .func (.func 48) #[] #[]] w fun e w' => e = .returned (.tuple #[]) ∧ WrAt pb (l ++ liForm wrForm X) w' ∧ KeptW pb w w' := by
  have ef := ent48
  have HE : Hid (∀ W, KeptW pb w W → ∀ i, i < X.length → ∃ b off, ao = some ⟨b, off, none⟩ ∧ WtAt W b (off + i * 3) (X.getD i dw)) := fun W hW i hi => (hX.on hW.below).el hi
  have HX : Hid (∀ i, i < X.length → (X.getD i dw).key.length ≤ 32 ∧ (X.getD i dw).val.length ≤ 256) := fun i hi => hx _ (getD_memWr hi)
  have HW : Hid (WrAt pb l w) := hw
  have HT : Hid (∀ m, m < X.length → (X.take (m + 1)).flatMap wrForm = (X.take m).flatMap wrForm ++ wrForm (X.getD m dw)) := fun m h => by
    rw [List.take_succ_eq_append_getElem h, List.flatMap_append, show X.getD m dw = X[m] from by simp [List.getD, h]]
    simp
  have HLn : Hid (∀ m, m ≤ X.length → ((X.take m).flatMap wrForm).length ≤ m * 307) := fun m h => by
    have h1 := flat_len (g := wrForm) (c := 307) (l := X.take m) (fun x hxm => wr_len (hx x (List.mem_of_mem_take hxm)))
    rw [List.length_take, Nat.min_eq_left h] at h1
    exact h1
  have hnf := nf_len (n := X.length) (by omega)
  have HF : Hid (WrAt pb (l ++ liForm wrForm X) = WrAt pb (l ++ numForm X.length ++ X.flatMap wrForm)) := by show _ = _; rw [liForm, List.append_assoc]
  clear hX hx hw
  go_enter Try.func47, Try.ntmps47
  go_wp2_with fail
  refine (num10 pb l X.length _ (by omega) HW.out (by omega)).mono ?_
  rintro e w1 ⟨rfl, hw1, hk1⟩
  have H1 : Hid (WrAt pb (l ++ numForm X.length) w1 ∧ KeptW pb w w1) := ⟨hw1, hk1⟩
  clear hw1 hk1 HW
  obtain ⟨l1, hl1⟩ : ∃ l1, l ++ numForm X.length = l1 := ⟨_, rfl⟩
  rw [hl1] at H1 HF
  have hl1' : l1.length ≤ 50009 := by rw [← hl1, List.length_append]; omega
  clear hl1 hnf
  go_wp2_with fail
  go_loopw [15] (fun i wr => ∃ m : Nat, m ≤ X.length ∧ i = .int .i64 m ∧ WrAt pb (l1 ++ (X.take m).flatMap wrForm) wr ∧ KeptW pb w wr) (fun i _ => X.length - (intOf i).toNat)
  case atStart => exact ⟨0, Nat.zero_le _, rfl, by rw [List.take_zero, List.flatMap_nil, List.append_nil]; exact H1.out.1, H1.out.2⟩
  case round =>
    obtain ⟨m, hmm, rfl, hwr, hkr⟩ := hrel
    have HR : Hid (WrAt pb (l1 ++ (X.take m).flatMap wrForm) wr ∧ KeptW pb w wr) := ⟨hwr, hkr⟩
    clear hwr hkr
    by_cases hml : m < X.length
    · obtain ⟨c1, o1, rfl, d0, d1, d2⟩ := HE.out wr HR.out.2 m hml
      have hml1 : (m : Int) < X.length := by omega
      have HQ : Hid (m + 1 ≤ X.length) := hml
      have HTm : Hid _ := HT.out m hml
      have HXm : Hid _ := HX.out m hml
      have hLm := HLn.out m hmm
      generalize X.getD m dw = x at *
      obtain ⟨L, hL⟩ : ∃ L, l1 ++ (X.take m).flatMap wrForm = L := ⟨_, rfl⟩
      rw [hL] at HR
      have HLL : Hid (l1 ++ (X.take m).flatMap wrForm = L) := hL
      have hLl : L.length ≤ 100000 := by rw [← hL, List.length_append]; omega
      have CF : Hid (∀ W, WrAt pb L W → _) := fun W hW => wr48 pb L x W hW hLl HXm.out
      clear hL hLm
      go_wp2_with fail
      refine (CF.out _ (HR.out.1.alloc _)).mono ?_
      rintro e w2 ⟨rfl, hw2, hk2⟩
      have H2 : Hid (WrAt pb (L ++ wrForm x) w2 ∧ KeptW pb w w2) := ⟨hw2, (HR.out.2.alloc (by have := HR.out.1.lt; omega) _).trans hk2⟩
      clear hw2 hk2
      go_wp2_with fail
      go_roundw
      case rel => exact ⟨m + 1, HQ.out, by go_num, by rw [HTm.out, ← List.append_assoc, HLL.out]; exact H2.out.1, H2.out.2⟩
      case measure => simp [intOf]; omega
    · have hml1 : ¬ (m : Int) < X.length := by omega
      have HM : Hid (m = X.length) := by show _ = _; omega
      clear hmm hml
      go_wp2_with fail
      go_end0
      refine ⟨rfl, ?_, HR.out.2⟩
      rw [HF.out]
      have h := HR.out.1
      rw [HM.out, List.take_length] at h
      exact h
theorem ent45 : ∀ args w, (callFunc 45 args).run Try.prog w = .ok (.enter 45 args) w := enters_of Try.func45 (by kernel_rfl) rfl
set_option maxHeartbeats 3200000 in
set_option maxRecDepth 100000 in
theorem pts49 (pb : Nat) (l : List UInt8) (X : List Tn) (ao : Option Addr) (cap : Nat) (w : World) (hw : WrAt pb l w) (hl : l.length ≤ 50000) (hX : TsAt pb (.slice ao X.length cap) X w) (hm : X.length ≤ 16) (hx : ∀ x ∈ X, x.c < 4294967296 ∧ x.n < 4294967296) :
    Calls Try.prog 49 #[.pointer (some ⟨pb, 0, none⟩), .slice ao X.length cap, .func (.func 45) #[] #[]] w fun e w' => e = .returned (.tuple #[]) ∧ WrAt pb (l ++ liForm tnForm X) w' ∧ KeptW pb w w' := by
  have ef := ent45
  have HE : Hid (∀ W, KeptW pb w W → ∀ i, i < X.length → ∃ b off, ao = some ⟨b, off, none⟩ ∧ TtAt W b (off + i * 2) (X.getD i dt)) := fun W hW i hi => (hX.on hW.below).el hi
  have HX : Hid (∀ i, i < X.length → (X.getD i dt).c < 4294967296 ∧ (X.getD i dt).n < 4294967296) := fun i hi => hx _ (getD_memTn hi)
  have HW : Hid (WrAt pb l w) := hw
  have HT : Hid (∀ m, m < X.length → (X.take (m + 1)).flatMap tnForm = (X.take m).flatMap tnForm ++ tnForm (X.getD m dt)) := fun m h => by
    rw [List.take_succ_eq_append_getElem h, List.flatMap_append, show X.getD m dt = X[m] from by simp [List.getD, h]]
    simp
  have HLn : Hid (∀ m, m ≤ X.length → ((X.take m).flatMap tnForm).length ≤ m * 18) := fun m h => by
    have h1 := flat_len (g := tnForm) (c := 18) (l := X.take m) (fun x hxm => tn_len (hx x (List.mem_of_mem_take hxm)))
    rw [List.length_take, Nat.min_eq_left h] at h1
    exact h1
  have hnf := nf_len (n := X.length) (by omega)
  have HF : Hid (WrAt pb (l ++ liForm tnForm X) = WrAt pb (l ++ numForm X.length ++ X.flatMap tnForm)) := by show _ = _; rw [liForm, List.append_assoc]
  clear hX hx hw
  go_enter Try.func49, Try.ntmps49
  go_wp2_with fail
  refine (num10 pb l X.length _ (by omega) HW.out (by omega)).mono ?_
  rintro e w1 ⟨rfl, hw1, hk1⟩
  have H1 : Hid (WrAt pb (l ++ numForm X.length) w1 ∧ KeptW pb w w1) := ⟨hw1, hk1⟩
  clear hw1 hk1 HW
  obtain ⟨l1, hl1⟩ : ∃ l1, l ++ numForm X.length = l1 := ⟨_, rfl⟩
  rw [hl1] at H1 HF
  have hl1' : l1.length ≤ 50009 := by rw [← hl1, List.length_append]; omega
  clear hl1 hnf
  go_wp2_with fail
  go_loopw [15] (fun i wr => ∃ m : Nat, m ≤ X.length ∧ i = .int .i64 m ∧ WrAt pb (l1 ++ (X.take m).flatMap tnForm) wr ∧ KeptW pb w wr) (fun i _ => X.length - (intOf i).toNat)
  case atStart => exact ⟨0, Nat.zero_le _, rfl, by rw [List.take_zero, List.flatMap_nil, List.append_nil]; exact H1.out.1, H1.out.2⟩
  case round =>
    obtain ⟨m, hmm, rfl, hwr, hkr⟩ := hrel
    have HR : Hid (WrAt pb (l1 ++ (X.take m).flatMap tnForm) wr ∧ KeptW pb w wr) := ⟨hwr, hkr⟩
    clear hwr hkr
    by_cases hml : m < X.length
    · obtain ⟨c1, o1, rfl, d0, d1⟩ := HE.out wr HR.out.2 m hml
      have hml1 : (m : Int) < X.length := by omega
      have HQ : Hid (m + 1 ≤ X.length) := hml
      have HTm : Hid _ := HT.out m hml
      have HXm : Hid _ := HX.out m hml
      have hLm := HLn.out m hmm
      generalize X.getD m dt = x at *
      obtain ⟨L, hL⟩ : ∃ L, l1 ++ (X.take m).flatMap tnForm = L := ⟨_, rfl⟩
      rw [hL] at HR
      have HLL : Hid (l1 ++ (X.take m).flatMap tnForm = L) := hL
      have hLl : L.length ≤ 100000 := by rw [← hL, List.length_append]; omega
      have CF : Hid (∀ W, WrAt pb L W → _) := fun W hW => tn45 pb L x.c x.n W hW hLl HXm.out
      clear hL hLm
      go_wp2_with fail
      refine (CF.out _ (HR.out.1.alloc _)).mono ?_
      rintro e w2 ⟨rfl, hw2, hk2⟩
      have H2 : Hid (WrAt pb (L ++ tnForm ⟨x.c, x.n⟩) w2 ∧ KeptW pb w w2) := ⟨hw2, (HR.out.2.alloc (by have := HR.out.1.lt; omega) _).trans hk2⟩
      clear hw2 hk2
      go_wp2_with fail
      go_roundw
      case rel => exact ⟨m + 1, HQ.out, by go_num, by rw [HTm.out, ← List.append_assoc, HLL.out]; exact H2.out.1, H2.out.2⟩
      case measure => simp [intOf]; omega
    · have hml1 : ¬ (m : Int) < X.length := by omega
      have HM : Hid (m = X.length) := by show _ = _; omega
      clear hmm hml
      go_wp2_with fail
      go_end0
      refine ⟨rfl, ?_, HR.out.2⟩
      rw [HF.out]
      have h := HR.out.1
      rw [HM.out, List.take_length] at h
      exact h
theorem ent44 : ∀ args w, (callFunc 44 args).run Try.prog w = .ok (.enter 44 args) w := enters_of Try.func44 (by kernel_rfl) rfl
set_option maxHeartbeats 3200000 in
set_option maxRecDepth 100000 in
theorem pps43 (pb : Nat) (l : List UInt8) (X : List Pr) (ao : Option Addr) (cap : Nat) (w : World) (hw : WrAt pb l w) (hl : l.length ≤ 50000) (hX : PsAt pb (.slice ao X.length cap) X w) (hm : X.length ≤ 32) (hx : ∀ x ∈ X, x.key.length ≤ 32 ∧ x.val.length ≤ 256) :
    Calls Try.prog 43 #[.pointer (some ⟨pb, 0, none⟩), .slice ao X.length cap, .func (.func 44) #[] #[]] w fun e w' => e = .returned (.tuple #[]) ∧ WrAt pb (l ++ liForm prForm X) w' ∧ KeptW pb w w' := by
  have ef := ent44
  have HE : Hid (∀ W, KeptW pb w W → ∀ i, i < X.length → ∃ b off, ao = some ⟨b, off, none⟩ ∧ PtAt W b (off + i * 2) (X.getD i dp)) := fun W hW i hi => (hX.on hW.below).el hi
  have HX : Hid (∀ i, i < X.length → (X.getD i dp).key.length ≤ 32 ∧ (X.getD i dp).val.length ≤ 256) := fun i hi => hx _ (getD_memPr hi)
  have HW : Hid (WrAt pb l w) := hw
  have HT : Hid (∀ m, m < X.length → (X.take (m + 1)).flatMap prForm = (X.take m).flatMap prForm ++ prForm (X.getD m dp)) := fun m h => by
    rw [List.take_succ_eq_append_getElem h, List.flatMap_append, show X.getD m dp = X[m] from by simp [List.getD, h]]
    simp
  have HLn : Hid (∀ m, m ≤ X.length → ((X.take m).flatMap prForm).length ≤ m * 306) := fun m h => by
    have h1 := flat_len (g := prForm) (c := 306) (l := X.take m) (fun x hxm => pr_len (hx x (List.mem_of_mem_take hxm)))
    rw [List.length_take, Nat.min_eq_left h] at h1
    exact h1
  have hnf := nf_len (n := X.length) (by omega)
  have HF : Hid (WrAt pb (l ++ liForm prForm X) = WrAt pb (l ++ numForm X.length ++ X.flatMap prForm)) := by show _ = _; rw [liForm, List.append_assoc]
  clear hX hx hw
  go_enter Try.func43, Try.ntmps43
  go_wp2_with fail
  refine (num10 pb l X.length _ (by omega) HW.out (by omega)).mono ?_
  rintro e w1 ⟨rfl, hw1, hk1⟩
  have H1 : Hid (WrAt pb (l ++ numForm X.length) w1 ∧ KeptW pb w w1) := ⟨hw1, hk1⟩
  clear hw1 hk1 HW
  obtain ⟨l1, hl1⟩ : ∃ l1, l ++ numForm X.length = l1 := ⟨_, rfl⟩
  rw [hl1] at H1 HF
  have hl1' : l1.length ≤ 50009 := by rw [← hl1, List.length_append]; omega
  clear hl1 hnf
  go_wp2_with fail
  go_loopw [15] (fun i wr => ∃ m : Nat, m ≤ X.length ∧ i = .int .i64 m ∧ WrAt pb (l1 ++ (X.take m).flatMap prForm) wr ∧ KeptW pb w wr) (fun i _ => X.length - (intOf i).toNat)
  case atStart => exact ⟨0, Nat.zero_le _, rfl, by rw [List.take_zero, List.flatMap_nil, List.append_nil]; exact H1.out.1, H1.out.2⟩
  case round =>
    obtain ⟨m, hmm, rfl, hwr, hkr⟩ := hrel
    have HR : Hid (WrAt pb (l1 ++ (X.take m).flatMap prForm) wr ∧ KeptW pb w wr) := ⟨hwr, hkr⟩
    clear hwr hkr
    by_cases hml : m < X.length
    · obtain ⟨c1, o1, rfl, d0, d1⟩ := HE.out wr HR.out.2 m hml
      have hml1 : (m : Int) < X.length := by omega
      have HQ : Hid (m + 1 ≤ X.length) := hml
      have HTm : Hid _ := HT.out m hml
      have HXm : Hid _ := HX.out m hml
      have hLm := HLn.out m hmm
      generalize X.getD m dp = x at *
      obtain ⟨L, hL⟩ : ∃ L, l1 ++ (X.take m).flatMap prForm = L := ⟨_, rfl⟩
      rw [hL] at HR
      have HLL : Hid (l1 ++ (X.take m).flatMap prForm = L) := hL
      have hLl : L.length ≤ 100000 := by rw [← hL, List.length_append]; omega
      have CF : Hid (∀ W, WrAt pb L W → _) := fun W hW => pr44 pb L x W hW hLl HXm.out
      clear hL hLm
      go_wp2_with fail
      refine (CF.out _ (HR.out.1.alloc _)).mono ?_
      rintro e w2 ⟨rfl, hw2, hk2⟩
      have H2 : Hid (WrAt pb (L ++ prForm x) w2 ∧ KeptW pb w w2) := ⟨hw2, (HR.out.2.alloc (by have := HR.out.1.lt; omega) _).trans hk2⟩
      clear hw2 hk2
      go_wp2_with fail
      go_roundw
      case rel => exact ⟨m + 1, HQ.out, by go_num, by rw [HTm.out, ← List.append_assoc, HLL.out]; exact H2.out.1, H2.out.2⟩
      case measure => simp [intOf]; omega
    · have hml1 : ¬ (m : Int) < X.length := by omega
      have HM : Hid (m = X.length) := by show _ = _; omega
      clear hmm hml
      go_wp2_with fail
      go_end0
      refine ⟨rfl, ?_, HR.out.2⟩
      rw [HF.out]
      have h := HR.out.1
      rw [HM.out, List.take_length] at h
      exact h
end Go.Proofs.Ytmldgfepnmencaa
