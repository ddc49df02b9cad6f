/-
  The walk of StoreScans.
-/
import Derived.Test.YtcfhkggijdjagaaPru
namespace Go.Proofs.Ytcfhkggijdjagaa
open Go.RowKit
variable {SA : Nat → Nat → (Nat → Prop) → Sk → World → Prop}

theorem rng_split {mid : List UInt8} (hm : mid.isEmpty = false) : ∀ {S : Sk}, Srt S → rngS [] mid S ++ rngS mid [] S = S
  | [], _ => rfl
  | (a, c) :: r, h => by
    obtain ⟨h1, h2⟩ := List.pairwise_cons.1 h
    have ih := rng_split hm h2
    have h0 : ltK a [] = false := by cases a <;> rfl
    unfold rngS at ih ⊢
    rw [List.filter_cons, List.filter_cons]
    cases h3 : ltK a mid
    · have e1 : inR [] mid a = false := by simp [inR, hm, h3]
      have e2 : inR mid [] a = true := by simp [inR, h3]
      have e3 : r.filter (fun x => inR [] mid x.1) = [] := by
        rw [List.filter_eq_nil_iff]
        intro x hx
        have : ltK x.1 mid = false := by
          cases h4 : ltK x.1 mid
          · rfl
          · have := ltK_trans (h1 x hx) h4
            rw [h3] at this
            cases this
        simp [inR, hm, this]
      rw [e3] at ih
      simp only [e1, e2, e3, Bool.false_eq_true, if_false, if_true, List.nil_append] at ih ⊢
      rw [ih]
    · have e1 : inR [] mid a = true := by simp [inR, h0, h3]
      have e2 : inR mid [] a = false := by simp [inR, h3]
      simp only [e1, e2, Bool.false_eq_true, if_false, if_true, List.cons_append]
      rw [ih]
theorem scan_split {mid : List UInt8} (hm : mid.isEmpty = false) {S : Sk} (hS : Srt S) {t u : Int} (hl : (scanR t u S).length ≤ 32) : scanS [] mid t u 1000 S ++ scanS mid [] t u 1000 S = scanR t u S := by
  have e : scanR t u (rngS [] mid S) ++ scanR t u (rngS mid [] S) = scanR t u S := by
    unfold scanR
    rw [← List.filterMap_append, rng_split hm hS]
  have hle := congrArg List.length e
  rw [List.length_append] at hle
  have h32 : (min (1000 : Int) 32).toNat = 32 := by decide
  unfold scanS
  rw [h32, List.take_of_length_le (by omega), List.take_of_length_le (by omega)]
  exact e
theorem scan_thousand (t u : Int) (S : Sk) : scanS [] [] t u 1000 S = (scanR t u S).take 32 := by
  rw [scan_all]
  rfl
theorem scanR_step {S : Sk} (hS : SOk S) {t u : Int} {m : Nat} (h : m < S.length) : scanR t u (S.take (m + 1)) = scanR t u (S.take m) ++ (match seeF (chainF (S.getD m ds).1 S) t u with
    | some s => [((S.getD m ds).1, s)]
    | none => []) := by
  have := accR_step (lo := []) (hi := []) (p := t) (l := u) h
  unfold accR at this
  rw [rng_all, rng_all] at this
  rw [this, chain_at hS h, if_pos (show inR [] [] (S.getD m ds).1 = true by cases (S.getD m ds).1 <;> rfl)]
  cases seeF (S.getD m ds).2 t u <;> rfl
theorem scanR_len (t u : Int) (S : Sk) : (scanR t u S).length ≤ S.length := List.length_filterMap_le _ _

theorem step_append_rw {P : Program} {base t e size bytes B n m : Nat} {v vx : Value} {xs cs : List Value} {i : TypeInfo} {z : Value} {ops : Array Oper} {o : Oper} {a : Act} {K : Act → World → Prop} {Q : Exit → Act → World → Prop} {E : Prop} {w : World} (H : Ow base e size v n xs B vx m cs w)
    (ht : P.underlying t = some (.slice e)) (hi : P.info? e = some i) (hz : i.zero = some z) (hsize : i.size = size) (hby : i.bytes = bytes) (hzs : z.cells.size = size) (hsz : 0 < size) (hb : bytes ≤ 1000)
    (s x : Operand) (ho : o.op = .call { callee := .builtin .append, args := #[s, x], argTypes := #[t, t] }) (hw : Region.wanted o (yielded ops a.tmps) = true) (hs : a.eval s = v) (hx : a.eval x = vx)
    (h : ∀ v' w', w'.ownsRow base e size v' (n + m) (xs ++ cs) → w.grownBy w' v.ownBlock → (v'.ownBlock = v.ownBlock ∨ v'.ownBlock = some w.heap.size) → K (a.put o.dst v') w') : if Region.wanted o (yielded ops a.tmps) = true then Oper.wp P o a w K Q else E := by
  rw [if_pos hw]
  obtain ⟨v', w', hr, h2, h3, h4⟩ := run_append_rw (ty := o.type) ht hi hz hsize hby hzs hsz hb H
  unfold Oper.wp execOp
  simp only [ho, resolve, invoke, builtin, Sem.run_bind, Sem.run_pure, Result.andThen_ok, List.map_toArray, List.map_cons, List.map_nil, hs, hx, hr]
  exact h v' w' h2 h3 h4

/-- A store, a stamp in its box. -/
structure Sb (SA : Nat → Nat → (Nat → Prop) → Sk → World → Prop) (w : World) (p : Nat) (S : Sk) (X : Nat) (t u : Int) (W : World) : Prop where
  pw : Pw SA w p S W
  x : W.heap[X]? = some (.cells #[.int .u64 t, .int .u32 u] 33 (0, 0))
theorem Sb.on (I : Ifs SA) {w W W' : World} {p X : Nat} {S : Sk} {t u : Int} (h : Sb SA w p S X t u W) (hb : Below W.heap.size W W') : Sb SA w p S X t u W' := ⟨h.pw.on I hb, by rw [hb.block X (Array.getElem?_eq_some_iff.1 h.x).1]; exact h.x⟩
theorem Sb.cells {w W : World} {p X : Nat} {S : Sk} {t u : Int} (h : Sb SA w p S X t u W) : W.cell? ⟨X, 0, none⟩ = some (.int .u64 t) ∧ W.cell? ⟨X, 1, none⟩ = some (.int .u32 u) := ⟨block_cell h.x rfl, block_cell h.x rfl⟩
/-- And items, whose keys are gone through. -/
structure Sl (SA : Nat → Nat → (Nat → Prop) → Sk → World → Prop) (w : World) (p : Nat) (S : Sk) (X : Nat) (t u : Int) (v : Value) (L : Kv Sv) (W : World) : Prop where
  sb : Sb SA w p S X t u W
  it : ItAt v L S W
theorem Sl.on (I : Ifs SA) {w W W' : World} {p X : Nat} {S : Sk} {t u : Int} {v : Value} {L : Kv Sv} (h : Sl SA w p S X t u v L W) (hb : Below W.heap.size W W') : Sl SA w p S X t u v L W' := ⟨h.sb.on I hb, h.it.on hb⟩
/-- A store, a stamp in its box, two lists of pairs. -/
structure Sf (SA : Nat → Nat → (Nat → Prop) → Sk → World → Prop) (w : World) (p : Nat) (S : Sk) (X : Nat) (t u : Int) (va vb : Value) (R : List (List UInt8 × List UInt8)) (W : World) : Prop where
  sb : Sb SA w p S X t u W
  a : PsAt W.heap.size va R W
  b : PsAt W.heap.size vb R W
theorem Sf.on (I : Ifs SA) {w W W' : World} {p X : Nat} {S : Sk} {t u : Int} {va vb : Value} {R : List (List UInt8 × List UInt8)} (h : Sf SA w p S X t u va vb R W) (hb : Below W.heap.size W W') : Sf SA w p S X t u va vb R W' := ⟨h.sb.on I hb, RwAt.le (RwAt.on h.a hb) hb.size, RwAt.le (RwAt.on h.b hb) hb.size⟩
theorem Sf.dr (I : Ifs SA) {w W : World} {p X : Nat} {S : Sk} {t u : Int} {va vb : Value} {R : List (List UInt8 × List UInt8)} (h : Sf SA w p S X t u va vb R W) : Sf SA w p S X t u va vb R W.drew := h.on I (Below.refl _ _).drew
theorem Sf.two {w W : World} {p X : Nat} {S : Sk} {t u : Int} {va vb : Value} {R : List (List UInt8 × List UInt8)} (h : Sf SA w p S X t u va vb R W) : W.cell? ⟨X, 0, none⟩ = some (.int .u64 t) ∧ W.cell? ⟨X, 1, none⟩ = some (.int .u32 u) ∧ Sf SA w p S X t u va vb R W := ⟨h.sb.cells.1, h.sb.cells.2, h⟩

set_option maxHeartbeats 6400000 in
set_option maxRecDepth 100000 in
theorem scans4 (I : Ifs SA) (B : Nat) (A : List Ac) (v : Value) (t u : Int) (mid : List UInt8) (w : World) (hv : AcsAt B v A w) (hB : B ≤ w.heap.size) :
    Calls Try.prog 4 #[v, .agg #[.int .u64 t, .int .u32 u], .string (bs mid)] w fun e w' => e = .returned (.bool true) ∧ Below w.heap.size w w' := by
  obtain ⟨i0, hin, hi0, hi1, hi2⟩ := info_parts info59
  obtain ⟨ao, cap, rfl, hlc, hcm⟩ := hv.shape
  have CA : Hid (∀ W : World, 1 = 1 → Calls Try.prog 9 #[] W fun e w' => e = .returned (.bool true) ∧ Below W.heap.size W w') := fun W _ => awake9 I W
  have CF : Hid (∀ W, Below w.heap.size w W → Calls Try.prog 26 #[.slice ao A.length cap] W fun e w' => ∃ p, e = .returned (.pointer (some ⟨p, 0, none⟩)) ∧ Pw SA W p (fillS [] (A.take 100)) w') := fun W hb => filled26 I B A _ W (RwAt.on hv (hb.mono hB)) (Nat.le_trans hB hb.size)
  obtain ⟨hS, hT⟩ := fill_sok (L := A.take 100) SOk.nil
  have hT2 : totS (fillS [] (A.take 100)) ≤ 100 := by
    have h2 : totS ([] : Sk) = 0 := rfl
    have h3 := ltake (L := A) (m := 100)
    omega
  generalize fillS [] (A.take 100) = S at *
  have hSl : S.length ≤ 100 := by have := len_tot hS.all; omega
  have HS : Hid (SOk S) := hS
  have HT : Hid (Tx w w.heap.size t u (w.alloc (.cells #[.int .u64 t, .int .u32 u] 33))) := tx_new w t u
  have HX0 : Hid ((w.alloc (.cells #[.int .u64 t, .int .u32 u] 33)).heap[w.heap.size]? = some (.cells #[.int .u64 t, .int .u32 u] 33 (0, 0))) := heap_alloc_new w _
  have hme : (bs mid).toList.isEmpty = mid.isEmpty := by rw [bs_list]
  clear hv hlc hcm hS hT hT2
  go_enter Try.func4, Try.ntmps4
  go_wp2_with fail
  refine (CA.out _ (by trivial)).mono ?_
  rintro e w1 ⟨rfl, hb⟩
  obtain ⟨W0, hW0⟩ : ∃ W0, w.alloc (.cells #[.int .u64 t, .int .u32 u] 33) = W0 := ⟨_, rfl⟩
  obtain ⟨X, hX⟩ : ∃ X, w.heap.size = X := ⟨_, rfl⟩
  rw [hW0] at HX0 HT hb
  rw [hX] at HX0
  have HX1 : Hid (w1.heap[X]? = some (.cells #[.int .u64 t, .int .u32 u] 33 (0, 0)) ∧ Below w.heap.size w w1) := ⟨by rw [hb.block X (Array.getElem?_eq_some_iff.1 HX0.out).1]; exact HX0.out, (HT.out.on hb).bel⟩
  rw [hX]
  clear hb hW0 hX HX0 HT CA
  go_wp2_with fail
  refine (CF.out _ HX1.out.2).mono ?_
  rintro e w2 ⟨p, rfl, h2⟩
  have H2 : Hid (Sb SA w p S X t u w2) := ⟨h2.le HX1.out.2, by rw [h2.bel.block X (Array.getElem?_eq_some_iff.1 HX1.out.1).1]; exact HX1.out.1⟩
  clear h2 HX1 CF
  have CI : Hid (1 = 1 → Calls Try.prog 25 #[.pointer (some ⟨p, 0, none⟩)] w2 fun e w' => ∃ ai ci Li, e = .returned (.slice ai S.length ci) ∧ S.length ≤ ci ∧ Sl SA w p S X t u (.slice ai S.length ci) Li w') := fun _ => by
    refine (pw_items I H2.out.pw).mono ?_
    rintro e w' ⟨v', L, rfl, hi, _, hb⟩
    obtain ⟨ai, ci, rfl, hc, _⟩ := hi.shape
    exact ⟨ai, ci, L, rfl, hc, H2.out.on I hb, hi⟩
  go_wp2_with fail
  refine (CI.out (by trivial)).mono ?_
  rintro e w3 ⟨ai, ci, Li, rfl, hci, h3⟩
  have H3 : Hid (Sl SA w p S X t u (.slice ai S.length ci) Li w3) := h3
  clear h3 H2 CI
  have CG : Hid (∀ W a, Sl SA w p S X t u (.slice ai S.length ci) Li W → Calls Try.prog 15 #[.pointer (some ⟨p, 0, none⟩), .string (bs a), .agg #[.int .u64 t, .int .u32 u]] W fun e w' => e = .returned (.tuple #[.string (bs (getV (seeF (chainF a S) t u)).1), .bool (getV (seeF (chainF a S) t u)).2]) ∧ Below W.heap.size W w') := fun W a h => by
    refine (pw_get I a t u h.sb.pw).mono ?_
    rintro e w' ⟨rfl, _, hb⟩
    exact ⟨rfl, hb⟩
  have HSt : Hid (∀ m, m < S.length → scanR t u (S.take (m + 1)) = scanR t u (S.take m) ++ (match seeF (chainF (S.getD m ds).1 S) t u with
    | some s => [((S.getD m ds).1, s)]
    | none => [])) := fun m hm => scanR_step HS.out hm
  have HLn : Hid (∀ m, (scanR t u (S.take m)).length ≤ 100) := fun m => by
    have h1 := scanR_len t u (S.take m)
    have h2 : (S.take m).length ≤ S.length := List.length_take_le' _ _
    omega
  have H0 : Hid (scanR t u (S.take 0) = []) := rfl
  go_wp2_with fail
  go_loopw [8, 21] (fun vv i wr => ∃ m : Nat, m ≤ S.length ∧ i = .int .i64 m ∧ wr.ownsRow w3.heap.size 59 2 vv (scanR t u (S.take m)).length (prc (scanR t u (S.take m))) ∧ Below w3.heap.size w3 wr) (fun _ i _ => S.length - (intOf i).toNat)
  case atStart => exact ⟨0, Nat.zero_le _, rfl, by rw [H0.out]; exact own_nil _ _ _ _, Below.refl _ _⟩
  case round =>
    obtain ⟨m, hm, rfl, hown, hbr⟩ := hrel
    obtain ⟨sa, sc, rfl, -, -, -, -⟩ := rw_own hown
    have HO : Hid _ := hown
    have HB : Hid (Below w3.heap.size w3 wr) := hbr
    have HL : Hid (Sl SA w p S X t u (.slice ai S.length ci) Li wr) := H3.out.on I hbr
    clear hown hbr
    obtain ⟨x0, x1⟩ := HL.out.sb.cells
    by_cases hml : m < S.length
    · obtain ⟨b, off, ca, cc, rfl, e0, e1, -⟩ := HL.out.it.el hml
      have hml' : (m : Int) < S.length := by omega
      have hst := HSt.out m hml
      have hln := HLn.out m
      obtain ⟨R, hR⟩ : ∃ R, scanR t u (S.take m) = R := ⟨_, rfl⟩
      obtain ⟨R1, hR1⟩ : ∃ R1, scanR t u (S.take (m + 1)) = R1 := ⟨_, rfl⟩
      rw [hR] at HO hst hln
      rw [hR1] at hst
      have HR1 : Hid (scanR t u (S.take (m + 1)) = R1) := hR1
      rw [hR]
      clear hR hR1
      generalize S.getD m ds = x at *
      obtain ⟨a, c⟩ := x
      dsimp only at e0 e1 hst
      have HL2 : Hid (Sl SA w p S X t u (.slice (some ⟨b, off, none⟩) S.length ci) Li (wr.alloc (.cells #[.string (bs a), .slice ca c.length cc] 57))) := HL.out.on I (al _)
      have HZ : Hid ((wr.alloc (.cells #[.string (bs a), .slice ca c.length cc] 57)).heap[wr.heap.size]? = some (.cells #[.string (bs a), .slice ca c.length cc] 57 (0, 0))) := heap_alloc_new wr _
      have hXl : X < wr.heap.size := World.block_lt_of_cell? _ _ x0
      have CG2 : Hid (∀ W, Sl SA w p S X t u (.slice (some ⟨b, off, none⟩) S.length ci) Li W → _) := fun W h => CG.out W a h
      generalize seeF (chainF a S) t u = y at *
      cases y with
      | none =>
        have HE : Hid (R1 = R) := by show _ = _; rw [hst]; simp
        dsimp only [getV] at CG2
        clear hst HL
        go_wp2_with fail
        refine (CG2.out _ HL2.out).mono ?_
        rintro e wb ⟨rfl, hb⟩
        have HBb : Hid (Below w3.heap.size w3 wb) := (HB.out.alloc HB.out.size _).trans (hb.mono (Nat.le_trans HB.out.size (al _).size))
        have HOb : Hid (wb.ownsRow w3.heap.size 59 2 (.slice sa R.length sc) R.length (prc R)) := own_on (World.ownsRow.alloc HO.out _) hb
        clear hb x0 x1 e0 e1 HZ HL2 CG2
        go_wp2_with fail
        go_roundw
        case rel => exact ⟨m + 1, by omega, by go_num, by rw [HR1.out, HE.out]; exact HOb.out, HBb.out⟩
        case measure => simp [intOf]; omega
      | some s =>
        have HE : Hid (R1 = R ++ [(a, s)]) := hst
        dsimp only [getV] at CG2
        clear hst HL
        go_wp2_with fail
        refine (CG2.out _ HL2.out).mono ?_
        rintro e wb ⟨rfl, hb⟩
        have HBb : Hid (Below w3.heap.size w3 wb) := (HB.out.alloc HB.out.size _).trans (hb.mono (Nat.le_trans HB.out.size (al _).size))
        have HOb : Hid (wb.ownsRow w3.heap.size 59 2 (.slice sa R.length sc) R.length (prc R)) := own_on (World.ownsRow.alloc HO.out _) hb
        have z0 : wb.cell? ⟨wr.heap.size, 0, none⟩ = some (.string (bs a)) := block_cell (by rw [hb.block wr.heap.size (Array.getElem?_eq_some_iff.1 HZ.out).1]; exact HZ.out) rfl
        have HOw : Hid (Ow w3.heap.size 59 2 (.slice sa R.length sc) R.length (prc R) (wb.heap.size + 1) (.slice (some ⟨wb.heap.size, 0, none⟩) 1 1) 1 (prc [(a, s)]) (wb.alloc (.cells #[.string (bs a), .string (bs s)] 59))) := pr_ow a s HOb.out HBb.out.size (by omega)
        clear hb x0 x1 e0 e1 HZ HL2 CG2
        generalize wr.heap.size = Z at *
        go_wp2_with (at_builtin; refine wpList_append_rw HOw.out Try.underlying49 hin hi0 hi1 hi2 rfl (by decide) (by decide) (.tmp 34) (.tmp 39) rfl rfl rfl rfl ?_)
        intro v' wd hown hg hat
        have HBd : Hid (Below w3.heap.size w3 wd) := below_own (HBb.out.alloc HBb.out.size _) HOw.out.size HOw.out.own hg
        obtain ⟨sa2, sc2, rfl, -, -, -, -⟩ := rw_own hown
        have HOd : Hid (wd.ownsRow w3.heap.size 59 2 (.slice sa2 (R.length + 1) sc2) (R ++ [(a, s)]).length (prc (R ++ [(a, s)]))) := by
          rw [prc_append, List.length_append]
          exact hown
        clear hown hg hat HOw z0
        go_wp2_with fail
        go_roundw
        case rel => exact ⟨m + 1, by omega, by go_num, by rw [HR1.out, HE.out]; exact HOd.out, HBd.out⟩
        case measure => simp [intOf]; omega
    · have hml' : ¬ (m : Int) < S.length := by omega
      have hta : S.take m = S := List.take_of_length_le (by omega)
      have hln := HLn.out m
      rw [hta] at HO hln ⊢
      have HSb : Hid (Sb SA w p S X t u wr) := HL.out.sb
      have HSc : Hid ((scanR t u S).length ≤ 32 → mid.isEmpty = false → scanS [] mid t u 1000 S ++ scanS mid [] t u 1000 S = scanR t u S) := fun h1 h2 => scan_split h2 HS.out.srt h1
      have CS0 : Hid (∀ W, Sb SA w p S X t u W → Calls Try.prog 22 #[.pointer (some ⟨p, 0, none⟩), .string ⟨#[]⟩, .string ⟨#[]⟩, .agg #[.int .u64 t, .int .u32 u], .int .i64 1000] W fun e w' => ∃ v', e = .returned v' ∧ PsAt w'.heap.size v' ((scanR t u S).take 32) w' ∧ Sb SA w p S X t u w' ∧ Below W.heap.size W w') := fun W h => by
        have := pw_scan I [] [] t u 1000 h.pw
        rw [scan_thousand] at this
        refine this.mono ?_
        rintro e w' ⟨v', rfl, ho, _, hb⟩
        exact ⟨v', rfl, rw_own ho, h.on I hb, hb⟩
      have CS1 : Hid (∀ W, Sb SA w p S X t u W → Calls Try.prog 22 #[.pointer (some ⟨p, 0, none⟩), .string ⟨#[]⟩, .string (bs mid), .agg #[.int .u64 t, .int .u32 u], .int .i64 1000] W fun e w' => ∃ v', e = .returned v' ∧ w'.ownsRow W.heap.size 59 2 v' (scanS [] mid t u 1000 S).length (prc (scanS [] mid t u 1000 S)) ∧ Sb SA w p S X t u w' ∧ Below W.heap.size W w') := fun W h => by
        refine (pw_scan I [] mid t u 1000 h.pw).mono ?_
        rintro e w' ⟨v', rfl, ho, _, hb⟩
        exact ⟨v', rfl, ho, h.on I hb, hb⟩
      have CS2 : Hid (∀ W, Sb SA w p S X t u W → Calls Try.prog 22 #[.pointer (some ⟨p, 0, none⟩), .string (bs mid), .string ⟨#[]⟩, .agg #[.int .u64 t, .int .u32 u], .int .i64 1000] W fun e w' => ∃ v', e = .returned v' ∧ w'.ownsRow W.heap.size 59 2 v' (scanS mid [] t u 1000 S).length (prc (scanS mid [] t u 1000 S)) ∧ Sb SA w p S X t u w' ∧ Below W.heap.size W w') := fun W h => by
        refine (pw_scan I mid [] t u 1000 h.pw).mono ?_
        rintro e w' ⟨v', rfl, ho, _, hb⟩
        exact ⟨v', rfl, ho, h.on I hb, hb⟩
      have CPs : Hid (∀ W Q v1 v2, Sb SA w p S X t u W → PsAt W.heap.size v1 Q W → PsAt W.heap.size v2 Q W → Calls Try.prog 21 #[v1, v2] W fun e w' => e = .returned (.bool true) ∧ Sb SA w p S X t u w' ∧ Below W.heap.size W w') := fun W Q v1 v2 h h1 h2 => by
        have := pairs21 W.heap.size W.heap.size Q Q v1 v2 W h1 h2
        rw [show (Q == Q) = true from by simp] at this
        refine this.mono ?_
        rintro e w' ⟨rfl, hb⟩
        exact ⟨rfl, h.on I hb, hb⟩
      have hsc : (scanR t u S).length ≤ sc ∧ sc ≤ 9223372036854775807 := by
        obtain ⟨_, _, e, _, h1, h2, _⟩ := rw_own HO.out
        simp only [Value.slice.injEq] at e
        obtain ⟨_, _, rfl⟩ := e
        exact ⟨h1, h2⟩
      obtain ⟨hsc1, hsc2⟩ := hsc
      generalize scanS [] mid t u 1000 S = Q1 at *
      generalize scanS mid [] t u 1000 S = Q2 at *
      generalize scanR t u S = R at *
      have HPw : Hid (PsAt wr.heap.size (.slice sa R.length sc) R wr) := rw_own HO.out
      clear hta HL HSt HLn H0 CG H3 HO
      by_cases h32 : 32 < R.length
      · have h32' : (32 : Int) < R.length := by omega
        have h32c : (32 : Int) ≤ sc := by omega
        have h32d : 32 ≤ sc := by omega
        have HPt : Hid (∀ W, PsAt W.heap.size (.slice sa R.length sc) R W → PsAt W.heap.size (.slice sa 32 sc) (R.take 32) W) := fun W h => by
          have h1 := RwAt.take h (k := 32) (by omega)
          have e : (prc R).take (32 * 2) = prc (R.take 32) := by
            conv => lhs; rw [← List.take_append_drop 32 R, prc_append]
            rw [List.take_left' (by rw [prc_length, List.length_take]; omega)]
          rw [e] at h1
          have e2 : (R.take 32).length = 32 := by rw [List.length_take]; omega
          show RwAt W.heap.size 2 _ (R.take 32).length _ W
          rw [e2]
          exact h1
        generalize R.take 32 = R5 at *
        clear HSc CS1 CS2
        go_wp2_with fail
        refine (CS0.out _ HSb.out).mono ?_
        rintro e w5 ⟨v5, rfl, hp5, h5, hb5⟩
        obtain ⟨sa5, sc5, rfl, -⟩ := hp5.shape
        have H5 : Hid (Sb SA w p S X t u w5 ∧ PsAt w5.heap.size (.slice sa5 R5.length sc5) R5 w5 ∧ PsAt w5.heap.size (.slice sa 32 sc) R5 w5) := ⟨h5, hp5, HPt.out _ (RwAt.le (RwAt.on HPw.out hb5) hb5.size)⟩
        have CP5 : Hid (1 = 1 → _) := fun _ => CPs.out w5 R5 _ _ H5.out.1 H5.out.2.1 H5.out.2.2
        clear hp5 h5 hb5 CS0 HPt CPs
        go_wp2_with fail
        refine (CP5.out (by trivial)).mono ?_
        rintro e w6 ⟨rfl, h6, -⟩
        have H6 : Hid (Sb SA w p S X t u w6) := h6
        clear h6
        go_wp2_with fail
        go_ret
        exact ⟨rfl, H6.out.pw.bel⟩
      · have h32' : ¬ (32 : Int) < R.length := by omega
        rw [List.take_of_length_le (by omega)] at CS0
        have HSp : Hid (mid.isEmpty = false → Q1 ++ Q2 = R) := HSc.out (by omega)
        clear HSc
        obtain ⟨z, hz⟩ : ∃ z, mid.isEmpty = z := ⟨_, rfl⟩
        rw [hz] at hme HSp
        clear hz
        go_wp2_with fail
        refine (CS0.out _ HSb.out).mono ?_
        rintro e w5 ⟨v5, rfl, hp5, h5, hb5⟩
        obtain ⟨sa5, sc5, rfl, -⟩ := hp5.shape
        have H5 : Hid (Sb SA w p S X t u w5 ∧ PsAt w5.heap.size (.slice sa5 R.length sc5) R w5 ∧ PsAt w5.heap.size (.slice sa R.length sc) R w5) := ⟨h5, hp5, RwAt.le (RwAt.on HPw.out hb5) hb5.size⟩
        clear hp5 h5 hb5 CS0 HPw HSb
        cases z
        · have HQ : Hid (Q1 ++ Q2 = R) := HSp.out rfl
          have hql : Q1.length + Q2.length ≤ 32 := by
            have := congrArg List.length HQ.out
            rw [List.length_append] at this
            omega
          have H5f : Hid (Sf SA w p S X t u (.slice sa5 R.length sc5) (.slice sa R.length sc) R w5) := ⟨H5.out.1, H5.out.2.1, H5.out.2.2⟩
          have CPa : Hid (∀ W, Sf SA w p S X t u (.slice sa5 R.length sc5) (.slice sa R.length sc) R W → Calls Try.prog 21 #[.slice sa5 R.length sc5, .slice sa R.length sc] W fun e w' => e = .returned (.bool true) ∧ Sf SA w p S X t u (.slice sa5 R.length sc5) (.slice sa R.length sc) R w') := fun W h => by
            refine (CPs.out W R _ _ h.sb h.a h.b).mono ?_
            rintro e w' ⟨rfl, _, hb⟩
            exact ⟨rfl, h.on I hb⟩
          have CPb : Hid (∀ W v9, Sf SA w p S X t u (.slice sa5 R.length sc5) (.slice sa R.length sc) R W → PsAt W.heap.size v9 R W → Calls Try.prog 21 #[v9, .slice sa R.length sc] W fun e w' => e = .returned (.bool true) ∧ Sf SA w p S X t u (.slice sa5 R.length sc5) (.slice sa R.length sc) R w') := fun W v9 h h9 => by
            refine (CPs.out W R _ _ h.sb h9 h.b).mono ?_
            rintro e w' ⟨rfl, _, hb⟩
            exact ⟨rfl, h.on I hb⟩
          clear HSp H5 CPs
          go_upto_region 18 with fail
          go_region_held3 (fun W => W.cell? ⟨X, 0, none⟩ = some (.int .u64 t) ∧ W.cell? ⟨X, 1, none⟩ = some (.int .u32 u) ∧ Sf SA w p S X t u (.slice sa5 R.length sc5) (.slice sa R.length sc) R W)
            ((with_reducible refine Sf.two ?_; with_reducible repeat (first | exact H5f.out | exact H6.out | exact H7.out.1 | exact H8.out | exact H9.out.1 | exact H10.out | refine Sf.dr I ?_)))
            (first
            | (go_at_call_of 21 (Value.slice sa5 R.length sc5); refine (CPa.out _ (Sf.dr I H5f.out)).mono ?_; rintro e w6 ⟨rfl, h6⟩; have H6 : Hid (Sf SA w p S X t u (.slice sa5 R.length sc5) (.slice sa R.length sc) R w6) := h6; clear h6)
            | (go_at_call 22; (with_reducible refine (CS1.out _ H6.out.sb).mono ?_); rintro e w7 ⟨v7, rfl, ho7, _, hb7⟩; have H7 : Hid (Sf SA w p S X t u (.slice sa5 R.length sc5) (.slice sa R.length sc) R w7 ∧ w7.ownsRow w6.heap.size 59 2 v7 Q1.length (prc Q1) ∧ Below w6.heap.size w6 w7) := ⟨H6.out.on I hb7, ho7, hb7⟩; clear ho7 hb7)
            | (go_at_call 22; (with_reducible refine (CS2.out _ H7.out.1.sb).mono ?_); rintro e w8 ⟨v8, rfl, ho8, _, hb8⟩; have H8 : Hid (Sf SA w p S X t u (.slice sa5 R.length sc5) (.slice sa R.length sc) R w8) := H7.out.1.on I hb8; have HOw : Hid (Ow w6.heap.size 59 2 v7 Q1.length (prc Q1) w8.heap.size v8 Q2.length (prc Q2) w8) := ⟨own_on H7.out.2.1 hb8, rw_own ho8, prc_one _, Nat.le_trans H7.out.2.2.size hb8.size, by omega⟩; have HB8 : Hid (Below w6.heap.size w6 w8) := H7.out.2.2.trans (hb8.mono H7.out.2.2.size); clear ho8 hb8)
            | (refine step_append_rw HOw.out Try.underlying49 hin hi0 hi1 hi2 rfl (by decide) (by decide) (.tmp 65) (.tmp 69) (by rfl) (by rfl) (by rfl) (by rfl) ?_; intro v9 w9 hown hg hat; have HB9 : Hid (Below w6.heap.size w6 w9) := below_own HB8.out HOw.out.size HOw.out.own hg; have H9 : Hid (Sf SA w p S X t u (.slice sa5 R.length sc5) (.slice sa R.length sc) R w9 ∧ PsAt w9.heap.size v9 R w9) := ⟨H6.out.on I HB9.out, (by have h := rw_own hown; rw [← prc_append, ← List.length_append, HQ.out] at h; exact h)⟩; clear hown hg hat)
            | (go_at_call 21; refine (CPb.out _ v9 H9.out.1 H9.out.2).mono ?_; rintro e w10 ⟨rfl, h10⟩; have H10 : Hid (Sf SA w p S X t u (.slice sa5 R.length sc5) (.slice sa R.length sc) R w10) := h10; clear h10))
          rename_i hHeld
          clear hHeld
          go_wp2_with fail
          go_ret
          exact ⟨rfl, H10.out.sb.pw.bel⟩
        · have CP5 : Hid (1 = 1 → _) := fun _ => CPs.out w5 R _ _ H5.out.1 H5.out.2.1 H5.out.2.2
          clear CPs CS1 CS2
          go_wp2_with fail
          refine (CP5.out (by trivial)).mono ?_
          rintro e w6 ⟨rfl, h6, -⟩
          have H6 : Hid (Sb SA w p S X t u w6) := h6
          clear h6
          go_wp2_with fail
          go_ret
          exact ⟨rfl, H6.out.pw.bel⟩
end Go.Proofs.Ytcfhkggijdjagaa
