import Derived.ProofKit
import Derived.OpenShut
import Derived.Lib.SmallJoins
import Derived.SizedLaws
import Derived.ShutString
import Derived.Deep.Strs
import Derived.Test.YtajjnmdomabmkaaGreatNg
import Derived.Test.YtajjnmdomabmkaaGreatWbt
set_option maxHeartbeats 4000000
set_option maxRecDepth 100000
set_option linter.unusedVariables false
namespace Go.Proofs.YtajjnmdomabmkaaGreat
open Go.ChangeShapes Go.WideShapes Go.ChangeAt Go.RowKit Go.Joins Go.Deep
namespace Opn
theorem own : ownKnob Tryz.prog.godebug = none := by kernel_rfl
theorem laidOut : laidOutB Tryz.prog = true := Nob.j1
theorem c3 : Tryz.prog.cellsOf 3 = 1 := by kernel_rfl
theorem cu8 : Tryz.prog.cellsOf 5 = 1 := by kernel_rfl
theorem cStr : Tryz.prog.cellsOf 9 = 1 := by kernel_rfl
theorem cu64 : Tryz.prog.cellsOf 27 = 1 := by kernel_rfl
theorem cu32 : Tryz.prog.cellsOf 28 = 1 := by kernel_rfl
theorem cTs : Tryz.prog.cellsOf 32 = 2 := by kernel_rfl
theorem cTxn : Tryz.prog.cellsOf 30 = 2 := by kernel_rfl
theorem cWs : Tryz.prog.cellsOf 33 = 1 := by kernel_rfl
theorem cTx : Tryz.prog.cellsOf 34 = 1 := by kernel_rfl
theorem cRq : Tryz.prog.cellsOf 36 = 13 := by kernel_rfl
section
variable {H : Type} {enc : TypeId × Value → H} {w : World} {base : Nat} {spare : Nat → Bool} {held : Bool}
theorem bs_self (s : ByteArray) : bs s.data.toList = s := by
 obtain ⟨d⟩ := s
 simp [bs]
theorem str_open {fuel : Nat} {cs : List Value} {x : DataW H × List MemPlace} (h : DataW.trod enc Tryz.prog w base spare held fuel 9 cs = some x) : ∃ l : List UInt8, cs = [.string (bs l)] := by
 obtain ⟨s, e0, rfl, _⟩ := DataW.trod_string Tryz.underlying9 h
 exact ⟨s.data.toList, by rw [bs_self]; exact e0⟩
theorem ts_open {fuel : Nat} {cs : List Value} {x : DataW H × List MemPlace} (h : DataW.trod enc Tryz.prog w base spare held fuel 32 cs = some x) : ∃ p q : Int, cs = [.int .u64 p, .int .u32 q] := by
 obtain ⟨y0, y1, n, rfl, hl, h0, h1⟩ := trod_struct2 Tryz.underlying32 h
 rw [cTs] at hl
 match cs, hl with
 | [c0, c1], _ =>
  simp only [cu64, cu32, List.drop_zero, List.take_succ_cons, List.take_zero, List.drop_succ_cons] at h0 h1
  obtain ⟨p, e0, rfl, w0⟩ := DataW.trod_int Tryz.underlying27 h0
  obtain ⟨q, e1, rfl, w1⟩ := DataW.trod_int Tryz.underlying28 h1
  simp only [List.cons.injEq, and_true] at e0 e1
  subst e0 e1
  exact ⟨p, q, rfl⟩
theorem txn_open {fuel : Nat} {cs : List Value} {x : DataW H × List MemPlace} (h : DataW.trod enc Tryz.prog w base spare held fuel 30 cs = some x) : ∃ p q : Int, cs = [.int .u32 p, .int .u32 q] := by
 obtain ⟨y0, y1, n, rfl, hl, h0, h1⟩ := trod_struct2 Tryz.underlying30 h
 rw [cTxn] at hl
 match cs, hl with
 | [c0, c1], _ =>
  simp only [cu32, List.drop_zero, List.take_succ_cons, List.take_zero, List.drop_succ_cons] at h0 h1
  obtain ⟨p, e0, rfl, w0⟩ := DataW.trod_int Tryz.underlying28 h0
  obtain ⟨q, e1, rfl, w1⟩ := DataW.trod_int Tryz.underlying28 h1
  simp only [List.cons.injEq, and_true] at e0 e1
  subst e0 e1
  exact ⟨p, q, rfl⟩
theorem sl_open {t e : TypeId} (ht : Tryz.prog.underlying t = some (.slice e)) {fuel : Nat} {v : Value} {x : DataW H × List MemPlace} (h : DataW.trod enc Tryz.prog w base (fun _ => true) held fuel t [v] = some x) : ∃ ao n cp, v = .slice ao n cp := by
 rcases open_slice ht h with ⟨hcs, _⟩ | ⟨a, len', cap', m, n, D, Pl, hcs, _⟩
 ·simp at hcs
  exact ⟨_, _, _, hcs⟩
 ·simp at hcs
  exact ⟨_, _, _, hcs⟩
theorem struct10 {t : TypeId} {f0 f1 f2 f3 f4 f5 f6 f7 f8 f9 : Field} {fuel : Nat} {cs : List Value} {x : DataW H × List MemPlace} (ht : Tryz.prog.underlying t = some (.struct #[f0, f1, f2, f3, f4, f5, f6, f7, f8, f9])) (h : DataW.trod enc Tryz.prog w base spare held fuel t cs = some x) :
  ∃ y0 y1 y2 y3 y4 y5 y6 y7 y8 y9 n, x.1 = .agg [y0.1, y1.1, y2.1, y3.1, y4.1, y5.1, y6.1, y7.1, y8.1, y9.1] ∧ cs.length = Tryz.prog.cellsOf t ∧ DataW.trod enc Tryz.prog w base spare held n f0.type ((cs.drop f0.offset).take (Tryz.prog.cellsOf f0.type)) = some y0 ∧ DataW.trod enc Tryz.prog w base spare held n f1.type ((cs.drop f1.offset).take (Tryz.prog.cellsOf f1.type)) = some y1 ∧ DataW.trod enc Tryz.prog w base spare held n f2.type ((cs.drop f2.offset).take (Tryz.prog.cellsOf f2.type)) = some y2 ∧ DataW.trod enc Tryz.prog w base spare held n f3.type ((cs.drop f3.offset).take (Tryz.prog.cellsOf f3.type)) = some y3 ∧ DataW.trod enc Tryz.prog w base spare held n f4.type ((cs.drop f4.offset).take (Tryz.prog.cellsOf f4.type)) = some y4 ∧ DataW.trod enc Tryz.prog w base spare held n f5.type ((cs.drop f5.offset).take (Tryz.prog.cellsOf f5.type)) = some y5 ∧ DataW.trod enc Tryz.prog w base spare held n f6.type ((cs.drop f6.offset).take (Tryz.prog.cellsOf f6.type)) = some y6 ∧ DataW.trod enc Tryz.prog w base spare held n f7.type ((cs.drop f7.offset).take (Tryz.prog.cellsOf f7.type)) = some y7 ∧ DataW.trod enc Tryz.prog w base spare held n f8.type ((cs.drop f8.offset).take (Tryz.prog.cellsOf f8.type)) = some y8 ∧ DataW.trod enc Tryz.prog w base spare held n f9.type ((cs.drop f9.offset).take (Tryz.prog.cellsOf f9.type)) = some y9 := by
 obtain ⟨xs, n, _, rfl, hl, hlen, hf⟩ := DataW.trod_struct ht h
 match xs, hlen with
 | [y0, y1, y2, y3, y4, y5, y6, y7, y8, y9], _ => exact ⟨y0, y1, y2, y3, y4, y5, y6, y7, y8, y9, n, by simp, hl, by simpa using hf 0 f0 rfl, by simpa using hf 1 f1 rfl, by simpa using hf 2 f2 rfl, by simpa using hf 3 f3 rfl, by simpa using hf 4 f4 rfl, by simpa using hf 5 f5 rfl, by simpa using hf 6 f6 rfl, by simpa using hf 7 f7 rfl, by simpa using hf 8 f8 rfl, by simpa using hf 9 f9 rfl⟩
theorem rq_open {fuel : Nat} {cs : List Value} {x : DataW H × List MemPlace} (h : DataW.trod enc Tryz.prog w base (fun _ => true) held fuel 36 cs = some x) : ∃ (k c n sp sl ap al lim pt : Int) (key hi : List UInt8) (wa sa : Option Addr) (wn wc sn sc : Nat), cs = [.int .i64 k, .int .u32 c, .int .u32 n, .int .u64 sp, .int .u32 sl, .int .u64 ap, .int .u32 al, .string (bs key), .string (bs hi), .int .i64 lim, .int .u8 pt, .slice wa wn wc, .slice sa sn sc] := by
 obtain ⟨y0, y1, y2, y3, y4, y5, y6, y7, y8, y9, n, hx, hl, h0, h1, h2, h3, h4, h5, h6, h7, h8, h9⟩ := struct10 Tryz.underlying36 h
 rw [cRq] at hl
 match cs, hl with
 | [k0, k1, k2, k3, k4, k5, k6, k7, k8, k9, k10, k11, k12], _ =>
  simp only [c3, cTxn, cTs, cStr, cu8, cWs, cTx, List.drop_zero, List.take_succ_cons, List.take_zero, List.drop_succ_cons] at h0 h1 h2 h3 h4 h5 h6 h7 h8 h9
  obtain ⟨k, e0, -, -⟩ := DataW.trod_int Tryz.underlying3 h0
  obtain ⟨c, m, e1⟩ := txn_open h1
  obtain ⟨sp, sl, e2⟩ := ts_open h2
  obtain ⟨ap, al, e3⟩ := ts_open h3
  obtain ⟨key, e4⟩ := str_open h4
  obtain ⟨tt, e5⟩ := str_open h5
  obtain ⟨lim, e6, -, -⟩ := DataW.trod_int Tryz.underlying3 h6
  obtain ⟨pt, e7, -, -⟩ := DataW.trod_int Tryz.underlying5 h7
  obtain ⟨wa, wn, wc, e8⟩ := sl_open Tryz.underlying33 h8
  obtain ⟨sa, sn, sc, e9⟩ := sl_open Tryz.underlying34 h9
  simp only [List.cons.injEq, and_true] at e0 e1 e2 e3 e4 e5 e6 e7
  obtain ⟨e1, e1'⟩ := e1
  obtain ⟨e2, e2'⟩ := e2
  obtain ⟨e3, e3'⟩ := e3
  subst e0 e1 e1' e2 e2' e3 e3' e4 e5 e6 e7 e8 e9
  exact ⟨k, c, m, sp, sl, ap, al, lim, pt, key, tt, wa, sa, wn, wc, sn, sc, rfl⟩
end
end Opn
namespace ShardNobodyRow
theorem lifted (os : Os) (started : os.Started) (H : Type) (enc : TypeId × Value → H) :
  ReturnsInHanded {} Tryz.checked os 7 .any (Rows.shardNobodySpec.pre6 enc Tryz.prog Tryz.f7 Rows.shardNobodyRow.domain false) (Rows.shardNobodySpec.post enc Tryz.prog Tryz.f7 false true false false) := by
 refine returnsInHanded_of_change_sized (C := Tryz.checked) Opn.own started (by kernel_rfl) Tryz.func7
  (ChangeSpec.witness6 (enc := enc) (C := Tryz.checked) false ⟨#[], #[.int .u64 0, .agg #[.int .i64 0, .int .u32 0, .int .u32 0, .int .u64 0, .int .u32 0, .int .u64 0, .int .u32 0, .string ⟨#[]⟩, .string ⟨#[]⟩, .int .i64 0, .int .u8 0, .slice none 0 0, .slice none 0 0]], []⟩ 8 (by kernel_rfl) (by kernel_rfl) (by kernel_rfl) (by kernel_rfl)) ?_
 intro W base args ds gs before hval0 hW _ _ _
 have hval : ∀ (j : Nat) t v, Tryz.f7.params[j]? = some t → args[j]? = some v → Value.okWide Tryz.prog W .any base t v := hval0
 have hW' := hW
 obtain ⟨p, q, hA0, hV, rfl, hfz, hnd⟩ := hW
 have hA : DataW.TrodAll enc Tryz.prog W 0 (fun _ => true) true Tryz.f7.params.toList args.toList ds p := hA0
 rw [Tryz.params7] at hA hval
 obtain ⟨v0, v1, d0, d1, p0, p1, rfl, rfl, rfl, h0, h1⟩ := trodAll_two hA
 obtain ⟨rfl, rfl⟩ := trodVars_none hV
 have h0k := h0
 have h1k := h1
 obtain ⟨ph, rfl⟩ := okWide_int Tryz.underlying27 (hval 0 27 v0 rfl rfl)
 obtain ⟨cs1, rfl, _⟩ := okWide_struct Tryz.underlying36 (hval 1 36 v1 rfl rfl)
 obtain ⟨f1, hf1⟩ := h1
 obtain ⟨k, c, n, sp, sl, ap, al, lim, pt, key, hi, wa, sa, wn, wc, sn, sc, hu1⟩ := Opn.rq_open hf1
 obtain rfl : cs1 = #[.int .i64 k, .int .u32 c, .int .u32 n, .int .u64 sp, .int .u32 sl, .int .u64 ap, .int .u32 al, .string (bs key), .string (bs hi), .int .i64 lim, .int .u8 pt, .slice wa wn wc, .slice sa sn sc] := by
  apply Array.ext'
  simpa [Value.cells] using hu1
 clear hA0 hval0 hA
 simp only [List.append_nil] at hW'
 have hlt : ∀ x ∈ p0 ++ p1, x.block < W.heap.size := fun x hx => by simpa using hW'.lt x (by simpa using hx)
 refine (nobody7 env ph k c n sp sl ap al lim pt key hi wa sa wn wc sn sc W).mono fun e W' ⟨he, bel⟩ => ?_
 subst he
 exact ⟨_, rfl, _, _, _, _, _, [], hW', trodAll_mk1 (shut_bool Tryz.underlying4 _), trodAll_mk2 (Below.trod Opn.laidOut (by kernel_rfl) (of_decide_eq_true (by kernel_rfl)) h0k bel fun x hx => hlt x (by simp [hx])) (Below.trod Opn.laidOut (by kernel_rfl) (of_decide_eq_true (by kernel_rfl)) h1k bel fun x hx => hlt x (by simp [hx])), rfl, bel.frame _, fun h => by cases h⟩
end ShardNobodyRow
theorem shardNobody_holds : Rows.ShardNobodySaid :=
 OpenClaim.holds_of_wide 7 Tryz.f7 rfl rfl rfl rfl rfl rfl rfl ⟨rfl, rfl, rfl, rfl, rfl⟩ rfl rfl rfl rfl rfl Nob.named Tryz.func7 Nob.closed Nob.inst Nob.wrap
  (fun os started H enc _ => ShardNobodyRow.lifted os started H enc)
#print axioms shardNobody_holds
end Go.Proofs.YtajjnmdomabmkaaGreat
