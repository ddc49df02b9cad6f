/-
  The program's takeWrite.
-/
import Derived.Test.YtmgjlpgjjeknpaaHa
import Derived.Test.YtmgjlpgjjeknpaaRo
import Derived.Test.YtmgjlpgjjeknpaaRz
namespace Go.Proofs.Ytmgjlpgjjeknpaa
open Go.RowKit Go.Sort

variable {T B : Nat} {w W W' : World} {bx br be : Nat} {cs : Array Value} {v : Value} {ws : List Wr} {st : St}
/-- One more write behind the row. -/
theorem Rz.grow (h : Rz T B w bx br be cs v ws st W) (x : Wr) {v' : Value} {W1 W2 : World} (hW : W.alloc (.cells #[.string (bs x.key), .string (bs x.val), .bool x.dead] 60) = W1) (hown : W2.ownsRow B 60 3 v' (ws.length + 1) (rowC wrc ws ++ rowC wrc [x])) (hg : W1.grownBy W2 v.ownBlock) : Rz T B w bx br be cs v' (ws ++ [x]) st W2 := by
  have hz : Rz T B w bx br be cs v ws st W1 := by rw [← hW]; exact h.on (al _)
  have hk := grown_kept hg
  have h1 := hz.xb
  have h2 := hz.rb
  have h3 := hz.eb
  have h4 := hz.lx
  have ob := hz.ob
  refine ⟨hz.bel.trans (hk.below hz.bel.size (fun k hf => by have := ob k hf; omega)), ?_, ?_, ?_, by rw [rowC_append, List.length_append]; exact hown, hz.lx, hz.lr, hz.le, hz.xb, hz.rb, hz.eb, hz.nxr, hz.nxe, hz.nre, Nat.le_trans hz.big hk.size, hz.len⟩
  · rw [hk.block bx (Array.getElem?_eq_some_iff.1 hz.x).1 (fun hf => by have := ob _ hf; omega)]; exact hz.x
  · show _ = _
    rw [hk.block br (Array.getElem?_eq_some_iff.1 hz.r).1 (fun hf => by have := ob _ hf; omega)]; exact hz.r
  · rw [hk.block be (Array.getElem?_eq_some_iff.1 hz.y).1 (fun hf => by have := ob _ hf; omega)]; exact hz.y
set_option maxHeartbeats 3200000 in
set_option maxRecDepth 100000 in
theorem tw58 {key va : List UInt8} {d : Bool} {tb tc td : St} (h : Rz 85 B w bx br be cs v ws st W) (h1 : rdText 1 32 st = (key, tb)) (h2 : rdFlag tb = (d, tc)) (h3 : rdText 0 256 tc = (va, td)) :
    Calls Try.prog 58 #[.pointer (some ⟨br, 0, none⟩)] W fun r w' => r = .returned (.agg #[.string (bs key), .string (bs va), .bool d]) ∧ Rz 85 B w bx br be cs v ws td w' := by
  have HB0 : Hid _ := h.box ⟨[], [], false⟩
  obtain ⟨y0, hy0⟩ : ∃ ya, W.alloc (.cells #[.string ⟨#[]⟩, .string ⟨#[]⟩, .bool false] 60) = ya := ⟨_, rfl⟩
  obtain ⟨bw, hbw⟩ : ∃ b, W.heap.size = b := ⟨_, rfl⟩
  have HB1 : Hid (Rb 85 B w bx br be bw cs v ws st ⟨[], [], false⟩ y0) := by rw [← hy0, ← hbw]; exact HB0.out
  have L1 : tb.l.length ≤ st.l.length := by have := rdText_le 1 32 st; rw [h1] at this; exact this
  have L2 : tc.l.length ≤ tb.l.length := by have := rdFlag_le tb; rw [h2] at this; exact this
  have L3 : td.l.length ≤ tc.l.length := by have := rdText_le 0 256 tc; rw [h3] at this; exact this
  have C1 : Hid (1 = 1 → Calls Try.prog 55 #[.pointer (some ⟨br, 0, none⟩), .int .i64 1, .int .i64 32] y0 fun r w' => r = .returned (.string (bs key)) ∧ RdAt 85 br tb w' ∧ Sole br y0 w') := fun _ => by
    have := text21 br st 1 32 y0 HB1.out.z.r (by have := HB1.out.z.len; omega) (by omega) (by omega) (by omega) (by omega)
    rw [h1] at this
    exact this
  have C2 : Hid (∀ Y, Rb 85 B w bx br be bw cs v ws tb ⟨[], [], false⟩ Y → Calls Try.prog 56 #[.pointer (some ⟨br, 0, none⟩)] Y fun r w' => r = .returned (.bool d) ∧ RdAt 85 br tc w' ∧ Sole br Y w') := fun Y hY => by
    have := flag22 br tb Y hY.z.r
    rw [h2] at this
    exact this
  have C3 : Hid (∀ Y, Rb 85 B w bx br be bw cs v ws tc ⟨[], [], false⟩ Y → Calls Try.prog 55 #[.pointer (some ⟨br, 0, none⟩), .int .i64 0, .int .i64 256] Y fun r w' => r = .returned (.string (bs va)) ∧ RdAt 85 br td w' ∧ Sole br Y w') := fun Y hY => by
    have := text21 br tc 0 256 Y hY.z.r (by have := hY.z.len; omega) (by omega) (by omega) (by omega) (by omega)
    rw [h3] at this
    exact this
  have HLs : Hid (tb.l.length ≤ st.l.length ∧ tc.l.length ≤ tb.l.length ∧ td.l.length ≤ tc.l.length) := ⟨L1, L2, L3⟩
  clear h h1 h2 h3 L1 L2 L3 HB0
  go_enter Try.func58, Try.ntmps58
  go_wp2_with fail
  refine (C1.out (by trivial)).mono ?_
  rintro r x1 ⟨rfl, hr, hs⟩
  have H1 : Hid (Rb 85 B w bx br be bw cs v ws tb ⟨[], [], false⟩ x1) := HB1.out.rd hr hs HLs.out.1
  clear hr hs C1 HB1 hy0 hbw
  go_wp2_with fail
  refine (C2.out x1 H1.out).mono ?_
  rintro r x2 ⟨rfl, hr, hs⟩
  have H2 : Hid (Rb 85 B w bx br be bw cs v ws tc ⟨[], [], false⟩ x2) := H1.out.rd hr hs HLs.out.2.1
  clear hr hs C2 H1
  go_wp2_with fail
  refine (C3.out x2 H2.out).mono ?_
  rintro r x3 ⟨rfl, hr, hs⟩
  have H3 : Hid (Rb 85 B w bx br be bw cs v ws td ⟨[], [], false⟩ x3) := H2.out.rd hr hs HLs.out.2.2
  clear hr hs C3 H2 HLs
  have q0 : x3.cell? ⟨bw, 0, none⟩ = some (.string ⟨#[]⟩) := block_cell H3.out.b rfl
  have q1 : x3.cell? ⟨bw, 1, none⟩ = some (.string ⟨#[]⟩) := block_cell H3.out.b rfl
  have q2 : x3.cell? ⟨bw, 2, none⟩ = some (.bool false) := block_cell H3.out.b rfl
  have f0 : x3.frozen? ⟨bw, 0, none⟩ = false := block_frozen H3.out.b 0
  have f1 : x3.frozen? ⟨bw, 1, none⟩ = false := block_frozen H3.out.b 1
  have f2 : x3.frozen? ⟨bw, 2, none⟩ = false := block_frozen H3.out.b 2
  have H4 : Hid (Rb 85 B w bx br be bw cs v ws td ⟨key, va, d⟩ (((x3.setCell ⟨bw, 0, none⟩ (.string (bs key))).setCell ⟨bw, 1, none⟩ (.string (bs va))).setCell ⟨bw, 2, none⟩ (.bool d))) := ((H3.out.set 0 (.string (bs key)) ⟨key, [], false⟩ rfl).set 1 (.string (bs va)) ⟨key, va, false⟩ rfl).set 2 (.bool d) ⟨key, va, d⟩ rfl
  go_wp2_with fail
  have r0 : (((x3.setCell ⟨bw, 0, none⟩ (.string (bs key))).setCell ⟨bw, 1, none⟩ (.string (bs va))).setCell ⟨bw, 2, none⟩ (.bool d)).cell? ⟨bw, 0, none⟩ = some (.string (bs key)) := block_cell H4.out.b rfl
  have r1 : (((x3.setCell ⟨bw, 0, none⟩ (.string (bs key))).setCell ⟨bw, 1, none⟩ (.string (bs va))).setCell ⟨bw, 2, none⟩ (.bool d)).cell? ⟨bw, 1, none⟩ = some (.string (bs va)) := block_cell H4.out.b rfl
  have r2 : (((x3.setCell ⟨bw, 0, none⟩ (.string (bs key))).setCell ⟨bw, 1, none⟩ (.string (bs va))).setCell ⟨bw, 2, none⟩ (.bool d)).cell? ⟨bw, 2, none⟩ = some (.bool d) := block_cell H4.out.b rfl
  refine bodyPost_ret (v := .agg #[.string (bs key), .string (bs va), .bool d]) (by simp [results, Try.results58, go_sem, r0, r1, r2]) rfl ?_
  exact ⟨rfl, H4.out.z⟩
end Go.Proofs.Ytmgjlpgjjeknpaa
