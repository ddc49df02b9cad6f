/-
  What the laws say of a reading, plainly.
-/
import Derived.Test.YtmgjlpgjjeknpaaIf
namespace Go.Proofs.Ytmgjlpgjjeknpaa
open Go.RowKit Go.Sort

/-- What Read answers: the entry or none, the code. -/
def rdV (s : List UInt8) : En × Int := match readE s with
  | some e => (e, 0)
  | none => (zeroE, 2)
theorem RdPost.un {s : List UInt8} {w w' : World} {r : Ending} (h : RdPost s w r w') : Below w.heap.size w w' ∧ ∃ ao cp, r = .returned (.tuple #[.agg #[.int .i64 (rdV s).1.k, .int .u32 ((rdV s).1.c : Int), .int .u32 ((rdV s).1.n : Int), .int .u64 ((rdV s).1.sp : Int), .int .u32 ((rdV s).1.sl : Int), .int .u64 ((rdV s).1.ap : Int), .int .u32 ((rdV s).1.al : Int), .int .u64 ((rdV s).1.mp : Int), .int .u32 ((rdV s).1.ml : Int), .string (bs (rdV s).1.prim), .int .u8 ((rdV s).1.pt : Int), .bool (rdV s).1.dn, .slice ao (rdV s).1.ws.length cp], .int .i64 (rdV s).2]) ∧ WsAt w'.heap.size (.slice ao (rdV s).1.ws.length cp) (rdV s).1.ws w' := by
  obtain ⟨hb, hn, hs⟩ := h
  refine ⟨hb, ?_⟩
  unfold rdV
  cases hr : readE s with
  | none => exact ⟨none, 0, hn hr, RwAt.nil _ _ _⟩
  | some e => exact hs e hr
theorem rdV_cases (s : List UInt8) : (rdV s).2 = 0 ∧ rightE (rdV s).1 = true ∧ formE (rdV s).1 = s ∧ RgE (rdV s).1 ∨ (rdV s).2 = 2 ∧ (rdV s).1.k = 0 := by
  unfold rdV
  cases hr : readE s with
  | none => exact .inr ⟨rfl, rfl⟩
  | some e =>
    obtain ⟨h1, h2, h3⟩ := read_some hr
    exact .inl ⟨rfl, h1, h2, h3⟩
theorem sameE_self (e : En) : sameE e e = true := sameE_iff.2 rfl
theorem ok_right {e : En} (h : rightE e = true) (hr : RgE e) : EnOk e ∧ e.ws.length ≤ 16 := by
  have hk := wk_of h hr
  obtain ⟨⟨h1, h9⟩, _⟩ := rightE_iff h
  refine ⟨⟨hr, ⟨by omega, by omega⟩, ⟨by have := hk.sp; omega, by have := hk.sq; omega⟩, ⟨by have := hk.ap; omega, by have := hk.aq; omega⟩, ⟨by have := hk.mp; omega, by have := hk.mq; omega⟩, by have := hk.prim; omega, by have := hk.len; omega, fun x hx => ?_⟩, hk.len⟩
  obtain ⟨h2, h3⟩ := wOk_iff (hk.ws x hx)
  omega
end Go.Proofs.Ytmgjlpgjjeknpaa
