/-
  An entry in a box of putHead's and putRest's own, and the Writer.
-/
import Derived.Test.YtmgjlpgjjeknpaaHa
import Derived.Test.YtmgjlpgjjeknpaaWz
namespace Go.Proofs.Ytmgjlpgjjeknpaa
open Go.RowKit Go.Sort

/-- An entry in a box, a Writer elsewhere, the entry's writes below both. -/
structure Pz (w : World) (B b pb : Nat) (e : En) (ao : Option Addr) (cp : Nat) (L : List UInt8) (W : World) : Prop where
  x : W.heap[b]? = some (.cells #[.int .i64 e.k, .int .u32 (e.c : Int), .int .u32 (e.n : Int), .int .u64 (e.sp : Int), .int .u32 (e.sl : Int), .int .u64 (e.ap : Int), .int .u32 (e.al : Int), .int .u64 (e.mp : Int), .int .u32 (e.ml : Int), .string (bs e.prim), .int .u8 (e.pt : Int), .bool e.dn, .slice ao e.ws.length cp] 30 (0, 0))
  wr : WrAt pb L W
  ne : b ≠ pb
  k : KeptW pb w W
  ws : WsAt B (.slice ao e.ws.length cp) e.ws W
  hB : B ≤ pb
variable {w W W' : World} {B b pb : Nat} {e : En} {ao : Option Addr} {cp : Nat} {L L' : List UInt8}
theorem pz_new (hw : WrAt pb L w) (hws : WsAt B (.slice ao e.ws.length cp) e.ws w) (hB : B ≤ pb) : Pz w B w.heap.size pb e ao cp L (w.alloc (.cells #[.int .i64 e.k, .int .u32 (e.c : Int), .int .u32 (e.n : Int), .int .u64 (e.sp : Int), .int .u32 (e.sl : Int), .int .u64 (e.ap : Int), .int .u32 (e.al : Int), .int .u64 (e.mp : Int), .int .u32 (e.ml : Int), .string (bs e.prim), .int .u8 (e.pt : Int), .bool e.dn, .slice ao e.ws.length cp] 30)) := by
  obtain ⟨v, h1, h2⟩ := hw
  have hlt := (Array.getElem?_eq_some_iff.1 h1).1
  exact ⟨heap_alloc_new w _, WrAt.alloc ⟨v, h1, h2⟩ _, by omega, (KeptW.refl pb w).alloc (Nat.le_of_lt hlt) _, hws.on ((al _).mono (by omega)), hB⟩
theorem Pz.go (h : Pz w B b pb e ao cp L W) (hw : WrAt pb L' W') (hk : KeptW pb W W') : Pz w B b pb e ao cp L' W' :=
  ⟨hk.other b _ h.x h.ne (fun cs fz hh => by injection hh with _ h2 _; exact absurd h2 (by decide)), hw, h.ne, h.k.trans hk, h.ws.on (hk.below.mono h.hB), h.hB⟩
/-- And a write in a box. -/
structure Pb (w : World) (B b pb bw : Nat) (e : En) (ao : Option Addr) (cp : Nat) (L : List UInt8) (x : Wr) (W : World) : Prop where
  z : Pz w B b pb e ao cp L W
  bx : W.heap[bw]? = some (.cells #[.string (bs x.key), .string (bs x.val), .bool x.dead] 60 (0, 0))
  ne : bw ≠ pb
variable {bw : Nat} {x : Wr}
theorem Pz.box (h : Pz w B b pb e ao cp L W) (x : Wr) : Pb w B b pb W.heap.size e ao cp L x (W.alloc (.cells #[.string (bs x.key), .string (bs x.val), .bool x.dead] 60)) := by
  obtain ⟨v, h1, h2⟩ := h.wr
  have hlt := (Array.getElem?_eq_some_iff.1 h1).1
  have hlb := h.hB
  exact ⟨⟨by rw [(al (W := W) _).block b (Array.getElem?_eq_some_iff.1 h.x).1]; exact h.x, h.wr.al, h.ne, h.k.alloc (Nat.le_of_lt hlt) _, h.ws.on ((al _).mono (by omega)), h.hB⟩, heap_alloc_new W _, by omega⟩
theorem Pb.go (h : Pb w B b pb bw e ao cp L x W) (hw : WrAt pb L' W') (hk : KeptW pb W W') : Pb w B b pb bw e ao cp L' x W' :=
  ⟨h.z.go hw hk, hk.other bw _ h.bx h.ne (fun cs fz hh => by injection hh with _ h2 _; exact absurd h2 (by decide)), h.ne⟩
end Go.Proofs.Ytmgjlpgjjeknpaa
