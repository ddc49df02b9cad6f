/-
  EntryCuts, walked.
-/
import Derived.Test.YtmgjlpgjjeknpaaLb
namespace Go.Proofs.Ytmgjlpgjjeknpaa
open Go.RowKit Go.Sort

set_option maxHeartbeats 1600000 in
set_option maxRecDepth 100000 in
theorem cuts6 (I : Ife) (e : En) (ao : Option Addr) (cp : Nat) (cut : Int) (more : List UInt8) (w : World) (hws : WsAt w.heap.size (.slice ao e.ws.length cp) e.ws w) (hok : EnOk e) (hmore : more.length ≤ 140737488351232) :
    Calls Try.prog 6 #[.agg #[.int .i64 e.k, .int .u32 (e.c : Int), .int .u32 (e.n : Int), .int .u64 (e.sp : Int), .int .u32 (e.sl : Int), .int .u64 (e.ap : Int), .int .u32 (e.al : Int), .int .u64 (e.mp : Int), .int .u32 (e.ml : Int), .string (bs e.prim), .int .u8 (e.pt : Int), .bool e.dn, .slice ao e.ws.length cp], .int .i64 cut, .string (bs more)] w fun r w' => r = .returned (.bool true) ∧ Below w.heap.size w w' := by
  have CA : Hid (∀ W : World, 1 = 1 → Calls Try.prog 7 #[] W fun e w' => e = .returned (.bool true) ∧ Below W.heap.size W w') := fun W _ => awake7 I W
  have H0 : Hid _ := eb_new hws
  obtain ⟨W1, hW1⟩ : ∃ W1, w.alloc (.cells #[.int .i64 e.k, .int .u32 (e.c : Int), .int .u32 (e.n : Int), .int .u64 (e.sp : Int), .int .u32 (e.sl : Int), .int .u64 (e.ap : Int), .int .u32 (e.al : Int), .int .u64 (e.mp : Int), .int .u32 (e.ml : Int), .string (bs e.prim), .int .u8 (e.pt : Int), .bool e.dn, .slice ao e.ws.length cp] 30) = W1 := ⟨_, rfl⟩
  obtain ⟨b, hb⟩ : ∃ b, w.heap.size = b := ⟨_, rfl⟩
  have H1 : Hid (Eb w b e ao cp W1) := by rw [← hb, ← hW1]; exact H0.out
  have HOK : Hid (EnOk e) := hok
  clear H0 hws hok
  go_enter Try.func6, Try.ntmps6
  go_wp2_with fail
  refine (CA.out _ (by trivial)).mono ?_
  rintro r w1 ⟨rfl, hb1⟩
  have E1 : Hid (Eb w b e ao cp w1) := H1.out.on hb1
  clear hb1 CA H1 hW1 hb
  have p12 : w1.cell? ⟨b, 12, none⟩ = some (.slice ao e.ws.length cp) := block_cell E1.out.x rfl
  by_cases hl : 16 < e.ws.length
  · have q1 : (16 : Int) < e.ws.length := by omega
    go_wp2_with fail
    go_ret
    exact ⟨rfl, E1.out.bel⟩
  have q1 : ¬ (16 : Int) < e.ws.length := by omega
  by_cases hm : more = []
  · subst hm
    have q2 : (bs []).toList.isEmpty = true := by rw [bs_list]; rfl
    go_wp2_with fail
    go_ret
    exact ⟨rfl, E1.out.bel⟩
  have q2 : (bs more).toList.isEmpty = false := by rw [bs_list]; simpa using hm
  have CW : Hid (1 = 1 → Calls Try.prog 8 #[.agg #[.int .i64 e.k, .int .u32 (e.c : Int), .int .u32 (e.n : Int), .int .u64 (e.sp : Int), .int .u32 (e.sl : Int), .int .u64 (e.ap : Int), .int .u32 (e.al : Int), .int .u64 (e.mp : Int), .int .u32 (e.ml : Int), .string (bs e.prim), .int .u8 (e.pt : Int), .bool e.dn, .slice ao e.ws.length cp]] w1 fun r w' => r = .returned (.tuple #[.string (bs (writeE e).1), .int .i64 (writeE e).2]) ∧ Below w1.heap.size w1 w') := fun _ => I.wr e ao cp w1 HOK.out (by omega) E1.out.wsx
  have HC : Hid _ := @writeE_cases e
  generalize (writeE e).1 = F at *
  generalize (writeE e).2 = C at *
  clear hl p12
  obtain ⟨p0, p1, p2, p3, p4, p5, p6, p7, p8, p9, p10, p11, p12, _⟩ := E1.out.thirteen
  go_wp2_with fail
  refine (CW.out (by simp)).mono ?_
  rintro r w2 ⟨rfl, hb2⟩
  have H2 : Hid (Below w.heap.size w w2) := E1.out.bel.trans (hb2.mono E1.out.bel.size)
  clear hb2 CW E1 p0 p1 p2 p3 p4 p5 p6 p7 p8 p9 p10 p11 p12 q1 q2
  rcases HC.out with ⟨rfl, hr, hf⟩ | ⟨rfl, hr⟩
  · have hfl := form_len hr HOK.out.rg
    have hcut : ∀ c, c < F.length → readE (F.take c) = none := fun c hc => by rw [hf] at hc ⊢; exact read_cut hr HOK.out.rg hc
    have hadd : readE (F ++ more) = none := by rw [hf]; exact read_more hr HOK.out.rg hm
    rw [← hf] at hfl
    have hbl := bs_size F
    have HR2 : Hid (∀ W : World, 1 = 1 → Calls Try.prog 11 #[.string (bs (F ++ more))] W fun r w' => r = .returned (.tuple #[.agg #[.int .i64 0, .int .u32 0, .int .u32 0, .int .u64 0, .int .u32 0, .int .u64 0, .int .u32 0, .int .u64 0, .int .u32 0, .string ⟨#[]⟩, .int .u8 0, .bool false, .slice none 0 0], .int .i64 2]) ∧ Below W.heap.size W w') := fun W _ => (I.rd (F ++ more) W (by rw [List.length_append]; omega)).mono fun r w' h => ⟨h.2.1 hadd, h.1⟩
    have a1 := bs_append F more
    have n1 : ¬ 9223372036854775807 < (bs F).size + (bs more).size := by rw [bs_size, bs_size]; omega
    clear hr hf HC hadd hm hmore
    by_cases k0 : cut < 0
    · clear a1 n1
      go_wp2_with fail
      go_ret
      exact ⟨rfl, H2.out⟩
    by_cases k2 : (F.length : Int) ≤ cut
    · clear a1 n1
      go_wp2_with fail
      go_ret
      exact ⟨rfl, H2.out⟩
    obtain ⟨c, rfl⟩ : ∃ c : Nat, cut = (c : Int) := Int.eq_ofNat_of_zero_le (by omega)
    have hcl : c < F.length := by omega
    have htk := bs_take F c
    have HR1 : Hid (∀ W : World, 1 = 1 → Calls Try.prog 11 #[.string (bs (F.take c))] W fun r w' => r = .returned (.tuple #[.agg #[.int .i64 0, .int .u32 0, .int .u32 0, .int .u64 0, .int .u32 0, .int .u64 0, .int .u32 0, .int .u64 0, .int .u32 0, .string ⟨#[]⟩, .int .u8 0, .bool false, .slice none 0 0], .int .i64 2]) ∧ Below W.heap.size W w') := fun W _ => (I.rd (F.take c) W (by rw [List.length_take]; omega)).mono fun r w' h => ⟨h.2.1 (hcut c hcl), h.1⟩
    clear hcut
    go_wp2_with fail
    refine (HR1.out _ (by trivial)).mono ?_
    rintro r w3 ⟨rfl, hb3⟩
    have H3 : Hid (Below w.heap.size w w3) := H2.out.trans (hb3.mono H2.out.size)
    clear hb3 HR1 H2 htk hcl k0 k2 hfl
    go_upto_region 9 with fail
    obtain ⟨Y3, hY3⟩ : ∃ Y3, w3.alloc (.cells #[.int .i64 0, .int .u32 0, .int .u32 0, .int .u64 0, .int .u32 0, .int .u64 0, .int .u32 0, .int .u64 0, .int .u32 0, .string ⟨#[]⟩, .int .u8 0, .bool false, .slice none 0 0] 30) = Y3 := ⟨_, rfl⟩
    have H4 : Hid (Below w.heap.size w Y3) := by rw [← hY3]; exact H3.out.alloc H3.out.size _
    rw [hY3]
    clear hY3 H3
    go_wp2_with fail
    refine (HR2.out _ (by trivial)).mono ?_
    rintro r w5 ⟨rfl, hb5⟩
    have H5 : Hid (Below w.heap.size w w5) := H4.out.trans (hb5.mono H4.out.size)
    clear hb5 HR2 H4
    go_wp2_with fail
    go_ret
    exact ⟨rfl, H5.out.alloc H5.out.size _⟩
  · clear hr HC
    go_wp2_with fail
    go_ret
    exact ⟨rfl, H2.out⟩
end Go.Proofs.Ytmgjlpgjjeknpaa
