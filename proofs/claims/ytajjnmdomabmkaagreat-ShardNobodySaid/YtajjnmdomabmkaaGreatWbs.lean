import Derived.KernelRfl
import Derived.Test.YtajjnmdomabmkaaGreatWbr
import Derived.Test.YtajjnmdomabmkaaGreatWak
import Derived.Test.YtajjnmdomabmkaaGreatWbf
import Derived.Test.YtajjnmdomabmkaaGreatWau
import Derived.Test.YtajjnmdomabmkaaGreatWaz
set_option maxHeartbeats 4000000
set_option maxRecDepth 100000
set_option linter.unusedVariables false
namespace Go.Proofs.YtajjnmdomabmkaaGreat
def qA : Rq := ⟨3, 1, 0, 5, 0, 0, 0, [97], [], 0, 0, [⟨[97], [118], false⟩], []⟩
def qB : Rq := ⟨4, 1, 0, 0, 0, 5, 1, [], [], 0, 1, [], []⟩
def qC : Rq := ⟨1, 0, 0, 5, 1, 0, 0, [97], [], 0, 0, [], []⟩
def XA : Sd := ⟨[], [([97], ⟨1, 0, 5, 0, 5, 1, [97], [118], false⟩)], [], 0, 0, 5, 1, 69, 4095⟩
def XB : Sd := ⟨[([97], [⟨5, 1, 1, 0, [118], false⟩])], [], [⟨1, 0, 5, 0, 5, 1, 1, false⟩], 0, 0, 5, 1, 69, 4095⟩
def rA : Rp := ⟨4, 0, false, [], [], 0, 0, 0, 0, 5, 1, [], 5, 1⟩
def rB : Rp := ⟨5, 0, false, [], [], 0, 0, 0, 0, 5, 1, [], 5, 1⟩
def rC : Rp := ⟨1, 0, true, [118], [], 0, 0, 0, 0, 0, 0, [], 5, 1⟩
def DO : Drm.Dr := (Lgs.layF (Drm.Dr.new 10000) 0 1 []).2
def DA : Drm.Dr := (handF 5 qA Sd.new 0 DO).2.2
def DB : Drm.Dr := (handF 5 qB XA 0 DA).2.2
theorem open_is : Lgs.layF (Drm.Dr.new 10000) 0 1 [] = (0, DO) := by kernel_rfl
theorem new_has (i : Int) : (Drm.Dr.new 10000).has i = false := by simp [Drm.Dr.has, Drm.Dr.new, Drm.Pt.none]
theorem rA_is : (handF 5 qA Sd.new 0 DO).1 = rA := by kernel_rfl
theorem XA_is : (handF 5 qA Sd.new 0 DO).2.1 = XA := by kernel_rfl
theorem rB_is : (handF 5 qB XA 0 DA).1 = rB := by kernel_rfl
theorem XB_is : (handF 5 qB XA 0 DA).2.1 = XB := by kernel_rfl
theorem rC_is : (handF 5 qC XB 0 DB).1 = rC := by kernel_rfl
theorem lay_ok {D : Drm.Dr} (h : D.Ok) (a : Int) (g : Nat) (R : List (List UInt8)) : (Lgs.layF D a g R).2.Ok := by
 unfold Lgs.layF
 split
 ·exact h.lay a
 ·exact Lgs.putF_ok (h.lay a) _ _
theorem DO_ok : DO.Ok := lay_ok (Drm.Dr.Ok.new 10000 (by decide) (by decide)) _ _ _
end Go.Proofs.YtajjnmdomabmkaaGreat
namespace Go.Proofs.YtajjnmdomabmkaaGreat
open Go.RowKit
variable {SA : Nat → Nat → (Nat → Prop) → Sto.Sk → World → Prop} {TA : Nat → Nat → (Nat → Prop) → Lat.Tb → World → Prop} {BA : Nat → Nat → (Nat → Prop) → Ver.Bk → World → Prop}
variable {f : Fp} {M : Nat → Prop} {X : Sd} {a : Int} {g : Nat} {D : Drm.Dr} {w W W' : World} {Lo : List (Nat × Obj)}
theorem Cx.grow (E : Env SA TA BA) (h : Cx SA TA BA f M w X a g D Lo W) (hb : Below W.heap.size W W') {b : Nat} (hlt : W.heap.size ≤ b) {cs : Array Value} {ty : TypeId} (ho : W'.heap[b]? = some (.cells cs ty (0, 0))) (ht : ty ≠ 5) : Cx SA TA BA f M w X a g D ((b, .cells cs ty (0, 0)) :: Lo) W' := by
 obtain ⟨⟨M', h1, h2, h3⟩, h4, h5⟩ := h
 have hl : ∀ k, M' k → k < W.heap.size := fun k hk => h1.lt E hk
 obtain ⟨M1, M2, M3, hc, rfl⟩ := h1
 refine ⟨⟨_, ⟨M1, M2, M3, hc.on E hb, rfl⟩, fun i hi => ?_, fun p hp hi => ?_⟩, h4.trans (Kept.of_below (F := fun _ => False) hb) (fun _ e => e.elim), fun p hp => ?_⟩
 ·rcases In_kept (G := fun _ => False) (Kept.of_below hb) hi with e | e | e
  ·exact h2 i e
  ·exact .inr (Nat.le_trans h4.size e)
  ·exact e.elim
 ·rcases List.mem_cons.1 hp with rfl | hp
  ·dsimp only at hi
   rcases hi with e | e | e | e | e | e | ⟨-, cs', fz, e⟩
   ·have := hl _ (.inl e); omega
   ·have := hl _ (.inr (.inl e)); omega
   ·have := hl _ (.inr (.inr (.inl e))); omega
   ·have := hl _ (.inr (.inr (.inr (.inl e)))); omega
   ·have := hl _ (.inr (.inr (.inr (.inr (.inl e))))); omega
   ·have := hl _ (.inr (.inr (.inr (.inr (.inr (.inl e)))))); omega
   ·rw [ho] at e
    injection e with e
    injection e with _ e _
    exact ht e
  ·rcases In_kept (G := fun _ => False) (Kept.of_below hb) hi with e | e | e
   ·exact h3 p hp e
   ·have := h5.lt p hp
    omega
   ·exact e.elim
 ·rcases List.mem_cons.1 hp with rfl | hp
  ·exact ho
  ·exact (h5.on hb) p hp
theorem ts_small {p l : Int} (h0 : 0 ≤ p) (h1 : p < 100) (h2 : 0 ≤ l) (h3 : l < 5000) : Ts p l := ⟨⟨h0, by omega⟩, h2, by omega⟩
theorem ok_new : XOk Sd.new := ⟨ts_small (by decide) (by decide) (by decide) (by decide), ts_small (by decide) (by decide) (by decide) (by decide), ts_small (by decide) (by decide) (by decide) (by decide), fun _ h => by simp [holdF, Sd.new] at h, fun _ h => by simp [Sd.new] at h, fun _ h => by simp [Sd.new] at h⟩
theorem ok_A : XOk XA := ⟨ts_small (by decide) (by decide) (by decide) (by decide), ts_small (by decide) (by decide) (by decide) (by decide), ts_small (by decide) (by decide) (by decide) (by decide), fun x h => by
  simp [holdF, XA] at h
  subst h
  exact ⟨⟨by decide, by decide⟩, ⟨by decide, by decide⟩⟩, fun x h => by
  simp [XA] at h
  subst h
  exact ⟨ts_small (by decide) (by decide) (by decide) (by decide), ts_small (by decide) (by decide) (by decide) (by decide)⟩, fun _ h => by simp [XA] at h⟩
theorem ok_B : XOk XB := ⟨ts_small (by decide) (by decide) (by decide) (by decide), ts_small (by decide) (by decide) (by decide) (by decide), ts_small (by decide) (by decide) (by decide) (by decide), fun _ h => by simp [holdF, XB] at h, fun _ h => by simp [XB] at h, fun v h => by
  simp [XB] at h
  subst h
  exact ⟨⟨by decide, by decide⟩, ⟨by decide, by decide⟩, ⟨by decide, by decide⟩, ⟨by decide, by decide⟩, ⟨by decide, by decide⟩, ⟨by decide, by decide⟩, ⟨by decide, by decide⟩⟩⟩
theorem ok_q (q : Rq) (hc : Ver.R32 q.c ∧ Ver.R32 q.n) (hs : Ts q.sp q.sl) (ha : Ts q.ap q.al) (hp : Ver.R8 q.pt) : RqOk q := ⟨hc, hs, ha, hp⟩
theorem third (w : World) (A B C : Obj) : (((w.alloc A).alloc B).alloc C).heap[w.heap.size + 1]? = some B ∧ (((w.alloc A).alloc B).alloc C).heap[w.heap.size + 1 + 1]? = some C ∧ Below w.heap.size w (((w.alloc A).alloc B).alloc C) := by
 refine ⟨?_, ?_, (((Below.refl _ _).alloc (Nat.le_refl _) A).alloc (by simp) B).alloc (by simp; omega) C⟩
 ·rw [(al (W := (w.alloc A).alloc B) C).block _ (by simp)]
  have := heap_alloc_new (w.alloc A) B
  simpa using this
 ·have := heap_alloc_new ((w.alloc A).alloc B) C
  simpa using this
theorem lay33 (w : World) : Calls Tryz.prog 33 #[.agg #[.int .u32 1, .int .u32 0], .int .u64 5, .string ⟨#[97]⟩] w fun e w' => ∃ b, e = .returned (.agg #[.int .i64 3, .int .u32 1, .int .u32 0, .int .u64 5, .int .u32 0, .int .u64 0, .int .u32 0, .string ⟨#[97]⟩, .string ⟨#[]⟩, .int .i64 0, .int .u8 0, .slice (some ⟨b, 0, none⟩) 1 1, .slice none 0 0]) ∧ w.heap.size ≤ b ∧ w'.heap[b]? = some (.cells #[.string ⟨#[97]⟩, .string ⟨#[118]⟩, .bool false] 144 (0, 0)) ∧ Below w.heap.size w w' := by
 go_enter Tryz.func33, Tryz.ntmps33
 go_wp2_with fail
 obtain ⟨h1, h2, h3⟩ := third w (.cells #[.int .u32 1, .int .u32 0] 30) (.cells #[.int .i64 3, .int .u32 1, .int .u32 0, .int .u64 5, .int .u32 0, .int .u64 0, .int .u32 0, .string ⟨#[97]⟩, .string ⟨#[]⟩, .int .i64 0, .int .u8 0, .slice (some ⟨w.heap.size + 1 + 1, 0, none⟩) 1 1, .slice none 0 0] 36) (.cells #[.string ⟨#[97]⟩, .string ⟨#[118]⟩, .bool false] 144)
 refine bodyPost_ret (results_cell_row rfl _ _ (w.heap.size + 1) 36 _ (0, 0) _ rfl h1 Tryz.underlying36 rfl (by kernel_rfl)) rfl ?_
 exact ⟨_, rfl, by omega, h2, h3⟩
end Go.Proofs.YtajjnmdomabmkaaGreat
namespace Go.Proofs.YtajjnmdomabmkaaGreat
open Go.RowKit
variable {SA : Nat → Nat → (Nat → Prop) → Sto.Sk → World → Prop} {TA : Nat → Nat → (Nat → Prop) → Lat.Tb → World → Prop} {BA : Nat → Nat → (Nat → Prop) → Ver.Bk → World → Prop}
variable {f : Fp} {M : Nat → Prop} {X : Sd} {a : Int} {g : Nat} {D : Drm.Dr} {w W W' : World} {Lo : List (Nat × Obj)}
theorem ask_A (E : Env SA TA BA) (hC : Cx SA TA BA f M w Sd.new 0 1 DO Lo W) (b : Nat) (hm : (b, Obj.cells #[.string ⟨#[97]⟩, .string ⟨#[118]⟩, .bool false] 144 (0, 0)) ∈ Lo) : Calls Tryz.prog 16 #[.pointer (some ⟨f.sb, 0, none⟩), .int .u64 5, .agg #[.int .i64 3, .int .u32 1, .int .u32 0, .int .u64 5, .int .u32 0, .int .u64 0, .int .u32 0, .string ⟨#[97]⟩, .string ⟨#[]⟩, .int .i64 0, .int .u8 0, .slice (some ⟨b, 0, none⟩) 1 1, .slice none 0 0]] W fun e w' => ∃ ao n cap, e = .returned (.agg #[.int .i64 4, .int .i64 0, .bool false, .string ⟨#[]⟩, .slice ao n cap, .int .u32 0, .int .u32 0, .int .u64 0, .int .u32 0, .int .u64 5, .int .u32 1, .string ⟨#[]⟩, .int .u64 5, .int .u32 1]) ∧ Cx SA TA BA f M w XA 0 1 DA Lo w' := by
 obtain ⟨M', hM, h8, h7⟩ := hC.sh
 have hb := hC.has _ hm
 have hw : WsIn M' W (some ⟨b, 0, none⟩) 1 qA.ws := by
  refine ⟨⟨_, 1, rfl, rfl, Nat.le_refl _, by omega, fun _ => ⟨b, 0, rfl, fun _ => lt_of_block hb, fun j u hj => ?_⟩⟩, fun _ k hk => ?_⟩
  ·rw [Nat.zero_add]
   exact Drm.blk_cell hb (by simpa [rowC, Lat.wrc, qA, bs] using hj)
  ·injection hk with hk
   subst hk
   exact h7 _ hm
 have := handle16 E 5 qA (some ⟨b, 0, none⟩) 1 none 0 hM (by decide) ok_new (by decide) (by decide) (ok_q _ ⟨⟨by decide, by decide⟩, ⟨by decide, by decide⟩⟩ (ts_small (by decide) (by decide) (by decide) (by decide)) (ts_small (by decide) (by decide) (by decide) (by decide)) ⟨by decide, by decide⟩) hw (RwAt.nil _ _ _) (fun h => absurd h (by decide)) (by kernel_rfl) (.inr (.inl rfl))
 rw [rA_is, XA_is] at this
 refine Calls.mono this ?_
 rintro e w' ⟨ao, n, cap, rfl, -, ht⟩
 exact ⟨ao, n, cap, rfl, hC.next h8 h7 ht⟩
theorem ask_B (E : Env SA TA BA) (hC : Cx SA TA BA f M w XA 0 1 DA Lo W) : Calls Tryz.prog 16 #[.pointer (some ⟨f.sb, 0, none⟩), .int .u64 5, .agg #[.int .i64 4, .int .u32 1, .int .u32 0, .int .u64 0, .int .u32 0, .int .u64 5, .int .u32 1, .string ⟨#[]⟩, .string ⟨#[]⟩, .int .i64 0, .int .u8 1, .slice none 0 0, .slice none 0 0]] W fun e w' => ∃ ao n cap, e = .returned (.agg #[.int .i64 5, .int .i64 0, .bool false, .string ⟨#[]⟩, .slice ao n cap, .int .u32 0, .int .u32 0, .int .u64 0, .int .u32 0, .int .u64 5, .int .u32 1, .string ⟨#[]⟩, .int .u64 5, .int .u32 1]) ∧ Cx SA TA BA f M w XB 0 1 DB Lo w' := by
 obtain ⟨M', hM, h8, h7⟩ := hC.sh
 have := handle16 E 5 qB none 0 none 0 hM (by decide) ok_A (by decide) (by decide) (ok_q _ ⟨⟨by decide, by decide⟩, ⟨by decide, by decide⟩⟩ (ts_small (by decide) (by decide) (by decide) (by decide)) (ts_small (by decide) (by decide) (by decide) (by decide)) ⟨by decide, by decide⟩) (WsIn.nil _ _) (RwAt.nil _ _ _) (fun h => absurd h (by decide)) (by kernel_rfl) (.inr (.inr rfl))
 rw [rB_is, XB_is] at this
 refine Calls.mono this ?_
 rintro e w' ⟨ao, n, cap, rfl, -, ht⟩
 exact ⟨ao, n, cap, rfl, hC.next h8 h7 ht⟩
theorem ask_C (E : Env SA TA BA) (hC : Cx SA TA BA f M w XB 0 1 DB Lo W) : Calls Tryz.prog 16 #[.pointer (some ⟨f.sb, 0, none⟩), .int .u64 5, .agg #[.int .i64 1, .int .u32 0, .int .u32 0, .int .u64 5, .int .u32 1, .int .u64 0, .int .u32 0, .string ⟨#[97]⟩, .string ⟨#[]⟩, .int .i64 0, .int .u8 0, .slice none 0 0, .slice none 0 0]] W fun e w' => ∃ ao n cap X' D', e = .returned (.agg #[.int .i64 1, .int .i64 0, .bool true, .string ⟨#[118]⟩, .slice ao n cap, .int .u32 0, .int .u32 0, .int .u64 0, .int .u32 0, .int .u64 0, .int .u32 0, .string ⟨#[]⟩, .int .u64 5, .int .u32 1]) ∧ Cx SA TA BA f M w X' 0 1 D' Lo w' := by
 obtain ⟨M', hM, h8, h7⟩ := hC.sh
 have := handle16 E 5 qC none 0 none 0 hM (by decide) ok_B (by decide) (by decide) (ok_q _ ⟨⟨by decide, by decide⟩, ⟨by decide, by decide⟩⟩ (ts_small (by decide) (by decide) (by decide) (by decide)) (ts_small (by decide) (by decide) (by decide) (by decide)) ⟨by decide, by decide⟩) (WsIn.nil _ _) (RwAt.nil _ _ _) (fun h => absurd h (by decide)) (by kernel_rfl) (.inl rfl)
 rw [rC_is] at this
 refine Calls.mono this ?_
 rintro e w' ⟨ao, n, cap, rfl, -, ht⟩
 exact ⟨ao, n, cap, _, _, rfl, hC.next h8 h7 ht⟩
theorem block_new {w : World} (cs : Array Value) (ty : TypeId) (k : Nat) (u : Value) (h : cs[k]? = some u) : (w.alloc (.cells cs ty)).cell? ⟨w.heap.size, k, none⟩ = some u := Drm.blk_cell (heap_alloc_new w _) h
def oT : Obj := .cells #[.int .u32 1, .int .u32 0] 30 (0, 0)
def oR (v : Value) (k : Int) (fd : Bool) (s : ByteArray) (ap al : Int) : Obj := .cells #[.int .i64 k, .int .i64 0, .bool fd, .string s, v, .int .u32 0, .int .u32 0, .int .u64 0, .int .u32 0, .int .u64 ap, .int .u32 al, .string ⟨#[]⟩, .int .u64 5, .int .u32 1] 43 (0, 0)
theorem awake9 (E : Env SA TA BA) (w : World) : Calls Tryz.prog 9 #[] w fun e w' => e = .returned (.bool true) ∧ Below w.heap.size w w' := by
 have CN : Hid (1 = 1 → _) := fun _ => Drm.new8 10000 w (by decide) (by decide)
 have CO : Hid (∀ W : World, Drm.DrumAt w.heap.size (Drm.Dr.new 10000) W → Calls Tryz.prog 15 #[.pointer (some ⟨w.heap.size, 0, none⟩)] W fun e w' => ∃ f M, e = .returned (.tuple #[.pointer (some ⟨f.sb, 0, none⟩), .int .i64 0]) ∧ Cx SA TA BA f M w' Sd.new 0 1 DO [] w' ∧ Hid (∀ k, M k → w.heap.size ≤ k) ∧ Below w.heap.size W w') := fun W h => by
  refine (open15_new E w.heap.size _ h (Drm.Dr.Ok.new 10000 (by decide) (by decide)) new_has open_is DO_ok).mono ?_
  rintro e w' ⟨f, M, rfl, h1, h2, h3⟩
  exact ⟨f, M, rfl, Cx.start h1, fun k hk => by rw [← h2]; exact h1.lo E hk, h3⟩
 have CL : Hid (∀ W : World, 1 = 1 → _) := fun W _ => lay33 W
 have GT : Hid (∀ (f : Fp) M w0 W, Cx SA TA BA f M w0 Sd.new 0 1 DO [] W → Cx SA TA BA f M w0 Sd.new 0 1 DO [(W.heap.size, oT)] (W.alloc oT)) := fun f M w0 W h => h.new E _ 30 (by decide)
 have GB : Hid (∀ (f : Fp) M w0 bt W W' b, Cx SA TA BA f M w0 Sd.new 0 1 DO [(bt, oT)] W → Below W.heap.size W W' → W.heap.size ≤ b → W'.heap[b]? = some (.cells #[.string ⟨#[97]⟩, .string ⟨#[118]⟩, .bool false] 144 (0, 0)) → Cx SA TA BA f M w0 Sd.new 0 1 DO [(b, .cells #[.string ⟨#[97]⟩, .string ⟨#[118]⟩, .bool false] 144 (0, 0)), (bt, oT)] W') := fun f M w0 bt W W' b h hb hl ho => h.grow E hb hl ho (by decide)
 have CA : Hid (∀ (f : Fp) M w0 bt b W, Cx SA TA BA f M w0 Sd.new 0 1 DO [(b, .cells #[.string ⟨#[97]⟩, .string ⟨#[118]⟩, .bool false] 144 (0, 0)), (bt, oT)] W → Calls Tryz.prog 16 #[.pointer (some ⟨f.sb, 0, none⟩), .int .u64 5, .agg #[.int .i64 3, .int .u32 1, .int .u32 0, .int .u64 5, .int .u32 0, .int .u64 0, .int .u32 0, .string ⟨#[97]⟩, .string ⟨#[]⟩, .int .i64 0, .int .u8 0, .slice (some ⟨b, 0, none⟩) 1 1, .slice none 0 0]] W fun e w' => ∃ ao n cap, e = .returned (.agg #[.int .i64 4, .int .i64 0, .bool false, .string ⟨#[]⟩, .slice ao n cap, .int .u32 0, .int .u32 0, .int .u64 0, .int .u32 0, .int .u64 5, .int .u32 1, .string ⟨#[]⟩, .int .u64 5, .int .u32 1]) ∧ Cx SA TA BA f M w0 XA 0 1 DA [(bt, oT)] w') := fun f M w0 bt b W h => by
  refine (ask_A E h b (.head _)).mono ?_
  rintro e w' ⟨ao, n, cap, rfl, h1⟩
  exact ⟨ao, n, cap, rfl, h1.less (fun p hp => .tail _ hp)⟩
 have GA : Hid (∀ (f : Fp) M w0 bt W v, Cx SA TA BA f M w0 XA 0 1 DA [(bt, oT)] W → Cx SA TA BA f M w0 XA 0 1 DA [(W.heap.size, oR v 4 false ⟨#[]⟩ 5 1), (bt, oT)] (W.alloc (oR v 4 false ⟨#[]⟩ 5 1))) := fun f M w0 bt W v h => h.new E _ 43 (by decide)
 have CB : Hid (∀ (f : Fp) M w0 Lo W, Cx SA TA BA f M w0 XA 0 1 DA Lo W → Calls Tryz.prog 16 #[.pointer (some ⟨f.sb, 0, none⟩), .int .u64 5, .agg #[.int .i64 4, .int .u32 1, .int .u32 0, .int .u64 0, .int .u32 0, .int .u64 5, .int .u32 1, .string ⟨#[]⟩, .string ⟨#[]⟩, .int .i64 0, .int .u8 1, .slice none 0 0, .slice none 0 0]] W fun e w' => ∃ ao n cap, e = .returned (.agg #[.int .i64 5, .int .i64 0, .bool false, .string ⟨#[]⟩, .slice ao n cap, .int .u32 0, .int .u32 0, .int .u64 0, .int .u32 0, .int .u64 5, .int .u32 1, .string ⟨#[]⟩, .int .u64 5, .int .u32 1]) ∧ Cx SA TA BA f M w0 XB 0 1 DB Lo w') := fun f M w0 Lo W h => ask_B E h
 have GC : Hid (∀ (f : Fp) M w0 Lo W v, Cx SA TA BA f M w0 XB 0 1 DB Lo W → Cx SA TA BA f M w0 XB 0 1 DB ((W.heap.size, oR v 5 false ⟨#[]⟩ 5 1) :: Lo) (W.alloc (oR v 5 false ⟨#[]⟩ 5 1))) := fun f M w0 Lo W v h => h.new E _ 43 (by decide)
 have CC : Hid (∀ (f : Fp) M w0 Lo W, Cx SA TA BA f M w0 XB 0 1 DB Lo W → Calls Tryz.prog 16 #[.pointer (some ⟨f.sb, 0, none⟩), .int .u64 5, .agg #[.int .i64 1, .int .u32 0, .int .u32 0, .int .u64 5, .int .u32 1, .int .u64 0, .int .u32 0, .string ⟨#[97]⟩, .string ⟨#[]⟩, .int .i64 0, .int .u8 0, .slice none 0 0, .slice none 0 0]] W fun e w' => ∃ ao n cap X' D', e = .returned (.agg #[.int .i64 1, .int .i64 0, .bool true, .string ⟨#[118]⟩, .slice ao n cap, .int .u32 0, .int .u32 0, .int .u64 0, .int .u32 0, .int .u64 0, .int .u32 0, .string ⟨#[]⟩, .int .u64 5, .int .u32 1]) ∧ Cx SA TA BA f M w0 X' 0 1 D' Lo w') := fun f M w0 Lo W h => ask_C E h
 have GD : Hid (∀ (f : Fp) M w0 X D Lo W o, Cx SA TA BA f M w0 X 0 1 D Lo W → Hid (∀ k, M k → w.heap.size ≤ k) → Below w.heap.size w w0 → Has Lo (W.alloc o) ∧ Below w.heap.size w (W.alloc o)) := fun f M w0 X D Lo W o h hB hb => by
  have h3 := hb.trans (h.kp.below (B := w.heap.size) hb.size hB.out)
  exact ⟨h.has.on (al o), h3.alloc h3.size o⟩
 clear E
 go_enter Tryz.func9, Tryz.ntmps9
 go_wp2_with fail
 refine (CN.out (by trivial)).mono ?_
 rintro e w1 ⟨rfl, hd, hb1⟩
 have H1 : Hid (Drm.DrumAt w.heap.size (Drm.Dr.new 10000) w1 ∧ Below w.heap.size w w1) := ⟨hd, hb1⟩
 clear hd hb1 CN
 go_wp2_with fail
 refine (CO.out _ H1.out.1).mono ?_
 rintro e w2 ⟨f, M, rfl, h2, HM, hb2⟩
 have HB2 : Hid (Below w.heap.size w w2) := H1.out.2.trans hb2
 have H2 : Hid (Cx SA TA BA f M w2 Sd.new 0 1 DO [] w2) := h2
 clear h2 hb2 CO H1
 go_upto_region 4 with fail
 have H3 : Hid (Cx SA TA BA f M w2 Sd.new 0 1 DO [(w2.heap.size, oT)] (w2.alloc oT)) := GT.out _ _ _ _ H2.out
 obtain ⟨bt, hbt⟩ : ∃ bt, w2.heap.size = bt := ⟨_, rfl⟩
 obtain ⟨W3, hW3⟩ : ∃ W3, w2.alloc (.cells #[.int .u32 1, .int .u32 0] 30) = W3 := ⟨_, rfl⟩
 unfold oT at H3
 rw [hbt, hW3] at H3
 rw [hbt, hW3]
 clear hbt hW3 GT H2
 have t0 := H3.out.has.cell (.head _) (k := 0) rfl
 have t1 := H3.out.has.cell (.head _) (k := 1) rfl
 go_wp2_with fail
 refine (CL.out _ (by trivial)).mono ?_
 rintro e w4 ⟨b, rfl, hl4, ho4, hb4⟩
 have H4 : Hid _ := GB.out _ _ _ _ _ _ _ H3.out hb4 hl4 ho4
 clear hl4 ho4 hb4 H3 CL GB t0 t1
 go_wp2_with fail
 refine (CA.out _ _ _ _ _ _ H4.out).mono ?_
 rintro e w5 ⟨ao, n, cap, rfl, h5⟩
 have H5 : Hid (Cx SA TA BA f M w2 XA 0 1 DA [(bt, oT)] w5) := h5
 clear h5 H4 CA
 go_upto_region 5 with fail
 have H6 : Hid _ := GA.out _ _ _ _ _ (.slice ao n cap) H5.out
 obtain ⟨b6, hb6⟩ : ∃ b6, w5.heap.size = b6 := ⟨_, rfl⟩
 unfold oR oT at H6
 obtain ⟨W6, hW6⟩ : ∃ W6, w5.alloc (.cells #[.int .i64 4, .int .i64 0, .bool false, .string ⟨#[]⟩, .slice ao n cap, .int .u32 0, .int .u32 0, .int .u64 0, .int .u32 0, .int .u64 5, .int .u32 1, .string ⟨#[]⟩, .int .u64 5, .int .u32 1] 43) = W6 := ⟨_, rfl⟩
 rw [hb6, hW6] at H6
 rw [hb6, hW6]
 clear hb6 hW6 GA H5
 have t0 := H6.out.has.cell (.tail _ (.head _)) (k := 0) rfl
 have t1 := H6.out.has.cell (.tail _ (.head _)) (k := 1) rfl
 have a9 := H6.out.has.cell (.head _) (k := 9) rfl
 have a10 := H6.out.has.cell (.head _) (k := 10) rfl
 go_wp2_with fail
 refine (CB.out _ _ _ _ _ H6.out).mono ?_
 rintro e w7 ⟨ao7, n7, cap7, rfl, h7⟩
 have H7 : Hid _ := h7
 clear h7 H6 CB t0 t1 a9 a10
 go_upto_region 6 with fail
 have H8 : Hid _ := GC.out _ _ _ _ _ (.slice ao7 n7 cap7) H7.out
 obtain ⟨b8, hb8⟩ : ∃ b8, w7.heap.size = b8 := ⟨_, rfl⟩
 unfold oR at H8
 obtain ⟨W8, hW8⟩ : ∃ W8, w7.alloc (.cells #[.int .i64 5, .int .i64 0, .bool false, .string ⟨#[]⟩, .slice ao7 n7 cap7, .int .u32 0, .int .u32 0, .int .u64 0, .int .u32 0, .int .u64 5, .int .u32 1, .string ⟨#[]⟩, .int .u64 5, .int .u32 1] 43) = W8 := ⟨_, rfl⟩
 rw [hb8, hW8] at H8
 rw [hb8, hW8]
 clear hb8 hW8 GC H7
 have a9 := H8.out.has.cell (.tail _ (.head _)) (k := 9) rfl
 have a10 := H8.out.has.cell (.tail _ (.head _)) (k := 10) rfl
 go_wp2_with fail
 refine (CC.out _ _ _ _ _ H8.out).mono ?_
 rintro e w9 ⟨ao9, n9, cap9, X9, D9, rfl, h9⟩
 have H9 : Hid _ := h9
 clear h9 H8 CC a9 a10
 go_upto_region 7 with fail
 obtain ⟨hs, hb⟩ := GD.out _ _ _ _ _ _ _ (.cells #[.int .i64 1, .int .i64 0, .bool true, .string ⟨#[118]⟩, .slice ao9 n9 cap9, .int .u32 0, .int .u32 0, .int .u64 0, .int .u32 0, .int .u64 0, .int .u32 0, .string ⟨#[]⟩, .int .u64 5, .int .u32 1] 43) H9.out HM HB2.out
 have z0 := block_new (w := w9) #[.int .i64 1, .int .i64 0, .bool true, .string ⟨#[118]⟩, .slice ao9 n9 cap9, .int .u32 0, .int .u32 0, .int .u64 0, .int .u32 0, .int .u64 0, .int .u32 0, .string ⟨#[]⟩, .int .u64 5, .int .u32 1] 43 0 _ rfl
 have z3 := block_new (w := w9) #[.int .i64 1, .int .i64 0, .bool true, .string ⟨#[118]⟩, .slice ao9 n9 cap9, .int .u32 0, .int .u32 0, .int .u64 0, .int .u32 0, .int .u64 0, .int .u32 0, .string ⟨#[]⟩, .int .u64 5, .int .u32 1] 43 3 _ rfl
 have a0 := hs.cell (.tail _ (.head _)) (k := 0) rfl
 have b0 := hs.cell (.head _) (k := 0) rfl
 have HB : Hid _ := hb
 obtain ⟨W9, hW9⟩ : ∃ W9, w9.alloc (.cells #[.int .i64 1, .int .i64 0, .bool true, .string ⟨#[118]⟩, .slice ao9 n9 cap9, .int .u32 0, .int .u32 0, .int .u64 0, .int .u32 0, .int .u64 0, .int .u32 0, .string ⟨#[]⟩, .int .u64 5, .int .u32 1] 43) = W9 := ⟨_, rfl⟩
 obtain ⟨b9, hb9⟩ : ∃ b9, w9.heap.size = b9 := ⟨_, rfl⟩
 rw [hW9] at a0 b0 HB
 rw [hW9, hb9] at z0 z3
 rw [hW9, hb9]
 clear hW9 hb9 hb hs H9 GD
 go_wp2_with fail
 go_ret
 exact ⟨rfl, HB.out⟩
end Go.Proofs.YtajjnmdomabmkaaGreat
namespace Go.Proofs.YtajjnmdomabmkaaGreat
open Go.RowKit
theorem tag_ne {w : World} {k : Nat} {cs : Array Value} {ty : TypeId} {fz : Nat × Nat} (h : w.heap[k]? = some (.cells cs ty fz)) (h5 : ty ≠ 5) : ¬ ByR w k := by
 rintro ⟨cs', fz', h'⟩
 rw [h] at h'
 injection h' with h'
 injection h' with _ e _
 exact h5 e
theorem tag_nv {w : World} {k : Nat} {cs : Array Value} {ty : TypeId} {fz : Nat × Nat} (h : w.heap[k]? = some (.cells cs ty fz)) (h9 : ty ≠ 69) : Sto.NoVe w k :=
 Sto.noVe_tag h (fun cs' fz' e => by injection e with _ e _; exact h9 e)
theorem map_ne {w : World} {k : Nat} {es : Array MapEntry} {cl : Nat} (h : w.heap[k]? = some (.map es cl)) : ¬ ByR w k ∧ Sto.NoVe w k := by
 refine ⟨?_, Sto.noVe_tag h (fun cs' fz' e => by cases e)⟩
 rintro ⟨cs', fz', h'⟩
 rw [h] at h'
 cases h'
theorem sto_tag {w : World} {t : Sto.Tr} : Sto.TrAt Sto.nl t w → ∀ b ∈ t.blocks, ∃ cs, w.heap[b]? = some (.cells cs Sto.nl.ty (0, 0)) := by
 induction t using Sto.Tr.ind with
 | nil =>
  intro _ b hb
  simp [Sto.Tr.blocks] at hb
 | node c l k v x r ihl ihr =>
  intro h b hb
  obtain ⟨h1, h2, h3⟩ := h
  simp only [Sto.Tr.blocks, List.mem_cons, List.mem_append] at hb
  rcases hb with rfl | hb | hb
  ·exact ⟨_, h1⟩
  ·exact ihl h2 b hb
  ·exact ihr h3 b hb
theorem lat_tag {w : World} {t : Lat.Tr} : Lat.TrAt Lat.nl t w → ∀ b ∈ t.blocks, ∃ cs, w.heap[b]? = some (.cells cs Lat.nl.ty (0, 0)) := by
 induction t using Lat.Tr.ind with
 | nil =>
  intro _ b hb
  simp [Lat.Tr.blocks] at hb
 | node c l k v x r ihl ihr =>
  intro h b hb
  obtain ⟨h1, h2, h3⟩ := h
  simp only [Lat.Tr.blocks, List.mem_cons, List.mem_append] at hb
  rcases hb with rfl | hb | hb
  ·exact ⟨_, h1⟩
  ·exact ihl h2 b hb
  ·exact ihr h3 b hb
theorem env : Env Sto.SoAt Lat.TabAt Ver.BoAt where
 I := Sto.storeIfs
 J := Lat.tableIfl
 V := Ver.bookIfv
 E := Ent.entryIfe
 tS := by
  rintro B p M S w ⟨q, t, h, rfl⟩ k hk
  rcases hk with e | e | e
  ·subst e
   exact tag_ne h.box (by decide)
  ·subst e
   exact tag_ne h.mc.mp.box (by decide)
  ·obtain ⟨cs, h1⟩ := sto_tag h.mc.mp.ok k e
   exact tag_ne h1 (by decide)
 tT := by
  rintro B p M T w ⟨pm, hb, t, m, h, _, rfl⟩ k hk
  rcases hk with e | e | (e | e) | ⟨x, hx, e⟩
  ·subst e
   exact ⟨tag_ne h.box (by decide), tag_nv h.box (by decide)⟩
  ·subst e
   obtain ⟨es, cl, h1, _⟩ := h.gm
   exact map_ne h1
  ·subst e
   exact ⟨tag_ne h.map.box (by decide), tag_nv h.map.box (by decide)⟩
  ·obtain ⟨cs, h1⟩ := lat_tag h.map.ok k e
   exact ⟨tag_ne h1 (by decide), tag_nv h1 (by decide)⟩
  ·obtain ⟨cs, h1⟩ := (h.rows x hx).tg k e
   exact ⟨tag_ne h1 (by decide), tag_nv h1 (by decide)⟩
 tV := by
  rintro B p M K w ⟨hb, m, h, hM⟩ k hk
  rcases (hM k).1 hk with e | e
  ·subst e
   exact ⟨tag_ne h.box (by decide), tag_nv h.box (by decide)⟩
  ·subst e
   obtain ⟨es, cl, h1, _⟩ := h.map
   exact map_ne h1
end Go.Proofs.YtajjnmdomabmkaaGreat
namespace Go.Proofs.YtajjnmdomabmkaaGreat
open Go.RowKit
open Lgs in
theorem has142n (k : Int) (w : World) : Calls Tryz.prog 142 #[.pointer none, .int .i64 k] w fun e w' => e = .returned (.bool false) ∧ w = w' := by
 go_enter Tryz.func142, Tryz.ntmps142
 go_wp2
 go_ret
 exact ⟨rfl, rfl⟩
theorem lay69n (w : World) : Calls Tryz.prog 69 #[.pointer none, .int .i64 0, .int .u64 1, .slice none 0 0] w fun e w' => e = .returned (.int .i64 11) ∧ w = w' := by
 go_enter Tryz.func69, Tryz.ntmps69
 go_wp2
 go_ret
 exact ⟨rfl, rfl⟩
theorem cut68n (w : World) : Calls Tryz.prog 68 #[.pointer none, .int .i64 (-1)] w fun e w' => e = .returned (.int .i64 0) ∧ w = w' := by
 have HH : Hid (∀ (k : Int) (W : World), 1 = 1 → _) := fun k W _ => has142n k W
 go_enter Tryz.func68, Tryz.ntmps68
 go_wp2_with fail
 go_loopw [7] (fun i wr => ∃ k : Nat, k ≤ 4 ∧ i = .int .i64 k ∧ wr = w) (fun i _ => 4 - (intOf i).toNat)
 case atStart => exact ⟨0, by omega, rfl, rfl⟩
 case round =>
  obtain ⟨k, hk, rfl, rfl⟩ := hrel
  by_cases hlt : k < 4
  ·have hlt' : (k : Int) < 4 := by omega
   have hne : ((k : Int) == -1) = false := by rw [beq_eq_false_iff_ne]; omega
   go_wp2_with fail
   refine (HH.out _ _ (by trivial)).mono ?_
   rintro e w' ⟨rfl, rfl⟩
   go_wp2_with fail
   go_roundw
   case rel => exact ⟨k + 1, by omega, by go_num, by trivial⟩
   case measure => simp [intOf]; omega
  ·have hlt' : ¬ (k : Int) < 4 := by omega
   go_wp2_with fail
   go_ret
   exact ⟨rfl, rfl⟩
open Lgs in
theorem newest67n (w : World) : Calls Tryz.prog 67 #[.pointer none] w fun e w' => e = .returned (.tuple #[.int .i64 (-1), .agg #[.int .u64 0, .slice none 0 0, .int .i64 0, .int .i64 0], .int .i64 0]) ∧ Below w.heap.size w w' := by
 have HH : Hid (∀ (k : Int) (W : World), 1 = 1 → _) := fun k W _ => has142n k W
 go_enter Tryz.func67, Tryz.ntmps67
 go_wp2_with fail
 obtain ⟨rb, hrb⟩ : ∃ rb, rb = w.heap.size := ⟨_, rfl⟩
 have HRB : Hid (rb = w.heap.size) := hrb
 rw [← hrb]
 have hw0 : CtIn rb (.int .u64 0) (.slice none 0 0) (.int .i64 0) (.int .i64 0) ((w.alloc (.cells #[.int .u64 0, .slice none 0 0, .int .i64 0, .int .i64 0] 153)).alloc (.cells #[.int .u64 0, .slice none 0 0, .int .i64 0, .int .i64 0] 153)) := by
  unfold CtIn
  rw [Below.heap_alloc _ _ rb (by rw [hrb]; simp), hrb]
  exact heap_alloc_new w _
 have hw1 : CtIn (rb + 1) (.int .u64 0) (.slice none 0 0) (.int .i64 0) (.int .i64 0) ((w.alloc (.cells #[.int .u64 0, .slice none 0 0, .int .i64 0, .int .i64 0] 153)).alloc (.cells #[.int .u64 0, .slice none 0 0, .int .i64 0, .int .i64 0] 153)) := by
  rw [hrb]
  exact heap_alloc2_new w _ _
 have hb0 : Below rb w ((w.alloc (.cells #[.int .u64 0, .slice none 0 0, .int .i64 0, .int .i64 0] 153)).alloc (.cells #[.int .u64 0, .slice none 0 0, .int .i64 0, .int .i64 0] 153)) := by
  rw [hrb]
  exact ((Below.refl _ _).alloc (Nat.le_refl _) _).alloc (by simp) _
 generalize (w.alloc (.cells #[.int .u64 0, .slice none 0 0, .int .i64 0, .int .i64 0] 153)).alloc (.cells #[.int .u64 0, .slice none 0 0, .int .i64 0, .int .i64 0] 153) = w0 at hw0 hw1 hb0 ⊢
 have H0 : Hid (CtIn rb (.int .u64 0) (.slice none 0 0) (.int .i64 0) (.int .i64 0) w0 ∧ CtIn (rb + 1) (.int .u64 0) (.slice none 0 0) (.int .i64 0) (.int .i64 0) w0 ∧ Below rb w w0) := ⟨hw0, hw1, hb0⟩
 clear hw0 hw1 hb0 hrb
 go_wp2_with fail
 go_loopw [5, 12] (fun a i wr => a = .int .i64 (-1) ∧ ∃ k : Nat, k ≤ 4 ∧ i = .int .i64 k ∧ wr = w0) (fun _ i _ => 4 - (intOf i).toNat)
 case atStart => exact ⟨rfl, 0, by omega, rfl, rfl⟩
 case round =>
  obtain ⟨rfl, k, hk, rfl, rfl⟩ := hrel
  by_cases hlt : k < 4
  ·have hlt' : (k : Int) < 4 := by omega
   go_wp2_with fail
   refine (HH.out _ _ (by trivial)).mono ?_
   rintro e w' ⟨rfl, rfl⟩
   go_wp2_with fail
   go_roundw
   case rel => exact ⟨rfl, k + 1, by omega, by go_num, by trivial⟩
   case measure => simp [intOf]; omega
  ·have hlt' : ¬ (k : Int) < 4 := by omega
   obtain ⟨f0, f1, f2, f3, ff⟩ := H0.out.2.1.cells
   obtain ⟨r0, r1, r2, r3, rf⟩ := H0.out.1.cells
   go_wp2_with fail
   go_region
   go_wp2_with fail
   (try simp only [Exit.inBlock, Exit.then])
   refine bodyPost_ret (results_new (cb := rb) (w := (set4 wr rb (.int .u64 0) (.slice none 0 0) (.int .i64 0) (.int .i64 0)).drew) (set4_ct H0.out.1 (.int .u64 0) (.slice none 0 0) (.int .i64 0) (.int .i64 0)) rfl) rfl ?_
   rw [← HRB.out]
   exact ⟨rfl, (set4_below H0.out.2.2 (by omega) (.int .u64 0) (.slice none 0 0) (.int .i64 0) (.int .i64 0)).drew⟩
open Lgs in
theorem open39n (w : World) : Calls Tryz.prog 39 #[.pointer none] w fun e w' => e = .returned (.tuple #[.pointer none, .slice none 0 0, .int .i64 11]) ∧ Below w.heap.size w w' := by
 have CN : Hid (1 = 1 → _) := fun _ => newest67n w
 have CC : Hid (∀ W : World, 1 = 1 → _) := fun W _ => cut68n W
 have CL : Hid (∀ W : World, 1 = 1 → _) := fun W _ => lay69n W
 go_enter Tryz.func39, Tryz.ntmps39
 go_wp2_with fail
 refine (CN.out (by trivial)).mono ?_
 rintro e w1 ⟨rfl, hb1⟩
 have H1 : Hid (Below w.heap.size w w1) := hb1
 clear hb1 CN
 go_upto_region 2 with fail
 have hk : (w1.alloc (.cells #[.int .u64 0, .slice none 0 0, .int .i64 0, .int .i64 0] 153)).heap[w1.heap.size]? = some (.cells #[.int .u64 0, .slice none 0 0, .int .i64 0, .int .i64 0] 153 (0, 0)) := heap_alloc_new w1 _
 have HB : Hid (Below w.heap.size w (w1.alloc (.cells #[.int .u64 0, .slice none 0 0, .int .i64 0, .int .i64 0] 153)) ∧ w.heap.size ≤ w1.heap.size) := ⟨H1.out.alloc H1.out.size _, H1.out.size⟩
 obtain ⟨W2, hW2⟩ : ∃ W2, w1.alloc (.cells #[.int .u64 0, .slice none 0 0, .int .i64 0, .int .i64 0] 153) = W2 := ⟨_, rfl⟩
 obtain ⟨b, hb⟩ : ∃ b, w1.heap.size = b := ⟨_, rfl⟩
 rw [hW2, hb] at hk HB
 rw [hW2, hb]
 clear hW2 hb H1
 have c0 := Drm.blk_cell (k := 0) hk rfl
 have f0 := Drm.blk_free (k := 0) hk
 go_wp2_with fail
 refine (CC.out _ (by trivial)).mono ?_
 rintro e w' ⟨rfl, rfl⟩
 go_upto_region 9 with fail
 have c1 := Drm.blk_cell (k := 0) (Drm.blk_setCell (k := 0) (u := .int .u64 1) hk) rfl
 have HB3 : Hid (Below w.heap.size w (W2.setCell ⟨b, 0, none⟩ (.int .u64 1))) := HB.out.1.setCell (p := ⟨b, 0, none⟩) HB.out.2 _
 obtain ⟨W3, hW3⟩ : ∃ W3, W2.setCell ⟨b, 0, none⟩ (.int .u64 1) = W3 := ⟨_, rfl⟩
 rw [hW3] at c1 HB3
 rw [hW3]
 clear hW3 c0 f0 hk HB CC
 go_wp2_with fail
 refine (CL.out _ (by trivial)).mono ?_
 rintro e w' ⟨rfl, rfl⟩
 go_wp2_with fail
 (try simp only [Exit.inBlock, Exit.then])
 refine bodyPost_ret (v := .tuple #[.pointer none, .slice none 0 0, .int .i64 11]) (by simp [results, Tryz.results39, go_sem]) rfl ?_
 exact ⟨rfl, HB3.out⟩
theorem open15n (w : World) : Calls Tryz.prog 15 #[.pointer none] w fun e w' => e = .returned (.tuple #[.pointer none, .int .i64 11]) ∧ Below w.heap.size w w' := by
 have CN : Hid (1 = 1 → _) := fun _ => open39n w
 go_enter Tryz.func15, Tryz.ntmps15
 go_wp2_with fail
 refine (CN.out (by trivial)).mono ?_
 rintro e w1 ⟨rfl, hb1⟩
 have H1 : Hid (Below w.heap.size w w1) := hb1
 clear hb1 CN
 go_wp2_with fail
 go_ret2
 exact ⟨rfl, H1.out⟩
end Go.Proofs.YtajjnmdomabmkaaGreat
namespace Go.Proofs.YtajjnmdomabmkaaGreat
open Go.RowKit
variable {SA : Nat → Nat → (Nat → Prop) → Sto.Sk → World → Prop} {TA : Nat → Nat → (Nat → Prop) → Lat.Tb → World → Prop} {BA : Nat → Nat → (Nat → Prop) → Ver.Bk → World → Prop}
theorem pairs55n (w : World) : Calls Tryz.prog 55 #[.slice none 0 0, .slice none 0 0] w fun e w' => e = .returned (.bool true) ∧ w = w' := by
 go_enter Tryz.func55, Tryz.ntmps55
 go_wp2_with fail
 go_loopw [5] (fun i wr => i = .int .i64 0 ∧ wr = w) (fun _ _ => 0)
 case atStart => exact ⟨rfl, rfl⟩
 case round =>
  obtain ⟨rfl, rfl⟩ := hrel
  go_wp2_with fail
  go_ret
  exact ⟨rfl, rfl⟩
def dn14 : Array Value := #[.int .i64 0, .int .i64 11, .bool false, .string ⟨#[]⟩, .slice none 0 0, .int .u32 0, .int .u32 0, .int .u64 0, .int .u32 0, .int .u64 0, .int .u32 0, .string ⟨#[]⟩, .int .u64 0, .int .u32 0]
theorem eql30 (w : World) : (binOp .eql 30 (.agg #[.int .u32 0, .int .u32 0]) (.agg #[.int .u32 0, .int .u32 0])).run Tryz.prog w = .ok (.bool true) w := by simp [go_sem]
theorem eql32 (w : World) : (binOp .eql 32 (.agg #[.int .u64 0, .int .u32 0]) (.agg #[.int .u64 0, .int .u32 0])).run Tryz.prog w = .ok (.bool true) w := by simp [go_sem]
theorem boxes (w : World) : Below w.heap.size w ((w.alloc (.cells dn14 43)).alloc (.cells dn14 43)) ∧ ((w.alloc (.cells dn14 43)).alloc (.cells dn14 43)).heap[w.heap.size]? = some (.cells dn14 43 (0, 0)) ∧ ((w.alloc (.cells dn14 43)).alloc (.cells dn14 43)).heap[w.heap.size + 1]? = some (.cells dn14 43 (0, 0)) := by
 refine ⟨((Below.refl _ _).alloc (Nat.le_refl _) _).alloc (by simp) _, ?_, ?_⟩
 ·rw [(al (W := w.alloc (.cells dn14 43)) (.cells dn14 43)).block _ (by simp)]
  exact heap_alloc_new w _
 ·have := heap_alloc_new (w.alloc (.cells dn14 43)) (.cells dn14 43)
  simpa using this
theorem same24n (w : World) : Calls Tryz.prog 24 #[.agg dn14, .agg dn14] w fun e w' => e = .returned (.bool true) ∧ Below w.heap.size w w' := by
 have CP : Hid (∀ W : World, 1 = 1 → _) := fun W _ => pairs55n W
 have q30 := eql30
 have q32 := eql32
 obtain ⟨hb, h1, h2⟩ := boxes w
 obtain ⟨a0, a1, a2, a3, a4, a5, a6, a7, a8, a9, a10, a11, a12, a13, -⟩ := free14 h1
 obtain ⟨b0, b1, b2, b3, b4, b5, b6, b7, b8, b9, b10, b11, b12, b13, -⟩ := free14 h2
 have HB : Hid _ := hb
 unfold dn14 at a0 a1 a2 a3 a4 a5 a6 a7 a8 a9 a10 a11 a12 a13 b0 b1 b2 b3 b4 b5 b6 b7 b8 b9 b10 b11 b12 b13 HB ⊢
 obtain ⟨W, hW⟩ : ∃ W, (w.alloc (.cells #[.int .i64 0, .int .i64 11, .bool false, .string ⟨#[]⟩, .slice none 0 0, .int .u32 0, .int .u32 0, .int .u64 0, .int .u32 0, .int .u64 0, .int .u32 0, .string ⟨#[]⟩, .int .u64 0, .int .u32 0] 43)).alloc (.cells #[.int .i64 0, .int .i64 11, .bool false, .string ⟨#[]⟩, .slice none 0 0, .int .u32 0, .int .u32 0, .int .u64 0, .int .u32 0, .int .u64 0, .int .u32 0, .string ⟨#[]⟩, .int .u64 0, .int .u32 0] 43) = W := ⟨_, rfl⟩
 rw [hW] at a0 a1 a2 a3 a4 a5 a6 a7 a8 a9 a10 a11 a12 a13 b0 b1 b2 b3 b4 b5 b6 b7 b8 b9 b10 b11 b12 b13 HB
 clear hb h1 h2
 go_enter Tryz.func24, Tryz.ntmps24
 go_wp2_with fail
 refine (CP.out _ (by trivial)).mono ?_
 rintro e w' ⟨rfl, rfl⟩
 go_wp2_with fail
 go_ret
 exact ⟨rfl, HB.out⟩
end Go.Proofs.YtajjnmdomabmkaaGreat
