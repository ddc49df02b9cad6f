/-
  The program's Write: requests, replies, letters.
-/
import Derived.Test.YtmldgfepnmencaaFw
namespace Go.Proofs.Ytmldgfepnmencaa
open Go.RowKit Go.Sort

set_option maxHeartbeats 3200000 in
set_option maxRecDepth 100000 in
theorem pask16 (pb : Nat) (l : List UInt8) (q : Rq) (kn ln : Nat) (wa sa : Option Addr) (wc sc : Nat) (w : World) (hw : WrAt pb l w) (hl : l.length ≤ 20000) (ok : OkQ q) (rg : RgQ q) (hkn : kn ≤ 9) (hln : ln ≤ 32) (hq : QAt pb q (.slice wa q.ws.length wc) (.slice sa q.sk.length sc) w) :
    Calls Try.prog 16 #[.pointer (some ⟨pb, 0, none⟩), .agg #[.int .i64 (kn : Int), .int .u32 (q.c : Int), .int .u32 (q.n : Int), .int .u64 (q.sp : Int), .int .u32 (q.sl : Int), .int .u64 (q.ap : Int), .int .u32 (q.al : Int), .string (bs q.key), .string (bs q.to), .int .i64 (ln : Int), .int .u8 (q.pt : Int), .slice wa q.ws.length wc, .slice sa q.sk.length sc]] w fun e w' => e = .returned (.tuple #[]) ∧ WrAt pb (l ++ (numForm kn ++ (tnForm ⟨q.c, q.n⟩ ++ (stampForm q.sp q.sl ++ (stampForm q.ap q.al ++ (textForm q.key ++ (textForm q.to ++ (numForm ln ++ (numForm q.pt ++ (liForm wrForm q.ws ++ liForm tnForm q.sk)))))))))) w' ∧ KeptW pb w w' := by
  have H0 : Hid _ := pz_new hw #[.int .i64 (kn : Int), .int .u32 (q.c : Int), .int .u32 (q.n : Int), .int .u64 (q.sp : Int), .int .u32 (q.sl : Int), .int .u64 (q.ap : Int), .int .u32 (q.al : Int), .string (bs q.key), .string (bs q.to), .int .i64 (ln : Int), .int .u8 (q.pt : Int), .slice wa q.ws.length wc, .slice sa q.sk.length sc] 31
  obtain ⟨W1, hW1⟩ : ∃ W1, w.alloc (.cells #[.int .i64 (kn : Int), .int .u32 (q.c : Int), .int .u32 (q.n : Int), .int .u64 (q.sp : Int), .int .u32 (q.sl : Int), .int .u64 (q.ap : Int), .int .u32 (q.al : Int), .string (bs q.key), .string (bs q.to), .int .i64 (ln : Int), .int .u8 (q.pt : Int), .slice wa q.ws.length wc, .slice sa q.sk.length sc] 31) = W1 := ⟨_, rfl⟩
  obtain ⟨b, hb⟩ : ∃ b, w.heap.size = b := ⟨_, rfl⟩
  have P0 : Hid (Pz w pb b #[.int .i64 (kn : Int), .int .u32 (q.c : Int), .int .u32 (q.n : Int), .int .u64 (q.sp : Int), .int .u32 (q.sl : Int), .int .u64 (q.ap : Int), .int .u32 (q.al : Int), .string (bs q.key), .string (bs q.to), .int .i64 (ln : Int), .int .u8 (q.pt : Int), .slice wa q.ws.length wc, .slice sa q.sk.length sc] 31 l W1) := by rw [← hb, ← hW1]; exact H0.out
  clear H0 hw
  have HK : Hid (OkQ q ∧ RgQ q) := ⟨ok, rg⟩
  have HQ : Hid (QAt pb q (.slice wa q.ws.length wc) (.slice sa q.sk.length sc) w) := hq
  have hpt := rg.pt
  clear ok rg hq
  have p0 : W1.cell? ⟨b, 0, none⟩ = some (.int .i64 (kn : Int)) := block_cell P0.out.x rfl
  go_enter Try.func16, Try.ntmps16
  go_wp2_with fail
  refine (num10 pb l kn _ (by omega) P0.out.wr (by omega)).mono ?_
  rintro e w2 ⟨rfl, hw, hk⟩
  clear hW1 hb
  obtain ⟨L1, hL1⟩ : ∃ L, l ++ numForm kn = L := ⟨_, rfl⟩
  rw [hL1] at hw
  have HL1 : Hid (l ++ numForm kn = L1) := hL1
  have hl1 : L1.length ≤ 20009 := by
    have h0 := congrArg List.length hL1
    rw [List.length_append] at h0
    have := nf_len (n := kn) (by omega)
    omega
  have P1 : Hid (Pz w pb b #[.int .i64 (kn : Int), .int .u32 (q.c : Int), .int .u32 (q.n : Int), .int .u64 (q.sp : Int), .int .u32 (q.sl : Int), .int .u64 (q.ap : Int), .int .u32 (q.al : Int), .string (bs q.key), .string (bs q.to), .int .i64 (ln : Int), .int .u8 (q.pt : Int), .slice wa q.ws.length wc, .slice sa q.sk.length sc] 31 L1 w2) := P0.out.go (by decide) hw hk
  clear hw hk hL1 p0 P0
  have p1 : w2.cell? ⟨b, 1, none⟩ = some (.int .u32 (q.c : Int)) := block_cell P1.out.x rfl
  have p2 : w2.cell? ⟨b, 2, none⟩ = some (.int .u32 (q.n : Int)) := block_cell P1.out.x rfl
  go_wp2_with fail
  refine (tn45 pb L1 q.c q.n _ P1.out.wr (by omega) HK.out.2.c).mono ?_
  rintro e w3 ⟨rfl, hw, hk⟩
  obtain ⟨L2, hL2⟩ : ∃ L, L1 ++ tnForm ⟨q.c, q.n⟩ = L := ⟨_, rfl⟩
  rw [hL2] at hw
  have HL2 : Hid (L1 ++ tnForm ⟨q.c, q.n⟩ = L2) := hL2
  have hl2 : L2.length ≤ 20027 := by
    have h0 := congrArg List.length hL2
    rw [List.length_append] at h0
    have := tn_len (t := ⟨q.c, q.n⟩) HK.out.2.c
    omega
  have P2 : Hid (Pz w pb b #[.int .i64 (kn : Int), .int .u32 (q.c : Int), .int .u32 (q.n : Int), .int .u64 (q.sp : Int), .int .u32 (q.sl : Int), .int .u64 (q.ap : Int), .int .u32 (q.al : Int), .string (bs q.key), .string (bs q.to), .int .i64 (ln : Int), .int .u8 (q.pt : Int), .slice wa q.ws.length wc, .slice sa q.sk.length sc] 31 L2 w3) := P1.out.go (by decide) hw hk
  clear hw hk hL2 p1 p2 P1
  have p3 : w3.cell? ⟨b, 3, none⟩ = some (.int .u64 (q.sp : Int)) := block_cell P2.out.x rfl
  have p4 : w3.cell? ⟨b, 4, none⟩ = some (.int .u32 (q.sl : Int)) := block_cell P2.out.x rfl
  go_wp2_with fail
  refine (stamp16 pb L2 q.sp q.sl _ HK.out.2.st.1 HK.out.2.st.2 P2.out.wr (by omega)).mono ?_
  rintro e w4 ⟨rfl, hw, hk⟩
  obtain ⟨L3, hL3⟩ : ∃ L, L2 ++ stampForm q.sp q.sl = L := ⟨_, rfl⟩
  rw [hL3] at hw
  have HL3 : Hid (L2 ++ stampForm q.sp q.sl = L3) := hL3
  have hl3 : L3.length ≤ 20045 := by
    have h0 := congrArg List.length hL3
    rw [List.length_append] at h0
    have := st_len HK.out.2.st
    omega
  have P3 : Hid (Pz w pb b #[.int .i64 (kn : Int), .int .u32 (q.c : Int), .int .u32 (q.n : Int), .int .u64 (q.sp : Int), .int .u32 (q.sl : Int), .int .u64 (q.ap : Int), .int .u32 (q.al : Int), .string (bs q.key), .string (bs q.to), .int .i64 (ln : Int), .int .u8 (q.pt : Int), .slice wa q.ws.length wc, .slice sa q.sk.length sc] 31 L3 w4) := P2.out.go (by decide) hw hk
  clear hw hk hL3 p3 p4 P2
  have p5 : w4.cell? ⟨b, 5, none⟩ = some (.int .u64 (q.ap : Int)) := block_cell P3.out.x rfl
  have p6 : w4.cell? ⟨b, 6, none⟩ = some (.int .u32 (q.al : Int)) := block_cell P3.out.x rfl
  go_wp2_with fail
  refine (stamp16 pb L3 q.ap q.al _ HK.out.2.at_.1 HK.out.2.at_.2 P3.out.wr (by omega)).mono ?_
  rintro e w5 ⟨rfl, hw, hk⟩
  obtain ⟨L4, hL4⟩ : ∃ L, L3 ++ stampForm q.ap q.al = L := ⟨_, rfl⟩
  rw [hL4] at hw
  have HL4 : Hid (L3 ++ stampForm q.ap q.al = L4) := hL4
  have hl4 : L4.length ≤ 20063 := by
    have h0 := congrArg List.length hL4
    rw [List.length_append] at h0
    have := st_len HK.out.2.at_
    omega
  have P4 : Hid (Pz w pb b #[.int .i64 (kn : Int), .int .u32 (q.c : Int), .int .u32 (q.n : Int), .int .u64 (q.sp : Int), .int .u32 (q.sl : Int), .int .u64 (q.ap : Int), .int .u32 (q.al : Int), .string (bs q.key), .string (bs q.to), .int .i64 (ln : Int), .int .u8 (q.pt : Int), .slice wa q.ws.length wc, .slice sa q.sk.length sc] 31 L4 w5) := P3.out.go (by decide) hw hk
  clear hw hk hL4 p5 p6 P3
  have p7 : w5.cell? ⟨b, 7, none⟩ = some (.string (bs q.key)) := block_cell P4.out.x rfl
  go_wp2_with fail
  refine (text19 pb L4 q.key _ P4.out.wr (by have := HK.out.1.key; omega)).mono ?_
  rintro e w6 ⟨rfl, hw, hk⟩
  obtain ⟨L5, hL5⟩ : ∃ L, L4 ++ textForm q.key = L := ⟨_, rfl⟩
  rw [hL5] at hw
  have HL5 : Hid (L4 ++ textForm q.key = L5) := hL5
  have hl5 : L5.length ≤ 20104 := by
    have h0 := congrArg List.length hL5
    rw [List.length_append] at h0
    have := tx_len HK.out.1.key (by decide)
    omega
  have P5 : Hid (Pz w pb b #[.int .i64 (kn : Int), .int .u32 (q.c : Int), .int .u32 (q.n : Int), .int .u64 (q.sp : Int), .int .u32 (q.sl : Int), .int .u64 (q.ap : Int), .int .u32 (q.al : Int), .string (bs q.key), .string (bs q.to), .int .i64 (ln : Int), .int .u8 (q.pt : Int), .slice wa q.ws.length wc, .slice sa q.sk.length sc] 31 L5 w6) := P4.out.go (by decide) hw hk
  clear hw hk hL5 p7 P4
  have p8 : w6.cell? ⟨b, 8, none⟩ = some (.string (bs q.to)) := block_cell P5.out.x rfl
  go_wp2_with fail
  refine (text19 pb L5 q.to _ P5.out.wr (by have := HK.out.1.to; omega)).mono ?_
  rintro e w7 ⟨rfl, hw, hk⟩
  obtain ⟨L6, hL6⟩ : ∃ L, L5 ++ textForm q.to = L := ⟨_, rfl⟩
  rw [hL6] at hw
  have HL6 : Hid (L5 ++ textForm q.to = L6) := hL6
  have hl6 : L6.length ≤ 20145 := by
    have h0 := congrArg List.length hL6
    rw [List.length_append] at h0
    have := tx_len HK.out.1.to (by decide)
    omega
  have P6 : Hid (Pz w pb b #[.int .i64 (kn : Int), .int .u32 (q.c : Int), .int .u32 (q.n : Int), .int .u64 (q.sp : Int), .int .u32 (q.sl : Int), .int .u64 (q.ap : Int), .int .u32 (q.al : Int), .string (bs q.key), .string (bs q.to), .int .i64 (ln : Int), .int .u8 (q.pt : Int), .slice wa q.ws.length wc, .slice sa q.sk.length sc] 31 L6 w7) := P5.out.go (by decide) hw hk
  clear hw hk hL6 p8 P5
  have p9 : w7.cell? ⟨b, 9, none⟩ = some (.int .i64 (ln : Int)) := block_cell P6.out.x rfl
  go_wp2_with fail
  refine (num10 pb L6 ln _ (by omega) P6.out.wr (by omega)).mono ?_
  rintro e w8 ⟨rfl, hw, hk⟩
  obtain ⟨L7, hL7⟩ : ∃ L, L6 ++ numForm ln = L := ⟨_, rfl⟩
  rw [hL7] at hw
  have HL7 : Hid (L6 ++ numForm ln = L7) := hL7
  have hl7 : L7.length ≤ 20154 := by
    have h0 := congrArg List.length hL7
    rw [List.length_append] at h0
    have := nf_len (n := ln) (by omega)
    omega
  have P7 : Hid (Pz w pb b #[.int .i64 (kn : Int), .int .u32 (q.c : Int), .int .u32 (q.n : Int), .int .u64 (q.sp : Int), .int .u32 (q.sl : Int), .int .u64 (q.ap : Int), .int .u32 (q.al : Int), .string (bs q.key), .string (bs q.to), .int .i64 (ln : Int), .int .u8 (q.pt : Int), .slice wa q.ws.length wc, .slice sa q.sk.length sc] 31 L7 w8) := P6.out.go (by decide) hw hk
  clear hw hk hL7 p9 P6
  have p10 : w8.cell? ⟨b, 10, none⟩ = some (.int .u8 (q.pt : Int)) := block_cell P7.out.x rfl
  go_wp2_with fail
  refine (num10 pb L7 q.pt _ (by omega) P7.out.wr (by omega)).mono ?_
  rintro e w9 ⟨rfl, hw, hk⟩
  obtain ⟨L8, hL8⟩ : ∃ L, L7 ++ numForm q.pt = L := ⟨_, rfl⟩
  rw [hL8] at hw
  have HL8 : Hid (L7 ++ numForm q.pt = L8) := hL8
  have hl8 : L8.length ≤ 20163 := by
    have h0 := congrArg List.length hL8
    rw [List.length_append] at h0
    have := nf_len (n := q.pt) (by omega)
    omega
  have P8 : Hid (Pz w pb b #[.int .i64 (kn : Int), .int .u32 (q.c : Int), .int .u32 (q.n : Int), .int .u64 (q.sp : Int), .int .u32 (q.sl : Int), .int .u64 (q.ap : Int), .int .u32 (q.al : Int), .string (bs q.key), .string (bs q.to), .int .i64 (ln : Int), .int .u8 (q.pt : Int), .slice wa q.ws.length wc, .slice sa q.sk.length sc] 31 L8 w9) := P7.out.go (by decide) hw hk
  clear hw hk hL8 p10 P7
  have p11 : w9.cell? ⟨b, 11, none⟩ = some (.slice wa q.ws.length wc) := block_cell P8.out.x rfl
  go_wp2_with fail
  refine (pws47 pb L8 q.ws wa wc _ P8.out.wr (by omega) (HQ.out.ws.on P8.out.kept.below) HK.out.1.wl HK.out.1.ws).mono ?_
  rintro e w10 ⟨rfl, hw, hk⟩
  obtain ⟨L9, hL9⟩ : ∃ L, L8 ++ liForm wrForm q.ws = L := ⟨_, rfl⟩
  rw [hL9] at hw
  have HL9 : Hid (L8 ++ liForm wrForm q.ws = L9) := hL9
  have hl9 : L9.length ≤ 25084 := by
    have h0 := congrArg List.length hL9
    rw [List.length_append] at h0
    have := HK.out.1.wl
    have := li_len (g := wrForm) (c := 307) (l := q.ws) (by omega) (fun x hx => wr_len (HK.out.1.ws x hx))
    omega
  have P9 : Hid (Pz w pb b #[.int .i64 (kn : Int), .int .u32 (q.c : Int), .int .u32 (q.n : Int), .int .u64 (q.sp : Int), .int .u32 (q.sl : Int), .int .u64 (q.ap : Int), .int .u32 (q.al : Int), .string (bs q.key), .string (bs q.to), .int .i64 (ln : Int), .int .u8 (q.pt : Int), .slice wa q.ws.length wc, .slice sa q.sk.length sc] 31 L9 w10) := P8.out.go (by decide) hw hk
  clear hw hk hL9 p11 P8
  have p12 : w10.cell? ⟨b, 12, none⟩ = some (.slice sa q.sk.length sc) := block_cell P9.out.x rfl
  go_wp2_with fail
  refine (pts49 pb L9 q.sk sa sc _ P9.out.wr (by omega) (HQ.out.sk.on P9.out.kept.below) HK.out.1.sk HK.out.2.sk).mono ?_
  rintro e w11 ⟨rfl, hw, hk⟩
  obtain ⟨L10, hL10⟩ : ∃ L, L9 ++ liForm tnForm q.sk = L := ⟨_, rfl⟩
  rw [hL10] at hw
  have HL10 : Hid (L9 ++ liForm tnForm q.sk = L10) := hL10
  have hl10 : L10.length ≤ 25381 := by
    have h0 := congrArg List.length hL10
    rw [List.length_append] at h0
    have := HK.out.1.sk
    have := li_len (g := tnForm) (c := 18) (l := q.sk) (by omega) (fun x hx => tn_len (HK.out.2.sk x hx))
    omega
  have P10 : Hid (Pz w pb b #[.int .i64 (kn : Int), .int .u32 (q.c : Int), .int .u32 (q.n : Int), .int .u64 (q.sp : Int), .int .u32 (q.sl : Int), .int .u64 (q.ap : Int), .int .u32 (q.al : Int), .string (bs q.key), .string (bs q.to), .int .i64 (ln : Int), .int .u8 (q.pt : Int), .slice wa q.ws.length wc, .slice sa q.sk.length sc] 31 L10 w11) := P9.out.go (by decide) hw hk
  clear hw hk hL10 p12 P9
  go_wp2_with fail
  go_end0
  refine ⟨rfl, ?_, P10.out.kept⟩
  have h := P10.out.wr
  rw [← HL10.out, ← HL9.out, ← HL8.out, ← HL7.out, ← HL6.out, ← HL5.out, ← HL4.out, ← HL3.out, ← HL2.out, ← HL1.out] at h
  simpa only [List.append_assoc] using h
set_option maxHeartbeats 3200000 in
set_option maxRecDepth 100000 in
theorem preply15 (pb : Nat) (l : List UInt8) (r : Rp) (kn en : Nat) (pa : Option Addr) (pc : Nat) (w : World) (hw : WrAt pb l w) (hl : l.length ≤ 20000) (ok : OkR r) (rg : RgR r) (hkn : kn ≤ 10) (hen : en ≤ 255) (hp : PsAt pb (.slice pa r.ps.length pc) r.ps w) :
    Calls Try.prog 15 #[.pointer (some ⟨pb, 0, none⟩), .agg #[.int .i64 (kn : Int), .int .i64 (en : Int), .bool r.fd, .string (bs r.val), .slice pa r.ps.length pc, .int .u32 (r.c : Int), .int .u32 (r.n : Int), .int .u64 (r.sp : Int), .int .u32 (r.sl : Int), .int .u64 (r.ap : Int), .int .u32 (r.al : Int), .string (bs r.prim), .int .u64 (r.np : Int), .int .u32 (r.nl : Int)]] w fun e w' => e = .returned (.tuple #[]) ∧ WrAt pb (l ++ (numForm kn ++ (numForm en ++ (flagForm r.fd ++ (textForm r.val ++ (liForm prForm r.ps ++ (tnForm ⟨r.c, r.n⟩ ++ (stampForm r.sp r.sl ++ (stampForm r.ap r.al ++ (textForm r.prim ++ stampForm r.np r.nl)))))))))) w' ∧ KeptW pb w w' := by
  have H0 : Hid _ := pz_new hw #[.int .i64 (kn : Int), .int .i64 (en : Int), .bool r.fd, .string (bs r.val), .slice pa r.ps.length pc, .int .u32 (r.c : Int), .int .u32 (r.n : Int), .int .u64 (r.sp : Int), .int .u32 (r.sl : Int), .int .u64 (r.ap : Int), .int .u32 (r.al : Int), .string (bs r.prim), .int .u64 (r.np : Int), .int .u32 (r.nl : Int)] 35
  obtain ⟨W1, hW1⟩ : ∃ W1, w.alloc (.cells #[.int .i64 (kn : Int), .int .i64 (en : Int), .bool r.fd, .string (bs r.val), .slice pa r.ps.length pc, .int .u32 (r.c : Int), .int .u32 (r.n : Int), .int .u64 (r.sp : Int), .int .u32 (r.sl : Int), .int .u64 (r.ap : Int), .int .u32 (r.al : Int), .string (bs r.prim), .int .u64 (r.np : Int), .int .u32 (r.nl : Int)] 35) = W1 := ⟨_, rfl⟩
  obtain ⟨b, hb⟩ : ∃ b, w.heap.size = b := ⟨_, rfl⟩
  have P0 : Hid (Pz w pb b #[.int .i64 (kn : Int), .int .i64 (en : Int), .bool r.fd, .string (bs r.val), .slice pa r.ps.length pc, .int .u32 (r.c : Int), .int .u32 (r.n : Int), .int .u64 (r.sp : Int), .int .u32 (r.sl : Int), .int .u64 (r.ap : Int), .int .u32 (r.al : Int), .string (bs r.prim), .int .u64 (r.np : Int), .int .u32 (r.nl : Int)] 35 l W1) := by rw [← hb, ← hW1]; exact H0.out
  clear H0 hw
  have HK : Hid (OkR r ∧ RgR r) := ⟨ok, rg⟩
  have HP : Hid (PsAt pb (.slice pa r.ps.length pc) r.ps w) := hp
  clear ok rg hp
  have p0 : W1.cell? ⟨b, 0, none⟩ = some (.int .i64 (kn : Int)) := block_cell P0.out.x rfl
  go_enter Try.func15, Try.ntmps15
  go_wp2_with fail
  refine (num10 pb l kn _ (by omega) P0.out.wr (by omega)).mono ?_
  rintro e w2 ⟨rfl, hw, hk⟩
  clear hW1 hb
  obtain ⟨L1, hL1⟩ : ∃ L, l ++ numForm kn = L := ⟨_, rfl⟩
  rw [hL1] at hw
  have HL1 : Hid (l ++ numForm kn = L1) := hL1
  have hl1 : L1.length ≤ 20009 := by
    have h0 := congrArg List.length hL1
    rw [List.length_append] at h0
    have := nf_len (n := kn) (by omega)
    omega
  have P1 : Hid (Pz w pb b #[.int .i64 (kn : Int), .int .i64 (en : Int), .bool r.fd, .string (bs r.val), .slice pa r.ps.length pc, .int .u32 (r.c : Int), .int .u32 (r.n : Int), .int .u64 (r.sp : Int), .int .u32 (r.sl : Int), .int .u64 (r.ap : Int), .int .u32 (r.al : Int), .string (bs r.prim), .int .u64 (r.np : Int), .int .u32 (r.nl : Int)] 35 L1 w2) := P0.out.go (by decide) hw hk
  clear hw hk hL1 p0 P0
  have p1 : w2.cell? ⟨b, 1, none⟩ = some (.int .i64 (en : Int)) := block_cell P1.out.x rfl
  go_wp2_with fail
  refine (num10 pb L1 en _ (by omega) P1.out.wr (by omega)).mono ?_
  rintro e w3 ⟨rfl, hw, hk⟩
  obtain ⟨L2, hL2⟩ : ∃ L, L1 ++ numForm en = L := ⟨_, rfl⟩
  rw [hL2] at hw
  have HL2 : Hid (L1 ++ numForm en = L2) := hL2
  have hl2 : L2.length ≤ 20018 := by
    have h0 := congrArg List.length hL2
    rw [List.length_append] at h0
    have := nf_len (n := en) (by omega)
    omega
  have P2 : Hid (Pz w pb b #[.int .i64 (kn : Int), .int .i64 (en : Int), .bool r.fd, .string (bs r.val), .slice pa r.ps.length pc, .int .u32 (r.c : Int), .int .u32 (r.n : Int), .int .u64 (r.sp : Int), .int .u32 (r.sl : Int), .int .u64 (r.ap : Int), .int .u32 (r.al : Int), .string (bs r.prim), .int .u64 (r.np : Int), .int .u32 (r.nl : Int)] 35 L2 w3) := P1.out.go (by decide) hw hk
  clear hw hk hL2 p1 P1
  have p2 : w3.cell? ⟨b, 2, none⟩ = some (.bool r.fd) := block_cell P2.out.x rfl
  go_wp2_with fail
  refine (flag14 pb L2 r.fd _ P2.out.wr (by omega)).mono ?_
  rintro e w4 ⟨rfl, hw, hk⟩
  obtain ⟨L3, hL3⟩ : ∃ L, L2 ++ flagForm r.fd = L := ⟨_, rfl⟩
  rw [hL3] at hw
  have HL3 : Hid (L2 ++ flagForm r.fd = L3) := hL3
  have hl3 : L3.length ≤ 20019 := by
    have h0 := congrArg List.length hL3
    rw [List.length_append] at h0
    have := fl_len r.fd
    omega
  have P3 : Hid (Pz w pb b #[.int .i64 (kn : Int), .int .i64 (en : Int), .bool r.fd, .string (bs r.val), .slice pa r.ps.length pc, .int .u32 (r.c : Int), .int .u32 (r.n : Int), .int .u64 (r.sp : Int), .int .u32 (r.sl : Int), .int .u64 (r.ap : Int), .int .u32 (r.al : Int), .string (bs r.prim), .int .u64 (r.np : Int), .int .u32 (r.nl : Int)] 35 L3 w4) := P2.out.go (by decide) hw hk
  clear hw hk hL3 p2 P2
  have p3 : w4.cell? ⟨b, 3, none⟩ = some (.string (bs r.val)) := block_cell P3.out.x rfl
  go_wp2_with fail
  refine (text19 pb L3 r.val _ P3.out.wr (by have := HK.out.1.val; omega)).mono ?_
  rintro e w5 ⟨rfl, hw, hk⟩
  obtain ⟨L4, hL4⟩ : ∃ L, L3 ++ textForm r.val = L := ⟨_, rfl⟩
  rw [hL4] at hw
  have HL4 : Hid (L3 ++ textForm r.val = L4) := hL4
  have hl4 : L4.length ≤ 20284 := by
    have h0 := congrArg List.length hL4
    rw [List.length_append] at h0
    have := tx_len HK.out.1.val (by decide)
    omega
  have P4 : Hid (Pz w pb b #[.int .i64 (kn : Int), .int .i64 (en : Int), .bool r.fd, .string (bs r.val), .slice pa r.ps.length pc, .int .u32 (r.c : Int), .int .u32 (r.n : Int), .int .u64 (r.sp : Int), .int .u32 (r.sl : Int), .int .u64 (r.ap : Int), .int .u32 (r.al : Int), .string (bs r.prim), .int .u64 (r.np : Int), .int .u32 (r.nl : Int)] 35 L4 w5) := P3.out.go (by decide) hw hk
  clear hw hk hL4 p3 P3
  have p4 : w5.cell? ⟨b, 4, none⟩ = some (.slice pa r.ps.length pc) := block_cell P4.out.x rfl
  go_wp2_with fail
  refine (pps43 pb L4 r.ps pa pc _ P4.out.wr (by omega) (PsAt.on HP.out P4.out.kept.below) HK.out.1.pl HK.out.1.ps).mono ?_
  rintro e w6 ⟨rfl, hw, hk⟩
  obtain ⟨L5, hL5⟩ : ∃ L, L4 ++ liForm prForm r.ps = L := ⟨_, rfl⟩
  rw [hL5] at hw
  have HL5 : Hid (L4 ++ liForm prForm r.ps = L5) := hL5
  have hl5 : L5.length ≤ 30085 := by
    have h0 := congrArg List.length hL5
    rw [List.length_append] at h0
    have := HK.out.1.pl
    have := li_len (g := prForm) (c := 306) (l := r.ps) (by omega) (fun x hx => pr_len (HK.out.1.ps x hx))
    omega
  have P5 : Hid (Pz w pb b #[.int .i64 (kn : Int), .int .i64 (en : Int), .bool r.fd, .string (bs r.val), .slice pa r.ps.length pc, .int .u32 (r.c : Int), .int .u32 (r.n : Int), .int .u64 (r.sp : Int), .int .u32 (r.sl : Int), .int .u64 (r.ap : Int), .int .u32 (r.al : Int), .string (bs r.prim), .int .u64 (r.np : Int), .int .u32 (r.nl : Int)] 35 L5 w6) := P4.out.go (by decide) hw hk
  clear hw hk hL5 p4 P4
  have p5 : w6.cell? ⟨b, 5, none⟩ = some (.int .u32 (r.c : Int)) := block_cell P5.out.x rfl
  have p6 : w6.cell? ⟨b, 6, none⟩ = some (.int .u32 (r.n : Int)) := block_cell P5.out.x rfl
  go_wp2_with fail
  refine (tn45 pb L5 r.c r.n _ P5.out.wr (by omega) HK.out.2.c).mono ?_
  rintro e w7 ⟨rfl, hw, hk⟩
  obtain ⟨L6, hL6⟩ : ∃ L, L5 ++ tnForm ⟨r.c, r.n⟩ = L := ⟨_, rfl⟩
  rw [hL6] at hw
  have HL6 : Hid (L5 ++ tnForm ⟨r.c, r.n⟩ = L6) := hL6
  have hl6 : L6.length ≤ 30103 := by
    have h0 := congrArg List.length hL6
    rw [List.length_append] at h0
    have := tn_len (t := ⟨r.c, r.n⟩) HK.out.2.c
    omega
  have P6 : Hid (Pz w pb b #[.int .i64 (kn : Int), .int .i64 (en : Int), .bool r.fd, .string (bs r.val), .slice pa r.ps.length pc, .int .u32 (r.c : Int), .int .u32 (r.n : Int), .int .u64 (r.sp : Int), .int .u32 (r.sl : Int), .int .u64 (r.ap : Int), .int .u32 (r.al : Int), .string (bs r.prim), .int .u64 (r.np : Int), .int .u32 (r.nl : Int)] 35 L6 w7) := P5.out.go (by decide) hw hk
  clear hw hk hL6 p5 p6 P5
  have p7 : w7.cell? ⟨b, 7, none⟩ = some (.int .u64 (r.sp : Int)) := block_cell P6.out.x rfl
  have p8 : w7.cell? ⟨b, 8, none⟩ = some (.int .u32 (r.sl : Int)) := block_cell P6.out.x rfl
  go_wp2_with fail
  refine (stamp16 pb L6 r.sp r.sl _ HK.out.2.st.1 HK.out.2.st.2 P6.out.wr (by omega)).mono ?_
  rintro e w8 ⟨rfl, hw, hk⟩
  obtain ⟨L7, hL7⟩ : ∃ L, L6 ++ stampForm r.sp r.sl = L := ⟨_, rfl⟩
  rw [hL7] at hw
  have HL7 : Hid (L6 ++ stampForm r.sp r.sl = L7) := hL7
  have hl7 : L7.length ≤ 30121 := by
    have h0 := congrArg List.length hL7
    rw [List.length_append] at h0
    have := st_len HK.out.2.st
    omega
  have P7 : Hid (Pz w pb b #[.int .i64 (kn : Int), .int .i64 (en : Int), .bool r.fd, .string (bs r.val), .slice pa r.ps.length pc, .int .u32 (r.c : Int), .int .u32 (r.n : Int), .int .u64 (r.sp : Int), .int .u32 (r.sl : Int), .int .u64 (r.ap : Int), .int .u32 (r.al : Int), .string (bs r.prim), .int .u64 (r.np : Int), .int .u32 (r.nl : Int)] 35 L7 w8) := P6.out.go (by decide) hw hk
  clear hw hk hL7 p7 p8 P6
  have p9 : w8.cell? ⟨b, 9, none⟩ = some (.int .u64 (r.ap : Int)) := block_cell P7.out.x rfl
  have p10 : w8.cell? ⟨b, 10, none⟩ = some (.int .u32 (r.al : Int)) := block_cell P7.out.x rfl
  go_wp2_with fail
  refine (stamp16 pb L7 r.ap r.al _ HK.out.2.at_.1 HK.out.2.at_.2 P7.out.wr (by omega)).mono ?_
  rintro e w9 ⟨rfl, hw, hk⟩
  obtain ⟨L8, hL8⟩ : ∃ L, L7 ++ stampForm r.ap r.al = L := ⟨_, rfl⟩
  rw [hL8] at hw
  have HL8 : Hid (L7 ++ stampForm r.ap r.al = L8) := hL8
  have hl8 : L8.length ≤ 30139 := by
    have h0 := congrArg List.length hL8
    rw [List.length_append] at h0
    have := st_len HK.out.2.at_
    omega
  have P8 : Hid (Pz w pb b #[.int .i64 (kn : Int), .int .i64 (en : Int), .bool r.fd, .string (bs r.val), .slice pa r.ps.length pc, .int .u32 (r.c : Int), .int .u32 (r.n : Int), .int .u64 (r.sp : Int), .int .u32 (r.sl : Int), .int .u64 (r.ap : Int), .int .u32 (r.al : Int), .string (bs r.prim), .int .u64 (r.np : Int), .int .u32 (r.nl : Int)] 35 L8 w9) := P7.out.go (by decide) hw hk
  clear hw hk hL8 p9 p10 P7
  have p11 : w9.cell? ⟨b, 11, none⟩ = some (.string (bs r.prim)) := block_cell P8.out.x rfl
  go_wp2_with fail
  refine (text19 pb L8 r.prim _ P8.out.wr (by have := HK.out.1.prim; omega)).mono ?_
  rintro e w10 ⟨rfl, hw, hk⟩
  obtain ⟨L9, hL9⟩ : ∃ L, L8 ++ textForm r.prim = L := ⟨_, rfl⟩
  rw [hL9] at hw
  have HL9 : Hid (L8 ++ textForm r.prim = L9) := hL9
  have hl9 : L9.length ≤ 30180 := by
    have h0 := congrArg List.length hL9
    rw [List.length_append] at h0
    have := tx_len HK.out.1.prim (by decide)
    omega
  have P9 : Hid (Pz w pb b #[.int .i64 (kn : Int), .int .i64 (en : Int), .bool r.fd, .string (bs r.val), .slice pa r.ps.length pc, .int .u32 (r.c : Int), .int .u32 (r.n : Int), .int .u64 (r.sp : Int), .int .u32 (r.sl : Int), .int .u64 (r.ap : Int), .int .u32 (r.al : Int), .string (bs r.prim), .int .u64 (r.np : Int), .int .u32 (r.nl : Int)] 35 L9 w10) := P8.out.go (by decide) hw hk
  clear hw hk hL9 p11 P8
  have p12 : w10.cell? ⟨b, 12, none⟩ = some (.int .u64 (r.np : Int)) := block_cell P9.out.x rfl
  have p13 : w10.cell? ⟨b, 13, none⟩ = some (.int .u32 (r.nl : Int)) := block_cell P9.out.x rfl
  go_wp2_with fail
  refine (stamp16 pb L9 r.np r.nl _ HK.out.2.nw.1 HK.out.2.nw.2 P9.out.wr (by omega)).mono ?_
  rintro e w11 ⟨rfl, hw, hk⟩
  obtain ⟨L10, hL10⟩ : ∃ L, L9 ++ stampForm r.np r.nl = L := ⟨_, rfl⟩
  rw [hL10] at hw
  have HL10 : Hid (L9 ++ stampForm r.np r.nl = L10) := hL10
  have hl10 : L10.length ≤ 30198 := by
    have h0 := congrArg List.length hL10
    rw [List.length_append] at h0
    have := st_len HK.out.2.nw
    omega
  have P10 : Hid (Pz w pb b #[.int .i64 (kn : Int), .int .i64 (en : Int), .bool r.fd, .string (bs r.val), .slice pa r.ps.length pc, .int .u32 (r.c : Int), .int .u32 (r.n : Int), .int .u64 (r.sp : Int), .int .u32 (r.sl : Int), .int .u64 (r.ap : Int), .int .u32 (r.al : Int), .string (bs r.prim), .int .u64 (r.np : Int), .int .u32 (r.nl : Int)] 35 L10 w11) := P9.out.go (by decide) hw hk
  clear hw hk hL10 p12 p13 P9
  go_wp2_with fail
  go_end0
  refine ⟨rfl, ?_, P10.out.kept⟩
  have h := P10.out.wr
  rw [← HL10.out, ← HL9.out, ← HL8.out, ← HL7.out, ← HL6.out, ← HL5.out, ← HL4.out, ← HL3.out, ← HL2.out, ← HL1.out] at h
  simpa only [List.append_assoc] using h
theorem ask16 (pb : Nat) (L : List UInt8) (q : Rq) (wa sa : Option Addr) (wc sc : Nat) (w : World) (hw : WrAt pb L w) (hl : L.length ≤ 20000) (ok : OkQ q) (rg : RgQ q) (hq : QAt pb q (.slice wa q.ws.length wc) (.slice sa q.sk.length sc) w) :
    Calls Try.prog 16 #[.pointer (some ⟨pb, 0, none⟩), .agg #[.int .i64 q.k, .int .u32 (q.c : Int), .int .u32 (q.n : Int), .int .u64 (q.sp : Int), .int .u32 (q.sl : Int), .int .u64 (q.ap : Int), .int .u32 (q.al : Int), .string (bs q.key), .string (bs q.to), .int .i64 q.lim, .int .u8 (q.pt : Int), .slice wa q.ws.length wc, .slice sa q.sk.length sc]] w fun e w' => e = .returned (.tuple #[]) ∧ WrAt pb (L ++ formQ q) w' ∧ KeptW pb w w' := by
  have h1 := ok.k
  have h2 := ok.lim
  have h := pask16 pb L q q.k.toNat q.lim.toNat wa sa wc sc w hw hl ok rg (by omega) (by omega) hq
  rw [show ((q.k.toNat : Nat) : Int) = q.k from by omega, show ((q.lim.toNat : Nat) : Int) = q.lim from by omega] at h
  exact h
theorem reply15 (pb : Nat) (L : List UInt8) (r : Rp) (pa : Option Addr) (pc : Nat) (w : World) (hw : WrAt pb L w) (hl : L.length ≤ 20000) (ok : OkR r) (rg : RgR r) (hp : PsAt pb (.slice pa r.ps.length pc) r.ps w) :
    Calls Try.prog 15 #[.pointer (some ⟨pb, 0, none⟩), .agg #[.int .i64 r.k, .int .i64 r.er, .bool r.fd, .string (bs r.val), .slice pa r.ps.length pc, .int .u32 (r.c : Int), .int .u32 (r.n : Int), .int .u64 (r.sp : Int), .int .u32 (r.sl : Int), .int .u64 (r.ap : Int), .int .u32 (r.al : Int), .string (bs r.prim), .int .u64 (r.np : Int), .int .u32 (r.nl : Int)]] w fun e w' => e = .returned (.tuple #[]) ∧ WrAt pb (L ++ formR r) w' ∧ KeptW pb w w' := by
  have h1 := ok.k
  have h2 := ok.er
  have h := preply15 pb L r r.k.toNat r.er.toNat pa pc w hw hl ok rg (by omega) (by omega) hp
  rw [show ((r.k.toNat : Nat) : Int) = r.k from by omega, show ((r.er.toNat : Nat) : Int) = r.er from by omega] at h
  exact h
theorem pz_two {w W : World} {b : Nat} {cs : Array Value} {ty : TypeId} (h : Bx w b cs ty W) : Pz (W.alloc (.cells #[.slice none 0 0] 52)) W.heap.size b cs ty [] (W.alloc (.cells #[.slice none 0 0] 52)) :=
  ⟨⟨.slice none 0 0, heap_alloc_new W _, own_nil _ _ _ _⟩, KeptW.refl _ _, by rw [(al (W := W) _).block b (Array.getElem?_eq_some_iff.1 h.x).1]; exact h.x, by have := (Array.getElem?_eq_some_iff.1 h.x).1; omega⟩
end Go.Proofs.Ytmldgfepnmencaa
