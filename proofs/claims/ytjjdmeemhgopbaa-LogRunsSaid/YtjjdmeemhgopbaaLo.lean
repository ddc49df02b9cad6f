/-
  A log on a drum, plain: what each call makes of the drum and answers.
-/
import Derived.Test.YtjjdmeemhgopbaaLg
import Derived.Test.YtjjdmeemhgopbaaDPlain
namespace Go.Proofs.Ytjjdmeemhgopbaa
open Drm

/-- What an area tells: its generation, its records, its end, how many bytes stand behind it. -/
structure Ct where
  gen : Nat
  recs : List (List UInt8)
  fin : Nat
  beh : Nat
def Ct.zero : Ct := ⟨0, [], 0, 0⟩
def scanOf (l : List UInt8) : Ct × Bool :=
  match lgOf l with
  | none => (Ct.zero, false)
  | some x => (⟨x.1, x.2.1, x.2.2, l.length - x.2.2⟩, true)

/-- Of the areas below k the first one of the greatest generation. -/
def newestTo (D : Dr) : Nat → Int × Ct
  | 0 => (-1, Ct.zero)
  | k + 1 => if (D.p k).there = true ∧ (scanOf (D.p k).l).2 = true ∧ ((newestTo D k).1 = -1 ∨ (newestTo D k).2.gen < (scanOf (D.p k).l).1.gen) then ((k : Int), (scanOf (D.p k).l).1) else newestTo D k

/-- The areas below k are cut, but the one that is kept. -/
def cutTo (D : Dr) (kept : Int) : Nat → Int × Dr
  | 0 => (0, D)
  | k + 1 =>
    if (cutTo D kept k).1 ≠ 0 then cutTo D kept k
    else if (k : Int) = kept ∨ (cutTo D kept k).2.has k = false then cutTo D kept k
    else (cutTo D kept k).2.cut k

def putF (D : Dr) (a : Int) (s : List UInt8) : Int × Dr := if (D.write a s).1 ≠ 0 then D.write a s else (D.write a s).2.sync a
def layF (D : Dr) (a : Int) (g : Nat) (R : List (List UInt8)) : Int × Dr := if (D.lay a).1 ≠ 0 then D.lay a else putF (D.lay a).2 a (headOf g R)

/-- Open: the error; the area, the generation, the records; the drum. -/
def openF (D : Dr) : Int × (Int × Nat × List (List UInt8)) × Dr :=
  if (cutTo D (newestTo D 4).1 4).1 ≠ 0 then ((cutTo D (newestTo D 4).1 4).1, (0, 0, []), (cutTo D (newestTo D 4).1 4).2)
  else if (newestTo D 4).1 = -1 then
    if (layF (cutTo D (newestTo D 4).1 4).2 0 1 []).1 ≠ 0 then ((layF (cutTo D (newestTo D 4).1 4).2 0 1 []).1, (0, 0, []), (layF (cutTo D (newestTo D 4).1 4).2 0 1 []).2)
    else (0, (0, 1, []), (layF (cutTo D (newestTo D 4).1 4).2 0 1 []).2)
  else if 0 < (newestTo D 4).2.beh then
    if ((cutTo D (newestTo D 4).1 4).2.trim (newestTo D 4).1 (newestTo D 4).2.fin).1 ≠ 0 then (((cutTo D (newestTo D 4).1 4).2.trim (newestTo D 4).1 (newestTo D 4).2.fin).1, (0, 0, []), ((cutTo D (newestTo D 4).1 4).2.trim (newestTo D 4).1 (newestTo D 4).2.fin).2)
    else (0, ((newestTo D 4).1, (newestTo D 4).2.gen, (newestTo D 4).2.recs), ((cutTo D (newestTo D 4).1 4).2.trim (newestTo D 4).1 (newestTo D 4).2.fin).2)
  else (0, ((newestTo D 4).1, (newestTo D 4).2.gen, (newestTo D 4).2.recs), (cutTo D (newestTo D 4).1 4).2)

def appendF (D : Dr) (a : Int) (r : List UInt8) : Int × Dr := if 16000 < r.length then (3, D) else putF D a (frameOf (82 :: r))

/-- The first area that isn't there (4: none). -/
def spareF (D : Dr) : Nat := if (D.p 0).there = false then 0 else if (D.p 1).there = false then 1 else if (D.p 2).there = false then 2 else if (D.p 3).there = false then 3 else 4

/-- Is no record too long? -/
def fitB (L : List (List UInt8)) : Bool := L.all fun r => decide (r.length ≤ 16000)
theorem fit_iff (L : List (List UInt8)) : fitB L = true ↔ Fit L := by unfold fitB Fit; simp

/-- The generation behind g: one greater, going round. -/
def gsucc (g : Nat) : Nat := (g + 1) % 18446744073709551616

/-- Renew: the error; the area, the generation; the drum. -/
def renewF (D : Dr) (a : Int) (g : Nat) (L : List (List UInt8)) : Int × (Int × Nat) × Dr :=
  if fitB L = false then (3, (a, g), D)
  else if D.down = true then (11, (a, g), D)
  else if spareF D = 4 then (10, (a, g), D)
  else if (layF D (spareF D) (gsucc g) L).1 ≠ 0 then ((layF D (spareF D) (gsucc g) L).1, (a, g), ((layF D (spareF D) (gsucc g) L).2.cut (spareF D)).2)
  else (((layF D (spareF D) (gsucc g) L).2.cut a).1, ((spareF D : Int), gsucc g), ((layF D (spareF D) (gsucc g) L).2.cut a).2)



theorem scan_none {l : List UInt8} (h : lgOf l = none) : scanOf l = (Ct.zero, false) := by unfold scanOf; rw [h]
theorem scan_some {l : List UInt8} {x : Nat × List (List UInt8) × Nat} (h : lgOf l = some x) : scanOf l = (⟨x.1, x.2.1, x.2.2, l.length - x.2.2⟩, true) := by unfold scanOf; rw [h]

end Go.Proofs.Ytjjdmeemhgopbaa
