/-
  The texts of moments, written and read. No program is named here.
-/
import Derived.Test.YtbepjlhknmhmeaaDoorMCal
namespace Go.Proofs.YtbepjlhknmhmeaaDoor

/-- k digits of a number. -/
def padL : Nat → Nat → List UInt8
  | 0, _ => []
  | k + 1, n => padL k (n / 10) ++ [UInt8.ofNat (48 + n % 10)]
theorem padL_length : ∀ k n, (padL k n).length = k
  | 0, _ => rfl
  | k + 1, n => by rw [padL, List.length_append, padL_length]; rfl
/-- The time's text, so many milliseconds behind the day's begin. -/
def clockL (t : Nat) : List UInt8 := padL 2 (t / 3600000) ++ 58 :: (padL 2 (t / 60000 % 60) ++ 58 :: (padL 2 (t / 1000 % 60) ++ (if t % 1000 = 0 then [] else 46 :: padL 3 (t % 1000))))
def textL (y m d t : Nat) : List UInt8 := padL 4 y ++ 45 :: (padL 2 m ++ 45 :: (padL 2 d ++ 84 :: (clockL t ++ [90])))
def isDig (c : UInt8) : Bool := decide (48 ≤ c.toNat) && decide (c.toNat ≤ 57)
/-- The number of a few digits. -/
def valL (l : List UInt8) : Nat := l.foldl (fun n c => 10 * n + (c.toNat - 48)) 0
/-- A number of just so many digits. -/
def numM (k : Nat) (s : List UInt8) : Option (Nat × List UInt8) := if (s.takeWhile isDig).length = k then some (valL (s.takeWhile isDig), s.dropWhile isDig) else none
/-- This byte. -/
def signM (c : UInt8) : List UInt8 → Option (List UInt8)
  | [] => none
  | x :: t => if x = c then some t else none
def fracM : List UInt8 → Option (List UInt8 × List UInt8)
  | 46 :: t => if 1 ≤ (t.takeWhile isDig).length ∧ (t.takeWhile isDig).length ≤ 9 then some (t.takeWhile isDig, t.dropWhile isDig) else none
  | s => some ([], s)
/-- How far a date lies behind 0001-01-01. -/
def dateM (s : List UInt8) : Option (Nat × List UInt8) :=
  (numM 4 s).bind fun a => (signM 45 a.2).bind fun s => (numM 2 s).bind fun b => (signM 45 b.2).bind fun s => (numM 2 s).bind fun c => if IsDay a.1 b.1 c.1 then some (dayN a.1 b.1 c.1, c.2) else none
/-- What counts of a fraction: three digits. -/
def thousM (f : List UInt8) : Nat := valL ((f ++ [48, 48, 48]).take 3)
def clockM (s : List UInt8) : Option (Nat × List UInt8) :=
  (numM 2 s).bind fun h => (signM 58 h.2).bind fun s => (numM 2 s).bind fun m => (signM 58 m.2).bind fun s => (numM 2 s).bind fun c => (fracM c.2).bind fun f =>
    if m.1 ≤ 59 ∧ c.1 ≤ 59 ∧ (h.1 ≤ 23 ∨ (h.1 = 24 ∧ m.1 = 0 ∧ c.1 = 0 ∧ (∀ x ∈ f.1, x = 48))) then some (h.1 * 3600000 + m.1 * 60000 + c.1 * 1000 + thousM f.1, f.2) else none
def offM (s : List UInt8) : Option (Nat × List UInt8) :=
  (numM 2 s).bind fun h => (signM 58 h.2).bind fun s => (numM 2 s).bind fun m => if m.1 ≤ 59 ∧ h.1 * 3600000 + m.1 * 60000 ≤ 50400000 then some (h.1 * 3600000 + m.1 * 60000, m.2) else none
def zoneM : List UInt8 → Option (Int × List UInt8)
  | 90 :: t => some (0, t)
  | 45 :: t => (offM t).bind fun a => some (-(a.1 : Int), a.2)
  | s => (signM 43 s).bind fun t => (offM t).bind fun a => some ((a.1 : Int), a.2)
/-- What a text says: milliseconds from 1970 on; none: it has no such form. -/
def parseM (s : List UInt8) : Option Int :=
  (dateM s).bind fun a => (signM 84 a.2).bind fun s => (clockM s).bind fun b => (zoneM b.2).bind fun z => if z.2 = [] then some (((a.1 : Int) - 719162) * 86400000 + (b.1 : Int) - z.1) else none
theorem parse_abc : parseM [50, 48, 50, 54, 45, 49, 49, 45, 49, 53, 84, 50, 52, 58, 48, 48, 58, 48, 48, 43, 48, 49, 58, 48, 48] = parseM [50, 48, 50, 54, 45, 49, 49, 45, 49, 53, 84, 50, 51, 58, 48, 48, 58, 48, 48, 90] ∧ parseM [50, 48, 50, 54, 45, 49, 49, 45, 49, 53, 84, 50, 51, 58, 48, 48, 58, 48, 48, 90] = some 1794783600000 := by decide +kernel
theorem text_zero : textL 1970 1 1 0 = [49, 57, 55, 48, 45, 48, 49, 45, 48, 49, 84, 48, 48, 58, 48, 48, 58, 48, 48, 90] := by decide +kernel
end Go.Proofs.YtbepjlhknmhmeaaDoor
