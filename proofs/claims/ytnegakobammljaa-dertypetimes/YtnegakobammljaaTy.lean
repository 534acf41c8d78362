/- The contents of primitive DER types: what the chapter says, as plain functions of lists of bytes. -/
import Derived.Test.YtnegakobammljaaFoot
namespace Go.Proofs.Ytnegakobammljaa
open Go.RowKit

/-- How many days a month has. -/
def lp (y : Int) : Bool := (y % 4 == 0 && y % 100 != 0) || y % 400 == 0
def dys (y m : Int) : Int := if m = 4 ∨ m = 6 ∨ m = 9 ∨ m = 11 then 30 else if m = 2 then (if lp y then 29 else 28) else 31
/-- The number that digits are; -1: they are none. -/
def dgF (n : Nat) : List UInt8 → Int
  | [] => n
  | x :: xs => if x.toNat < 48 ∨ 57 < x.toNat then -1 else dgF (10 * n + (x.toNat - 48)) xs
def dgs (xs : List UInt8) : Int := dgF 0 xs
/-- A time: how many digits its year has; the six numbers; may it be? -/
def tyN (tag : Int) : Nat := if tag = 24 then 4 else 2
def tyY (tag y : Int) : Int := if tag = 23 then (if 50 ≤ y then y + 1900 else y + 2000) else y
def tyP (n : Nat) (xs : List UInt8) (i : Nat) : Int := dgs ((xs.drop (n + 2 * i - 2)).take 2)
/-- The numbers as they are written. -/
def tyR (tag : Int) (xs : List UInt8) (i : Nat) : Int := if i = 0 then dgs (xs.take (tyN tag)) else tyP (tyN tag) xs i
def tyV (tag : Int) (xs : List UInt8) (i : Nat) : Int := if i = 0 then tyY tag (tyR tag xs 0) else tyR tag xs i
def tyL (tag : Int) (xs : List UInt8) : List Int := [tyV tag xs 0, tyV tag xs 1, tyV tag xs 2, tyV tag xs 3, tyV tag xs 4, tyV tag xs 5]
def tyOk (tag : Int) (xs : List UInt8) : Bool :=
  xs.length == tyN tag + 11 && (xs.getD (tyN tag + 10) 0).toNat == 90 && ((List.range 6).all fun i => decide (0 ≤ tyR tag xs i)) &&
  decide (1 ≤ tyV tag xs 1 ∧ tyV tag xs 1 ≤ 12 ∧ 1 ≤ tyV tag xs 2 ∧ tyV tag xs 2 ≤ dys (tyV tag xs 0) (tyV tag xs 1) ∧ tyV tag xs 3 ≤ 23 ∧ tyV tag xs 4 ≤ 59 ∧ tyV tag xs 5 ≤ 59)
def agg6 (zs : List Int) : Value := .agg (zs.map fun z => .int .i64 z).toArray

/-- May bytes be an object identifier's? -/
def obF (st : Bool) : List UInt8 → Bool
  | [] => st
  | x :: xs => if st && x.toNat == 128 then false else obF (decide (x.toNat < 128)) xs
def ob (xs : List UInt8) : Bool := !xs.isEmpty && obF true xs
/-- May they be a bit string's? -/
def btF : Nat → Nat → Bool
  | 0, _ => true
  | k + 1, n => if n % 2 == 1 then false else btF k (n / 2)
def bt : List UInt8 → Bool
  | [] => false
  | x :: xs => if 7 < x.toNat then false else if xs.isEmpty then x.toNat == 0 else btF x.toNat ((x :: xs).getLastD 0).toNat
/-- May they be a number's? -/
def nmB : List UInt8 → Bool
  | [] => false
  | [_] => true
  | x :: y :: _ => !(x.toNat == 0 && decide (y.toNat < 128)) && !(x.toNat == 255 && decide (128 ≤ y.toNat))
/-- What is wrong with bytes of a tag. -/
def ckE (tag : Int) (xs : List UInt8) : Int :=
  if tag = 1 then (if xs.length == 1 && ((xs.getD 0 0).toNat == 0 || (xs.getD 0 0).toNat == 255) then 0 else 13)
  else if tag = 2 ∨ tag = 10 then (if nmB xs then 0 else 13)
  else if tag = 3 then (if bt xs then 0 else 13)
  else if tag = 5 then (if xs.length == 0 then 0 else 13)
  else if tag = 6 then (if ob xs then 0 else 13)
  else if tag = 23 ∨ tag = 24 then (if tyOk tag xs then 0 else 13)
  else if tag = 4 ∨ tag = 12 ∨ tag = 18 ∨ tag = 19 ∨ tag = 20 ∨ tag = 22 ∨ tag = 26 ∨ tag = 28 ∨ tag = 30 then 0
  else 2
/-- A number of its bytes. -/
def nmF (n : Int) : List UInt8 → Int
  | [] => n
  | x :: xs => nmF (256 * n + x.toNat) xs
def nmV : List UInt8 → Int
  | [] => 0
  | x :: xs => nmF (if 128 ≤ x.toNat then (x.toNat : Int) - 256 else x.toNat) xs
def nmE (xs : List UInt8) : Int := if nmB xs then (if 8 < xs.length then 5 else 0) else 13
def nmR (xs : List UInt8) : Int := if nmE xs = 0 then nmV xs else 0
/-- An identifier's numbers; none: one is too great. -/
def arH (y : Nat) : List Nat := if y < 40 then [0, y] else if y < 80 then [1, y - 40] else [2, y - 80]
def arF (x : Nat) (out : List Nat) : List UInt8 → Option (List Nat)
  | [] => some out
  | c :: cs => if 72057594037927936 ≤ x then none else if 128 ≤ c.toNat then arF (128 * x + c.toNat % 128) out cs else arF 0 (out ++ (if out = [] then arH (128 * x + c.toNat % 128) else [128 * x + c.toNat % 128])) cs
def arE (xs : List UInt8) : Int := if ob xs then (if (arF 0 [] xs).isNone then 3 else 0) else 13
def arR (xs : List UInt8) : List Nat := if arE xs = 0 then (arF 0 [] xs).getD [] else []
end Go.Proofs.Ytnegakobammljaa

