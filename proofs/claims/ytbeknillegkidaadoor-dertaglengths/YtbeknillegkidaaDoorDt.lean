/- A head of a DER thing: what the chapter says, as plain functions: which there are, its bytes, what is read. -/
import Derived.Test.YtbeknillegkidaaDoorFoot
namespace Go.Proofs.YtbeknillegkidaaDoor
open Go.RowKit

/-- A head. -/
structure Hd where
  c : Int
  t : Int
  m : Bool
  l : Int
deriving DecidableEq

def Hd.z : Hd := ⟨0, 0, false, 0⟩
/-- Its cells. -/
def Hd.agg (h : Hd) : Value := .agg #[.int .i64 h.c, .int .i64 h.t, .bool h.m, .int .i64 h.l]

/-- Is there such a thing? -/
def kd (c t : Int) (m : Bool) : Bool :=
  if c = 2 then decide (0 ≤ t ∧ t ≤ 30)
  else if c = 0 then
    if t = 1 ∨ t = 2 ∨ t = 3 ∨ t = 4 ∨ t = 5 ∨ t = 6 ∨ t = 10 ∨ t = 12 ∨ t = 18 ∨ t = 19 ∨ t = 20 ∨ t = 22 ∨ t = 23 ∨ t = 24 ∨ t = 26 ∨ t = 28 ∨ t = 30 then !m
    else if t = 16 ∨ t = 17 then m else false
  else false
theorem kd_bounds {c t : Int} {m : Bool} (h : kd c t m = true) : (c = 0 ∨ c = 2) ∧ 0 ≤ t ∧ t ≤ 30 := by
  unfold kd at h
  split at h
  · have := of_decide_eq_true h; omega
  · split at h
    · split at h
      · omega
      · split at h
        · omega
        · cases h
    · cases h

/-- The first byte. -/
def fb (c t : Int) (m : Bool) : Nat := (64 * c + t + (if m then 32 else 0)).toNat
/-- A length's bytes. -/
def lenB (n : Nat) : List UInt8 :=
  if n < 128 then [.ofNat n] else if n < 256 then [129, .ofNat n] else if n < 65536 then [130, .ofNat (n / 256), .ofNat (n % 256)] else [131, .ofNat (n / 65536), .ofNat (n / 256 % 256), .ofNat (n % 256)]
/-- A head's bytes. -/
def putH (h : Hd) : List UInt8 := .ofNat (fb h.c h.t h.m) :: lenB h.l.toNat
/-- A number of its bytes, the highest first. -/
def bval : List UInt8 → Nat := List.foldl (fun n x => 256 * n + x.toNat) 0
/-- What is read of bytes: the head, how many bytes or where it is wrong, the error. -/
def rdH (xs : List UInt8) : Hd × Nat × Int :=
  match xs with
  | [] => (.z, 0, 4)
  | a :: r =>
    if kd (a.toNat / 64 : Nat) (a.toNat % 32 : Nat) (a.toNat / 32 % 2 == 1) then
      match r with
      | [] => (.z, 1, 4)
      | b :: r =>
        if b.toNat = 128 ∨ 131 < b.toNat then (.z, 1, 13)
        else if 128 < b.toNat ∧ r.length < b.toNat - 128 then (.z, xs.length, 4)
        else
          let h : Hd := ⟨(a.toNat / 64 : Nat), (a.toNat % 32 : Nat), a.toNat / 32 % 2 == 1, if b.toNat < 128 then b.toNat else (bval (r.take (b.toNat - 128)) : Nat)⟩
          if putH h <+: xs then (h, (putH h).length, 0) else (.z, 1, 13)
    else (.z, 0, 13)

/-- What the first byte tells. -/
abbrev hdC (a : UInt8) : Int := (a.toNat : Int) / 64
abbrev hdT (a : UInt8) : Int := (a.toNat : Int) % 32
abbrev hdM (a : UInt8) : Bool := a.toNat / 32 % 2 == 1
theorem rdH_no {a : UInt8} {r : List UInt8} (h : kd (hdC a) (hdT a) (hdM a) = false) : rdH (a :: r) = (.z, 0, 13) := by
  have h' : kd (a.toNat / 64 : Nat) (a.toNat % 32 : Nat) (a.toNat / 32 % 2 == 1) = false := h
  cases r <;> (unfold rdH; simp only [h']; rfl)
theorem rdH_one {a : UInt8} (h : kd (hdC a) (hdT a) (hdM a) = true) : rdH [a] = (.z, 1, 4) := by
  have h' : kd (a.toNat / 64 : Nat) (a.toNat % 32 : Nat) (a.toNat / 32 % 2 == 1) = true := h
  unfold rdH; simp only [h']; rfl
theorem rdH_bad {a b : UInt8} {r : List UInt8} (h : kd (hdC a) (hdT a) (hdM a) = true) (hb : b.toNat = 128 ∨ 131 < b.toNat) : rdH (a :: b :: r) = (.z, 1, 13) := by
  have h' : kd (a.toNat / 64 : Nat) (a.toNat % 32 : Nat) (a.toNat / 32 % 2 == 1) = true := h
  unfold rdH; simp only [h', if_pos hb, if_true]
theorem rdH_few {a b : UInt8} {r : List UInt8} (h : kd (hdC a) (hdT a) (hdM a) = true) (h1 : 128 < b.toNat) (h2 : b.toNat ≤ 131) (h3 : r.length < b.toNat - 128) : rdH (a :: b :: r) = (.z, r.length + 2, 4) := by
  have h' : kd (a.toNat / 64 : Nat) (a.toNat % 32 : Nat) (a.toNat / 32 % 2 == 1) = true := h
  unfold rdH; simp only [h', if_true]; rw [if_neg (by omega), if_pos ⟨h1, h3⟩]; rfl
/-- The head that bytes begin with. -/
def hdOf (a b : UInt8) (r : List UInt8) : Hd := ⟨hdC a, hdT a, hdM a, if b.toNat < 128 then b.toNat else (bval (r.take (b.toNat - 128)) : Nat)⟩
theorem rdH_all {a b : UInt8} {r : List UInt8} (h : kd (hdC a) (hdT a) (hdM a) = true) (h1 : b.toNat < 128 ∨ 128 < b.toNat ∧ b.toNat ≤ 131 ∧ b.toNat - 128 ≤ r.length) :
    rdH (a :: b :: r) = if putH (hdOf a b r) <+: a :: b :: r then (hdOf a b r, (putH (hdOf a b r)).length, 0) else (.z, 1, 13) := by
  have h' : kd (a.toNat / 64 : Nat) (a.toNat % 32 : Nat) (a.toNat / 32 % 2 == 1) = true := h
  unfold rdH; simp only [h', if_true]; rw [if_neg (by omega), if_neg (by omega)]; rfl
end Go.Proofs.YtbeknillegkidaaDoor

