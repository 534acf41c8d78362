/- Parts one in the other: what is written, what is read. Plain mathematics. -/
import Derived.Test.YtkeiamihgcbcbaaBd4
namespace Go.Proofs.Ytkeiamihgcbcbaa
open Go.RowKit

/-- The byte that stands ahead of a part; how many bytes its length has. -/
def cb (z : Int) : UInt8 := UInt8.ofNat (z % 256).toNat
def sz (z : Int) : Nat := 1 + ((IntKind.u64.wrap z) % 3).toNat
theorem sz_bd (z : Int) : 1 ≤ sz z ∧ sz z ≤ 3 := by
  have h0 : 0 ≤ IntKind.u64.wrap z := by rw [IntKind.wrap_u64]; omega
  unfold sz
  omega
theorem sz_form (z : Int) : ∃ t : Nat, (IntKind.u64.wrap z).tmod 3 = (t : Int) ∧ t ≤ 2 ∧ sz z = 1 + t := by
  have h0 : 0 ≤ IntKind.u64.wrap z := by rw [IntKind.wrap_u64]; omega
  refine ⟨((IntKind.u64.wrap z) % 3).toNat, ?_, by omega, rfl⟩
  rw [Int.tmod_eq_emod_of_nonneg h0]
  omega
theorem cb_nat (z : Int) : ((cb z).toNat : Int) = z % 256 := by
  unfold cb
  simp
  omega

/-- The bytes ahead of the innermost ones; the open parts. -/
def hd (zs : List Int) : List UInt8 := zs.flatMap fun z => cb z :: List.replicate (sz z) 0
def pts : Nat → List Int → List (Nat × Nat)
  | _, [] => []
  | n, z :: zs => (n + 1 + sz z, sz z) :: pts (n + 1 + sz z) zs
theorem hd_snoc (zs : List Int) (z : Int) : hd (zs ++ [z]) = hd zs ++ cb z :: List.replicate (sz z) 0 := by simp [hd]
theorem hd_length_snoc (zs : List Int) (z : Int) : (hd (zs ++ [z])).length = (hd zs).length + 1 + sz z := by rw [hd_snoc]; simp; omega
theorem pts_snoc (n : Nat) (zs : List Int) (z : Int) : pts n (zs ++ [z]) = pts n zs ++ [(n + (hd zs).length + 1 + sz z, sz z)] := by
  induction zs generalizing n with
  | nil => simp [pts, hd]
  | cons y zs ih =>
    rw [List.cons_append, pts, ih, pts, List.cons_append]
    have : (hd (y :: zs)).length = 1 + sz y + (hd zs).length := by simp [hd]; omega
    rw [this]
    congr 3
    congr 1
    omega
theorem pts_length (n : Nat) (zs : List Int) : (pts n zs).length = zs.length := by
  induction zs generalizing n with
  | nil => rfl
  | cons y zs ih => simp [pts, ih]
theorem hd_le (zs : List Int) : (hd zs).length ≤ 4 * zs.length := by
  induction zs with
  | nil => simp [hd]
  | cons y zs ih =>
    have : (hd (y :: zs)).length = 1 + sz y + (hd zs).length := by simp [hd]; omega
    have := sz_bd y
    simp; omega

/-- What closed parts are. -/
def full (ys : List UInt8) : List Int → List UInt8
  | [] => ys
  | z :: zs => cb z :: (be (sz z) (full ys zs).length ++ (full ys zs ++ [77]))
theorem full_le (ys : List UInt8) (zs : List Int) : (full ys zs).length ≤ 5 * zs.length + ys.length := by
  induction zs with
  | nil => simp [full]
  | cons y zs ih =>
    have := sz_bd y
    simp [full, be_length]
    omega

/-- One more number. -/
theorem take_snoc_int (zs : List Int) (k : Nat) (h : k < zs.length) : zs.take (k + 1) = zs.take k ++ [zs.getD k 0] := by
  rw [List.take_succ_eq_append_getElem h]
  simp [List.getD, List.getElem?_eq_getElem h]
theorem drop_cons_int (zs : List Int) (k : Nat) (h : k < zs.length) : zs.drop k = zs.getD k 0 :: zs.drop (k + 1) := by
  rw [List.drop_eq_getElem_cons h]
  simp [List.getD, List.getElem?_eq_getElem h]

/-- Closing the last part. -/
theorem close_last (ys : List UInt8) (zs us : List Int) (z : Int) (hs : (full ys us).length < 256 ^ sz z) :
    clE (hd (zs ++ [z]) ++ full ys us).length (pts 0 (zs ++ [z])) = 0 ∧ clX (hd (zs ++ [z]) ++ full ys us) (pts 0 (zs ++ [z])) ++ [77] = hd zs ++ full ys (z :: us) ∧ clP (hd (zs ++ [z]) ++ full ys us).length (pts 0 (zs ++ [z])) = pts 0 zs := by
  have hlen : (hd (zs ++ [z]) ++ full ys us).length = (hd zs).length + 1 + sz z + (full ys us).length := by rw [List.length_append, hd_length_snoc]
  have hd0 : (hd (zs ++ [z]) ++ full ys us).length - (0 + (hd zs).length + 1 + sz z) = (full ys us).length := by rw [hlen]; omega
  rw [pts_snoc]
  simp only [clE, clX, clP, List.getLast?_concat, List.dropLast_concat, hd0, if_pos hs]
  refine ⟨trivial, ?_, trivial⟩
  have e1 : 0 + (hd zs).length + 1 + sz z - sz z = (hd zs).length + 1 := by omega
  have e2 : 0 + (hd zs).length + 1 + sz z = (hd (zs ++ [z])).length := by rw [hd_length_snoc]; omega
  rw [e1, e2, List.drop_left, hd_snoc]
  have e3 : (hd zs ++ cb z :: List.replicate (sz z) 0 ++ full ys us).take ((hd zs).length + 1) = hd zs ++ [cb z] := by
    rw [List.append_assoc, List.take_append, List.take_of_length_le (by omega), show (hd zs).length + 1 - (hd zs).length = 1 from by omega]
    rfl
  rw [e3]
  simp [full]

end Go.Proofs.Ytkeiamihgcbcbaa

