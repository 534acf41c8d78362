/- The contents of primitive DER types: what the chapter says, as plain functions of lists of bytes. -/
import Derived.Test.YtnjnghbonmdbdaaDoorQ1
import Derived.Test.YtnjnghbonmdbdaaDoorRows
import Derived.Lib.Hide
import Derived.IntWalk
import Derived.Deep.Cut
import Derived.Laws.Slices
namespace Go.Proofs.YtnjnghbonmdbdaaDoor
open Go.RowKit

/-- How many days a month has. -/
def lp (y : Int) : Bool := (y % 4 == 0 && y % 100 != 0) || y % 400 == 0
def dys (y m : Int) : Int := if m = 4 ∨ m = 6 ∨ m = 9 ∨ m = 11 then 30 else if m = 2 then (if lp y then 29 else 28) else 31
/-- The number that digits are; -1: they are none. -/
def dgF (n : Nat) : List UInt8 → Int
  | [] => n
  | x :: xs => if x.toNat < 48 ∨ 57 < x.toNat then -1 else dgF (10 * n + (x.toNat - 48)) xs
def dgs (xs : List UInt8) : Int := dgF 0 xs
/-- A time: how many digits its year has; the six numbers; may it be? -/
def tyN (tag : Int) : Nat := if tag = 24 then 4 else 2
def tyY (tag y : Int) : Int := if tag = 23 then (if 50 ≤ y then y + 1900 else y + 2000) else y
def tyP (n : Nat) (xs : List UInt8) (i : Nat) : Int := dgs ((xs.drop (n + 2 * i - 2)).take 2)
/-- The numbers as they are written. -/
def tyR (tag : Int) (xs : List UInt8) (i : Nat) : Int := if i = 0 then dgs (xs.take (tyN tag)) else tyP (tyN tag) xs i
def tyV (tag : Int) (xs : List UInt8) (i : Nat) : Int := if i = 0 then tyY tag (tyR tag xs 0) else tyR tag xs i
def tyL (tag : Int) (xs : List UInt8) : List Int := [tyV tag xs 0, tyV tag xs 1, tyV tag xs 2, tyV tag xs 3, tyV tag xs 4, tyV tag xs 5]
def tyOk (tag : Int) (xs : List UInt8) : Bool :=
  xs.length == tyN tag + 11 && (xs.getD (tyN tag + 10) 0).toNat == 90 && ((List.range 6).all fun i => decide (0 ≤ tyR tag xs i)) &&
  decide (1 ≤ tyV tag xs 1 ∧ tyV tag xs 1 ≤ 12 ∧ 1 ≤ tyV tag xs 2 ∧ tyV tag xs 2 ≤ dys (tyV tag xs 0) (tyV tag xs 1) ∧ tyV tag xs 3 ≤ 23 ∧ tyV tag xs 4 ≤ 59 ∧ tyV tag xs 5 ≤ 59)
def agg6 (zs : List Int) : Value := .agg (zs.map fun z => .int .i64 z).toArray

/-- May bytes be an object identifier's? -/
def obF (st : Bool) : List UInt8 → Bool
  | [] => st
  | x :: xs => if st && x.toNat == 128 then false else obF (decide (x.toNat < 128)) xs
def ob (xs : List UInt8) : Bool := !xs.isEmpty && obF true xs
/-- May they be a bit string's? -/
def btF : Nat → Nat → Bool
  | 0, _ => true
  | k + 1, n => if n % 2 == 1 then false else btF k (n / 2)
def bt : List UInt8 → Bool
  | [] => false
  | x :: xs => if 7 < x.toNat then false else if xs.isEmpty then x.toNat == 0 else btF x.toNat ((x :: xs).getLastD 0).toNat
/-- May they be a number's? -/
def nmB : List UInt8 → Bool
  | [] => false
  | [_] => true
  | x :: y :: _ => !(x.toNat == 0 && decide (y.toNat < 128)) && !(x.toNat == 255 && decide (128 ≤ y.toNat))
/-- What is wrong with bytes of a tag. -/
def ckE (tag : Int) (xs : List UInt8) : Int :=
  if tag = 1 then (if xs.length == 1 && ((xs.getD 0 0).toNat == 0 || (xs.getD 0 0).toNat == 255) then 0 else 13)
  else if tag = 2 ∨ tag = 10 then (if nmB xs then 0 else 13)
  else if tag = 3 then (if bt xs then 0 else 13)
  else if tag = 5 then (if xs.length == 0 then 0 else 13)
  else if tag = 6 then (if ob xs then 0 else 13)
  else if tag = 23 ∨ tag = 24 then (if tyOk tag xs then 0 else 13)
  else if tag = 4 ∨ tag = 12 ∨ tag = 18 ∨ tag = 19 ∨ tag = 20 ∨ tag = 22 ∨ tag = 26 ∨ tag = 28 ∨ tag = 30 then 0
  else 2
/-- A number of its bytes. -/
def nmF (n : Int) : List UInt8 → Int
  | [] => n
  | x :: xs => nmF (256 * n + x.toNat) xs
def nmV : List UInt8 → Int
  | [] => 0
  | x :: xs => nmF (if 128 ≤ x.toNat then (x.toNat : Int) - 256 else x.toNat) xs
def nmE (xs : List UInt8) : Int := if nmB xs then (if 8 < xs.length then 5 else 0) else 13
def nmR (xs : List UInt8) : Int := if nmE xs = 0 then nmV xs else 0
/-- An identifier's numbers; none: one is too great. -/
def arH (y : Nat) : List Nat := if y < 40 then [0, y] else if y < 80 then [1, y - 40] else [2, y - 80]
def arF (x : Nat) (out : List Nat) : List UInt8 → Option (List Nat)
  | [] => some out
  | c :: cs => if 72057594037927936 ≤ x then none else if 128 ≤ c.toNat then arF (128 * x + c.toNat % 128) out cs else arF 0 (out ++ (if out = [] then arH (128 * x + c.toNat % 128) else [128 * x + c.toNat % 128])) cs
def arE (xs : List UInt8) : Int := if ob xs then (if (arF 0 [] xs).isNone then 3 else 0) else 13
def arR (xs : List UInt8) : List Nat := if arE xs = 0 then (arF 0 [] xs).getD [] else []
end Go.Proofs.YtnjnghbonmdbdaaDoor


/- A thing's bytes: what the chapter says; rows of bytes in new memory. -/
namespace Go.Proofs.YtnjnghbonmdbdaaDoor
open Go.RowKit

namespace Nd
mutual
/-- A thing's bytes; an error. -/
def wn : Nd → List UInt8 × Int
  | mk k t m _ _ bs _ _ ls =>
    if kd k t m = false then ([], 13)
    else if (m = true ∧ 0 < bs.length) ∨ (m = false ∧ 0 < ls.length) then ([], 15)
    else if k = 0 ∧ m = false ∧ ckE t bs ≠ 0 then ([], 13)
    else if (wns ls).2 ≠ 0 then ([], (wns ls).2)
    else if 16777215 < (bs ++ (wns ls).1).length then ([], 5)
    else (putH ⟨k, t, m, ((bs ++ (wns ls).1).length : Int)⟩ ++ (bs ++ (wns ls).1), 0)
def wns : List Nd → List UInt8 × Int
  | [] => ([], 0)
  | p :: ps => if (wn p).2 ≠ 0 then ([], (wn p).2) else if (wns ps).2 ≠ 0 then ([], (wns ps).2) else ((wn p).1 ++ (wns ps).1, 0)
end

theorem putH_le5 (h : Hd) : (putH h).length ≤ 5 := by
  unfold putH lenB
  simp only [List.length_cons]
  split
  · simp
  split
  · simp
  split
  · simp
  · simp
theorem wn_len (v : Nd) : v.wn.1.length ≤ 16777220 := by
  obtain ⟨k, t, m, B, d, bs, A, c, ls⟩ := v
  rw [wn]
  split
  · simp
  split
  · simp
  split
  · simp
  split
  · simp
  split
  · simp
  · have := putH_le5 ⟨k, t, m, ((bs ++ (wns ls).1).length : Int)⟩
    dsimp only
    rw [List.length_append]
    omega
theorem wn_err (v : Nd) (h : v.wn.2 ≠ 0) : v.wn.1 = [] := by
  obtain ⟨k, t, m, B, d, bs, A, c, ls⟩ := v
  rw [wn] at h ⊢
  split
  · rfl
  · rename_i h1
    rw [if_neg h1] at h
    split
    · rfl
    · rename_i h2
      rw [if_neg h2] at h
      split
      · rfl
      · rename_i h3
        rw [if_neg h3] at h
        split
        · rfl
        · rename_i h4
          rw [if_neg h4] at h
          split
          · rfl
          · rename_i h5
            rw [if_neg h5] at h
            exact absurd rfl h
theorem wns_one {xs : List Nd} (h : (wns xs).2 = 0) (p : Nd) (ys : List Nd) :
    wns (xs ++ p :: ys) = if p.wn.2 ≠ 0 then ([], p.wn.2) else if (wns ys).2 ≠ 0 then ([], (wns ys).2) else ((wns xs).1 ++ p.wn.1 ++ (wns ys).1, 0) := by
  induction xs with
  | nil => rw [List.nil_append, wns.eq_1, wns.eq_2]; rfl
  | cons x xs ih =>
    rw [wns] at h
    by_cases h1 : (wn x).2 ≠ 0
    · rw [if_pos h1] at h; exact absurd h h1
    · rw [if_neg h1] at h
      by_cases h2 : (wns xs).2 ≠ 0
      · rw [if_pos h2] at h; exact absurd h h2
      · have h2' : (wns xs).2 = 0 := Classical.not_not.1 h2
        rw [List.cons_append, wns, if_neg h1, ih h2', show wns (x :: xs) = ((wn x).1 ++ (wns xs).1, 0) by rw [wns, if_neg h1, if_neg h2]]
        by_cases h3 : p.wn.2 ≠ 0
        · rw [if_pos h3, if_pos h3, if_pos h3]
        · rw [if_neg h3, if_neg h3]
          by_cases h4 : (wns ys).2 ≠ 0
          · rw [if_pos h4, if_pos h4, if_pos h4]
          · rw [if_neg h4, if_neg h4, if_neg (by simp)]
            simp [List.append_assoc]
/-- One more. -/
theorem wns_take {ls : List Nd} {j : Nat} {p : Nd} (hp : ls[j]? = some p) {ys : List UInt8} (h : wns (ls.take j) = (ys, 0)) :
    (p.wn.2 = 0 → wns (ls.take (j + 1)) = (ys ++ p.wn.1, 0)) ∧ (p.wn.2 ≠ 0 → wns ls = ([], p.wn.2)) := by
  have h0 : (wns (ls.take j)).2 = 0 := by rw [h]
  constructor
  · intro hz
    rw [take_succ' hp, wns_one h0 p [], if_neg (by simp [hz]), show wns [] = ([], 0) from wns.eq_1, if_neg (by simp), h]
    simp
  · intro hz
    have e : ls = ls.take j ++ p :: ls.drop (j + 1) := by rw [← drop_at hp, List.take_append_drop]
    rw [e, wns_one h0 p _, if_pos hz]
theorem wns_len (ls : List Nd) : (wns ls).1.length ≤ ls.length * 16777220 := by
  induction ls with
  | nil => rw [wns]; simp
  | cons x xs ih =>
    have := wn_len x
    rw [wns]
    split
    · simp
    split
    · simp
    · simp only [List.length_append, List.length_cons]; omega
end Nd

/-- v owns the bytes in new memory; nothing that was there ahead has turned. -/
structure Own8 (n : Nat) (w w' : World) (v : Value) (xs : List UInt8) : Prop where
  own : w'.ownsRow 0 5 1 v xs.length (cellsOf xs)
  blk : ∀ k, v.ownBlock = some k → n ≤ k
  bel : Below n w w'
  sz : n ≤ w'.heap.size
theorem own8_form {w : World} {v : Value} {n : Nat} {xs : List UInt8} (h : w.ownsRow 0 5 1 v n (cellsOf xs)) : n = xs.length ∧ ∃ A c, v = .slice A n c ∧ n ≤ c := by
  have hl := h.1
  rw [cellsOf_length] at hl
  refine ⟨by omega, ?_⟩
  rcases h.2 with ⟨rfl, rfl⟩ | ⟨g, cap, cur, rfl, _, _, hnc, _⟩
  · exact ⟨none, 0, rfl, Nat.le_refl _⟩
  · exact ⟨_, _, rfl, hnc⟩
theorem Own8.form {n : Nat} {w w' : World} {v : Value} {xs : List UInt8} (h : Own8 n w w' v xs) : ∃ A c, v = .slice A xs.length c ∧ xs.length ≤ c ∧ Byt w' w'.heap.size A xs := by
  obtain ⟨_, A, c, rfl, hc⟩ := own8_form h.own
  exact ⟨A, c, rfl, hc, (own_by h.own).byt⟩
theorem Own8.grew {n : Nat} {w w' w2 : World} {v : Value} {xs : List UInt8} (h : Own8 n w w' v xs) (g : Grew w' w2 none) : Own8 n w w2 v xs :=
  ⟨own_fr h.own (Fr.of_grew g) (fun _ _ e => by cases e), h.blk, h.bel.trans (grew_below g h.sz (fun _ e => by cases e)), Nat.le_trans h.sz g.size⟩
/-- 'append(v, b...)' -/
theorem app_more {n : Nat} {w w1 : World} {v : Value} {xs : List UInt8} (h : Own8 n w w1 v xs) {A : Option Addr} {bs : List UInt8} (hb : Byt w1 w1.heap.size A bs) (c : Nat) (hm : xs.length + bs.length ≤ 140737488355328) :
    ∀ ty, ∃ v' w', (Builtin.append_ #[22, 22] ty #[v, .slice A bs.length c]).run Tryd.prog w1 = .ok v' w' ∧ Own8 n w w' v' (xs ++ bs) := fun ty => by
  obtain ⟨v', w', hr, h1, h2, h3⟩ := append_bytes w1 (P := Tryd.prog) 22 ty 5 Tryd.underlying22 info_u8 h.own hb.byf c hm
  refine ⟨v', w', hr, by rw [List.length_append]; exact h1, ?_, h.bel.trans (grew_below h2 h.sz h.blk), Nat.le_trans h.sz h2.size⟩
  intro k hk
  rcases h3 with e | e
  · exact h.blk k (by rw [← e]; exact hk)
  · rw [hk] at e; simp at e; have := h.sz; omega
/-- Of 'append([]byte{}, b...)' the first part. -/
theorem own8_none (n : Nat) (w w1 : World) (hb : Below n w w1) (hs : n ≤ w1.heap.size) : Own8 n w (w1.alloc (.cells #[] 5)) (.slice (some ⟨w1.heap.size, 0, none⟩) 0 0) [] :=
  ⟨own_new w1 #[] [] rfl (by simp), fun k hk => by simp [Value.ownBlock] at hk; omega, hb.alloc hs _, by simp; omega⟩
end Go.Proofs.YtnjnghbonmdbdaaDoor


/- The document's own answers of layer 10: digits. -/
namespace Go.Proofs.YtnjnghbonmdbdaaDoor
open Go.RowKit

/-- Bytes at a place of a list's memory: what the loops ask. -/
def At (w : World) (b o : Nat) (xs : List UInt8) : Prop := ∀ i, i < xs.length → w.cell? ⟨b, o + i, none⟩ = some (.int .u8 ((xs.getD i 0).toNat : Int))

theorem getD_take_drop {xs : List UInt8} {j : Nat} (h : j < xs.length) : xs.drop j = xs.getD j 0 :: xs.drop (j + 1) := by
  rw [List.drop_eq_getElem_cons h, List.getD_eq_getElem?_getD, List.getElem?_eq_getElem h]
  rfl

set_option maxRecDepth 100000 in
set_option maxHeartbeats 600000 in
theorem rdigits_any (w : World) (A : Option Addr) (c : Nat) (xs : List UInt8) (hb : Byt w w.heap.size A xs) (hl : xs.length ≤ 4) :
    Calls Tryd.prog 57 #[.slice A xs.length c] w fun e w' => e = .returned (.int .i64 (dgs xs)) ∧ w' = w := by
  obtain ⟨L, hL⟩ : ∃ L, xs.length = L := ⟨_, rfl⟩
  rw [hL] at hl ⊢
  have HB := Lib.hid hb
  clear hb
  go_enter Tryd.func57, Tryd.ntmps57
  go_wp2_with fail
  go_loopw [3, 4] (fun n i wr => ∃ (j : Nat) (m : Nat), j ≤ L ∧ m < 10 ^ j ∧ i = .int .i64 j ∧ n = .int .i64 m ∧ dgs xs = dgF m (xs.drop j) ∧ wr = w) (fun _ i _ => L - (intOf i).toNat)
  case atStart => exact ⟨0, 0, Nat.zero_le _, by decide, rfl, rfl, by rw [List.drop_zero]; rfl, rfl⟩
  case round =>
    obtain ⟨j, m, hj, hm, rfl, rfl, hd, hwr⟩ := hrel
    obtain rfl : w = wr := hwr.symm
    clear hwr
    have hm4 : m < 10000 := Nat.lt_of_lt_of_le hm (Nat.pow_le_pow_right (by omega) (by omega : j ≤ 4))
    by_cases hlt : j < L
    · obtain ⟨b, o, rfl, -, hc⟩ := HB.out (by omega)
      obtain ⟨x, hx⟩ : ∃ x, xs.getD j 0 = x := ⟨_, rfl⟩
      obtain ⟨d, hdd⟩ : ∃ d, x.toNat = d := ⟨_, rfl⟩
      have hd256 : d < 256 := by rw [← hdd]; exact x.toNat_lt
      have c1 : w.cell? ⟨b, o + j, none⟩ = some (.int .u8 (d : Int)) := by rw [hc j (by omega), hx, hdd]
      rw [getD_take_drop (by omega), hx] at hd
      have e1 : dgF m (x :: xs.drop (j + 1)) = if d < 48 ∨ 57 < d then -1 else dgF (10 * m + (d - 48)) (xs.drop (j + 1)) := by rw [← hdd]; rfl
      rw [e1] at hd
      clear e1 hc hx hdd
      by_cases g1 : d < 48
      · rw [if_pos (.inl g1)] at hd
        have HD := Lib.hid hd
        have g1' : (d : Int) < 48 := by omega
        clear hd hm hm4
        go_wp2_with fail
        go_ret
        exact ⟨by rw [HD.out]; rfl, rfl⟩
      · by_cases g2 : 57 < d
        · rw [if_pos (.inr g2)] at hd
          have HD := Lib.hid hd
          have g1' : ¬ (d : Int) < 48 := by omega
          have g2' : 57 < (d : Int) := by omega
          clear hd hm hm4
          go_wp2_with fail
          go_ret
          exact ⟨by rw [HD.out]; rfl, rfl⟩
        · rw [if_neg (by omega)] at hd
          have HD := Lib.hid hd
          have g1' : ¬ (d : Int) < 48 := by omega
          have g2' : ¬ 57 < (d : Int) := by omega
          have f1 : IntKind.i64.wrap (d : Int) = d := by rw [IntWalk.i64_left, IntWalk.wrap64_in _ (by omega)]
          have f2 : wrap64 (10 * (m : Int)) = 10 * (m : Int) := IntWalk.wrap64_in _ (by clear f1; omega)
          have f3 : wrap64 (10 * (m : Int) + (d : Int)) = 10 * (m : Int) + d := IntWalk.wrap64_in _ (by clear f1 f2; omega)
          have f4 : wrap64 (10 * (m : Int) + (d : Int) - 48) = ((10 * m + (d - 48) : Nat) : Int) := by clear f1 f2 f3; rw [IntWalk.wrap64_in _ (by omega)]; omega
          have HM := Lib.hid (show 10 * m + (d - 48) < 10 ^ (j + 1) by clear f1 f2 f3 f4; rw [Nat.pow_succ]; omega)
          clear hd hm hm4
          go_wp2_with fail
          go_roundw
          case rel => exact ⟨j + 1, 10 * m + (d - 48), hlt, HM.out, rfl, by rw [f4], HD.out, trivial⟩
          case measure => simp [intOf]; omega
    · obtain rfl : j = L := by omega
      rw [List.drop_of_length_le (by omega)] at hd
      have HD := Lib.hid (show dgs xs = (m : Int) from hd)
      clear hd hm hm4
      go_wp2_with fail
      go_ret
      exact ⟨by rw [HD.out]; rfl, rfl⟩
end Go.Proofs.YtnjnghbonmdbdaaDoor


/- The document's own answers of layer 10: identifiers, bit strings. -/
namespace Go.Proofs.YtnjnghbonmdbdaaDoor
open Go.RowKit

/-- Does a number begin at place j? -/
def obS (xs : List UInt8) (j : Nat) : Bool := j == 0 || decide ((xs.getD (j - 1) 0).toNat < 128)

set_option maxRecDepth 100000 in
set_option maxHeartbeats 1000000 in
theorem roid_any (w : World) (A : Option Addr) (c : Nat) (xs : List UInt8) (hb : Byt w w.heap.size A xs) (hl : xs.length ≤ 140737488351232) :
    Calls Tryd.prog 48 #[.slice A xs.length c] w fun e w' => e = .returned (.bool (ob xs)) ∧ w' = w := by
  obtain ⟨L, hL⟩ : ∃ L, xs.length = L := ⟨_, rfl⟩
  rw [hL] at hl ⊢
  have HC := Lib.hid hl
  clear hl
  have HB := Lib.hid hb
  have HL := Lib.hid hL
  clear hb hL
  go_enter Tryd.func48, Tryd.ntmps48
  go_wp2_with fail
  go_loopw [3] (fun i wr => ∃ j : Nat, j ≤ L ∧ i = .int .i64 j ∧ Hid (obF true xs = obF (obS xs j) (xs.drop j)) ∧ wr = w) (fun i _ => L - (intOf i).toNat)
  case atStart => exact ⟨0, Nat.zero_le _, rfl, Lib.hid rfl, rfl⟩
  case round =>
    obtain ⟨j, hj, rfl, hd, hwr⟩ := hrel
    obtain rfl : w = wr := hwr.symm
    clear hwr
    have hjI : (j : Int) ≤ 140737488351232 := by have := HC.out; omega
    by_cases hlt : j < L
    · obtain ⟨b, o, rfl, -, hc⟩ := HB.out (by rw [HL.out]; omega)
      have hlen := HL.out
      obtain ⟨x, hx⟩ : ∃ x, xs.getD j 0 = x := ⟨_, rfl⟩
      obtain ⟨d, hdd⟩ : ∃ d, x.toNat = d := ⟨_, rfl⟩
      have hd256 : d < 256 := by rw [← hdd]; exact x.toNat_lt
      have c1 : w.cell? ⟨b, o + j, none⟩ = some (.int .u8 (d : Int)) := by rw [hc j (by omega), hx, hdd]
      have hst : obS xs (j + 1) = decide (d < 128) := by rw [← hdd, ← hx]; rfl
      have hstep : obF true xs = if (obS xs j && d == 128) = true then false else obF (obS xs (j + 1)) (xs.drop (j + 1)) := by
        rw [hd.out, getD_take_drop (by omega), hx, hst, ← hdd]
        rfl
      have HST := Lib.hid hstep
      clear hstep hst
      have hne : xs.isEmpty = false := by cases xs with | nil => simp at hlen; omega | cons _ _ => rfl
      have HNE := Lib.hid hne
      clear hne hx hdd hlen hd
      by_cases g1 : d = 128
      · have g1' : ((d : Int) == 128) = true := by rw [g1]; rfl
        by_cases g2 : j = 0
        · have g2' : ((j : Int) == 0) = true := by rw [g2]; rfl
          have hres : ob xs = false := by
            unfold ob
            rw [HST.out, if_pos (by rw [g1, g2]; rfl)]
            simp
          have HR := Lib.hid hres
          clear hres hc g1 g2
          go_wp2_with fail
          go_ret
          exact ⟨by rw [HR.out]; rfl, rfl⟩
        · have g2' : ((j : Int) == 0) = false := beq_eq_false_iff_ne.2 (by omega)
          obtain ⟨k, rfl⟩ : ∃ k, j = k + 1 := ⟨j - 1, by omega⟩
          have hkI : (k : Int) ≤ 140737488351231 := by omega
          clear hjI
          obtain ⟨p, hp⟩ : ∃ p, (xs.getD k 0).toNat = p := ⟨_, rfl⟩
          have hp256 : p < 256 := by rw [← hp]; exact UInt8.toNat_lt _
          have c2 : w.cell? ⟨b, o + k, none⟩ = some (.int .u8 (p : Int)) := by rw [hc k (by have := HL.out; omega), hp]
          have hs : obS xs (k + 1) = decide (p < 128) := by rw [← hp]; rfl
          have e1 : ((k + 1 : Nat) : Int) - 1 = (k : Int) := by omega
          by_cases g3 : p < 128
          · have g3' : (p : Int) < 128 := by omega
            have hres : ob xs = false := by
              unfold ob
              rw [HST.out, if_pos (by rw [g1, hs, decide_eq_true g3]; rfl)]
              simp
            have HR := Lib.hid hres
            clear hres hc g1 g2 hp hs
            go_wp2_with fail
            go_ret
            exact ⟨by rw [HR.out]; rfl, rfl⟩
          · have g3' : ¬ (p : Int) < 128 := by omega
            have HN := Lib.hid (show obF true xs = obF (obS xs (k + 1 + 1)) (xs.drop (k + 1 + 1)) by rw [HST.out, if_neg (by rw [hs, decide_eq_false g3]; simp)])
            clear hc g1 g2 hp hs
            go_wp2_with fail
            go_roundw
            case rel => exact ⟨k + 1 + 1, hlt, rfl, HN, trivial⟩
            case measure => simp [intOf]; omega
      · have g1' : ((d : Int) == 128) = false := beq_eq_false_iff_ne.2 (by omega)
        have HN := Lib.hid (show obF true xs = obF (obS xs (j + 1)) (xs.drop (j + 1)) by rw [HST.out, if_neg (by simp; omega)])
        clear hc g1
        go_wp2_with fail
        go_roundw
        case rel => exact ⟨j + 1, hlt, rfl, HN, trivial⟩
        case measure => simp [intOf]; omega
    · obtain rfl : j = L := by omega
      have hd0 : obF true xs = obS xs j := by rw [hd.out, List.drop_of_length_le (by rw [HL.out]; omega)]; rfl
      by_cases h0 : j = 0
      · have hz : xs = [] := List.eq_nil_of_length_eq_zero (by rw [HL.out]; exact h0)
        have HR := Lib.hid (show ob xs = false by rw [hz]; rfl)
        have h0' : ¬ 0 < (j : Int) := by omega
        clear hd0 hz hd
        go_wp2_with fail
        go_ret
        exact ⟨by rw [HR.out]; rfl, rfl⟩
      · obtain ⟨k, rfl⟩ : ∃ k, j = k + 1 := ⟨j - 1, by omega⟩
        have hkI : (k : Int) ≤ 140737488351231 := by omega
        clear hjI
        obtain ⟨b, o, rfl, -, hc⟩ := HB.out (by rw [HL.out]; omega)
        obtain ⟨p, hp⟩ : ∃ p, (xs.getD k 0).toNat = p := ⟨_, rfl⟩
        have hp256 : p < 256 := by rw [← hp]; exact UInt8.toNat_lt _
        have c2 : w.cell? ⟨b, o + k, none⟩ = some (.int .u8 (p : Int)) := by rw [hc k (by have := HL.out; omega), hp]
        have hs : obS xs (k + 1) = decide (p < 128) := by rw [← hp]; rfl
        have hne : xs.isEmpty = false := by cases xs with | nil => have := HL.out; simp at this | cons _ _ => rfl
        have HR := Lib.hid (show ob xs = decide (p < 128) by unfold ob; rw [hne, hd0, hs]; rfl)
        have e1 : ((k + 1 : Nat) : Int) - 1 = (k : Int) := by omega
        have e2 : decide ((p : Int) < 128) = decide (p < 128) := by simp; omega
        have h0' : 0 < ((k + 1 : Nat) : Int) := by omega
        clear hd0 hd hc hp hs hne h0
        go_wp2_with fail
        go_ret
        refine ⟨?_, rfl⟩
        rw [HR.out]
        first | rfl | (simp)
end Go.Proofs.YtnjnghbonmdbdaaDoor


/- The document's own answers of layer 10: bit strings. -/
namespace Go.Proofs.YtnjnghbonmdbdaaDoor
open Go.RowKit

theorem getLastD_at (x : UInt8) (r : List UInt8) : (x :: r).getLastD 0 = (x :: r).getD r.length 0 := by
  have : (x :: r).getLastD 0 = (x :: r).getLast (by simp) := by simp [List.getLastD]
  rw [this, List.getLast_eq_getElem]
  simp [List.getD_eq_getElem?_getD]

set_option maxRecDepth 100000 in
set_option maxHeartbeats 1000000 in
theorem rbits_any (w : World) (A : Option Addr) (c : Nat) (xs : List UInt8) (hb : Byt w w.heap.size A xs) (hl : xs.length ≤ 140737488351232) :
    Calls Tryd.prog 47 #[.slice A xs.length c] w fun e w' => e = .returned (.bool (bt xs)) ∧ w' = w := by
  cases xs with
  | nil =>
    go_enter Tryd.func47, Tryd.ntmps47
    go_wp2_with fail
    go_ret
    exact ⟨rfl, rfl⟩
  | cons x r =>
    obtain ⟨b, o, rfl, -, hc⟩ := hb (by simp)
    obtain ⟨M, hM⟩ : ∃ M, r.length = M := ⟨_, rfl⟩
    obtain ⟨d, hd⟩ : ∃ d, x.toNat = d := ⟨_, rfl⟩
    have hd256 : d < 256 := by rw [← hd]; exact x.toNat_lt
    have c0 : w.cell? ⟨b, o, none⟩ = some (.int .u8 (d : Int)) := by have := hc 0 (by simp); rw [← hd]; simpa using this
    have hlen : (x :: r).length = M + 1 := by rw [← hM]; rfl
    have hbt : bt (x :: r) = if 7 < d then false else if r.isEmpty then d == 0 else btF d ((x :: r).getD M 0).toNat := by
      rw [← hd, ← hM, ← getLastD_at]; rfl
    have hlast := hc M (by rw [hlen]; omega)
    obtain ⟨v, hv⟩ : ∃ v, ((x :: r).getD M 0).toNat = v := ⟨_, rfl⟩
    have hv256 : v < 256 := by rw [← hv]; exact UInt8.toNat_lt _
    rw [hv] at hlast hbt
    rw [hlen] at hl ⊢
    have hMI : (M : Int) ≤ 140737488351232 := by omega
    have HBT := Lib.hid hbt
    have hrM : r.isEmpty = (M == 0) := by rw [← hM]; cases r <;> rfl
    have HRM := Lib.hid hrM
    clear hb hc hd hv hlen hM hl hbt hrM
    by_cases g1 : 7 < d
    · have g1' : 7 < (d : Int) := by omega
      have HR := Lib.hid (show bt (x :: r) = false by rw [HBT.out, if_pos g1])
      clear g1
      go_enter Tryd.func47, Tryd.ntmps47
      go_wp2_with fail
      go_ret
      exact ⟨by rw [HR.out]; rfl, rfl⟩
    · have g1' : ¬ 7 < (d : Int) := by omega
      by_cases g2 : M = 0
      · subst g2
        have HR := Lib.hid (show bt (x :: r) = (d == 0) by rw [HBT.out, if_neg g1, HRM.out]; rfl)
        by_cases g3 : d = 0
        · subst g3
          go_enter Tryd.func47, Tryd.ntmps47
          go_wp2_with fail
          go_loopw [3, 4] (fun _ i wr => i = .int .i64 0 ∧ wr = w) (fun _ _ _ => 0)
          case atStart => exact ⟨rfl, rfl⟩
          case round =>
            obtain ⟨rfl, hwr⟩ := hrel
            obtain rfl : w = wr := hwr.symm
            clear hwr
            go_wp2_with fail
            go_ret
            exact ⟨by rw [HR.out]; rfl, rfl⟩
        · have g3' : ((d : Int) != 0) = true := bne_iff_ne.2 (by omega)
          have HR2 := Lib.hid (show bt (x :: r) = false by rw [HR.out]; exact beq_eq_false_iff_ne.2 g3)
          clear g3
          go_enter Tryd.func47, Tryd.ntmps47
          go_wp2_with fail
          go_ret
          exact ⟨by rw [HR2.out]; rfl, rfl⟩
      · have g2' : ((M : Int) + 1 == 1) = false := beq_eq_false_iff_ne.2 (by omega)
        have HR := Lib.hid (show bt (x :: r) = btF d v by rw [HBT.out, if_neg g1, HRM.out, if_neg (by simpa using g2)])
        have f1 : IntKind.i64.wrap (v : Int) = v := by rw [IntWalk.i64_left, IntWalk.wrap64_in _ (by omega)]
        have f2 : IntKind.i64.wrap (d : Int) = d := by rw [IntWalk.i64_left, IntWalk.wrap64_in _ (by omega)]
        clear g1 HBT HRM
        go_enter Tryd.func47, Tryd.ntmps47
        go_wp2_with fail
        go_loopw [3, 4] (fun n i wr => ∃ (j u : Nat), j ≤ d ∧ u < 256 ∧ i = .int .i64 j ∧ n = .int .i64 u ∧ Hid (btF d v = btF (d - j) u) ∧ wr = w) (fun _ i _ => d - (intOf i).toNat)
        case atStart => exact ⟨0, v, Nat.zero_le _, hv256, rfl, rfl, Lib.hid rfl, rfl⟩
        case round =>
          obtain ⟨j, u, hj, hu, rfl, rfl, hbf, hwr⟩ := hrel
          obtain rfl : w = wr := hwr.symm
          clear hwr
          by_cases hlt : j < d
          · have hlt' : (j : Int) < (d : Int) := by omega
            obtain ⟨k, hk⟩ : ∃ k, d - j = k + 1 := ⟨d - j - 1, by omega⟩
            have hst : btF d v = if u % 2 == 1 then false else btF (d - (j + 1)) (u / 2) := by rw [hbf.out, hk, show d - (j + 1) = k by omega]; rfl
            have HST := Lib.hid hst
            clear hst hk hbf
            by_cases g4 : u % 2 = 1
            · have g4' : ((u : Int) % 2 == 1) = true := by simp; omega
              have HF := Lib.hid (show btF d v = false by rw [HST.out, if_pos (by simpa using g4)])
              clear g4
              go_wp2_with fail
              go_ret
              exact ⟨by rw [HR.out, HF.out]; rfl, rfl⟩
            · have g4' : ((u : Int) % 2 == 1) = false := by simp; omega
              have HF := Lib.hid (show btF d v = btF (d - (j + 1)) (u / 2) by rw [HST.out, if_neg (by simpa using g4)])
              have hu2 : u / 2 < 256 := by omega
              clear g4
              go_wp2_with fail
              go_roundw
              case rel => exact ⟨j + 1, u / 2, hlt, hu2, rfl, rfl, HF, trivial⟩
              case measure => simp [intOf]; omega
          · obtain rfl : j = d := by omega
            have HF := Lib.hid (show btF j v = true by rw [hbf.out, Nat.sub_self]; rfl)
            clear hbf
            go_wp2_with fail
            go_ret
            exact ⟨by rw [HR.out, HF.out]; rfl, rfl⟩
end Go.Proofs.YtnjnghbonmdbdaaDoor


/- The document's own answers of layer 10: days, digits, identifiers, bit strings. -/
namespace Go.Proofs.YtnjnghbonmdbdaaDoor
open Go.RowKit

set_option maxRecDepth 100000 in
set_option maxHeartbeats 400000 in
theorem rdays_any (w : World) (y m : Int) (hy : 0 ≤ y) : Calls Tryd.prog 58 #[.int .i64 y, .int .i64 m] w fun e w' => e = .returned (.int .i64 (dys y m)) ∧ w' = w := by
  have t4 : y.tmod 4 = y % 4 := Int.tmod_eq_emod_of_nonneg hy
  have t100 : y.tmod 100 = y % 100 := Int.tmod_eq_emod_of_nonneg hy
  have t400 : y.tmod 400 = y % 400 := Int.tmod_eq_emod_of_nonneg hy
  clear hy
  by_cases h1 : m = 4 ∨ m = 6 ∨ m = 9 ∨ m = 11
  · have e : dys y m = 30 := by unfold dys; rw [if_pos h1]
    rw [e]
    clear e t4 t100 t400
    rcases h1 with rfl | rfl | rfl | rfl
    all_goals
      go_enter Tryd.func58, Tryd.ntmps58
      go_wp2_with fail
      go_ret
      exact ⟨rfl, rfl⟩
  · by_cases h2 : m = 2
    · subst h2
      have e : dys y 2 = if lp y then 29 else 28 := by unfold dys; rw [if_neg (by decide), if_pos rfl]
      rw [e]
      clear e h1
      unfold lp
      rw [← t4, ← t100, ← t400]
      clear t4 t100 t400
      cases h4 : (y.tmod 4 == 0) <;> cases h100 : (y.tmod 100 != 0) <;> cases h400 : (y.tmod 400 == 0)
      all_goals
        go_enter Tryd.func58, Tryd.ntmps58
        go_wp2_with fail
        go_ret
        exact ⟨rfl, rfl⟩
    · have e : dys y m = 31 := by unfold dys; rw [if_neg h1, if_neg h2]
      have k1 : (m == 4) = false := beq_eq_false_iff_ne.2 (fun h => h1 (.inl h))
      have k2 : (m == 6) = false := beq_eq_false_iff_ne.2 (fun h => h1 (.inr (.inl h)))
      have k3 : (m == 9) = false := beq_eq_false_iff_ne.2 (fun h => h1 (.inr (.inr (.inl h))))
      have k4 : (m == 11) = false := beq_eq_false_iff_ne.2 (fun h => h1 (.inr (.inr (.inr h))))
      have k5 : (m == 2) = false := beq_eq_false_iff_ne.2 h2
      rw [e]
      clear e h1 h2 t4 t100 t400
      go_enter Tryd.func58, Tryd.ntmps58
      go_wp2_with fail
      go_ret
      exact ⟨rfl, rfl⟩
end Go.Proofs.YtnjnghbonmdbdaaDoor


/- Parts of lists of bytes: 'b[l:h]', 'b[:h]', 'b[l:]' of a list that has memory. -/
namespace Go.Proofs.YtnjnghbonmdbdaaDoor
open Go.RowKit

theorem size_of_u8 (w : World) : (Go.sizeOf 5).run Tryd.prog w = .ok 1 w := by kernel_rfl
theorem elem_u8 : Tryd.prog.elem 22 = 5 := by simp [Program.elem, Tryd.underlying22]
theorem under_bytes : Tryd.prog.underlying 22 = some (.slice (Tryd.prog.elem 22)) := by rw [elem_u8]; exact Tryd.underlying22
/-- 'b[l:h]' of a list that has bytes behind l. -/
theorem slice_at (w : World) (b o n c l h : Nat) (hl : l < h) (hh : h ≤ c) :
    (Instr.slice 22 (.slice (some ⟨b, o, none⟩) n c) (some (.int .i64 (l : Int))) (some (.int .i64 (h : Int))) none).run Tryd.prog w = .ok (.slice (some ⟨b, o + l, none⟩) (h - l) (c - l)) w := by
  rw [run_slice_lh w 22 (some ⟨b, o, none⟩) n c under_bytes .i64 .i64 _ _ (by omega) (by omega) (by omega), elem_u8, size_of_u8]
  have hcl : ¬ c = l := by omega
  simp [Result.andThen, sliced, hcl, Addr.add]
/-- 'b[:h]'. -/
theorem slice_to (w : World) (b o n c h : Nat) (hh : h ≤ c) :
    (Instr.slice 22 (.slice (some ⟨b, o, none⟩) n c) none (some (.int .i64 (h : Int))) none).run Tryd.prog w = .ok (.slice (some ⟨b, o, none⟩) h c) w := by
  rw [run_slice_h w 22 (some ⟨b, o, none⟩) n c under_bytes .i64 _ (by omega) (by omega), elem_u8, size_of_u8]
  simp [Result.andThen, sliced, Addr.add]
/-- 'b[l:]'. -/
theorem slice_from (w : World) (b o n c l : Nat) (hn : l ≤ n) (hc : l < c) :
    (Instr.slice 22 (.slice (some ⟨b, o, none⟩) n c) (some (.int .i64 (l : Int))) none none).run Tryd.prog w = .ok (.slice (some ⟨b, o + l, none⟩) (n - l) (c - l)) w := by
  rw [run_slice_l w 22 (some ⟨b, o, none⟩) n c under_bytes .i64 _ (by omega) (by omega), elem_u8, size_of_u8]
  have hcl : ¬ c = l := by omega
  simp [Result.andThen, sliced, Addr.add, hcl]
theorem byt_sub {w : World} {B b o s k : Nat} {xs : List UInt8} (h : Byt w B (some ⟨b, o, none⟩) xs) : Byt w B (some ⟨b, o + s, none⟩) ((xs.drop s).take k) := by
  intro hn
  rw [List.length_take, List.length_drop] at hn
  obtain ⟨b', o', e, hb, hc⟩ := h (by omega)
  cases e
  refine ⟨b, o + s, rfl, hb, fun i hi => ?_⟩
  rw [List.length_take, List.length_drop] at hi
  rw [Nat.add_assoc, hc (s + i) (by omega)]
  congr 3
  simp only [List.getD_eq_getElem?_getD]
  rw [List.getElem?_take_of_lt (by omega), List.getElem?_drop]
theorem byt_below {w w' : World} {B n : Nat} {A : Option Addr} {xs : List UInt8} (h : Byt w B A xs) (b : Below n w w') (hn : B ≤ n) : Byt w' B A xs := by
  intro hx
  obtain ⟨p, o, rfl, hp, hc⟩ := h hx
  exact ⟨p, o, rfl, hp, fun i hi => (b.cell (p := ⟨p, o + i, none⟩) (Nat.lt_of_lt_of_le hp hn)).trans (hc i hi)⟩
end Go.Proofs.YtnjnghbonmdbdaaDoor

