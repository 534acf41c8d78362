/- What is read of bytes by a form: a value without addresses, how many bytes, how many forms are begun; or what is wrong, and where. -/
import Derived.Test.YtdamjbngopfpkaaRf
import Derived.Test.YtdamjbngopfpkaaVa
import Derived.Test.YtdamjbngopfpkaaNum
namespace Go.Proofs.Ytdamjbngopfpkaa
open Go.RowKit

namespace Va
mutual
/-- A value without its addresses. -/
def nf : Va → Va
  | mk n _ _ bs _ _ ls => mk n none 0 bs none 0 (nfs ls)
def nfs : List Va → List Va
  | [] => []
  | p :: ps => nf p :: nfs ps
end
theorem nfs_map (ls : List Va) : nfs ls = ls.map nf := by
  induction ls with
  | nil => rfl
  | cons p ps ih => rw [nfs, ih]; rfl
theorem nfs_length (ls : List Va) : (nfs ls).length = ls.length := by rw [nfs_map, List.length_map]
theorem nfs_append (xs ys : List Va) : nfs (xs ++ ys) = nfs xs ++ nfs ys := by simp [nfs_map]
theorem nf_nf (v : Va) : nf (nf v) = nf v := by
  induction v using Va.ind with
  | H n B d bs A c ls ih =>
    rw [nf, nf, nfs_map, nfs_map, List.map_map]
    congr 1
    exact List.map_congr_left (fun p hp => ih p hp)
theorem sames_nfs {ls : List Va} : ∀ (ms : List Va), (∀ p ∈ ls, ∀ q, same p q = true ↔ nf p = nf q) → (decide (ls.length = ms.length) && sames ls ms = true ↔ nfs ls = nfs ms) := by
  induction ls with
  | nil =>
    intro ms _
    cases ms with
    | nil => simp [sames, nfs]
    | cons m ms => simp [nfs]
  | cons p ps ih =>
    intro ms h
    cases ms with
    | nil => simp [nfs]
    | cons m ms =>
      have h1 := h p (by simp) m
      have h2 := ih ms (fun q hq => h q (by simp [hq]))
      simp only [Bool.and_eq_true, decide_eq_true_eq] at h2
      simp only [sames, nfs, List.cons.injEq, List.length_cons, Bool.and_eq_true, decide_eq_true_eq, Nat.add_right_cancel_iff]
      rw [← h1, ← h2]
      exact ⟨fun ⟨a, b, c⟩ => ⟨b, a, c⟩, fun ⟨b, a, c⟩ => ⟨a, b, c⟩⟩
theorem same_nf (a : Va) : ∀ b, same a b = true ↔ nf a = nf b := by
  induction a using Va.ind with
  | H n B d bs A c ls ih =>
    intro b
    cases b with
    | mk m B' d' cs A' c' ms =>
      have h2 := sames_nfs ms ih
      simp only [Bool.and_eq_true, decide_eq_true_eq] at h2
      simp only [same, nf, Va.n, Va.bs, Va.ls, Bool.and_eq_true, mk.injEq, true_and]
      rw [← h2]
      exact ⟨fun ⟨⟨⟨a, b⟩, c⟩, d⟩ => ⟨of_decide_eq_true a, of_decide_eq_true b, of_decide_eq_true c, d⟩, fun ⟨a, b, c, d⟩ => ⟨⟨⟨decide_eq_true a, decide_eq_true b⟩, decide_eq_true c⟩, d⟩⟩
theorem pair_nfs {ps : List Fo} : ∀ (ls : List Va), (∀ p ∈ ps, ∀ v, fit p (nf v) = fit p v) → pair (fits ps) (nfs ls) = pair (fits ps) ls := by
  induction ps with
  | nil => intro ls _; cases ls <;> rfl
  | cons p ps ih =>
    intro ls h
    cases ls with
    | nil => rfl
    | cons v ls => rw [nfs, fits, pair, pair, h p (by simp), ih ls (fun q hq => h q (by simp [hq]))]
theorem each_nfs {ps : List Fo} (ls : List Va) (h : ∀ p ∈ ps, ∀ v, fit p (nf v) = fit p v) : each (fits ps) (nfs ls) = each (fits ps) ls := by
  cases ps with
  | nil => rfl
  | cons p ps =>
    rw [fits, each, each, nfs_map, List.map_map]
    exact List.map_congr_left (fun v _ => h p (by simp) v)
theorem fit_nf (f : Fo) : ∀ v, fit f (nf v) = fit f v := by
  induction f using Fo.ind with
  | H k s l h t A c ps ih =>
    intro v
    have h1 : (nf v).n = v.n := by cases v; rw [nf]; rfl
    have h2 : (nf v).bs = v.bs := by cases v; rw [nf]; rfl
    have h3 : (nf v).ls = nfs v.ls := by cases v; rw [nf]; rfl
    have e : lonB (nf v) (own k) = lonB v (own k) := by
      unfold lonB fil
      rw [h1, h2, h3, nfs_length]
    rw [fit, fit, e, h1, h2, h3, pair_nfs v.ls ih, each_nfs v.ls ih, nfs_length]
/-- Values of one field. -/
def vN (x : Int) : Va := mk x none 0 [] none 0 []
def vB (bs : List UInt8) : Va := mk 0 none 0 bs none 0 []
def vL (ls : List Va) : Va := mk 0 none 0 [] none 0 ls
def v0 : Va := mk 0 none 0 [] none 0 []
end Va

/-- What is told: the error; how many bytes were read, or where it is wrong; the value; how many forms were begun. -/
structure Rd where
  e : Int
  n : Nat
  v : Va
  c : Nat

namespace Rd
open Va
def shift (R : Rd) (k : Nat) : Rd := ⟨R.e, k + R.n, R.v, R.c⟩
def up (R : Rd) : Rd := ⟨R.e, R.n, R.v, R.c + 1⟩
def rdN (s : Int) (xs : List UInt8) : Rd := if (xs.length : Int) < s then ⟨4, xs.length, v0, 0⟩ else ⟨0, s.toNat, vN (num (xs.take s.toNat)), 0⟩
def rdT (n : Nat) (xs : List UInt8) : Rd := if xs.length < n then ⟨4, xs.length, v0, 0⟩ else ⟨0, n, vB (xs.take n), 0⟩
/-- A length: the error, where, the number. -/
def lnN (s : Int) (xs : List UInt8) : Nat := num (xs.take s.toNat)
def lnE (s l h t : Int) (xs : List UInt8) : Int := if (xs.length : Int) < s then 4 else if l ≤ (lnN s xs : Int) ∧ (lnN s xs : Int) ≤ h ∧ (lnN s xs : Int) % t = 0 then 0 else 5
def lnA (s : Int) (xs : List UInt8) : Nat := if (xs.length : Int) < s then xs.length else 0
def rdO (s l h t : Int) (xs : List UInt8) : Rd := if lnE s l h t xs = 0 then (rdT (lnN s xs) (xs.drop s.toNat)).shift s.toNat else ⟨lnE s l h t xs, lnA s xs, v0, 0⟩
def lst (g : List UInt8 → Rd) : Nat → List Va → Nat → Nat → List UInt8 → Rd
  | 0, acc, o, c, _ => ⟨0, o, vL acc, c⟩
  | k + 1, acc, o, c, ys => if ys.length = 0 then ⟨0, o, vL acc, c⟩ else
      if (g ys).e = 0 then lst g k (acc ++ [(g ys).v]) (o + (g ys).n) (c + (g ys).c) (ys.drop (g ys).n) else ⟨(g ys).e, o + (g ys).n, v0, c + (g ys).c⟩
def one : List (List UInt8 → Rd) → List UInt8 → Rd
  | [] => fun _ => ⟨0, 0, v0, 0⟩
  | g :: _ => g
def rdL (s l h t : Int) (gs : List (List UInt8 → Rd)) (xs : List UInt8) : Rd :=
  if lnE s l h t xs = 0 then (if (xs.drop s.toNat).length < lnN s xs then ⟨4, xs.length, v0, 0⟩ else (lst (one gs) (lnN s xs) [] 0 0 ((xs.drop s.toNat).take (lnN s xs))).shift s.toNat) else ⟨lnE s l h t xs, lnA s xs, v0, 0⟩
def row : List (List UInt8 → Rd) → List Va → Nat → Nat → List UInt8 → Rd
  | [], acc, o, c, _ => ⟨0, o, vL acc, c⟩
  | g :: gs, acc, o, c, ys => if (g ys).e = 0 then row gs (acc ++ [(g ys).v]) (o + (g ys).n) (c + (g ys).c) (ys.drop (g ys).n) else ⟨(g ys).e, o + (g ys).n, v0, c + (g ys).c⟩
def rdR (l h : Int) (xs : List UInt8) : Rd := if (xs.length : Int) < l then ⟨4, xs.length, v0, 0⟩ else if h < (xs.length : Int) then ⟨6, h.toNat, v0, 0⟩ else rdT xs.length xs

mutual
/-- What a right form's own step reads. -/
def bd : Fo → List UInt8 → Rd
  | .mk k s l h t _ _ ps => fun xs => if k = 0 then rdN s xs else if k = 1 then rdO s l h t xs else if k = 2 then rdL s l h t (bds ps) xs else if k = 3 then row (bds ps) [] 0 0 xs else if k = 4 then rdR l h xs else rdT l.toNat xs
def bds : List Fo → List (List UInt8 → Rd)
  | [] => []
  | p :: ps => (fun xs => up (bd p xs)) :: bds ps
end
/-- What is read by a right form. -/
def rd (f : Fo) (xs : List UInt8) : Rd := up (bd f xs)
theorem bds_map (ps : List Fo) : bds ps = ps.map rd := by
  induction ps with
  | nil => rfl
  | cons p ps ih => rw [bds, ih]; rfl

/-- What holds of it. -/
structure Good (f : Fo) (xs : List UInt8) : Prop where
  le : (bd f xs).n ≤ xs.length
  nf : (bd f xs).v.nf = (bd f xs).v
  ok : (bd f xs).e = 0 → fit f (bd f xs).v = (((bd f xs).n : Int), 0) ∧ f.len false ≤ (bd f xs).n
  no : (bd f xs).e ≠ 0 → (bd f xs).v = v0
  st : (bd f xs).c + 1 ≤ f.cnt * max 1 (if (bd f xs).e = 0 then (bd f xs).n else xs.length)
  en : (bd f xs).e = 0 ∨ (bd f xs).e = 4 ∨ (bd f xs).e = 5 ∨ (bd f xs).e = 6

theorem plus_nat {a b : Int} (h0 : 0 ≤ a) (h1 : 0 ≤ b) (h : a + b ≤ 9223372036854775807) : Fo.plus a b = a + b := plus_in (by omega) (by omega)

theorem lst_good {p : Fo} (hpos : 1 ≤ p.len false) : ∀ (k : Nat) (acc : List Va) (o c : Nat) (ys : List UInt8), ys.length ≤ k → ys.length ≤ 1000000000000000 → (∀ zs : List UInt8, zs.length ≤ ys.length → Good p zs) →
    ((lst (rd p) k acc o c ys).e = 0 → ∃ ls, (lst (rd p) k acc o c ys).v = vL (acc ++ ls) ∧ nfs ls = ls ∧ (lst (rd p) k acc o c ys).n = o + ys.length ∧ (∀ a : Int, 0 ≤ a → a + ys.length ≤ 4611686018427387904 → tot a (ls.map (fit p)) = (a + ys.length, 0))) ∧
    ((lst (rd p) k acc o c ys).e ≠ 0 → (lst (rd p) k acc o c ys).v = v0 ∧ (lst (rd p) k acc o c ys).n ≤ o + ys.length) ∧
    (lst (rd p) k acc o c ys).c ≤ c + p.cnt * ys.length ∧
    ((lst (rd p) k acc o c ys).e = 0 ∨ (lst (rd p) k acc o c ys).e = 4 ∨ (lst (rd p) k acc o c ys).e = 5 ∨ (lst (rd p) k acc o c ys).e = 6) := by
  intro k
  induction k with
  | zero =>
    intro acc o c ys hk _ _
    have : ys.length = 0 := by omega
    refine ⟨fun _ => ⟨[], by simp [lst], rfl, by show o = o + ys.length; omega, fun a _ _ => by simp [tot, this]⟩, fun h => by simp [lst] at h, by simp [lst], by simp [lst]⟩
  | succ k ih =>
    intro acc o c ys hk hL hg
    by_cases h0 : ys.length = 0
    · have e : lst (rd p) (k + 1) acc o c ys = ⟨0, o, vL acc, c⟩ := by rw [lst, if_pos h0]
      rw [e]
      exact ⟨fun _ => ⟨[], by simp, rfl, by show o = o + ys.length; omega, fun a _ _ => by simp [tot, h0]⟩, fun h => by simp at h, by simp, by simp⟩
    · have G := hg ys (Nat.le_refl _)
      have G1 := G.le
      have G2 := G.nf
      have G3 := G.ok
      have G4 := G.no
      have G5 := G.st
      have G6 := G.en
      have e1 : (rd p ys).e = (bd p ys).e := rfl
      have e2 : (rd p ys).n = (bd p ys).n := rfl
      have e3 : (rd p ys).v = (bd p ys).v := rfl
      have e4 : (rd p ys).c = (bd p ys).c + 1 := rfl
      rw [lst, if_neg h0, e1, e2, e3, e4]
      clear e1 e2 e3 e4 G
      generalize (bd p ys).e = E at *
      generalize (bd p ys).n = N at *
      generalize (bd p ys).v = V at *
      generalize (bd p ys).c = C at *
      by_cases hE : E = 0
      · rw [if_pos hE] at G5 ⊢
        obtain ⟨f1, f2⟩ := G3 hE
        have hN : 1 ≤ N := by omega
        have hd : (ys.drop N).length = ys.length - N := List.length_drop
        have hm : max 1 N = N := by omega
        rw [hm] at G5
        obtain ⟨i1, i2, i3, i4⟩ := ih (acc ++ [V]) (o + N) (c + (C + 1)) (ys.drop N) (by omega) (by omega) (fun zs hz => hg zs (by omega))
        rw [hd] at i1 i2 i3
        have hmul : p.cnt * N + p.cnt * (ys.length - N) = p.cnt * ys.length := by rw [← Nat.mul_add]; congr 1; omega
        refine ⟨fun h => ?_, fun h => ?_, by omega, i4⟩
        · obtain ⟨ls, j1, j2, j3, j4⟩ := i1 h
          clear i1 i2
          refine ⟨V :: ls, by rw [j1, List.append_assoc]; rfl, by rw [nfs, j2, G2], by omega, fun a ha hb => ?_⟩
          rw [List.map_cons, tot, f1, if_pos rfl, plus_nat ha (by simp) (by simp; omega), j4 _ (by simp; omega) (by simp; omega)]
          congr 1
          simp
          omega
        · obtain ⟨j1, j2⟩ := i2 h
          clear i1 i2
          exact ⟨j1, by omega⟩
      · rw [if_neg hE] at G5 ⊢
        have hm : max 1 ys.length = ys.length := by omega
        rw [hm] at G5
        exact ⟨fun h => absurd h hE, fun _ => ⟨rfl, by simp; omega⟩, by simp; omega, G6⟩

theorem row_good (M : Int) (hM : 0 ≤ M) : ∀ (ps : List Fo) (acc : List Va) (o c : Nat) (ys : List UInt8), ys.length ≤ 1000000000000000 → (∀ p ∈ ps, ∀ zs : List UInt8, zs.length ≤ ys.length → Good p zs) → (∀ p ∈ ps, 0 ≤ p.len false ∧ p.len false ≤ M) →
    ((row (bds ps) acc o c ys).e = 0 → ∃ ls m, (row (bds ps) acc o c ys).v = vL (acc ++ ls) ∧ nfs ls = ls ∧ ls.length = ps.length ∧ (row (bds ps) acc o c ys).n = o + m ∧ m ≤ ys.length ∧ (∀ a : Int, 0 ≤ a → a + ys.length ≤ 4611686018427387904 → tot a (pair (fits ps) ls) = (a + m, 0)) ∧
      (∀ a : Int, 0 ≤ a → a + ps.length * M ≤ 4611686018427387904 → Fo.lens false a ps ≤ a + m) ∧ (row (bds ps) acc o c ys).c ≤ c + Fo.cnts ps * max 1 m) ∧
    ((row (bds ps) acc o c ys).e ≠ 0 → (row (bds ps) acc o c ys).v = v0 ∧ (row (bds ps) acc o c ys).n ≤ o + ys.length ∧ (row (bds ps) acc o c ys).c ≤ c + Fo.cnts ps * max 1 ys.length) ∧
    ((row (bds ps) acc o c ys).e = 0 ∨ (row (bds ps) acc o c ys).e = 4 ∨ (row (bds ps) acc o c ys).e = 5 ∨ (row (bds ps) acc o c ys).e = 6) := by
  intro ps
  induction ps with
  | nil =>
    intro acc o c ys hL _ _
    refine ⟨fun _ => ⟨[], 0, by simp [bds, row], rfl, rfl, by simp [bds, row], by omega, fun a _ _ => by simp [pair, fits, tot], fun a _ _ => by simp [Fo.lens], by simp [bds, row]⟩, fun h => by simp [bds, row] at h, by simp [bds, row]⟩
  | cons p ps ih =>
    intro acc o c ys hL hg hl
    have G := hg p (by simp) ys (Nat.le_refl _)
    have G1 := G.le
    have G2 := G.nf
    have G3 := G.ok
    have G4 := G.no
    have G5 := G.st
    have G6 := G.en
    have e : row (bds (p :: ps)) acc o c ys = if (bd p ys).e = 0 then row (bds ps) (acc ++ [(bd p ys).v]) (o + (bd p ys).n) (c + ((bd p ys).c + 1)) (ys.drop (bd p ys).n) else ⟨(bd p ys).e, o + (bd p ys).n, v0, c + ((bd p ys).c + 1)⟩ := rfl
    rw [e]
    clear e G
    generalize (bd p ys).e = E at *
    generalize (bd p ys).n = N at *
    generalize (bd p ys).v = V at *
    generalize (bd p ys).c = C at *
    have hcnt : Fo.cnts (p :: ps) = p.cnt + Fo.cnts ps := rfl
    have hlen : (p :: ps).length = ps.length + 1 := rfl
    rw [hcnt]
    by_cases hE : E = 0
    · rw [if_pos hE] at G5 ⊢
      obtain ⟨f1, f2⟩ := G3 hE
      have hd : (ys.drop N).length = ys.length - N := List.length_drop
      obtain ⟨i1, i2, i4⟩ := ih (acc ++ [V]) (o + N) (c + (C + 1)) (ys.drop N) (by omega) (fun q hq zs hz => hg q (by simp [hq]) zs (by omega)) (fun q hq => hl q (by simp [hq]))
      rw [hd] at i1 i2
      refine ⟨fun h => ?_, fun h => ?_, i4⟩
      · obtain ⟨ls, m, j1, j2, j3, j4, j5, j6, j7, j8⟩ := i1 h
        clear i1 i2
        have m1 : p.cnt * max 1 N ≤ p.cnt * max 1 (N + m) := Nat.mul_le_mul_left _ (by omega)
        have m2 : Fo.cnts ps * max 1 m ≤ Fo.cnts ps * max 1 (N + m) := Nat.mul_le_mul_left _ (by omega)
        refine ⟨V :: ls, N + m, by rw [j1, List.append_assoc]; rfl, by rw [nfs, j2, G2], by rw [List.length_cons, j3, hlen], by omega, by omega, fun a ha hb => ?_, fun a ha hb => ?_, by rw [Nat.add_mul]; omega⟩
        · rw [fits, pair, tot, f1, if_pos rfl, plus_nat ha (by simp) (by simp; omega), j6 _ (by simp; omega) (by simp; omega)]
          congr 1
          simp
          omega
        · obtain ⟨l1, l2⟩ := hl p (by simp)
          have hx : ((p :: ps).length : Int) * M = ps.length * M + M := by rw [hlen]; push_cast; rw [Int.add_mul]; omega
          rw [hx] at hb
          have hnn : 0 ≤ (ps.length : Int) * M := Int.mul_nonneg (by omega) hM
          rw [Fo.lens, plus_nat ha l1 (by omega)]
          have := j7 (a + p.len false) (by omega) (by omega)
          omega
      · obtain ⟨j1, j2, j3⟩ := i2 h
        clear i1 i2
        have m1 : p.cnt * max 1 N ≤ p.cnt * max 1 ys.length := Nat.mul_le_mul_left _ (by omega)
        have m2 : Fo.cnts ps * max 1 (ys.length - N) ≤ Fo.cnts ps * max 1 ys.length := Nat.mul_le_mul_left _ (by omega)
        exact ⟨j1, by omega, by rw [Nat.add_mul]; omega⟩
    · rw [if_neg hE] at G5 ⊢
      exact ⟨fun h => absurd h hE, fun _ => ⟨rfl, by simp; omega, by rw [Nat.add_mul]; simp; omega⟩, G6⟩
end Rd
end Go.Proofs.Ytdamjbngopfpkaa

