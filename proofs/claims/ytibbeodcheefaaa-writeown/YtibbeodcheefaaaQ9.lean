/- What is read of bytes by a form: a value without addresses, how many bytes, how many forms are begun; or what is wrong, and where. -/
import Derived.Test.YtibbeodcheefaaaQ8
import Derived.Test.YtibbeodcheefaaaRows
import Derived.Test.YtibbeodcheefaaaQ1
import Derived.Laws.LoneSync
import Derived.Lib.Hide
import Derived.Deep.QuietTactic
import Derived.BigQuiet
import Derived.IntWalk
namespace Go.Proofs.Ytibbeodcheefaaa
open Go.RowKit

namespace Va
mutual
/-- A value without its addresses. -/
def nf : Va → Va
  | mk n _ _ bs _ _ ls => mk n none 0 bs none 0 (nfs ls)
def nfs : List Va → List Va
  | [] => []
  | p :: ps => nf p :: nfs ps
end
theorem nfs_map (ls : List Va) : nfs ls = ls.map nf := by
  induction ls with
  | nil => rfl
  | cons p ps ih => rw [nfs, ih]; rfl
theorem nfs_length (ls : List Va) : (nfs ls).length = ls.length := by rw [nfs_map, List.length_map]
theorem nfs_append (xs ys : List Va) : nfs (xs ++ ys) = nfs xs ++ nfs ys := by simp [nfs_map]
theorem nf_nf (v : Va) : nf (nf v) = nf v := by
  induction v using Va.ind with
  | H n B d bs A c ls ih =>
    rw [nf, nf, nfs_map, nfs_map, List.map_map]
    congr 1
    exact List.map_congr_left (fun p hp => ih p hp)
theorem sames_nfs {ls : List Va} : ∀ (ms : List Va), (∀ p ∈ ls, ∀ q, same p q = true ↔ nf p = nf q) → (decide (ls.length = ms.length) && sames ls ms = true ↔ nfs ls = nfs ms) := by
  induction ls with
  | nil =>
    intro ms _
    cases ms with
    | nil => simp [sames, nfs]
    | cons m ms => simp [nfs]
  | cons p ps ih =>
    intro ms h
    cases ms with
    | nil => simp [nfs]
    | cons m ms =>
      have h1 := h p (by simp) m
      have h2 := ih ms (fun q hq => h q (by simp [hq]))
      simp only [Bool.and_eq_true, decide_eq_true_eq] at h2
      simp only [sames, nfs, List.cons.injEq, List.length_cons, Bool.and_eq_true, decide_eq_true_eq, Nat.add_right_cancel_iff]
      rw [← h1, ← h2]
      exact ⟨fun ⟨a, b, c⟩ => ⟨b, a, c⟩, fun ⟨b, a, c⟩ => ⟨a, b, c⟩⟩
theorem same_nf (a : Va) : ∀ b, same a b = true ↔ nf a = nf b := by
  induction a using Va.ind with
  | H n B d bs A c ls ih =>
    intro b
    cases b with
    | mk m B' d' cs A' c' ms =>
      have h2 := sames_nfs ms ih
      simp only [Bool.and_eq_true, decide_eq_true_eq] at h2
      simp only [same, nf, Va.n, Va.bs, Va.ls, Bool.and_eq_true, mk.injEq, true_and]
      rw [← h2]
      exact ⟨fun ⟨⟨⟨a, b⟩, c⟩, d⟩ => ⟨of_decide_eq_true a, of_decide_eq_true b, of_decide_eq_true c, d⟩, fun ⟨a, b, c, d⟩ => ⟨⟨⟨decide_eq_true a, decide_eq_true b⟩, decide_eq_true c⟩, d⟩⟩
theorem pair_nfs {ps : List Fo} : ∀ (ls : List Va), (∀ p ∈ ps, ∀ v, fit p (nf v) = fit p v) → pair (fits ps) (nfs ls) = pair (fits ps) ls := by
  induction ps with
  | nil => intro ls _; cases ls <;> rfl
  | cons p ps ih =>
    intro ls h
    cases ls with
    | nil => rfl
    | cons v ls => rw [nfs, fits, pair, pair, h p (by simp), ih ls (fun q hq => h q (by simp [hq]))]
theorem each_nfs {ps : List Fo} (ls : List Va) (h : ∀ p ∈ ps, ∀ v, fit p (nf v) = fit p v) : each (fits ps) (nfs ls) = each (fits ps) ls := by
  cases ps with
  | nil => rfl
  | cons p ps =>
    rw [fits, each, each, nfs_map, List.map_map]
    exact List.map_congr_left (fun v _ => h p (by simp) v)
theorem fit_nf (f : Fo) : ∀ v, fit f (nf v) = fit f v := by
  induction f using Fo.ind with
  | H k s l h t A c ps ih =>
    intro v
    have h1 : (nf v).n = v.n := by cases v; rw [nf]; rfl
    have h2 : (nf v).bs = v.bs := by cases v; rw [nf]; rfl
    have h3 : (nf v).ls = nfs v.ls := by cases v; rw [nf]; rfl
    have e : lonB (nf v) (own k) = lonB v (own k) := by
      unfold lonB fil
      rw [h1, h2, h3, nfs_length]
    rw [fit, fit, e, h1, h2, h3, pair_nfs v.ls ih, each_nfs v.ls ih, nfs_length]
/-- Values of one field. -/
def vN (x : Int) : Va := mk x none 0 [] none 0 []
def vB (bs : List UInt8) : Va := mk 0 none 0 bs none 0 []
def vL (ls : List Va) : Va := mk 0 none 0 [] none 0 ls
def v0 : Va := mk 0 none 0 [] none 0 []
end Va

/-- What is told: the error; how many bytes were read, or where it is wrong; the value; how many forms were begun. -/
structure Rd where
  e : Int
  n : Nat
  v : Va
  c : Nat

namespace Rd
open Va
def shift (R : Rd) (k : Nat) : Rd := ⟨R.e, k + R.n, R.v, R.c⟩
def up (R : Rd) : Rd := ⟨R.e, R.n, R.v, R.c + 1⟩
def rdN (s : Int) (xs : List UInt8) : Rd := if (xs.length : Int) < s then ⟨4, xs.length, v0, 0⟩ else ⟨0, s.toNat, vN (num (xs.take s.toNat)), 0⟩
def rdT (n : Nat) (xs : List UInt8) : Rd := if xs.length < n then ⟨4, xs.length, v0, 0⟩ else ⟨0, n, vB (xs.take n), 0⟩
/-- A length: the error, where, the number. -/
def lnN (s : Int) (xs : List UInt8) : Nat := num (xs.take s.toNat)
def lnE (s l h t : Int) (xs : List UInt8) : Int := if (xs.length : Int) < s then 4 else if l ≤ (lnN s xs : Int) ∧ (lnN s xs : Int) ≤ h ∧ (lnN s xs : Int) % t = 0 then 0 else 5
def lnA (s : Int) (xs : List UInt8) : Nat := if (xs.length : Int) < s then xs.length else 0
def rdO (s l h t : Int) (xs : List UInt8) : Rd := if lnE s l h t xs = 0 then (rdT (lnN s xs) (xs.drop s.toNat)).shift s.toNat else ⟨lnE s l h t xs, lnA s xs, v0, 0⟩
def lst (g : List UInt8 → Rd) : Nat → List Va → Nat → Nat → List UInt8 → Rd
  | 0, acc, o, c, _ => ⟨0, o, vL acc, c⟩
  | k + 1, acc, o, c, ys => if ys.length = 0 then ⟨0, o, vL acc, c⟩ else
      if (g ys).e = 0 then lst g k (acc ++ [(g ys).v]) (o + (g ys).n) (c + (g ys).c) (ys.drop (g ys).n) else ⟨(g ys).e, o + (g ys).n, v0, c + (g ys).c⟩
def one : List (List UInt8 → Rd) → List UInt8 → Rd
  | [] => fun _ => ⟨0, 0, v0, 0⟩
  | g :: _ => g
def rdL (s l h t : Int) (gs : List (List UInt8 → Rd)) (xs : List UInt8) : Rd :=
  if lnE s l h t xs = 0 then (if (xs.drop s.toNat).length < lnN s xs then ⟨4, xs.length, v0, 0⟩ else (lst (one gs) (lnN s xs) [] 0 0 ((xs.drop s.toNat).take (lnN s xs))).shift s.toNat) else ⟨lnE s l h t xs, lnA s xs, v0, 0⟩
def row : List (List UInt8 → Rd) → List Va → Nat → Nat → List UInt8 → Rd
  | [], acc, o, c, _ => ⟨0, o, vL acc, c⟩
  | g :: gs, acc, o, c, ys => if (g ys).e = 0 then row gs (acc ++ [(g ys).v]) (o + (g ys).n) (c + (g ys).c) (ys.drop (g ys).n) else ⟨(g ys).e, o + (g ys).n, v0, c + (g ys).c⟩
def rdR (l h : Int) (xs : List UInt8) : Rd := if (xs.length : Int) < l then ⟨4, xs.length, v0, 0⟩ else if h < (xs.length : Int) then ⟨6, h.toNat, v0, 0⟩ else rdT xs.length xs

mutual
/-- What a right form's own step reads. -/
def bd : Fo → List UInt8 → Rd
  | .mk k s l h t _ _ ps => fun xs => if k = 0 then rdN s xs else if k = 1 then rdO s l h t xs else if k = 2 then rdL s l h t (bds ps) xs else if k = 3 then row (bds ps) [] 0 0 xs else if k = 4 then rdR l h xs else rdT l.toNat xs
def bds : List Fo → List (List UInt8 → Rd)
  | [] => []
  | p :: ps => (fun xs => up (bd p xs)) :: bds ps
end
/-- What is read by a right form. -/
def rd (f : Fo) (xs : List UInt8) : Rd := up (bd f xs)
theorem bds_map (ps : List Fo) : bds ps = ps.map rd := by
  induction ps with
  | nil => rfl
  | cons p ps ih => rw [bds, ih]; rfl

/-- What holds of it. -/
structure Good (f : Fo) (xs : List UInt8) : Prop where
  le : (bd f xs).n ≤ xs.length
  nf : (bd f xs).v.nf = (bd f xs).v
  ok : (bd f xs).e = 0 → fit f (bd f xs).v = (((bd f xs).n : Int), 0) ∧ f.len false ≤ (bd f xs).n
  no : (bd f xs).e ≠ 0 → (bd f xs).v = v0
  st : (bd f xs).c + 1 ≤ f.cnt * max 1 (if (bd f xs).e = 0 then (bd f xs).n else xs.length)
  en : (bd f xs).e = 0 ∨ (bd f xs).e = 4 ∨ (bd f xs).e = 5 ∨ (bd f xs).e = 6

theorem plus_nat {a b : Int} (h0 : 0 ≤ a) (h1 : 0 ≤ b) (h : a + b ≤ 9223372036854775807) : Fo.plus a b = a + b := plus_in (by omega) (by omega)

theorem lst_good {p : Fo} (hpos : 1 ≤ p.len false) : ∀ (k : Nat) (acc : List Va) (o c : Nat) (ys : List UInt8), ys.length ≤ k → ys.length ≤ 1000000000000000 → (∀ zs : List UInt8, zs.length ≤ ys.length → Good p zs) →
    ((lst (rd p) k acc o c ys).e = 0 → ∃ ls, (lst (rd p) k acc o c ys).v = vL (acc ++ ls) ∧ nfs ls = ls ∧ (lst (rd p) k acc o c ys).n = o + ys.length ∧ (∀ a : Int, 0 ≤ a → a + ys.length ≤ 4611686018427387904 → tot a (ls.map (fit p)) = (a + ys.length, 0))) ∧
    ((lst (rd p) k acc o c ys).e ≠ 0 → (lst (rd p) k acc o c ys).v = v0 ∧ (lst (rd p) k acc o c ys).n ≤ o + ys.length) ∧
    (lst (rd p) k acc o c ys).c ≤ c + p.cnt * ys.length ∧
    ((lst (rd p) k acc o c ys).e = 0 ∨ (lst (rd p) k acc o c ys).e = 4 ∨ (lst (rd p) k acc o c ys).e = 5 ∨ (lst (rd p) k acc o c ys).e = 6) := by
  intro k
  induction k with
  | zero =>
    intro acc o c ys hk _ _
    have : ys.length = 0 := by omega
    refine ⟨fun _ => ⟨[], by simp [lst], rfl, by show o = o + ys.length; omega, fun a _ _ => by simp [tot, this]⟩, fun h => by simp [lst] at h, by simp [lst], by simp [lst]⟩
  | succ k ih =>
    intro acc o c ys hk hL hg
    by_cases h0 : ys.length = 0
    · have e : lst (rd p) (k + 1) acc o c ys = ⟨0, o, vL acc, c⟩ := by rw [lst, if_pos h0]
      rw [e]
      exact ⟨fun _ => ⟨[], by simp, rfl, by show o = o + ys.length; omega, fun a _ _ => by simp [tot, h0]⟩, fun h => by simp at h, by simp, by simp⟩
    · have G := hg ys (Nat.le_refl _)
      have G1 := G.le
      have G2 := G.nf
      have G3 := G.ok
      have G4 := G.no
      have G5 := G.st
      have G6 := G.en
      have e1 : (rd p ys).e = (bd p ys).e := rfl
      have e2 : (rd p ys).n = (bd p ys).n := rfl
      have e3 : (rd p ys).v = (bd p ys).v := rfl
      have e4 : (rd p ys).c = (bd p ys).c + 1 := rfl
      rw [lst, if_neg h0, e1, e2, e3, e4]
      clear e1 e2 e3 e4 G
      generalize (bd p ys).e = E at *
      generalize (bd p ys).n = N at *
      generalize (bd p ys).v = V at *
      generalize (bd p ys).c = C at *
      by_cases hE : E = 0
      · rw [if_pos hE] at G5 ⊢
        obtain ⟨f1, f2⟩ := G3 hE
        have hN : 1 ≤ N := by omega
        have hd : (ys.drop N).length = ys.length - N := List.length_drop
        have hm : max 1 N = N := by omega
        rw [hm] at G5
        obtain ⟨i1, i2, i3, i4⟩ := ih (acc ++ [V]) (o + N) (c + (C + 1)) (ys.drop N) (by omega) (by omega) (fun zs hz => hg zs (by omega))
        rw [hd] at i1 i2 i3
        have hmul : p.cnt * N + p.cnt * (ys.length - N) = p.cnt * ys.length := by rw [← Nat.mul_add]; congr 1; omega
        refine ⟨fun h => ?_, fun h => ?_, by omega, i4⟩
        · obtain ⟨ls, j1, j2, j3, j4⟩ := i1 h
          clear i1 i2
          refine ⟨V :: ls, by rw [j1, List.append_assoc]; rfl, by rw [nfs, j2, G2], by omega, fun a ha hb => ?_⟩
          rw [List.map_cons, tot, f1, if_pos rfl, plus_nat ha (by simp) (by simp; omega), j4 _ (by simp; omega) (by simp; omega)]
          congr 1
          simp
          omega
        · obtain ⟨j1, j2⟩ := i2 h
          clear i1 i2
          exact ⟨j1, by omega⟩
      · rw [if_neg hE] at G5 ⊢
        have hm : max 1 ys.length = ys.length := by omega
        rw [hm] at G5
        exact ⟨fun h => absurd h hE, fun _ => ⟨rfl, by simp; omega⟩, by simp; omega, G6⟩

theorem row_good (M : Int) (hM : 0 ≤ M) : ∀ (ps : List Fo) (acc : List Va) (o c : Nat) (ys : List UInt8), ys.length ≤ 1000000000000000 → (∀ p ∈ ps, ∀ zs : List UInt8, zs.length ≤ ys.length → Good p zs) → (∀ p ∈ ps, 0 ≤ p.len false ∧ p.len false ≤ M) →
    ((row (bds ps) acc o c ys).e = 0 → ∃ ls m, (row (bds ps) acc o c ys).v = vL (acc ++ ls) ∧ nfs ls = ls ∧ ls.length = ps.length ∧ (row (bds ps) acc o c ys).n = o + m ∧ m ≤ ys.length ∧ (∀ a : Int, 0 ≤ a → a + ys.length ≤ 4611686018427387904 → tot a (pair (fits ps) ls) = (a + m, 0)) ∧
      (∀ a : Int, 0 ≤ a → a + ps.length * M ≤ 4611686018427387904 → Fo.lens false a ps ≤ a + m) ∧ (row (bds ps) acc o c ys).c ≤ c + Fo.cnts ps * max 1 m) ∧
    ((row (bds ps) acc o c ys).e ≠ 0 → (row (bds ps) acc o c ys).v = v0 ∧ (row (bds ps) acc o c ys).n ≤ o + ys.length ∧ (row (bds ps) acc o c ys).c ≤ c + Fo.cnts ps * max 1 ys.length) ∧
    ((row (bds ps) acc o c ys).e = 0 ∨ (row (bds ps) acc o c ys).e = 4 ∨ (row (bds ps) acc o c ys).e = 5 ∨ (row (bds ps) acc o c ys).e = 6) := by
  intro ps
  induction ps with
  | nil =>
    intro acc o c ys hL _ _
    refine ⟨fun _ => ⟨[], 0, by simp [bds, row], rfl, rfl, by simp [bds, row], by omega, fun a _ _ => by simp [pair, fits, tot], fun a _ _ => by simp [Fo.lens], by simp [bds, row]⟩, fun h => by simp [bds, row] at h, by simp [bds, row]⟩
  | cons p ps ih =>
    intro acc o c ys hL hg hl
    have G := hg p (by simp) ys (Nat.le_refl _)
    have G1 := G.le
    have G2 := G.nf
    have G3 := G.ok
    have G4 := G.no
    have G5 := G.st
    have G6 := G.en
    have e : row (bds (p :: ps)) acc o c ys = if (bd p ys).e = 0 then row (bds ps) (acc ++ [(bd p ys).v]) (o + (bd p ys).n) (c + ((bd p ys).c + 1)) (ys.drop (bd p ys).n) else ⟨(bd p ys).e, o + (bd p ys).n, v0, c + ((bd p ys).c + 1)⟩ := rfl
    rw [e]
    clear e G
    generalize (bd p ys).e = E at *
    generalize (bd p ys).n = N at *
    generalize (bd p ys).v = V at *
    generalize (bd p ys).c = C at *
    have hcnt : Fo.cnts (p :: ps) = p.cnt + Fo.cnts ps := rfl
    have hlen : (p :: ps).length = ps.length + 1 := rfl
    rw [hcnt]
    by_cases hE : E = 0
    · rw [if_pos hE] at G5 ⊢
      obtain ⟨f1, f2⟩ := G3 hE
      have hd : (ys.drop N).length = ys.length - N := List.length_drop
      obtain ⟨i1, i2, i4⟩ := ih (acc ++ [V]) (o + N) (c + (C + 1)) (ys.drop N) (by omega) (fun q hq zs hz => hg q (by simp [hq]) zs (by omega)) (fun q hq => hl q (by simp [hq]))
      rw [hd] at i1 i2
      refine ⟨fun h => ?_, fun h => ?_, i4⟩
      · obtain ⟨ls, m, j1, j2, j3, j4, j5, j6, j7, j8⟩ := i1 h
        clear i1 i2
        have m1 : p.cnt * max 1 N ≤ p.cnt * max 1 (N + m) := Nat.mul_le_mul_left _ (by omega)
        have m2 : Fo.cnts ps * max 1 m ≤ Fo.cnts ps * max 1 (N + m) := Nat.mul_le_mul_left _ (by omega)
        refine ⟨V :: ls, N + m, by rw [j1, List.append_assoc]; rfl, by rw [nfs, j2, G2], by rw [List.length_cons, j3, hlen], by omega, by omega, fun a ha hb => ?_, fun a ha hb => ?_, by rw [Nat.add_mul]; omega⟩
        · rw [fits, pair, tot, f1, if_pos rfl, plus_nat ha (by simp) (by simp; omega), j6 _ (by simp; omega) (by simp; omega)]
          congr 1
          simp
          omega
        · obtain ⟨l1, l2⟩ := hl p (by simp)
          have hx : ((p :: ps).length : Int) * M = ps.length * M + M := by rw [hlen]; push_cast; rw [Int.add_mul]; omega
          rw [hx] at hb
          have hnn : 0 ≤ (ps.length : Int) * M := Int.mul_nonneg (by omega) hM
          rw [Fo.lens, plus_nat ha l1 (by omega)]
          have := j7 (a + p.len false) (by omega) (by omega)
          omega
      · obtain ⟨j1, j2, j3⟩ := i2 h
        clear i1 i2
        have m1 : p.cnt * max 1 N ≤ p.cnt * max 1 ys.length := Nat.mul_le_mul_left _ (by omega)
        have m2 : Fo.cnts ps * max 1 (ys.length - N) ≤ Fo.cnts ps * max 1 ys.length := Nat.mul_le_mul_left _ (by omega)
        exact ⟨j1, by omega, by rw [Nat.add_mul]; omega⟩
    · rw [if_neg hE] at G5 ⊢
      exact ⟨fun h => absurd h hE, fun _ => ⟨rfl, by simp; omega, by rw [Nat.add_mul]; simp; omega⟩, G6⟩
end Rd
end Go.Proofs.Ytibbeodcheefaaa


/- What is read by a right form: it fits, it has so many bytes; how many forms are begun; what stands behind plays no part; of no bytes. -/
namespace Go.Proofs.Ytibbeodcheefaaa
open Go.RowKit
namespace Rd
open Va

theorem alone_0 {s l h t : Int} {n : Nat} (h0 : Fo.alone 0 s l h t n = 0) : s = 1 ∨ s = 2 ∨ s = 3 ∨ s = 4 ∨ s = 8 := by
  unfold Fo.alone at h0
  rw [if_pos rfl] at h0
  split at h0
  · assumption
  · omega
theorem alone_1 {k s l h t : Int} {n : Nat} (hk : k = 1 ∨ k = 2) (h0 : Fo.alone k s l h t n = 0) : 1 ≤ s ∧ s ≤ 3 ∧ 0 ≤ l ∧ l ≤ h ∧ h ≤ 16777215 ∧ 1 ≤ t ∧ t ≤ 65536 ∧ (k = 2 → n = 1) := by
  rw [alone_12 hk] at h0
  by_cases h1 : 1 ≤ s ∧ s ≤ 3
  · rw [if_pos h1] at h0
    by_cases h2 : 0 ≤ l ∧ l ≤ h ∧ h ≤ 256 ^ s.toNat - 1 ∧ 1 ≤ t ∧ t ≤ 65536
    · rw [if_pos h2] at h0
      have h3 : (256 : Int) ^ s.toNat ≤ 16777216 := by
        have : s = 1 ∨ s = 2 ∨ s = 3 := by omega
        rcases this with rfl | rfl | rfl <;> decide
      refine ⟨h1.1, h1.2, h2.1, h2.2.1, by omega, h2.2.2.2.1, h2.2.2.2.2, fun h => ?_⟩
      by_cases h4 : n = 1
      · exact h4
      · rw [if_pos ⟨h, h4⟩] at h0; omega
    · rw [if_neg h2] at h0; omega
  · rw [if_neg h1] at h0; omega
theorem alone_3 {s l h t : Int} {n : Nat} (h0 : Fo.alone 3 s l h t n = 0) : n ≤ 32 := by
  unfold Fo.alone at h0
  rw [if_neg (by omega), if_neg (by omega), if_neg (by omega), if_neg (by omega), if_pos rfl] at h0
  split at h0
  · assumption
  · omega
theorem alone_4 {s l h t : Int} {n : Nat} (h0 : Fo.alone 4 s l h t n = 0) : 0 ≤ l ∧ l ≤ h ∧ h ≤ 16777215 := by
  unfold Fo.alone at h0
  rw [if_neg (by omega), if_pos rfl] at h0
  split at h0
  · assumption
  · omega
theorem alone_5 {s l h t : Int} {n : Nat} (h0 : Fo.alone 5 s l h t n = 0) : 0 ≤ l ∧ l ≤ 16777215 := by
  unfold Fo.alone at h0
  rw [if_neg (by omega), if_neg (by omega), if_pos rfl] at h0
  split at h0
  · assumption
  · omega

theorem good_no {f : Fo} {xs : List UInt8} {E : Int} {m : Nat} (he : bd f xs = ⟨E, m, v0, 0⟩) (hE : E = 4 ∨ E = 5 ∨ E = 6) (hm : m ≤ xs.length) : Good f xs := by
  have hc := f.cnt_pos
  refine ⟨by rw [he]; exact hm, by rw [he]; rfl, fun h => ?_, fun _ => by rw [he], ?_, by rw [he]; exact .inr hE⟩
  · rw [he] at h; simp only at h; omega
  · rw [he]
    exact Nat.mul_pos hc (by omega)
theorem good_yes {f : Fo} {xs : List UInt8} {n : Nat} {v : Va} (he : bd f xs = ⟨0, n, v, 0⟩) (hn : n ≤ xs.length) (hv : v.nf = v) (hf : fit f v = ((n : Int), 0)) (hl : f.len false ≤ n) : Good f xs := by
  have hc := f.cnt_pos
  refine ⟨by rw [he]; exact hn, by rw [he]; exact hv, fun _ => by rw [he]; exact ⟨hf, hl⟩, fun h => ?_, ?_, by rw [he]; exact .inl rfl⟩
  · rw [he] at h; simp at h
  · rw [he]
    exact Nat.mul_pos hc (by omega)

theorem lonN (x : Int) : lonB (vN x) 0 = true := by simp [lonB, fil, vN, Va.bs, Va.ls]
theorem lonB1 (bs : List UInt8) : lonB (vB bs) 1 = true := by simp [lonB, fil, vB, Va.n, Va.ls]
theorem lonL (ls : List Va) : lonB (vL ls) 2 = true := by simp [lonB, fil, vL, Va.n, Va.bs]
theorem nfN (x : Int) : (vN x).nf = vN x := rfl
theorem nfB (bs : List UInt8) : (vB bs).nf = vB bs := rfl
theorem nfL {ls : List Va} (h : nfs ls = ls) : (vL ls).nf = vL ls := by rw [vL, nf, h]

theorem lnE_zero {s l h t : Int} {xs : List UInt8} (h0 : lnE s l h t xs = 0) : s ≤ xs.length ∧ l ≤ (lnN s xs : Int) ∧ (lnN s xs : Int) ≤ h ∧ (lnN s xs : Int) % t = 0 := by
  unfold lnE at h0
  split at h0
  · omega
  · split at h0
    · rename_i h1; exact ⟨by omega, h1⟩
    · omega
theorem lnE_en {s l h t : Int} {xs : List UInt8} (h0 : lnE s l h t xs ≠ 0) : lnE s l h t xs = 4 ∨ lnE s l h t xs = 5 ∨ lnE s l h t xs = 6 := by
  unfold lnE at *
  split
  · exact .inl rfl
  · rename_i h1
    rw [if_neg h1] at h0
    split
    · rename_i h2; rw [if_pos h2] at h0; exact absurd rfl h0
    · exact .inr (.inl rfl)
theorem lnA_le (s : Int) (xs : List UInt8) : lnA s xs ≤ xs.length := by
  unfold lnA; split <;> omega

theorem bd_0 (s l h t : Int) (A : Option Addr) (c : Nat) (ps : List Fo) (xs : List UInt8) : bd (.mk 0 s l h t A c ps) xs = rdN s xs := by simp [bd]
theorem bd_1 (s l h t : Int) (A : Option Addr) (c : Nat) (ps : List Fo) (xs : List UInt8) : bd (.mk 1 s l h t A c ps) xs = rdO s l h t xs := by simp [bd]
theorem bd_2 (s l h t : Int) (A : Option Addr) (c : Nat) (ps : List Fo) (xs : List UInt8) : bd (.mk 2 s l h t A c ps) xs = rdL s l h t (bds ps) xs := by simp [bd]
theorem bd_3 (s l h t : Int) (A : Option Addr) (c : Nat) (ps : List Fo) (xs : List UInt8) : bd (.mk 3 s l h t A c ps) xs = row (bds ps) [] 0 0 xs := by simp [bd]
theorem bd_4 (s l h t : Int) (A : Option Addr) (c : Nat) (ps : List Fo) (xs : List UInt8) : bd (.mk 4 s l h t A c ps) xs = rdR l h xs := by simp [bd]
theorem bd_5 (s l h t : Int) (A : Option Addr) (c : Nat) (ps : List Fo) (xs : List UInt8) : bd (.mk 5 s l h t A c ps) xs = rdT l.toNat xs := by simp [bd]

theorem bd_good (f : Fo) : f.wrg = 0 → f.dep ≤ 8 → ∀ xs : List UInt8, xs.length ≤ 1000000000000000 → Good f xs := by
  induction f using Fo.ind with
  | H k s l h t A c ps ih =>
  intro hw hd xs hx
  obtain ⟨ha, hq, hmis⟩ := wrg_zero hw
  rcases alone_kind ha with rfl | rfl | rfl | rfl | rfl | rfl
  · have hs := alone_0 ha
    have e := bd_0 s l h t A c ps xs
    unfold rdN at e
    by_cases h1 : (xs.length : Int) < s
    · rw [if_pos h1] at e
      exact good_no e (by omega) (Nat.le_refl _)
    · rw [if_neg h1] at e
      have hlen : (xs.take s.toNat).length = s.toNat := by rw [List.length_take]; omega
      have hlt := num_lt (xs.take s.toNat)
      rw [hlen] at hlt
      refine good_yes e (by omega) rfl ?_ ?_
      · rw [fit, show own 0 = 0 from rfl, lonN, if_neg (by simp), if_pos rfl, if_pos]
        · have : s = (s.toNat : Int) := by omega
          rw [← this]
        · show (num (xs.take s.toNat) : Int) < 256 ^ s.toNat
          have h3 := Int.ofNat_lt.2 hlt
          rw [Int.natCast_pow] at h3
          exact h3
      · rw [Fo.len, if_pos rfl]; omega
  · obtain ⟨s1, s3, l0, lh, hh, t1, t2, _⟩ := alone_1 (.inl rfl) ha
    have e := bd_1 s l h t A c ps xs
    unfold rdO at e
    by_cases h1 : lnE s l h t xs = 0
    · rw [if_pos h1] at e
      obtain ⟨b1, b2, b3, b4⟩ := lnE_zero h1
      have hd1 : (xs.drop s.toNat).length = xs.length - s.toNat := List.length_drop
      unfold rdT shift at e
      by_cases h2 : (xs.drop s.toNat).length < lnN s xs
      · rw [if_pos h2] at e
        dsimp only at e
        exact good_no e (by omega) (by omega)
      · rw [if_neg h2] at e
        dsimp only at e
        have hlen : ((xs.drop s.toNat).take (lnN s xs)).length = lnN s xs := by rw [List.length_take]; omega
        refine good_yes e (by omega) rfl ?_ ?_
        · rw [fit, show own 1 = 1 from rfl, lonB1, if_neg (by simp), if_neg (by omega), if_neg (by omega), if_neg (by omega), fitB, if_pos rfl]
          rw [show (vB ((xs.drop s.toNat).take (lnN s xs))).bs = (xs.drop s.toNat).take (lnN s xs) from rfl, hlen, wl, if_pos ⟨b2, b3, b4⟩, plus_nat (by omega) (by omega) (by omega)]
          congr 1
          omega
        · rw [Fo.len, if_neg (by omega), if_pos (by omega), if_neg (by simp), plus_nat (by omega) (by omega) (by omega)]
          push_cast
          omega
    · rw [if_neg h1] at e
      exact good_no e (lnE_en h1) (lnA_le s xs)
  · obtain ⟨s1, s3, l0, lh, hh, t1, t2, hn1⟩ := alone_1 (.inr rfl) ha
    obtain ⟨p, rfl⟩ := List.length_eq_one_iff.1 (hn1 rfl)
    have hin : Fo.inn (.mk 2 s l h t A c [p]) = [p] := by rw [Fo.inn, if_pos (by omega)]
    rw [hin] at hq
    have hdp : Fo.dep (.mk 2 s l h t A c [p]) = p.dep + 1 := by rw [Fo.dep, if_pos (by omega), Fo.deps, Fo.deps, Nat.max_zero]
    have hpw := hq p (by simp)
    have hpd : p.dep ≤ 8 := by omega
    have hpl := (right_len p hpw hpd).1
    have hne : p.len false ≠ 0 := by
      intro h0
      simp [Fo.mis, h0] at hmis
    have hcn : Fo.cnt (.mk 2 s l h t A c [p]) = p.cnt + 1 := by rw [Fo.cnt, if_pos (by omega), Fo.cnts, Fo.cnts, Nat.add_zero]
    have e := bd_2 s l h t A c [p] xs
    unfold rdL at e
    by_cases h1 : lnE s l h t xs = 0
    · rw [if_pos h1] at e
      obtain ⟨b1, b2, b3, b4⟩ := lnE_zero h1
      have hd1 : (xs.drop s.toNat).length = xs.length - s.toNat := List.length_drop
      by_cases h2 : (xs.drop s.toNat).length < lnN s xs
      · rw [if_pos h2] at e
        exact good_no e (by omega) (Nat.le_refl _)
      · rw [if_neg h2] at e
        have hlen : ((xs.drop s.toNat).take (lnN s xs)).length = lnN s xs := by rw [List.length_take]; omega
        have hone : one (bds [p]) = rd p := rfl
        rw [hone] at e
        obtain ⟨i1, i2, i3, i4⟩ := lst_good (p := p) (by omega) (lnN s xs) [] 0 0 ((xs.drop s.toNat).take (lnN s xs)) (by omega) (by omega) (fun zs hz => ih p (by simp) hpw hpd zs (by omega))
        rw [hlen] at i1 i2 i3
        generalize lst (rd p) (lnN s xs) [] 0 0 ((xs.drop s.toNat).take (lnN s xs)) = R at *
        have e1 : (bd (.mk 2 s l h t A c [p]) xs).e = R.e := by rw [e]; rfl
        have e2 : (bd (.mk 2 s l h t A c [p]) xs).n = s.toNat + R.n := by rw [e]; rfl
        have e3 : (bd (.mk 2 s l h t A c [p]) xs).v = R.v := by rw [e]; rfl
        have e4 : (bd (.mk 2 s l h t A c [p]) xs).c = R.c := by rw [e]; rfl
        have hmul : ∀ q, 1 ≤ q → lnN s xs + 1 ≤ q → R.c + 1 ≤ (p.cnt + 1) * max 1 q := by
          intro q q1 q2
          have : p.cnt * lnN s xs ≤ p.cnt * max 1 q := Nat.mul_le_mul_left _ (by omega)
          rw [Nat.add_mul]
          omega
        by_cases hE : R.e = 0
        · obtain ⟨ls, j1, j2, j3, j4⟩ := i1 hE
          clear i1 i2 i4
          refine ⟨by rw [e2]; omega, by rw [e3, j1]; exact nfL (by simpa using j2), fun _ => ?_, fun h => absurd (e1.trans hE) h, ?_, .inl (e1.trans hE)⟩
          · rw [e2, e3, j1, j3]
            constructor
            · rw [fit, show own 2 = 2 from rfl, lonL, if_neg (by simp), if_neg (by omega), if_pos rfl]
              rw [show (vL ([] ++ ls)).ls = ls from rfl, show each (fits [p]) ls = ls.map (fit p) from rfl, j4 0 (by omega) (by omega), behind, if_pos rfl, wl, if_pos]
              · rw [plus_nat (by omega) (by omega) (by omega)]
                congr 1
                omega
              · simp only [Int.zero_add]; exact ⟨b2, b3, b4⟩
            · rw [Fo.len, if_neg (by omega), if_pos (by omega), if_neg (by simp), plus_nat (by omega) (by omega) (by omega)]
              push_cast
              omega
          · rw [e1, e2, e4, hE, if_pos rfl, hcn]
            exact hmul _ (by omega) (by omega)
        · obtain ⟨j1, j2⟩ := i2 hE
          clear i1 i2
          refine ⟨by rw [e2]; omega, by rw [e3, j1]; rfl, fun h => absurd (e1.symm.trans h) hE, fun _ => by rw [e3, j1], ?_, by rw [e1]; exact i4⟩
          rw [e1, e4, if_neg hE, hcn]
          exact hmul _ (by omega) (by omega)
    · rw [if_neg h1] at e
      exact good_no e (lnE_en h1) (lnA_le s xs)
  · have hn := alone_3 ha
    have e := bd_3 s l h t A c ps xs
    have hin : Fo.inn (.mk 3 s l h t A c ps) = ps := by rw [Fo.inn, if_pos (by omega)]
    rw [hin] at hq
    have hdp : Fo.dep (.mk 3 s l h t A c ps) = Fo.deps ps + 1 := by rw [Fo.dep, if_pos (by omega)]
    have hdl : ∀ p ∈ ps, p.dep ≤ 7 := fun p hp => Nat.le_trans (Fo.deps_le.1 (Nat.le_refl _) p hp) (by omega)
    have hlen : ∀ p ∈ ps, 0 ≤ p.len false ∧ p.len false ≤ 36028797018963968 := by
      intro p hp
      obtain ⟨l1, l2⟩ := right_len p (hq p hp) (Nat.le_trans (hdl p hp) (by omega))
      have : (32 : Int) ^ (p.dep - 1) ≤ 32 ^ 6 := pow32_le (by have := hdl p hp; omega)
      have h6 : (32 : Int) ^ 6 = 1073741824 := by decide
      omega
    have hcn : Fo.cnt (.mk 3 s l h t A c ps) = Fo.cnts ps + 1 := by rw [Fo.cnt, if_pos (by omega)]
    obtain ⟨i1, i2, i4⟩ := row_good 36028797018963968 (by omega) ps [] 0 0 xs hx (fun p hp zs hz => ih p hp (hq p hp) (Nat.le_trans (hdl p hp) (by omega)) zs (by omega)) hlen
    generalize row (bds ps) [] 0 0 xs = R at *
    have e1 : (bd (.mk 3 s l h t A c ps) xs).e = R.e := by rw [e]
    have e2 : (bd (.mk 3 s l h t A c ps) xs).n = R.n := by rw [e]
    have e3 : (bd (.mk 3 s l h t A c ps) xs).v = R.v := by rw [e]
    have e4 : (bd (.mk 3 s l h t A c ps) xs).c = R.c := by rw [e]
    by_cases hE : R.e = 0
    · obtain ⟨ls, m, j1, j2, j3, j4, j5, j6, j7, j8⟩ := i1 hE
      clear i1 i2 i4
      refine ⟨by rw [e2]; omega, by rw [e3, j1]; exact nfL (by simpa using j2), fun _ => ?_, fun h => absurd (e1.trans hE) h, ?_, .inl (e1.trans hE)⟩
      · rw [e2, e3, j1, j4]
        constructor
        · rw [fit, show own 3 = 2 from rfl, lonL, if_neg (by simp), if_neg (by omega), if_neg (by omega), if_pos rfl]
          rw [show (vL ([] ++ ls)).ls = ls from rfl, if_pos j3, j6 0 (by omega) (by omega), Int.zero_add, Nat.zero_add]
        · have hmul : (ps.length : Int) * 36028797018963968 ≤ 32 * 36028797018963968 := Int.mul_le_mul_of_nonneg_right (by omega) (by omega)
          rw [Fo.len, if_neg (by omega), if_neg (by omega), if_pos rfl]
          have := j7 0 (by omega) (by omega)
          push_cast
          omega
      · rw [e1, e2, e4, hE, if_pos rfl, hcn, j4, Nat.zero_add, Nat.add_mul]
        omega
    · obtain ⟨j1, j2, j3⟩ := i2 hE
      clear i1 i2
      refine ⟨by rw [e2]; omega, by rw [e3, j1]; rfl, fun h => absurd (e1.symm.trans h) hE, fun _ => by rw [e3, j1], ?_, by rw [e1]; exact i4⟩
      rw [e1, e4, if_neg hE, hcn, Nat.add_mul]
      omega
  · obtain ⟨l0, lh, hh⟩ := alone_4 ha
    have e := bd_4 s l h t A c ps xs
    unfold rdR rdT at e
    by_cases h1 : (xs.length : Int) < l
    · rw [if_pos h1] at e
      exact good_no e (by omega) (Nat.le_refl _)
    · rw [if_neg h1] at e
      by_cases h2 : h < (xs.length : Int)
      · rw [if_pos h2] at e
        exact good_no e (by omega) (by omega)
      · rw [if_neg h2, if_neg (by omega), List.take_length] at e
        refine good_yes e (Nat.le_refl _) rfl ?_ ?_
        · rw [fit, show own 4 = 1 from rfl, lonB1, if_neg (by simp), if_neg (by omega), if_neg (by omega), if_neg (by omega), fitB, if_neg (by omega), if_pos rfl, if_pos]
          · rfl
          · show l ≤ (xs.length : Int) ∧ (xs.length : Int) ≤ h
            omega
        · rw [Fo.len, if_neg (by omega), if_neg (by omega), if_neg (by omega), if_pos rfl, if_neg (by simp)]
          omega
  · obtain ⟨l0, lh⟩ := alone_5 ha
    have e := bd_5 s l h t A c ps xs
    unfold rdT at e
    by_cases h1 : xs.length < l.toNat
    · rw [if_pos h1] at e
      exact good_no e (by omega) (Nat.le_refl _)
    · rw [if_neg h1] at e
      have hlen : (xs.take l.toNat).length = l.toNat := by rw [List.length_take]; omega
      refine good_yes e (by omega) rfl ?_ ?_
      · rw [fit, show own 5 = 1 from rfl, lonB1, if_neg (by simp), if_neg (by omega), if_neg (by omega), if_neg (by omega), fitB, if_neg (by omega), if_neg (by omega)]
        rw [show (vB (xs.take l.toNat)).bs = xs.take l.toNat from rfl, hlen, if_pos (by omega)]
      · rw [Fo.len, if_neg (by omega), if_neg (by omega), if_neg (by omega), if_neg (by omega)]
        omega
end Rd
end Go.Proofs.Ytibbeodcheefaaa


/- What stands behind plays no part, of a form that isn't open. -/
namespace Go.Proofs.Ytibbeodcheefaaa
open Go.RowKit
namespace Rd
open Va

theorem take_sub {xs ys : List UInt8} {n k : Nat} (h : ys.take n = xs.take n) (hk : k ≤ n) : ys.take k = xs.take k := by
  have := congrArg (List.take k) h
  rw [List.take_take, List.take_take, Nat.min_eq_left hk] at this
  exact this
theorem drop_take_sub {xs ys : List UInt8} {n s m : Nat} (h : ys.take n = xs.take n) (hk : s + m ≤ n) : (ys.drop s).take m = (xs.drop s).take m := by
  have h1 := take_sub h hk
  have := congrArg (List.drop s) h1
  rw [List.drop_take, List.drop_take, Nat.add_sub_cancel_left] at this
  exact this

theorem row_n_le : ∀ (gs : List (List UInt8 → Rd)) (acc : List Va) (o c : Nat) (ys : List UInt8), o ≤ (row gs acc o c ys).n
  | [], _, _, _, _ => Nat.le_refl _
  | g :: gs, acc, o, c, ys => by
    rw [row]
    split
    · exact Nat.le_trans (Nat.le_add_right _ _) (row_n_le gs _ _ _ _)
    · exact Nat.le_add_right _ _

theorem row_take (L : Nat) : ∀ (ps : List Fo) (acc : List Va) (o c : Nat) (xs ys : List UInt8) (n : Nat), (∀ p ∈ ps, ∀ xs ys : List UInt8, xs.length ≤ L → (bd p xs).e = 0 → (bd p xs).n ≤ ys.length → ys.take (bd p xs).n = xs.take (bd p xs).n → bd p ys = bd p xs) →
    xs.length ≤ L → (row (bds ps) acc o c xs).e = 0 → (row (bds ps) acc o c xs).n = o + n → n ≤ ys.length → ys.take n = xs.take n → row (bds ps) acc o c ys = row (bds ps) acc o c xs := by
  intro ps
  induction ps with
  | nil => intro acc o c xs ys n _ _ _ _ _ _; rfl
  | cons p ps ih =>
    intro acc o c xs ys n hp hx he hn hl ht
    have e : ∀ zs, row (bds (p :: ps)) acc o c zs = if (bd p zs).e = 0 then row (bds ps) (acc ++ [(bd p zs).v]) (o + (bd p zs).n) (c + ((bd p zs).c + 1)) (zs.drop (bd p zs).n) else ⟨(bd p zs).e, o + (bd p zs).n, v0, c + ((bd p zs).c + 1)⟩ := fun _ => rfl
    rw [e] at he hn
    rw [e, e]
    by_cases h0 : (bd p xs).e = 0
    · rw [if_pos h0] at he hn
      have hle := row_n_le (bds ps) (acc ++ [(bd p xs).v]) (o + (bd p xs).n) (c + ((bd p xs).c + 1)) (xs.drop (bd p xs).n)
      rw [hn] at hle
      have hk : (bd p xs).n ≤ n := by omega
      have hb := hp p (by simp) xs ys hx h0 (by omega) (take_sub ht hk)
      rw [hb, if_pos h0, if_pos h0]
      refine ih _ _ _ _ _ (n - (bd p xs).n) (fun q hq => hp q (by simp [hq])) (by rw [List.length_drop]; omega) he (by omega) (by rw [List.length_drop]; omega) (drop_take_sub ht (by omega))
    · rw [if_neg h0] at he
      exact absurd he h0

theorem bd_take (f : Fo) : f.wrg = 0 → f.dep ≤ 8 → f.opn = false → ∀ xs ys : List UInt8, xs.length ≤ 1000000000000000 → (bd f xs).e = 0 → (bd f xs).n ≤ ys.length → ys.take (bd f xs).n = xs.take (bd f xs).n → bd f ys = bd f xs := by
  induction f using Fo.ind with
  | H k s l h t A c ps ih =>
  intro hw hd ho xs ys hx he hl ht
  obtain ⟨ha, hq, hmis⟩ := wrg_zero hw
  rcases alone_kind ha with rfl | rfl | rfl | rfl | rfl | rfl
  · have hs := alone_0 ha
    rw [bd_0] at he hl ht ⊢
    rw [bd_0]
    unfold rdN at he hl ht ⊢
    by_cases h1 : (xs.length : Int) < s
    · rw [if_pos h1] at he; simp at he
    · rw [if_neg h1] at he hl ht ⊢
      dsimp only at he hl ht
      rw [if_neg (by omega), ht]
  · obtain ⟨s1, s3, l0, lh, hh, t1, t2, _⟩ := alone_1 (.inl rfl) ha
    rw [bd_1] at he hl ht ⊢
    rw [bd_1]
    unfold rdO at he hl ht ⊢
    by_cases h1 : lnE s l h t xs = 0
    · rw [if_pos h1] at he hl ht ⊢
      obtain ⟨b1, b2, b3, b4⟩ := lnE_zero h1
      unfold rdT shift at he hl ht ⊢
      by_cases h2 : (xs.drop s.toNat).length < lnN s xs
      · rw [if_pos h2] at he; simp at he
      · rw [if_neg h2] at he hl ht ⊢
        dsimp only at he hl ht ⊢
        have hN : lnN s ys = lnN s xs := by unfold lnN; rw [take_sub ht (by omega)]
        have hE : lnE s l h t ys = 0 := by unfold lnE; rw [hN, if_neg (by omega), if_pos ⟨b2, b3, b4⟩]
        rw [if_pos hE, hN, if_neg (by rw [List.length_drop]; omega), drop_take_sub ht (Nat.le_refl _)]
    · rw [if_neg h1] at he
      exact absurd he h1
  · obtain ⟨s1, s3, l0, lh, hh, t1, t2, hn1⟩ := alone_1 (.inr rfl) ha
    obtain ⟨p, rfl⟩ := List.length_eq_one_iff.1 (hn1 rfl)
    rw [bd_2] at he hl ht ⊢
    rw [bd_2]
    unfold rdL at he hl ht ⊢
    by_cases h1 : lnE s l h t xs = 0
    · rw [if_pos h1] at he hl ht ⊢
      obtain ⟨b1, b2, b3, b4⟩ := lnE_zero h1
      by_cases h2 : (xs.drop s.toNat).length < lnN s xs
      · rw [if_pos h2] at he; simp at he
      · rw [if_neg h2] at he hl ht ⊢
        have hd1 : (xs.drop s.toNat).length = xs.length - s.toNat := List.length_drop
        have hlen : ((xs.drop s.toNat).take (lnN s xs)).length = lnN s xs := by rw [List.length_take]; omega
        have hin : Fo.inn (.mk 2 s l h t A c [p]) = [p] := by rw [Fo.inn, if_pos (by omega)]
        rw [hin] at hq
        have hdp : Fo.dep (.mk 2 s l h t A c [p]) = p.dep + 1 := by rw [Fo.dep, if_pos (by omega), Fo.deps, Fo.deps, Nat.max_zero]
        have hpw := hq p (by simp)
        have hpd : p.dep ≤ 8 := by omega
        have hpl := (right_len p hpw hpd).1
        have hne : p.len false ≠ 0 := by
          intro h0
          simp [Fo.mis, h0] at hmis
        have hone : one (bds [p]) = rd p := rfl
        rw [hone] at he hl ht ⊢
        obtain ⟨i1, -, -, -⟩ := lst_good (p := p) (by omega) (lnN s xs) [] 0 0 ((xs.drop s.toNat).take (lnN s xs)) (by omega) (by omega) (fun zs hz => bd_good p hpw hpd zs (by omega))
        have e1 : ∀ R : Rd, (R.shift s.toNat).e = R.e := fun _ => rfl
        have e2 : ∀ R : Rd, (R.shift s.toNat).n = s.toNat + R.n := fun _ => rfl
        rw [e1] at he
        obtain ⟨_, _, _, hn, _⟩ := i1 he
        rw [e2, hn, hlen, Nat.zero_add] at hl ht
        have hN : lnN s ys = lnN s xs := by unfold lnN; rw [take_sub ht (by omega)]
        have hE : lnE s l h t ys = 0 := by unfold lnE; rw [hN, if_neg (by omega), if_pos ⟨b2, b3, b4⟩]
        rw [if_pos hE, hN, if_neg (by rw [List.length_drop]; omega), drop_take_sub ht (Nat.le_refl _)]
    · rw [if_neg h1] at he
      exact absurd he h1
  · have hin : Fo.inn (.mk 3 s l h t A c ps) = ps := by rw [Fo.inn, if_pos (by omega)]
    rw [hin] at hq
    have hop : ∀ p ∈ ps, p.opn = false := by
      intro p hp
      have hne : ps ≠ [] := fun e => by rw [e] at hp; simp at hp
      have hlast : (ps.getLast hne).opn = false := by
        have hpos : 0 < ps.length := List.length_pos_iff.2 hne
        rw [Fo.opn, if_pos ⟨rfl, hpos⟩, Fo.opnL_last ps hne] at ho
        exact ho
      rw [← List.dropLast_concat_getLast hne] at hp
      rcases List.mem_append.1 hp with h1 | h1
      · unfold Fo.mis at hmis
        rw [if_neg (by omega), if_pos rfl, List.any_eq_false] at hmis
        have := hmis p h1
        simpa using this
      · rw [List.mem_singleton] at h1
        rw [h1]; exact hlast
    have hdp : Fo.dep (.mk 3 s l h t A c ps) = Fo.deps ps + 1 := by rw [Fo.dep, if_pos (by omega)]
    have hdl : ∀ p ∈ ps, p.dep ≤ 8 := fun p hp => Nat.le_trans (Fo.deps_le.1 (Nat.le_refl _) p hp) (by omega)
    rw [bd_3] at he hl ht ⊢
    rw [bd_3]
    exact row_take 1000000000000000 ps [] 0 0 xs ys _ (fun p hp xs ys h0 h1 h2 h3 => ih p hp (hq p hp) (hdl p hp) (hop p hp) xs ys h0 h1 h2 h3) hx he (Nat.zero_add _).symm hl ht
  · simp [Fo.opn] at ho
  · obtain ⟨l0, lh⟩ := alone_5 ha
    rw [bd_5] at he hl ht ⊢
    rw [bd_5]
    unfold rdT at he hl ht ⊢
    by_cases h1 : xs.length < l.toNat
    · rw [if_pos h1] at he; simp at he
    · rw [if_neg h1] at he hl ht ⊢
      dsimp only at he hl ht
      rw [if_neg (by omega), ht]
end Rd
end Go.Proofs.Ytibbeodcheefaaa


/- The bytes of a number, the highest first. -/
namespace Go.Proofs.Ytibbeodcheefaaa
open Go.RowKit

/-- So many bytes of a number, the highest first. -/
def be : Nat → Nat → List UInt8
  | 0, _ => []
  | k + 1, x => be k (x / 256) ++ [UInt8.ofNat (x % 256)]
theorem be_length (k x : Nat) : (be k x).length = k := by
  induction k generalizing x with
  | zero => rfl
  | succ k ih => simp [be, ih]
theorem be_add (j k x : Nat) : be (j + k) x = be j (x / 256 ^ k) ++ be k x := by
  induction k generalizing x with
  | zero => simp [be]
  | succ k ih =>
    rw [← Nat.add_assoc, be, ih, be, List.append_assoc, Nat.div_div_eq_div_mul, Nat.pow_succ, Nat.mul_comm 256]
theorem be_one (x : Nat) : be 1 x = [UInt8.ofNat (x % 256)] := rfl
theorem be_more (j x : Nat) : be (j + 1) x = UInt8.ofNat (x / 256 ^ j % 256) :: be j x := by
  rw [Nat.add_comm j 1, be_add, be_one]; rfl
theorem be_last (k x : Nat) (hk : k ≤ 8) : (be 8 x).drop (8 - k) = be k x := by
  have h : be 8 x = be (8 - k) (x / 256 ^ k) ++ be k x := by rw [← be_add]; congr 1; omega
  rw [h, List.drop_left' (be_length _ _)]
theorem ofNat_mod (x : Nat) : (UInt8.ofNat (x % 256)).toNat = x % 256 := by simp
theorem num_be (k x : Nat) : num (be k x) = x % 256 ^ k := by
  induction k generalizing x with
  | zero => simp [be, num, Nat.mod_one]
  | succ k ih =>
    rw [be, num_snoc, ih, ofNat_mod, Nat.pow_succ, Nat.mul_comm (256 ^ k) 256, Nat.mod_mul]
    omega
theorem num_be_lt (k x : Nat) (h : x < 256 ^ k) : num (be k x) = x := by rw [num_be, Nat.mod_eq_of_lt h]
theorem be_num (xs : List UInt8) : be xs.length (num xs) = xs := by
  have key : ∀ l : List UInt8, be l.length (num l.reverse) = l.reverse := by
    intro l
    induction l with
    | nil => rfl
    | cons x l ih =>
      have hx := x.toNat_lt
      rw [List.length_cons, List.reverse_cons, num_snoc, be]
      have e1 : (num l.reverse * 256 + x.toNat) / 256 = num l.reverse := by omega
      have e2 : (num l.reverse * 256 + x.toNat) % 256 = x.toNat := by omega
      rw [e1, e2, ih]
      simp
  have := key xs.reverse
  simpa using this
/-- What stands in the array behind so many rounds. -/
def laidAt (j x : Nat) : List UInt8 := List.replicate (8 - j) 0 ++ be j x
theorem laidAt_length (j x : Nat) (h : j ≤ 8) : (laidAt j x).length = 8 := by simp [laidAt, be_length]; omega
theorem laidAt_all (x : Nat) : laidAt 8 x = be 8 x := by simp [laidAt]
theorem laidAt_set (j x : Nat) (h : j < 8) : (laidAt j x).set (7 - j) (UInt8.ofNat (x / 256 ^ j % 256)) = laidAt (j + 1) x := by
  unfold laidAt
  have e : 8 - j = (7 - j) + 1 := by omega
  have e2 : 8 - (j + 1) = 7 - j := by omega
  rw [e, List.replicate_succ', List.append_assoc, List.set_append_right _ _ (by simp), e2, be_more]
  simp

theorem ret_bool {a b : Bool} (h : a = b) : Ending.returned (.bool a) = .returned (.bool b) := by rw [h]

set_option maxHeartbeats 400000 in
theorem holds_any (w : World) (k x : Nat) (hk : sizeOk k) (hx : x < 18446744073709551616) :
    Calls Try.prog 84 #[.int .i64 k, .int .u64 x] w fun e w' => e = .returned (.bool (decide (x < 256 ^ k))) ∧ w = w' := by
  have hk' : k = 1 ∨ k = 2 ∨ k = 3 ∨ k = 4 ∨ k = 8 := by unfold sizeOk at hk; omega
  clear hk
  rcases hk' with rfl | rfl | rfl | rfl | rfl
  all_goals
    go_enter Try.func84, Try.ntmps84
    go_wp2
    go_ret
    refine ⟨ret_bool ?_, rfl⟩
    rw [Bool.eq_iff_iff]
    simp
    omega

set_option maxHeartbeats 400000 in
theorem bsize_yes (w : World) (k : Int) (hk : sizeOk k) : Calls Try.prog 83 #[.int .i64 k] w fun e w' => e = .returned (.bool true) ∧ w = w' := by
  rcases hk with rfl | rfl | rfl | rfl | rfl
  all_goals
    go_enter Try.func83, Try.ntmps83
    go_wp2
    go_ret
    exact ⟨rfl, rfl⟩

set_option maxHeartbeats 400000 in
theorem bsize_no (w : World) (k : Int) (hk : ¬ sizeOk k) : Calls Try.prog 83 #[.int .i64 k] w fun e w' => e = .returned (.bool false) ∧ w = w' := by
  unfold sizeOk at hk
  have h1 : (k == 1) = false := by simp; omega
  have h2 : (k == 2) = false := by simp; omega
  have h3 : (k == 3) = false := by simp; omega
  have h4 : (k == 4) = false := by simp; omega
  have h8 : (k == 8) = false := by simp; omega
  clear hk
  go_enter Try.func83, Try.ntmps83
  go_wp2
  go_ret
  exact ⟨rfl, rfl⟩

theorem be8 (x : Nat) : be 8 x = [UInt8.ofNat (x / 256 ^ 7 % 256), UInt8.ofNat (x / 256 ^ 6 % 256), UInt8.ofNat (x / 256 ^ 5 % 256), UInt8.ofNat (x / 256 ^ 4 % 256), UInt8.ofNat (x / 256 ^ 3 % 256), UInt8.ofNat (x / 256 ^ 2 % 256), UInt8.ofNat (x / 256 ^ 1 % 256), UInt8.ofNat (x / 256 ^ 0 % 256)] := by
  rw [be_more, be_more, be_more, be_more, be_more, be_more, be_more, be_more]; rfl

theorem laid_set (k x : Nat) (h : k < 8) : (cellsOf (laidAt k x)).toArray.setIfInBounds (7 - k) (.int .u8 ((x / 256 ^ k % 256 : Nat) : Int)) = (cellsOf (laidAt (k + 1) x)).toArray := by
  rw [← laidAt_set k x h]
  apply Array.ext'
  simp [cellsOf, List.map_set]
theorem laid_cell (k x : Nat) (h : k < 8) : (cellsOf (laidAt k x)).toArray[7 - k]? = some (.int .u8 (((laidAt k x).getD (7 - k) 0).toNat : Int)) := by
  have := cellsOf_at (laidAt k x) (7 - k) (by rw [laidAt_length _ _ (by omega)]; omega)
  simpa using this

set_option maxHeartbeats 2000000 in
theorem highest_any (w : World) (x : Nat) (hx : x < 18446744073709551616) :
    Calls Try.prog 85 #[.int .u64 x] w fun e w' => e = .returned (.agg (cellsOf (be 8 x)).toArray) ∧ Grew w w' none := by
  obtain ⟨b0, b1, b2, b3, b4, b5, b6, b7, he⟩ : ∃ b0 b1 b2 b3 b4 b5 b6 b7 : UInt8, be 8 x = [b0, b1, b2, b3, b4, b5, b6, b7] := ⟨_, _, _, _, _, _, _, _, be8 x⟩
  rw [he]
  have HE := Lib.hid he
  clear he
  simp only [cellsOf, List.map_cons, List.map_nil]
  have Hg0 := Lib.hid (grew_alloc (grew_alloc (grew_refl w none) (.cells #[.int .u8 0, .int .u8 0, .int .u8 0, .int .u8 0, .int .u8 0, .int .u8 0, .int .u8 0, .int .u8 0] 131)) (.cells #[.int .u8 0, .int .u8 0, .int .u8 0, .int .u8 0, .int .u8 0, .int .u8 0, .int .u8 0, .int .u8 0] 131))
  have Hw0 := Lib.hid ((Whole.new w #[.int .u8 0, .int .u8 0, .int .u8 0, .int .u8 0, .int .u8 0, .int .u8 0, .int .u8 0, .int .u8 0] 131).grew (grew_alloc (grew_refl _ none) (.cells #[.int .u8 0, .int .u8 0, .int .u8 0, .int .u8 0, .int .u8 0, .int .u8 0, .int .u8 0, .int .u8 0] 131)) (by simp))
  have hw1 := Whole.new (w.alloc (.cells #[.int .u8 0, .int .u8 0, .int .u8 0, .int .u8 0, .int .u8 0, .int .u8 0, .int .u8 0, .int .u8 0] 131)) #[.int .u8 0, .int .u8 0, .int .u8 0, .int .u8 0, .int .u8 0, .int .u8 0, .int .u8 0, .int .u8 0] 131
  rw [show (w.alloc (.cells #[.int .u8 0, .int .u8 0, .int .u8 0, .int .u8 0, .int .u8 0, .int .u8 0, .int .u8 0, .int .u8 0] 131)).heap.size = w.heap.size + 1 from by simp] at hw1
  have Hw1 := Lib.hid hw1
  clear hw1
  go_enter Try.func85, Try.ntmps85
  go_wp2
  generalize hW : (w.alloc (.cells #[.int .u8 0, .int .u8 0, .int .u8 0, .int .u8 0, .int .u8 0, .int .u8 0, .int .u8 0, .int .u8 0] 131)).alloc (.cells #[.int .u8 0, .int .u8 0, .int .u8 0, .int .u8 0, .int .u8 0, .int .u8 0, .int .u8 0, .int .u8 0] 131) = W at *
  clear hW
  generalize hq : w.heap.size = q at *
  have Hq := Lib.hid hq
  clear hq
  go_loopw [5] (fun j wr => ∃ k : Nat, k ≤ 8 ∧ j = .int .i64 k ∧ Hid (Whole wr (q + 1) (cellsOf (laidAt k x)).toArray 131) ∧ Hid (Whole wr q #[.int .u8 0, .int .u8 0, .int .u8 0, .int .u8 0, .int .u8 0, .int .u8 0, .int .u8 0, .int .u8 0] 131) ∧ Hid (Grew w wr none)) (fun j _ => 8 - (intOf j).toNat)
  case atStart => exact ⟨0, by omega, rfl, Hw1, Hw0, Hg0⟩
  case round =>
    obtain ⟨k, hk, rfl, R1, R2, R3⟩ := hrel
    by_cases hlt : k < 8
    · have hc := R1.out.cell (7 - k)
      rw [laid_cell k x hlt] at hc
      have hf := R1.out.frozen (7 - k)
      have HS := Lib.hid (laid_set k x hlt)
      have hk' : k = 0 ∨ k = 1 ∨ k = 2 ∨ k = 3 ∨ k = 4 ∨ k = 5 ∨ k = 6 ∨ k = 7 := by omega
      clear hk hlt
      generalize ((laidAt k x).getD (7 - k) 0).toNat = z at *
      have hg := fun u => Lib.hid (grew_own R3.out (grew_set (p := q + 1) (grew_refl wr _) (7 - k) none u) (by have := Hq.out; omega))
      have h2 := fun u => Lib.hid (R2.out.grew (grew_set (p := q + 1) (grew_refl wr _) (7 - k) none u) (by simp))
      have h1 := R1.out.set (7 - k) (.int .u8 ((x / 256 ^ k % 256 : Nat) : Int))
      rw [HS.out] at h1
      have H1 := Lib.hid h1
      have HG := Lib.hid hg
      have H2 := Lib.hid h2
      clear h1 hg h2
      rcases hk' with rfl | rfl | rfl | rfl | rfl | rfl | rfl | rfl
      all_goals
        simp only [Nat.sub_zero, Nat.reduceSub] at hc hf
        go_wp2
        go_roundw
        case rel =>
          refine ⟨_, ?_, rfl, ?_, by simpa using H2.out _, by simpa using HG.out _⟩
          · decide
          · have h := Lib.hid H1.out
            first
            | simpa using h
            | (rw [show ((x / 256 ^ 7 % 256 : Nat) : Int) = (x : Int) / 72057594037927936 from by omega] at h; simpa using h)
        case measure => simp [intOf]
    · obtain rfl : k = 8 := by omega
      have h1 := R1.out
      rw [laidAt_all, HE.out] at h1
      simp only [cellsOf, List.map_cons, List.map_nil] at h1
      have c0 := h1.cell 0
      have c1 := h1.cell 1
      have c2 := h1.cell 2
      have c3 := h1.cell 3
      have c4 := h1.cell 4
      have c5 := h1.cell 5
      have c6 := h1.cell 6
      have c7 := h1.cell 7
      have d0 := R2.out.cell 0
      have d1 := R2.out.cell 1
      have d2 := R2.out.cell 2
      have d3 := R2.out.cell 3
      have d4 := R2.out.cell 4
      have d5 := R2.out.cell 5
      have d6 := R2.out.cell 6
      have d7 := R2.out.cell 7
      have f0 := R2.out.frozen 0
      have f1 := R2.out.frozen 1
      have f2 := R2.out.frozen 2
      have f3 := R2.out.frozen 3
      have f4 := R2.out.frozen 4
      have f5 := R2.out.frozen 5
      have f6 := R2.out.frozen 6
      have f7 := R2.out.frozen 7
      simp at c0 c1 c2 c3 c4 c5 c6 c7 d0 d1 d2 d3 d4 d5 d6 d7
      clear h1
      go_wp2
      refine bodyPost_ret (v := .agg #[.int .u8 b0.toNat, .int .u8 b1.toNat, .int .u8 b2.toNat, .int .u8 b3.toNat, .int .u8 b4.toNat, .int .u8 b5.toNat, .int .u8 b6.toNat, .int .u8 b7.toNat]) (by simp [results, Try.results85, go_sem, d0, d1, d2, d3, d4, d5, d6, d7]) rfl ⟨rfl, ?_⟩
      refine grew_own R3.out (p := q) ?_ (by have := Hq.out; omega)
      exact grew_set (grew_set (grew_set (grew_set (grew_set (grew_set (grew_set (grew_set (grew_refl _ _) _ _ _) _ _ _) _ _ _) _ _ _) _ _ _) _ _ _) _ _ _) _ _ _

end Go.Proofs.Ytibbeodcheefaaa


/- What is written of a value by a form: its bytes; how many; read again; of what was read. -/
namespace Go.Proofs.Ytibbeodcheefaaa
open Go.RowKit
namespace Rd
open Va

/-- The bytes of values, each by the first form. -/
def eachB : List (Va → List UInt8) → List Va → List UInt8
  | [], _ => []
  | g :: _, vs => vs.flatMap g
/-- Each by its own. -/
def pairB : List (Va → List UInt8) → List Va → List UInt8
  | g :: gs, v :: vs => g v ++ pairB gs vs
  | _, _ => []
mutual
/-- The bytes of a value of a form. -/
def wr : Fo → Va → List UInt8
  | .mk k s _ _ _ _ _ ps => fun v => if k = 0 then be s.toNat v.n.toNat else if k = 1 then be s.toNat v.bs.length ++ v.bs
    else if k = 2 then be s.toNat (eachB (wrs ps) v.ls).length ++ eachB (wrs ps) v.ls else if k = 3 then pairB (wrs ps) v.ls else v.bs
def wrs : List Fo → List (Va → List UInt8)
  | [] => []
  | p :: ps => wr p :: wrs ps
end
theorem wrs_map (ps : List Fo) : wrs ps = ps.map wr := by
  induction ps with
  | nil => rfl
  | cons p ps ih => rw [wrs, ih]; rfl
theorem wr_0 (s l h t : Int) (A : Option Addr) (c : Nat) (ps : List Fo) (v : Va) : wr (.mk 0 s l h t A c ps) v = be s.toNat v.n.toNat := by simp [wr]
theorem wr_1 (s l h t : Int) (A : Option Addr) (c : Nat) (ps : List Fo) (v : Va) : wr (.mk 1 s l h t A c ps) v = be s.toNat v.bs.length ++ v.bs := by simp [wr]
theorem wr_2 (s l h t : Int) (A : Option Addr) (c : Nat) (ps : List Fo) (v : Va) : wr (.mk 2 s l h t A c ps) v = be s.toNat (eachB (wrs ps) v.ls).length ++ eachB (wrs ps) v.ls := by simp [wr]
theorem wr_3 (s l h t : Int) (A : Option Addr) (c : Nat) (ps : List Fo) (v : Va) : wr (.mk 3 s l h t A c ps) v = pairB (wrs ps) v.ls := by simp [wr]
theorem wr_4 (s l h t : Int) (A : Option Addr) (c : Nat) (ps : List Fo) (v : Va) : wr (.mk 4 s l h t A c ps) v = v.bs := by simp [wr]
theorem wr_5 (s l h t : Int) (A : Option Addr) (c : Nat) (ps : List Fo) (v : Va) : wr (.mk 5 s l h t A c ps) v = v.bs := by simp [wr]

theorem each_one (p : Fo) (ls : List Va) : eachB (wrs [p]) ls = ls.flatMap (wr p) := rfl
theorem pairB_nfs {ps : List Fo} : ∀ (ls : List Va), (∀ p ∈ ps, ∀ v, wr p (nf v) = wr p v) → pairB (wrs ps) (nfs ls) = pairB (wrs ps) ls := by
  induction ps with
  | nil => intro ls _; cases ls <;> rfl
  | cons p ps ih =>
    intro ls h
    cases ls with
    | nil => rfl
    | cons v ls => rw [nfs, wrs, pairB, pairB, h p (by simp), ih ls (fun q hq => h q (by simp [hq]))]
theorem flat_nfs {p : Fo} (h : ∀ v, wr p (nf v) = wr p v) : ∀ (ls : List Va), (nfs ls).flatMap (wr p) = ls.flatMap (wr p)
  | [] => rfl
  | v :: ls => by rw [nfs, List.flatMap_cons, List.flatMap_cons, h, flat_nfs h ls]
theorem eachB_nfs {ps : List Fo} (ls : List Va) (h : ∀ p ∈ ps, ∀ v, wr p (nf v) = wr p v) : eachB (wrs ps) (nfs ls) = eachB (wrs ps) ls := by
  cases ps with
  | nil => rfl
  | cons p ps => rw [wrs, eachB, eachB]; exact flat_nfs (h p (by simp)) ls
/-- Where it lies plays no part. -/
theorem wr_nf (f : Fo) : ∀ v, wr f (nf v) = wr f v := by
  induction f using Fo.ind with
  | H k s l h t A c ps ih =>
    intro v
    have h1 : (nf v).n = v.n := by cases v; rw [nf]; rfl
    have h2 : (nf v).bs = v.bs := by cases v; rw [nf]; rfl
    have h3 : (nf v).ls = nfs v.ls := by cases v; rw [nf]; rfl
    rw [wr]
    simp only [h1, h2, h3, pairB_nfs v.ls ih, eachB_nfs v.ls ih]

theorem lon0 {v : Va} (h : lonB v 0 = true) : v.bs = [] ∧ v.ls = [] := by
  simp [lonB, fil] at h
  exact h
theorem lon1 {v : Va} (h : lonB v 1 = true) : v.n = 0 ∧ v.ls = [] := by
  simp [lonB, fil] at h
  exact h
theorem lon2 {v : Va} (h : lonB v 2 = true) : v.n = 0 ∧ v.bs = [] := by
  simp [lonB, fil] at h
  exact h
theorem fit_lon {k s l h t : Int} {A : Option Addr} {c : Nat} {ps : List Fo} {v : Va} {n : Int} (hf : fit (.mk k s l h t A c ps) v = (n, 0)) : lonB v (own k) = true := by
  rw [fit] at hf
  by_cases h0 : lonB v (own k) = false
  · rw [if_pos h0] at hf; simp at hf
  · simpa using h0
theorem fit_0 {s l h t : Int} {A : Option Addr} {c : Nat} {ps : List Fo} {v : Va} {n : Int} (hf : fit (.mk 0 s l h t A c ps) v = (n, 0)) : v.bs = [] ∧ v.ls = [] ∧ v.n < 256 ^ s.toNat ∧ n = s := by
  have h1 := fit_lon hf
  rw [fit, h1, if_neg (by simp), if_pos rfl] at hf
  obtain ⟨a, b⟩ := lon0 h1
  split at hf
  · rename_i h2; simp at hf; exact ⟨a, b, h2, hf.symm⟩
  · simp at hf
theorem fit_1 {s l h t : Int} {A : Option Addr} {c : Nat} {ps : List Fo} {v : Va} {n : Int} (hf : fit (.mk 1 s l h t A c ps) v = (n, 0)) : v.n = 0 ∧ v.ls = [] ∧ l ≤ v.bs.length ∧ (v.bs.length : Int) ≤ h ∧ (v.bs.length : Int) % t = 0 ∧ n = Fo.plus s v.bs.length := by
  have h1 := fit_lon hf
  rw [fit, h1, if_neg (by simp), if_neg (by omega), if_neg (by omega), if_neg (by omega), fitB, if_pos rfl, wl] at hf
  obtain ⟨a, b⟩ := lon1 h1
  split at hf
  · rename_i h2; simp at hf; exact ⟨a, b, h2.1, h2.2.1, h2.2.2, hf.symm⟩
  · simp at hf
theorem fit_2 {s l h t : Int} {A : Option Addr} {c : Nat} {ps : List Fo} {v : Va} {n : Int} (hf : fit (.mk 2 s l h t A c ps) v = (n, 0)) : v.n = 0 ∧ v.bs = [] ∧ ∃ m, tot 0 (each (fits ps) v.ls) = (m, 0) ∧ l ≤ m ∧ m ≤ h ∧ m % t = 0 ∧ n = Fo.plus s m := by
  have h1 := fit_lon hf
  rw [fit, h1, if_neg (by simp), if_neg (by omega), if_pos rfl, behind] at hf
  obtain ⟨a, b⟩ := lon2 h1
  split at hf
  · rename_i h3
    rw [wl] at hf
    split at hf
    · rename_i h2; simp at hf; exact ⟨a, b, (tot 0 (each (fits ps) v.ls)).1, Prod.ext rfl h3, h2.1, h2.2.1, h2.2.2, hf.symm⟩
    · simp at hf
  · rename_i h3; simp at hf; exact absurd hf.2 h3
theorem fit_3 {s l h t : Int} {A : Option Addr} {c : Nat} {ps : List Fo} {v : Va} {n : Int} (hf : fit (.mk 3 s l h t A c ps) v = (n, 0)) : v.n = 0 ∧ v.bs = [] ∧ v.ls.length = ps.length ∧ tot 0 (pair (fits ps) v.ls) = (n, 0) := by
  have h1 := fit_lon hf
  rw [fit, h1, if_neg (by simp), if_neg (by omega), if_neg (by omega), if_pos rfl] at hf
  obtain ⟨a, b⟩ := lon2 h1
  split at hf
  · rename_i h2; exact ⟨a, b, h2, hf⟩
  · simp at hf
theorem fit_4 {s l h t : Int} {A : Option Addr} {c : Nat} {ps : List Fo} {v : Va} {n : Int} (hf : fit (.mk 4 s l h t A c ps) v = (n, 0)) : v.n = 0 ∧ v.ls = [] ∧ l ≤ v.bs.length ∧ (v.bs.length : Int) ≤ h ∧ n = v.bs.length := by
  have h1 := fit_lon hf
  rw [fit, h1, if_neg (by simp), if_neg (by omega), if_neg (by omega), if_neg (by omega), fitB, if_neg (by omega), if_pos rfl] at hf
  obtain ⟨a, b⟩ := lon1 h1
  split at hf
  · rename_i h2; simp at hf; exact ⟨a, b, h2.1, h2.2, hf.symm⟩
  · simp at hf
theorem fit_5 {s l h t : Int} {A : Option Addr} {c : Nat} {ps : List Fo} {v : Va} {n : Int} (hf : fit (.mk 5 s l h t A c ps) v = (n, 0)) : v.n = 0 ∧ v.ls = [] ∧ (v.bs.length : Int) = l ∧ n = v.bs.length := by
  have h1 := fit_lon hf
  rw [fit, h1, if_neg (by simp), if_neg (by omega), if_neg (by omega), if_neg (by omega), fitB, if_neg (by omega), if_neg (by omega)] at hf
  obtain ⟨a, b⟩ := lon1 h1
  split at hf
  · rename_i h2; simp at hf; exact ⟨a, b, h2, hf.symm⟩
  · simp at hf
theorem tot_cons {a : Int} {r : Int × Int} {rs : List (Int × Int)} {m : Int} (h : tot a (r :: rs) = (m, 0)) : ∃ n, r = (n, 0) ∧ tot (Fo.plus a n) rs = (m, 0) := by
  rw [tot] at h
  split at h
  · rename_i h1; exact ⟨r.1, Prod.ext rfl h1, h⟩
  · rename_i h1; simp at h; exact absurd h.2 h1
theorem cnt_eq (v : Va) : v.cnt = cnts v.ls + 1 := by cases v; rfl
theorem byt_eq (v : Va) : v.byt = v.bs.length + byts v.ls := by cases v; rfl

/-- How many bytes there are at most, however they are written. -/
def wide (v : Va) : Nat := v.byt + 8 * v.cnt
def wides (vs : List Va) : Nat := byts vs + 8 * cnts vs
theorem wides_cons (v : Va) (vs : List Va) : wides (v :: vs) = wide v + wides vs := by simp only [wides, wide, byts, cnts]; omega
theorem wide_eq (v : Va) : wide v = v.bs.length + 8 + wides v.ls := by rw [wide, cnt_eq, byt_eq, wides]; omega
theorem wide_mem {vs : List Va} {v : Va} (h : v ∈ vs) : wide v ≤ wides vs := by
  induction vs with
  | nil => simp at h
  | cons u vs ih =>
    rw [wides_cons]
    rcases List.mem_cons.1 h with rfl | h
    · omega
    · have := ih h; omega

theorem tot_mem {p : Fo} : ∀ (ls : List Va) (a m : Int), tot a (ls.map (fit p)) = (m, 0) → ∀ v ∈ ls, ∃ n, fit p v = (n, 0) := by
  intro ls
  induction ls with
  | nil => intro a m _ v hv; simp at hv
  | cons u ls ih =>
    intro a m h v hv
    obtain ⟨n, e, h⟩ := tot_cons (by simpa using h)
    rcases List.mem_cons.1 hv with rfl | hv
    · exact ⟨n, e⟩
    · exact ih _ m h v hv
theorem tot_pair : ∀ (ps : List Fo) (ls : List Va) (a m : Int), tot a (pair (fits ps) ls) = (m, 0) → ∀ (i : Nat) (p : Fo) (v : Va), ps[i]? = some p → ls[i]? = some v → ∃ n, fit p v = (n, 0) := by
  intro ps
  induction ps with
  | nil => intro ls a m _ i p v hp; simp at hp
  | cons q ps ih =>
    intro ls a m h i p v hp hv
    cases ls with
    | nil => simp at hv
    | cons u ls =>
      rw [fits, pair] at h
      obtain ⟨n, e, h⟩ := tot_cons h
      cases i with
      | zero => simp at hp hv; subst hp hv; exact ⟨n, e⟩
      | succ i => exact ih ls _ m h i p v (by simpa using hp) (by simpa using hv)

/-- A length is a size. -/
def Len (f : Fo) (v : Va) : Prop := ∀ n, fit f v = (n, 0) → (wr f v).length ≤ 1000000000000000 → n = (wr f v).length
theorem each_len {p : Fo} : ∀ (ls : List Va) (a m : Int), (∀ v ∈ ls, Len p v) → 0 ≤ a → a + (ls.flatMap (wr p)).length ≤ 1000000000000000 → tot a (ls.map (fit p)) = (m, 0) → m = a + (ls.flatMap (wr p)).length := by
  intro ls
  induction ls with
  | nil => intro a m _ _ _ h; simp [tot] at h; simp; omega
  | cons v ls ih =>
    intro a m hL h0 hw h
    obtain ⟨n, e, h⟩ := tot_cons (by simpa using h)
    rw [List.flatMap_cons, List.length_append] at hw ⊢
    push_cast at hw ⊢
    have e1 := hL v (by simp) n e (by omega)
    rw [plus_nat h0 (by omega) (by omega)] at h
    have i1 := ih (a + n) m (fun u hu => hL u (by simp [hu])) (by omega) (by omega) h
    omega
theorem pair_len : ∀ (ps : List Fo) (ls : List Va) (a m : Int), (∀ p ∈ ps, ∀ v, Len p v) → ls.length = ps.length → 0 ≤ a → a + (pairB (wrs ps) ls).length ≤ 1000000000000000 → tot a (pair (fits ps) ls) = (m, 0) → m = a + (pairB (wrs ps) ls).length := by
  intro ps
  induction ps with
  | nil =>
    intro ls a m _ hl _ _ h
    have : ls = [] := List.length_eq_zero_iff.1 (by simpa using hl)
    subst this
    simp [pair, fits, tot] at h
    simp [pairB, wrs]
    omega
  | cons p ps ih =>
    intro ls a m hL hl h0 hw h
    cases ls with
    | nil => simp at hl
    | cons v ls =>
      rw [fits, pair] at h
      obtain ⟨n, e, h⟩ := tot_cons h
      rw [wrs, pairB, List.length_append] at hw ⊢
      push_cast at hw ⊢
      have e1 := hL p (by simp) v n e (by omega)
      rw [plus_nat h0 (by omega) (by omega)] at h
      have i1 := ih ls (a + n) m (fun q hq => hL q (by simp [hq])) (by simpa using hl) (by omega) (by omega) h
      omega
/-- What is written has as many bytes as its size. -/
theorem wr_len (f : Fo) : f.wrg = 0 → ∀ v, Len f v := by
  induction f using Fo.ind with
  | H k s l h t A c ps ih =>
  intro hw v n hf hb
  obtain ⟨ha, hq, _⟩ := wrg_zero hw
  rcases alone_kind ha with rfl | rfl | rfl | rfl | rfl | rfl
  · have hs := alone_0 ha
    obtain ⟨_, _, _, e⟩ := fit_0 hf
    rw [wr_0, be_length]
    omega
  · obtain ⟨s1, s3, l0, lh, hh, t1, t2, _⟩ := alone_1 (.inl rfl) ha
    obtain ⟨_, _, _, _, _, e⟩ := fit_1 hf
    rw [wr_1, List.length_append, be_length] at hb ⊢
    rw [plus_nat (by omega) (by omega) (by omega)] at e
    push_cast
    omega
  · obtain ⟨s1, s3, l0, lh, hh, t1, t2, hn1⟩ := alone_1 (.inr rfl) ha
    obtain ⟨p, rfl⟩ := List.length_eq_one_iff.1 (hn1 rfl)
    have hin : Fo.inn (.mk 2 s l h t A c [p]) = [p] := by rw [Fo.inn, if_pos (by omega)]
    rw [hin] at hq
    obtain ⟨_, _, m, hm, b1, b2, b3, e⟩ := fit_2 hf
    rw [wr_2, each_one, List.length_append, be_length] at hb ⊢
    have i1 := each_len v.ls 0 m (fun u _ => ih p (by simp) (hq p (by simp)) u) (by omega) (by omega) hm
    rw [plus_nat (by omega) (by omega) (by omega)] at e
    push_cast
    omega
  · have hin : Fo.inn (.mk 3 s l h t A c ps) = ps := by rw [Fo.inn, if_pos (by omega)]
    rw [hin] at hq
    obtain ⟨_, _, hl, hm⟩ := fit_3 hf
    rw [wr_3] at hb ⊢
    have i1 := pair_len ps v.ls 0 n (fun p hp => ih p hp (hq p hp)) hl (by omega) (by omega) hm
    omega
  · obtain ⟨_, _, _, _, e⟩ := fit_4 hf
    rw [wr_4]
    exact e
  · obtain ⟨_, _, _, e⟩ := fit_5 hf
    rw [wr_5]
    exact e
theorem flat_wide {p : Fo} : ∀ (ls : List Va), (∀ v ∈ ls, (wr p v).length ≤ wide v) → (ls.flatMap (wr p)).length ≤ wides ls
  | [], _ => by simp
  | v :: ls, h => by
    have h1 := h v (by simp)
    have h2 := flat_wide ls (fun u hu => h u (by simp [hu]))
    rw [wides_cons, List.flatMap_cons, List.length_append]
    omega
theorem pairB_wide : ∀ (ps : List Fo) (ls : List Va), (∀ (i : Nat) (p : Fo) (v : Va), ps[i]? = some p → ls[i]? = some v → (wr p v).length ≤ wide v) → (pairB (wrs ps) ls).length ≤ wides ls
  | [], ls, _ => by cases ls <;> simp [pairB, wrs]
  | p :: ps, [], _ => by simp [pairB, wrs]
  | p :: ps, v :: ls, h => by
    have h1 := h 0 p v rfl rfl
    have h2 := pairB_wide ps ls (fun i q u hq hu => h (i + 1) q u (by simpa using hq) (by simpa using hu))
    rw [wides_cons, wrs, pairB, List.length_append]
    omega
/-- And no more than there are of each value and its bytes. -/
theorem wr_wide (f : Fo) : f.wrg = 0 → ∀ v n, fit f v = (n, 0) → (wr f v).length ≤ wide v := by
  induction f using Fo.ind with
  | H k s l h t A c ps ih =>
  intro hw v n hf
  obtain ⟨ha, hq, _⟩ := wrg_zero hw
  rw [wide_eq]
  rcases alone_kind ha with rfl | rfl | rfl | rfl | rfl | rfl
  · have hs := alone_0 ha
    rw [wr_0, be_length]
    omega
  · obtain ⟨s1, s3, _⟩ := alone_1 (.inl rfl) ha
    rw [wr_1, List.length_append, be_length]
    omega
  · obtain ⟨s1, s3, l0, lh, hh, t1, t2, hn1⟩ := alone_1 (.inr rfl) ha
    obtain ⟨p, rfl⟩ := List.length_eq_one_iff.1 (hn1 rfl)
    have hin : Fo.inn (.mk 2 s l h t A c [p]) = [p] := by rw [Fo.inn, if_pos (by omega)]
    rw [hin] at hq
    obtain ⟨_, _, m, hm, b1, b2, b3, e⟩ := fit_2 hf
    have i1 := flat_wide (p := p) v.ls (fun u hu => by
      obtain ⟨n', e'⟩ := tot_mem v.ls 0 m hm u hu
      exact ih p (by simp) (hq p (by simp)) u n' e')
    rw [wr_2, each_one, List.length_append, be_length]
    omega
  · have hin : Fo.inn (.mk 3 s l h t A c ps) = ps := by rw [Fo.inn, if_pos (by omega)]
    rw [hin] at hq
    obtain ⟨_, _, hl, hm⟩ := fit_3 hf
    have i1 := pairB_wide ps v.ls (fun i p u hp hu => by
      obtain ⟨n', e'⟩ := tot_pair ps v.ls 0 n hm i p u hp hu
      have hpm := List.mem_of_getElem? hp
      exact ih p hpm (hq p hpm) u n' e')
    rw [wr_3]
    omega
  · rw [wr_4]
    omega
  · rw [wr_5]
    omega

/-- The greatest length that is told. -/
theorem alone_h {k s l h t : Int} {n : Nat} (hk : k = 1 ∨ k = 2) (h0 : Fo.alone k s l h t n = 0) : h < 256 ^ s.toNat := by
  rw [alone_12 hk] at h0
  by_cases h1 : 1 ≤ s ∧ s ≤ 3
  · rw [if_pos h1] at h0
    by_cases h2 : 0 ≤ l ∧ l ≤ h ∧ h ≤ 256 ^ s.toNat - 1 ∧ 1 ≤ t ∧ t ≤ 65536
    · omega
    · rw [if_neg h2] at h0; omega
  · rw [if_neg h1] at h0; omega
theorem pow_nat {n : Nat} {h : Int} {s : Nat} (h1 : (n : Int) ≤ h) (h2 : h < 256 ^ s) : n < 256 ^ s := by
  have : ((256 ^ s : Nat) : Int) = 256 ^ s := by simp
  omega

theorem flat_mem {p : Fo} {ls : List Va} {u : Va} (h : u ∈ ls) : (wr p u).length ≤ (ls.flatMap (wr p)).length := by
  induction ls with
  | nil => simp at h
  | cons v ls ih =>
    rw [List.flatMap_cons, List.length_append]
    rcases List.mem_cons.1 h with rfl | h
    · omega
    · have := ih h; omega
theorem pairB_mem : ∀ (ps : List Fo) (ls : List Va) (i : Nat) (p : Fo) (u : Va), ps[i]? = some p → ls[i]? = some u → (wr p u).length ≤ (pairB (wrs ps) ls).length
  | [], _, _, _, _, h, _ => by simp at h
  | _ :: _, [], _, _, _, _, h => by simp at h
  | q :: ps, v :: ls, i, p, u, hp, hu => by
    rw [wrs, pairB, List.length_append]
    cases i with
    | zero => simp at hp hu; subst hp hu; omega
    | succ i => have := pairB_mem ps ls i p u (by simpa using hp) (by simpa using hu); omega
/-- It is read as it was, whatever stands behind it (nothing, if it is open). -/
def Back (f : Fo) (v : Va) : Prop := ∀ rest : List UInt8, (f.opn = true → rest = []) → (bd f (wr f v ++ rest)).e = 0 ∧ (bd f (wr f v ++ rest)).n = (wr f v).length ∧ (bd f (wr f v ++ rest)).v = nf v
theorem nf_eq (v : Va) : nf v = .mk v.n none 0 v.bs none 0 (nfs v.ls) := by cases v; rfl

theorem lst_wr {p : Fo} : ∀ (ls : List Va) (k : Nat) (acc : List Va) (o c : Nat), (ls.flatMap (wr p)).length ≤ k → p.opn = false → (∀ v ∈ ls, Back p v ∧ 1 ≤ (wr p v).length) →
    (lst (rd p) k acc o c (ls.flatMap (wr p))).e = 0 ∧ (lst (rd p) k acc o c (ls.flatMap (wr p))).n = o + (ls.flatMap (wr p)).length ∧ (lst (rd p) k acc o c (ls.flatMap (wr p))).v = vL (acc ++ nfs ls) := by
  intro ls
  induction ls with
  | nil =>
    intro k acc o c _ _ _
    cases k <;> simp [lst, nfs]
  | cons v ls ih =>
    intro k acc o c hk hp hv
    obtain ⟨h1, h2⟩ := hv v (by simp)
    obtain ⟨b1, b2, b3⟩ := h1 (ls.flatMap (wr p)) (fun h => by rw [hp] at h; cases h)
    rw [List.flatMap_cons] at hk ⊢
    rw [List.length_append] at hk ⊢
    cases k with
    | zero => omega
    | succ k =>
      have e1 : ∀ ys, (rd p ys).e = (bd p ys).e := fun _ => rfl
      have e2 : ∀ ys, (rd p ys).n = (bd p ys).n := fun _ => rfl
      have e3 : ∀ ys, (rd p ys).v = (bd p ys).v := fun _ => rfl
      rw [lst, if_neg (by rw [List.length_append]; omega), e1, e2, e3, if_pos b1, b2, b3, List.drop_left]
      obtain ⟨i1, i2, i3⟩ := ih k (acc ++ [nf v]) (o + (wr p v).length) (c + (rd p (wr p v ++ ls.flatMap (wr p))).c) (by omega) hp (fun u hu => hv u (by simp [hu]))
      refine ⟨i1, by rw [i2]; omega, by rw [i3, nfs, List.append_assoc]; rfl⟩
theorem row_wr : ∀ (ps : List Fo) (ls acc : List Va) (o c : Nat) (rest : List UInt8), ls.length = ps.length → (∀ p ∈ ps.dropLast, p.opn = false) → (Fo.opnL ps = true → rest = []) → (∀ (i : Nat) (p : Fo) (v : Va), ps[i]? = some p → ls[i]? = some v → Back p v) →
    (row (bds ps) acc o c (pairB (wrs ps) ls ++ rest)).e = 0 ∧ (row (bds ps) acc o c (pairB (wrs ps) ls ++ rest)).n = o + (pairB (wrs ps) ls).length ∧ (row (bds ps) acc o c (pairB (wrs ps) ls ++ rest)).v = vL (acc ++ nfs ls) := by
  intro ps
  induction ps with
  | nil =>
    intro ls acc o c rest hl _ _ _
    have : ls = [] := List.length_eq_zero_iff.1 (by simpa using hl)
    subst this
    simp [bds, row, pairB, wrs, nfs]
  | cons p ps ih =>
    intro ls acc o c rest hl hd ho hb
    cases ls with
    | nil => simp at hl
    | cons v ls =>
      have hl' : ls.length = ps.length := by simpa using hl
      have h1 := hb 0 p v rfl rfl
      have e : ∀ zs, row (bds (p :: ps)) acc o c zs = if (bd p zs).e = 0 then row (bds ps) (acc ++ [(bd p zs).v]) (o + (bd p zs).n) (c + ((bd p zs).c + 1)) (zs.drop (bd p zs).n) else ⟨(bd p zs).e, o + (bd p zs).n, v0, c + ((bd p zs).c + 1)⟩ := fun _ => rfl
      obtain ⟨b1, b2, b3⟩ := h1 (pairB (wrs ps) ls ++ rest) (fun h => by
        cases ps with
        | nil =>
          have : ls = [] := List.length_eq_zero_iff.1 (by simpa using hl')
          subst this
          rw [ho (by simpa [Fo.opnL] using h)]
          rfl
        | cons q qs =>
          rw [hd p (by simp)] at h
          cases h)
      rw [wrs, pairB, List.append_assoc, e, if_pos b1, b2, b3, List.drop_left, List.length_append]
      obtain ⟨i1, i2, i3⟩ := ih ls (acc ++ [nf v]) (o + (wr p v).length) (c + ((bd p (wr p v ++ (pairB (wrs ps) ls ++ rest))).c + 1)) rest hl' (fun q hq => by
          cases ps with
          | nil => simp at hq
          | cons r rs => exact hd q (by rw [List.dropLast_cons_of_ne_nil (by simp)]; simp [hq]))
        (fun h => by
          cases ps with
          | nil => simp [Fo.opnL] at h
          | cons q qs => exact ho (by rw [Fo.opnL, if_neg (by simp)]; exact h))
        (fun i q u hq hu => hb (i + 1) q u (by simpa using hq) (by simpa using hu))
      refine ⟨i1, by rw [i2]; omega, by rw [i3, nfs, List.append_assoc]; rfl⟩
/-- What is written is read as it was. -/
theorem bd_wr {w : World} (f : Fo) : f.wrg = 0 → f.dep ≤ 8 → ∀ v n, In w v → fit f v = (n, 0) → (wr f v).length ≤ 1000000000000000 → Back f v := by
  induction f using Fo.ind with
  | H k s l h t A c ps ih =>
  intro hw hd v n hi hf hb rest ho
  obtain ⟨ha, hq, hmis⟩ := wrg_zero hw
  rcases alone_kind ha with rfl | rfl | rfl | rfl | rfl | rfl
  · have hs := alone_0 ha
    obtain ⟨f1, f2, f3, e⟩ := fit_0 hf
    have hn := hi.num
    rw [bd_0, wr_0, nf_eq, f1, f2]
    have hl : (be s.toNat v.n.toNat).length = s.toNat := be_length _ _
    have hlt : v.n.toNat < 256 ^ s.toNat := pow_nat (h := v.n) (by omega) f3
    unfold rdN
    rw [if_neg (by rw [List.length_append, hl]; push_cast; omega), List.take_left' hl, num_be_lt _ _ hlt, hl]
    refine ⟨rfl, rfl, ?_⟩
    show vN ((v.n.toNat : Nat) : Int) = _
    rw [Int.toNat_of_nonneg hn.1]
    rfl
  · obtain ⟨s1, s3, l0, lh, hh, t1, t2, _⟩ := alone_1 (.inl rfl) ha
    have h256 := alone_h (.inl rfl) ha
    obtain ⟨f1, f2, f3, f4, f5, e⟩ := fit_1 hf
    rw [bd_1, wr_1, nf_eq, f1, f2, List.append_assoc]
    have hl : (be s.toNat v.bs.length).length = s.toNat := be_length _ _
    have htk : (be s.toNat v.bs.length ++ (v.bs ++ rest)).take s.toNat = be s.toNat v.bs.length := List.take_left' hl
    have hdr : (be s.toNat v.bs.length ++ (v.bs ++ rest)).drop s.toNat = v.bs ++ rest := List.drop_left' hl
    have hN : lnN s (be s.toNat v.bs.length ++ (v.bs ++ rest)) = v.bs.length := by
      unfold lnN
      rw [htk, num_be_lt _ _ (pow_nat f4 h256)]
    have hE : lnE s l h t (be s.toNat v.bs.length ++ (v.bs ++ rest)) = 0 := by
      unfold lnE
      rw [hN, if_neg (by rw [List.length_append, hl]; push_cast; omega), if_pos ⟨f3, f4, f5⟩]
    unfold rdO
    rw [if_pos hE, hN, hdr]
    unfold rdT shift
    rw [if_neg (by rw [List.length_append]; omega), List.take_left, List.length_append, hl]
    exact ⟨rfl, rfl, rfl⟩
  · obtain ⟨s1, s3, l0, lh, hh, t1, t2, hn1⟩ := alone_1 (.inr rfl) ha
    have h256 := alone_h (.inr rfl) ha
    obtain ⟨p, rfl⟩ := List.length_eq_one_iff.1 (hn1 rfl)
    have hin : Fo.inn (.mk 2 s l h t A c [p]) = [p] := by rw [Fo.inn, if_pos (by omega)]
    rw [hin] at hq
    have hdp : Fo.dep (.mk 2 s l h t A c [p]) = p.dep + 1 := by rw [Fo.dep, if_pos (by omega), Fo.deps, Fo.deps, Nat.max_zero]
    have hpw := hq p (by simp)
    have hpd : p.dep ≤ 8 := by omega
    have hpl := (right_len p hpw hpd).1
    have hne : p.len false ≠ 0 := by
      intro h0
      simp [Fo.mis, h0] at hmis
    have hpo : p.opn = false := by
      cases hx : p.opn with
      | false => rfl
      | true => simp [Fo.mis, hx] at hmis
    obtain ⟨f1, f2, m, hm, b1, b2, b3, e⟩ := fit_2 hf
    have hm' : tot 0 (v.ls.map (fit p)) = (m, 0) := hm
    rw [wr_2, each_one, List.length_append, be_length] at hb
    have i1 := each_len v.ls 0 m (fun u _ => wr_len p hpw u) (by omega) (by omega) hm'
    have hall : ∀ u ∈ v.ls, Back p u ∧ 1 ≤ (wr p u).length := by
      intro u hu
      obtain ⟨n', e'⟩ := tot_mem v.ls 0 m hm' u hu
      have hwu : (wr p u).length ≤ (v.ls.flatMap (wr p)).length := flat_mem hu
      have hB := ih p (by simp) hpw hpd u n' (hi.parts u hu) e' (by omega)
      refine ⟨hB, ?_⟩
      obtain ⟨c1, c2, c3⟩ := hB [] (fun _ => rfl)
      have hG := (bd_good p hpw hpd (wr p u ++ []) (by simp; omega)).ok c1
      rw [c2] at hG
      omega
    rw [bd_2, wr_2, each_one, nf_eq, f1, f2, List.append_assoc]
    generalize hZ : v.ls.flatMap (wr p) = Z at *
    have hl : (be s.toNat Z.length).length = s.toNat := be_length _ _
    have htk : (be s.toNat Z.length ++ (Z ++ rest)).take s.toNat = be s.toNat Z.length := List.take_left' hl
    have hdr : (be s.toNat Z.length ++ (Z ++ rest)).drop s.toNat = Z ++ rest := List.drop_left' hl
    have hN : lnN s (be s.toNat Z.length ++ (Z ++ rest)) = Z.length := by
      unfold lnN
      rw [htk, num_be_lt _ _ (pow_nat (h := h) (by omega) h256)]
    have hE : lnE s l h t (be s.toNat Z.length ++ (Z ++ rest)) = 0 := by
      unfold lnE
      rw [hN, if_neg (by rw [List.length_append, hl]; push_cast; omega), if_pos (by rw [i1, Int.zero_add] at b1 b2 b3; exact ⟨b1, b2, b3⟩)]
    unfold rdL
    rw [if_pos hE, hN, hdr, if_neg (by rw [List.length_append]; omega), List.take_left, show one (bds [p]) = rd p from rfl, ← hZ]
    obtain ⟨j1, j2, j3⟩ := lst_wr v.ls (v.ls.flatMap (wr p)).length [] 0 0 (Nat.le_refl _) hpo hall
    refine ⟨j1, ?_, ?_⟩
    · show s.toNat + _ = _
      rw [j2, List.length_append, be_length, Nat.zero_add]
    · exact j3
  · have hin : Fo.inn (.mk 3 s l h t A c ps) = ps := by rw [Fo.inn, if_pos (by omega)]
    rw [hin] at hq
    have hdp : Fo.dep (.mk 3 s l h t A c ps) = Fo.deps ps + 1 := by rw [Fo.dep, if_pos (by omega)]
    have hdl : ∀ p ∈ ps, p.dep ≤ 8 := fun p hp => Nat.le_trans (Fo.deps_le.1 (Nat.le_refl _) p hp) (by omega)
    obtain ⟨f1, f2, hl, hm⟩ := fit_3 hf
    rw [bd_3, wr_3, nf_eq, f1, f2]
    obtain ⟨j1, j2, j3⟩ := row_wr ps v.ls [] 0 0 rest hl (fun p hp => by
        unfold Fo.mis at hmis
        rw [if_neg (by omega), if_pos rfl, List.any_eq_false] at hmis
        simpa using hmis p hp)
      (fun h => ho (by
        rw [Fo.opn]
        split
        · exact h
        · rename_i h0
          cases ps with
          | nil => simp [Fo.opnL] at h
          | cons q qs => simp at h0))
      (fun i p u hp hu => by
        obtain ⟨n', e'⟩ := tot_pair ps v.ls 0 n hm i p u hp hu
        have hpm := List.mem_of_getElem? hp
        have hum := List.mem_of_getElem? hu
        have hwu : (wr p u).length ≤ (pairB (wrs ps) v.ls).length := pairB_mem ps v.ls i p u hp hu
        rw [wr_3] at hb
        exact ih p hpm (hq p hpm) (hdl p hpm) u n' (hi.parts u hum) e' (by omega))
    exact ⟨j1, by rw [j2, Nat.zero_add], j3⟩
  · obtain ⟨l0, lh, hh⟩ := alone_4 ha
    obtain ⟨f1, f2, f3, f4, e⟩ := fit_4 hf
    rw [ho (by simp [Fo.opn]), List.append_nil, bd_4, wr_4, nf_eq, f1, f2]
    unfold rdR rdT
    rw [if_neg (by omega), if_neg (by omega), if_neg (by omega), List.take_length]
    exact ⟨rfl, rfl, rfl⟩
  · obtain ⟨l0, lh⟩ := alone_5 ha
    obtain ⟨f1, f2, f3, e⟩ := fit_5 hf
    rw [bd_5, wr_5, nf_eq, f1, f2]
    have hl : l.toNat = v.bs.length := by omega
    unfold rdT
    rw [hl, if_neg (by rw [List.length_append]; omega), List.take_left]
    exact ⟨rfl, rfl, rfl⟩

theorem take_two (xs : List UInt8) (a b : Nat) : xs.take a ++ (xs.drop a).take b = xs.take (a + b) := by
  rw [List.take_add]
theorem lst_of {p : Fo} (hpos : 1 ≤ p.len false) : ∀ (k : Nat) (acc : List Va) (o c : Nat) (ys : List UInt8), ys.length ≤ k → ys.length ≤ 1000000000000000 → (∀ zs : List UInt8, zs.length ≤ ys.length → Good p zs ∧ ((bd p zs).e = 0 → wr p (bd p zs).v = zs.take (bd p zs).n)) →
    (lst (rd p) k acc o c ys).e = 0 → ∃ ls, (lst (rd p) k acc o c ys).v = vL (acc ++ ls) ∧ ls.flatMap (wr p) = ys := by
  intro k
  induction k with
  | zero =>
    intro acc o c ys hk _ _ _
    have : ys = [] := List.length_eq_zero_iff.1 (by omega)
    subst this
    exact ⟨[], by simp [lst], rfl⟩
  | succ k ih =>
    intro acc o c ys hk hL hg he
    by_cases h0 : ys.length = 0
    · have : ys = [] := List.length_eq_zero_iff.1 h0
      subst this
      exact ⟨[], by simp [lst], rfl⟩
    · obtain ⟨G, hw⟩ := hg ys (Nat.le_refl _)
      have e1 : (rd p ys).e = (bd p ys).e := rfl
      have e2 : (rd p ys).n = (bd p ys).n := rfl
      have e3 : (rd p ys).v = (bd p ys).v := rfl
      rw [lst, if_neg h0, e1, e2, e3] at he ⊢
      by_cases hE : (bd p ys).e = 0
      · rw [if_pos hE] at he ⊢
        have hN := (G.ok hE).2
        have hle := G.le
        have hd : (ys.drop (bd p ys).n).length = ys.length - (bd p ys).n := List.length_drop
        obtain ⟨ls, j1, j2⟩ := ih _ _ _ _ (by omega) (by omega) (fun zs hz => hg zs (by omega)) he
        refine ⟨(bd p ys).v :: ls, by rw [j1, List.append_assoc]; rfl, ?_⟩
        rw [List.flatMap_cons, j2, hw hE, List.take_append_drop]
      · rw [if_neg hE] at he
        exact absurd he hE
theorem row_of : ∀ (ps : List Fo) (acc : List Va) (o c : Nat) (ys : List UInt8), (∀ p ∈ ps, ∀ zs : List UInt8, zs.length ≤ ys.length → (bd p zs).e = 0 → wr p (bd p zs).v = zs.take (bd p zs).n) →
    (row (bds ps) acc o c ys).e = 0 → ∃ ls m, (row (bds ps) acc o c ys).v = vL (acc ++ ls) ∧ (row (bds ps) acc o c ys).n = o + m ∧ pairB (wrs ps) ls = ys.take m := by
  intro ps
  induction ps with
  | nil => intro acc o c ys _ _; exact ⟨[], 0, by simp [bds, row], by simp [bds, row], by simp [pairB, wrs]⟩
  | cons p ps ih =>
    intro acc o c ys hw he
    have e : ∀ zs, row (bds (p :: ps)) acc o c zs = if (bd p zs).e = 0 then row (bds ps) (acc ++ [(bd p zs).v]) (o + (bd p zs).n) (c + ((bd p zs).c + 1)) (zs.drop (bd p zs).n) else ⟨(bd p zs).e, o + (bd p zs).n, v0, c + ((bd p zs).c + 1)⟩ := fun _ => rfl
    rw [e] at he ⊢
    by_cases h0 : (bd p ys).e = 0
    · rw [if_pos h0] at he ⊢
      obtain ⟨ls, m, j1, j2, j3⟩ := ih _ _ _ _ (fun q hq zs hz => hw q (by simp [hq]) zs (by rw [List.length_drop] at hz; omega)) he
      refine ⟨(bd p ys).v :: ls, (bd p ys).n + m, by rw [j1, List.append_assoc]; rfl, by rw [j2]; omega, ?_⟩
      rw [wrs, pairB, j3, hw p (by simp) ys (Nat.le_refl _) h0, take_two]
    · rw [if_neg h0] at he
      exact absurd he h0
/-- What is read of bytes is written as those bytes. -/
theorem wr_bd (f : Fo) : f.wrg = 0 → f.dep ≤ 8 → ∀ xs : List UInt8, xs.length ≤ 1000000000000000 → (bd f xs).e = 0 → wr f (bd f xs).v = xs.take (bd f xs).n := by
  induction f using Fo.ind with
  | H k s l h t A c ps ih =>
  intro hw hd xs hx he
  obtain ⟨ha, hq, hmis⟩ := wrg_zero hw
  rcases alone_kind ha with rfl | rfl | rfl | rfl | rfl | rfl
  · have hs := alone_0 ha
    rw [bd_0] at he ⊢
    rw [wr_0]
    unfold rdN at he ⊢
    by_cases h1 : (xs.length : Int) < s
    · rw [if_pos h1] at he; simp at he
    · rw [if_neg h1]
      have hlen : (xs.take s.toNat).length = s.toNat := by rw [List.length_take]; omega
      show be s.toNat ((num (xs.take s.toNat) : Nat) : Int).toNat = xs.take s.toNat
      have := be_num (xs.take s.toNat)
      rw [hlen] at this
      rw [Int.toNat_natCast]
      exact this
  · obtain ⟨s1, s3, l0, lh, hh, t1, t2, _⟩ := alone_1 (.inl rfl) ha
    rw [bd_1] at he ⊢
    rw [wr_1]
    unfold rdO at he ⊢
    by_cases h1 : lnE s l h t xs = 0
    · rw [if_pos h1] at he ⊢
      obtain ⟨b1, b2, b3, b4⟩ := lnE_zero h1
      unfold rdT shift at he ⊢
      by_cases h2 : (xs.drop s.toNat).length < lnN s xs
      · rw [if_pos h2] at he; simp at he
      · rw [if_neg h2]
        have hd1 : (xs.drop s.toNat).length = xs.length - s.toNat := List.length_drop
        have hlen : ((xs.drop s.toNat).take (lnN s xs)).length = lnN s xs := by rw [List.length_take]; omega
        have hlt : (xs.take s.toNat).length = s.toNat := by rw [List.length_take]; omega
        show be s.toNat ((xs.drop s.toNat).take (lnN s xs)).length ++ (xs.drop s.toNat).take (lnN s xs) = xs.take (s.toNat + lnN s xs)
        rw [hlen, ← take_two]
        congr 1
        have := be_num (xs.take s.toNat)
        rw [hlt] at this
        exact this
    · rw [if_neg h1] at he
      exact absurd he h1
  · obtain ⟨s1, s3, l0, lh, hh, t1, t2, hn1⟩ := alone_1 (.inr rfl) ha
    obtain ⟨p, rfl⟩ := List.length_eq_one_iff.1 (hn1 rfl)
    have hin : Fo.inn (.mk 2 s l h t A c [p]) = [p] := by rw [Fo.inn, if_pos (by omega)]
    rw [hin] at hq
    have hdp : Fo.dep (.mk 2 s l h t A c [p]) = p.dep + 1 := by rw [Fo.dep, if_pos (by omega), Fo.deps, Fo.deps, Nat.max_zero]
    have hpw := hq p (by simp)
    have hpd : p.dep ≤ 8 := by omega
    have hpl := (right_len p hpw hpd).1
    have hne : p.len false ≠ 0 := by
      intro h0
      simp [Fo.mis, h0] at hmis
    rw [bd_2] at he ⊢
    rw [wr_2, each_one]
    unfold rdL at he ⊢
    by_cases h1 : lnE s l h t xs = 0
    · rw [if_pos h1] at he ⊢
      obtain ⟨b1, b2, b3, b4⟩ := lnE_zero h1
      by_cases h2 : (xs.drop s.toNat).length < lnN s xs
      · rw [if_pos h2] at he; simp at he
      · rw [if_neg h2] at he ⊢
        have hd1 : (xs.drop s.toNat).length = xs.length - s.toNat := List.length_drop
        have hlen : ((xs.drop s.toNat).take (lnN s xs)).length = lnN s xs := by rw [List.length_take]; omega
        have hlt : (xs.take s.toNat).length = s.toNat := by rw [List.length_take]; omega
        have hone : one (bds [p]) = rd p := rfl
        rw [hone] at he ⊢
        have e1 : ∀ R : Rd, (R.shift s.toNat).e = R.e := fun _ => rfl
        have e2 : ∀ R : Rd, (R.shift s.toNat).n = s.toNat + R.n := fun _ => rfl
        have e3 : ∀ R : Rd, (R.shift s.toNat).v = R.v := fun _ => rfl
        rw [e1] at he
        rw [e2, e3]
        obtain ⟨i1, -, -, -⟩ := lst_good (p := p) (by omega) (lnN s xs) [] 0 0 ((xs.drop s.toNat).take (lnN s xs)) (by omega) (by omega) (fun zs hz => bd_good p hpw hpd zs (by omega))
        obtain ⟨_, _, _, hn, _⟩ := i1 he
        obtain ⟨ls, j1, j2⟩ := lst_of (p := p) (by omega) (lnN s xs) [] 0 0 ((xs.drop s.toNat).take (lnN s xs)) (by omega) (by omega) (fun zs hz => ⟨bd_good p hpw hpd zs (by omega), ih p (by simp) hpw hpd zs (by omega)⟩) he
        rw [hn, j1, hlen, Nat.zero_add]
        show be s.toNat (ls.flatMap (wr p)).length ++ ls.flatMap (wr p) = _
        rw [j2, hlen, ← take_two]
        congr 1
        have := be_num (xs.take s.toNat)
        rw [hlt] at this
        exact this
    · rw [if_neg h1] at he
      exact absurd he h1
  · have hin : Fo.inn (.mk 3 s l h t A c ps) = ps := by rw [Fo.inn, if_pos (by omega)]
    rw [hin] at hq
    have hdp : Fo.dep (.mk 3 s l h t A c ps) = Fo.deps ps + 1 := by rw [Fo.dep, if_pos (by omega)]
    have hdl : ∀ p ∈ ps, p.dep ≤ 8 := fun p hp => Nat.le_trans (Fo.deps_le.1 (Nat.le_refl _) p hp) (by omega)
    rw [bd_3] at he ⊢
    rw [wr_3]
    obtain ⟨ls, m, j1, j2, j3⟩ := row_of ps [] 0 0 xs (fun p hp zs hz => ih p hp (hq p hp) (hdl p hp) zs (by omega)) he
    rw [j1, j2, Nat.zero_add]
    exact j3
  · obtain ⟨l0, lh, hh⟩ := alone_4 ha
    rw [bd_4] at he ⊢
    rw [wr_4]
    unfold rdR rdT at he ⊢
    by_cases h1 : (xs.length : Int) < l
    · rw [if_pos h1] at he; simp at he
    · rw [if_neg h1] at he ⊢
      by_cases h2 : h < (xs.length : Int)
      · rw [if_pos h2] at he; simp at he
      · rw [if_neg h2, if_neg (by omega)]
        rfl
  · rw [bd_5] at he ⊢
    rw [wr_5]
    unfold rdT at he ⊢
    by_cases h1 : xs.length < l.toNat
    · rw [if_pos h1] at he; simp at he
    · rw [if_neg h1]
      rfl
end Rd
end Go.Proofs.Ytibbeodcheefaaa


/- Contracts of the tally: New, Spend, Count, Left, whatever the numbers; of no tally. -/
namespace Go.Proofs.Ytibbeodcheefaaa
open Go.RowKit

/-- A tally: at most m, c counted. -/
structure Tal (w : World) (p : Nat) (m c : Int) : Prop where
  whole : Whole w p #[.int .i64 m, .int .i64 c] 147
  least : 0 ≤ c
  most : c ≤ m
  top : m ≤ 9223372036854775807

/-- What Spend answers; what is counted behind it. -/
def spE (m c n : Int) : Int := if n < 0 then 2 else if m - c < n then 12 else 0
def spC (m c n : Int) : Int := if n < 0 then c else if m - c < n then c else c + n
theorem spE_ok {m c n : Int} (h : 0 ≤ n) (k : n ≤ m - c) : spE m c n = 0 := by unfold spE; rw [if_neg (by omega), if_neg (by omega)]
theorem spC_ok {m c n : Int} (h : 0 ≤ n) (k : n ≤ m - c) : spC m c n = c + n := by unfold spC; rw [if_neg (by omega), if_neg (by omega)]
theorem spE_cap {m c n : Int} (h : 0 ≤ n) (k : m - c < n) : spE m c n = 12 := by unfold spE; rw [if_neg (by omega), if_pos k]
theorem spC_cap {m c n : Int} (h : 0 ≤ n) (k : m - c < n) : spC m c n = c := by unfold spC; rw [if_neg (by omega), if_pos k]
theorem spE_arg {m c n : Int} (h : n < 0) : spE m c n = 2 := by unfold spE; rw [if_pos h]
theorem spC_arg {m c n : Int} (h : n < 0) : spC m c n = c := by unfold spC; rw [if_pos h]
theorem spC_bd {m c : Int} (n : Int) (h : 0 ≤ c) (k : c ≤ m) : 0 ≤ spC m c n ∧ spC m c n ≤ m := by
  unfold spC
  split
  · exact ⟨h, k⟩
  · split
    · exact ⟨h, k⟩
    · omega

theorem Tal.fr {w w' : World} {F : Nat → Prop} {p : Nat} {m c : Int} (h : Tal w p m c) (g : Fr w w' F) (hr : ¬ F p) : Tal w' p m c := ⟨h.whole.fr g hr, h.least, h.most, h.top⟩
theorem Tal.grew {w w' : World} {row : Option Nat} {p : Nat} {m c : Int} (h : Tal w p m c) (g : Grew w w' row) (hr : some p ≠ row) : Tal w' p m c := ⟨h.whole.grew g hr, h.least, h.most, h.top⟩
theorem Tal.lt {w : World} {p : Nat} {m c : Int} (h : Tal w p m c) : p < w.heap.size := h.whole.lt
theorem Tal.drewN {w : World} {p : Nat} {m c : Int} (h : Tal w p m c) (n : Nat) : Tal (w.drewN n) p m c := h.grew (grew_drewN (grew_refl w none) n) (by simp)

/-- The atomic number's Load. -/
theorem load64 (w : World) (a : Addr) (x : Int) (hc : w.cell? a = some (.int .i64 x)) :
    Calls Try.prog 97 #[.pointer (some a)] w fun e w' => e = .returned (.int .i64 x) ∧ w = w' := by
  obtain ⟨b, o, s⟩ := a
  obtain rfl : s = none := World.cell?_spot hc
  have hl := run_call_load (P := Try.prog) Try.func111 (by kernel_rfl) (by kernel_rfl) (by kernel_rfl) .i64 (by kernel_rfl) hc
  go_enter Try.func97, Try.ntmps97
  go_wp2_with fail
  go_ret
  exact ⟨rfl, rfl⟩

/-- Its CompareAndSwap, where it hits. -/
theorem cas64 (w : World) (a : Addr) (x y : Int) (hc : w.cell? a = some (.int .i64 x)) (hz : w.frozen? a = false) :
    Calls Try.prog 98 #[.pointer (some a), .int .i64 x, .int .i64 y] w fun e w' => e = .returned (.bool true) ∧ w.setCell a (.int .i64 y) = w' := by
  obtain ⟨b, o, s⟩ := a
  obtain rfl : s = none := World.cell?_spot hc
  have hl := run_call_cas_hit (P := Try.prog) Try.func112 (by kernel_rfl) (by kernel_rfl) (by kernel_rfl) .i64 (by kernel_rfl) (y := y) hc hz
  go_enter Try.func98, Try.ntmps98
  go_wp2_with fail
  go_ret
  exact ⟨rfl, rfl⟩

theorem tspend_nil (w : World) (n : Int) :
    Calls Try.prog 77 #[.pointer none, .int .i64 n] w fun e w' => e = .returned (.int .i64 1) ∧ w = w' := by
  go_enter Try.func77, Try.ntmps77
  go_wp2_with fail
  go_ret
  exact ⟨rfl, rfl⟩
set_option maxHeartbeats 1000000 in
theorem tspend_any (w : World) (p : Nat) (m c : Int) (h : Tal w p m c) (n : Int) (hn : n ≤ 9223372036854775807) :
    Calls Try.prog 77 #[.pointer (some ⟨p, 0, none⟩), .int .i64 n] w fun e w' => e = .returned (.int .i64 (spE m c n)) ∧ Tal w' p m (spC m c n) ∧ Grew w w' (some p) := by
  have hc0 : w.cell? ⟨p, 0, none⟩ = some (.int .i64 m) := h.whole.cell 0
  have b1 : 0 ≤ c := h.least
  have b2 : c ≤ m := h.most
  have b3 : m ≤ 9223372036854775807 := h.top
  have HH := Lib.hid h
  clear h
  by_cases k0 : n < 0
  · rw [spE_arg k0, spC_arg k0]
    go_enter Try.func77, Try.ntmps77
    go_wp2_with fail
    go_ret
    exact ⟨rfl, HH.out, grew_refl _ _⟩
  · have k0' : 0 ≤ n := by omega
    by_cases k1 : m - c < n
    · rw [spE_cap k0' k1, spC_cap k0' k1]
      go_enter Try.func77, Try.ntmps77
      go_wp2_with fail
      go_loopw [4] (fun x wr => x = .int .i64 0 ∧ w = wr) (fun _ _ => 0)
      case atStart => exact ⟨rfl, rfl⟩
      case round =>
        obtain ⟨rfl, rfl⟩ := hrel
        go_wp2_with fail
        refine (load64 w ⟨p, 1, none⟩ c (HH.out.whole.cell 1)).mono ?_
        rintro e w1 ⟨rfl, rfl⟩
        go_wp2_with fail
        go_ret
        exact ⟨rfl, HH.out, grew_refl _ _⟩
    · rw [spE_ok k0' (by omega), spC_ok k0' (by omega)]
      have hs : c + n ≤ m := by omega
      go_enter Try.func77, Try.ntmps77
      go_wp2_with fail
      go_loopw [4] (fun x wr => x = .int .i64 0 ∧ w = wr) (fun _ _ => 0)
      case atStart => exact ⟨rfl, rfl⟩
      case round =>
        obtain ⟨rfl, rfl⟩ := hrel
        go_wp2_with fail
        refine (load64 w ⟨p, 1, none⟩ c (HH.out.whole.cell 1)).mono ?_
        rintro e w1 ⟨rfl, rfl⟩
        go_wp2_with fail
        refine (cas64 w ⟨p, 1, none⟩ c (c + n) (HH.out.whole.cell 1) (HH.out.whole.frozen 1)).mono ?_
        rintro e w1 ⟨rfl, rfl⟩
        go_wp2_with fail
        go_ret
        exact ⟨rfl, ⟨HH.out.whole.set 1 _, by omega, hs, b3⟩, grew_set (grew_refl _ _) _ _ _⟩

end Go.Proofs.Ytibbeodcheefaaa


/- Cursors told by what is ahead of them: their contracts. -/
namespace Go.Proofs.Ytibbeodcheefaaa
open Go.RowKit

/-- A cursor in block p: the bytes ys are ahead of it, in blocks below B; its place is a. -/
def Cr (w : World) (p B : Nat) (ys : List UInt8) (a : Int) : Prop :=
  B ≤ p ∧ 0 ≤ a ∧ a + ys.length ≤ 4611686018427387904 ∧ ∃ A c, Cur w p A ys.length c a ∧ ys.length ≤ c ∧ ys.length ≤ 140737488351232 ∧ Byt w B A ys

theorem Cr.lt {w : World} {p B : Nat} {ys : List UInt8} {a : Int} (h : Cr w p B ys a) : p < w.heap.size := by
  obtain ⟨_, _, _, A, c, h, _⟩ := h
  exact h.lt
theorem Cr.grew {w w' : World} {p B : Nat} {ys : List UInt8} {a : Int} {row : Option Nat} (h : Cr w p B ys a) (g : Grew w w' row) (h1 : some p ≠ row) (h2 : ∀ k, row = some k → B ≤ k) : Cr w' p B ys a := by
  obtain ⟨hB, h0, hm, A, c, h, hl, hc, hb⟩ := h
  exact ⟨hB, h0, hm, A, c, h.grew g h1, hl, hc, hb.grew g h2⟩
theorem Cr.drewN {w : World} {p B : Nat} {ys : List UInt8} {a : Int} (h : Cr w p B ys a) (n : Nat) : Cr (w.drewN n) p B ys a := h

theorem cr_new (w : World) (A : Option Addr) (c : Nat) (ys : List UInt8) (a : Int) (hl : ys.length ≤ c) (hc : ys.length ≤ 140737488351232) (B : Nat) (hb : Byt w B A ys) (hB : B ≤ w.heap.size) (h0 : 0 ≤ a) (hm : a + ys.length ≤ 4611686018427387904) :
    Calls Try.prog 39 #[.slice A ys.length c, .int .i64 a] w fun e w' => e = .returned (.pointer (some ⟨w.heap.size, 0, none⟩)) ∧ Cr w' w.heap.size B ys a ∧ Grew w w' none :=
  (new_any A ys.length c a w).mono fun _ _ ⟨he, h, g⟩ => ⟨he, ⟨hB, h0, hm, A, c, h, hl, hc, hb.grew g (fun _ h => by cases h)⟩, g⟩

theorem cr_at (w : World) (p B : Nat) (ys : List UInt8) (a : Int) (h : Cr w p B ys a) :
    Calls Try.prog 42 #[.pointer (some ⟨p, 0, none⟩)] w fun e w' => e = .returned (.int .i64 a) ∧ w = w' := by
  obtain ⟨_, _, _, A, c, h, _⟩ := h
  exact at_any w p A _ c a h
theorem cr_left (w : World) (p B : Nat) (ys : List UInt8) (a : Int) (h : Cr w p B ys a) :
    Calls Try.prog 41 #[.pointer (some ⟨p, 0, none⟩)] w fun e w' => e = .returned (.int .i64 ys.length) ∧ w = w' := by
  obtain ⟨_, _, _, A, c, h, _⟩ := h
  exact left_any w p A _ c a h
theorem cr_end (w : World) (p B : Nat) (ys : List UInt8) (a : Int) (h : Cr w p B ys a) :
    Calls Try.prog 93 #[.pointer (some ⟨p, 0, none⟩)] w fun e w' => e = .returned (.int .i64 (a + ys.length)) ∧ ∃ m, w' = w.drewN m := by
  obtain ⟨_, h0, hm, A, c, h, _⟩ := h
  exact end_any w p A _ c a h h0 (by omega)

theorem Cr.moved {w w' : World} {p B : Nat} {ys : List UInt8} {a : Int} {A : Option Addr} {c k : Nat} (hk : k ≤ ys.length) (hl : ys.length ≤ c) (hc : ys.length ≤ 140737488351232) (h : Cur w' p (cutAt A c k) (ys.length - k) (c - k) (a + k))
    (hb : Byt w B A ys) (g : Grew w w' (some p)) (hB : B ≤ p) (h0 : 0 ≤ a) (hm : a + ys.length ≤ 4611686018427387904) : Cr w' p B (ys.drop k) (a + k) := by
  refine ⟨hB, by omega, by rw [List.length_drop]; omega, cutAt A c k, c - k, by rw [List.length_drop]; exact h, by rw [List.length_drop]; omega, by rw [List.length_drop]; omega, (hb.grew g (fun q hq => by cases hq; exact hB)).drop hl⟩

theorem cr_take (w : World) (p B : Nat) (ys : List UInt8) (a : Int) (h : Cr w p B ys a) (k : Nat) (hk : k ≤ ys.length) :
    Calls Try.prog 110 #[.pointer (some ⟨p, 0, none⟩), .int .i64 k] w fun e w' => e = .returned (.tuple #[.slice (some ⟨w.heap.size, 0, none⟩) k k, .int .i64 0]) ∧ Cr w' p B (ys.drop k) (a + k) ∧
      Byt w' (w.heap.size + 1) (some ⟨w.heap.size, 0, none⟩) (ys.take k) ∧ Grew w w' (some p) ∧ w.heap.size < w'.heap.size := by
  obtain ⟨hB, h0, hm, A, c, h, hl, hc, hb⟩ := h
  refine (take_ok w p A _ c a h k hk hl h0 (by omega) (by omega) B ys hb rfl hB).mono ?_
  rintro e w' ⟨he, h', hb', g, hs⟩
  exact ⟨he, Cr.moved hk hl hc h' hb g hB h0 hm, hb', g, hs⟩
theorem cr_take_short (w : World) (p B : Nat) (ys : List UInt8) (a : Int) (h : Cr w p B ys a) (k : Int) (hk : (ys.length : Int) < k) :
    Calls Try.prog 110 #[.pointer (some ⟨p, 0, none⟩), .int .i64 k] w fun e w' => e = .returned (.tuple #[.slice none 0 0, .int .i64 4]) ∧ w = w' := by
  obtain ⟨_, _, _, A, c, h, _⟩ := h
  exact take_short w p A _ c a h k hk
theorem cr_sub (w : World) (p B : Nat) (ys : List UInt8) (a : Int) (h : Cr w p B ys a) (k : Nat) (hk : k ≤ ys.length) :
    Calls Try.prog 96 #[.pointer (some ⟨p, 0, none⟩), .int .i64 k] w fun e w' => e = .returned (.tuple #[.pointer (some ⟨w.heap.size, 0, none⟩), .int .i64 0]) ∧ Cr w' p B (ys.drop k) (a + k) ∧
      Cr w' w.heap.size B (ys.take k) a ∧ Grew w w' (some p) ∧ w.heap.size < w'.heap.size := by
  have hp := h.lt
  obtain ⟨hB, h0, hm, A, c, h, hl, hc, hb⟩ := h
  refine (sub_ok w p A _ c a h k hk hl h0 (by omega)).mono ?_
  rintro e w' ⟨he, h', h'', g, hs⟩
  have e1 : (ys.take k).length = k := by rw [List.length_take]; omega
  exact ⟨he, Cr.moved hk hl hc h' hb g hB h0 hm, ⟨by omega, h0, by rw [e1]; omega, A, c, by rw [e1]; exact h'', by rw [e1]; omega, by rw [e1]; omega, (hb.grew g (fun q hq => by cases hq; exact hB)).take k⟩, g, hs⟩
theorem cr_sub_short (w : World) (p B : Nat) (ys : List UInt8) (a : Int) (h : Cr w p B ys a) (k : Int) (hk : (ys.length : Int) < k) :
    Calls Try.prog 96 #[.pointer (some ⟨p, 0, none⟩), .int .i64 k] w fun e w' => e = .returned (.tuple #[.pointer none, .int .i64 4]) ∧ w = w' := by
  obtain ⟨_, _, _, A, c, h, _⟩ := h
  exact sub_short w p A _ c a h k hk
theorem cr_sub_arg (w : World) (p B : Nat) (ys : List UInt8) (a : Int) (h : Cr w p B ys a) (k : Int) (hk : k < 0) :
    Calls Try.prog 96 #[.pointer (some ⟨p, 0, none⟩), .int .i64 k] w fun e w' => e = .returned (.tuple #[.pointer none, .int .i64 2]) ∧ w = w' := by
  obtain ⟨_, _, _, A, c, h, _⟩ := h
  exact sub_arg w p A _ c a h k hk
theorem cr_number (w : World) (p B : Nat) (ys : List UInt8) (a : Int) (h : Cr w p B ys a) (k : Nat) (hs : sizeOk k) (hk : k ≤ ys.length) :
    Calls Try.prog 92 #[.pointer (some ⟨p, 0, none⟩), .int .i64 k] w fun e w' => e = .returned (.tuple #[.int .u64 (num (ys.take k)), .int .i64 0]) ∧ Cr w' p B (ys.drop k) (a + k) ∧
      Grew w w' (some p) ∧ w'.heap.size = w.heap.size := by
  obtain ⟨hB, h0, hm, A, c, h, hl, hc, hb⟩ := h
  refine (number_ok w p A _ c a h k hs hk hl h0 (by omega) B ys hb rfl hB).mono ?_
  rintro e w' ⟨he, h', g, hs⟩
  exact ⟨he, Cr.moved hk hl hc h' hb g hB h0 hm, g, hs⟩
theorem cr_number_short (w : World) (p B : Nat) (ys : List UInt8) (a : Int) (h : Cr w p B ys a) (k : Int) (hs : sizeOk k) (hk : (ys.length : Int) < k) :
    Calls Try.prog 92 #[.pointer (some ⟨p, 0, none⟩), .int .i64 k] w fun e w' => e = .returned (.tuple #[.int .u64 0, .int .i64 4]) ∧ w = w' := by
  obtain ⟨_, _, _, A, c, h, _⟩ := h
  exact number_short w p A _ c a h k hs hk

end Go.Proofs.Ytibbeodcheefaaa

