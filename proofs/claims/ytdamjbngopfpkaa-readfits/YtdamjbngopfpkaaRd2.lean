/- What is read by a right form: it fits, it has so many bytes; how many forms are begun; what stands behind plays no part; of no bytes. -/
import Derived.Test.YtdamjbngopfpkaaRd
import Derived.Test.YtdamjbngopfpkaaRp
namespace Go.Proofs.Ytdamjbngopfpkaa
open Go.RowKit
namespace Rd
open Va

theorem alone_0 {s l h t : Int} {n : Nat} (h0 : Fo.alone 0 s l h t n = 0) : s = 1 ∨ s = 2 ∨ s = 3 ∨ s = 4 ∨ s = 8 := by
  unfold Fo.alone at h0
  rw [if_pos rfl] at h0
  split at h0
  · assumption
  · omega
theorem alone_1 {k s l h t : Int} {n : Nat} (hk : k = 1 ∨ k = 2) (h0 : Fo.alone k s l h t n = 0) : 1 ≤ s ∧ s ≤ 3 ∧ 0 ≤ l ∧ l ≤ h ∧ h ≤ 16777215 ∧ 1 ≤ t ∧ t ≤ 65536 ∧ (k = 2 → n = 1) := by
  rw [alone_12 hk] at h0
  by_cases h1 : 1 ≤ s ∧ s ≤ 3
  · rw [if_pos h1] at h0
    by_cases h2 : 0 ≤ l ∧ l ≤ h ∧ h ≤ 256 ^ s.toNat - 1 ∧ 1 ≤ t ∧ t ≤ 65536
    · rw [if_pos h2] at h0
      have h3 : (256 : Int) ^ s.toNat ≤ 16777216 := by
        have : s = 1 ∨ s = 2 ∨ s = 3 := by omega
        rcases this with rfl | rfl | rfl <;> decide
      refine ⟨h1.1, h1.2, h2.1, h2.2.1, by omega, h2.2.2.2.1, h2.2.2.2.2, fun h => ?_⟩
      by_cases h4 : n = 1
      · exact h4
      · rw [if_pos ⟨h, h4⟩] at h0; omega
    · rw [if_neg h2] at h0; omega
  · rw [if_neg h1] at h0; omega
theorem alone_3 {s l h t : Int} {n : Nat} (h0 : Fo.alone 3 s l h t n = 0) : n ≤ 32 := by
  unfold Fo.alone at h0
  rw [if_neg (by omega), if_neg (by omega), if_neg (by omega), if_neg (by omega), if_pos rfl] at h0
  split at h0
  · assumption
  · omega
theorem alone_4 {s l h t : Int} {n : Nat} (h0 : Fo.alone 4 s l h t n = 0) : 0 ≤ l ∧ l ≤ h ∧ h ≤ 16777215 := by
  unfold Fo.alone at h0
  rw [if_neg (by omega), if_pos rfl] at h0
  split at h0
  · assumption
  · omega
theorem alone_5 {s l h t : Int} {n : Nat} (h0 : Fo.alone 5 s l h t n = 0) : 0 ≤ l ∧ l ≤ 16777215 := by
  unfold Fo.alone at h0
  rw [if_neg (by omega), if_neg (by omega), if_pos rfl] at h0
  split at h0
  · assumption
  · omega

theorem good_no {f : Fo} {xs : List UInt8} {E : Int} {m : Nat} (he : bd f xs = ⟨E, m, v0, 0⟩) (hE : E = 4 ∨ E = 5 ∨ E = 6) (hm : m ≤ xs.length) : Good f xs := by
  have hc := f.cnt_pos
  refine ⟨by rw [he]; exact hm, by rw [he]; rfl, fun h => ?_, fun _ => by rw [he], ?_, by rw [he]; exact .inr hE⟩
  · rw [he] at h; simp only at h; omega
  · rw [he]
    exact Nat.mul_pos hc (by omega)
theorem good_yes {f : Fo} {xs : List UInt8} {n : Nat} {v : Va} (he : bd f xs = ⟨0, n, v, 0⟩) (hn : n ≤ xs.length) (hv : v.nf = v) (hf : fit f v = ((n : Int), 0)) (hl : f.len false ≤ n) : Good f xs := by
  have hc := f.cnt_pos
  refine ⟨by rw [he]; exact hn, by rw [he]; exact hv, fun _ => by rw [he]; exact ⟨hf, hl⟩, fun h => ?_, ?_, by rw [he]; exact .inl rfl⟩
  · rw [he] at h; simp at h
  · rw [he]
    exact Nat.mul_pos hc (by omega)

theorem lonN (x : Int) : lonB (vN x) 0 = true := by simp [lonB, fil, vN, Va.bs, Va.ls]
theorem lonB1 (bs : List UInt8) : lonB (vB bs) 1 = true := by simp [lonB, fil, vB, Va.n, Va.ls]
theorem lonL (ls : List Va) : lonB (vL ls) 2 = true := by simp [lonB, fil, vL, Va.n, Va.bs]
theorem nfN (x : Int) : (vN x).nf = vN x := rfl
theorem nfB (bs : List UInt8) : (vB bs).nf = vB bs := rfl
theorem nfL {ls : List Va} (h : nfs ls = ls) : (vL ls).nf = vL ls := by rw [vL, nf, h]

theorem lnE_zero {s l h t : Int} {xs : List UInt8} (h0 : lnE s l h t xs = 0) : s ≤ xs.length ∧ l ≤ (lnN s xs : Int) ∧ (lnN s xs : Int) ≤ h ∧ (lnN s xs : Int) % t = 0 := by
  unfold lnE at h0
  split at h0
  · omega
  · split at h0
    · rename_i h1; exact ⟨by omega, h1⟩
    · omega
theorem lnE_en {s l h t : Int} {xs : List UInt8} (h0 : lnE s l h t xs ≠ 0) : lnE s l h t xs = 4 ∨ lnE s l h t xs = 5 ∨ lnE s l h t xs = 6 := by
  unfold lnE at *
  split
  · exact .inl rfl
  · rename_i h1
    rw [if_neg h1] at h0
    split
    · rename_i h2; rw [if_pos h2] at h0; exact absurd rfl h0
    · exact .inr (.inl rfl)
theorem lnA_le (s : Int) (xs : List UInt8) : lnA s xs ≤ xs.length := by
  unfold lnA; split <;> omega

theorem bd_0 (s l h t : Int) (A : Option Addr) (c : Nat) (ps : List Fo) (xs : List UInt8) : bd (.mk 0 s l h t A c ps) xs = rdN s xs := by simp [bd]
theorem bd_1 (s l h t : Int) (A : Option Addr) (c : Nat) (ps : List Fo) (xs : List UInt8) : bd (.mk 1 s l h t A c ps) xs = rdO s l h t xs := by simp [bd]
theorem bd_2 (s l h t : Int) (A : Option Addr) (c : Nat) (ps : List Fo) (xs : List UInt8) : bd (.mk 2 s l h t A c ps) xs = rdL s l h t (bds ps) xs := by simp [bd]
theorem bd_3 (s l h t : Int) (A : Option Addr) (c : Nat) (ps : List Fo) (xs : List UInt8) : bd (.mk 3 s l h t A c ps) xs = row (bds ps) [] 0 0 xs := by simp [bd]
theorem bd_4 (s l h t : Int) (A : Option Addr) (c : Nat) (ps : List Fo) (xs : List UInt8) : bd (.mk 4 s l h t A c ps) xs = rdR l h xs := by simp [bd]
theorem bd_5 (s l h t : Int) (A : Option Addr) (c : Nat) (ps : List Fo) (xs : List UInt8) : bd (.mk 5 s l h t A c ps) xs = rdT l.toNat xs := by simp [bd]

theorem bd_good (f : Fo) : f.wrg = 0 → f.dep ≤ 8 → ∀ xs : List UInt8, xs.length ≤ 1000000000000000 → Good f xs := by
  induction f using Fo.ind with
  | H k s l h t A c ps ih =>
  intro hw hd xs hx
  obtain ⟨ha, hq, hmis⟩ := wrg_zero hw
  rcases alone_kind ha with rfl | rfl | rfl | rfl | rfl | rfl
  · have hs := alone_0 ha
    have e := bd_0 s l h t A c ps xs
    unfold rdN at e
    by_cases h1 : (xs.length : Int) < s
    · rw [if_pos h1] at e
      exact good_no e (by omega) (Nat.le_refl _)
    · rw [if_neg h1] at e
      have hlen : (xs.take s.toNat).length = s.toNat := by rw [List.length_take]; omega
      have hlt := num_lt (xs.take s.toNat)
      rw [hlen] at hlt
      refine good_yes e (by omega) rfl ?_ ?_
      · rw [fit, show own 0 = 0 from rfl, lonN, if_neg (by simp), if_pos rfl, if_pos]
        · have : s = (s.toNat : Int) := by omega
          rw [← this]
        · show (num (xs.take s.toNat) : Int) < 256 ^ s.toNat
          have h3 := Int.ofNat_lt.2 hlt
          rw [Int.natCast_pow] at h3
          exact h3
      · rw [Fo.len, if_pos rfl]; omega
  · obtain ⟨s1, s3, l0, lh, hh, t1, t2, _⟩ := alone_1 (.inl rfl) ha
    have e := bd_1 s l h t A c ps xs
    unfold rdO at e
    by_cases h1 : lnE s l h t xs = 0
    · rw [if_pos h1] at e
      obtain ⟨b1, b2, b3, b4⟩ := lnE_zero h1
      have hd1 : (xs.drop s.toNat).length = xs.length - s.toNat := List.length_drop
      unfold rdT shift at e
      by_cases h2 : (xs.drop s.toNat).length < lnN s xs
      · rw [if_pos h2] at e
        dsimp only at e
        exact good_no e (by omega) (by omega)
      · rw [if_neg h2] at e
        dsimp only at e
        have hlen : ((xs.drop s.toNat).take (lnN s xs)).length = lnN s xs := by rw [List.length_take]; omega
        refine good_yes e (by omega) rfl ?_ ?_
        · rw [fit, show own 1 = 1 from rfl, lonB1, if_neg (by simp), if_neg (by omega), if_neg (by omega), if_neg (by omega), fitB, if_pos rfl]
          rw [show (vB ((xs.drop s.toNat).take (lnN s xs))).bs = (xs.drop s.toNat).take (lnN s xs) from rfl, hlen, wl, if_pos ⟨b2, b3, b4⟩, plus_nat (by omega) (by omega) (by omega)]
          congr 1
          omega
        · rw [Fo.len, if_neg (by omega), if_pos (by omega), if_neg (by simp), plus_nat (by omega) (by omega) (by omega)]
          push_cast
          omega
    · rw [if_neg h1] at e
      exact good_no e (lnE_en h1) (lnA_le s xs)
  · obtain ⟨s1, s3, l0, lh, hh, t1, t2, hn1⟩ := alone_1 (.inr rfl) ha
    obtain ⟨p, rfl⟩ := List.length_eq_one_iff.1 (hn1 rfl)
    have hin : Fo.inn (.mk 2 s l h t A c [p]) = [p] := by rw [Fo.inn, if_pos (by omega)]
    rw [hin] at hq
    have hdp : Fo.dep (.mk 2 s l h t A c [p]) = p.dep + 1 := by rw [Fo.dep, if_pos (by omega), Fo.deps, Fo.deps, Nat.max_zero]
    have hpw := hq p (by simp)
    have hpd : p.dep ≤ 8 := by omega
    have hpl := (right_len p hpw hpd).1
    have hne : p.len false ≠ 0 := by
      intro h0
      simp [Fo.mis, h0] at hmis
    have hcn : Fo.cnt (.mk 2 s l h t A c [p]) = p.cnt + 1 := by rw [Fo.cnt, if_pos (by omega), Fo.cnts, Fo.cnts, Nat.add_zero]
    have e := bd_2 s l h t A c [p] xs
    unfold rdL at e
    by_cases h1 : lnE s l h t xs = 0
    · rw [if_pos h1] at e
      obtain ⟨b1, b2, b3, b4⟩ := lnE_zero h1
      have hd1 : (xs.drop s.toNat).length = xs.length - s.toNat := List.length_drop
      by_cases h2 : (xs.drop s.toNat).length < lnN s xs
      · rw [if_pos h2] at e
        exact good_no e (by omega) (Nat.le_refl _)
      · rw [if_neg h2] at e
        have hlen : ((xs.drop s.toNat).take (lnN s xs)).length = lnN s xs := by rw [List.length_take]; omega
        have hone : one (bds [p]) = rd p := rfl
        rw [hone] at e
        obtain ⟨i1, i2, i3, i4⟩ := lst_good (p := p) (by omega) (lnN s xs) [] 0 0 ((xs.drop s.toNat).take (lnN s xs)) (by omega) (by omega) (fun zs hz => ih p (by simp) hpw hpd zs (by omega))
        rw [hlen] at i1 i2 i3
        generalize lst (rd p) (lnN s xs) [] 0 0 ((xs.drop s.toNat).take (lnN s xs)) = R at *
        have e1 : (bd (.mk 2 s l h t A c [p]) xs).e = R.e := by rw [e]; rfl
        have e2 : (bd (.mk 2 s l h t A c [p]) xs).n = s.toNat + R.n := by rw [e]; rfl
        have e3 : (bd (.mk 2 s l h t A c [p]) xs).v = R.v := by rw [e]; rfl
        have e4 : (bd (.mk 2 s l h t A c [p]) xs).c = R.c := by rw [e]; rfl
        have hmul : ∀ q, 1 ≤ q → lnN s xs + 1 ≤ q → R.c + 1 ≤ (p.cnt + 1) * max 1 q := by
          intro q q1 q2
          have : p.cnt * lnN s xs ≤ p.cnt * max 1 q := Nat.mul_le_mul_left _ (by omega)
          rw [Nat.add_mul]
          omega
        by_cases hE : R.e = 0
        · obtain ⟨ls, j1, j2, j3, j4⟩ := i1 hE
          clear i1 i2 i4
          refine ⟨by rw [e2]; omega, by rw [e3, j1]; exact nfL (by simpa using j2), fun _ => ?_, fun h => absurd (e1.trans hE) h, ?_, .inl (e1.trans hE)⟩
          · rw [e2, e3, j1, j3]
            constructor
            · rw [fit, show own 2 = 2 from rfl, lonL, if_neg (by simp), if_neg (by omega), if_pos rfl]
              rw [show (vL ([] ++ ls)).ls = ls from rfl, show each (fits [p]) ls = ls.map (fit p) from rfl, j4 0 (by omega) (by omega), behind, if_pos rfl, wl, if_pos]
              · rw [plus_nat (by omega) (by omega) (by omega)]
                congr 1
                omega
              · simp only [Int.zero_add]; exact ⟨b2, b3, b4⟩
            · rw [Fo.len, if_neg (by omega), if_pos (by omega), if_neg (by simp), plus_nat (by omega) (by omega) (by omega)]
              push_cast
              omega
          · rw [e1, e2, e4, hE, if_pos rfl, hcn]
            exact hmul _ (by omega) (by omega)
        · obtain ⟨j1, j2⟩ := i2 hE
          clear i1 i2
          refine ⟨by rw [e2]; omega, by rw [e3, j1]; rfl, fun h => absurd (e1.symm.trans h) hE, fun _ => by rw [e3, j1], ?_, by rw [e1]; exact i4⟩
          rw [e1, e4, if_neg hE, hcn]
          exact hmul _ (by omega) (by omega)
    · rw [if_neg h1] at e
      exact good_no e (lnE_en h1) (lnA_le s xs)
  · have hn := alone_3 ha
    have e := bd_3 s l h t A c ps xs
    have hin : Fo.inn (.mk 3 s l h t A c ps) = ps := by rw [Fo.inn, if_pos (by omega)]
    rw [hin] at hq
    have hdp : Fo.dep (.mk 3 s l h t A c ps) = Fo.deps ps + 1 := by rw [Fo.dep, if_pos (by omega)]
    have hdl : ∀ p ∈ ps, p.dep ≤ 7 := fun p hp => Nat.le_trans (Fo.deps_le.1 (Nat.le_refl _) p hp) (by omega)
    have hlen : ∀ p ∈ ps, 0 ≤ p.len false ∧ p.len false ≤ 36028797018963968 := by
      intro p hp
      obtain ⟨l1, l2⟩ := right_len p (hq p hp) (Nat.le_trans (hdl p hp) (by omega))
      have : (32 : Int) ^ (p.dep - 1) ≤ 32 ^ 6 := pow32_le (by have := hdl p hp; omega)
      have h6 : (32 : Int) ^ 6 = 1073741824 := by decide
      omega
    have hcn : Fo.cnt (.mk 3 s l h t A c ps) = Fo.cnts ps + 1 := by rw [Fo.cnt, if_pos (by omega)]
    obtain ⟨i1, i2, i4⟩ := row_good 36028797018963968 (by omega) ps [] 0 0 xs hx (fun p hp zs hz => ih p hp (hq p hp) (Nat.le_trans (hdl p hp) (by omega)) zs (by omega)) hlen
    generalize row (bds ps) [] 0 0 xs = R at *
    have e1 : (bd (.mk 3 s l h t A c ps) xs).e = R.e := by rw [e]
    have e2 : (bd (.mk 3 s l h t A c ps) xs).n = R.n := by rw [e]
    have e3 : (bd (.mk 3 s l h t A c ps) xs).v = R.v := by rw [e]
    have e4 : (bd (.mk 3 s l h t A c ps) xs).c = R.c := by rw [e]
    by_cases hE : R.e = 0
    · obtain ⟨ls, m, j1, j2, j3, j4, j5, j6, j7, j8⟩ := i1 hE
      clear i1 i2 i4
      refine ⟨by rw [e2]; omega, by rw [e3, j1]; exact nfL (by simpa using j2), fun _ => ?_, fun h => absurd (e1.trans hE) h, ?_, .inl (e1.trans hE)⟩
      · rw [e2, e3, j1, j4]
        constructor
        · rw [fit, show own 3 = 2 from rfl, lonL, if_neg (by simp), if_neg (by omega), if_neg (by omega), if_pos rfl]
          rw [show (vL ([] ++ ls)).ls = ls from rfl, if_pos j3, j6 0 (by omega) (by omega), Int.zero_add, Nat.zero_add]
        · have hmul : (ps.length : Int) * 36028797018963968 ≤ 32 * 36028797018963968 := Int.mul_le_mul_of_nonneg_right (by omega) (by omega)
          rw [Fo.len, if_neg (by omega), if_neg (by omega), if_pos rfl]
          have := j7 0 (by omega) (by omega)
          push_cast
          omega
      · rw [e1, e2, e4, hE, if_pos rfl, hcn, j4, Nat.zero_add, Nat.add_mul]
        omega
    · obtain ⟨j1, j2, j3⟩ := i2 hE
      clear i1 i2
      refine ⟨by rw [e2]; omega, by rw [e3, j1]; rfl, fun h => absurd (e1.symm.trans h) hE, fun _ => by rw [e3, j1], ?_, by rw [e1]; exact i4⟩
      rw [e1, e4, if_neg hE, hcn, Nat.add_mul]
      omega
  · obtain ⟨l0, lh, hh⟩ := alone_4 ha
    have e := bd_4 s l h t A c ps xs
    unfold rdR rdT at e
    by_cases h1 : (xs.length : Int) < l
    · rw [if_pos h1] at e
      exact good_no e (by omega) (Nat.le_refl _)
    · rw [if_neg h1] at e
      by_cases h2 : h < (xs.length : Int)
      · rw [if_pos h2] at e
        exact good_no e (by omega) (by omega)
      · rw [if_neg h2, if_neg (by omega), List.take_length] at e
        refine good_yes e (Nat.le_refl _) rfl ?_ ?_
        · rw [fit, show own 4 = 1 from rfl, lonB1, if_neg (by simp), if_neg (by omega), if_neg (by omega), if_neg (by omega), fitB, if_neg (by omega), if_pos rfl, if_pos]
          · rfl
          · show l ≤ (xs.length : Int) ∧ (xs.length : Int) ≤ h
            omega
        · rw [Fo.len, if_neg (by omega), if_neg (by omega), if_neg (by omega), if_pos rfl, if_neg (by simp)]
          omega
  · obtain ⟨l0, lh⟩ := alone_5 ha
    have e := bd_5 s l h t A c ps xs
    unfold rdT at e
    by_cases h1 : xs.length < l.toNat
    · rw [if_pos h1] at e
      exact good_no e (by omega) (Nat.le_refl _)
    · rw [if_neg h1] at e
      have hlen : (xs.take l.toNat).length = l.toNat := by rw [List.length_take]; omega
      refine good_yes e (by omega) rfl ?_ ?_
      · rw [fit, show own 5 = 1 from rfl, lonB1, if_neg (by simp), if_neg (by omega), if_neg (by omega), if_neg (by omega), fitB, if_neg (by omega), if_neg (by omega)]
        rw [show (vB (xs.take l.toNat)).bs = xs.take l.toNat from rfl, hlen, if_pos (by omega)]
      · rw [Fo.len, if_neg (by omega), if_neg (by omega), if_neg (by omega), if_neg (by omega)]
        omega
end Rd
end Go.Proofs.Ytdamjbngopfpkaa

