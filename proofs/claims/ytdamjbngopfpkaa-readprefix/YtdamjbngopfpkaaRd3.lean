/- What stands behind plays no part, of a form that isn't open. -/
import Derived.Test.YtdamjbngopfpkaaRd2
namespace Go.Proofs.Ytdamjbngopfpkaa
open Go.RowKit
namespace Rd
open Va

theorem take_sub {xs ys : List UInt8} {n k : Nat} (h : ys.take n = xs.take n) (hk : k ≤ n) : ys.take k = xs.take k := by
  have := congrArg (List.take k) h
  rw [List.take_take, List.take_take, Nat.min_eq_left hk] at this
  exact this
theorem drop_take_sub {xs ys : List UInt8} {n s m : Nat} (h : ys.take n = xs.take n) (hk : s + m ≤ n) : (ys.drop s).take m = (xs.drop s).take m := by
  have h1 := take_sub h hk
  have := congrArg (List.drop s) h1
  rw [List.drop_take, List.drop_take, Nat.add_sub_cancel_left] at this
  exact this

theorem row_n_le : ∀ (gs : List (List UInt8 → Rd)) (acc : List Va) (o c : Nat) (ys : List UInt8), o ≤ (row gs acc o c ys).n
  | [], _, _, _, _ => Nat.le_refl _
  | g :: gs, acc, o, c, ys => by
    rw [row]
    split
    · exact Nat.le_trans (Nat.le_add_right _ _) (row_n_le gs _ _ _ _)
    · exact Nat.le_add_right _ _

theorem row_take (L : Nat) : ∀ (ps : List Fo) (acc : List Va) (o c : Nat) (xs ys : List UInt8) (n : Nat), (∀ p ∈ ps, ∀ xs ys : List UInt8, xs.length ≤ L → (bd p xs).e = 0 → (bd p xs).n ≤ ys.length → ys.take (bd p xs).n = xs.take (bd p xs).n → bd p ys = bd p xs) →
    xs.length ≤ L → (row (bds ps) acc o c xs).e = 0 → (row (bds ps) acc o c xs).n = o + n → n ≤ ys.length → ys.take n = xs.take n → row (bds ps) acc o c ys = row (bds ps) acc o c xs := by
  intro ps
  induction ps with
  | nil => intro acc o c xs ys n _ _ _ _ _ _; rfl
  | cons p ps ih =>
    intro acc o c xs ys n hp hx he hn hl ht
    have e : ∀ zs, row (bds (p :: ps)) acc o c zs = if (bd p zs).e = 0 then row (bds ps) (acc ++ [(bd p zs).v]) (o + (bd p zs).n) (c + ((bd p zs).c + 1)) (zs.drop (bd p zs).n) else ⟨(bd p zs).e, o + (bd p zs).n, v0, c + ((bd p zs).c + 1)⟩ := fun _ => rfl
    rw [e] at he hn
    rw [e, e]
    by_cases h0 : (bd p xs).e = 0
    · rw [if_pos h0] at he hn
      have hle := row_n_le (bds ps) (acc ++ [(bd p xs).v]) (o + (bd p xs).n) (c + ((bd p xs).c + 1)) (xs.drop (bd p xs).n)
      rw [hn] at hle
      have hk : (bd p xs).n ≤ n := by omega
      have hb := hp p (by simp) xs ys hx h0 (by omega) (take_sub ht hk)
      rw [hb, if_pos h0, if_pos h0]
      refine ih _ _ _ _ _ (n - (bd p xs).n) (fun q hq => hp q (by simp [hq])) (by rw [List.length_drop]; omega) he (by omega) (by rw [List.length_drop]; omega) (drop_take_sub ht (by omega))
    · rw [if_neg h0] at he
      exact absurd he h0

theorem bd_take (f : Fo) : f.wrg = 0 → f.dep ≤ 8 → f.opn = false → ∀ xs ys : List UInt8, xs.length ≤ 1000000000000000 → (bd f xs).e = 0 → (bd f xs).n ≤ ys.length → ys.take (bd f xs).n = xs.take (bd f xs).n → bd f ys = bd f xs := by
  induction f using Fo.ind with
  | H k s l h t A c ps ih =>
  intro hw hd ho xs ys hx he hl ht
  obtain ⟨ha, hq, hmis⟩ := wrg_zero hw
  rcases alone_kind ha with rfl | rfl | rfl | rfl | rfl | rfl
  · have hs := alone_0 ha
    rw [bd_0] at he hl ht ⊢
    rw [bd_0]
    unfold rdN at he hl ht ⊢
    by_cases h1 : (xs.length : Int) < s
    · rw [if_pos h1] at he; simp at he
    · rw [if_neg h1] at he hl ht ⊢
      dsimp only at he hl ht
      rw [if_neg (by omega), ht]
  · obtain ⟨s1, s3, l0, lh, hh, t1, t2, _⟩ := alone_1 (.inl rfl) ha
    rw [bd_1] at he hl ht ⊢
    rw [bd_1]
    unfold rdO at he hl ht ⊢
    by_cases h1 : lnE s l h t xs = 0
    · rw [if_pos h1] at he hl ht ⊢
      obtain ⟨b1, b2, b3, b4⟩ := lnE_zero h1
      unfold rdT shift at he hl ht ⊢
      by_cases h2 : (xs.drop s.toNat).length < lnN s xs
      · rw [if_pos h2] at he; simp at he
      · rw [if_neg h2] at he hl ht ⊢
        dsimp only at he hl ht ⊢
        have hN : lnN s ys = lnN s xs := by unfold lnN; rw [take_sub ht (by omega)]
        have hE : lnE s l h t ys = 0 := by unfold lnE; rw [hN, if_neg (by omega), if_pos ⟨b2, b3, b4⟩]
        rw [if_pos hE, hN, if_neg (by rw [List.length_drop]; omega), drop_take_sub ht (Nat.le_refl _)]
    · rw [if_neg h1] at he
      exact absurd he h1
  · obtain ⟨s1, s3, l0, lh, hh, t1, t2, hn1⟩ := alone_1 (.inr rfl) ha
    obtain ⟨p, rfl⟩ := List.length_eq_one_iff.1 (hn1 rfl)
    rw [bd_2] at he hl ht ⊢
    rw [bd_2]
    unfold rdL at he hl ht ⊢
    by_cases h1 : lnE s l h t xs = 0
    · rw [if_pos h1] at he hl ht ⊢
      obtain ⟨b1, b2, b3, b4⟩ := lnE_zero h1
      by_cases h2 : (xs.drop s.toNat).length < lnN s xs
      · rw [if_pos h2] at he; simp at he
      · rw [if_neg h2] at he hl ht ⊢
        have hd1 : (xs.drop s.toNat).length = xs.length - s.toNat := List.length_drop
        have hlen : ((xs.drop s.toNat).take (lnN s xs)).length = lnN s xs := by rw [List.length_take]; omega
        have hin : Fo.inn (.mk 2 s l h t A c [p]) = [p] := by rw [Fo.inn, if_pos (by omega)]
        rw [hin] at hq
        have hdp : Fo.dep (.mk 2 s l h t A c [p]) = p.dep + 1 := by rw [Fo.dep, if_pos (by omega), Fo.deps, Fo.deps, Nat.max_zero]
        have hpw := hq p (by simp)
        have hpd : p.dep ≤ 8 := by omega
        have hpl := (right_len p hpw hpd).1
        have hne : p.len false ≠ 0 := by
          intro h0
          simp [Fo.mis, h0] at hmis
        have hone : one (bds [p]) = rd p := rfl
        rw [hone] at he hl ht ⊢
        obtain ⟨i1, -, -, -⟩ := lst_good (p := p) (by omega) (lnN s xs) [] 0 0 ((xs.drop s.toNat).take (lnN s xs)) (by omega) (by omega) (fun zs hz => bd_good p hpw hpd zs (by omega))
        have e1 : ∀ R : Rd, (R.shift s.toNat).e = R.e := fun _ => rfl
        have e2 : ∀ R : Rd, (R.shift s.toNat).n = s.toNat + R.n := fun _ => rfl
        rw [e1] at he
        obtain ⟨_, _, _, hn, _⟩ := i1 he
        rw [e2, hn, hlen, Nat.zero_add] at hl ht
        have hN : lnN s ys = lnN s xs := by unfold lnN; rw [take_sub ht (by omega)]
        have hE : lnE s l h t ys = 0 := by unfold lnE; rw [hN, if_neg (by omega), if_pos ⟨b2, b3, b4⟩]
        rw [if_pos hE, hN, if_neg (by rw [List.length_drop]; omega), drop_take_sub ht (Nat.le_refl _)]
    · rw [if_neg h1] at he
      exact absurd he h1
  · have hin : Fo.inn (.mk 3 s l h t A c ps) = ps := by rw [Fo.inn, if_pos (by omega)]
    rw [hin] at hq
    have hop : ∀ p ∈ ps, p.opn = false := by
      intro p hp
      have hne : ps ≠ [] := fun e => by rw [e] at hp; simp at hp
      have hlast : (ps.getLast hne).opn = false := by
        have hpos : 0 < ps.length := List.length_pos_iff.2 hne
        rw [Fo.opn, if_pos ⟨rfl, hpos⟩, Fo.opnL_last ps hne] at ho
        exact ho
      rw [← List.dropLast_concat_getLast hne] at hp
      rcases List.mem_append.1 hp with h1 | h1
      · unfold Fo.mis at hmis
        rw [if_neg (by omega), if_pos rfl, List.any_eq_false] at hmis
        have := hmis p h1
        simpa using this
      · rw [List.mem_singleton] at h1
        rw [h1]; exact hlast
    have hdp : Fo.dep (.mk 3 s l h t A c ps) = Fo.deps ps + 1 := by rw [Fo.dep, if_pos (by omega)]
    have hdl : ∀ p ∈ ps, p.dep ≤ 8 := fun p hp => Nat.le_trans (Fo.deps_le.1 (Nat.le_refl _) p hp) (by omega)
    rw [bd_3] at he hl ht ⊢
    rw [bd_3]
    exact row_take 1000000000000000 ps [] 0 0 xs ys _ (fun p hp xs ys h0 h1 h2 h3 => ih p hp (hq p hp) (hdl p hp) (hop p hp) xs ys h0 h1 h2 h3) hx he (Nat.zero_add _).symm hl ht
  · simp [Fo.opn] at ho
  · obtain ⟨l0, lh⟩ := alone_5 ha
    rw [bd_5] at he hl ht ⊢
    rw [bd_5]
    unfold rdT at he hl ht ⊢
    by_cases h1 : xs.length < l.toNat
    · rw [if_pos h1] at he; simp at he
    · rw [if_neg h1] at he hl ht ⊢
      dsimp only at he hl ht
      rw [if_neg (by omega), ht]
end Rd
end Go.Proofs.Ytdamjbngopfpkaa

