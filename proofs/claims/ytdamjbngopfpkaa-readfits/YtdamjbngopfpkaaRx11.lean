/- Reading: any right form. -/
import Derived.Test.YtdamjbngopfpkaaRx4
import Derived.Test.YtdamjbngopfpkaaRx6
import Derived.Test.YtdamjbngopfpkaaRx8
import Derived.Test.YtdamjbngopfpkaaRx9
import Derived.Test.YtdamjbngopfpkaaRx10
import Derived.Test.YtdamjbngopfpkaaRd2
namespace Go.Proofs.Ytdamjbngopfpkaa
open Go.RowKit Va

theorem enter_rnumber : ∀ args w, (callFunc 44 args).run Try.prog w = .ok (.enter 44 args) w := fun _ _ => by kernel_rfl
theorem enter_ropaque : ∀ args w, (callFunc 45 args).run Try.prog w = .ok (.enter 45 args) w := fun _ _ => by kernel_rfl
theorem enter_rlist : ∀ args w, (callFunc 46 args).run Try.prog w = .ok (.enter 46 args) w := fun _ _ => by kernel_rfl
theorem enter_rrow : ∀ args w, (callFunc 47 args).run Try.prog w = .ok (.enter 47 args) w := fun _ _ => by kernel_rfl
theorem enter_rrest : ∀ args w, (callFunc 48 args).run Try.prog w = .ok (.enter 48 args) w := fun _ _ => by kernel_rfl
theorem enter_rfixed : ∀ args w, (callFunc 49 args).run Try.prog w = .ok (.enter 49 args) w := fun _ _ => by kernel_rfl

/-- A right form is read. -/
theorem reads_any (w0 : World) (r : Nat) (t : Option Nat) (f : Fo) : f.wrg = 0 → f.dep ≤ 8 → f.In w0 → Reads w0 r t f := by
  induction f using Fo.ind with
  | H k s l h tt A c ps ih =>
  intro hw hd hin
  obtain ⟨ha, hq, hmis⟩ := wrg_zero hw
  rcases alone_kind ha with rfl | rfl | rfl | rfl | rfl | rfl
  · have hs := Rd.alone_0 ha
    refine rform_any w0 r t _ 0 rfl (by omega) 44 rfl enter_rnumber ?_
    intro w p m c0 xs a hpre _
    rw [Rd.bd_0]
    exact (rnumber_any w _ p _ xs a hpre.cr 0 s l h tt A ps.length c hs).mono (fun e w' H => H.got hpre (by unfold Rd.rdN; split <;> rfl))
  · obtain ⟨s1, s3, l0, lh, hh, t1, t2, _⟩ := Rd.alone_1 (.inl rfl) ha
    refine rform_any w0 r t _ 1 rfl (by omega) 45 rfl enter_ropaque ?_
    intro w p m c0 xs a hpre _
    rw [Rd.bd_1]
    exact (ropaque_any w _ p _ xs a hpre.cr 1 s l h tt A ps.length c s1 s3 t1).mono (fun e w' H => H.got hpre (by unfold Rd.rdO Rd.rdT Rd.shift; split <;> (try split) <;> rfl))
  · obtain ⟨s1, s3, l0, lh, hh, t1, t2, hn1⟩ := Rd.alone_1 (.inr rfl) ha
    obtain ⟨f, rfl⟩ := List.length_eq_one_iff.1 (hn1 rfl)
    have hinn : Fo.inn (.mk 2 s l h tt A c [f]) = [f] := by rw [Fo.inn, if_pos (by omega)]
    rw [hinn] at hq
    have hdp : Fo.dep (.mk 2 s l h tt A c [f]) = f.dep + 1 := by rw [Fo.dep, if_pos (by omega), Fo.deps, Fo.deps, Nat.max_zero]
    have hpw := hq f (by simp)
    have hpd : f.dep ≤ 8 := by omega
    have hpl := (right_len f hpw hpd).1
    have hne : f.len false ≠ 0 := by
      intro h0
      simp [Fo.mis, h0] at hmis
    have hR := ih f (by simp) hpw hpd (hin.parts f (by simp [Fo.ps]))
    refine rform_any w0 r t _ 2 rfl (by omega) 46 rfl enter_rlist ?_
    intro w p m c0 xs a hpre hm
    rw [Rd.bd_2] at hm ⊢
    have hone : Rd.one (Rd.bds [f]) = Rd.rd f := rfl
    unfold Rd.rdL at hm ⊢
    rw [hone] at hm ⊢
    by_cases hE : Rd.lnE s l h tt xs = 0
    · rw [if_pos hE] at hm ⊢
      by_cases hS : (xs.drop s.toNat).length < Rd.lnN s xs
      · rw [if_pos hS] at hm ⊢
        exact (rlist_short w _ p _ xs a hpre.cr 2 s l h tt A 1 c s1 s3 t1 hE hS).mono (fun e w' H => H.got hpre rfl)
      · rw [if_neg hS] at hm ⊢
        refine rlist_ok w0 r t s l h tt A c f hin hR (fun ys hy he => ?_) w p m c0 xs a hpre s1 s3 t1 hh hE hS hm
        have G := Rd.bd_good f hpw hpd ys hy
        have h1 := (G.ok he).2
        have h2 := G.le
        have h3 : (Rd.rd f ys).n = (Rd.bd f ys).n := rfl
        rw [h3]
        omega
    · rw [if_neg hE] at hm ⊢
      exact (rlist_bad w _ p _ xs a hpre.cr 2 s l h tt A 1 c s1 s3 t1 hE).mono (fun e w' H => H.got hpre rfl)
  · have hn := Rd.alone_3 ha
    have hinn : Fo.inn (.mk 3 s l h tt A c ps) = ps := by rw [Fo.inn, if_pos (by omega)]
    rw [hinn] at hq
    have hdp : Fo.dep (.mk 3 s l h tt A c ps) = Fo.deps ps + 1 := by rw [Fo.dep, if_pos (by omega)]
    refine rform_any w0 r t _ 3 rfl (by omega) 47 rfl enter_rrow ?_
    intro w p m c0 xs a hpre hm
    rw [Rd.bd_3] at hm ⊢
    exact rrow_any w0 r t s l h tt A c ps hin hn (fun q hqm => ih q hqm (hq q hqm) (by have := Fo.deps_le.1 (Nat.le_refl _) q hqm; omega) (hin.parts q hqm)) w p m c0 xs a hpre hm
  · obtain ⟨l0, lh, hh⟩ := Rd.alone_4 ha
    refine rform_any w0 r t _ 4 rfl (by omega) 48 rfl enter_rrest ?_
    intro w p m c0 xs a hpre _
    rw [Rd.bd_4]
    exact (rrest_any w _ p _ xs a hpre.cr 4 s l h tt A ps.length c (by omega)).mono (fun e w' H => H.got hpre (by unfold Rd.rdR Rd.rdT; split <;> (try split) <;> (try split) <;> rfl))
  · obtain ⟨l0, lh⟩ := Rd.alone_5 ha
    refine rform_any w0 r t _ 5 rfl (by omega) 49 rfl enter_rfixed ?_
    intro w p m c0 xs a hpre _
    rw [Rd.bd_5]
    exact (rfixed_any w _ p _ xs a hpre.cr 5 s l h tt A ps.length c l0).mono (fun e w' H => H.got hpre (by unfold Rd.rdT; split <;> rfl))
end Go.Proofs.Ytdamjbngopfpkaa

