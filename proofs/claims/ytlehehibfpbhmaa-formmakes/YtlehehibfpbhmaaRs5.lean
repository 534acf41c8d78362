/- Same of any two forms: the document's answer. -/
import Derived.Test.YtlehehibfpbhmaaRs3
import Derived.Test.YtlehehibfpbhmaaRs4
namespace Go.Proofs.Ytlehehibfpbhmaa
open Go.RowKit Fo

theorem rsame_any (f : Fo) : ∀ (g : Fo) (w : World), f.In w → g.In w → Calls Try.prog 11 #[f.val, g.val] w fun e w' => e = .returned (.bool (same f g)) ∧ Grew w w' none := by
  induction f using Fo.ind with
  | H k s l h t A c ps ih =>
  intro g w hf hg
  obtain ⟨k', s', l', h', t', A', c', ps'⟩ := g
  have no : al (.mk k s l h t A c ps) (.mk k' s' l' h' t' A' c' ps') = false → same (.mk k s l h t A c ps) (.mk k' s' l' h' t' A' c' ps') = false := same_al
  change Calls Try.prog 11 #[.agg #[.int .i64 k, .int .i64 s, .int .i64 l, .int .i64 h, .int .i64 t, .slice A ps.length c], .agg #[.int .i64 k', .int .i64 s', .int .i64 l', .int .i64 h', .int .i64 t', .slice A' ps'.length c']] w _
  by_cases hk : k = k'
  · subst hk
    by_cases k0 : k = 0
    · subst k0
      by_cases hs : s = s'
      · subst hs
        exact rsok_0 w s l h t l' h' t' A A' c c' ps ps' ih hf hg
      · rw [no (same_no (by omega))]
        exact rs0_s w s l h t s' l' h' t' A A' ps.length c ps'.length c' (ne_bne' hs)
    by_cases k1 : k = 1
    · subst k1
      by_cases hs : s = s'
      · subst hs
        by_cases hl : l = l'
        · subst hl
          by_cases hh : h = h'
          · subst hh
            by_cases ht : t = t'
            · subst ht
              exact rsok_1 w s l h t A A' c c' ps ps' ih hf hg
            · rw [no (same_no (by omega))]
              exact rs1_t w s l h t t' A A' ps.length c ps'.length c' (ne_bne' ht)
          · rw [no (same_no (by omega))]
            exact rs1_h w s l h t h' t' A A' ps.length c ps'.length c' (ne_bne' hh)
        · rw [no (same_no (by omega))]
          exact rs1_l w s l h t l' h' t' A A' ps.length c ps'.length c' (ne_bne' hl)
      · rw [no (same_no (by omega))]
        exact rs1_s w s l h t s' l' h' t' A A' ps.length c ps'.length c' (ne_bne' hs)
    by_cases k2 : k = 2
    · subst k2
      by_cases hs : s = s'
      · subst hs
        by_cases hl : l = l'
        · subst hl
          by_cases hh : h = h'
          · subst hh
            by_cases ht : t = t'
            · subst ht
              exact rsok_2 w s l h t A A' c c' ps ps' ih hf hg
            · rw [no (same_no (by omega))]
              exact rs2_t w s l h t t' A A' ps.length c ps'.length c' (ne_bne' ht)
          · rw [no (same_no (by omega))]
            exact rs2_h w s l h t h' t' A A' ps.length c ps'.length c' (ne_bne' hh)
        · rw [no (same_no (by omega))]
          exact rs2_l w s l h t l' h' t' A A' ps.length c ps'.length c' (ne_bne' hl)
      · rw [no (same_no (by omega))]
        exact rs2_s w s l h t s' l' h' t' A A' ps.length c ps'.length c' (ne_bne' hs)
    by_cases k3 : k = 3
    · subst k3
      exact rsok_3 w s l h t s' l' h' t' A A' c c' ps ps' ih hf hg
    by_cases k4 : k = 4
    · subst k4
      by_cases hl : l = l'
      · subst hl
        by_cases hh : h = h'
        · subst hh
          exact rsok_4 w s l h t s' t' A A' c c' ps ps' ih hf hg
        · rw [no (same_no (by omega))]
          exact rs4_h w s l h t s' h' t' A A' ps.length c ps'.length c' (ne_bne' hh)
      · rw [no (same_no (by omega))]
        exact rs4_l w s l h t s' l' h' t' A A' ps.length c ps'.length c' (ne_bne' hl)
    by_cases k5 : k = 5
    · subst k5
      by_cases hl : l = l'
      · subst hl
        exact rsok_5 w s l h t s' h' t' A A' c c' ps ps' ih hf hg
      · rw [no (same_no (by omega))]
        exact rs5_l w s l h t s' l' h' t' A A' ps.length c ps'.length c' (ne_bne' hl)
    exact rsok_k w k s l h t s' l' h' t' A A' c c' ps ps' (ne_beq k0) (ne_beq k1) (ne_beq k2) (ne_beq k4) (ne_beq k5) ih hf hg
  · rw [no (same_no (.inl hk))]
    exact rs_k w k k' s l h t s' l' h' t' A A' ps.length c ps'.length c' (ne_bne' hk)

end Go.Proofs.Ytlehehibfpbhmaa

