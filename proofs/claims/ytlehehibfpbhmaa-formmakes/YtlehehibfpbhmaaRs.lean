/- Same: the document's answer. -/
import Derived.Test.YtlehehibfpbhmaaFm
import Derived.Test.YtlehehibfpbhmaaPad
import Derived.Test.YtlehehibfpbhmaaFd
namespace Go.Proofs.Ytlehehibfpbhmaa
open Go.RowKit Fo

theorem ne_bne' {a b : Int} (h : ¬ a = b) : (a != b) = true := by simpa using h
theorem sames_iff (qs rs : List Fo) : sames qs rs = true ↔ ∀ (i : Nat) (p r : Fo), qs[i]? = some p → rs[i]? = some r → same p r = true := by
  induction qs generalizing rs with
  | nil => simp [sames]
  | cons q qs ih =>
    cases rs with
    | nil => simp [sames]
    | cons r rs =>
      rw [sames, Bool.and_eq_true, ih]
      constructor
      · rintro ⟨h1, h2⟩ i p r' hp hr
        cases i with
        | zero => simp at hp hr; subst hp hr; exact h1
        | succ i => exact h2 i p r' (by simpa using hp) (by simpa using hr)
      · intro h
        exact ⟨h 0 q r rfl rfl, fun i p r' hp hr => h (i + 1) p r' (by simpa using hp) (by simpa using hr)⟩
theorem al_refl (f : Fo) : al f f = true := by
  obtain ⟨k, s, l, h, t, A, c, ps⟩ := f
  simp only [al, decide_true, ite_self, Bool.and_self]
theorem same_refl (f : Fo) : same f f = true := by
  induction f using Fo.ind with
  | H k s l h t A c ps ih =>
  rw [same, al_refl, Bool.true_and]
  split
  · rw [Fo.ps, sames_iff]
    intro i p r hp hr
    rw [hp] at hr
    injection hr with hr
    subst hr
    exact ih p (List.mem_of_getElem? hp)
  · rfl
/-- Where the numbers that play a part are the same. -/
theorem same_eq {k s l h t s' l' h' t' : Int} {A A' : Option Addr} {c c' : Nat} {ps ps' : List Fo}
    (h0 : k = 0 → s = s') (h1 : k = 1 ∨ k = 2 → s = s' ∧ l = l' ∧ h = h' ∧ t = t') (h4 : k = 4 → l = l' ∧ h = h') (h5 : k = 5 → l = l') :
    same (.mk k s l h t A c ps) (.mk k s' l' h' t' A' c' ps') = (decide ((inn (.mk k s l h t A c ps)).length = (inn (.mk k s' l' h' t' A' c' ps')).length) && sames (inn (.mk k s l h t A c ps)) (inn (.mk k s' l' h' t' A' c' ps'))) := by
  have ht : (if k = 0 then decide (s = s') else if k = 1 ∨ k = 2 then decide (s = s') && decide (l = l') && decide (h = h') && decide (t = t')
     else if k = 4 then decide (l = l') && decide (h = h') else if k = 5 then decide (l = l') else true) = true := by
    by_cases k0 : k = 0
    · rw [if_pos k0]; simp [h0 k0]
    · rw [if_neg k0]
      by_cases k1 : k = 1 ∨ k = 2
      · rw [if_pos k1]; obtain ⟨a, b, c, d⟩ := h1 k1; simp [a, b, c, d]
      · rw [if_neg k1]
        by_cases k4 : k = 4
        · rw [if_pos k4]; obtain ⟨a, b⟩ := h4 k4; simp [a, b]
        · rw [if_neg k4]
          by_cases k5 : k = 5
          · rw [if_pos k5]; simp [h5 k5]
          · rw [if_neg k5]
  rw [same, al, ht, inn, inn, Fo.ps]
  by_cases hk : k = 2 ∨ k = 3
  · simp only [if_pos hk]; simp
  · simp only [if_neg hk]; simp [sames]
/-- Where they aren't. -/
theorem same_no {k s l h t k' s' l' h' t' : Int} {A A' : Option Addr} {c c' : Nat} {ps ps' : List Fo}
    (hn : k ≠ k' ∨ (k = 0 ∧ s ≠ s') ∨ ((k = 1 ∨ k = 2) ∧ (s ≠ s' ∨ l ≠ l' ∨ h ≠ h' ∨ t ≠ t')) ∨ (k = 4 ∧ (l ≠ l' ∨ h ≠ h')) ∨ (k = 5 ∧ l ≠ l')) :
    al (.mk k s l h t A c ps) (.mk k' s' l' h' t' A' c' ps') = false := by
  rw [al]
  rcases hn with h | ⟨rfl, h⟩ | ⟨hk, h⟩ | ⟨rfl, h⟩ | ⟨rfl, h⟩
  · simp [h]
  · simp [h]
  · have hk0 : k ≠ 0 := by omega
    simp only [if_neg hk0, if_pos hk]
    rcases h with h | h | h | h <;> simp [h]
  · simp only [if_neg (show ¬ (4 : Int) = 0 by omega), if_neg (show ¬ ((4 : Int) = 1 ∨ (4 : Int) = 2) by omega), if_true]
    rcases h with h | h <;> simp [h]
  · simp only [if_neg (show ¬ (5 : Int) = 0 by omega), if_neg (show ¬ ((5 : Int) = 1 ∨ (5 : Int) = 2) by omega), if_neg (show ¬ (5 : Int) = 4 by omega), if_true]
    simp [h]
theorem same_al {f g : Fo} (h : al f g = false) : same f g = false := by
  obtain ⟨k, s, l, h', t, A, c, ps⟩ := f
  rw [same, h]; rfl

set_option maxRecDepth 100000 in
set_option maxHeartbeats 2000000 in
theorem rs_k (w : World) (k k' s l h t s' l' h' t' : Int) (A A' : Option Addr) (n c n' c' : Nat) (hk : (k != k') = true) :
    Calls Try.prog 11 #[.agg #[.int .i64 k, .int .i64 s, .int .i64 l, .int .i64 h, .int .i64 t, .slice A n c], .agg #[.int .i64 k', .int .i64 s', .int .i64 l', .int .i64 h', .int .i64 t', .slice A' n' c']] w fun e w' => e = .returned (.bool false) ∧ Grew w w' none := by
  go_enter Try.func11, Try.ntmps11
  go_wp2_with fail
  go_ret
  exact ⟨rfl, grew_alloc (grew_alloc (grew_refl _ _) _) _⟩

set_option maxRecDepth 100000 in
set_option maxHeartbeats 2000000 in
theorem rs0_s (w : World) (s l h t s' l' h' t' : Int) (A A' : Option Addr) (n c n' c' : Nat) (h1 : (s != s') = true) :
    Calls Try.prog 11 #[.agg #[.int .i64 0, .int .i64 s, .int .i64 l, .int .i64 h, .int .i64 t, .slice A n c], .agg #[.int .i64 0, .int .i64 s', .int .i64 l', .int .i64 h', .int .i64 t', .slice A' n' c']] w fun e w' => e = .returned (.bool false) ∧ Grew w w' none := by
  go_enter Try.func11, Try.ntmps11
  go_wp2_with fail
  go_ret
  exact ⟨rfl, grew_alloc (grew_alloc (grew_refl _ _) _) _⟩

set_option maxRecDepth 100000 in
set_option maxHeartbeats 2000000 in
theorem rs1_s (w : World) (s l h t s' l' h' t' : Int) (A A' : Option Addr) (n c n' c' : Nat) (h1 : (s != s') = true) :
    Calls Try.prog 11 #[.agg #[.int .i64 1, .int .i64 s, .int .i64 l, .int .i64 h, .int .i64 t, .slice A n c], .agg #[.int .i64 1, .int .i64 s', .int .i64 l', .int .i64 h', .int .i64 t', .slice A' n' c']] w fun e w' => e = .returned (.bool false) ∧ Grew w w' none := by
  go_enter Try.func11, Try.ntmps11
  go_wp2_with fail
  go_ret
  exact ⟨rfl, grew_alloc (grew_alloc (grew_refl _ _) _) _⟩

set_option maxRecDepth 100000 in
set_option maxHeartbeats 2000000 in
theorem rs1_l (w : World) (s l h t l' h' t' : Int) (A A' : Option Addr) (n c n' c' : Nat) (h1 : (l != l') = true) :
    Calls Try.prog 11 #[.agg #[.int .i64 1, .int .i64 s, .int .i64 l, .int .i64 h, .int .i64 t, .slice A n c], .agg #[.int .i64 1, .int .i64 s, .int .i64 l', .int .i64 h', .int .i64 t', .slice A' n' c']] w fun e w' => e = .returned (.bool false) ∧ Grew w w' none := by
  go_enter Try.func11, Try.ntmps11
  go_wp2_with fail
  go_ret
  exact ⟨rfl, grew_alloc (grew_alloc (grew_refl _ _) _) _⟩

set_option maxRecDepth 100000 in
set_option maxHeartbeats 2000000 in
theorem rs1_h (w : World) (s l h t h' t' : Int) (A A' : Option Addr) (n c n' c' : Nat) (h1 : (h != h') = true) :
    Calls Try.prog 11 #[.agg #[.int .i64 1, .int .i64 s, .int .i64 l, .int .i64 h, .int .i64 t, .slice A n c], .agg #[.int .i64 1, .int .i64 s, .int .i64 l, .int .i64 h', .int .i64 t', .slice A' n' c']] w fun e w' => e = .returned (.bool false) ∧ Grew w w' none := by
  go_enter Try.func11, Try.ntmps11
  go_wp2_with fail
  go_ret
  exact ⟨rfl, grew_alloc (grew_alloc (grew_refl _ _) _) _⟩

set_option maxRecDepth 100000 in
set_option maxHeartbeats 2000000 in
theorem rs1_t (w : World) (s l h t t' : Int) (A A' : Option Addr) (n c n' c' : Nat) (h1 : (t != t') = true) :
    Calls Try.prog 11 #[.agg #[.int .i64 1, .int .i64 s, .int .i64 l, .int .i64 h, .int .i64 t, .slice A n c], .agg #[.int .i64 1, .int .i64 s, .int .i64 l, .int .i64 h, .int .i64 t', .slice A' n' c']] w fun e w' => e = .returned (.bool false) ∧ Grew w w' none := by
  go_enter Try.func11, Try.ntmps11
  go_wp2_with fail
  go_ret
  exact ⟨rfl, grew_alloc (grew_alloc (grew_refl _ _) _) _⟩

set_option maxRecDepth 100000 in
set_option maxHeartbeats 2000000 in
theorem rs2_s (w : World) (s l h t s' l' h' t' : Int) (A A' : Option Addr) (n c n' c' : Nat) (h1 : (s != s') = true) :
    Calls Try.prog 11 #[.agg #[.int .i64 2, .int .i64 s, .int .i64 l, .int .i64 h, .int .i64 t, .slice A n c], .agg #[.int .i64 2, .int .i64 s', .int .i64 l', .int .i64 h', .int .i64 t', .slice A' n' c']] w fun e w' => e = .returned (.bool false) ∧ Grew w w' none := by
  go_enter Try.func11, Try.ntmps11
  go_wp2_with fail
  go_ret
  exact ⟨rfl, grew_alloc (grew_alloc (grew_refl _ _) _) _⟩

set_option maxRecDepth 100000 in
set_option maxHeartbeats 2000000 in
theorem rs2_l (w : World) (s l h t l' h' t' : Int) (A A' : Option Addr) (n c n' c' : Nat) (h1 : (l != l') = true) :
    Calls Try.prog 11 #[.agg #[.int .i64 2, .int .i64 s, .int .i64 l, .int .i64 h, .int .i64 t, .slice A n c], .agg #[.int .i64 2, .int .i64 s, .int .i64 l', .int .i64 h', .int .i64 t', .slice A' n' c']] w fun e w' => e = .returned (.bool false) ∧ Grew w w' none := by
  go_enter Try.func11, Try.ntmps11
  go_wp2_with fail
  go_ret
  exact ⟨rfl, grew_alloc (grew_alloc (grew_refl _ _) _) _⟩

set_option maxRecDepth 100000 in
set_option maxHeartbeats 2000000 in
theorem rs2_h (w : World) (s l h t h' t' : Int) (A A' : Option Addr) (n c n' c' : Nat) (h1 : (h != h') = true) :
    Calls Try.prog 11 #[.agg #[.int .i64 2, .int .i64 s, .int .i64 l, .int .i64 h, .int .i64 t, .slice A n c], .agg #[.int .i64 2, .int .i64 s, .int .i64 l, .int .i64 h', .int .i64 t', .slice A' n' c']] w fun e w' => e = .returned (.bool false) ∧ Grew w w' none := by
  go_enter Try.func11, Try.ntmps11
  go_wp2_with fail
  go_ret
  exact ⟨rfl, grew_alloc (grew_alloc (grew_refl _ _) _) _⟩

set_option maxRecDepth 100000 in
set_option maxHeartbeats 2000000 in
theorem rs2_t (w : World) (s l h t t' : Int) (A A' : Option Addr) (n c n' c' : Nat) (h1 : (t != t') = true) :
    Calls Try.prog 11 #[.agg #[.int .i64 2, .int .i64 s, .int .i64 l, .int .i64 h, .int .i64 t, .slice A n c], .agg #[.int .i64 2, .int .i64 s, .int .i64 l, .int .i64 h, .int .i64 t', .slice A' n' c']] w fun e w' => e = .returned (.bool false) ∧ Grew w w' none := by
  go_enter Try.func11, Try.ntmps11
  go_wp2_with fail
  go_ret
  exact ⟨rfl, grew_alloc (grew_alloc (grew_refl _ _) _) _⟩

set_option maxRecDepth 100000 in
set_option maxHeartbeats 2000000 in
theorem rs4_l (w : World) (s l h t s' l' h' t' : Int) (A A' : Option Addr) (n c n' c' : Nat) (h1 : (l != l') = true) :
    Calls Try.prog 11 #[.agg #[.int .i64 4, .int .i64 s, .int .i64 l, .int .i64 h, .int .i64 t, .slice A n c], .agg #[.int .i64 4, .int .i64 s', .int .i64 l', .int .i64 h', .int .i64 t', .slice A' n' c']] w fun e w' => e = .returned (.bool false) ∧ Grew w w' none := by
  go_enter Try.func11, Try.ntmps11
  go_wp2_with fail
  go_ret
  exact ⟨rfl, grew_alloc (grew_alloc (grew_refl _ _) _) _⟩

set_option maxRecDepth 100000 in
set_option maxHeartbeats 2000000 in
theorem rs4_h (w : World) (s l h t s' h' t' : Int) (A A' : Option Addr) (n c n' c' : Nat) (h1 : (h != h') = true) :
    Calls Try.prog 11 #[.agg #[.int .i64 4, .int .i64 s, .int .i64 l, .int .i64 h, .int .i64 t, .slice A n c], .agg #[.int .i64 4, .int .i64 s', .int .i64 l, .int .i64 h', .int .i64 t', .slice A' n' c']] w fun e w' => e = .returned (.bool false) ∧ Grew w w' none := by
  go_enter Try.func11, Try.ntmps11
  go_wp2_with fail
  go_ret
  exact ⟨rfl, grew_alloc (grew_alloc (grew_refl _ _) _) _⟩

set_option maxRecDepth 100000 in
set_option maxHeartbeats 2000000 in
theorem rs5_l (w : World) (s l h t s' l' h' t' : Int) (A A' : Option Addr) (n c n' c' : Nat) (h1 : (l != l') = true) :
    Calls Try.prog 11 #[.agg #[.int .i64 5, .int .i64 s, .int .i64 l, .int .i64 h, .int .i64 t, .slice A n c], .agg #[.int .i64 5, .int .i64 s', .int .i64 l', .int .i64 h', .int .i64 t', .slice A' n' c']] w fun e w' => e = .returned (.bool false) ∧ Grew w w' none := by
  go_enter Try.func11, Try.ntmps11
  go_wp2_with fail
  go_ret
  exact ⟨rfl, grew_alloc (grew_alloc (grew_refl _ _) _) _⟩

end Go.Proofs.Ytlehehibfpbhmaa

