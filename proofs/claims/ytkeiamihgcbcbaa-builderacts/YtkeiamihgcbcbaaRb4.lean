/- The document's builder of layer 2: Open, Close. -/
import Derived.Test.YtkeiamihgcbcbaaRb3
namespace Go.Proofs.Ytkeiamihgcbcbaa
open Go.RowKit

set_option maxHeartbeats 1000000 in
theorem ropen_arg (w : World) (m : Nat) (k : Int) (hk : k < 1 ∨ 3 < k) : Calls Try.prog 31 #[.pointer (some ⟨m, 0, none⟩), .int .i64 k] w fun e w' => e = .returned (.int .i64 2) ∧ w = w' := by
  rcases hk with hk | hk
  · go_enter Try.func31, Try.ntmps31
    go_wp2_with fail
    go_ret
    exact ⟨rfl, rfl⟩
  · have hk' : ¬ k < 1 := by omega
    go_enter Try.func31, Try.ntmps31
    go_wp2_with fail
    go_ret
    exact ⟨rfl, rfl⟩

set_option maxHeartbeats 1000000 in
theorem ropen_full (w : World) (F : Nat → Prop) (m most : Nat) (parts : List (List UInt8)) (sizes : List Nat) (h : Rb w F m most parts sizes) (k : Nat) (hk1 : 1 ≤ k) (hk3 : k ≤ 3) (hfull : most < tot parts sizes + k) :
    Calls Try.prog 31 #[.pointer (some ⟨m, 0, none⟩), .int .i64 k] w fun e w' => e = .returned (.int .i64 5) ∧ w = w' := by
  have hlen := rlen_any w F m most _ sizes h
  obtain ⟨hpl, hto, hmo, hsl, hss⟩ := h.le
  obtain ⟨vP, vS, vs, h1, _⟩ := h
  have c0 := h1.cell 0
  simp only [List.getElem?_toArray, List.getElem?_cons_zero] at c0
  generalize tot parts sizes = T at *
  have HLEN := Lib.hid hlen
  have hnl : (most : Int) - T < k := by omega
  have hk0 : ¬ ((k : Int) < 1) := by omega
  have hk4 : ¬ ((3 : Int) < k) := by omega
  clear hlen hpl hss h1
  go_enter Try.func31, Try.ntmps31
  go_wp2_with fail
  refine HLEN.out.mono ?_
  rintro e w0 ⟨rfl, rfl⟩
  go_wp2_with fail
  go_ret
  exact ⟨rfl, rfl⟩

theorem Rows_.more {w : World} {vs : List Value} {parts : List (List UInt8)} (h : Rows_ w vs parts) : Rows_ w (vs ++ [.slice none 0 0]) (parts ++ [[]]) := by
  refine ⟨by simp [h.1], fun i hi => ?_⟩
  simp at hi
  by_cases e : i = parts.length
  · subst e
    rw [getD_snoc, show (vs ++ [Value.slice none 0 0]).getD parts.length (.int .i64 0) = .slice none 0 0 from by rw [← h.1]; exact getD_snoc _ _ _]
    exact World.ownsRow_nil _ _ _ _
  · have hi' : i < parts.length := by omega
    have e1 : (parts ++ [[]]).getD i [] = parts.getD i [] := by simp [List.getD, List.getElem?_append_left hi']
    have e2 : (vs ++ [Value.slice none 0 0]).getD i (.int .i64 0) = vs.getD i (.int .i64 0) := by simp [List.getD, List.getElem?_append_left (show i < vs.length from by rw [h.1]; exact hi')]
    rw [e1, e2]
    exact h.2 i hi'
theorem tot_more (parts : List (List UInt8)) (sizes : List Nat) (k : Nat) : tot (parts ++ [[]]) (sizes ++ [k]) = tot parts sizes + k := by simp [tot]; omega
theorem intsOf_append (a b : List Nat) : intsOf (a ++ b) = intsOf a ++ intsOf b := by simp [intsOf]
theorem sum_ge (l : List Nat) (h : ∀ s ∈ l, 1 ≤ s ∧ s ≤ 3) : l.length ≤ l.sum := by
  induction l with
  | nil => simp
  | cons a l ih =>
    have := h a (by simp)
    have := ih (fun s hs => h s (by simp [hs]))
    simp; omega

/-- A block is a row of cells of a type. -/
def Typed (w : World) (i : Nat) (t : TypeId) : Prop := ∃ cs, Whole w i cs t
theorem own_typed {w : World} {e : TypeId} {size n : Nat} {v : Value} {xs : List Value} (h : w.ownsRow 0 e size v n xs) : ∀ i, v.ownBlock = some i → Typed w i e := by
  intro i hi
  rcases h.2 with ⟨rfl, _⟩ | ⟨g, c, cur, rfl, _, hh, _⟩
  · simp [Value.ownBlock] at hi
  · simp [Value.ownBlock] at hi
    subst hi
    exact ⟨cur, hh⟩
theorem own_far {w w' : World} {G : Nat → Prop} {e t : TypeId} {size n : Nat} {v : Value} {xs : List Value} (h : w.ownsRow 0 e size v n xs) (g : Fr w w' G) (hG : ∀ i, G i → Typed w i t) (hne : e ≠ t) : w'.ownsRow 0 e size v n xs :=
  own_fr h g (fun k hk hg => by
    obtain ⟨cs, hc⟩ := hG k hg
    exact own_ne h hc hne hk)
theorem Rows_.far {w w' : World} {G : Nat → Prop} {t : TypeId} {vs : List Value} {parts : List (List UInt8)} (h : Rows_ w vs parts) (g : Fr w w' G) (hG : ∀ i, G i → Typed w i t) (hne : 5 ≠ t) : Rows_ w' vs parts :=
  ⟨h.1, fun i hi => own_far (h.2 i hi) g hG hne⟩

set_option maxRecDepth 100000 in
set_option maxHeartbeats 4000000 in
theorem ropen_ok (w : World) (F : Nat → Prop) (m most : Nat) (parts : List (List UInt8)) (sizes : List Nat) (h : Rb w F m most parts sizes) (k : Nat) (hk1 : 1 ≤ k) (hk3 : k ≤ 3) (hfit : tot parts sizes + k ≤ most) :
    Calls Try.prog 31 #[.pointer (some ⟨m, 0, none⟩), .int .i64 k] w fun e w' => e = .returned (.int .i64 0) ∧ RbOut w w' F m most (parts ++ [[]]) (sizes ++ [k]) := by
  have hlen := rlen_any w F m most _ sizes h
  obtain ⟨hpl, hto, hmo, hsl, hss⟩ := h.le
  obtain ⟨vP, vS, vs, h1, h2, h3, h4, h5, h6, h7, h8, h9, _⟩ := h
  have hvl := h4.1
  have hneP := own_ne h2 h1 (by decide)
  have hneS := own_ne h3 h1 (by decide)
  have hPS := own_own h2 h3 (by decide)
  obtain ⟨AP, cP, rfl, _⟩ := own_form h2
  obtain ⟨AS, cS, rfl, _⟩ := own_form h3
  have c0 := h1.cell 0
  have c1 := h1.cell 1
  simp only [List.getElem?_toArray, List.getElem?_cons_succ, List.getElem?_cons_zero] at c0 c1
  have hvb : vs.length ≤ 2001 := by omega
  have hm := h1.lt
  generalize htt : tot parts sizes = T at *
  have hnl : ¬ ((most : Int) - T < k) := by omega
  have hwr : IntKind.i64.wrap ((most : Int) - T) = (most : Int) - T := IntWalk.i64_in _ (by omega)
  have hk0 : ¬ ((k : Int) < 1) := by omega
  have hk4 : ¬ ((3 : Int) < k) := by omega
  obtain ⟨iP, hi0, hz0, hz1, hz2⟩ := info_parts bytes_info
  obtain ⟨iS, hj0, hy0, hy1, hy2⟩ := info_parts int_info
  have HTT := Lib.hid htt
  have HLEN := Lib.hid hlen
  have H1 := Lib.hid h1
  have H2 := Lib.hid h2
  have H3 := Lib.hid h3
  have H4 := Lib.hid h4
  have H6 := Lib.hid h6
  have H7 := Lib.hid h7
  have H8 := Lib.hid h8
  have H9 := Lib.hid h9
  have HPL := Lib.hid hpl
  have HVL := Lib.hid hvl
  have HSS := Lib.hid hss
  have HI0 := Lib.hid hi0
  have HI1 := Lib.hid hz0
  have HI2 := Lib.hid hz1
  have HI3 := Lib.hid hz2
  have HJ0 := Lib.hid hj0
  have HJ1 := Lib.hid hy0
  have HJ2 := Lib.hid hy1
  have HJ3 := Lib.hid hy2
  have HNP := Lib.hid hneP
  have HNS := Lib.hid hneS
  have HPS := Lib.hid hPS
  have HO := Lib.hid (own_fr h2 ((Fr.refl w (fun _ => False)).alloc (.cells #[.slice none 0 0] 32)) (fun _ _ h => h))
  clear htt hlen h1 h2 h3 h4 h6 h7 h8 h9 hpl hvl hss hi0 hz0 hz1 hz2 hj0 hy0 hy1 hy2 hneP hneS hPS
  generalize hnv : vs.length = nv at *
  have HNV := Lib.hid hnv
  generalize hns : sizes.length = ns at *
  have HNSZ := Lib.hid hns
  clear hnv hns
  go_enter Try.func31, Try.ntmps31
  go_wp2_with fail
  refine HLEN.out.mono ?_
  rintro e w0 ⟨rfl, rfl⟩
  go_wp2_with (first
    | (at_builtin; refine wpList_append_lies _ rfl (.tmp 26) (.tmp 27) _ rfl 0 32 iP _ 1 24 Try.underlying38 HI0.out HI1.out HI2.out HI3.out rfl (by omega) (.slice AP nv cP) nv vs rfl HO.out ⟨w.heap.size, 0, none⟩ 1 1 [.slice none 0 0] rfl rfl (World.news_of_block (cs := #[.slice none 0 0]) (t := 32) (fr := (0, 0)) (heap_alloc_new w _)) (by simp [Value.oneCell']) (by omega) (by unfold maxLen; omega) (by omega) (Nat.zero_le _) (w.heap.size + 1) (by simp) ?_; intro gP c2 w2 hown1 hgrow hat hlt2; have f2 : Fr w w2 (fun i => (Value.slice AP nv cP).ownBlock = some i) := (((Fr.refl w _).alloc _).trans (Fr.of_grew hgrow) (fun i _ e => e.symm)); have hw2 := H1.out.fr f2 HNP.out; have hd1 := hw2.cell 1; have hd2 := hw2.cell 2; have hz1 := hw2.frozen 1; have hz2 := hw2.frozen 2; simp only [List.getElem?_toArray, List.getElem?_cons_succ, List.getElem?_cons_zero] at hd1 hd2; have HW2 := Lib.hid hw2; have F2 := Lib.hid f2; have HO1 := Lib.hid hown1; have HAT := Lib.hid hat; have HS2 := Lib.hid (own_fr H3.out f2 (fun g hg e => HPS.out g e hg)); have HS3 := Lib.hid (own_fr HS2.out (Fr.set (F := fun i => i = m) (Fr.refl w2 _) (p := m) (.inl rfl) 1 none (.slice (some ⟨gP, 0, none⟩) (nv + 1) c2)) (fun g hg e => HNS.out (by rw [hg, e]))); have HS4 := Lib.hid (own_fr HS3.out ((Fr.refl _ (fun _ => False)).alloc (.cells #[.int .i64 k] 3)) (fun _ _ h => h)); have HNW := Lib.hid (World.news_of_block (w := (w2.setCell ⟨m, 1, none⟩ (.slice (some ⟨gP, 0, none⟩) (nv + 1) c2)).alloc (.cells #[.int .i64 k] 3)) (B := w2.heap.size) (cs := #[.int .i64 k]) (t := 3) (fr := (0, 0)) (by have := heap_alloc_new (w2.setCell ⟨m, 1, none⟩ (.slice (some ⟨gP, 0, none⟩) (nv + 1) c2)) (.cells #[.int .i64 k] 3); simpa using this)); clear hw2 f2 hown1 hat hgrow)
    | (at_builtin; refine wpList_append_lies _ rfl (.tmp 35) (.tmp 37) _ rfl 0 3 iS _ 1 8 Try.underlying39 HJ0.out HJ1.out HJ2.out HJ3.out rfl (by omega) (.slice AS ns cS) ns (intsOf sizes) rfl HS4.out ⟨w2.heap.size, 0, none⟩ 1 1 [.int .i64 k] rfl rfl HNW.out (by simp [Value.oneCell']) (by omega) (by unfold maxLen; omega) (by omega) (Nat.zero_le _) (w2.heap.size + 1) (by simp) ?_; intro gS c3 w3 hown3 hgrow3 hat3 hlt3; have f3 : Fr (w2.setCell ⟨m, 1, none⟩ (.slice (some ⟨gP, 0, none⟩) (nv + 1) c2)) w3 (fun i => (Value.slice AS ns cS).ownBlock = some i) := (((Fr.refl _ _).alloc _).trans (Fr.of_grew hgrow3) (fun i _ e => e.symm)); have hw3 := (HW2.out.set 1 (.slice (some ⟨gP, 0, none⟩) (nv + 1) c2)).fr f3 HNS.out; have he2 := hw3.cell 2; have hy2 := hw3.frozen 2; simp at he2; have HW3 := Lib.hid hw3; have F3 := Lib.hid f3; have HO3 := Lib.hid hown3; have HAT3 := Lib.hid hat3; clear hw3 f3 hown3 hat3 hgrow3))
  go_ret
  refine ⟨rfl, ?_⟩
  have hW3 := HW3.out
  have hs1 : Fr w2 (w2.setCell ⟨m, 1, none⟩ (.slice (some ⟨gP, 0, none⟩) (nv + 1) c2)) (fun i => i = m) := Fr.set (F := fun i => i = m) (Fr.refl _ _) (.inl rfl) _ _ _
  have hs2 : Fr w3 (w3.setCell ⟨m, 2, none⟩ (.slice (some ⟨gS, 0, none⟩) (ns + 1) c3)) (fun i => i = m) := Fr.set (F := fun i => i = m) (Fr.refl _ _) (.inl rfl) _ _ _
  have t2 : ∀ i, i = m → Typed w2 i 41 := fun i e => by subst e; exact ⟨_, HW2.out⟩
  have t3 : ∀ i, i = m → Typed w3 i 41 := fun i e => by subst e; exact ⟨_, hW3⟩
  have tP := own_typed H2.out
  have tS := own_typed HS3.out
  have hW4 := hW3.set 2 (.slice (some ⟨gS, 0, none⟩) (ns + 1) c3)
  simp at hW4
  have hR := (((H4.out.far F2.out tP (by decide)).far hs1 t2 (by decide)).far F3.out tS (by decide)).far hs2 t3 (by decide)
  have hP := own_far (own_far (own_far HO1.out hs1 t2 (by decide)) F3.out tS (by decide)) hs2 t3 (by decide)
  have hS := own_far HO3.out hs2 t3 (by decide)
  have hsz2 := F2.out.size
  have hsz3 := F3.out.size
  have hsz4 : (w2.setCell ⟨m, 1, none⟩ (.slice (some ⟨gP, 0, none⟩) (nv + 1) c2)).heap.size = w2.heap.size := by simp
  rw [hsz4] at hsz3
  have fAll : Fr w (w3.setCell ⟨m, 2, none⟩ (.slice (some ⟨gS, 0, none⟩) (ns + 1) c3)) F := by
    refine (((F2.out.mono (fun i _ h => H6.out i h)).trans hs1 (fun i _ e => by subst e; exact h5)).trans F3.out (fun i _ h => H7.out i h)).trans hs2 (fun i _ e => by subst e; exact h5)
  have hns := HNSZ.out
  have hnv := HNV.out
  have hvl := HVL.out
  have hpl := HPL.out
  have htt := HTT.out
  have hsum := sum_ge (sizes ++ [k]) (fun s hs => by
    rw [List.mem_append, List.mem_singleton] at hs
    rcases hs with h | rfl
    · exact HSS.out s h
    · exact ⟨hk1, hk3⟩)
  have htm := tot_more parts sizes k
  refine ⟨fun i => F i ∨ (w.heap.size ≤ i ∧ i < w3.heap.size), ⟨_, _, vs ++ [.slice none 0 0], hW4, ?_, ?_, hR.more, .inl h5, ?_, ?_, ?_, ?_, by simp; omega, by omega, hmo, ?_, ?_⟩, fAll.mono (fun i hi h => h), ?_⟩
  · rw [List.length_append, hnv]; exact hP
  · rw [List.length_append, hns, intsOf_append]; exact hS
  · intro g hg; simp [Value.ownBlock] at hg; subst hg
    rcases HAT.out with e | e
    · exact .inl (H6.out _ e)
    · exact .inr ⟨by omega, by omega⟩
  · intro g hg; simp [Value.ownBlock] at hg; subst hg
    rcases HAT3.out with e | e
    · exact .inl (H7.out _ e)
    · exact .inr ⟨by omega, hlt3⟩
  · intro v hv g hg
    rw [List.mem_append, List.mem_singleton] at hv
    rcases hv with h | rfl
    · exact .inl (H8.out v h g hg)
    · simp [Value.ownBlock] at hg
  · rintro i (hi | ⟨_, hi⟩)
    · have := H9.out i hi
      simp; omega
    · simpa using hi
  · have : (sizes ++ [k]).sum ≤ tot (parts ++ [[]]) (sizes ++ [k]) := by unfold tot; omega
    omega
  · intro s hs
    rw [List.mem_append, List.mem_singleton] at hs
    rcases hs with h | rfl
    · exact HSS.out s h
    · exact ⟨hk1, hk3⟩
  · rintro i (hi | ⟨hi, _⟩)
    · exact .inl hi
    · exact .inr hi

end Go.Proofs.Ytkeiamihgcbcbaa

