/- The document's builder of layer 2: Bytes. -/
import Derived.Test.YtkeiamihgcbcbaaRb
import Derived.Deep.RegionHeld3
import Derived.Deep.RegionLaw
namespace Go.Proofs.Ytkeiamihgcbcbaa
open Go.RowKit

theorem own_lit0 (w : World) : (w.alloc (.cells #[] 5)).ownsRow 0 5 1 (.slice (some ⟨w.heap.size, 0, none⟩) 0 0) 0 (cellsOf []) :=
  World.ownsRow_lit (base := 0) (e := 5) (size := 1) w #[] 0 (Nat.zero_le _) (by unfold maxLen; omega) rfl

theorem getD_snoc {α : Type} (l : List α) (x d : α) : (l ++ [x]).getD l.length d = x := by simp [List.getD]

/-- The last of the parts, where it lies. -/
theorem Rb.last {w : World} {F : Nat → Prop} {m most : Nat} {Q : List (List UInt8)} {P : List UInt8} {sizes : List Nat} (h : Rb w F m most (Q ++ [P]) sizes) :
    ∃ gP cP vS vs A c, Whole w m #[.int .i64 most, .slice (some ⟨gP, 0, none⟩) (Q.length + 1) cP, vS] 41 ∧ w.ownsRow 0 32 1 (.slice (some ⟨gP, 0, none⟩) (Q.length + 1) cP) (Q.length + 1) vs ∧
      w.ownsRow 0 3 1 vS sizes.length (intsOf sizes) ∧ Rows_ w vs (Q ++ [P]) ∧ F m ∧ F gP ∧ (∀ g, vS.ownBlock = some g → F g) ∧ (∀ v ∈ vs, ∀ g, v.ownBlock = some g → F g) ∧ (∀ i, F i → i < w.heap.size) ∧
      w.cell? ⟨gP, Q.length, none⟩ = some (.slice A P.length c) ∧ w.frozen? ⟨gP, Q.length, none⟩ = false ∧ w.ownsRow 0 5 1 (.slice A P.length c) P.length (cellsOf P) ∧ vs.length = Q.length + 1 := by
  obtain ⟨vP, vS, vs, h1, h2, h3, h4, h5, h6, h7, h8, h9, h10, _⟩ := h
  have hvl : vs.length = Q.length + 1 := by rw [h4.1]; simp
  rw [hvl] at h2
  obtain ⟨gP, cP, rfl, _, _⟩ := h2.form (by omega)
  have hk := h4.2 Q.length (by simp)
  rw [getD_snoc] at hk
  obtain ⟨A, c, e, _⟩ := own_form hk
  rw [e] at hk
  refine ⟨gP, cP, vS, vs, A, c, h1, h2, h3, h4, h5, h6 gP rfl, h7, h8, h9, ?_, ?_, hk, hvl⟩
  · rw [h2.cellAt _ (by omega), List.getElem?_eq_getElem (by omega), ← e]
    simp [List.getD, hvl]
  · rcases h2.2 with ⟨e, _⟩ | ⟨g, c', cur, e, _, hh, _⟩
    · cases e
    · injection e with hA _ _
      injection hA with hA
      injection hA with hA
      subst hA
      exact Whole.frozen (w := w) (t := 32) hh _

/-- Another last part. -/
theorem Rows_.last {w : World} {vs : List Value} {Q : List (List UInt8)} {P P' : List UInt8} {v : Value} (h : Rows_ w vs (Q ++ [P])) (hv : w.ownsRow 0 5 1 v P'.length (cellsOf P')) : Rows_ w (vs.set Q.length v) (Q ++ [P']) := by
  have hl := h.1
  simp at hl
  refine ⟨by simp [hl], fun i hi => ?_⟩
  simp at hi
  by_cases e : i = Q.length
  · subst e
    rw [getD_snoc]
    have : (vs.set Q.length v).getD Q.length (.int .i64 0) = v := by simp [List.getD, hl]
    rw [this]
    exact hv
  · have hi' : i < Q.length := by omega
    have h1 := h.2 i (by simp; omega)
    have e1 : (Q ++ [P]).getD i [] = (Q ++ [P']).getD i [] := by simp [List.getD, List.getElem?_append_left hi']
    have e2 : (vs.set Q.length v).getD i (.int .i64 0) = vs.getD i (.int .i64 0) := by simp [List.getD, show ¬ Q.length = i from fun h => e h.symm]
    rw [e2, ← e1]
    exact h1

theorem own_set {w : World} {e : TypeId} {g n c k : Nat} {xs : List Value} {v : Value} (h : w.ownsRow 0 e 1 (.slice (some ⟨g, 0, none⟩) n c) n xs) : (w.setCell ⟨g, k, none⟩ v).ownsRow 0 e 1 (.slice (some ⟨g, 0, none⟩) n c) n (xs.set k v) := by
  refine ⟨by rw [List.length_set]; exact h.1, ?_⟩
  rcases h.2 with ⟨e', _⟩ | ⟨g', c', cur, e', hb, hh, h1, h2, h3, h4⟩
  · cases e'
  · injection e' with hA _ hc
    injection hA with hA
    injection hA with hA
    subst hA hc
    have hW : Whole w g cur e := hh
    refine .inr ⟨g, c, _, rfl, hb, hW.set k v, h1, h2, by simpa using h3, ?_⟩
    rw [← h4]
    simp [List.take_set]

theorem own_whole {w : World} {e : TypeId} {size g n c : Nat} {xs : List Value} (h : w.ownsRow 0 e size (.slice (some ⟨g, 0, none⟩) n c) n xs) : ∃ cs, Whole w g cs e := by
  rcases h.2 with ⟨e', _⟩ | ⟨g', c', cur, e', _, hh, _⟩
  · cases e'
  · injection e' with hA _ _
    injection hA with hA
    injection hA with hA
    subst hA
    exact ⟨cur, hh⟩

theorem tot_last (Q : List (List UInt8)) (P P' : List UInt8) (sizes : List Nat) : tot (Q ++ [P]) sizes + P'.length = tot (Q ++ [P']) sizes + P.length := by
  simp [tot]; omega

/-- Another last part is put in its place. -/
theorem rb_put {w w3 : World} {F : Nat → Prop} {m most gP cP : Nat} {Q : List (List UInt8)} {P P' : List UInt8} {sizes : List Nat} {vS v2 : Value} {vs : List Value}
    (h1 : Whole w m #[.int .i64 most, .slice (some ⟨gP, 0, none⟩) (Q.length + 1) cP, vS] 41) (h2 : w.ownsRow 0 32 1 (.slice (some ⟨gP, 0, none⟩) (Q.length + 1) cP) (Q.length + 1) vs)
    (h3 : w.ownsRow 0 3 1 vS sizes.length (intsOf sizes)) (h4 : Rows_ w vs (Q ++ [P])) (h5 : F m) (h6 : F gP) (h7 : ∀ g, vS.ownBlock = some g → F g) (h8 : ∀ v ∈ vs, ∀ g, v.ownBlock = some g → F g) (h9 : ∀ i, F i → i < w.heap.size)
    (hvl : vs.length = Q.length + 1) (f3 : Fr w w3 (fun _ => False)) (hv2 : w3.ownsRow 0 5 1 v2 P'.length (cellsOf P')) (hnew : ∀ g, v2.ownBlock = some g → w.heap.size ≤ g) (ht : tot (Q ++ [P']) sizes ≤ most)
    (hpl : Q.length = sizes.length) (hmo : most ≤ 2000) (hsl : sizes.length ≤ most) (hss : ∀ s ∈ sizes, 1 ≤ s ∧ s ≤ 3) : RbOut w (w3.setCell ⟨gP, Q.length, none⟩ v2) F m most (Q ++ [P']) sizes := by
  have hmg : m ≠ gP := by
    have := own_ne h2 h1 (by decide)
    simp [Value.ownBlock] at this
    exact fun e => this e.symm
  have hset : Fr w3 (w3.setCell ⟨gP, Q.length, none⟩ v2) (fun i => i = gP) := Fr.set (F := fun i => i = gP) (Fr.refl _ _) (.inl rfl) _ _ _
  have h2' := own_fr h2 f3 (fun _ _ h => h)
  have h3' := own_fr h3 f3 (fun _ _ h => h)
  obtain ⟨cs, hgw⟩ := own_whole h2'
  have hgl : gP < w.heap.size := h9 gP h6
  have hR := (h4.fr f3 (fun _ _ _ _ h => h)).last hv2
  refine ⟨fun i => F i ∨ (w.heap.size ≤ i ∧ i < w3.heap.size), ⟨.slice (some ⟨gP, 0, none⟩) (Q.length + 1) cP, vS, vs.set Q.length v2, (h1.fr f3 (fun h => h)).fr hset hmg, ?_, ?_, ?_, .inl h5, ?_, ?_, ?_, ?_, by simp [hpl], ht, hmo, hsl, hss⟩, ?_, ?_⟩
  · have := own_set (k := Q.length) (v := v2) h2'
    rw [List.length_set, hvl]
    exact this
  · exact own_fr h3' hset (fun k hk e => own_ne h3' hgw (by decide) (by rw [hk, e]))
  · refine hR.fr hset (fun v hv k hk e => ?_)
    obtain ⟨i, hi, rfl⟩ := List.getElem_of_mem hv
    have hi' : i < (Q ++ [P']).length := by rw [← hR.1]; exact hi
    have ho := hR.2 i hi'
    have eg : (vs.set Q.length v2).getD i (.int .i64 0) = (vs.set Q.length v2)[i] := by simp [List.getD, List.getElem?_eq_getElem hi]
    rw [eg] at ho
    exact own_ne ho hgw (by decide) (by rw [hk, e])
  · intro g hg; simp [Value.ownBlock] at hg; subst hg; exact .inl h6
  · exact fun g hg => .inl (h7 g hg)
  · intro v hv g hg
    rcases List.mem_or_eq_of_mem_set hv with h | rfl
    · exact .inl (h8 v h g hg)
    · exact .inr ⟨hnew g hg, own_lt hv2 g hg⟩
  · rintro i (hi | ⟨_, hi⟩)
    · have := h9 i hi
      have := f3.size
      simp; omega
    · simpa using hi
  · exact (f3.mono (fun _ _ h => h.elim)).trans hset (fun i _ e => by subst e; exact h6)
  · rintro i (hi | ⟨hi, _⟩)
    · exact .inl hi
    · exact .inr hi

set_option maxRecDepth 100000 in
set_option maxHeartbeats 4000000 in
theorem rbytes_ok (w : World) (F : Nat → Prop) (m most : Nat) (Q : List (List UInt8)) (P : List UInt8) (sizes : List Nat) (h : Rb w F m most (Q ++ [P]) sizes) (B : Nat) (A : Option Addr) (bs : List UInt8) (c : Nat) (hb : Byt w B A bs)
    (hfit : tot (Q ++ [P]) sizes + bs.length ≤ most) :
    Calls Try.prog 30 #[.pointer (some ⟨m, 0, none⟩), .slice A bs.length c] w fun e w' => e = .returned (.int .i64 0) ∧ RbOut w w' F m most (Q ++ [P ++ bs]) sizes := by
  have hlen := rlen_any w F m most _ sizes h
  obtain ⟨hpl, hto, hmo, hsl, hss⟩ := h.le
  simp at hpl
  obtain ⟨gP, cP, vS, vs, AK, cK, h1, h2, h3, h4, h5, h6, h7, h8, h9, hck, hfk, hok, hvl⟩ := h.last
  have c0 := h1.cell 0
  have c1 := h1.cell 1
  simp only [List.getElem?_toArray, List.getElem?_cons_succ, List.getElem?_cons_zero] at c0 c1
  have hm := h1.lt
  have hPt : P.length ≤ tot (Q ++ [P]) sizes := by simp [tot]; omega
  have hgl : gP < w.heap.size := World.block_lt_of_cell? w _ hck
  have hmg : m ≠ gP := by
    have := own_ne h2 h1 (by decide)
    simp [Value.ownBlock] at this
    exact fun e => this e.symm
  -- the empty slice, the first append
  have f1 : Fr w (w.alloc (.cells #[] 5)).drew (fun _ => False) := ((Fr.refl _ _).alloc _).drew
  have hv0 : (w.alloc (.cells #[] 5)).drew.ownsRow 0 5 1 (.slice (some ⟨w.heap.size, 0, none⟩) 0 0) 0 (cellsOf []) := own_lit0 w
  have ha1 := fun ty => append_bytes (P := Try.prog) (w.alloc (.cells #[] 5)).drew 32 ty 5 Try.underlying32 info_u8 hv0 ((own_by hok).fr f1 (fun _ _ h => h)) cK (by omega)
  have hw1 : (w.alloc (.cells #[] 5)).drew.cell? ⟨m, 1, none⟩ = some (.slice (some ⟨gP, 0, none⟩) (Q.length + 1) cP) := f1.cell c1 (fun h => h)
  have hk1 : (w.alloc (.cells #[] 5)).drew.cell? ⟨gP, Q.length, none⟩ = some (.slice AK P.length cK) := f1.cell hck (fun h => h)
  have hk0 : w.drew.cell? ⟨gP, Q.length, none⟩ = some (.slice AK P.length cK) := hck
  have hB1 := (hb.byf.byt).byf.fr f1 (fun _ _ h => h)
  have hn0 : (0 : Int) ≤ (Q.length : Int) := by omega
  have hn1 : (Q.length : Int) < (Q.length : Int) + 1 := by omega
  generalize htt : tot (Q ++ [P]) sizes = T at *
  have HTT := Lib.hid htt
  clear htt
  have hwr : IntKind.i64.wrap ((most : Int) - T) = (most : Int) - T := IntWalk.i64_in _ (by omega)
  have hnl : ¬ ((most : Int) - T < bs.length) := by omega
  have hqb : Q.length ≤ 2000 := by omega
  have HPL := Lib.hid hpl
  have HVL := Lib.hid hvl
  have HLEN := Lib.hid hlen
  have H1 := Lib.hid h1
  have H2 := Lib.hid h2
  have H3 := Lib.hid h3
  have H4 := Lib.hid h4
  have H7 := Lib.hid h7
  have H8 := Lib.hid h8
  have H9 := Lib.hid h9
  have HA1 := Lib.hid ha1
  have HB1 := Lib.hid hB1
  have HMG := Lib.hid hmg
  have F1 := Lib.hid f1
  have HSS := Lib.hid hss
  clear hlen h1 h2 h3 h4 h7 h8 h9 ha1 hB1 hmg f1 hv0 hok hfk h hb hss hpl hvl
  generalize hq : Q.length = q at *
  have HQ := Lib.hid hq
  clear hq
  go_enter Try.func30, Try.ntmps30
  go_wp2_with fail
  refine HLEN.out.mono ?_
  rintro e w0 ⟨rfl, rfl⟩
  go_wp2_with fail
  go_region_law (first
      | (refine step_append_run _ (by rfl) (.tmp 29) (.tmp 36) _ (by rfl) (by rfl) (by rfl) HA1.out ?_; rintro v1 w2 ⟨a1, a2, a3⟩; have HA2 := Lib.hid (fun ty => append_bytes (P := Try.prog) w2 32 ty 5 Try.underlying32 info_u8 a1 (HB1.out.fr (Fr.of_grew a2) (fun i hi e => by simp [Value.ownBlock] at e; omega)) c (by omega)); have F2 := Lib.hid (F1.out.trans (Fr.of_grew a2) (fun i hi e => by simp [Value.ownBlock] at e; omega)); have A3 := Lib.hid a3; have hm2 := F2.out.cell c1 (fun h => h); clear a1 a2 a3)
      | (refine step_append_run _ (by rfl) (.tmp 37) (.tmp 38) _ (by rfl) (by rfl) (by rfl) HA2.out ?_; rintro v2 w3 ⟨b1, b2, b3⟩; obtain ⟨A2, c2, rfl, _⟩ := own_form b1; have f3 : Fr w w3 (fun _ => False) := F2.out.trans (Fr.of_grew b2) (fun i hi e => by (have h3 := A3.out); rw [← e] at h3; simp [Value.ownBlock] at h3; omega); have hk3 := f3.cell hck (fun h => h); have hm3 := f3.cell c1 (fun h => h); obtain ⟨_, hfw⟩ := own_whole (own_fr H2.out f3 (fun _ _ h => h)); have hfz3 := hfw.frozen q; clear hfw; have F3 := Lib.hid f3; have BB1 := Lib.hid b1; have BB3 := Lib.hid b3; have hs23 := b2.size; clear b1 b2 b3 f3))
  all_goals
    go_wp2_with fail
    go_ret
    refine ⟨rfl, ?_⟩
    have hq := HQ.out
    subst hq
    refine rb_put H1.out H2.out H3.out H4.out h5 h6 H7.out H8.out H9.out HVL.out F3.out (P' := P ++ bs) ?_ (fun g hg => ?_) ?_ HPL.out hmo hsl HSS.out
    · have := BB1.out
      simpa using this
    · have hg : (Value.slice A2 (0 + P.length + bs.length) c2).ownBlock = some g := by rw [Nat.zero_add]; exact hg
      rcases BB3.out with e | e
      · rcases A3.out with e2 | e2
        · have : some g = some w.heap.size := by rw [← hg, e, e2]; rfl
          simp at this; omega
        · have : some g = some (w.heap.size + 1) := by rw [← hg, e, e2]; simp
          simp at this; omega
      · have := F2.out.size
        have : some g = some w2.heap.size := by rw [← hg, e]
        simp at this; omega
    · have := tot_last Q P (P ++ bs) sizes
      have ht := HTT.out
      simp at this
      omega

set_option maxHeartbeats 1000000 in
theorem rbytes_full (w : World) (F : Nat → Prop) (m most : Nat) (parts : List (List UInt8)) (sizes : List Nat) (h : Rb w F m most parts sizes) (A : Option Addr) (n c : Nat) (hfull : most < tot parts sizes + n) :
    Calls Try.prog 30 #[.pointer (some ⟨m, 0, none⟩), .slice A n c] w fun e w' => e = .returned (.int .i64 5) ∧ w = w' := by
  have hlen := rlen_any w F m most _ sizes h
  obtain ⟨hpl, hto, hmo, hsl, hss⟩ := h.le
  obtain ⟨vP, vS, vs, h1, _⟩ := h
  have c0 := h1.cell 0
  simp only [List.getElem?_toArray, List.getElem?_cons_zero] at c0
  generalize tot parts sizes = T at *
  have HLEN := Lib.hid hlen
  have hnl : (most : Int) - T < n := by omega
  clear hlen hpl hss h1
  go_enter Try.func30, Try.ntmps30
  go_wp2_with fail
  refine HLEN.out.mono ?_
  rintro e w0 ⟨rfl, rfl⟩
  go_wp2_with fail
  go_ret
  exact ⟨rfl, rfl⟩

/-- What is told of k bytes more; the parts then. -/
def raP (most : Nat) (Q : List (List UInt8)) (P : List UInt8) (sizes : List Nat) (bs : List UInt8) : List UInt8 := if most < tot (Q ++ [P]) sizes + bs.length then P else P ++ bs

theorem rbytes_any (w : World) (F : Nat → Prop) (m most : Nat) (Q : List (List UInt8)) (P : List UInt8) (sizes : List Nat) (h : Rb w F m most (Q ++ [P]) sizes) (B : Nat) (A : Option Addr) (bs : List UInt8) (c : Nat) (hb : Byt w B A bs) :
    Calls Try.prog 30 #[.pointer (some ⟨m, 0, none⟩), .slice A bs.length c] w fun e w' => e = .returned (.int .i64 (adE most (tot (Q ++ [P]) sizes) bs.length)) ∧ RbOut w w' F m most (Q ++ [raP most Q P sizes bs]) sizes := by
  by_cases hf : most < tot (Q ++ [P]) sizes + bs.length
  · simp only [adE, raP, if_pos hf]
    refine (rbytes_full w F m most _ sizes h A bs.length c hf).mono ?_
    rintro e w' ⟨rfl, rfl⟩
    exact ⟨rfl, RbOut.same h⟩
  · simp only [adE, raP, if_neg hf]
    exact rbytes_ok w F m most Q P sizes h B A bs c hb (by omega)

end Go.Proofs.Ytkeiamihgcbcbaa

