/- The document's builder of layer 2: what one holds, and contracts of its functions. -/
import Derived.Test.YtkeiamihgcbcbaaDo2
import Derived.Test.YtkeiamihgcbcbaaRefNum
namespace Go.Proofs.Ytkeiamihgcbcbaa
open Go.RowKit

theorem bytes_info : (Try.prog.info? 32).map (fun i => (i.zero, i.size, i.bytes)) = some (some (.slice none 0 0), 1, 24) := by kernel_rfl
theorem int_info : (Try.prog.info? 3).map (fun i => (i.zero, i.size, i.bytes)) = some (some (.int .i64 0), 1, 8) := by kernel_rfl

/-- Slices that own rows of bytes. -/
def Rows_ (w : World) (vs : List Value) (parts : List (List UInt8)) : Prop :=
  vs.length = parts.length ∧ ∀ i, i < parts.length → w.ownsRow 0 5 1 (vs.getD i (.int .i64 0)) (parts.getD i []).length (cellsOf (parts.getD i []))
theorem Rows_.fr {w w' : World} {F : Nat → Prop} {vs : List Value} {parts : List (List UInt8)} (h : Rows_ w vs parts) (g : Fr w w' F) (hn : ∀ v ∈ vs, ∀ k, v.ownBlock = some k → ¬ F k) : Rows_ w' vs parts := by
  refine ⟨h.1, fun i hi => own_fr (h.2 i hi) g (hn _ ?_)⟩
  have hi' : i < vs.length := by rw [h.1]; exact hi
  rw [List.getD, List.getElem?_eq_getElem hi']
  exact List.getElem_mem hi'

/-- How many bytes, with all lengths'. -/
def tot (parts : List (List UInt8)) (sizes : List Nat) : Nat := (parts.map List.length).sum + sizes.sum
def intsOf (sizes : List Nat) : List Value := sizes.map fun (s : Nat) => Value.int .i64 (s : Int)
theorem intsOf_at (sizes : List Nat) (i : Nat) (h : i < sizes.length) : (intsOf sizes)[i]? = some (.int .i64 ((sizes.getD i 0 : Nat) : Int)) := by
  simp [intsOf, List.getD, List.getElem?_eq_getElem h]

/-- The document's builder in block m; all of it lies in blocks of F. -/
def Rb (w : World) (F : Nat → Prop) (m most : Nat) (parts : List (List UInt8)) (sizes : List Nat) : Prop :=
  ∃ vP vS vs, Whole w m #[.int .i64 most, vP, vS] 41 ∧ w.ownsRow 0 32 1 vP vs.length vs ∧ w.ownsRow 0 3 1 vS sizes.length (intsOf sizes) ∧ Rows_ w vs parts ∧
    F m ∧ (∀ g, vP.ownBlock = some g → F g) ∧ (∀ g, vS.ownBlock = some g → F g) ∧ (∀ v ∈ vs, ∀ g, v.ownBlock = some g → F g) ∧ (∀ i, F i → i < w.heap.size) ∧
    parts.length = sizes.length + 1 ∧ tot parts sizes ≤ most ∧ most ≤ 2000 ∧ sizes.length ≤ most ∧ ∀ s ∈ sizes, 1 ≤ s ∧ s ≤ 3

def RbOut (w w' : World) (F : Nat → Prop) (m most : Nat) (parts : List (List UInt8)) (sizes : List Nat) : Prop :=
  ∃ F', Rb w' F' m most parts sizes ∧ Fr w w' F ∧ ∀ i, F' i → F i ∨ w.heap.size ≤ i

theorem Rb.lt {w : World} {F : Nat → Prop} {m most : Nat} {parts : List (List UInt8)} {sizes : List Nat} (h : Rb w F m most parts sizes) : m < w.heap.size := by
  obtain ⟨_, _, _, h, _⟩ := h
  exact h.lt
theorem Rb.has {w : World} {F : Nat → Prop} {m most : Nat} {parts : List (List UInt8)} {sizes : List Nat} (h : Rb w F m most parts sizes) : ∀ i, F i → i < w.heap.size := by
  obtain ⟨_, _, _, _, _, _, _, _, _, _, _, h, _⟩ := h
  exact h
theorem Rb.le {w : World} {F : Nat → Prop} {m most : Nat} {parts : List (List UInt8)} {sizes : List Nat} (h : Rb w F m most parts sizes) : parts.length = sizes.length + 1 ∧ tot parts sizes ≤ most ∧ most ≤ 2000 ∧ sizes.length ≤ most ∧ ∀ s ∈ sizes, 1 ≤ s ∧ s ≤ 3 := by
  obtain ⟨_, _, _, _, _, _, _, _, _, _, _, _, h⟩ := h
  exact h
theorem Rb.fr {w w' : World} {F G : Nat → Prop} {m most : Nat} {parts : List (List UInt8)} {sizes : List Nat} (h : Rb w F m most parts sizes) (g : Fr w w' G) (hr : ∀ i, F i → ¬ G i) : Rb w' F m most parts sizes := by
  obtain ⟨vP, vS, vs, h1, h2, h3, h4, h5, h6, h7, h8, h9, h10⟩ := h
  exact ⟨vP, vS, vs, h1.fr g (hr m h5), own_fr h2 g (fun k hk => hr k (h6 k hk)), own_fr h3 g (fun k hk => hr k (h7 k hk)), h4.fr g (fun v hv k hk => hr k (h8 v hv k hk)), h5, h6, h7, h8, fun i hi => Nat.lt_of_lt_of_le (h9 i hi) g.size, h10⟩
theorem RbOut.same {w : World} {F : Nat → Prop} {m most : Nat} {parts : List (List UInt8)} {sizes : List Nat} (h : Rb w F m most parts sizes) : RbOut w w F m most parts sizes := ⟨F, h, Fr.refl _ _, fun _ hi => .inl hi⟩
theorem RbOut.ahead {w W w' : World} {F : Nat → Prop} {m most : Nat} {parts : List (List UInt8)} {sizes : List Nat} (h : RbOut W w' F m most parts sizes) (hF : Fr w W (fun _ => False)) : RbOut w w' F m most parts sizes := by
  obtain ⟨F', h1, h2, h3⟩ := h
  exact ⟨F', h1, (hF.mono (fun _ _ h => h.elim)).trans h2 (fun _ _ h => h), fun i hi => (h3 i hi).imp id (fun h => Nat.le_trans hF.size h)⟩

set_option maxHeartbeats 400000 in
theorem rnew_ok (w : World) (most : Nat) (hm : most ≤ 2000) :
    Calls Try.prog 12 #[.int .i64 most] w fun e w' => ∃ m, e = .returned (.pointer (some ⟨m, 0, none⟩)) ∧ (∃ F, Rb w' F m most [[]] [] ∧ ∀ i, F i → w.heap.size ≤ i) ∧ Grew w w' none := by
  have hW := Whole.new w #[.slice none 0 0] 32
  have hO := World.ownsRow_lit (base := 0) (e := 32) (size := 1) w #[.slice none 0 0] 1 (Nat.zero_le _) (by unfold maxLen; omega) rfl
  have HO := Lib.hid hO
  clear hW hO
  go_enter Try.func12, Try.ntmps12
  go_wp2
  go_ret
  have hf : Fr (w.alloc (.cells #[.slice none 0 0] 32)) ((w.alloc (.cells #[.slice none 0 0] 32)).alloc (.cells #[.int .i64 most, .slice (some ⟨w.heap.size, 0, none⟩) 1 1, .slice none 0 0] 41)) (fun _ => False) := (Fr.refl _ _).alloc _
  have hW2 := Whole.new (w.alloc (.cells #[.slice none 0 0] 32)) #[.int .i64 most, .slice (some ⟨w.heap.size, 0, none⟩) 1 1, .slice none 0 0] 41
  rw [show (w.alloc (.cells #[.slice none 0 0] 32)).heap.size = w.heap.size + 1 from by simp] at hW2
  refine ⟨w.heap.size + 1, rfl, ⟨fun i => i = w.heap.size ∨ i = w.heap.size + 1, ⟨_, _, [.slice none 0 0], hW2, own_fr HO.out hf (fun _ _ h => h), World.ownsRow_nil _ _ _ _, ⟨rfl, fun i hi => ?_⟩, .inr rfl, fun g h => ?_, fun g h => ?_, fun v hv g h => ?_, fun i hi => ?_, rfl, Nat.zero_le _, hm, Nat.zero_le _, fun s h => ?_⟩, fun i hi => by omega⟩, grew_alloc (grew_alloc (grew_refl _ _) _) _⟩
  · have : i = 0 := by simpa using hi
    subst this
    exact World.ownsRow_nil _ _ _ _
  · simp [Value.ownBlock] at h; exact .inl h.symm
  · simp [Value.ownBlock] at h
  · simp at hv; subst hv; simp [Value.ownBlock] at h
  · simp; omega
  · simp at h

theorem sum_take_succ (l : List Nat) (k : Nat) (h : k < l.length) : (l.take (k + 1)).sum = (l.take k).sum + l.getD k 0 := by
  rw [List.take_succ_eq_append_getElem h, List.sum_append]
  simp only [List.getD, List.getElem?_eq_getElem h, List.sum_cons, List.sum_nil, Option.getD_some, Nat.add_zero]
theorem sum_take_le (l : List Nat) (k : Nat) : (l.take k).sum ≤ l.sum := by
  have := List.take_append_drop k l
  have h2 := congrArg List.sum this
  rw [List.sum_append] at h2
  omega

set_option maxHeartbeats 2000000 in
theorem rlen_any (w : World) (F : Nat → Prop) (m most : Nat) (parts : List (List UInt8)) (sizes : List Nat) (h : Rb w F m most parts sizes) :
    Calls Try.prog 16 #[.pointer (some ⟨m, 0, none⟩)] w fun e w' => e = .returned (.int .i64 (tot parts sizes)) ∧ w = w' := by
  obtain ⟨vP, vS, vs, h1, h2, h3, h4, _, _, _, _, _, h10, h11, h12, h13, _⟩ := h
  obtain ⟨AP, cP, rfl, _⟩ := own_form h2
  obtain ⟨AS, cS, rfl, _⟩ := own_form h3
  have c1 := h1.cell 1
  have c2 := h1.cell 2
  simp only [List.getElem?_toArray, List.getElem?_cons_succ, List.getElem?_cons_zero] at c1 c2
  have hvl := h4.1
  have hcp : ∀ k, k < parts.length → ∃ g, AP = some ⟨g, 0, none⟩ ∧ ∃ A c, w.cell? ⟨g, k, none⟩ = some (.slice A (parts.getD k []).length c) := by
    intro k hk
    obtain ⟨g, cap, hv, _⟩ := h2.form (by omega)
    injection hv with hA _ hc
    subst hA hc
    obtain ⟨A, c, e, _⟩ := own_form (h4.2 k hk)
    refine ⟨g, rfl, A, c, ?_⟩
    have hk' : k < vs.length := by omega
    rw [h2.cellAt k (by omega), List.getElem?_eq_getElem hk', ← e]
    simp [List.getD, List.getElem?_eq_getElem hk']
  have hcs : ∀ k, k < sizes.length → ∃ g, AS = some ⟨g, 0, none⟩ ∧ w.cell? ⟨g, k, none⟩ = some (.int .i64 ((sizes.getD k 0 : Nat) : Int)) := by
    intro k hk
    obtain ⟨g, cap, hv, _⟩ := h3.form (by omega)
    injection hv with hA _ hc
    subst hA hc
    exact ⟨g, rfl, by rw [h3.cellAt k (by omega), intsOf_at _ _ hk]⟩
  have HCP := Lib.hid hcp
  have HCS := Lib.hid hcs
  have HVL := Lib.hid hvl
  have HT := Lib.hid h11
  have HTL : tot parts sizes ≤ 2000 := by omega
  clear h1 h2 h3 h4 hcp hcs
  rw [hvl] at c1
  clear hvl
  go_enter Try.func16, Try.ntmps16
  go_wp2_with fail
  go_loop [3, 4] (fun n i => ∃ k : Nat, k ≤ parts.length ∧ i = .int .i64 k ∧ n = .int .i64 (((parts.map List.length).take k).sum : Nat)) (fun _ i => parts.length - (intOf i).toNat)
  case atStart => exact ⟨0, Nat.zero_le _, rfl, rfl⟩
  case round =>
    obtain ⟨k, hk, rfl, rfl⟩ := hrel
    have hle := sum_take_le (parts.map List.length) k
    have hle2 : (parts.map List.length).sum ≤ tot parts sizes := by unfold tot; omega
    by_cases hlt : k < parts.length
    · obtain ⟨g, rfl, A, c, hck⟩ := HCP.out k hlt
      have hss := sum_take_succ (parts.map List.length) k (by simpa using hlt)
      have hgd : (parts.map List.length).getD k 0 = (parts.getD k []).length := by simp [List.getD, List.getElem?_eq_getElem hlt]
      have hle3 := sum_take_le (parts.map List.length) (k + 1)
      rw [hgd] at hss
      have HSS := Lib.hid hss
      have hbd : ((parts.map List.length).take k).sum + (parts.getD k []).length ≤ 2000 := by omega
      clear hgd hss hle3
      generalize ((parts.map List.length).take k).sum = S at *
      generalize (parts.getD k []).length = l at *
      go_wp2
      go_round
      case rel => exact ⟨k + 1, by omega, by go_num, by rw [HSS.out]; go_num⟩
      case measure => simp [intOf]; omega
    · obtain rfl : k = parts.length := by omega
      rw [List.take_of_length_le (by simp)]
      have htd : tot parts sizes = (parts.map List.length).sum + sizes.sum := rfl
      have HTD := Lib.hid htd
      clear htd hle
      generalize (parts.map List.length).sum = S at *
      go_wp2_with fail
      go_loop [3, 5] (fun n i => ∃ k : Nat, k ≤ sizes.length ∧ i = .int .i64 k ∧ n = .int .i64 ((S + (sizes.take k).sum : Nat) : Int)) (fun _ i => sizes.length - (intOf i).toNat)
      case atStart => exact ⟨0, Nat.zero_le _, rfl, rfl⟩
      case round =>
        obtain ⟨k, hk, rfl, rfl⟩ := hrel
        have hle := sum_take_le sizes k
        have htd2 := HTD.out
        by_cases hlt : k < sizes.length
        · obtain ⟨g, rfl, hck⟩ := HCS.out k hlt
          have hss := sum_take_succ sizes k hlt
          have hle3 := sum_take_le sizes (k + 1)
          have hbd : S + (sizes.take k).sum + sizes.getD k 0 ≤ 2000 := by omega
          have HSS := Lib.hid hss
          clear hss hle3 htd2
          generalize (sizes.take k).sum = T at *
          generalize sizes.getD k 0 = l at *
          go_wp2
          go_round
          case rel => exact ⟨k + 1, by omega, by go_num, by rw [HSS.out]; go_num⟩
          case measure => simp [intOf]; omega
        · obtain rfl : k = sizes.length := by omega
          rw [List.take_length]
          clear htd2
          go_wp2
          go_ret
          refine ⟨?_, rfl⟩
          rw [HTD.out]
          rfl

end Go.Proofs.Ytkeiamihgcbcbaa

