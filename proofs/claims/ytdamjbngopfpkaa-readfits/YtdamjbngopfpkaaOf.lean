/- Forms that came in: as values, as lists of them; rows of four numbers. -/
import Derived.Test.YtdamjbngopfpkaaOpen
import Derived.Test.YtdamjbngopfpkaaFo
import Derived.Deep.Slices
import Derived.Deep.Fields
import Derived.ChangeSame
import Derived.Laws.IdiomArrays
namespace Go.Proofs.Ytdamjbngopfpkaa
open Go.ChangeShapes Go.WideShapes Go.ChangeAt Go.RowKit Go.Deep Fo

instance : Inhabited Fo := ⟨.mk 0 0 0 0 0 none 0 []⟩
set_option maxRecDepth 100000 in
theorem bytes_form : Try.prog.bytesOf 24 = 64 := by kernel_rfl
set_option maxRecDepth 100000 in
theorem cells_form : Try.prog.cellsOf 24 = 6 := by kernel_rfl
set_option maxRecDepth 100000 in
theorem cells_forms : Try.prog.cellsOf 22 = 1 := by kernel_rfl
set_option maxRecDepth 100000 in
theorem weightsAll_mem {H : Type} {P : Program} {e : TypeId} {ds : List (DataW H)} {d : DataW H} (hd : d ∈ ds) {n : Nat} (hn : n ∈ d.weights P e) : n ∈ DataW.weightsAll P e ds := by
  induction ds with
  | nil => simp at hd
  | cons x xs ih =>
    rw [DataW.weightsAll, List.mem_append]
    rcases List.mem_cons.1 hd with rfl | h
    · exact .inl hn
    · exact .inr (ih h)

section
variable {H : Type} {enc : TypeId × Value → H} {W : World} {v : Value} {d : DataW H} {p : List MemPlace} {base : Nat} {ts : List TypeId} {ds : List (DataW H)}

set_option maxRecDepth 100000 in
/-- A list of forms, each of which is opened as told. -/
theorem forms_step {fuel : Nat} {x : DataW H × List MemPlace} (h : DataW.trod enc Try.prog W 0 (fun _ => true) true fuel 22 [v] = some x) (hw : ∀ n ∈ x.1.weights Try.prog 22, n ≤ reachBytes)
    (ih : ∀ m, m < fuel → ∀ (cs : List Value) (x : DataW H × List MemPlace), DataW.trod enc Try.prog W 0 (fun _ => true) true m 24 cs = some x → (∀ n ∈ x.1.weights Try.prog 24, n ≤ reachBytes) → ∃ f : Fo, cs = f.cells.toList ∧ f.In W) :
    ∃ (A : Option Addr) (c : Nat) (ps : List Fo), v = .slice A ps.length c ∧ ps.length ≤ c ∧ c ≤ 2199023255488 ∧ Lie W A ps ∧ ∀ p ∈ ps, p.In W := by
  rcases DataW.trod_slice Try.underlying22 h with ⟨hcs, _⟩ | ⟨a, len, cap, elems, rest, n, hfu, hcs, rfl, _, hl, _, hlen, hel, hsp, _⟩
  · simp at hcs
    subst hcs
    exact ⟨none, 0, [], rfl, Nat.le_refl _, by omega, Lie.nil _ _, fun p hp => by simp at hp⟩
  · simp at hcs
    subst hcs
    obtain ⟨hrl, _⟩ := hsp rfl
    rw [cells_form] at hel
    rw [DataW.weights, Try.underlying22] at hw
    simp only [List.length_map, bytes_form] at hw
    have hreach := hw _ (List.mem_cons_self)
    have each : ∀ i, i < len → ∃ f : Fo, f.In W ∧ ∀ j u, f.cells[j]? = some u → W.cell? (a.add (i * 6 + j)) = some u := by
      intro i hi
      have he := hel i hi
      have hie : i < elems.length := by omega
      rw [List.getElem?_eq_getElem hie] at he
      obtain ⟨cs', hc, ht⟩ := Option.bind_eq_some_iff.1 he
      obtain ⟨_, hcl, hat⟩ := World.cells?_some hc
      obtain ⟨f, rfl, hf⟩ := ih n (by omega) cs' _ ht (fun k hk => hw k (List.mem_cons_of_mem _ (List.mem_append_left _ (weightsAll_mem (List.mem_map_of_mem (List.getElem_mem hie)) hk))))
      refine ⟨f, hf, fun j u hj => ?_⟩
      have hj6 : j < 6 := by
        rcases Nat.lt_or_ge j 6 with h | h
        · exact h
        · rw [Array.getElem?_eq_none (by simpa [Fo.cells] using h)] at hj; cases hj
      have := hat j hj6
      rw [add_add] at this
      rw [this, ← hj]
      simp
    obtain ⟨q, hq⟩ := choose_lt each
    have hlr : ((List.range len).map q).length = len := by simp
    refine ⟨some a, cap, (List.range len).map q, by rw [hlr], by rw [hlr]; exact hl, ?_, ?_, ?_⟩
    · simp only [reachBytes] at hreach
      omega
    · intro hn
      rw [hlr] at hn
      obtain ⟨b, o, s⟩ := a
      have hc0 := (hq 0 (by omega)).2 0 _ rfl
      have hs : s = none := add_zero_of_cell hc0 rfl
      subst hs
      refine ⟨b, o, rfl, fun i p hi j u hu => ?_⟩
      have hil : i < len := by
        rcases Nat.lt_or_ge i len with h | h
        · exact h
        · rw [List.getElem?_eq_none (by rw [hlr]; exact h)] at hi; cases hi
      have e : p = q i := by
        rw [List.getElem?_map, List.getElem?_range hil] at hi
        simpa using hi.symm
      subst e
      have := (hq i hil).2 j u hu
      rw [add_form] at this
      rw [Nat.add_assoc]
      exact this
    · intro p hp
      obtain ⟨i, hi, rfl⟩ := List.mem_map.1 hp
      exact (hq i (List.mem_range.1 hi)).1

set_option maxRecDepth 100000 in
/-- A form's cells. -/
theorem form_open : ∀ (fuel : Nat) (cs : List Value) (x : DataW H × List MemPlace), DataW.trod enc Try.prog W 0 (fun _ => true) true fuel 24 cs = some x → (∀ n ∈ x.1.weights Try.prog 24, n ≤ reachBytes) → ∃ f : Fo, cs = f.cells.toList ∧ f.In W := by
  intro fuel
  induction fuel using Nat.strongRecOn with
  | _ fuel ih =>
  intro cs x h hw
  obtain ⟨ys, k, rfl, rfl, hlen, hyl, hfld⟩ := DataW.trod_struct Try.underlying24 h
  rw [cells_form] at hlen
  match cs, hlen, ys, hyl with
  | [v0, v1, v2, v3, v4, v5], _, [y0, y1, y2, y3, y4, y5], _ =>
    have g0 := hfld 0 _ rfl
    have g1 := hfld 1 _ rfl
    have g2 := hfld 2 _ rfl
    have g3 := hfld 3 _ rfl
    have g4 := hfld 4 _ rfl
    have g5 := hfld 5 _ rfl
    simp [cells_int, cells_forms] at g0 g1 g2 g3 g4 g5
    obtain ⟨a0, e0, _, _⟩ := DataW.trod_int Try.underlying3 g0
    obtain ⟨a1, e1, _, _⟩ := DataW.trod_int Try.underlying3 g1
    obtain ⟨a2, e2, _, _⟩ := DataW.trod_int Try.underlying3 g2
    obtain ⟨a3, e3, _, _⟩ := DataW.trod_int Try.underlying3 g3
    obtain ⟨a4, e4, _, _⟩ := DataW.trod_int Try.underlying3 g4
    simp at e0 e1 e2 e3 e4
    rw [DataW.weights, Try.underlying24] at hw
    simp [DataW.weightsEach] at hw
    obtain ⟨A, c, ps, e5, h1, h2, h3, h4⟩ := forms_step g5 (fun n hn => hw n (by simp [hn])) (fun m hm => ih m (by omega))
    subst e0 e1 e2 e3 e4 e5
    exact ⟨.mk a0 a1 a2 a3 a4 A c ps, rfl, .mk h1 (by omega) h3 h4⟩

set_option maxRecDepth 100000 in
theorem weight_of (hsz : (DataW.weightsEach Try.prog ts ds).all (· ≤ reachBytes) = true) {j : Nat} {t : TypeId} (hj : ts[j]? = some t) (hd : ds[j]? = some d) : ∀ n ∈ d.weights Try.prog t, n ≤ reachBytes := by
  intro n hn
  have := List.all_eq_true.1 hsz _ (DataW.weights_mem_each hj hd n hn)
  simpa using this

set_option maxRecDepth 100000 in
/-- A form that came in. -/
theorem arg_form (hv : Value.okWide Try.prog W .any base 24 v) (h : DataW.Trod enc Try.prog W 0 (fun _ => true) true 24 v d p)
    (hsz : (DataW.weightsEach Try.prog ts ds).all (· ≤ reachBytes) = true) {j : Nat} (hj : ts[j]? = some 24) (hd : ds[j]? = some d) : ∃ f : Fo, v = f.val ∧ f.In W := by
  obtain ⟨cs, rfl, _⟩ := okWide_struct Try.underlying24 hv
  obtain ⟨fuel, hf⟩ := h
  obtain ⟨f, hcs, hin⟩ := form_open fuel _ _ hf (weight_of hsz hj hd)
  refine ⟨f, ?_, hin⟩
  simp [Value.cells] at hcs
  rw [Fo.val]
  congr 1

set_option maxRecDepth 100000 in
/-- Forms that came in. -/
theorem arg_forms (hv : Value.okWide Try.prog W .any base 22 v) (h : DataW.Trod enc Try.prog W 0 (fun _ => true) true 22 v d p)
    (hsz : (DataW.weightsEach Try.prog ts ds).all (· ≤ reachBytes) = true) {j : Nat} (hj : ts[j]? = some 22) (hd : ds[j]? = some d) :
    ∃ (A : Option Addr) (c : Nat) (ps : List Fo), v = .slice A ps.length c ∧ ps.length ≤ c ∧ c ≤ 2199023255488 ∧ Lie W A ps ∧ ∀ p ∈ ps, p.In W := by
  obtain ⟨A, n, c, rfl⟩ := okWide_slice Try.underlying22 hv
  obtain ⟨fuel, hf⟩ := h
  exact forms_step hf (weight_of hsz hj hd) (fun m _ => form_open m)

end
end Go.Proofs.Ytdamjbngopfpkaa

