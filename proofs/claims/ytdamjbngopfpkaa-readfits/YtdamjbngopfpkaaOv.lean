/- Values that came in: as values, as lists of them. -/
import Derived.Test.YtdamjbngopfpkaaOf
import Derived.Test.YtdamjbngopfpkaaVa
namespace Go.Proofs.Ytdamjbngopfpkaa
open Go.ChangeShapes Go.WideShapes Go.ChangeAt Go.RowKit Go.Deep

instance : Inhabited Va := ⟨.mk 0 none 0 [] none 0 []⟩
set_option maxRecDepth 100000 in
theorem bytes_value : Try.prog.bytesOf 35 = 56 := by kernel_rfl
set_option maxRecDepth 100000 in
theorem cells_value : Try.prog.cellsOf 35 = 3 := by kernel_rfl
set_option maxRecDepth 100000 in
theorem cells_values : Try.prog.cellsOf 33 = 1 := by kernel_rfl
set_option maxRecDepth 100000 in
theorem cells_bytes : Try.prog.cellsOf 25 = 1 := by kernel_rfl
set_option maxRecDepth 100000 in
theorem cells_u64 : Try.prog.cellsOf 32 = 1 := by kernel_rfl

section
variable {H : Type} {enc : TypeId × Value → H} {W : World} {v : Value} {d : DataW H} {p : List MemPlace} {base : Nat} {ts : List TypeId} {ds : List (DataW H)}

set_option maxRecDepth 100000 in
/-- Bytes in a field. -/
theorem bytes_step {fuel : Nat} {x : DataW H × List MemPlace} (h : DataW.trod enc Try.prog W 0 (fun _ => true) true fuel 25 [v] = some x) (hw : ∀ n ∈ x.1.weights Try.prog 25, n ≤ reachBytes) :
    ∃ (A : Option Addr) (c : Nat) (xs : List UInt8), v = .slice A xs.length c ∧ xs.length ≤ c ∧ c ≤ 140737488351232 ∧ Byt W W.heap.size A xs := by
  rcases open_ints Try.underlying25 Try.underlying5 cells_u8 h with ⟨hcs, _⟩ | ⟨a, l, c, zs, hcs, _, hl, hm, hz, hx, hcell, hwz⟩
  · simp at hcs
    subst hcs
    exact ⟨none, 0, [], rfl, Nat.le_refl _, by omega, fun h => by simp at h⟩
  · simp at hcs
    subst hcs
    subst hx
    simp only [if_true] at hz
    rw [DataW.weights, Try.underlying25] at hw
    simp only [lits, List.length_map, List.length_take, List.length_drop, bytes_u8] at hw
    have hreach := hw _ (List.mem_cons_self)
    simp only [reachBytes] at hreach
    have hle : ((zs.take l).map fun z => UInt8.ofNat z.toNat).length = l := by
      rw [List.length_map, List.length_take]; omega
    refine ⟨some a, c, (zs.take l).map fun z => UInt8.ofNat z.toNat, by rw [hle], by rw [hle]; exact hl, by omega, ?_⟩
    intro hn
    rw [hle] at hn ⊢
    obtain ⟨b, o, s⟩ := a
    have hs : s = none := add_zero_of_cell (hcell 0 (by omega)) rfl
    subst hs
    refine ⟨b, o, rfl, ?_, fun i hi => ?_⟩
    · have := World.block_lt_of_cell? _ _ (hcell 0 (by omega))
      rwa [add_form] at this
    · have h1 := hcell i (by omega)
      rw [add_form] at h1
      rw [h1]
      have hi' : i < zs.length := by omega
      have hm : zs[i] ∈ zs := List.getElem_mem hi'
      have hw := hwz _ hm
      have hb := bounds_u8 hw
      simp only [List.getD, List.getElem?_map, List.getElem?_take_of_lt hi, List.getElem?_eq_getElem hi', Option.map_some, Option.getD_some]
      congr 2
      simp
      omega

set_option maxRecDepth 100000 in
/-- A list of values, each of which is opened as told. -/
theorem values_step {fuel : Nat} {x : DataW H × List MemPlace} (h : DataW.trod enc Try.prog W 0 (fun _ => true) true fuel 33 [v] = some x) (hw : ∀ n ∈ x.1.weights Try.prog 33, n ≤ reachBytes)
    (ih : ∀ m, m < fuel → ∀ (cs : List Value) (x : DataW H × List MemPlace), DataW.trod enc Try.prog W 0 (fun _ => true) true m 35 cs = some x → (∀ n ∈ x.1.weights Try.prog 35, n ≤ reachBytes) → ∃ f : Va, cs = f.cells.toList ∧ f.In W) :
    ∃ (A : Option Addr) (c : Nat) (ps : List Va), v = .slice A ps.length c ∧ ps.length ≤ c ∧ c ≤ 2513169434843 ∧ Va.Lie W A ps ∧ ∀ p ∈ ps, p.In W := by
  rcases DataW.trod_slice Try.underlying33 h with ⟨hcs, _⟩ | ⟨a, len, cap, elems, rest, n, hfu, hcs, rfl, _, hl, _, hlen, hel, hsp, _⟩
  · simp at hcs
    subst hcs
    exact ⟨none, 0, [], rfl, Nat.le_refl _, by omega, Va.Lie.nil _ _, fun p hp => by simp at hp⟩
  · simp at hcs
    subst hcs
    obtain ⟨hrl, _⟩ := hsp rfl
    rw [cells_value] at hel
    rw [DataW.weights, Try.underlying33] at hw
    simp only [List.length_map, bytes_value] at hw
    have hreach := hw _ (List.mem_cons_self)
    have each : ∀ i, i < len → ∃ f : Va, f.In W ∧ ∀ j u, f.cells[j]? = some u → W.cell? (a.add (i * 3 + j)) = some u := by
      intro i hi
      have he := hel i hi
      have hie : i < elems.length := by omega
      rw [List.getElem?_eq_getElem hie] at he
      obtain ⟨cs', hc, ht⟩ := Option.bind_eq_some_iff.1 he
      obtain ⟨_, hcl, hat⟩ := World.cells?_some hc
      obtain ⟨f, rfl, hf⟩ := ih n (by omega) cs' _ ht (fun k hk => hw k (List.mem_cons_of_mem _ (List.mem_append_left _ (weightsAll_mem (List.mem_map_of_mem (List.getElem_mem hie)) hk))))
      refine ⟨f, hf, fun j u hj => ?_⟩
      have hj3 : j < 3 := by
        rcases Nat.lt_or_ge j 3 with h | h
        · exact h
        · rw [Array.getElem?_eq_none (by simpa [Va.cells] using h)] at hj; cases hj
      have := hat j hj3
      rw [add_add] at this
      rw [this, ← hj]
      simp
    obtain ⟨q, hq⟩ := choose_lt each
    have hlr : ((List.range len).map q).length = len := by simp
    refine ⟨some a, cap, (List.range len).map q, by rw [hlr], by rw [hlr]; exact hl, ?_, ?_, ?_⟩
    · simp only [reachBytes] at hreach
      omega
    · intro hn
      rw [hlr] at hn
      obtain ⟨b, o, s⟩ := a
      have hc0 := (hq 0 (by omega)).2 0 _ rfl
      have hs : s = none := add_zero_of_cell hc0 rfl
      subst hs
      refine ⟨b, o, rfl, fun i p hi j u hu => ?_⟩
      have hil : i < len := by
        rcases Nat.lt_or_ge i len with h | h
        · exact h
        · rw [List.getElem?_eq_none (by rw [hlr]; exact h)] at hi; cases hi
      have e : p = q i := by
        rw [List.getElem?_map, List.getElem?_range hil] at hi
        simpa using hi.symm
      subst e
      have := (hq i hil).2 j u hu
      rw [add_form] at this
      rw [Nat.add_assoc]
      exact this
    · intro p hp
      obtain ⟨i, hi, rfl⟩ := List.mem_map.1 hp
      exact (hq i (List.mem_range.1 hi)).1

set_option maxRecDepth 100000 in
/-- A value's cells. -/
theorem value_open : ∀ (fuel : Nat) (cs : List Value) (x : DataW H × List MemPlace), DataW.trod enc Try.prog W 0 (fun _ => true) true fuel 35 cs = some x → (∀ n ∈ x.1.weights Try.prog 35, n ≤ reachBytes) → ∃ f : Va, cs = f.cells.toList ∧ f.In W := by
  intro fuel
  induction fuel using Nat.strongRecOn with
  | _ fuel ih =>
  intro cs x h hw
  obtain ⟨ys, k, rfl, rfl, hlen, hyl, hfld⟩ := DataW.trod_struct Try.underlying35 h
  rw [cells_value] at hlen
  match cs, hlen, ys, hyl with
  | [v0, v1, v2], _, [y0, y1, y2], _ =>
    have g0 := hfld 0 _ rfl
    have g1 := hfld 1 _ rfl
    have g2 := hfld 2 _ rfl
    simp [cells_u64, cells_bytes, cells_values] at g0 g1 g2
    obtain ⟨a0, e0, _, w0⟩ := DataW.trod_int Try.underlying32 g0
    simp at e0
    rw [DataW.weights, Try.underlying35] at hw
    simp [DataW.weightsEach] at hw
    obtain ⟨B, dd, bs, e1, b1, b2, b3⟩ := bytes_step g1 (fun n hn => hw n (by simp [hn]))
    obtain ⟨A, c, ps, e2, h1, h2, h3, h4⟩ := values_step g2 (fun n hn => hw n (by simp [hn])) (fun m hm => ih m (by omega))
    subst e0 e1 e2
    exact ⟨.mk a0 B dd bs A c ps, rfl, .mk (bounds_u64 w0) b3 ⟨b1, by omega⟩ h1 (by omega) h3 h4⟩

set_option maxRecDepth 100000 in
/-- A value that came in. -/
theorem arg_value (hv : Value.okWide Try.prog W .any base 35 v) (h : DataW.Trod enc Try.prog W 0 (fun _ => true) true 35 v d p)
    (hsz : (DataW.weightsEach Try.prog ts ds).all (· ≤ reachBytes) = true) {j : Nat} (hj : ts[j]? = some 35) (hd : ds[j]? = some d) : ∃ f : Va, v = f.val ∧ f.In W := by
  obtain ⟨cs, rfl, _⟩ := okWide_struct Try.underlying35 hv
  obtain ⟨fuel, hf⟩ := h
  obtain ⟨f, hcs, hin⟩ := value_open fuel _ _ hf (weight_of hsz hj hd)
  refine ⟨f, ?_, hin⟩
  simp [Value.cells] at hcs
  rw [Va.val]
  congr 1

set_option maxRecDepth 100000 in
/-- Values that came in. -/
theorem arg_values (hv : Value.okWide Try.prog W .any base 33 v) (h : DataW.Trod enc Try.prog W 0 (fun _ => true) true 33 v d p)
    (hsz : (DataW.weightsEach Try.prog ts ds).all (· ≤ reachBytes) = true) {j : Nat} (hj : ts[j]? = some 33) (hd : ds[j]? = some d) :
    ∃ (A : Option Addr) (c : Nat) (ps : List Va), v = .slice A ps.length c ∧ ps.length ≤ c ∧ c ≤ 2513169434843 ∧ Va.Lie W A ps ∧ ∀ p ∈ ps, p.In W := by
  obtain ⟨A, n, c, rfl⟩ := okWide_slice Try.underlying33 hv
  obtain ⟨fuel, hf⟩ := h
  exact values_step hf (weight_of hsz hj hd) (fun m _ => value_open m)
end
end Go.Proofs.Ytdamjbngopfpkaa

