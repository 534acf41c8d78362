/- Lists of uint64 that came in. -/
import Derived.Test.YtnegakobammljaaTl1
import Derived.Test.YtnegakobammljaaOpen
namespace Go.Proofs.Ytnegakobammljaa
open Go.ChangeShapes Go.WideShapes Go.ChangeAt Go.RowKit Go.Deep

set_option maxRecDepth 100000 in
theorem bytes_u64 : Try.prog.bytesOf 47 = 8 := by kernel_rfl
set_option maxRecDepth 100000 in
theorem cells_u64 : Try.prog.cellsOf 47 = 1 := by kernel_rfl

section
variable {H : Type} {enc : TypeId × Value → H} {W : World} {v : Value} {d : DataW H} {p : List MemPlace} {base : Nat} {ts : List TypeId} {ds : List (DataW H)}
set_option maxRecDepth 100000 in
theorem arg_u64s (hv : Value.okWide Try.prog W .any base 32 v) (h : DataW.Trod enc Try.prog W 0 (fun _ => true) true 32 v d p)
    (hsz : (DataW.weightsEach Try.prog ts ds).all (· ≤ reachBytes) = true) {j : Nat} (hj : ts[j]? = some 32) (hd : ds[j]? = some d) :
    ∃ (A : Option Addr) (c : Nat) (ns : List Nat), v = .slice A ns.length c ∧ ns.length ≤ c ∧ c ≤ 140737488351232 ∧ R64 W W.heap.size A ns ∧ ∀ z ∈ ns, z < 18446744073709551616 := by
  obtain ⟨A, n, c, rfl⟩ := okWide_slice Try.underlying32 hv
  obtain ⟨fuel, hf⟩ := h
  rcases open_ints Try.underlying32 Try.underlying47 cells_u64 hf with ⟨hcs, _⟩ | ⟨x, l, c', zs, hcs, _, hl, hm, hz, hx, hcell, hwz⟩
  · simp [Value.cells] at hcs
    obtain ⟨rfl, rfl, rfl⟩ := hcs
    exact ⟨none, 0, [], rfl, Nat.le_refl _, by omega, fun h => by simp at h, fun z hz => by simp at hz⟩
  · simp [Value.cells] at hcs
    obtain ⟨rfl, rfl, rfl⟩ := hcs
    simp only [Prod.mk.injEq] at hx
    obtain ⟨rfl, rfl⟩ := hx
    simp only [if_true] at hz
    have hreach : c ≤ 140737488351232 := by
      have := sized_slice hsz hj hd Try.underlying32
      rw [bytes_u64] at this
      simp only [lits, List.length_map, List.length_take, List.length_drop, reachBytes] at this
      omega
    have hbd : ∀ z ∈ zs, 0 ≤ z ∧ z ≤ 18446744073709551615 := fun z hz => by
      have h := hwz z hz
      simp [Lit.wf, IntKind.min, IntKind.max, IntKind.signed, IntKind.bits] at h
      exact h
    have hle : ((zs.take n).map Int.toNat).length = n := by rw [List.length_map, List.length_take]; omega
    refine ⟨some x, c, (zs.take n).map Int.toNat, by rw [hle], by rw [hle]; exact hl, hreach, ?_, fun z hz => ?_⟩
    · intro hn
      rw [hle] at hn
      obtain ⟨b, o, s⟩ := x
      have hs : s = none := add_zero_of_cell (hcell 0 (by omega)) rfl
      subst hs
      refine ⟨b, o, rfl, ?_, fun i hi => ?_⟩
      · have := World.block_lt_of_cell? _ _ (hcell 0 (by omega))
        rwa [add_form] at this
      · rw [hle] at hi
        have h1 := hcell i (by omega)
        rw [add_form] at h1
        rw [h1]
        have hi' : i < zs.length := by omega
        have hb := hbd _ (List.getElem_mem hi')
        simp only [List.getD, List.getElem?_map, List.getElem?_take_of_lt hi, List.getElem?_eq_getElem hi', Option.map_some, Option.getD_some]
        congr 2
        omega
    · obtain ⟨y, hy, rfl⟩ := List.mem_map.1 hz
      have := hbd y (List.mem_of_mem_take hy)
      omega
end
end Go.Proofs.Ytnegakobammljaa

