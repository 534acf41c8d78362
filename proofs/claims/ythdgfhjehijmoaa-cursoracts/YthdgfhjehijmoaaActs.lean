/- Acts that came in: pairs of numbers. -/
import Derived.Test.YthdgfhjehijmoaaOpen
namespace Go.Proofs.Ythdgfhjehijmoaa
open Go.ChangeShapes Go.WideShapes Go.ChangeAt Go.RowKit Go.Deep

/-- The slice at A holds the pairs. -/
def Acts (w : World) (A : Option Addr) (zs : List (Int × Int)) : Prop :=
  0 < zs.length → ∃ b o, A = some ⟨b, o, none⟩ ∧ b < w.heap.size ∧ ∀ i, i < zs.length →
    w.cell? ⟨b, o + i * 2, none⟩ = some (.int .i64 (zs.getD i (0, 0)).1) ∧ w.cell? ⟨b, o + i * 2 + 1, none⟩ = some (.int .i64 (zs.getD i (0, 0)).2)

theorem bytes_act : Try.prog.bytesOf 32 = 16 := by kernel_rfl
theorem cells_act : Try.prog.cellsOf 32 = 2 := by kernel_rfl

section
variable {H : Type} {enc : TypeId × Value → H} {W : World} {v : Value} {d : DataW H} {p : List MemPlace} {base : Nat} {ts : List TypeId} {ds : List (DataW H)}

theorem arg_acts (hv : Value.okWide Try.prog W .any base 23 v) (h : DataW.Trod enc Try.prog W 0 (fun _ => true) true 23 v d p)
    (hsz : (DataW.weightsEach Try.prog ts ds).all (· ≤ reachBytes) = true) {j : Nat} (hj : ts[j]? = some 23) (hd : ds[j]? = some d) :
    ∃ (A : Option Addr) (c : Nat) (zs : List (Int × Int)), v = .slice A zs.length c ∧ zs.length ≤ c ∧ c ≤ 140737488351232 ∧ Acts W A zs ∧ ∀ z ∈ zs, (Lit.int .i64 z.1).wf = true ∧ (Lit.int .i64 z.2).wf = true := by
  obtain ⟨A, n, c, rfl⟩ := okWide_slice Try.underlying23 hv
  obtain ⟨fuel, hf⟩ := h
  rcases open_slice_pairs Try.underlying23 Try.underlying32 cells_act rfl rfl cells_int cells_int hf with ⟨hcs, _⟩ | ⟨x, l, c', m, q, V0, V1, D0, D1, P0, P1, hcs, _, hl, hm, hmm, hx, hcell⟩
  · simp [Value.cells] at hcs
    obtain ⟨rfl, rfl, rfl⟩ := hcs
    exact ⟨none, 0, [], rfl, Nat.le_refl _, by omega, fun h => by simp at h, fun z hz => by simp at hz⟩
  · simp [Value.cells] at hcs
    obtain ⟨rfl, rfl, rfl⟩ := hcs
    simp only [Prod.mk.injEq] at hx
    obtain ⟨rfl, rfl⟩ := hx
    simp only [if_true] at hmm
    subst hmm
    have hreach : m ≤ 140737488351232 := by
      have := sized_slice hsz hj hd Try.underlying23
      rw [bytes_act] at this
      simp only [List.length_map, List.length_range, reachBytes] at this
      omega
    have val : ∀ i, i < m → ∃ a b, V0 i = .int .i64 a ∧ V1 i = .int .i64 b ∧ (Lit.int .i64 a).wf = true ∧ (Lit.int .i64 b).wf = true := by
      intro i hi
      obtain ⟨_, _, t0, t1⟩ := hcell i hi
      obtain ⟨a, e0, _, wa⟩ := DataW.trod_int Try.underlying3 t0
      obtain ⟨b, e1, _, wb⟩ := DataW.trod_int Try.underlying3 t1
      simp at e0 e1
      exact ⟨a, b, e0, e1, wa, wb⟩
    refine ⟨some x, m, (List.range n).map fun i => (intOf (V0 i), intOf (V1 i)), by simp, by simpa using hl, hreach, ?_, ?_⟩
    · intro hn
      simp only [List.length_map, List.length_range] at hn ⊢
      obtain ⟨b, o, s⟩ := x
      have hs : s = none := add_zero_of_cell (hcell 0 (by omega)).1 (by simp)
      subst hs
      refine ⟨b, o, rfl, ?_, fun i hi => ?_⟩
      · have := World.block_lt_of_cell? _ _ (hcell 0 (by omega)).1
        rwa [add_form] at this
      · obtain ⟨h0, h1, _, _⟩ := hcell i (by omega)
        obtain ⟨a, b', e0, e1, _, _⟩ := val i (by omega)
        rw [add_form] at h0 h1
        rw [h0, Nat.add_assoc, h1]
        simp [List.getD, hi, e0, e1, intOf]
    · intro z hz
      obtain ⟨i, hi, rfl⟩ := List.mem_map.1 hz
      have hi' := List.mem_range.1 hi
      obtain ⟨a, b', e0, e1, wa, wb⟩ := val i (by omega)
      simp only [e0, e1, intOf]
      exact ⟨wa, wb⟩
end
end Go.Proofs.Ythdgfhjehijmoaa
