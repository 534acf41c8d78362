/- Acts of layer 2 that came in. -/
import Derived.Test.YtkeiamihgcbcbaaOpen
import Derived.Test.YtkeiamihgcbcbaaFoot
import Derived.Deep.Slices
import Derived.Deep.Fields
import Derived.ChangeSame
namespace Go.Proofs.Ytkeiamihgcbcbaa
open Go.ChangeShapes Go.WideShapes Go.ChangeAt Go.RowKit Go.Deep

/-- An act: its numbers, its bytes and where they lie. -/
structure Ac where
  kind : Int
  size : Int
  n : Int
  x : Nat
  A : Option Addr
  c : Nat
  bs : List UInt8
instance : Inhabited Ac := ⟨⟨0, 0, 0, 0, none, 0, []⟩⟩

/-- Its five cells. -/
def Ac.cells (a : Ac) : Array Value := #[.int .i64 a.kind, .int .i64 a.size, .int .i64 a.n, .int .u64 a.x, .slice a.A a.bs.length a.c]
/-- What holds of each. -/
def Ac.ok (w : World) (a : Ac) : Prop := a.x < 18446744073709551616 ∧ Byt w w.heap.size a.A a.bs

/-- The slice at A holds the acts. -/
def Acts (w : World) (A : Option Addr) (zs : List Ac) : Prop :=
  0 < zs.length → ∃ b o, A = some ⟨b, o, none⟩ ∧ b < w.heap.size ∧ ∀ i, i < zs.length → ∀ j v, (zs.getD i default).cells[j]? = some v → w.cell? ⟨b, o + i * 5 + j, none⟩ = some v

theorem bytes_act : Try.prog.bytesOf 34 = 56 := by kernel_rfl
theorem cells_act : Try.prog.cellsOf 34 = 5 := by kernel_rfl
theorem cells_u64 : Try.prog.cellsOf 31 = 1 := by kernel_rfl
theorem cells_bytes : Try.prog.cellsOf 32 = 1 := by kernel_rfl

section
variable {H : Type} {enc : TypeId × Value → H} {W : World} {v : Value} {d : DataW H} {p : List MemPlace} {base : Nat} {ts : List TypeId} {ds : List (DataW H)}

/-- Bytes in a struct. -/
theorem field_bytes {fuel : Nat} {x : DataW H × List MemPlace} (h : DataW.trod enc Try.prog W 0 (fun _ => true) true fuel 32 [v] = some x) :
    ∃ (A : Option Addr) (c : Nat) (xs : List UInt8), v = .slice A xs.length c ∧ Byt W W.heap.size A xs := by
  rcases open_ints Try.underlying32 Try.underlying5 cells_u8 h with ⟨hcs, _⟩ | ⟨a, n, c, zs, hcs, _, hl, _, hz, _, hcell, hwz⟩
  · simp at hcs
    subst hcs
    exact ⟨none, 0, [], rfl, fun h => by simp at h⟩
  · simp at hcs
    subst hcs
    simp only [if_true] at hz
    have hle : ((zs.take n).map fun z => UInt8.ofNat z.toNat).length = n := by
      rw [List.length_map, List.length_take]; omega
    refine ⟨some a, c, (zs.take n).map fun z => UInt8.ofNat z.toNat, by rw [hle], ?_⟩
    intro hn
    rw [hle] at hn ⊢
    obtain ⟨b, o, s⟩ := a
    have hs : s = none := add_zero_of_cell (hcell 0 (by omega)) rfl
    subst hs
    refine ⟨b, o, rfl, ?_, fun i hi => ?_⟩
    · have := World.block_lt_of_cell? _ _ (hcell 0 (by omega))
      rwa [add_form] at this
    · have h1 := hcell i (by omega)
      rw [add_form] at h1
      rw [h1]
      have hi' : i < zs.length := by omega
      have hb := bounds_u8 (hwz _ (List.getElem_mem hi'))
      simp only [List.getD, List.getElem?_map, List.getElem?_take_of_lt hi, List.getElem?_eq_getElem hi', Option.map_some, Option.getD_some]
      congr 2
      simp
      omega

theorem arg_acts (hv : Value.okWide Try.prog W .any base 22 v) (h : DataW.Trod enc Try.prog W 0 (fun _ => true) true 22 v d p)
    (hsz : (DataW.weightsEach Try.prog ts ds).all (· ≤ reachBytes) = true) {j : Nat} (hj : ts[j]? = some 22) (hd : ds[j]? = some d) :
    ∃ (A : Option Addr) (c : Nat) (zs : List Ac), v = .slice A zs.length c ∧ zs.length ≤ c ∧ c ≤ 140737488351232 ∧ Acts W A zs ∧ ∀ z ∈ zs, z.ok W := by
  obtain ⟨A, n, c, rfl⟩ := okWide_slice Try.underlying22 hv
  obtain ⟨fuel, hf⟩ := h
  rcases open_slice Try.underlying22 hf with ⟨hcs, _⟩ | ⟨x, l, c', m, q, D, Pl, hcs, _, hl, hm, hmm, hx, hcell⟩
  · simp [Value.cells] at hcs
    obtain ⟨rfl, rfl, rfl⟩ := hcs
    exact ⟨none, 0, [], rfl, Nat.le_refl _, by omega, fun h => by simp at h, fun z hz => by simp at hz⟩
  · simp [Value.cells] at hcs
    obtain ⟨rfl, rfl, rfl⟩ := hcs
    simp only [Prod.mk.injEq] at hx
    obtain ⟨rfl, rfl⟩ := hx
    simp only [if_true] at hmm
    subst hmm
    have hreach : m ≤ 140737488351232 := by
      have := sized_slice hsz hj hd Try.underlying22
      rw [bytes_act] at this
      simp only [List.length_map, List.length_range, reachBytes] at this
      omega
    have each : ∀ i, i < m → ∃ a : Ac, a.ok W ∧ ∀ j v, a.cells[j]? = some v → W.cell? (x.add (i * 5 + j)) = some v := by
      intro i hi
      obtain ⟨cs', hc, ht⟩ := hcell i hi
      rw [cells_act] at hc
      obtain ⟨_, hlen, hat⟩ := World.cells?_some hc
      obtain ⟨ys, k, _, _, _, hyl, hfld⟩ := DataW.trod_struct Try.underlying34 ht
      match cs', hlen, ys, hyl with
      | [v0, v1, v2, v3, v4], _, [y0, y1, y2, y3, y4], _ =>
        have g0 := hfld 0 _ rfl
        have g1 := hfld 1 _ rfl
        have g2 := hfld 2 _ rfl
        have g3 := hfld 3 _ rfl
        have g4 := hfld 4 _ rfl
        simp [cells_int, cells_u64, cells_bytes] at g0 g1 g2 g3 g4
        obtain ⟨a0, e0, _, _⟩ := DataW.trod_int Try.underlying3 g0
        obtain ⟨a1, e1, _, _⟩ := DataW.trod_int Try.underlying3 g1
        obtain ⟨a2, e2, _, _⟩ := DataW.trod_int Try.underlying3 g2
        obtain ⟨a3, e3, _, w3⟩ := DataW.trod_int Try.underlying31 g3
        obtain ⟨B, cB, bs, e4, hbs⟩ := field_bytes g4
        simp at e0 e1 e2 e3
        have hb3 := bounds_u64 w3
        obtain ⟨x3, rfl⟩ := Int.eq_ofNat_of_zero_le (a := a3) (by omega)
        subst e0 e1 e2 e3 e4
        refine ⟨⟨a0, a1, a2, x3, B, cB, bs⟩, ⟨by simp only; omega, hbs⟩, fun j v hj => ?_⟩
        have hj5 : j < 5 := by
          rcases Nat.lt_or_ge j 5 with h | h
          · exact h
          · rw [Array.getElem?_eq_none (by simpa [Ac.cells] using h)] at hj; cases hj
        have := hat j hj5
        rw [add_add] at this
        rw [this, ← hj]
        simp [Ac.cells]
    obtain ⟨q, hq⟩ := choose_lt each
    have hlr : ((List.range n).map q).length = n := by simp
    refine ⟨some x, m, (List.range n).map q, by rw [hlr], by rw [hlr]; exact hl, hreach, ?_, ?_⟩
    · intro hn
      rw [hlr] at hn ⊢
      obtain ⟨b, o, s⟩ := x
      have hc0 := (hq 0 (by omega)).2 0 _ rfl
      have hs : s = none := add_zero_of_cell hc0 rfl
      subst hs
      refine ⟨b, o, rfl, ?_, fun i hi j v hjv => ?_⟩
      · have := World.block_lt_of_cell? _ _ hc0
        rwa [add_form] at this
      · have e : ((List.range n).map q).getD i default = q i := by simp [List.getD, hi]
        rw [e] at hjv
        have := (hq i (by omega)).2 j v hjv
        rw [add_form] at this
        rw [Nat.add_assoc]
        exact this
    · intro z hz
      obtain ⟨i, hi, rfl⟩ := List.mem_map.1 hz
      exact (hq i (by have := List.mem_range.1 hi; omega)).1
end
end Go.Proofs.Ytkeiamihgcbcbaa

