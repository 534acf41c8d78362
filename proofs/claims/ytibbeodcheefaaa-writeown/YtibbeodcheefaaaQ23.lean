/- What the statements ask of what is read. -/
import Derived.Test.YtibbeodcheefaaaQ22
import Derived.Test.YtibbeodcheefaaaQ14
import Derived.Test.YtibbeodcheefaaaQ21
import Derived.Test.YtibbeodcheefaaaQ8
namespace Go.Proofs.Ytibbeodcheefaaa
open Go.RowKit Va

set_option maxRecDepth 100000 in
theorem rdF_good {f : Fo} {xs : List UInt8} (hx : xs.length ≤ 1000000000000000) : (rdF f xs).n ≤ xs.length ∧ (rdF f xs).v.nf = (rdF f xs).v ∧ ((rdF f xs).e = 0 → f.chk = 0 ∧ fit f (rdF f xs).v = (((rdF f xs).n : Int), 0)) := by
  unfold rdF
  by_cases hc : f.chk = 0
  · rw [if_pos hc]
    obtain ⟨hd, hw⟩ := chk_zero hc
    have G := Rd.bd_good f hw hd xs hx
    exact ⟨G.le, G.nf, fun h => ⟨hc, (G.ok h).1⟩⟩
  · rw [if_neg hc]
    exact ⟨Nat.zero_le _, rfl, fun h => absurd h hc⟩
set_option maxRecDepth 100000 in
theorem rdAll_good {f : Fo} {xs : List UInt8} (hx : xs.length ≤ 1000000000000000) : (rdAll f xs).n ≤ xs.length ∧ ((rdAll f xs).e = 0 → f.chk = 0 ∧ (rdAll f xs).n = xs.length ∧ fit f (rdAll f xs).v = ((xs.length : Int), 0)) ∧ ((rdAll f xs).e ≠ 0 → (rdAll f xs).v = v0) := by
  obtain ⟨h1, h2, h3⟩ := rdF_good (f := f) hx
  have h4 := rdF_no (f := f) hx
  unfold rdAll
  by_cases h : (rdF f xs).e = 0 ∧ (rdF f xs).n < xs.length
  · rw [if_pos h]
    exact ⟨h1, fun h => absurd h (show ¬ (6 : Int) = 0 by omega), fun _ => rfl⟩
  · rw [if_neg h]
    refine ⟨h1, fun h0 => ?_, h4⟩
    obtain ⟨h5, h6⟩ := h3 h0
    have h7 : (rdF f xs).n = xs.length := by
      rcases Nat.lt_or_ge (rdF f xs).n xs.length with h8 | h8
      · exact absurd ⟨h0, h8⟩ h
      · omega
    rw [h7] at h6
    exact ⟨h5, h7, h6⟩
set_option maxRecDepth 100000 in
theorem same_of {a b u : Va} (ha : a.nf = u) (hb : b.nf = u) : same a b = true := (same_nf a b).2 (ha.trans hb.symm)
end Go.Proofs.Ytibbeodcheefaaa


/- Write, whatever the value; operations of the statements' drawn regions. -/
namespace Go.Proofs.Ytibbeodcheefaaa
open Go.RowKit Va

/-- Write's answer: the bytes of what fits, none of what doesn't. -/
theorem write_gen (w : World) (f : Fo) (hf : f.In w) (v : Va) (hv : v.In w) (hb : ∀ n, f.wrg = 0 → fit f v = (n, 0) → (Rd.wr f v).length ≤ 10000000) :
    Calls Try.prog 10 #[f.val, v.val] w fun e w' => ∃ (B : Option Addr) (d : Nat) (Z : List UInt8), e = .returned (.tuple #[.slice B Z.length d, .int .i64 (meas f v).2]) ∧ Byt w' w'.heap.size B Z ∧ ((meas f v).2 = 0 → Z = Rd.wr f v) ∧ ((meas f v).2 ≠ 0 → Z = []) ∧ Grew w w' none := by
  by_cases h : (meas f v).2 = 0
  · have hc : f.chk = 0 := by
      by_cases hc : f.chk = 0
      · exact hc
      · rw [meas, if_neg hc] at h; exact absurd h hc
    obtain ⟨hd, hw⟩ := chk_zero hc
    have hm : meas f v = fit f v := meas_ok hc
    have hn : fit f v = ((fit f v).1, 0) := Prod.ext rfl (by rw [← hm]; exact h)
    rw [h]
    refine (write_ok w f hf v hv hw _ hn (by rw [hm]; exact hn) (hb _ hw hn)).mono ?_
    rintro e w' ⟨vb, rfl, y1, _, y3⟩
    obtain ⟨B, d, rfl, _, hb⟩ := byt_of_own y1
    exact ⟨B, d, Rd.wr f v, rfl, hb, fun _ => rfl, fun h => absurd rfl h, y3⟩
  · refine (write_no w f hf v hv h).mono ?_
    rintro e w' ⟨rfl, g⟩
    exact ⟨none, 0, [], rfl, fun h => by simp at h, fun h' => absurd h' h, fun _ => rfl, g⟩
/-- Of a value that is not too great. -/
theorem wr_small {f : Fo} {v : Va} (h1 : v.cnt ≤ 2000) (h2 : v.byt ≤ 20000) (n : Int) (hw : f.wrg = 0) (hn : fit f v = (n, 0)) : (Rd.wr f v).length ≤ 36000 := by
  have := Rd.wr_wide f hw v n hn
  unfold Rd.wide at this
  omega

theorem enter_alive7 : ∀ args w, (callFunc 8 args).run Try.prog w = .ok (.enter 8 args) w := fun _ _ => by kernel_rfl
theorem enter_great5 : ∀ args w, (callFunc 9 args).run Try.prog w = .ok (.enter 9 args) w := fun _ _ => by kernel_rfl
theorem enter_rchk : ∀ args w, (callFunc 16 args).run Try.prog w = .ok (.enter 16 args) w := fun _ _ => by kernel_rfl
theorem enter_write : ∀ args w, (callFunc 10 args).run Try.prog w = .ok (.enter 10 args) w := fun _ _ => by kernel_rfl
section
variable {ρ : Operand → Value} {o : Oper}
theorem run_gtr {t u : TypeId} {x y : Operand} {a b : Int} (ho : o.op = .binOp .gtr t x y u) (hx : ρ x = .int .i64 a) (hy : ρ y = .int .i64 b) (w : World) : (execOp ρ o).run Try.prog w = .ok (.value (.bool (decide (b < a)))) w := by
  simp [execOp, ho, hx, hy, go_sem]
theorem run_arr2 {x : Operand} {q : Nat} (ho : o.op = .slice 48 x none none none) (hx : ρ x = .pointer (some ⟨q, 0, none⟩)) (w : World) : (execOp ρ o).run Try.prog w = .ok (.value (.slice (some ⟨q, 0, none⟩) 2 2)) w := by
  simp [execOp, ho, hx, go_sem]
theorem run_buildL {x : Operand} {A : Option Addr} {c : Nat} {ls : List Va} (ho : o.op = .build 29 #[(2, x)]) (hx : ρ x = .slice A ls.length c) (w : World) : (execOp ρ o).run Try.prog w = .ok (.value (Va.mk 0 none 0 [] A c ls).val) w := by
  simp [execOp, ho, hx, go_sem]
  rfl
theorem run_extr0 {x : Operand} {u v : Value} (ho : o.op = .extract x 0) (hx : ρ x = .tuple #[u, v]) (w : World) : (execOp ρ o).run Try.prog w = .ok (.value u) w := by
  simp [execOp, ho, hx, go_sem]
theorem run_extr1 {x : Operand} {u v : Value} (ho : o.op = .extract x 1) (hx : ρ x = .tuple #[u, v]) (w : World) : (execOp ρ o).run Try.prog w = .ok (.value v) w := by
  simp [execOp, ho, hx, go_sem]
theorem run_asg {x : Operand} {v : Value} (ho : o.op = .assign x) (hx : ρ x = v) (w : World) : (execOp ρ o).run Try.prog w = .ok (.value v) w := by
  simp [execOp, ho, hx, go_sem]
end
end Go.Proofs.Ytibbeodcheefaaa


/- Two values that came in as an array. -/
namespace Go.Proofs.Ytibbeodcheefaaa
open Go.ChangeShapes Go.WideShapes Go.ChangeAt Go.RowKit Go.Deep

set_option maxRecDepth 100000 in
theorem cells_value2 : Try.prog.cellsOf 48 = 6 := by kernel_rfl

section
variable {H : Type} {enc : TypeId × Value → H} {W : World} {v : Value} {d : DataW H} {p : List MemPlace} {base : Nat} {ts : List TypeId} {ds : List (DataW H)}

theorem trod_array2 {P : Program} {t e : TypeId} {fuel : Nat} {c0 c1 c2 c3 c4 c5 : Value} {x : DataW H × List MemPlace} (ht : P.underlying t = some (.array 2 e)) (hce : P.cellsOf e = 3)
    (h : DataW.trod enc P W 0 (fun _ => true) true fuel t [c0, c1, c2, c3, c4, c5] = some x) :
    ∃ y0 y1 n, x = (.agg [y0.1, y1.1], y0.2 ++ y1.2) ∧ DataW.trod enc P W 0 (fun _ => true) true n e [c0, c1, c2] = some y0 ∧ DataW.trod enc P W 0 (fun _ => true) true n e [c3, c4, c5] = some y1 := by
  cases fuel with
  | zero => simp [DataW.trod] at h
  | succ n =>
    unfold DataW.trod at h
    rw [ht] at h
    have r2 : List.range 2 = [0, 1] := rfl
    simp [r2, hce] at h
    obtain ⟨_, h⟩ := h
    cases h0 : DataW.trod enc P W 0 (fun _ => true) true n e [c0, c1, c2] with
    | none => simp [h0] at h
    | some y0 =>
      cases h1 : DataW.trod enc P W 0 (fun _ => true) true n e [c3, c4, c5] with
      | none => simp [h0, h1] at h
      | some y1 =>
        simp [h0, h1] at h
        exact ⟨y0, y1, n, h.symm, h0, h1⟩

set_option maxRecDepth 100000 in
theorem arg_value2 (hv : Value.okWide Try.prog W .any base 48 v) (h : DataW.Trod enc Try.prog W 0 (fun _ => true) true 48 v d p)
    (hsz : (DataW.weightsEach Try.prog ts ds).all (· ≤ reachBytes) = true) {j : Nat} (hj : ts[j]? = some 48) (hd : ds[j]? = some d) :
    ∃ a b : Va, v = .agg #[.int .u64 a.n, .slice a.B a.bs.length a.d, .slice a.A a.ls.length a.c, .int .u64 b.n, .slice b.B b.bs.length b.d, .slice b.A b.ls.length b.c] ∧ a.In W ∧ b.In W := by
  have hcs : ∃ cs, v = .agg cs ∧ cs.size = Try.prog.cellsOf 48 := by
    simp only [Value.okWide, Try.underlying48] at hv
    obtain ⟨cs, h1, h2, _⟩ := hv
    exact ⟨cs, h1, h2⟩
  obtain ⟨cs, rfl, hl⟩ := hcs
  rw [cells_value2] at hl
  obtain ⟨fuel, hf⟩ := h
  have hw := weight_of hsz hj hd
  obtain ⟨l⟩ := cs
  match l, hl with
  | [v0, v1, v2, v3, v4, v5], _ =>
    obtain ⟨y0, y1, n, hx, g0, g1⟩ := trod_array2 Try.underlying48 cells_value hf
    have hx1 : d = .agg [y0.1, y1.1] := congrArg Prod.fst hx
    subst hx1
    rw [DataW.weights, Try.underlying48] at hw
    simp only [DataW.weightsAll, List.append_nil, List.mem_append] at hw
    obtain ⟨a, e0, i0⟩ := value_open n _ _ g0 (fun k hk => hw k (.inl hk))
    obtain ⟨b, e1, i1⟩ := value_open n _ _ g1 (fun k hk => hw k (.inr hk))
    simp [Va.cells] at e0 e1
    obtain ⟨rfl, rfl, rfl⟩ := e0
    obtain ⟨rfl, rfl, rfl⟩ := e1
    exact ⟨a, b, rfl, i0, i1⟩
end
end Go.Proofs.Ytibbeodcheefaaa

