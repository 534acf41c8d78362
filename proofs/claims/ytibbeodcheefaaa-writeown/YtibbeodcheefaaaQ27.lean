/- The document's bytes of a value of a form. -/
import Derived.Test.YtibbeodcheefaaaQ12
import Derived.Test.YtibbeodcheefaaaQ21
import Derived.Test.YtibbeodcheefaaaQ10
import Derived.Deep.AppendLies
import Derived.Deep.LoopGhost
import Derived.Deep.Cut
import Derived.Test.YtibbeodcheefaaaQ8
import Derived.Test.YtibbeodcheefaaaQ9
import Derived.Test.YtibbeodcheefaaaQ11
import Derived.Test.YtibbeodcheefaaaQ26
import Derived.Test.YtibbeodcheefaaaQ18
namespace Go.Proofs.Ytibbeodcheefaaa
open Go.RowKit Va

/-- What stands in the row behind so many rounds. -/
def laidK (k j x : Nat) : List UInt8 := List.replicate (k - j) 0 ++ be j x
theorem laidK_length (k j x : Nat) (h : j ≤ k) : (laidK k j x).length = k := by simp [laidK, be_length]; omega
theorem laidK_set (k j x : Nat) (h : j < k) : (cellsOf (laidK k j x)).toArray.setIfInBounds (k - 1 - j) (.int .u8 ((x / 256 ^ j % 256 : Nat) : Int)) = (cellsOf (laidK k (j + 1) x)).toArray := by
  have e : k - j = (k - 1 - j) + 1 := by omega
  have e2 : k - (j + 1) = k - 1 - j := by omega
  have hs : (laidK k j x).set (k - 1 - j) (UInt8.ofNat (x / 256 ^ j % 256)) = laidK k (j + 1) x := by
    unfold laidK
    rw [e, List.replicate_succ', List.append_assoc, List.set_append_right _ _ (by simp), e2, be_more]
    simp
  rw [← hs]
  apply Array.ext'
  simp [cellsOf, List.map_set]

set_option maxRecDepth 100000 in
set_option maxHeartbeats 1000000 in
theorem rbe_own (w : World) (k x : Nat) (hk : k ≤ 8) (hx : x < 18446744073709551616) :
    Calls Try.prog 29 #[.int .u64 x, .int .i64 k] w fun e w' => e = .returned (.slice (some ⟨w.heap.size, 0, none⟩) k k) ∧ w'.ownsRow 0 5 1 (.slice (some ⟨w.heap.size, 0, none⟩) k k) k (cellsOf (be k x)) ∧ Grew w w' none := by
  have hmk := run_make_row' (P := Try.prog) 26 5 (.int .u8 0) 1 Try.underlying26 info_u8 rfl .i64 .i64 k (by omega) (by omega)
  have hW := Whole.new w (madeCells #[.int .u8 0] k) 5
  have hcs : madeCells #[.int .u8 0] k = (cellsOf (laidK k 0 x)).toArray := by
    apply Array.ext'
    rw [toList_madeCells_one]
    simp [cellsOf, laidK, be]
  have HW := Lib.hid (by rw [hcs] at hW; exact hW)
  have HG := Lib.hid (grew_alloc (grew_refl w none) (.cells (madeCells #[.int .u8 0] k) 5))
  rw [hcs] at HG
  have HCS := Lib.hid hcs
  clear hW hcs
  go_enter Try.func29, Try.ntmps29
  go_wp2_with fail
  rw [HCS.out]
  generalize w.alloc (.cells (cellsOf (laidK k 0 x)).toArray 5) = W at *
  generalize hq : w.heap.size = q at *
  have HQ := Lib.hid hq
  clear hq hmk HCS
  go_loopw [0, 6] (fun v i wr => ∃ j : Nat, j ≤ k ∧ v = .int .u64 ((x / 256 ^ j : Nat) : Int) ∧ i = .int .i64 ((k : Int) - 1 - j) ∧ Hid (Whole wr q (cellsOf (laidK k j x)).toArray 5) ∧ Hid (Grew w wr none)) (fun _ i _ => (intOf i + 1).toNat)
  case atStart => exact ⟨0, Nat.zero_le _, by simp, by simp, HW, HG⟩
  case round =>
    obtain ⟨j, hj, rfl, rfl, R1, R2⟩ := hrel
    by_cases hlt : j < k
    · have hc := R1.out.cell (k - 1 - j)
      have hfz := R1.out.frozen (k - 1 - j)
      have hc' : (cellsOf (laidK k j x)).toArray[k - 1 - j]? = some (.int .u8 (((laidK k j x).getD (k - 1 - j) 0).toNat : Int)) := by
        rw [List.getElem?_toArray, cellsOf_at _ _ (by rw [laidK_length _ _ _ (by omega)]; omega)]
      rw [hc'] at hc
      have hset := R1.out.set (k - 1 - j) (.int .u8 ((x / 256 ^ j % 256 : Nat) : Int))
      rw [laidK_set k j x hlt] at hset
      have HG2 := Lib.hid (grew_own R2.out (grew_set (p := q) (grew_refl wr _) (k - 1 - j) none (.int .u8 ((x / 256 ^ j % 256 : Nat) : Int))) (Nat.le_of_eq HQ.out))
      have hdv : x / 256 ^ (j + 1) = x / 256 ^ j / 256 := by rw [Nat.pow_succ, Nat.div_div_eq_div_mul]
      have hvb : x / 256 ^ j < 18446744073709551616 := Nat.lt_of_le_of_lt (Nat.div_le_self _ _) hx
      have HDV := Lib.hid hdv
      clear hc' hdv
      generalize ((laidK k j x).getD (k - 1 - j) 0).toNat = z at *
      generalize x / 256 ^ j = V at *
      obtain ⟨i, hi⟩ : ∃ i, k - 1 - j = i := ⟨_, rfl⟩
      rw [hi] at hc hfz hset HG2
      have HS := Lib.hid hset
      rw [show (k : Int) - 1 - j = (i : Int) from by omega]
      have hik : i < k := by omega
      have HI := Lib.hid hi
      clear hset hi
      go_wp2
      go_roundw
      case rel =>
        refine ⟨j + 1, by omega, by rw [HDV.out]; go_num, ?_, ?_, ?_⟩
        · have := HI.out
          congr 1
          omega
        · have h := HS
          rw [show ((V % 256 : Nat) : Int) = (V : Int) % 256 from by omega] at h
          exact h
        · have h := HG2
          rw [show ((V % 256 : Nat) : Int) = (V : Int) % 256 from by omega] at h
          exact h
      case measure => simp [intOf]
    · obtain rfl : j = k := by omega
      rw [show (j : Int) - 1 - j = -1 from by omega]
      go_wp2
      go_ret
      rw [HQ.out]
      refine ⟨rfl, ?_, R2.out⟩
      have h0 : laidK j j x = be j x := by simp [laidK]
      have hw := R1.out
      rw [h0] at hw
      exact ⟨by rw [cellsOf_length, be_length, Nat.mul_one], .inr ⟨q, j, _, rfl, Nat.zero_le _, hw, Nat.le_refl _, by unfold maxLen; omega, by simp [cellsOf_length, be_length], by rw [List.take_of_length_le (by simp [cellsOf_length, be_length])]⟩⟩


theorem enter_rbe : ∀ args w, (callFunc 29 args).run Try.prog w = .ok (.enter 29 args) w := fun _ _ => by kernel_rfl
theorem enter_rw : ∀ args w, (callFunc 17 args).run Try.prog w = .ok (.enter 17 args) w := fun _ _ => by kernel_rfl
section
variable {ρ : Operand → Value} {o : Oper}
theorem run_fv1 {x : Operand} {q : Nat} (ho : o.op = .fieldAddr 29 x 1) (hx : ρ x = .pointer (some ⟨q, 0, none⟩)) (w : World) : (execOp ρ o).run Try.prog w = .ok (.value (.pointer (some ⟨q, 1, none⟩))) w := by
  simp [execOp, ho, hx, go_sem]
theorem run_fv2 {x : Operand} {q : Nat} (ho : o.op = .fieldAddr 29 x 2) (hx : ρ x = .pointer (some ⟨q, 0, none⟩)) (w : World) : (execOp ρ o).run Try.prog w = .ok (.value (.pointer (some ⟨q, 2, none⟩))) w := by
  simp [execOp, ho, hx, go_sem]
theorem run_ff1 {x : Operand} {q : Nat} (ho : o.op = .fieldAddr 24 x 1) (hx : ρ x = .pointer (some ⟨q, 0, none⟩)) (w : World) : (execOp ρ o).run Try.prog w = .ok (.value (.pointer (some ⟨q, 1, none⟩))) w := by
  simp [execOp, ho, hx, go_sem]
theorem run_ff5 {x : Operand} {q : Nat} (ho : o.op = .fieldAddr 24 x 5) (hx : ρ x = .pointer (some ⟨q, 0, none⟩)) (w : World) : (execOp ρ o).run Try.prog w = .ok (.value (.pointer (some ⟨q, 5, none⟩))) w := by
  simp [execOp, ho, hx, go_sem]
theorem run_ldB {x : Operand} {b i : Nat} {v : Value} (ho : o.op = .load 26 x) (hx : ρ x = .pointer (some ⟨b, i, none⟩)) {w : World} (hc : w.cell? ⟨b, i, none⟩ = some v) : (execOp ρ o).run Try.prog w = .ok (.value v) w := by
  simp [execOp, ho, hx, go_sem, hc]
theorem run_ldI {x : Operand} {b i : Nat} {v : Value} (ho : o.op = .load 3 x) (hx : ρ x = .pointer (some ⟨b, i, none⟩)) {w : World} (hc : w.cell? ⟨b, i, none⟩ = some v) : (execOp ρ o).run Try.prog w = .ok (.value v) w := by
  simp [execOp, ho, hx, go_sem, hc]
theorem run_ldFs {x : Operand} {b i : Nat} {v : Value} (ho : o.op = .load 22 x) (hx : ρ x = .pointer (some ⟨b, i, none⟩)) {w : World} (hc : w.cell? ⟨b, i, none⟩ = some v) : (execOp ρ o).run Try.prog w = .ok (.value v) w := by
  simp [execOp, ho, hx, go_sem, hc]
theorem run_ldVs {x : Operand} {b i : Nat} {v : Value} (ho : o.op = .load 27 x) (hx : ρ x = .pointer (some ⟨b, i, none⟩)) {w : World} (hc : w.cell? ⟨b, i, none⟩ = some v) : (execOp ρ o).run Try.prog w = .ok (.value v) w := by
  simp [execOp, ho, hx, go_sem, hc]
theorem run_lenU {x : Operand} {A : Option Addr} {l c : Nat} (ho : o.op = .call { callee := .builtin .len, args := #[x], argTypes := #[26] }) (hx : ρ x = .slice A l c) (w : World) : (execOp ρ o).run Try.prog w = .ok (.value (.int .i64 (l : Int))) w := by
  simp [execOp, ho, go_sem, hx]
theorem run_cvU {x : Operand} {l : Nat} (ho : o.op = .convert 3 25 x) (hx : ρ x = .int .i64 (l : Int)) (hl : l ≤ 140737488355328) (w : World) : (execOp ρ o).run Try.prog w = .ok (.value (.int .u64 (l : Int))) w := by
  have e : IntKind.u64.wrap (l : Int) = (l : Int) := by rw [IntKind.wrap_u64]; omega
  simp [execOp, ho, go_sem, hx, e]
theorem run_idxF {x y : Operand} {b i l c k : Nat} (ho : o.op = .indexAddr 22 x y) (hx : ρ x = .slice (some ⟨b, i, none⟩) l c) (hy : ρ y = .int .i64 (k : Int)) (hk : k < l) (w : World) : (execOp ρ o).run Try.prog w = .ok (.value (.pointer (some ⟨b, i + k * 6, none⟩))) w := by
  simp [execOp, ho, go_sem, hx, hy, hk]
theorem run_idxV {x y : Operand} {b i l c k : Nat} (ho : o.op = .indexAddr 27 x y) (hx : ρ x = .slice (some ⟨b, i, none⟩) l c) (hy : ρ y = .int .i64 (k : Int)) (hk : k < l) (w : World) : (execOp ρ o).run Try.prog w = .ok (.value (.pointer (some ⟨b, i + k * 3, none⟩))) w := by
  simp [execOp, ho, go_sem, hx, hy, hk]
theorem run_ldF {x : Operand} {b i : Nat} {p : Fo} (ho : o.op = .load 24 x) (hx : ρ x = .pointer (some ⟨b, i, none⟩)) {w : World} (h0 : w.cell? ⟨b, i, none⟩ = some (.int .i64 p.k)) (h1 : w.cell? ⟨b, i + 1, none⟩ = some (.int .i64 p.s)) (h2 : w.cell? ⟨b, i + 2, none⟩ = some (.int .i64 p.l)) (h3 : w.cell? ⟨b, i + 3, none⟩ = some (.int .i64 p.h)) (h4 : w.cell? ⟨b, i + 4, none⟩ = some (.int .i64 p.t)) (h5 : w.cell? ⟨b, i + 5, none⟩ = some (.slice p.A p.ps.length p.c)) : (execOp ρ o).run Try.prog w = .ok (.value p.val) w := by
  rw [val_eq]
  simp [execOp, ho, hx, go_sem, h0, h1, h2, h3, h4, h5]
theorem run_ldVv {x : Operand} {b i : Nat} {p : Va} (ho : o.op = .load 29 x) (hx : ρ x = .pointer (some ⟨b, i, none⟩)) {w : World} (h0 : w.cell? ⟨b, i, none⟩ = some (.int .u64 p.n)) (h1 : w.cell? ⟨b, i + 1, none⟩ = some (.slice p.B p.bs.length p.d)) (h2 : w.cell? ⟨b, i + 2, none⟩ = some (.slice p.A p.ls.length p.c)) : (execOp ρ o).run Try.prog w = .ok (.value p.val) w := by
  rw [vval_eq]
  simp [execOp, ho, hx, go_sem, h0, h1, h2]
theorem run_asgn {x : Operand} {v : Value} (ho : o.op = .assign x) (hx : ρ x = v) (w : World) : (execOp ρ o).run Try.prog w = .ok (.value v) w := by
  simp [execOp, ho, hx, go_sem]
end
section
variable {ops : Array Oper} {o : Oper} {a : Act} {w : World} {K : Act → World → Prop} {Q : Exit → Act → World → Prop}
theorem wp_appU {x y : Operand} (ho : o.op = .call { callee := .builtin .append, args := #[x, y], argTypes := #[26, 26] }) (hgd : o.guard = none) {V : Value} {n : Nat} {xs : List UInt8} (hown : w.ownsRow 0 5 1 V n (cellsOf xs)) (hx : a.eval x = V) {A : Option Addr} {ys : List UInt8} {F : Nat → Prop} (hb : ByF w F A ys) (c : Nat) (hy : a.eval y = .slice A ys.length c) (hm : n + ys.length ≤ 140737488355328)
    (h : ∀ V' W', AppLeft w 5 1 V (n + ys.length) (cellsOf (xs ++ ys)) V' W' → K (a.put o.dst V') W') :
    if Region.wanted o (yielded ops a.tmps) = true then Oper.wp Try.prog o a w K Q else K (a.put o.dst undef) w :=
  step_append_run w hgd x y 26 ho hx hy (fun ty => append_bytes (P := Try.prog) (w := w) 26 ty 5 Try.underlying26 info_u8 hown hb c hm) h
end

/-- The document's bytes. -/
def RWr (w : World) (Z : List UInt8) (e : Ending) (w' : World) : Prop := ∃ V, e = .returned V ∧ w'.ownsRow 0 5 1 V Z.length (cellsOf Z) ∧ (∀ g, V.ownBlock = some g → w.heap.size ≤ g) ∧ Grew w w' none
theorem own_nil0 (w : World) : (w.alloc (.cells #[] 5)).ownsRow 0 5 1 (.slice (some ⟨w.heap.size, 0, none⟩) 0 0) 0 (cellsOf []) :=
  ⟨rfl, .inr ⟨w.heap.size, 0, #[], rfl, Nat.zero_le _, Whole.new _ _ _, Nat.le_refl _, by unfold maxLen; omega, rfl, rfl⟩⟩
theorem app_new {w W W' : World} {V V' : Value} {n : Nat} {xs : List Value} {e : TypeId} {size : Nat} (g : Grew w W none) (hV : ∀ g, V.ownBlock = some g → w.heap.size ≤ g) (h : AppLeft W e size V n xs V' W') : (∀ g, V'.ownBlock = some g → w.heap.size ≤ g) ∧ Grew w W' none := by
  obtain ⟨_, h2, h3⟩ := h
  refine ⟨fun i hi => ?_, grew_fr g (Fr.of_grew' (F := fun i => V.ownBlock = some i) h2 (fun i hi => hi)) (fun i hi => hV i hi)⟩
  rcases h3 with e | e
  · exact hV i (by rw [← e]; exact hi)
  · have e' : some i = some W.heap.size := hi.symm.trans e
    have := g.size
    simp at e'
    omega


section
variable (w : World) (s l h t : Int) (A : Option Addr) (c : Nat) (ps : List Fo) (v : Va)
set_option maxRecDepth 100000 in
set_option maxHeartbeats 1000000 in
theorem rw_0 (k x : Nat) (hk : k ≤ 8) (hx : x < 18446744073709551616) : Calls Try.prog 17 #[.agg #[.int .i64 0, .int .i64 k, .int .i64 l, .int .i64 h, .int .i64 t, .slice A ps.length c], .agg #[.int .u64 x, .slice v.B v.bs.length v.d, .slice v.A v.ls.length v.c]] w (RWr w (be k x)) := by
  obtain ⟨g1, k0, k1, ks⟩ := two_new w #[.int .i64 0, .int .i64 k, .int .i64 l, .int .i64 h, .int .i64 t, .slice A ps.length c] 24 #[.int .u64 x, .slice v.B v.bs.length v.d, .slice v.A v.ls.length v.c] 29
  have HC := Lib.hid (fun W => rbe_own W k x hk hx)
  have G1 := Lib.hid g1
  clear g1 k0 k1 ks
  go_enter Try.func17, Try.ntmps17
  go_wp2_with fail
  generalize (w.alloc (.cells #[.int .i64 0, .int .i64 k, .int .i64 l, .int .i64 h, .int .i64 t, .slice A ps.length c] 24)).alloc (.cells #[.int .u64 x, .slice v.B v.bs.length v.d, .slice v.A v.ls.length v.c] 29) = W at *
  refine (HC.out W).mono ?_
  rintro e w1 ⟨rfl, o1, g2⟩
  have HR := Lib.hid (show w1.ownsRow 0 5 1 (.slice (some ⟨W.heap.size, 0, none⟩) k k) k (cellsOf (be k x)) ∧ Grew W w1 none from ⟨o1, g2⟩)
  clear o1 g2 HC
  go_wp2_with fail
  go_ret
  have hl : (be k x).length = k := be_length _ _
  exact ⟨_, rfl, by rw [hl]; exact HR.out.1, fun g hg => by simp [Value.ownBlock] at hg; have := G1.out.size; omega, grew_trans G1.out HR.out.2⟩

set_option maxRecDepth 100000 in
set_option maxHeartbeats 1000000 in
theorem rw_b (k : Int) (hk : k = 4 ∨ k = 5) (hb : Byt w w.heap.size v.B v.bs) (hl : v.bs.length ≤ 10000000) : Calls Try.prog 17 #[.agg #[.int .i64 k, .int .i64 s, .int .i64 l, .int .i64 h, .int .i64 t, .slice A ps.length c], .agg #[.int .u64 v.n, .slice v.B v.bs.length v.d, .slice v.A v.ls.length v.c]] w (RWr w v.bs) := by
  obtain ⟨g1, k0, k1, ks⟩ := two_new w #[.int .i64 k, .int .i64 s, .int .i64 l, .int .i64 h, .int .i64 t, .slice A ps.length c] 24 #[.int .u64 v.n, .slice v.B v.bs.length v.d, .slice v.A v.ls.length v.c] 29
  have hA := fun (W : World) (g : Grew w W none) ty => append_bytes (P := Try.prog) (W.alloc (.cells #[] 5)) 26 ty 5 Try.underlying26 info_u8 (own_nil0 W) ((hb.grew (grew_alloc g _) (fun _ h => by cases h)).byf) v.d (by omega)
  have HA := Lib.hid hA
  have G1 := Lib.hid g1
  have K1 := Lib.hid k1
  have n0 : (k == 0) = false := by simp; omega
  have n1 : (k == 4) = true ∨ ((k == 4) = false ∧ (k == 5) = true) := by
    rcases hk with rfl | rfl
    · exact .inl rfl
    · exact .inr ⟨rfl, rfl⟩
  clear hA g1 k0 k1 ks hb hk
  rcases n1 with n1 | ⟨n1, n2⟩
  all_goals
    go_enter Try.func17, Try.ntmps17
    go_upto_region 6 with (fail)
    obtain ⟨c0, c1, c2⟩ := K1.out.three
    generalize (w.alloc (.cells #[.int .i64 k, .int .i64 s, .int .i64 l, .int .i64 h, .int .i64 t, .slice A ps.length c] 24)).alloc (.cells #[.int .u64 v.n, .slice v.B v.bs.length v.d, .slice v.A v.ls.length v.c] 29) = W at *
    have c1' := (grew_alloc (grew_refl W none) (.cells #[] 5)).cell c1 (by simp)
    have HA' := Lib.hid (HA.out W G1.out)
    clear c0 c1 c2 HA
    go_wp2_with (at_builtin; refine wpList_append_run _ rfl (.tmp 20) (.tmp 22) 26 rfl rfl rfl (fun ty => HA'.out ty) ?_; intro V w1 hApp; have HP := Lib.hid hApp; clear hApp)
    go_ret
    obtain ⟨p1, p2⟩ := app_new (grew_trans G1.out (grew_alloc (grew_refl W none) (.cells #[] 5))) (fun g hg => by simp [Value.ownBlock] at hg; have := G1.out.size; omega) HP.out
    exact ⟨V, rfl, by have := HP.out.1; rw [Nat.zero_add] at this; exact this, p1, p2⟩
end

set_option maxRecDepth 100000 in
set_option maxHeartbeats 2000000 in
theorem rw_1 (w : World) (k : Nat) (l h t : Int) (A : Option Addr) (c : Nat) (ps : List Fo) (v : Va) (hk : k ≤ 8) (hb : Byt w w.heap.size v.B v.bs) (hl : v.bs.length ≤ 10000000) : Calls Try.prog 17 #[.agg #[.int .i64 1, .int .i64 k, .int .i64 l, .int .i64 h, .int .i64 t, .slice A ps.length c], .agg #[.int .u64 v.n, .slice v.B v.bs.length v.d, .slice v.A v.ls.length v.c]] w (RWr w (be k v.bs.length ++ v.bs)) := by
  obtain ⟨g1, k0, k1, ks⟩ := two_new w #[.int .i64 1, .int .i64 k, .int .i64 l, .int .i64 h, .int .i64 t, .slice A ps.length c] 24 #[.int .u64 v.n, .slice v.B v.bs.length v.d, .slice v.A v.ls.length v.c] 29
  have HC := Lib.hid (fun W => rbe_own W k v.bs.length hk (by omega))
  have HB := Lib.hid (fun (W : World) (g : Grew w W none) => (hb.grew g (fun _ h => by cases h)).byf)
  have G1 := Lib.hid g1
  have K0 := Lib.hid k0
  have K1 := Lib.hid k1
  clear g1 k0 k1 ks hb
  go_enter Try.func17, Try.ntmps17
  go_upto_region 8 with (fail)
  generalize (w.alloc (.cells #[.int .i64 1, .int .i64 k, .int .i64 l, .int .i64 h, .int .i64 t, .slice A ps.length c] 24)).alloc (.cells #[.int .u64 v.n, .slice v.B v.bs.length v.d, .slice v.A v.ls.length v.c] 29) = X at *
  generalize hq : w.heap.size = q at *
  have HQ := Lib.hid hq
  clear hq
  obtain ⟨a0, a1, a2, a3, a4, a5⟩ := K0.out.six
  obtain ⟨c0, c1, c2⟩ := K1.out.three
  have GS := Lib.hid (show (fun w' => w'.cell? ⟨q, 1, none⟩ = some (.int .i64 (k : Int)) ∧ w'.cell? ⟨q + 1, 1, none⟩ = some (.slice v.B v.bs.length v.d)) (World.drew X) from ⟨a1, c1⟩)
  refine act_letterC (fun A1 hA1 => ?_)
  have d2 : A1.eval (.tmp 2) = .pointer (some ⟨q, 0, none⟩) := by rw [← hA1]; rfl
  have d3 : A1.eval (.tmp 3) = .pointer (some ⟨q + 1, 0, none⟩) := by rw [← hA1]; rfl
  have szA1 : A1.tmps.size = 73 := by rw [← hA1]; rfl
  have HA1 := Lib.hid hA1
  clear hA1
  refine wp_region_held (S := fun w' => w'.cell? ⟨q, 1, none⟩ = some (.int .i64 (k : Int)) ∧ w'.cell? ⟨q + 1, 1, none⟩ = some (.slice v.B v.bs.length v.d)) (by kernel_rfl) ?_
  change wpAnyH _ _ _ _ _ _ _ _ (World.drew X)
  refine wpAnyH_take (i := 0) (v := .pointer (some ⟨q + 1, 1, none⟩)) rfl (by kernel_rfl) (by kernel_rfl) (by kernel_rfl) (fun _ _ _ h => h) (.inl ⟨rfl, fun w g => run_fv1 rfl d3 w⟩) GS.out ?_
  refine act_letter (fun A2 hA2 => ?_)
  replace d2 : A2.eval (.tmp 2) = .pointer (some ⟨q, 0, none⟩) := by rw [← hA2]; exact (ev_ne A1 (m := 26) (n := 2) (.pointer (some ⟨q + 1, 1, none⟩)) (by decide)).trans d2
  replace d3 : A2.eval (.tmp 3) = .pointer (some ⟨q + 1, 0, none⟩) := by rw [← hA2]; exact (ev_ne A1 (m := 26) (n := 3) (.pointer (some ⟨q + 1, 1, none⟩)) (by decide)).trans d3
  have e26 : A2.eval (.tmp 26) = .pointer (some ⟨q + 1, 1, none⟩) := by rw [← hA2]; exact ev_self A1 26 (.pointer (some ⟨q + 1, 1, none⟩)) (by omega)
  have szA2 : A2.tmps.size = 73 := by rw [← hA2]; exact (sz_put A1 26 (.pointer (some ⟨q + 1, 1, none⟩))).trans szA1
  have HA2 := Lib.hid (show A1.put (some 26) (.pointer (some ⟨q + 1, 1, none⟩)) = A2 from hA2)
  clear hA2 szA1
  have d26 := e26
  clear e26
  refine wpAnyH_take (i := 1) (v := .slice v.B v.bs.length v.d) rfl (by kernel_rfl) (by kernel_rfl) (by kernel_rfl) (fun _ _ _ h => h) (.inl ⟨rfl, fun w g => run_ldB rfl d26 g.2⟩) GS.out ?_
  refine act_letter (fun A3 hA3 => ?_)
  replace d2 : A3.eval (.tmp 2) = .pointer (some ⟨q, 0, none⟩) := by rw [← hA3]; exact (ev_ne A2 (m := 27) (n := 2) (.slice v.B v.bs.length v.d) (by decide)).trans d2
  replace d3 : A3.eval (.tmp 3) = .pointer (some ⟨q + 1, 0, none⟩) := by rw [← hA3]; exact (ev_ne A2 (m := 27) (n := 3) (.slice v.B v.bs.length v.d) (by decide)).trans d3
  have e27 : A3.eval (.tmp 27) = .slice v.B v.bs.length v.d := by rw [← hA3]; exact ev_self A2 27 (.slice v.B v.bs.length v.d) (by omega)
  have szA3 : A3.tmps.size = 73 := by rw [← hA3]; exact (sz_put A2 27 (.slice v.B v.bs.length v.d)).trans szA2
  have HA3 := Lib.hid (show A2.put (some 27) (.slice v.B v.bs.length v.d) = A3 from hA3)
  clear hA3 szA2 d26
  have d27 := e27
  clear e27
  refine wpAnyH_take (i := 2) (v := .int .i64 (v.bs.length : Int)) rfl (by kernel_rfl) (by kernel_rfl) (by kernel_rfl) (fun _ _ _ h => h) (.inl ⟨rfl, fun w g => run_lenU rfl d27 w⟩) GS.out ?_
  refine act_letter (fun A4 hA4 => ?_)
  replace d2 : A4.eval (.tmp 2) = .pointer (some ⟨q, 0, none⟩) := by rw [← hA4]; exact (ev_ne A3 (m := 28) (n := 2) (.int .i64 (v.bs.length : Int)) (by decide)).trans d2
  replace d3 : A4.eval (.tmp 3) = .pointer (some ⟨q + 1, 0, none⟩) := by rw [← hA4]; exact (ev_ne A3 (m := 28) (n := 3) (.int .i64 (v.bs.length : Int)) (by decide)).trans d3
  have e28 : A4.eval (.tmp 28) = .int .i64 (v.bs.length : Int) := by rw [← hA4]; exact ev_self A3 28 (.int .i64 (v.bs.length : Int)) (by omega)
  have szA4 : A4.tmps.size = 73 := by rw [← hA4]; exact (sz_put A3 28 (.int .i64 (v.bs.length : Int))).trans szA3
  have HA4 := Lib.hid (show A3.put (some 28) (.int .i64 (v.bs.length : Int)) = A4 from hA4)
  clear hA4 szA3 d27
  have d28 := e28
  clear e28
  refine wpAnyH_take (i := 3) (v := .int .u64 (v.bs.length : Int)) rfl (by kernel_rfl) (by kernel_rfl) (by kernel_rfl) (fun _ _ _ h => h) (.inl ⟨rfl, fun w g => run_cvU rfl d28 (by omega) w⟩) GS.out ?_
  refine act_letter (fun A5 hA5 => ?_)
  replace d2 : A5.eval (.tmp 2) = .pointer (some ⟨q, 0, none⟩) := by rw [← hA5]; exact (ev_ne A4 (m := 29) (n := 2) (.int .u64 (v.bs.length : Int)) (by decide)).trans d2
  replace d3 : A5.eval (.tmp 3) = .pointer (some ⟨q + 1, 0, none⟩) := by rw [← hA5]; exact (ev_ne A4 (m := 29) (n := 3) (.int .u64 (v.bs.length : Int)) (by decide)).trans d3
  have e29 : A5.eval (.tmp 29) = .int .u64 (v.bs.length : Int) := by rw [← hA5]; exact ev_self A4 29 (.int .u64 (v.bs.length : Int)) (by omega)
  have szA5 : A5.tmps.size = 73 := by rw [← hA5]; exact (sz_put A4 29 (.int .u64 (v.bs.length : Int))).trans szA4
  have HA5 := Lib.hid (show A4.put (some 29) (.int .u64 (v.bs.length : Int)) = A5 from hA5)
  clear hA5 szA4 d28
  have d29 := e29
  clear e29
  refine wpAnyH_take (i := 4) (v := .pointer (some ⟨q, 1, none⟩)) rfl (by kernel_rfl) (by kernel_rfl) (by kernel_rfl) (fun _ _ _ h => h) (.inl ⟨rfl, fun w g => run_ff1 rfl d2 w⟩) GS.out ?_
  refine act_letter (fun A6 hA6 => ?_)
  replace d3 : A6.eval (.tmp 3) = .pointer (some ⟨q + 1, 0, none⟩) := by rw [← hA6]; exact (ev_ne A5 (m := 30) (n := 3) (.pointer (some ⟨q, 1, none⟩)) (by decide)).trans d3
  replace d29 : A6.eval (.tmp 29) = .int .u64 (v.bs.length : Int) := by rw [← hA6]; exact (ev_ne A5 (m := 30) (n := 29) (.pointer (some ⟨q, 1, none⟩)) (by decide)).trans d29
  have e30 : A6.eval (.tmp 30) = .pointer (some ⟨q, 1, none⟩) := by rw [← hA6]; exact ev_self A5 30 (.pointer (some ⟨q, 1, none⟩)) (by omega)
  have szA6 : A6.tmps.size = 73 := by rw [← hA6]; exact (sz_put A5 30 (.pointer (some ⟨q, 1, none⟩))).trans szA5
  have HA6 := Lib.hid (show A5.put (some 30) (.pointer (some ⟨q, 1, none⟩)) = A6 from hA6)
  clear hA6 szA5 d2
  have d30 := e30
  clear e30
  refine wpAnyH_take (i := 5) (v := .int .i64 (k : Int)) rfl (by kernel_rfl) (by kernel_rfl) (by kernel_rfl) (fun _ _ _ h => h) (.inl ⟨rfl, fun w g => run_ldI rfl d30 g.1⟩) GS.out ?_
  refine act_letter (fun A7 hA7 => ?_)
  replace d3 : A7.eval (.tmp 3) = .pointer (some ⟨q + 1, 0, none⟩) := by rw [← hA7]; exact (ev_ne A6 (m := 31) (n := 3) (.int .i64 (k : Int)) (by decide)).trans d3
  replace d29 : A7.eval (.tmp 29) = .int .u64 (v.bs.length : Int) := by rw [← hA7]; exact (ev_ne A6 (m := 31) (n := 29) (.int .i64 (k : Int)) (by decide)).trans d29
  have e31 : A7.eval (.tmp 31) = .int .i64 (k : Int) := by rw [← hA7]; exact ev_self A6 31 (.int .i64 (k : Int)) (by omega)
  have szA7 : A7.tmps.size = 73 := by rw [← hA7]; exact (sz_put A6 31 (.int .i64 (k : Int))).trans szA6
  have HA7 := Lib.hid (show A6.put (some 31) (.int .i64 (k : Int)) = A7 from hA7)
  clear hA7 szA6 d30
  have d31 := e31
  clear e31
  refine wpAnyH_take (i := 7) (v := .pointer (some ⟨q + 1, 1, none⟩)) rfl (by kernel_rfl) (by kernel_rfl) (by kernel_rfl) (fun _ _ _ h => h) (.inl ⟨rfl, fun w g => run_fv1 rfl d3 w⟩) GS.out ?_
  refine act_letter (fun A8 hA8 => ?_)
  replace d29 : A8.eval (.tmp 29) = .int .u64 (v.bs.length : Int) := by rw [← hA8]; exact (ev_ne A7 (m := 33) (n := 29) (.pointer (some ⟨q + 1, 1, none⟩)) (by decide)).trans d29
  replace d31 : A8.eval (.tmp 31) = .int .i64 (k : Int) := by rw [← hA8]; exact (ev_ne A7 (m := 33) (n := 31) (.pointer (some ⟨q + 1, 1, none⟩)) (by decide)).trans d31
  have e33 : A8.eval (.tmp 33) = .pointer (some ⟨q + 1, 1, none⟩) := by rw [← hA8]; exact ev_self A7 33 (.pointer (some ⟨q + 1, 1, none⟩)) (by omega)
  have szA8 : A8.tmps.size = 73 := by rw [← hA8]; exact (sz_put A7 33 (.pointer (some ⟨q + 1, 1, none⟩))).trans szA7
  have HA8 := Lib.hid (show A7.put (some 33) (.pointer (some ⟨q + 1, 1, none⟩)) = A8 from hA8)
  clear hA8 szA7 d3
  have d33 := e33
  clear e33
  refine wpAnyH_take (i := 8) (v := .slice v.B v.bs.length v.d) rfl (by kernel_rfl) (by kernel_rfl) (by kernel_rfl) (fun _ _ _ h => h) (.inl ⟨rfl, fun w g => run_ldB rfl d33 g.2⟩) GS.out ?_
  refine act_letter (fun A9 hA9 => ?_)
  replace d29 : A9.eval (.tmp 29) = .int .u64 (v.bs.length : Int) := by rw [← hA9]; exact (ev_ne A8 (m := 34) (n := 29) (.slice v.B v.bs.length v.d) (by decide)).trans d29
  replace d31 : A9.eval (.tmp 31) = .int .i64 (k : Int) := by rw [← hA9]; exact (ev_ne A8 (m := 34) (n := 31) (.slice v.B v.bs.length v.d) (by decide)).trans d31
  have e34 : A9.eval (.tmp 34) = .slice v.B v.bs.length v.d := by rw [← hA9]; exact ev_self A8 34 (.slice v.B v.bs.length v.d) (by omega)
  have szA9 : A9.tmps.size = 73 := by rw [← hA9]; exact (sz_put A8 34 (.slice v.B v.bs.length v.d)).trans szA8
  have HA9 := Lib.hid (show A8.put (some 34) (.slice v.B v.bs.length v.d) = A9 from hA9)
  clear hA9 szA8 d33
  have d34 := e34
  clear e34
  refine wpAnyH_ready (rs := [6]) (by kernel_rfl) (by simp) ?_
  refine AllReadyH.cons rfl (fun K hK => ?_) AllReadyH.nil
  refine wp_callG rfl (rfl) enter_rbe (vs := #[.int .u64 (v.bs.length : Int), .int .i64 (k : Int)]) (by simp [d29, d31]) ((HC.out _).mono ?_)
  rintro e x4 ⟨rfl, o4, g4⟩
  refine ⟨_, rfl, hK.out _ _ (⟨g4.cell GS.out.1 (by simp), g4.cell GS.out.2 (by simp)⟩) (fun _ => ?_)⟩
  clear hK K
  have S4 := Lib.hid (show (fun w' => w'.cell? ⟨q, 1, none⟩ = some (.int .i64 (k : Int)) ∧ w'.cell? ⟨q + 1, 1, none⟩ = some (.slice v.B v.bs.length v.d)) x4 from ⟨g4.cell GS.out.1 (by simp), g4.cell GS.out.2 (by simp)⟩)
  clear GS
  refine act_letter (fun A10 hA10 => ?_)
  replace d34 : A10.eval (.tmp 34) = .slice v.B v.bs.length v.d := by rw [← hA10]; exact (ev_ne A9 (m := 32) (n := 34) (.slice (some ⟨X.heap.size, 0, none⟩) k k) (by decide)).trans d34
  have e32 : A10.eval (.tmp 32) = .slice (some ⟨X.heap.size, 0, none⟩) k k := by rw [← hA10]; exact ev_self A9 32 (.slice (some ⟨X.heap.size, 0, none⟩) k k) (by omega)
  have szA10 : A10.tmps.size = 73 := by rw [← hA10]; exact (sz_put A9 32 (.slice (some ⟨X.heap.size, 0, none⟩) k k)).trans szA9
  have HA10 := Lib.hid (show A9.put (some 32) (.slice (some ⟨X.heap.size, 0, none⟩) k k) = A10 from hA10)
  clear hA10 szA9 d29 d31
  have d32 := e32
  clear e32
  have O4 := Lib.hid (show x4.ownsRow 0 5 1 (.slice (some ⟨X.heap.size, 0, none⟩) k k) k (cellsOf (be k v.bs.length)) from o4)
  have G4 := Lib.hid (show Grew X x4 none from grew_trans (grew_drew (grew_refl X none)) g4)
  clear o4 g4
  have hq1 : Grew w x4 none := grew_trans G1.out G4.out
  refine wpAnyH_ready (rs := [9]) (by kernel_rfl) (by simp) ?_
  refine AllReadyH.cons rfl (fun K hK => ?_) AllReadyH.nil
  refine wp_appU rfl rfl O4.out d32 (HB.out x4 hq1) v.d d34 (by omega) (fun V X5 hApp => hK.out _ _ ?_ (fun _ => ?_))
  · have hf : Fr x4 X5 (fun i => i = X.heap.size) := Fr.of_grew' hApp.2.1 (fun i hi => by simp [Value.ownBlock] at hi; omega)
    have h1 := K1.out.lt
    exact ⟨hf.cell S4.out.1 (show ¬ q = X.heap.size by omega), hf.cell S4.out.2 (show ¬ q + 1 = X.heap.size by omega)⟩
  have HAP := Lib.hid hApp
  have S5 := Lib.hid (show (fun w' => w'.cell? ⟨q, 1, none⟩ = some (.int .i64 (k : Int)) ∧ w'.cell? ⟨q + 1, 1, none⟩ = some (.slice v.B v.bs.length v.d)) X5 from by
    have hf : Fr x4 X5 (fun i => i = X.heap.size) := Fr.of_grew' hApp.2.1 (fun i hi => by simp [Value.ownBlock] at hi; omega)
    have h1 := K1.out.lt
    exact ⟨hf.cell S4.out.1 (show ¬ q = X.heap.size by omega), hf.cell S4.out.2 (show ¬ q + 1 = X.heap.size by omega)⟩)
  have HQ1 := Lib.hid hq1
  clear hK K hApp S4 hq1
  refine act_letter (fun A11 hA11 => ?_)
  have e35 : A11.eval (.tmp 35) = V := by rw [← hA11]; exact ev_self A10 35 (V) (by omega)
  have szA11 : A11.tmps.size = 73 := by rw [← hA11]; exact (sz_put A10 35 (V)).trans szA10
  have HA11 := Lib.hid (show A10.put (some 35) (V) = A11 from hA11)
  clear hA11 szA10 d34 d32
  have d35 := e35
  clear e35
  refine wpAnyH_take (i := 10) (v := V) rfl (by kernel_rfl) (by kernel_rfl) (by kernel_rfl) (fun _ _ _ h => h) (.inl ⟨rfl, fun w g => run_asgn rfl d35 w⟩) S5.out ?_
  refine act_letter (fun A12 hA12 => ?_)
  have e4 : A12.eval (.tmp 4) = V := by rw [← hA12]; exact ev_self A11 4 (V) (by omega)
  have szA12 : A12.tmps.size = 73 := by rw [← hA12]; exact (sz_put A11 4 (V)).trans szA11
  have HA12 := Lib.hid (show A11.put (some 4) (V) = A12 from hA12)
  clear hA12 szA11 d35
  have d4 := e4
  clear e4
  refine wpAnyH_done (by kernel_rfl) ?_ _
  rw [← HA12.out, ← HA11.out, ← HA10.out, ← HA9.out, ← HA8.out, ← HA7.out, ← HA6.out, ← HA5.out, ← HA4.out, ← HA3.out, ← HA2.out, ← HA1.out]
  clear HA2 HA3 HA4 HA5 HA6 HA7 HA8 HA9 HA10 HA11 HA12 HA1 d4 szA12
  simp only [Act.put, List.setIfInBounds_toArray, List.set_cons_zero, List.set_cons_succ]
  clear S5 a0 a1 a2 a3 a4 a5 c0 c1 c2
  go_wp2_with fail
  go_ret
  have hX : q ≤ X.heap.size := by have := K1.out.lt; omega
  obtain ⟨p1, p2⟩ := app_new HQ1.out (V := .slice (some ⟨X.heap.size, 0, none⟩) k k) (fun g hg => by simp [Value.ownBlock] at hg; have := HQ.out; omega) HAP.out
  have hl' : k + v.bs.length = (be k v.bs.length ++ v.bs).length := by rw [List.length_append, be_length]
  exact ⟨V, rfl, by rw [← hl']; exact HAP.out.1, p1, p2⟩
end Go.Proofs.Ytibbeodcheefaaa


/- The document's bytes of a value of a form: rows, lists, all. -/
namespace Go.Proofs.Ytibbeodcheefaaa
open Go.RowKit Va


set_option maxRecDepth 100000 in
set_option maxHeartbeats 4000000 in
theorem rw_row (w : World) (s : Int) (l h t : Int) (A : Option Addr) (c : Nat) (ps : List Fo) (n : Int) (B : Option Addr) (d : Nat) (bs : List UInt8) (A' : Option Addr) (c' : Nat) (ls : List Va) (hin : Fo.In w (.mk 3 s l h t A c ps)) (hv : Va.In w (.mk n B d bs A' c' ls)) (g : Nat → Fo) (hg : ls.length ≤ ps.length ∧ ∀ i p, ps[i]? = some p → g i = p)
    (ih : ∀ i u, ls[i]? = some u → ∀ W, Grew w W none → Calls Try.prog 17 #[(g i).val, u.val] W (RWr W (Rd.wr (g i) u))) (T : List UInt8) (hT : joinF g 0 ls = T) (hl : T.length ≤ 10000000) :
    Calls Try.prog 17 #[.agg #[.int .i64 3, .int .i64 s, .int .i64 l, .int .i64 h, .int .i64 t, .slice A ps.length c], .agg #[.int .u64 n, .slice B bs.length d, .slice A' ls.length c']] w (RWr w T) := by
  obtain ⟨g1, k0, k1, ks⟩ := two_new w #[.int .i64 3, .int .i64 s, .int .i64 l, .int .i64 h, .int .i64 t, .slice A ps.length c] 24 #[.int .u64 n, .slice B bs.length d, .slice A' ls.length c'] 29
  have ga := grew_alloc (grew_refl ((w.alloc (.cells #[.int .i64 3, .int .i64 s, .int .i64 l, .int .i64 h, .int .i64 t, .slice A ps.length c] 24)).alloc (.cells #[.int .u64 n, .slice B bs.length d, .slice A' ls.length c'] 29)) none) (.cells #[] 5)
  have hlz : ls.length ≤ 2513169434916 := hv.list.2.2
  have HR := Lib.hid (show ∀ W, W = ((w.alloc (.cells #[.int .i64 3, .int .i64 s, .int .i64 l, .int .i64 h, .int .i64 t, .slice A ps.length c] 24)).alloc (.cells #[.int .u64 n, .slice B bs.length d, .slice A' ls.length c'] 29)).alloc (.cells #[] 5) → Grew w W none ∧ Whole W w.heap.size #[.int .i64 3, .int .i64 s, .int .i64 l, .int .i64 h, .int .i64 t, .slice A ps.length c] 24 ∧ Whole W (w.heap.size + 1) #[.int .u64 n, .slice B bs.length d, .slice A' ls.length c'] 29 ∧ W.ownsRow 0 5 1 (.slice (some ⟨w.heap.size + 1 + 1, 0, none⟩) 0 0) ([] : List UInt8).length (cellsOf []) ∧ (∀ g, (Value.slice (some ⟨w.heap.size + 1 + 1, 0, none⟩) 0 0).ownBlock = some g → w.heap.size ≤ g) ∧ [] ++ joinF g 0 (ls.drop 0) = T from by
    rintro W rfl
    refine ⟨grew_trans g1 ga, k0.grew ga (by simp), k1.grew ga (by simp), ?_, fun g hg => by simp [Value.ownBlock] at hg; omega, hT⟩
    have := own_nil0 ((w.alloc (.cells #[.int .i64 3, .int .i64 s, .int .i64 l, .int .i64 h, .int .i64 t, .slice A ps.length c] 24)).alloc (.cells #[.int .u64 n, .slice B bs.length d, .slice A' ls.length c'] 29))
    rw [ks] at this
    exact this)
  have HIN := Lib.hid hin
  have HV := Lib.hid hv
  have HG := Lib.hid hg
  have HIH := Lib.hid ih
  clear g1 k0 k1 ks ga hin hv hg ih hT
  go_enter Try.func17, Try.ntmps17
  go_upto_region 11 with (fail)
  have HR' := Lib.hid (HR.out _ rfl)
  clear HR
  generalize ((w.alloc (.cells #[.int .i64 3, .int .i64 s, .int .i64 l, .int .i64 h, .int .i64 t, .slice A ps.length c] 24)).alloc (.cells #[.int .u64 n, .slice B bs.length d, .slice A' ls.length c'] 29)).alloc (.cells #[] 5) = W0 at *
  generalize hq2 : w.heap.size + 1 + 1 = q2 at *
  clear hq2
  generalize hq : w.heap.size = q at *
  have HQ := Lib.hid hq
  clear hq
  go_loopg [6, 5] (ls.length) (fun gi i p wr => ∃ (j : Nat) (V : Value) (xs : List UInt8), i = .int .i64 j ∧ V = p ∧ j ≤ ls.length ∧ gi = ls.length - j ∧ Hid (Grew w wr none ∧ Whole wr q #[.int .i64 3, .int .i64 s, .int .i64 l, .int .i64 h, .int .i64 t, .slice A ps.length c] 24 ∧ Whole wr (q + 1) #[.int .u64 n, .slice B bs.length d, .slice A' ls.length c'] 29 ∧ wr.ownsRow 0 5 1 V xs.length (cellsOf xs) ∧ (∀ g, V.ownBlock = some g → q ≤ g) ∧ xs ++ joinF g j (ls.drop j) = T))
  case atStart => exact ⟨0, _, [], rfl, rfl, Nat.zero_le _, rfl, HR'⟩
  case round =>
    obtain ⟨j, V, xs, rfl, rfl, hj, hgi, R⟩ := hrel
    have HGI := Lib.hid hgi
    clear hgi
    obtain ⟨b0, b1, b2, b3, b4, b5⟩ := R.out.2.1.six
    obtain ⟨m0, m1, m2⟩ := R.out.2.2.1.three
    by_cases hlt : j < ls.length
    · go_upto_region 16 with (fail)
      obtain ⟨bv, ov, u, hA', hu, hum, c0, c1, c2⟩ := (show Va.Lie w A' ls from HV.out.list.1).at hlt
      obtain ⟨bf, of, p, hA, hp, hpm, hpi, d0, d1, d2, d3, d4, d5⟩ := HIN.out.at (i := j) (Nat.lt_of_lt_of_le hlt HG.out.1)
      subst hA hA'
      have hgp : g j = p := HG.out.2 j p hp
      have hcv := HIH.out j u hu
      rw [hgp] at hcv
      have hgw := R.out.1
      have hbf : bf < w.heap.size := by have := World.block_lt_of_cell? _ _ d0; exact this
      have hbv : bv < w.heap.size := by have := World.block_lt_of_cell? _ _ c0; exact this
      have n1 : ¬ V.ownBlock = some q := own_ne R.out.2.2.2.1 R.out.2.1 (by decide)
      have n2 : ¬ V.ownBlock = some (q + 1) := own_ne R.out.2.2.2.1 R.out.2.2.1 (by decide)
      have n3 : ¬ V.ownBlock = some bf := fun e => by have := R.out.2.2.2.2.1 _ e; have := HQ.out; omega
      have n4 : ¬ V.ownBlock = some bv := fun e => by have := R.out.2.2.2.2.1 _ e; have := HQ.out; omega
      have c0' := hgw.cell c0 (by simp)
      have c1' := hgw.cell c1 (by simp)
      have c2' := hgw.cell c2 (by simp)
      have d0' := hgw.cell d0 (by simp)
      have d1' := hgw.cell d1 (by simp)
      have d2' := hgw.cell d2 (by simp)
      have d3' := hgw.cell d3 (by simp)
      have d4' := hgw.cell d4 (by simp)
      have d5' := hgw.cell d5 (by simp)
      have HCV := Lib.hid hcv
      have HN := Lib.hid (show _ ∧ _ ∧ _ ∧ _ from ⟨n1, n2, n3, n4⟩)
      have hdr := R.out.2.2.2.2.2
      rw [Va.drop_at hu, joinF, hgp] at hdr
      have HDR := Lib.hid hdr
      have hfl : xs.length + (Rd.wr p u).length ≤ 10000000 := by
        have := congrArg List.length hdr
        rw [List.length_append, List.length_append] at this
        omega
      have HFL := Lib.hid hfl
      clear hcv hgp hum hpm hpi hp hu c0 c1 c2 d0 d1 d2 d3 d4 d5 hbf hbv n1 n2 n3 n4 hdr hfl b0 b1 b2 b3 b4 m0 m1
      have GS := Lib.hid (show (fun w' => Fr wr w' (fun i => V.ownBlock = some i)) (World.drew wr) from (Fr.refl _ _).drew)
      refine act_letterC (fun A1 hA1 => ?_)
      have d2 : A1.eval (.tmp 2) = .pointer (some ⟨q, 0, none⟩) := by rw [← hA1]; rfl
      have d3 : A1.eval (.tmp 3) = .pointer (some ⟨q + 1, 0, none⟩) := by rw [← hA1]; rfl
      have d5 : A1.eval (.tmp 5) = V := by rw [← hA1]; rfl
      have d6 : A1.eval (.tmp 6) = .int .i64 (j : Int) := by rw [← hA1]; rfl
      have d7 : A1.eval (.tmp 7) = .int .i64 (j : Int) := by rw [← hA1]; rfl
      have szA1 : A1.tmps.size = 73 := by rw [← hA1]; rfl
      have HA1 := Lib.hid hA1
      clear hA1
      refine wp_region_held (S := fun w' => Fr wr w' (fun i => V.ownBlock = some i)) (by kernel_rfl) ?_
      change wpAnyH _ _ _ _ _ _ _ _ (World.drew wr)
      refine wpAnyH_take (i := 0) (v := V) rfl (by kernel_rfl) (by kernel_rfl) (by kernel_rfl) (fun _ _ _ h => h) (.inl ⟨rfl, fun w g => run_moveV rfl d5 w⟩) GS.out ?_
      refine act_letter (fun A2 hA2 => ?_)
      replace d2 : A2.eval (.tmp 2) = .pointer (some ⟨q, 0, none⟩) := by rw [← hA2]; exact (ev_ne A1 (m := 48) (n := 2) (V) (by decide)).trans d2
      replace d3 : A2.eval (.tmp 3) = .pointer (some ⟨q + 1, 0, none⟩) := by rw [← hA2]; exact (ev_ne A1 (m := 48) (n := 3) (V) (by decide)).trans d3
      replace d6 : A2.eval (.tmp 6) = .int .i64 (j : Int) := by rw [← hA2]; exact (ev_ne A1 (m := 48) (n := 6) (V) (by decide)).trans d6
      replace d7 : A2.eval (.tmp 7) = .int .i64 (j : Int) := by rw [← hA2]; exact (ev_ne A1 (m := 48) (n := 7) (V) (by decide)).trans d7
      have e48 : A2.eval (.tmp 48) = V := by rw [← hA2]; exact ev_self A1 48 (V) (by omega)
      have szA2 : A2.tmps.size = 73 := by rw [← hA2]; exact (sz_put A1 48 (V)).trans szA1
      have HA2 := Lib.hid (show A1.put (some 48) (V) = A2 from hA2)
      clear hA2 szA1 d5
      have d48 := e48
      clear e48
      refine wpAnyH_take (i := 1) (v := .pointer (some ⟨q, 5, none⟩)) rfl (by kernel_rfl) (by kernel_rfl) (by kernel_rfl) (fun _ _ _ h => h) (.inl ⟨rfl, fun w g => run_ff5 rfl d2 w⟩) GS.out ?_
      refine act_letter (fun A3 hA3 => ?_)
      replace d3 : A3.eval (.tmp 3) = .pointer (some ⟨q + 1, 0, none⟩) := by rw [← hA3]; exact (ev_ne A2 (m := 49) (n := 3) (.pointer (some ⟨q, 5, none⟩)) (by decide)).trans d3
      replace d6 : A3.eval (.tmp 6) = .int .i64 (j : Int) := by rw [← hA3]; exact (ev_ne A2 (m := 49) (n := 6) (.pointer (some ⟨q, 5, none⟩)) (by decide)).trans d6
      replace d7 : A3.eval (.tmp 7) = .int .i64 (j : Int) := by rw [← hA3]; exact (ev_ne A2 (m := 49) (n := 7) (.pointer (some ⟨q, 5, none⟩)) (by decide)).trans d7
      replace d48 : A3.eval (.tmp 48) = V := by rw [← hA3]; exact (ev_ne A2 (m := 49) (n := 48) (.pointer (some ⟨q, 5, none⟩)) (by decide)).trans d48
      have e49 : A3.eval (.tmp 49) = .pointer (some ⟨q, 5, none⟩) := by rw [← hA3]; exact ev_self A2 49 (.pointer (some ⟨q, 5, none⟩)) (by omega)
      have szA3 : A3.tmps.size = 73 := by rw [← hA3]; exact (sz_put A2 49 (.pointer (some ⟨q, 5, none⟩))).trans szA2
      have HA3 := Lib.hid (show A2.put (some 49) (.pointer (some ⟨q, 5, none⟩)) = A3 from hA3)
      clear hA3 szA2 d2
      have d49 := e49
      clear e49
      refine wpAnyH_take (i := 2) (v := .slice (some ⟨bf, of, none⟩) ps.length c) rfl (by kernel_rfl) (by kernel_rfl) (by kernel_rfl) (fun _ _ _ h => h) (.inl ⟨rfl, fun w g => run_ldFs rfl d49 (g.cell b5 HN.out.1)⟩) GS.out ?_
      refine act_letter (fun A4 hA4 => ?_)
      replace d3 : A4.eval (.tmp 3) = .pointer (some ⟨q + 1, 0, none⟩) := by rw [← hA4]; exact (ev_ne A3 (m := 50) (n := 3) (.slice (some ⟨bf, of, none⟩) ps.length c) (by decide)).trans d3
      replace d6 : A4.eval (.tmp 6) = .int .i64 (j : Int) := by rw [← hA4]; exact (ev_ne A3 (m := 50) (n := 6) (.slice (some ⟨bf, of, none⟩) ps.length c) (by decide)).trans d6
      replace d7 : A4.eval (.tmp 7) = .int .i64 (j : Int) := by rw [← hA4]; exact (ev_ne A3 (m := 50) (n := 7) (.slice (some ⟨bf, of, none⟩) ps.length c) (by decide)).trans d7
      replace d48 : A4.eval (.tmp 48) = V := by rw [← hA4]; exact (ev_ne A3 (m := 50) (n := 48) (.slice (some ⟨bf, of, none⟩) ps.length c) (by decide)).trans d48
      have e50 : A4.eval (.tmp 50) = .slice (some ⟨bf, of, none⟩) ps.length c := by rw [← hA4]; exact ev_self A3 50 (.slice (some ⟨bf, of, none⟩) ps.length c) (by omega)
      have szA4 : A4.tmps.size = 73 := by rw [← hA4]; exact (sz_put A3 50 (.slice (some ⟨bf, of, none⟩) ps.length c)).trans szA3
      have HA4 := Lib.hid (show A3.put (some 50) (.slice (some ⟨bf, of, none⟩) ps.length c) = A4 from hA4)
      clear hA4 szA3 d49
      have d50 := e50
      clear e50
      refine wpAnyH_take (i := 3) (v := .int .i64 (j : Int)) rfl (by kernel_rfl) (by kernel_rfl) (by kernel_rfl) (fun _ _ _ h => h) (.inl ⟨rfl, fun w g => run_moveV rfl d7 w⟩) GS.out ?_
      refine act_letter (fun A5 hA5 => ?_)
      replace d3 : A5.eval (.tmp 3) = .pointer (some ⟨q + 1, 0, none⟩) := by rw [← hA5]; exact (ev_ne A4 (m := 51) (n := 3) (.int .i64 (j : Int)) (by decide)).trans d3
      replace d6 : A5.eval (.tmp 6) = .int .i64 (j : Int) := by rw [← hA5]; exact (ev_ne A4 (m := 51) (n := 6) (.int .i64 (j : Int)) (by decide)).trans d6
      replace d48 : A5.eval (.tmp 48) = V := by rw [← hA5]; exact (ev_ne A4 (m := 51) (n := 48) (.int .i64 (j : Int)) (by decide)).trans d48
      replace d50 : A5.eval (.tmp 50) = .slice (some ⟨bf, of, none⟩) ps.length c := by rw [← hA5]; exact (ev_ne A4 (m := 51) (n := 50) (.int .i64 (j : Int)) (by decide)).trans d50
      have e51 : A5.eval (.tmp 51) = .int .i64 (j : Int) := by rw [← hA5]; exact ev_self A4 51 (.int .i64 (j : Int)) (by omega)
      have szA5 : A5.tmps.size = 73 := by rw [← hA5]; exact (sz_put A4 51 (.int .i64 (j : Int))).trans szA4
      have HA5 := Lib.hid (show A4.put (some 51) (.int .i64 (j : Int)) = A5 from hA5)
      clear hA5 szA4 d7
      have d51 := e51
      clear e51
      refine wpAnyH_take (i := 4) (v := .pointer (some ⟨bf, of + j * 6, none⟩)) rfl (by kernel_rfl) (by kernel_rfl) (by kernel_rfl) (fun _ _ _ h => h) (.inl ⟨rfl, fun w g => run_idxF rfl d50 d51 (Nat.lt_of_lt_of_le hlt HG.out.1) w⟩) GS.out ?_
      refine act_letter (fun A6 hA6 => ?_)
      replace d3 : A6.eval (.tmp 3) = .pointer (some ⟨q + 1, 0, none⟩) := by rw [← hA6]; exact (ev_ne A5 (m := 52) (n := 3) (.pointer (some ⟨bf, of + j * 6, none⟩)) (by decide)).trans d3
      replace d6 : A6.eval (.tmp 6) = .int .i64 (j : Int) := by rw [← hA6]; exact (ev_ne A5 (m := 52) (n := 6) (.pointer (some ⟨bf, of + j * 6, none⟩)) (by decide)).trans d6
      replace d48 : A6.eval (.tmp 48) = V := by rw [← hA6]; exact (ev_ne A5 (m := 52) (n := 48) (.pointer (some ⟨bf, of + j * 6, none⟩)) (by decide)).trans d48
      have e52 : A6.eval (.tmp 52) = .pointer (some ⟨bf, of + j * 6, none⟩) := by rw [← hA6]; exact ev_self A5 52 (.pointer (some ⟨bf, of + j * 6, none⟩)) (by omega)
      have szA6 : A6.tmps.size = 73 := by rw [← hA6]; exact (sz_put A5 52 (.pointer (some ⟨bf, of + j * 6, none⟩))).trans szA5
      have HA6 := Lib.hid (show A5.put (some 52) (.pointer (some ⟨bf, of + j * 6, none⟩)) = A6 from hA6)
      clear hA6 szA5 d50 d51
      have d52 := e52
      clear e52
      refine wpAnyH_take (i := 5) (v := p.val) rfl (by kernel_rfl) (by kernel_rfl) (by kernel_rfl) (fun _ _ _ h => h) (.inl ⟨rfl, fun w g => run_ldF rfl d52 (g.cell d0' HN.out.2.2.1) (g.cell d1' HN.out.2.2.1) (g.cell d2' HN.out.2.2.1) (g.cell d3' HN.out.2.2.1) (g.cell d4' HN.out.2.2.1) (g.cell d5' HN.out.2.2.1)⟩) GS.out ?_
      refine act_letter (fun A7 hA7 => ?_)
      replace d3 : A7.eval (.tmp 3) = .pointer (some ⟨q + 1, 0, none⟩) := by rw [← hA7]; exact (ev_ne A6 (m := 53) (n := 3) (p.val) (by decide)).trans d3
      replace d6 : A7.eval (.tmp 6) = .int .i64 (j : Int) := by rw [← hA7]; exact (ev_ne A6 (m := 53) (n := 6) (p.val) (by decide)).trans d6
      replace d48 : A7.eval (.tmp 48) = V := by rw [← hA7]; exact (ev_ne A6 (m := 53) (n := 48) (p.val) (by decide)).trans d48
      have e53 : A7.eval (.tmp 53) = p.val := by rw [← hA7]; exact ev_self A6 53 (p.val) (by omega)
      have szA7 : A7.tmps.size = 73 := by rw [← hA7]; exact (sz_put A6 53 (p.val)).trans szA6
      have HA7 := Lib.hid (show A6.put (some 53) (p.val) = A7 from hA7)
      clear hA7 szA6 d52
      have d53 := e53
      clear e53
      refine wpAnyH_take (i := 6) (v := .pointer (some ⟨q + 1, 2, none⟩)) rfl (by kernel_rfl) (by kernel_rfl) (by kernel_rfl) (fun _ _ _ h => h) (.inl ⟨rfl, fun w g => run_fv2 rfl d3 w⟩) GS.out ?_
      refine act_letter (fun A8 hA8 => ?_)
      replace d6 : A8.eval (.tmp 6) = .int .i64 (j : Int) := by rw [← hA8]; exact (ev_ne A7 (m := 54) (n := 6) (.pointer (some ⟨q + 1, 2, none⟩)) (by decide)).trans d6
      replace d48 : A8.eval (.tmp 48) = V := by rw [← hA8]; exact (ev_ne A7 (m := 54) (n := 48) (.pointer (some ⟨q + 1, 2, none⟩)) (by decide)).trans d48
      replace d53 : A8.eval (.tmp 53) = p.val := by rw [← hA8]; exact (ev_ne A7 (m := 54) (n := 53) (.pointer (some ⟨q + 1, 2, none⟩)) (by decide)).trans d53
      have e54 : A8.eval (.tmp 54) = .pointer (some ⟨q + 1, 2, none⟩) := by rw [← hA8]; exact ev_self A7 54 (.pointer (some ⟨q + 1, 2, none⟩)) (by omega)
      have szA8 : A8.tmps.size = 73 := by rw [← hA8]; exact (sz_put A7 54 (.pointer (some ⟨q + 1, 2, none⟩))).trans szA7
      have HA8 := Lib.hid (show A7.put (some 54) (.pointer (some ⟨q + 1, 2, none⟩)) = A8 from hA8)
      clear hA8 szA7 d3
      have d54 := e54
      clear e54
      refine wpAnyH_take (i := 7) (v := .slice (some ⟨bv, ov, none⟩) ls.length c') rfl (by kernel_rfl) (by kernel_rfl) (by kernel_rfl) (fun _ _ _ h => h) (.inl ⟨rfl, fun w g => run_ldVs rfl d54 (g.cell m2 HN.out.2.1)⟩) GS.out ?_
      refine act_letter (fun A9 hA9 => ?_)
      replace d6 : A9.eval (.tmp 6) = .int .i64 (j : Int) := by rw [← hA9]; exact (ev_ne A8 (m := 55) (n := 6) (.slice (some ⟨bv, ov, none⟩) ls.length c') (by decide)).trans d6
      replace d48 : A9.eval (.tmp 48) = V := by rw [← hA9]; exact (ev_ne A8 (m := 55) (n := 48) (.slice (some ⟨bv, ov, none⟩) ls.length c') (by decide)).trans d48
      replace d53 : A9.eval (.tmp 53) = p.val := by rw [← hA9]; exact (ev_ne A8 (m := 55) (n := 53) (.slice (some ⟨bv, ov, none⟩) ls.length c') (by decide)).trans d53
      have e55 : A9.eval (.tmp 55) = .slice (some ⟨bv, ov, none⟩) ls.length c' := by rw [← hA9]; exact ev_self A8 55 (.slice (some ⟨bv, ov, none⟩) ls.length c') (by omega)
      have szA9 : A9.tmps.size = 73 := by rw [← hA9]; exact (sz_put A8 55 (.slice (some ⟨bv, ov, none⟩) ls.length c')).trans szA8
      have HA9 := Lib.hid (show A8.put (some 55) (.slice (some ⟨bv, ov, none⟩) ls.length c') = A9 from hA9)
      clear hA9 szA8 d54
      have d55 := e55
      clear e55
      refine wpAnyH_take (i := 8) (v := .int .i64 (j : Int)) rfl (by kernel_rfl) (by kernel_rfl) (by kernel_rfl) (fun _ _ _ h => h) (.inl ⟨rfl, fun w g => run_moveV rfl d6 w⟩) GS.out ?_
      refine act_letter (fun A10 hA10 => ?_)
      replace d6 : A10.eval (.tmp 6) = .int .i64 (j : Int) := by rw [← hA10]; exact (ev_ne A9 (m := 56) (n := 6) (.int .i64 (j : Int)) (by decide)).trans d6
      replace d48 : A10.eval (.tmp 48) = V := by rw [← hA10]; exact (ev_ne A9 (m := 56) (n := 48) (.int .i64 (j : Int)) (by decide)).trans d48
      replace d53 : A10.eval (.tmp 53) = p.val := by rw [← hA10]; exact (ev_ne A9 (m := 56) (n := 53) (.int .i64 (j : Int)) (by decide)).trans d53
      replace d55 : A10.eval (.tmp 55) = .slice (some ⟨bv, ov, none⟩) ls.length c' := by rw [← hA10]; exact (ev_ne A9 (m := 56) (n := 55) (.int .i64 (j : Int)) (by decide)).trans d55
      have e56 : A10.eval (.tmp 56) = .int .i64 (j : Int) := by rw [← hA10]; exact ev_self A9 56 (.int .i64 (j : Int)) (by omega)
      have szA10 : A10.tmps.size = 73 := by rw [← hA10]; exact (sz_put A9 56 (.int .i64 (j : Int))).trans szA9
      have HA10 := Lib.hid (show A9.put (some 56) (.int .i64 (j : Int)) = A10 from hA10)
      clear hA10 szA9
      have d56 := e56
      clear e56
      refine wpAnyH_take (i := 9) (v := .pointer (some ⟨bv, ov + j * 3, none⟩)) rfl (by kernel_rfl) (by kernel_rfl) (by kernel_rfl) (fun _ _ _ h => h) (.inl ⟨rfl, fun w g => run_idxV rfl d55 d56 hlt w⟩) GS.out ?_
      refine act_letter (fun A11 hA11 => ?_)
      replace d6 : A11.eval (.tmp 6) = .int .i64 (j : Int) := by rw [← hA11]; exact (ev_ne A10 (m := 57) (n := 6) (.pointer (some ⟨bv, ov + j * 3, none⟩)) (by decide)).trans d6
      replace d48 : A11.eval (.tmp 48) = V := by rw [← hA11]; exact (ev_ne A10 (m := 57) (n := 48) (.pointer (some ⟨bv, ov + j * 3, none⟩)) (by decide)).trans d48
      replace d53 : A11.eval (.tmp 53) = p.val := by rw [← hA11]; exact (ev_ne A10 (m := 57) (n := 53) (.pointer (some ⟨bv, ov + j * 3, none⟩)) (by decide)).trans d53
      have e57 : A11.eval (.tmp 57) = .pointer (some ⟨bv, ov + j * 3, none⟩) := by rw [← hA11]; exact ev_self A10 57 (.pointer (some ⟨bv, ov + j * 3, none⟩)) (by omega)
      have szA11 : A11.tmps.size = 73 := by rw [← hA11]; exact (sz_put A10 57 (.pointer (some ⟨bv, ov + j * 3, none⟩))).trans szA10
      have HA11 := Lib.hid (show A10.put (some 57) (.pointer (some ⟨bv, ov + j * 3, none⟩)) = A11 from hA11)
      clear hA11 szA10 d55 d56
      have d57 := e57
      clear e57
      refine wpAnyH_take (i := 10) (v := u.val) rfl (by kernel_rfl) (by kernel_rfl) (by kernel_rfl) (fun _ _ _ h => h) (.inl ⟨rfl, fun w g => run_ldVv rfl d57 (g.cell c0' HN.out.2.2.2) (g.cell c1' HN.out.2.2.2) (g.cell c2' HN.out.2.2.2)⟩) GS.out ?_
      refine act_letter (fun A12 hA12 => ?_)
      replace d6 : A12.eval (.tmp 6) = .int .i64 (j : Int) := by rw [← hA12]; exact (ev_ne A11 (m := 58) (n := 6) (u.val) (by decide)).trans d6
      replace d48 : A12.eval (.tmp 48) = V := by rw [← hA12]; exact (ev_ne A11 (m := 58) (n := 48) (u.val) (by decide)).trans d48
      replace d53 : A12.eval (.tmp 53) = p.val := by rw [← hA12]; exact (ev_ne A11 (m := 58) (n := 53) (u.val) (by decide)).trans d53
      have e58 : A12.eval (.tmp 58) = u.val := by rw [← hA12]; exact ev_self A11 58 (u.val) (by omega)
      have szA12 : A12.tmps.size = 73 := by rw [← hA12]; exact (sz_put A11 58 (u.val)).trans szA11
      have HA12 := Lib.hid (show A11.put (some 58) (u.val) = A12 from hA12)
      clear hA12 szA11 d57
      have d58 := e58
      clear e58
      refine wpAnyH_ready (rs := [11]) (by kernel_rfl) (by simp) ?_
      refine AllReadyH.cons rfl (fun K hK => ?_) AllReadyH.nil
      refine wp_callG rfl (rfl) enter_rw (vs := #[p.val, u.val]) (by simp [d53, d58]) ((HCV.out _ (grew_trans R.out.1 (grew_drew (grew_refl wr none)))).mono ?_)
      rintro e x4 ⟨V4, rfl, o4, v4, g4⟩
      refine ⟨_, rfl, hK.out _ _ (GS.out.trans (fr_of g4) (fun _ _ h => h)) (fun _ => ?_)⟩
      clear hK K
      have S4 := Lib.hid (show (fun w' => Fr wr w' (fun i => V.ownBlock = some i)) x4 from GS.out.trans (fr_of g4) (fun _ _ h => h))
      clear GS
      refine act_letter (fun A13 hA13 => ?_)
      replace d6 : A13.eval (.tmp 6) = .int .i64 (j : Int) := by rw [← hA13]; exact (ev_ne A12 (m := 59) (n := 6) (V4) (by decide)).trans d6
      replace d48 : A13.eval (.tmp 48) = V := by rw [← hA13]; exact (ev_ne A12 (m := 59) (n := 48) (V4) (by decide)).trans d48
      have e59 : A13.eval (.tmp 59) = V4 := by rw [← hA13]; exact ev_self A12 59 (V4) (by omega)
      have szA13 : A13.tmps.size = 73 := by rw [← hA13]; exact (sz_put A12 59 (V4)).trans szA12
      have HA13 := Lib.hid (show A12.put (some 59) (V4) = A13 from hA13)
      clear hA13 szA12 d53 d58
      have d59 := e59
      clear e59
      obtain ⟨A4, e4, rfl, _, hb4⟩ := byt_of_own o4
      have ho4 := own_fr R.out.2.2.2.1 (((Fr.refl wr (fun _ => False)).drew).trans (fr_of g4 (F := fun _ => False)) (fun _ _ h => h)) (fun _ _ h => h)
      have HG4 := Lib.hid (show Grew w x4 none from grew_trans (grew_trans R.out.1 (grew_drew (grew_refl wr none))) g4)
      clear o4 v4 g4
      refine wpAnyH_ready (rs := [12]) (by kernel_rfl) (by simp) ?_
      refine AllReadyH.cons rfl (fun K hK => ?_) AllReadyH.nil
      refine wp_appU rfl rfl ho4 d48 hb4.byf e4 d59 (by have := HFL.out; omega) (fun V5 X5 hApp => hK.out _ _ (S4.out.trans (Fr.of_grew' hApp.2.1 (fun i hi => hi)) (fun _ _ h => h)) (fun _ => ?_))
      have S5 := Lib.hid (show (fun w' => Fr wr w' (fun i => V.ownBlock = some i)) X5 from S4.out.trans (Fr.of_grew' hApp.2.1 (fun i hi => hi)) (fun _ _ h => h))
      have HAP := Lib.hid hApp
      clear hK K hApp S4 ho4 hb4
      refine act_letter (fun A14 hA14 => ?_)
      replace d6 : A14.eval (.tmp 6) = .int .i64 (j : Int) := by rw [← hA14]; exact (ev_ne A13 (m := 60) (n := 6) (V5) (by decide)).trans d6
      have e60 : A14.eval (.tmp 60) = V5 := by rw [← hA14]; exact ev_self A13 60 (V5) (by omega)
      have szA14 : A14.tmps.size = 73 := by rw [← hA14]; exact (sz_put A13 60 (V5)).trans szA13
      have HA14 := Lib.hid (show A13.put (some 60) (V5) = A14 from hA14)
      clear hA14 szA13 d48 d59
      have d60 := e60
      clear e60
      refine wpAnyH_take (i := 13) (v := V5) rfl (by kernel_rfl) (by kernel_rfl) (by kernel_rfl) (fun _ _ _ h => h) (.inl ⟨rfl, fun w g => run_asgn rfl d60 w⟩) S5.out ?_
      refine act_letter (fun A15 hA15 => ?_)
      replace d6 : A15.eval (.tmp 6) = .int .i64 (j : Int) := by rw [← hA15]; exact (ev_ne A14 (m := 5) (n := 6) (V5) (by decide)).trans d6
      have e5 : A15.eval (.tmp 5) = V5 := by rw [← hA15]; exact ev_self A14 5 (V5) (by omega)
      have szA15 : A15.tmps.size = 73 := by rw [← hA15]; exact (sz_put A14 5 (V5)).trans szA14
      have HA15 := Lib.hid (show A14.put (some 5) (V5) = A15 from hA15)
      clear hA15 szA14 d60
      have d5 := e5
      clear e5
      refine wpAnyH_done (by kernel_rfl) ?_ _
      rw [← HA15.out, ← HA14.out, ← HA13.out, ← HA12.out, ← HA11.out, ← HA10.out, ← HA9.out, ← HA8.out, ← HA7.out, ← HA6.out, ← HA5.out, ← HA4.out, ← HA3.out, ← HA2.out, ← HA1.out]
      clear HA2 HA3 HA4 HA5 HA6 HA7 HA8 HA9 HA10 HA11 HA12 HA13 HA14 HA15 HA1 d6 d5 szA15
      simp only [Act.put, List.setIfInBounds_toArray, List.set_cons_zero, List.set_cons_succ]
      have HR2 := Lib.hid (show Grew w X5 none ∧ Whole X5 q #[.int .i64 3, .int .i64 s, .int .i64 l, .int .i64 h, .int .i64 t, .slice (some ⟨bf, of, none⟩) ps.length c] 24 ∧ Whole X5 (q + 1) #[.int .u64 n, .slice B bs.length d, .slice (some ⟨bv, ov, none⟩) ls.length c'] 29 ∧ X5.ownsRow 0 5 1 V5 (xs ++ Rd.wr p u).length (cellsOf (xs ++ Rd.wr p u)) ∧ (∀ g, V5.ownBlock = some g → q ≤ g) ∧ (xs ++ Rd.wr p u) ++ joinF g (j + 1) (ls.drop (j + 1)) = T from by
        obtain ⟨p1, p2⟩ := app_new HG4.out (V := V) (fun g hg => by have := R.out.2.2.2.2.1 g hg; have := HQ.out; omega) HAP.out
        refine ⟨p2, R.out.2.1.fr S5.out HN.out.1, R.out.2.2.1.fr S5.out HN.out.2.1, ?_, fun g hg => by have := p1 g hg; have := HQ.out; omega, by rw [List.append_assoc]; exact HDR.out⟩
        have := HAP.out.1
        rw [← List.length_append] at this
        exact this)
      clear S5 R HAP HG4 HCV HN HDR HFL c0' c1' c2' d0' d1' d2' d3' d4' d5' b5 m2
      go_wp2_with fail
      go_roundg (ls.length - (j + 1))
      case measure => have := HGI.out; omega
      case rel => exact ⟨j + 1, V5, _, by go_num, rfl, by omega, rfl, HR2⟩
    · obtain rfl : j = ls.length := by omega
      have hx := R.out.2.2.2.2.2
      rw [List.drop_length, joinF, List.append_nil] at hx
      subst hx
      obtain ⟨A5, e5, hV, _⟩ := own_form R.out.2.2.2.1
      subst hV
      go_wp2_with fail
      go_ret
      exact ⟨_, rfl, R.out.2.2.2.1, fun g hg => by have := R.out.2.2.2.2.1 g hg; have := HQ.out; omega, R.out.1⟩


set_option maxRecDepth 100000 in
set_option maxHeartbeats 4000000 in
theorem rw_list (w : World) (sz : Nat) (hsz : sz ≤ 8) (l h t : Int) (A : Option Addr) (c : Nat) (ps : List Fo) (n : Int) (B : Option Addr) (d : Nat) (bs : List UInt8) (A' : Option Addr) (c' : Nat) (ls : List Va) (hin : Fo.In w (.mk 2 sz l h t A c ps)) (hv : Va.In w (.mk n B d bs A' c' ls)) (g : Nat → Fo) (hg : 0 < ps.length ∧ ∀ i p, ps[0]? = some p → g i = p)
    (ih : ∀ i u, ls[i]? = some u → ∀ W, Grew w W none → Calls Try.prog 17 #[(g i).val, u.val] W (RWr W (Rd.wr (g i) u))) (T : List UInt8) (hT : joinF g 0 ls = T) (hl : T.length ≤ 10000000) :
    Calls Try.prog 17 #[.agg #[.int .i64 2, .int .i64 sz, .int .i64 l, .int .i64 h, .int .i64 t, .slice A ps.length c], .agg #[.int .u64 n, .slice B bs.length d, .slice A' ls.length c']] w (RWr w (be sz T.length ++ T)) := by
  obtain ⟨g1, k0, k1, ks⟩ := two_new w #[.int .i64 2, .int .i64 sz, .int .i64 l, .int .i64 h, .int .i64 t, .slice A ps.length c] 24 #[.int .u64 n, .slice B bs.length d, .slice A' ls.length c'] 29
  have ga := grew_alloc (grew_refl ((w.alloc (.cells #[.int .i64 2, .int .i64 sz, .int .i64 l, .int .i64 h, .int .i64 t, .slice A ps.length c] 24)).alloc (.cells #[.int .u64 n, .slice B bs.length d, .slice A' ls.length c'] 29)) none) (.cells #[] 5)
  have hlz : ls.length ≤ 2513169434916 := hv.list.2.2
  have HR := Lib.hid (show ∀ W, W = ((w.alloc (.cells #[.int .i64 2, .int .i64 sz, .int .i64 l, .int .i64 h, .int .i64 t, .slice A ps.length c] 24)).alloc (.cells #[.int .u64 n, .slice B bs.length d, .slice A' ls.length c'] 29)).alloc (.cells #[] 5) → Grew w W none ∧ Whole W w.heap.size #[.int .i64 2, .int .i64 sz, .int .i64 l, .int .i64 h, .int .i64 t, .slice A ps.length c] 24 ∧ Whole W (w.heap.size + 1) #[.int .u64 n, .slice B bs.length d, .slice A' ls.length c'] 29 ∧ W.ownsRow 0 5 1 (.slice (some ⟨w.heap.size + 1 + 1, 0, none⟩) 0 0) ([] : List UInt8).length (cellsOf []) ∧ (∀ g, (Value.slice (some ⟨w.heap.size + 1 + 1, 0, none⟩) 0 0).ownBlock = some g → w.heap.size ≤ g) ∧ [] ++ joinF g 0 (ls.drop 0) = T from by
    rintro W rfl
    refine ⟨grew_trans g1 ga, k0.grew ga (by simp), k1.grew ga (by simp), ?_, fun g hg => by simp [Value.ownBlock] at hg; omega, hT⟩
    have := own_nil0 ((w.alloc (.cells #[.int .i64 2, .int .i64 sz, .int .i64 l, .int .i64 h, .int .i64 t, .slice A ps.length c] 24)).alloc (.cells #[.int .u64 n, .slice B bs.length d, .slice A' ls.length c'] 29))
    rw [ks] at this
    exact this)
  have HIN := Lib.hid hin
  have HV := Lib.hid hv
  have HG := Lib.hid hg
  have HIH := Lib.hid ih
  clear g1 k0 k1 ks ga hin hv hg ih hT
  go_enter Try.func17, Try.ntmps17
  go_upto_region 11 with (fail)
  have HR' := Lib.hid (HR.out _ rfl)
  clear HR
  generalize ((w.alloc (.cells #[.int .i64 2, .int .i64 sz, .int .i64 l, .int .i64 h, .int .i64 t, .slice A ps.length c] 24)).alloc (.cells #[.int .u64 n, .slice B bs.length d, .slice A' ls.length c'] 29)).alloc (.cells #[] 5) = W0 at *
  generalize hq2 : w.heap.size + 1 + 1 = q2 at *
  clear hq2
  generalize hq : w.heap.size = q at *
  have HQ := Lib.hid hq
  clear hq
  go_loopg [6, 5] (ls.length) (fun gi i p wr => ∃ (j : Nat) (V : Value) (xs : List UInt8), i = .int .i64 j ∧ V = p ∧ j ≤ ls.length ∧ gi = ls.length - j ∧ Hid (Grew w wr none ∧ Whole wr q #[.int .i64 2, .int .i64 sz, .int .i64 l, .int .i64 h, .int .i64 t, .slice A ps.length c] 24 ∧ Whole wr (q + 1) #[.int .u64 n, .slice B bs.length d, .slice A' ls.length c'] 29 ∧ wr.ownsRow 0 5 1 V xs.length (cellsOf xs) ∧ (∀ g, V.ownBlock = some g → q ≤ g) ∧ xs ++ joinF g j (ls.drop j) = T))
  case atStart => exact ⟨0, _, [], rfl, rfl, Nat.zero_le _, rfl, HR'⟩
  case round =>
    obtain ⟨j, V, xs, rfl, rfl, hj, hgi, R⟩ := hrel
    have HGI := Lib.hid hgi
    clear hgi
    obtain ⟨b0, b1, b2, b3, b4, b5⟩ := R.out.2.1.six
    obtain ⟨m0, m1, m2⟩ := R.out.2.2.1.three
    by_cases hlt : j < ls.length
    · go_upto_region 16 with (fail)
      obtain ⟨bv, ov, u, hA', hu, hum, c0, c1, c2⟩ := (show Va.Lie w A' ls from HV.out.list.1).at hlt
      obtain ⟨bf, of, p, hA, hp, hpm, hpi, d0, d1, d2, d3, d4, d5⟩ := HIN.out.at (i := 0) (HG.out.1)
      subst hA hA'
      have hgp : g j = p := HG.out.2 j p hp
      have hcv := HIH.out j u hu
      rw [hgp] at hcv
      have hgw := R.out.1
      have hbf : bf < w.heap.size := by have := World.block_lt_of_cell? _ _ d0; exact this
      have hbv : bv < w.heap.size := by have := World.block_lt_of_cell? _ _ c0; exact this
      have n1 : ¬ V.ownBlock = some q := own_ne R.out.2.2.2.1 R.out.2.1 (by decide)
      have n2 : ¬ V.ownBlock = some (q + 1) := own_ne R.out.2.2.2.1 R.out.2.2.1 (by decide)
      have n3 : ¬ V.ownBlock = some bf := fun e => by have := R.out.2.2.2.2.1 _ e; have := HQ.out; omega
      have n4 : ¬ V.ownBlock = some bv := fun e => by have := R.out.2.2.2.2.1 _ e; have := HQ.out; omega
      have c0' := hgw.cell c0 (by simp)
      have c1' := hgw.cell c1 (by simp)
      have c2' := hgw.cell c2 (by simp)
      have d0' := hgw.cell d0 (by simp)
      have d1' := hgw.cell d1 (by simp)
      have d2' := hgw.cell d2 (by simp)
      have d3' := hgw.cell d3 (by simp)
      have d4' := hgw.cell d4 (by simp)
      have d5' := hgw.cell d5 (by simp)
      have HCV := Lib.hid hcv
      have HN := Lib.hid (show _ ∧ _ ∧ _ ∧ _ from ⟨n1, n2, n3, n4⟩)
      have hdr := R.out.2.2.2.2.2
      rw [Va.drop_at hu, joinF, hgp] at hdr
      have HDR := Lib.hid hdr
      have hfl : xs.length + (Rd.wr p u).length ≤ 10000000 := by
        have := congrArg List.length hdr
        rw [List.length_append, List.length_append] at this
        omega
      have HFL := Lib.hid hfl
      clear hcv hgp hum hpm hpi hp hu c0 c1 c2 d0 d1 d2 d3 d4 d5 hbf hbv n1 n2 n3 n4 hdr hfl b0 b1 b2 b3 b4 m0 m1
      have GS := Lib.hid (show (fun w' => Fr wr w' (fun i => V.ownBlock = some i)) (World.drew wr) from (Fr.refl _ _).drew)
      refine act_letterC (fun A1 hA1 => ?_)
      have d2 : A1.eval (.tmp 2) = .pointer (some ⟨q, 0, none⟩) := by rw [← hA1]; rfl
      have d3 : A1.eval (.tmp 3) = .pointer (some ⟨q + 1, 0, none⟩) := by rw [← hA1]; rfl
      have d5 : A1.eval (.tmp 5) = V := by rw [← hA1]; rfl
      have d6 : A1.eval (.tmp 6) = .int .i64 (j : Int) := by rw [← hA1]; rfl
      have d7 : A1.eval (.tmp 7) = .int .i64 0 := by rw [← hA1]; rfl
      have szA1 : A1.tmps.size = 73 := by rw [← hA1]; rfl
      have HA1 := Lib.hid hA1
      clear hA1
      refine wp_region_held (S := fun w' => Fr wr w' (fun i => V.ownBlock = some i)) (by kernel_rfl) ?_
      change wpAnyH _ _ _ _ _ _ _ _ (World.drew wr)
      refine wpAnyH_take (i := 0) (v := V) rfl (by kernel_rfl) (by kernel_rfl) (by kernel_rfl) (fun _ _ _ h => h) (.inl ⟨rfl, fun w g => run_moveV rfl d5 w⟩) GS.out ?_
      refine act_letter (fun A2 hA2 => ?_)
      replace d2 : A2.eval (.tmp 2) = .pointer (some ⟨q, 0, none⟩) := by rw [← hA2]; exact (ev_ne A1 (m := 48) (n := 2) (V) (by decide)).trans d2
      replace d3 : A2.eval (.tmp 3) = .pointer (some ⟨q + 1, 0, none⟩) := by rw [← hA2]; exact (ev_ne A1 (m := 48) (n := 3) (V) (by decide)).trans d3
      replace d6 : A2.eval (.tmp 6) = .int .i64 (j : Int) := by rw [← hA2]; exact (ev_ne A1 (m := 48) (n := 6) (V) (by decide)).trans d6
      replace d7 : A2.eval (.tmp 7) = .int .i64 0 := by rw [← hA2]; exact (ev_ne A1 (m := 48) (n := 7) (V) (by decide)).trans d7
      have e48 : A2.eval (.tmp 48) = V := by rw [← hA2]; exact ev_self A1 48 (V) (by omega)
      have szA2 : A2.tmps.size = 73 := by rw [← hA2]; exact (sz_put A1 48 (V)).trans szA1
      have HA2 := Lib.hid (show A1.put (some 48) (V) = A2 from hA2)
      clear hA2 szA1 d5
      have d48 := e48
      clear e48
      refine wpAnyH_take (i := 1) (v := .pointer (some ⟨q, 5, none⟩)) rfl (by kernel_rfl) (by kernel_rfl) (by kernel_rfl) (fun _ _ _ h => h) (.inl ⟨rfl, fun w g => run_ff5 rfl d2 w⟩) GS.out ?_
      refine act_letter (fun A3 hA3 => ?_)
      replace d3 : A3.eval (.tmp 3) = .pointer (some ⟨q + 1, 0, none⟩) := by rw [← hA3]; exact (ev_ne A2 (m := 49) (n := 3) (.pointer (some ⟨q, 5, none⟩)) (by decide)).trans d3
      replace d6 : A3.eval (.tmp 6) = .int .i64 (j : Int) := by rw [← hA3]; exact (ev_ne A2 (m := 49) (n := 6) (.pointer (some ⟨q, 5, none⟩)) (by decide)).trans d6
      replace d7 : A3.eval (.tmp 7) = .int .i64 0 := by rw [← hA3]; exact (ev_ne A2 (m := 49) (n := 7) (.pointer (some ⟨q, 5, none⟩)) (by decide)).trans d7
      replace d48 : A3.eval (.tmp 48) = V := by rw [← hA3]; exact (ev_ne A2 (m := 49) (n := 48) (.pointer (some ⟨q, 5, none⟩)) (by decide)).trans d48
      have e49 : A3.eval (.tmp 49) = .pointer (some ⟨q, 5, none⟩) := by rw [← hA3]; exact ev_self A2 49 (.pointer (some ⟨q, 5, none⟩)) (by omega)
      have szA3 : A3.tmps.size = 73 := by rw [← hA3]; exact (sz_put A2 49 (.pointer (some ⟨q, 5, none⟩))).trans szA2
      have HA3 := Lib.hid (show A2.put (some 49) (.pointer (some ⟨q, 5, none⟩)) = A3 from hA3)
      clear hA3 szA2 d2
      have d49 := e49
      clear e49
      refine wpAnyH_take (i := 2) (v := .slice (some ⟨bf, of, none⟩) ps.length c) rfl (by kernel_rfl) (by kernel_rfl) (by kernel_rfl) (fun _ _ _ h => h) (.inl ⟨rfl, fun w g => run_ldFs rfl d49 (g.cell b5 HN.out.1)⟩) GS.out ?_
      refine act_letter (fun A4 hA4 => ?_)
      replace d3 : A4.eval (.tmp 3) = .pointer (some ⟨q + 1, 0, none⟩) := by rw [← hA4]; exact (ev_ne A3 (m := 50) (n := 3) (.slice (some ⟨bf, of, none⟩) ps.length c) (by decide)).trans d3
      replace d6 : A4.eval (.tmp 6) = .int .i64 (j : Int) := by rw [← hA4]; exact (ev_ne A3 (m := 50) (n := 6) (.slice (some ⟨bf, of, none⟩) ps.length c) (by decide)).trans d6
      replace d7 : A4.eval (.tmp 7) = .int .i64 0 := by rw [← hA4]; exact (ev_ne A3 (m := 50) (n := 7) (.slice (some ⟨bf, of, none⟩) ps.length c) (by decide)).trans d7
      replace d48 : A4.eval (.tmp 48) = V := by rw [← hA4]; exact (ev_ne A3 (m := 50) (n := 48) (.slice (some ⟨bf, of, none⟩) ps.length c) (by decide)).trans d48
      have e50 : A4.eval (.tmp 50) = .slice (some ⟨bf, of, none⟩) ps.length c := by rw [← hA4]; exact ev_self A3 50 (.slice (some ⟨bf, of, none⟩) ps.length c) (by omega)
      have szA4 : A4.tmps.size = 73 := by rw [← hA4]; exact (sz_put A3 50 (.slice (some ⟨bf, of, none⟩) ps.length c)).trans szA3
      have HA4 := Lib.hid (show A3.put (some 50) (.slice (some ⟨bf, of, none⟩) ps.length c) = A4 from hA4)
      clear hA4 szA3 d49
      have d50 := e50
      clear e50
      refine wpAnyH_take (i := 3) (v := .int .i64 ((0 : Nat) : Int)) rfl (by kernel_rfl) (by kernel_rfl) (by kernel_rfl) (fun _ _ _ h => h) (.inl ⟨rfl, fun w g => run_moveV rfl d7 w⟩) GS.out ?_
      refine act_letter (fun A5 hA5 => ?_)
      replace d3 : A5.eval (.tmp 3) = .pointer (some ⟨q + 1, 0, none⟩) := by rw [← hA5]; exact (ev_ne A4 (m := 51) (n := 3) (.int .i64 ((0 : Nat) : Int)) (by decide)).trans d3
      replace d6 : A5.eval (.tmp 6) = .int .i64 (j : Int) := by rw [← hA5]; exact (ev_ne A4 (m := 51) (n := 6) (.int .i64 ((0 : Nat) : Int)) (by decide)).trans d6
      replace d48 : A5.eval (.tmp 48) = V := by rw [← hA5]; exact (ev_ne A4 (m := 51) (n := 48) (.int .i64 ((0 : Nat) : Int)) (by decide)).trans d48
      replace d50 : A5.eval (.tmp 50) = .slice (some ⟨bf, of, none⟩) ps.length c := by rw [← hA5]; exact (ev_ne A4 (m := 51) (n := 50) (.int .i64 ((0 : Nat) : Int)) (by decide)).trans d50
      have e51 : A5.eval (.tmp 51) = .int .i64 ((0 : Nat) : Int) := by rw [← hA5]; exact ev_self A4 51 (.int .i64 ((0 : Nat) : Int)) (by omega)
      have szA5 : A5.tmps.size = 73 := by rw [← hA5]; exact (sz_put A4 51 (.int .i64 ((0 : Nat) : Int))).trans szA4
      have HA5 := Lib.hid (show A4.put (some 51) (.int .i64 ((0 : Nat) : Int)) = A5 from hA5)
      clear hA5 szA4 d7
      have d51 := e51
      clear e51
      refine wpAnyH_take (i := 4) (v := .pointer (some ⟨bf, of + 0 * 6, none⟩)) rfl (by kernel_rfl) (by kernel_rfl) (by kernel_rfl) (fun _ _ _ h => h) (.inl ⟨rfl, fun w g => run_idxF rfl d50 d51 (HG.out.1) w⟩) GS.out ?_
      refine act_letter (fun A6 hA6 => ?_)
      replace d3 : A6.eval (.tmp 3) = .pointer (some ⟨q + 1, 0, none⟩) := by rw [← hA6]; exact (ev_ne A5 (m := 52) (n := 3) (.pointer (some ⟨bf, of + 0 * 6, none⟩)) (by decide)).trans d3
      replace d6 : A6.eval (.tmp 6) = .int .i64 (j : Int) := by rw [← hA6]; exact (ev_ne A5 (m := 52) (n := 6) (.pointer (some ⟨bf, of + 0 * 6, none⟩)) (by decide)).trans d6
      replace d48 : A6.eval (.tmp 48) = V := by rw [← hA6]; exact (ev_ne A5 (m := 52) (n := 48) (.pointer (some ⟨bf, of + 0 * 6, none⟩)) (by decide)).trans d48
      have e52 : A6.eval (.tmp 52) = .pointer (some ⟨bf, of + 0 * 6, none⟩) := by rw [← hA6]; exact ev_self A5 52 (.pointer (some ⟨bf, of + 0 * 6, none⟩)) (by omega)
      have szA6 : A6.tmps.size = 73 := by rw [← hA6]; exact (sz_put A5 52 (.pointer (some ⟨bf, of + 0 * 6, none⟩))).trans szA5
      have HA6 := Lib.hid (show A5.put (some 52) (.pointer (some ⟨bf, of + 0 * 6, none⟩)) = A6 from hA6)
      clear hA6 szA5 d50 d51
      have d52 := e52
      clear e52
      refine wpAnyH_take (i := 5) (v := p.val) rfl (by kernel_rfl) (by kernel_rfl) (by kernel_rfl) (fun _ _ _ h => h) (.inl ⟨rfl, fun w g => run_ldF rfl d52 (g.cell d0' HN.out.2.2.1) (g.cell d1' HN.out.2.2.1) (g.cell d2' HN.out.2.2.1) (g.cell d3' HN.out.2.2.1) (g.cell d4' HN.out.2.2.1) (g.cell d5' HN.out.2.2.1)⟩) GS.out ?_
      refine act_letter (fun A7 hA7 => ?_)
      replace d3 : A7.eval (.tmp 3) = .pointer (some ⟨q + 1, 0, none⟩) := by rw [← hA7]; exact (ev_ne A6 (m := 53) (n := 3) (p.val) (by decide)).trans d3
      replace d6 : A7.eval (.tmp 6) = .int .i64 (j : Int) := by rw [← hA7]; exact (ev_ne A6 (m := 53) (n := 6) (p.val) (by decide)).trans d6
      replace d48 : A7.eval (.tmp 48) = V := by rw [← hA7]; exact (ev_ne A6 (m := 53) (n := 48) (p.val) (by decide)).trans d48
      have e53 : A7.eval (.tmp 53) = p.val := by rw [← hA7]; exact ev_self A6 53 (p.val) (by omega)
      have szA7 : A7.tmps.size = 73 := by rw [← hA7]; exact (sz_put A6 53 (p.val)).trans szA6
      have HA7 := Lib.hid (show A6.put (some 53) (p.val) = A7 from hA7)
      clear hA7 szA6 d52
      have d53 := e53
      clear e53
      refine wpAnyH_take (i := 6) (v := .pointer (some ⟨q + 1, 2, none⟩)) rfl (by kernel_rfl) (by kernel_rfl) (by kernel_rfl) (fun _ _ _ h => h) (.inl ⟨rfl, fun w g => run_fv2 rfl d3 w⟩) GS.out ?_
      refine act_letter (fun A8 hA8 => ?_)
      replace d6 : A8.eval (.tmp 6) = .int .i64 (j : Int) := by rw [← hA8]; exact (ev_ne A7 (m := 54) (n := 6) (.pointer (some ⟨q + 1, 2, none⟩)) (by decide)).trans d6
      replace d48 : A8.eval (.tmp 48) = V := by rw [← hA8]; exact (ev_ne A7 (m := 54) (n := 48) (.pointer (some ⟨q + 1, 2, none⟩)) (by decide)).trans d48
      replace d53 : A8.eval (.tmp 53) = p.val := by rw [← hA8]; exact (ev_ne A7 (m := 54) (n := 53) (.pointer (some ⟨q + 1, 2, none⟩)) (by decide)).trans d53
      have e54 : A8.eval (.tmp 54) = .pointer (some ⟨q + 1, 2, none⟩) := by rw [← hA8]; exact ev_self A7 54 (.pointer (some ⟨q + 1, 2, none⟩)) (by omega)
      have szA8 : A8.tmps.size = 73 := by rw [← hA8]; exact (sz_put A7 54 (.pointer (some ⟨q + 1, 2, none⟩))).trans szA7
      have HA8 := Lib.hid (show A7.put (some 54) (.pointer (some ⟨q + 1, 2, none⟩)) = A8 from hA8)
      clear hA8 szA7 d3
      have d54 := e54
      clear e54
      refine wpAnyH_take (i := 7) (v := .slice (some ⟨bv, ov, none⟩) ls.length c') rfl (by kernel_rfl) (by kernel_rfl) (by kernel_rfl) (fun _ _ _ h => h) (.inl ⟨rfl, fun w g => run_ldVs rfl d54 (g.cell m2 HN.out.2.1)⟩) GS.out ?_
      refine act_letter (fun A9 hA9 => ?_)
      replace d6 : A9.eval (.tmp 6) = .int .i64 (j : Int) := by rw [← hA9]; exact (ev_ne A8 (m := 55) (n := 6) (.slice (some ⟨bv, ov, none⟩) ls.length c') (by decide)).trans d6
      replace d48 : A9.eval (.tmp 48) = V := by rw [← hA9]; exact (ev_ne A8 (m := 55) (n := 48) (.slice (some ⟨bv, ov, none⟩) ls.length c') (by decide)).trans d48
      replace d53 : A9.eval (.tmp 53) = p.val := by rw [← hA9]; exact (ev_ne A8 (m := 55) (n := 53) (.slice (some ⟨bv, ov, none⟩) ls.length c') (by decide)).trans d53
      have e55 : A9.eval (.tmp 55) = .slice (some ⟨bv, ov, none⟩) ls.length c' := by rw [← hA9]; exact ev_self A8 55 (.slice (some ⟨bv, ov, none⟩) ls.length c') (by omega)
      have szA9 : A9.tmps.size = 73 := by rw [← hA9]; exact (sz_put A8 55 (.slice (some ⟨bv, ov, none⟩) ls.length c')).trans szA8
      have HA9 := Lib.hid (show A8.put (some 55) (.slice (some ⟨bv, ov, none⟩) ls.length c') = A9 from hA9)
      clear hA9 szA8 d54
      have d55 := e55
      clear e55
      refine wpAnyH_take (i := 8) (v := .int .i64 (j : Int)) rfl (by kernel_rfl) (by kernel_rfl) (by kernel_rfl) (fun _ _ _ h => h) (.inl ⟨rfl, fun w g => run_moveV rfl d6 w⟩) GS.out ?_
      refine act_letter (fun A10 hA10 => ?_)
      replace d6 : A10.eval (.tmp 6) = .int .i64 (j : Int) := by rw [← hA10]; exact (ev_ne A9 (m := 56) (n := 6) (.int .i64 (j : Int)) (by decide)).trans d6
      replace d48 : A10.eval (.tmp 48) = V := by rw [← hA10]; exact (ev_ne A9 (m := 56) (n := 48) (.int .i64 (j : Int)) (by decide)).trans d48
      replace d53 : A10.eval (.tmp 53) = p.val := by rw [← hA10]; exact (ev_ne A9 (m := 56) (n := 53) (.int .i64 (j : Int)) (by decide)).trans d53
      replace d55 : A10.eval (.tmp 55) = .slice (some ⟨bv, ov, none⟩) ls.length c' := by rw [← hA10]; exact (ev_ne A9 (m := 56) (n := 55) (.int .i64 (j : Int)) (by decide)).trans d55
      have e56 : A10.eval (.tmp 56) = .int .i64 (j : Int) := by rw [← hA10]; exact ev_self A9 56 (.int .i64 (j : Int)) (by omega)
      have szA10 : A10.tmps.size = 73 := by rw [← hA10]; exact (sz_put A9 56 (.int .i64 (j : Int))).trans szA9
      have HA10 := Lib.hid (show A9.put (some 56) (.int .i64 (j : Int)) = A10 from hA10)
      clear hA10 szA9
      have d56 := e56
      clear e56
      refine wpAnyH_take (i := 9) (v := .pointer (some ⟨bv, ov + j * 3, none⟩)) rfl (by kernel_rfl) (by kernel_rfl) (by kernel_rfl) (fun _ _ _ h => h) (.inl ⟨rfl, fun w g => run_idxV rfl d55 d56 hlt w⟩) GS.out ?_
      refine act_letter (fun A11 hA11 => ?_)
      replace d6 : A11.eval (.tmp 6) = .int .i64 (j : Int) := by rw [← hA11]; exact (ev_ne A10 (m := 57) (n := 6) (.pointer (some ⟨bv, ov + j * 3, none⟩)) (by decide)).trans d6
      replace d48 : A11.eval (.tmp 48) = V := by rw [← hA11]; exact (ev_ne A10 (m := 57) (n := 48) (.pointer (some ⟨bv, ov + j * 3, none⟩)) (by decide)).trans d48
      replace d53 : A11.eval (.tmp 53) = p.val := by rw [← hA11]; exact (ev_ne A10 (m := 57) (n := 53) (.pointer (some ⟨bv, ov + j * 3, none⟩)) (by decide)).trans d53
      have e57 : A11.eval (.tmp 57) = .pointer (some ⟨bv, ov + j * 3, none⟩) := by rw [← hA11]; exact ev_self A10 57 (.pointer (some ⟨bv, ov + j * 3, none⟩)) (by omega)
      have szA11 : A11.tmps.size = 73 := by rw [← hA11]; exact (sz_put A10 57 (.pointer (some ⟨bv, ov + j * 3, none⟩))).trans szA10
      have HA11 := Lib.hid (show A10.put (some 57) (.pointer (some ⟨bv, ov + j * 3, none⟩)) = A11 from hA11)
      clear hA11 szA10 d55 d56
      have d57 := e57
      clear e57
      refine wpAnyH_take (i := 10) (v := u.val) rfl (by kernel_rfl) (by kernel_rfl) (by kernel_rfl) (fun _ _ _ h => h) (.inl ⟨rfl, fun w g => run_ldVv rfl d57 (g.cell c0' HN.out.2.2.2) (g.cell c1' HN.out.2.2.2) (g.cell c2' HN.out.2.2.2)⟩) GS.out ?_
      refine act_letter (fun A12 hA12 => ?_)
      replace d6 : A12.eval (.tmp 6) = .int .i64 (j : Int) := by rw [← hA12]; exact (ev_ne A11 (m := 58) (n := 6) (u.val) (by decide)).trans d6
      replace d48 : A12.eval (.tmp 48) = V := by rw [← hA12]; exact (ev_ne A11 (m := 58) (n := 48) (u.val) (by decide)).trans d48
      replace d53 : A12.eval (.tmp 53) = p.val := by rw [← hA12]; exact (ev_ne A11 (m := 58) (n := 53) (u.val) (by decide)).trans d53
      have e58 : A12.eval (.tmp 58) = u.val := by rw [← hA12]; exact ev_self A11 58 (u.val) (by omega)
      have szA12 : A12.tmps.size = 73 := by rw [← hA12]; exact (sz_put A11 58 (u.val)).trans szA11
      have HA12 := Lib.hid (show A11.put (some 58) (u.val) = A12 from hA12)
      clear hA12 szA11 d57
      have d58 := e58
      clear e58
      refine wpAnyH_ready (rs := [11]) (by kernel_rfl) (by simp) ?_
      refine AllReadyH.cons rfl (fun K hK => ?_) AllReadyH.nil
      refine wp_callG rfl (rfl) enter_rw (vs := #[p.val, u.val]) (by simp [d53, d58]) ((HCV.out _ (grew_trans R.out.1 (grew_drew (grew_refl wr none)))).mono ?_)
      rintro e x4 ⟨V4, rfl, o4, v4, g4⟩
      refine ⟨_, rfl, hK.out _ _ (GS.out.trans (fr_of g4) (fun _ _ h => h)) (fun _ => ?_)⟩
      clear hK K
      have S4 := Lib.hid (show (fun w' => Fr wr w' (fun i => V.ownBlock = some i)) x4 from GS.out.trans (fr_of g4) (fun _ _ h => h))
      clear GS
      refine act_letter (fun A13 hA13 => ?_)
      replace d6 : A13.eval (.tmp 6) = .int .i64 (j : Int) := by rw [← hA13]; exact (ev_ne A12 (m := 59) (n := 6) (V4) (by decide)).trans d6
      replace d48 : A13.eval (.tmp 48) = V := by rw [← hA13]; exact (ev_ne A12 (m := 59) (n := 48) (V4) (by decide)).trans d48
      have e59 : A13.eval (.tmp 59) = V4 := by rw [← hA13]; exact ev_self A12 59 (V4) (by omega)
      have szA13 : A13.tmps.size = 73 := by rw [← hA13]; exact (sz_put A12 59 (V4)).trans szA12
      have HA13 := Lib.hid (show A12.put (some 59) (V4) = A13 from hA13)
      clear hA13 szA12 d53 d58
      have d59 := e59
      clear e59
      obtain ⟨A4, e4, rfl, _, hb4⟩ := byt_of_own o4
      have ho4 := own_fr R.out.2.2.2.1 (((Fr.refl wr (fun _ => False)).drew).trans (fr_of g4 (F := fun _ => False)) (fun _ _ h => h)) (fun _ _ h => h)
      have HG4 := Lib.hid (show Grew w x4 none from grew_trans (grew_trans R.out.1 (grew_drew (grew_refl wr none))) g4)
      clear o4 v4 g4
      refine wpAnyH_ready (rs := [12]) (by kernel_rfl) (by simp) ?_
      refine AllReadyH.cons rfl (fun K hK => ?_) AllReadyH.nil
      refine wp_appU rfl rfl ho4 d48 hb4.byf e4 d59 (by have := HFL.out; omega) (fun V5 X5 hApp => hK.out _ _ (S4.out.trans (Fr.of_grew' hApp.2.1 (fun i hi => hi)) (fun _ _ h => h)) (fun _ => ?_))
      have S5 := Lib.hid (show (fun w' => Fr wr w' (fun i => V.ownBlock = some i)) X5 from S4.out.trans (Fr.of_grew' hApp.2.1 (fun i hi => hi)) (fun _ _ h => h))
      have HAP := Lib.hid hApp
      clear hK K hApp S4 ho4 hb4
      refine act_letter (fun A14 hA14 => ?_)
      replace d6 : A14.eval (.tmp 6) = .int .i64 (j : Int) := by rw [← hA14]; exact (ev_ne A13 (m := 60) (n := 6) (V5) (by decide)).trans d6
      have e60 : A14.eval (.tmp 60) = V5 := by rw [← hA14]; exact ev_self A13 60 (V5) (by omega)
      have szA14 : A14.tmps.size = 73 := by rw [← hA14]; exact (sz_put A13 60 (V5)).trans szA13
      have HA14 := Lib.hid (show A13.put (some 60) (V5) = A14 from hA14)
      clear hA14 szA13 d48 d59
      have d60 := e60
      clear e60
      refine wpAnyH_take (i := 13) (v := V5) rfl (by kernel_rfl) (by kernel_rfl) (by kernel_rfl) (fun _ _ _ h => h) (.inl ⟨rfl, fun w g => run_asgn rfl d60 w⟩) S5.out ?_
      refine act_letter (fun A15 hA15 => ?_)
      replace d6 : A15.eval (.tmp 6) = .int .i64 (j : Int) := by rw [← hA15]; exact (ev_ne A14 (m := 5) (n := 6) (V5) (by decide)).trans d6
      have e5 : A15.eval (.tmp 5) = V5 := by rw [← hA15]; exact ev_self A14 5 (V5) (by omega)
      have szA15 : A15.tmps.size = 73 := by rw [← hA15]; exact (sz_put A14 5 (V5)).trans szA14
      have HA15 := Lib.hid (show A14.put (some 5) (V5) = A15 from hA15)
      clear hA15 szA14 d60
      have d5 := e5
      clear e5
      refine wpAnyH_done (by kernel_rfl) ?_ _
      rw [← HA15.out, ← HA14.out, ← HA13.out, ← HA12.out, ← HA11.out, ← HA10.out, ← HA9.out, ← HA8.out, ← HA7.out, ← HA6.out, ← HA5.out, ← HA4.out, ← HA3.out, ← HA2.out, ← HA1.out]
      clear HA2 HA3 HA4 HA5 HA6 HA7 HA8 HA9 HA10 HA11 HA12 HA13 HA14 HA15 HA1 d6 d5 szA15
      simp only [Act.put, List.setIfInBounds_toArray, List.set_cons_zero, List.set_cons_succ]
      have HR2 := Lib.hid (show Grew w X5 none ∧ Whole X5 q #[.int .i64 2, .int .i64 sz, .int .i64 l, .int .i64 h, .int .i64 t, .slice (some ⟨bf, of, none⟩) ps.length c] 24 ∧ Whole X5 (q + 1) #[.int .u64 n, .slice B bs.length d, .slice (some ⟨bv, ov, none⟩) ls.length c'] 29 ∧ X5.ownsRow 0 5 1 V5 (xs ++ Rd.wr p u).length (cellsOf (xs ++ Rd.wr p u)) ∧ (∀ g, V5.ownBlock = some g → q ≤ g) ∧ (xs ++ Rd.wr p u) ++ joinF g (j + 1) (ls.drop (j + 1)) = T from by
        obtain ⟨p1, p2⟩ := app_new HG4.out (V := V) (fun g hg => by have := R.out.2.2.2.2.1 g hg; have := HQ.out; omega) HAP.out
        refine ⟨p2, R.out.2.1.fr S5.out HN.out.1, R.out.2.2.1.fr S5.out HN.out.2.1, ?_, fun g hg => by have := p1 g hg; have := HQ.out; omega, by rw [List.append_assoc]; exact HDR.out⟩
        have := HAP.out.1
        rw [← List.length_append] at this
        exact this)
      clear S5 R HAP HG4 HCV HN HDR HFL c0' c1' c2' d0' d1' d2' d3' d4' d5' b5 m2
      go_wp2_with fail
      go_roundg (ls.length - (j + 1))
      case measure => have := HGI.out; omega
      case rel => exact ⟨j + 1, V5, _, by go_num, rfl, by omega, rfl, HR2⟩
    · obtain rfl : j = ls.length := by omega
      have hx := R.out.2.2.2.2.2
      rw [List.drop_length, joinF, List.append_nil] at hx
      subst hx
      obtain ⟨A5, e5, hV, _, hb5⟩ := byt_of_own R.out.2.2.2.1
      subst hV
      have HCB := Lib.hid (rbe_own wr sz xs.length hsz (by omega))
      have HB5 := Lib.hid hb5
      clear hb5
      have hcv : IntKind.u64.wrap ((xs.length : Nat) : Int) = (xs.length : Int) := by rw [IntKind.wrap_u64]; omega
      go_wp2_with fail
      refine HCB.out.mono ?_
      rintro e X6 ⟨rfl, o6, g6⟩
      have HA6 := Lib.hid (fun ty => append_bytes (P := Try.prog) X6 26 ty 5 Try.underlying26 info_u8 o6 ((HB5.out.grew g6 (fun _ h => by cases h)).byf) e5 (by omega))
      have G6 := Lib.hid g6
      clear o6 g6 HCB hcv
      go_wp2_with (at_builtin; refine wpList_append_run _ rfl (.tmp 69) (.tmp 70) 26 rfl rfl rfl (fun ty => HA6.out ty) ?_; intro V7 X7 hApp; have HAP := Lib.hid hApp; clear hApp)
      go_ret
      obtain ⟨p1, p2⟩ := app_new (grew_trans R.out.1 G6.out) (V := .slice (some ⟨wr.heap.size, 0, none⟩) sz sz) (fun g hg => by simp [Value.ownBlock] at hg; have := R.out.1.size; omega) HAP.out
      have hl' : sz + xs.length = (be sz xs.length ++ xs).length := by rw [List.length_append, be_length]
      exact ⟨V7, rfl, by rw [← hl']; exact HAP.out.1, p1, p2⟩


/-- The document's bytes of a value that fits a right form. -/
theorem rw_any (f : Fo) : f.wrg = 0 → ∀ (w : World) (v : Va) (n : Int), f.In w → v.In w → fit f v = (n, 0) → (Rd.wr f v).length ≤ 10000000 → Calls Try.prog 17 #[f.val, v.val] w (RWr w (Rd.wr f v)) := by
  induction f using Fo.ind with
  | H k s l h t A c ps ih =>
  intro hw w v n hf hv hn hfit
  obtain ⟨ha, hq, _⟩ := wrg_zero hw
  rcases alone_kind ha with rfl | rfl | rfl | rfl | rfl | rfl
  · have hs := Rd.alone_0 ha
    have hvn := hv.num
    obtain ⟨k, rfl⟩ := Int.eq_ofNat_of_zero_le (a := s) (by omega)
    rw [Rd.wr_0, Int.toNat_natCast] at hfit ⊢
    have := rw_0 w l h t A c ps v k v.n.toNat (by omega) (by omega)
    rw [Int.toNat_of_nonneg hvn.1] at this
    exact this
  · obtain ⟨s1, s3, l0, lh, hh, t1, t2, _⟩ := Rd.alone_1 (.inl rfl) ha
    obtain ⟨k, rfl⟩ := Int.eq_ofNat_of_zero_le (a := s) (by omega)
    rw [Rd.wr_1, Int.toNat_natCast] at hfit ⊢
    rw [List.length_append, be_length] at hfit
    exact rw_1 w k l h t A c ps v (by omega) hv.bytes.1 (by omega)
  · obtain ⟨s1, s3, l0, lh, hh, t1, t2, hn1⟩ := Rd.alone_1 (.inr rfl) ha
    obtain ⟨p, rfl⟩ := List.length_eq_one_iff.1 (hn1 rfl)
    have hin : Fo.inn (.mk 2 s l h t A c [p]) = [p] := by rw [Fo.inn, if_pos (by omega)]
    rw [hin] at hq
    obtain ⟨f1, f2, m, hm, b1, b2, b3, e⟩ := Rd.fit_2 hn
    obtain ⟨k, rfl⟩ := Int.eq_ofNat_of_zero_le (a := s) (by omega)
    rw [Rd.wr_2, Int.toNat_natCast, Rd.each_one] at hfit ⊢
    rw [List.length_append, be_length] at hfit
    have hm' : tot 0 (v.ls.map (fit p)) = (m, 0) := hm
    obtain ⟨vn, vB, vd, vbs, vA, vc, vls⟩ := v
    exact rw_list w k (by omega) l h t A c [p] vn vB vd vbs vA vc vls hf hv (fun _ => p) ⟨by simp, fun i r hr => by simpa using hr⟩ (fun i u hu W g => by
      obtain ⟨n', e'⟩ := Rd.tot_mem vls 0 m hm' u (List.mem_of_getElem? hu)
      have hwu : (Rd.wr p u).length ≤ (vls.flatMap (Rd.wr p)).length := Rd.flat_mem (List.mem_of_getElem? hu)
      exact ih p (by simp) (hq p (by simp)) W u n' ((hf.parts p (by simp [Fo.ps])).grew g) ((hv.parts u (List.mem_of_getElem? hu)).grew g) e' (by change k + (vls.flatMap (Rd.wr p)).length ≤ _ at hfit; omega)) (vls.flatMap (Rd.wr p)) (joinF_one p vls 0) (by change k + (vls.flatMap (Rd.wr p)).length ≤ _ at hfit; omega)
  · have hin : Fo.inn (.mk 3 s l h t A c ps) = ps := by rw [Fo.inn, if_pos (by omega)]
    rw [hin] at hq
    obtain ⟨f1, f2, hl, hm⟩ := Rd.fit_3 hn
    rw [Rd.wr_3] at hfit ⊢
    obtain ⟨vn, vB, vd, vbs, vA, vc, vls⟩ := v
    change vls.length = ps.length at hl
    have hg : ∀ i q, ps[i]? = some q → ps.getD i (.mk 0 0 0 0 0 none 0 []) = q := fun i q hq => by rw [List.getD_eq_getElem?_getD, hq]; rfl
    have hj : joinF (fun i => ps.getD i (.mk 0 0 0 0 0 none 0 [])) 0 vls = Rd.pairB (Rd.wrs ps) vls := joinF_row _ ps vls 0 (fun j q hq => by rw [Nat.zero_add]; exact hg j q hq) hl
    exact rw_row w s l h t A c ps vn vB vd vbs vA vc vls hf hv (fun i => ps.getD i (.mk 0 0 0 0 0 none 0 [])) ⟨by omega, hg⟩ (fun i u hu W g => by
      have hi : i < vls.length := (List.getElem?_eq_some_iff.1 hu).1
      have hp : ps[i]? = some ps[i] := List.getElem?_eq_getElem (by omega)
      have hm' : ps[i] ∈ ps := List.getElem_mem _
      obtain ⟨n', e'⟩ := Rd.tot_pair ps vls 0 n hm i _ u hp hu
      have hwu := Rd.pairB_mem ps vls i _ u hp hu
      rw [hg i _ hp]
      exact ih _ hm' (hq _ hm') W u n' ((hf.parts _ hm').grew g) ((hv.parts u (List.mem_of_getElem? hu)).grew g) e' (by change (Rd.pairB (Rd.wrs ps) vls).length ≤ _ at hfit; omega)) _ hj hfit
  · rw [Rd.wr_4] at hfit ⊢
    exact rw_b w s l h t A c ps v 4 (.inl rfl) hv.bytes.1 hfit
  · rw [Rd.wr_5] at hfit ⊢
    exact rw_b w s l h t A c ps v 5 (.inr rfl) hv.bytes.1 hfit
end Go.Proofs.Ytibbeodcheefaaa


/- Contracts of the reference's Size and Number. -/
namespace Go.Proofs.Ytibbeodcheefaaa
open Go.RowKit

set_option maxHeartbeats 1000000 in
theorem rnum_any (w : World) (B : Nat) (A : Option Addr) (ys : List UInt8) (c : Nat) (hb : Byt w B A ys) (hl : ys.length ≤ 8) :
    Calls Try.prog 48 #[.slice A ys.length c] w fun e w' => e = .returned (.int .u64 (num ys)) ∧ w = w' := by
  have Hb := Lib.hid hb
  clear hb
  go_enter Try.func48, Try.ntmps48
  go_wp2_with fail
  go_loop [3, 4] (fun x i => ∃ j : Nat, j ≤ ys.length ∧ i = .int .i64 j ∧ x = .int .u64 (num (ys.take j))) (fun _ i => ys.length - (intOf i).toNat)
  case atStart => exact ⟨0, Nat.zero_le _, rfl, rfl⟩
  case round =>
    obtain ⟨j, hj, rfl, rfl⟩ := hrel
    by_cases hlt : j < ys.length
    · obtain ⟨b, o, rfl, _, hcell⟩ := Hb.out (by omega)
      have hcj := hcell j hlt
      have hb1 := num_bound ys j (by omega)
      have hb2 := byte_lt ys j
      have HS := Lib.hid (num_step ys j hlt)
      clear hcell
      generalize (ys.getD j 0).toNat = b at *
      go_wp2
      go_round
      case rel => exact ⟨j + 1, by omega, by go_num, by rw [HS.out]; go_num⟩
      case measure => simp [intOf]; omega
    · obtain rfl : j = ys.length := by omega
      go_wp2
      go_ret
      exact ⟨rfl, rfl⟩

end Go.Proofs.Ytibbeodcheefaaa


/- The document's reader, of bytes that are right: take, length. -/
namespace Go.Proofs.Ytibbeodcheefaaa
open Go.RowKit Va

/-- The document's reader in block p: the bytes' slice, where it is, the end, the steps. -/
def Rr (w : World) (p : Nat) (A : Option Addr) (n c i e st : Nat) : Prop := Whole w p #[.slice A n c, .int .i64 i, .int .i64 e, .int .i64 0, .int .i64 0, .int .i64 st, .int .i64 1099511627776] 64
theorem Rr.cells {w : World} {p : Nat} {A : Option Addr} {n c i e st : Nat} (h : Rr w p A n c i e st) : w.cell? ⟨p, 0, none⟩ = some (.slice A n c) ∧ w.cell? ⟨p, 1, none⟩ = some (.int .i64 i) ∧ w.cell? ⟨p, 2, none⟩ = some (.int .i64 e) ∧ w.cell? ⟨p, 4, none⟩ = some (.int .i64 0) ∧ w.cell? ⟨p, 5, none⟩ = some (.int .i64 st) ∧ w.cell? ⟨p, 6, none⟩ = some (.int .i64 1099511627776) :=
  ⟨Whole.cell h 0, Whole.cell h 1, Whole.cell h 2, Whole.cell h 4, Whole.cell h 5, Whole.cell h 6⟩
theorem Rr.set1 {w : World} {p : Nat} {A : Option Addr} {n c i e st : Nat} (h : Rr w p A n c i e st) (i' : Nat) : Rr (w.setCell ⟨p, 1, none⟩ (.int .i64 (i' : Int))) p A n c i' e st := Whole.set h 1 _
theorem Rr.set2 {w : World} {p : Nat} {A : Option Addr} {n c i e st : Nat} (h : Rr w p A n c i e st) (e' : Nat) : Rr (w.setCell ⟨p, 2, none⟩ (.int .i64 (e' : Int))) p A n c i e' st := Whole.set h 2 _
theorem Rr.set5 {w : World} {p : Nat} {A : Option Addr} {n c i e st : Nat} (h : Rr w p A n c i e st) (s' : Nat) : Rr (w.setCell ⟨p, 5, none⟩ (.int .i64 (s' : Int))) p A n c i e s' := Whole.set h 5 _
theorem fr_cell (w : World) (p i : Nat) (u : Value) : Fr w (w.setCell ⟨p, i, none⟩ u) (fun j => j = p) := Fr.set (F := fun j => j = p) (Fr.refl _ _) (.inl rfl) _ _ _

set_option maxRecDepth 100000 in
set_option maxHeartbeats 1000000 in
theorem rr_take (w : World) (p : Nat) (A : Option Addr) (n c i e st k : Nat) (h : Rr w p A n c i e st) (hk : i + k ≤ e) (he : e ≤ n) (hn : n ≤ c) (hc : n ≤ 1000000000) :
    Calls Try.prog 49 #[.pointer (some ⟨p, 0, none⟩), .int .i64 k] w fun r w' => r = .returned (.slice (cutAt A c i) k (c - i)) ∧ Rr w' p A n c (i + k) e st ∧ Fr w w' (fun j => j = p) := by
  obtain ⟨h0, h1, h2, h4, _, _⟩ := h.cells
  have f1 := Whole.frozen h 1
  have H := Lib.hid h
  clear h
  have p1 : ¬ ((e : Int) - i < k) := by omega
  have p2 : IntKind.i64.wrap ((e : Int) - i) = (e : Int) - i := IntWalk.i64_in _ (by omega)
  have p3 : IntKind.i64.wrap ((i : Int) + k - k) = (i : Int) := by rw [show ((i : Int) + k - k) = i from by omega]; exact IntWalk.i64_in _ (by omega)
  have p4 : ∀ W : World, (Instr.slice 26 (.slice A n c) (some (.int .i64 (i : Int))) (some (.int .i64 ((i : Int) + k))) none).run Try.prog W = .ok (.slice (cutAt A c i) k (c - i)) W := by
    intro W
    have := slice_run W A n c i (i + k) (by omega) (by omega)
    rw [show ((i + k : Nat) : Int) = (i : Int) + k from by omega, show i + k - i = k from by omega] at this
    exact this
  go_enter Try.func49, Try.ntmps49
  go_wp2_with fail
  go_quiet (fail)
  go_upto_region 7 with (fail)
  have hW : Rr ((w.drewN nq).setCell ⟨p, 1, none⟩ (.int .i64 ((i : Int) + k))) p A n c (i + k) e st := by
    have := Rr.set1 (w := w.drewN nq) H.out (i + k)
    rw [show ((i + k : Nat) : Int) = (i : Int) + k from by omega] at this
    exact this
  have hG : Fr w ((w.drewN nq).setCell ⟨p, 1, none⟩ (.int .i64 ((i : Int) + k))) (fun j => j = p) := ((Fr.refl w _).drewN nq).trans (fr_cell _ _ _ _) (fun _ _ h => h)
  clear h0 h1 h2 h4 f1 p2
  generalize (w.drewN nq).setCell ⟨p, 1, none⟩ (.int .i64 ((i : Int) + k)) = W1 at *
  obtain ⟨h0, h1, h2, h4, _, _⟩ := hW.cells
  rw [show ((i + k : Nat) : Int) = (i : Int) + k from by omega] at h1
  have HW := Lib.hid hW
  have HG := Lib.hid hG
  clear hW hG
  go_quiet (fail)
  go_wp2_with fail
  go_ret
  exact ⟨rfl, HW.out, HG.out.drewN _⟩

set_option maxRecDepth 100000 in
set_option maxHeartbeats 2000000 in
theorem rr_length (w : World) (p : Nat) (A : Option Addr) (xs : List UInt8) (c i e st : Nat) (h : Rr w p A xs.length c i e st) (s : Nat) (l hh t : Int) (fA : Option Addr) (fc : Nat) (ps : List Fo) (N : Nat) (hb : ∃ B, B ≤ p ∧ Byt w B A xs) (hs : 1 ≤ s ∧ s ≤ 3) (hN : (xs.drop i).take s = be s N) (hNlt : N < 256 ^ s) (h1 : l ≤ N) (h2 : (N : Int) ≤ hh) (h3 : (N : Int) % t = 0) (ht : 1 ≤ t) (hk : i + s + N ≤ e) (he : e ≤ xs.length) (hn : xs.length ≤ c) (hc : xs.length ≤ 1000000000) (k : Int) :
    Calls Try.prog 50 #[.pointer (some ⟨p, 0, none⟩), .agg #[.int .i64 k, .int .i64 s, .int .i64 l, .int .i64 hh, .int .i64 t, .slice fA ps.length fc]] w fun r w' => r = .returned (.int .i64 N) ∧ Rr w' p A xs.length c (i + s) e st ∧ Fr w w' (fun j => j = p) := by
  obtain ⟨B, hB, hbb⟩ := hb
  have ga := grew_alloc (grew_refl w none) (.cells #[.int .i64 k, .int .i64 s, .int .i64 l, .int .i64 hh, .int .i64 t, .slice fA ps.length fc] 24)
  have kf := Whole.new w #[.int .i64 k, .int .i64 s, .int .i64 l, .int .i64 hh, .int .i64 t, .slice fA ps.length fc] 24
  have hR : Rr (w.alloc (.cells #[.int .i64 k, .int .i64 s, .int .i64 l, .int .i64 hh, .int .i64 t, .slice fA ps.length fc] 24)) p A xs.length c i e st := Whole.grew h ga (by simp)
  have hne : ¬ w.heap.size = p := by have := Whole.lt h; omega
  have hln : (be s N).length = s := be_length _ _
  have hnum : num (be s N) = N := num_be_lt s N hNlt
  have HT := Lib.hid (rr_take _ p A xs.length c i e st s hR (by omega) he hn hc)
  have HB := Lib.hid (show ∀ W, Fr w W (fun j => j = p) → Byt W B (cutAt A c i) (be s N) from fun W g => by
    have := ((ByF.byt ((hbb.byf).fr g (fun j hj e => by omega))))
    have h' : Byt W B A xs := by
      have := (hbb.byf).fr g (fun j hj e => by omega)
      exact this
    have hd := (h'.drop (k := i) hn).take s
    rw [hN] at hd
    exact hd)
  have HNB := Lib.hid (show ∀ W (g : Byt W B (cutAt A c i) (be s N)), Calls Try.prog 48 #[.slice (cutAt A c i) s (c - i)] W fun e w' => e = .returned (.int .u64 (N : Int)) ∧ W = w' from fun W g => by
    have := rnum_any W B (cutAt A c i) (be s N) (c - i) g (by omega)
    rw [hln, hnum] at this
    exact this)
  have HR0 := Lib.hid hR
  have HKF := Lib.hid kf
  have HGA := Lib.hid ga
  clear kf ga hR h hbb hN hln hnum
  have hN3 : N < 16777216 := by
    have : s = 1 ∨ s = 2 ∨ s = 3 := by omega
    rcases this with rfl | rfl | rfl <;> simp at hNlt <;> omega
  have H3 := Lib.hid h3
  have hcv : IntKind.i64.wrap ((N : Nat) : Int) = (N : Int) := by rw [IntKind.wrap_i64]; omega
  clear hNlt h3
  obtain ⟨a0, a1, a2, a3, a4, a5⟩ := HKF.out.six
  go_enter Try.func50, Try.ntmps50
  obtain ⟨r0, r1, r2, r4, _, _⟩ := HR0.out.cells
  go_upto_region 2 with (fail)
  generalize w.alloc (.cells #[.int .i64 k, .int .i64 s, .int .i64 l, .int .i64 hh, .int .i64 t, .slice fA ps.length fc] 24) = W at *
  generalize hz : w.heap.size = z at *
  clear hz
  go_wp2_with fail
  refine HT.out.mono ?_
  rintro r w1 ⟨rfl, t1, f1⟩
  have hF1 : Fr w w1 (fun j => j = p) := (fr_of HGA.out).trans f1 (fun _ _ h => h)
  have HR1 := Lib.hid t1
  have HF1 := Lib.hid hF1
  have HB1 := Lib.hid (HB.out w1 hF1)
  have kf1 := HKF.out.fr f1 hne
  clear t1 f1 hF1 a0 a1 a2 a3 a4 a5 r0 r1 r2 r4 HT HB HKF HGA HR0
  obtain ⟨a0, a1, a2, a3, a4, a5⟩ := kf1.six
  obtain ⟨r0, r1, r2, r4, _, _⟩ := HR1.out.cells
  clear kf1
  go_wp2_with fail
  refine (HNB.out w1 HB1.out).mono ?_
  rintro r w2 ⟨rfl, rfl⟩
  have q1 : ¬ ((N : Int) < l) := by omega
  have q2 : ¬ (hh < (N : Int)) := by omega
  have q3 : IntKind.i64.wrap ((e : Int) - ((i + s : Nat) : Int)) = (e : Int) - ((i + s : Nat) : Int) := IntWalk.i64_in _ (by omega)
  have q4 : ¬ ((e : Int) - ((i + s : Nat) : Int) < N) := by omega
  have q5 : (N : Int) % t = 0 := H3.out
  go_upto_region 5 with (fail)
  go_quiet (fail)
  go_wp2_with fail
  go_ret
  exact ⟨rfl, HR1.out, HF1.out.drewN _⟩
end Go.Proofs.Ytibbeodcheefaaa


/- The document's reader, of bytes that are right: numbers, bytes. -/
namespace Go.Proofs.Ytibbeodcheefaaa
open Go.RowKit Va

/-- A value that is all new, in memory without a mark. -/
def Nv (w : World) (k : Nat) (u : Va) : Prop := u.In w ∧ u.Hi k ∧ Pl w u
theorem Pl.fr {w w' : World} {F : Nat → Prop} {k : Nat} {u : Va} (h : Pl w u) (g : Fr w w' F) (hi : Va.Hi k u) (hF : ∀ i, F i → i < k) : Pl w' u := by
  induction h with
  | mk ha _ ih =>
    cases hi with
    | mk hB hA hp =>
      exact .mk (fun hl => by
        obtain ⟨b, o, cs, t, e, hh⟩ := ha hl
        have hb := hA _ e
        exact ⟨b, o, cs, t, e, (g.block b (Array.getElem?_eq_some_iff.1 hh).1 (fun hf => by have := hF _ hf; have : k ≤ b := hb; omega)).trans hh⟩) (fun p hpm => ih p hpm (hp p hpm))
theorem Nv.fr {w w' : World} {F : Nat → Prop} {k : Nat} {u : Va} (h : Nv w k u) (g : Fr w w' F) (hF : ∀ i, F i → i < k) : Nv w' k u := ⟨h.1.fr g h.2.1 hF, h.2.1, h.2.2.fr g h.2.1 hF⟩
theorem Nv.mono {w : World} {k k' : Nat} {u : Va} (h : Nv w k u) (hk : k' ≤ k) : Nv w k' u := ⟨h.1, h.2.1.mono hk, h.2.2⟩

/-- What holds ahead of a form's read. -/
structure Pre6 (w0 w : World) (p : Nat) (A : Option Addr) (xs : List UInt8) (c i e st : Nat) : Prop where
  g : Grew w0 w none
  lo : w0.heap.size ≤ p
  rr : Rr w p A xs.length c i e st
  by' : Byt w0 w0.heap.size A xs
  hn : xs.length ≤ c
  hc : xs.length ≤ 10000000
  hi : i ≤ e
  he : e ≤ xs.length
/-- What is left behind. -/
def Got6 (w : World) (p : Nat) (A : Option Addr) (n c i e st Z : Nat) (v : Va) (r : Ending) (w' : World) : Prop :=
  ∃ u : Va, r = .returned u.val ∧ Nv w' w.heap.size u ∧ u.nf = v.nf ∧ Rr w' p A n c (i + Z) e (st + v.cnt) ∧ Fr w w' (fun j => j = p)

/-- The result is stored: what is left behind. -/
theorem got6_close {w X : World} {p q : Nat} {A : Option Addr} {n c i e st Z k : Nat} {v u : Va} {a0 a1 a2 : Value} (hF : Fr w X (fun j => j = p)) (hp : p < w.heap.size) (hq : w.heap.size ≤ q) (hqk : q < k) (hk : w.heap.size ≤ k) (_hW : Whole X q #[a0, a1, a2] 29) (hR : Rr X p A n c (i + Z) e (st + v.cnt)) (hu : Nv X k u) (hn : u.nf = v.nf) :
    Got6 w p A n c i e st Z v (.returned (.agg #[.int .u64 u.n, .slice u.B u.bs.length u.d, .slice u.A u.ls.length u.c])) (put3 X q (.int .u64 u.n) (.slice u.B u.bs.length u.d) (.slice u.A u.ls.length u.c)) := by
  have g := fr_put3 X q (.int .u64 u.n) (.slice u.B u.bs.length u.d) (.slice u.A u.ls.length u.c)
  exact ⟨u, rfl, (hu.fr g (fun i hi => by omega)).mono hk, hn, Whole.fr hR g (by omega), hF.trans g (fun i hi h => by omega)⟩
theorem own_new0 {w W : World} (hl : w.heap.size ≤ W.heap.size) : (∀ g, (Value.slice (some ⟨W.heap.size, 0, none⟩) 0 0).ownBlock = some g → w.heap.size ≤ g) := fun g hg => by simp [Value.ownBlock] at hg; omega


set_option maxRecDepth 100000 in
set_option maxHeartbeats 2000000 in
theorem rf_0 (w0 w : World) (p : Nat) (A : Option Addr) (xs : List UInt8) (c i e st : Nat) (hpre : Pre6 w0 w p A xs c i e st) (v : Va) (s : Nat) (l hh t : Int) (fA : Option Addr) (fc : Nat) (ps : List Fo) (hs : s ≤ 8) (x : Nat) (hx : x < 256 ^ s) (hx8 : x < 18446744073709551616) (hnf : v.nf = vN (x : Int)) (hcn : v.cnt = 1) (hb : (xs.drop i).take s = be s x) (hk : i + s ≤ e) (hst : st + v.cnt ≤ 1000000) :
    Calls Try.prog 30 #[.pointer (some ⟨p, 0, none⟩), .agg #[.int .i64 0, .int .i64 s, .int .i64 l, .int .i64 hh, .int .i64 t, .slice fA ps.length fc]] w (Got6 w p A xs.length c i e st s v) := by
  obtain ⟨g1, k0, k1, ks⟩ := two_new w #[.int .i64 0, .int .i64 s, .int .i64 l, .int .i64 hh, .int .i64 t, .slice fA ps.length fc] 24 #[.int .u64 0, .slice none 0 0, .slice none 0 0] 29
  have hp := Whole.lt hpre.rr
  have hR1 : Rr ((w.alloc (.cells #[.int .i64 0, .int .i64 s, .int .i64 l, .int .i64 hh, .int .i64 t, .slice fA ps.length fc] 24)).alloc (.cells #[.int .u64 0, .slice none 0 0, .slice none 0 0] 29)) p A xs.length c i e st := Whole.grew hpre.rr g1 (by simp)
  have G1 := Lib.hid g1
  have K0 := Lib.hid k0
  have K1 := Lib.hid k1
  have HR1 := Lib.hid hR1
  have PRE := Lib.hid hpre
  have hst' : st ≤ 1000000 := by omega
  obtain ⟨r0, r1, r2, r4, r5, r6⟩ := hR1.cells
  have f5 := Whole.frozen hR1 5
  clear g1 k0 k1 hR1 hpre
  have pw : IntKind.i64.wrap ((st : Int) + 1) = (st : Int) + 1 := IntWalk.i64_in _ (by omega)
  go_enter Try.func30, Try.ntmps30
  go_upto_region 3 with (fail)
  generalize (w.alloc (.cells #[.int .i64 0, .int .i64 s, .int .i64 l, .int .i64 hh, .int .i64 t, .slice fA ps.length fc] 24)).alloc (.cells #[.int .u64 0, .slice none 0 0, .slice none 0 0] 29) = W at *
  generalize hq : w.heap.size = q at *
  have HQ := Lib.hid hq
  have KS := Lib.hid ks
  clear hq ks
  have hm : decide ((1099511627776 : Int) ≤ (st : Int)) = false := decide_eq_false (by omega)
  go_quiet (fail)

  clear hm
  go_upto_region 7 with (fail)
  have hF : Fr w ((W.drewN nq).setCell ⟨p, 5, none⟩ (.int .i64 ((st : Int) + 1))) (fun j => j = p) := ((fr_of G1.out).trans ((Fr.refl W (fun j => j = p)).drewN nq) (fun _ _ h => h)).trans (fr_cell _ _ _ _) (fun _ _ h => h)
  have hFW : Fr W ((W.drewN nq).setCell ⟨p, 5, none⟩ (.int .i64 ((st : Int) + 1))) (fun j => j = p) := ((Fr.refl W (fun j => j = p)).drewN nq).trans (fr_cell _ _ _ _) (fun _ _ h => h)
  have hR2 : Rr ((W.drewN nq).setCell ⟨p, 5, none⟩ (.int .i64 ((st : Int) + 1))) p A xs.length c i e (st + 1) := Rr.set5 (w := W.drewN nq) HR1.out (st + 1)
  have k0 := K0.out.fr hFW (show ¬ q = p by omega)
  have k1 := K1.out.fr hFW (show ¬ q + 1 = p by omega)
  clear r0 r1 r2 r4 r5 r6 f5 pw
  generalize (W.drewN nq).setCell ⟨p, 5, none⟩ (.int .i64 ((st : Int) + 1)) = X at *
  have HF := Lib.hid hF
  have HR2 := Lib.hid hR2
  have K0' := Lib.hid k0
  have K1' := Lib.hid k1
  have hXs : q + 2 ≤ X.heap.size := by have := hFW.size; have := KS.out; omega
  clear hF hFW hR2 k0 k1 HR1 K0 K1 G1
  obtain ⟨a0, a1, a2, a3, a4, a5⟩ := K0'.out.six
  have hln : (be s x).length = s := be_length _ _
  have hnum : num (be s x) = x := num_be_lt s x hx
  have HT := Lib.hid (rr_take X p A xs.length c i e (st + 1) s HR2.out hk PRE.out.he PRE.out.hn (by have := PRE.out.hc; omega))
  have HN := Lib.hid (show ∀ Y, Fr w Y (fun j => j = p) → Calls Try.prog 48 #[.slice (cutAt A c i) s (c - i)] Y fun e w' => e = .returned (.int .u64 (x : Int)) ∧ Y = w' from fun Y g => by
    have h' : Byt Y w0.heap.size A xs := ((PRE.out.by'.grew PRE.out.g (fun _ h => by cases h)).byf).fr g (fun j hj e => by have := PRE.out.lo; omega)
    have hd := (h'.drop (k := i) PRE.out.hn).take s
    rw [hb] at hd
    have := rnum_any Y _ (cutAt A c i) (be s x) (c - i) hd (by omega)
    rw [hln, hnum] at this
    exact this)
  clear hb hx hln hnum
  go_wp2_with fail
  refine HT.out.mono ?_
  rintro r X1 ⟨rfl, t1, f1⟩
  have hF1 := HF.out.trans f1 (fun _ _ h => h)
  have k1 := K1'.out.fr f1 (show ¬ q + 1 = p by omega)
  have HF1 := Lib.hid hF1
  have HT1 := Lib.hid t1
  have K11 := Lib.hid k1
  have HS1 := Lib.hid f1.size
  clear hF1 t1 f1 k1 a0 a1 a2 a3 a4 a5 HT
  go_wp2_with fail
  refine (HN.out X1 HF1.out).mono ?_
  rintro r X2 ⟨rfl, rfl⟩
  obtain ⟨z0, z1, z2⟩ := K11.out.three
  have fz := K11.out.frozen
  clear HN
  go_wp2_with fail
  refine bodyPost_ret (results_cell_row rfl _ _ (q + 1) _ _ _ _ rfl (K11.out.put3 (.int .u64 (x : Int)) (.slice none 0 0) (.slice none 0 0)) Try.underlying29 rfl (by kernel_rfl)) rfl ?_
  exact got6_close (u := vN (x : Int)) (k := q + 2) HF1.out (by have := HQ.out; omega) (by have := HQ.out; omega) (by omega) (by have := HQ.out; omega) K11.out (by rw [hcn]; exact HT1.out) ⟨plainN_in _ (by omega), vN_hi _ _, .mk (fun h => by simp at h) (fun p hp => by simp at hp)⟩ (by rw [hnf]; rfl)


set_option maxRecDepth 100000 in
set_option maxHeartbeats 2000000 in
theorem rf_5 (w0 w : World) (p : Nat) (A : Option Addr) (xs : List UInt8) (c i e st : Nat) (hpre : Pre6 w0 w p A xs c i e st) (v : Va) (N : Nat) (s hh t : Int) (fA : Option Addr) (fc : Nat) (ps : List Fo) (hnf : v.nf = vB v.bs) (hcn : v.cnt = 1) (hb : (xs.drop i).take N = v.bs) (hbl : v.bs.length = N) (hk : i + N ≤ e) (hst : st + v.cnt ≤ 1000000) :
    Calls Try.prog 30 #[.pointer (some ⟨p, 0, none⟩), .agg #[.int .i64 5, .int .i64 s, .int .i64 N, .int .i64 hh, .int .i64 t, .slice fA ps.length fc]] w (Got6 w p A xs.length c i e st N v) := by
  obtain ⟨g1, k0, k1, ks⟩ := two_new w #[.int .i64 5, .int .i64 s, .int .i64 N, .int .i64 hh, .int .i64 t, .slice fA ps.length fc] 24 #[.int .u64 0, .slice none 0 0, .slice none 0 0] 29
  have hp := Whole.lt hpre.rr
  have hR1 : Rr ((w.alloc (.cells #[.int .i64 5, .int .i64 s, .int .i64 N, .int .i64 hh, .int .i64 t, .slice fA ps.length fc] 24)).alloc (.cells #[.int .u64 0, .slice none 0 0, .slice none 0 0] 29)) p A xs.length c i e st := Whole.grew hpre.rr g1 (by simp)
  have G1 := Lib.hid g1
  have K0 := Lib.hid k0
  have K1 := Lib.hid k1
  have HR1 := Lib.hid hR1
  have PRE := Lib.hid hpre
  have hst' : st ≤ 1000000 := by omega
  obtain ⟨r0, r1, r2, r4, r5, r6⟩ := hR1.cells
  have f5 := Whole.frozen hR1 5
  clear g1 k0 k1 hR1 hpre
  have pw : IntKind.i64.wrap ((st : Int) + 1) = (st : Int) + 1 := IntWalk.i64_in _ (by omega)
  go_enter Try.func30, Try.ntmps30
  go_upto_region 3 with (fail)
  generalize (w.alloc (.cells #[.int .i64 5, .int .i64 s, .int .i64 N, .int .i64 hh, .int .i64 t, .slice fA ps.length fc] 24)).alloc (.cells #[.int .u64 0, .slice none 0 0, .slice none 0 0] 29) = W at *
  generalize hq : w.heap.size = q at *
  have HQ := Lib.hid hq
  have KS := Lib.hid ks
  clear hq ks
  have hm : decide ((1099511627776 : Int) ≤ (st : Int)) = false := decide_eq_false (by omega)
  go_quiet (fail)

  clear hm
  go_upto_region 7 with (fail)
  have hF : Fr w ((W.drewN nq).setCell ⟨p, 5, none⟩ (.int .i64 ((st : Int) + 1))) (fun j => j = p) := ((fr_of G1.out).trans ((Fr.refl W (fun j => j = p)).drewN nq) (fun _ _ h => h)).trans (fr_cell _ _ _ _) (fun _ _ h => h)
  have hFW : Fr W ((W.drewN nq).setCell ⟨p, 5, none⟩ (.int .i64 ((st : Int) + 1))) (fun j => j = p) := ((Fr.refl W (fun j => j = p)).drewN nq).trans (fr_cell _ _ _ _) (fun _ _ h => h)
  have hR2 : Rr ((W.drewN nq).setCell ⟨p, 5, none⟩ (.int .i64 ((st : Int) + 1))) p A xs.length c i e (st + 1) := Rr.set5 (w := W.drewN nq) HR1.out (st + 1)
  have k0 := K0.out.fr hFW (show ¬ q = p by omega)
  have k1 := K1.out.fr hFW (show ¬ q + 1 = p by omega)
  clear r0 r1 r2 r4 r5 r6 f5 pw
  generalize (W.drewN nq).setCell ⟨p, 5, none⟩ (.int .i64 ((st : Int) + 1)) = X at *
  have HF := Lib.hid hF
  have HR2 := Lib.hid hR2
  have K0' := Lib.hid k0
  have K1' := Lib.hid k1
  have hXs : q + 2 ≤ X.heap.size := by have := hFW.size; have := KS.out; omega
  clear hF hFW hR2 k0 k1 HR1 K0 K1 G1
  obtain ⟨a0, a1, a2, a3, a4, a5⟩ := K0'.out.six
  have hX0 : Fr X X (fun j => j = p) := Fr.refl _ _
  have HFY := HF
  have HTY := HR2
  have K1Y := K1'
  have hYs := hXs
  clear HF HR2 K1' hX0
  go_upto_region 14 with (fail)
  have ga := grew_alloc (grew_refl X none) (.cells #[] 5)
  have hT2 : Rr (X.alloc (.cells #[] 5)) p A xs.length c i e (st + 1) := Whole.grew HTY.out ga (by simp)
  have HT := Lib.hid (rr_take _ p A xs.length c i e (st + 1) N hT2 (by omega) PRE.out.he PRE.out.hn (by have := PRE.out.hc; omega))
  have HO := Lib.hid (own_nil0 X)
  have GA := Lib.hid ga
  have a2' := ga.cell a2 (by simp)
  clear ga hT2 a0 a1 a2 a3 a4 a5
  go_wp2_with fail
  generalize X.alloc (.cells #[] 5) = Y2 at *
  generalize hz : X.heap.size = z at *
  have HZ := Lib.hid hz
  clear hz
  refine HT.out.mono ?_
  rintro r Y3 ⟨rfl, t3, f3⟩
  have hF3 := (HFY.out.trans (fr_of GA.out (F := fun j => j = p)) (fun _ _ h => h)).trans f3 (fun _ _ h => h)
  have hb3 : Byt Y3 w0.heap.size (cutAt A c i) v.bs := by
    have h' : Byt Y3 w0.heap.size A xs := ((PRE.out.by'.grew PRE.out.g (fun _ h => by cases h)).byf).fr hF3 (fun j hj e => by have := PRE.out.lo; omega)
    have hd := (h'.drop (k := i) PRE.out.hn).take N
    rw [hb] at hd
    exact hd
  have ho3 := own_fr HO.out f3 (fun g hg e => by simp [Value.ownBlock] at hg; have := HZ.out; omega)
  have k13 := (K1Y.out.grew GA.out (by simp)).fr f3 (show ¬ q + 1 = p by omega)
  have hs3 : q + 2 ≤ Y3.heap.size ∧ z < Y3.heap.size := by have := f3.size; have := GA.out.size; have := own_lt HO.out z rfl; have := HZ.out; omega
  have HA := Lib.hid (fun ty => append_bytes (P := Try.prog) Y3 26 ty 5 Try.underlying26 info_u8 ho3 hb3.byf (c - i) (by have := PRE.out.hc; have := PRE.out.he; omega))
  rw [hbl] at HA
  have HF3 := Lib.hid hF3
  have HT3 := Lib.hid t3
  have K13 := Lib.hid k13
  clear hF3 hb3 ho3 t3 f3 k13 HT HO GA
  go_wp2_with (at_builtin; refine wpList_append_run _ rfl (.tmp 63) (.tmp 67) 26 rfl rfl rfl (fun ty => HA.out ty) ?_; intro V Y4 hApp; obtain ⟨A4, d4, hV4, _⟩ := own_form hApp.1; subst hV4; have k14 := K13.out.fr (Fr.of_grew' (F := fun i => i = z) hApp.2.1 (fun i hi => by simp [Value.ownBlock] at hi; omega)) (show ¬ q + 1 = z by have := HZ.out; omega); obtain ⟨z0, z1, z2⟩ := k14.three; have fz := k14.frozen; have K14 := Lib.hid k14; have HAP := Lib.hid hApp; clear k14 hApp)
  have e0 : 0 + N = v.bs.length := by omega
  refine bodyPost_ret (results_cell_row rfl _ _ (q + 1) _ _ _ _ rfl (K14.out.put3 (.int .u64 0) (.slice A4 N d4) (.slice none 0 0)) Try.underlying29 rfl (by kernel_rfl)) rfl ?_
  have hf4 : Fr Y3 Y4 (fun i => i = z) := Fr.of_grew' HAP.out.2.1 (fun i hi => by simp [Value.ownBlock] at hi; omega)
  have hzp : ¬ p = z := by have := HZ.out; omega
  have hown := HAP.out.1
  rw [List.nil_append, e0] at hown
  obtain ⟨A5, c5, e5, hle5, hb5⟩ := byt_of_own hown
  have hA5 : A4 = A5 ∧ d4 = c5 := by simpa using e5
  obtain ⟨rfl, rfl⟩ := hA5
  clear e0
  subst hbl
  have hhi : ∀ a, A4 = some a → q + 2 ≤ a.block := fun a ha => by
    subst ha
    have := HAP.out.2.2
    simp [Value.ownBlock] at this
    have := HZ.out
    omega
  have hfw : Fr w Y4 (fun j => j = p) := HF3.out.trans hf4 (fun j hj e => by have := HZ.out; have := HQ.out; omega)
  exact got6_close (u := .mk 0 A4 d4 v.bs none 0 []) (k := q + 2) hfw (by have := HQ.out; omega) (by have := HQ.out; omega) (by omega) (by have := HQ.out; omega) K14.out (by rw [hcn]; exact Whole.fr HT3.out hf4 hzp) ⟨.mk (by omega) hb5 ⟨hle5, by have := PRE.out.hc; have := PRE.out.he; omega⟩ (by simp) (by simp) (Va.Lie.nil _ _) (fun p hp => by simp at hp), .mk hhi (fun _ h => by cases h) (fun p hp => by simp at hp), .mk (fun h => by simp at h) (fun p hp => by simp at hp)⟩ (by rw [hnf]; rfl)


set_option maxRecDepth 100000 in
set_option maxHeartbeats 2000000 in
theorem rf_1 (w0 w : World) (p : Nat) (A : Option Addr) (xs : List UInt8) (c i e st : Nat) (hpre : Pre6 w0 w p A xs c i e st) (v : Va) (s N : Nat) (l hh t : Int) (fA : Option Addr) (fc : Nat) (ps : List Fo) (hnf : v.nf = vB v.bs) (hcn : v.cnt = 1) (hs : 1 ≤ s ∧ s ≤ 3) (hNl : N < 256 ^ s) (h1 : l ≤ N) (h2 : (N : Int) ≤ hh) (h3 : (N : Int) % t = 0) (ht : 1 ≤ t) (hbs : (xs.drop i).take s = be s N) (hb : (xs.drop (i + s)).take N = v.bs) (hbl : v.bs.length = N) (hk : i + s + N ≤ e) (hst : st + v.cnt ≤ 1000000) :
    Calls Try.prog 30 #[.pointer (some ⟨p, 0, none⟩), .agg #[.int .i64 1, .int .i64 s, .int .i64 l, .int .i64 hh, .int .i64 t, .slice fA ps.length fc]] w (Got6 w p A xs.length c i e st (s + N) v) := by
  obtain ⟨g1, k0, k1, ks⟩ := two_new w #[.int .i64 1, .int .i64 s, .int .i64 l, .int .i64 hh, .int .i64 t, .slice fA ps.length fc] 24 #[.int .u64 0, .slice none 0 0, .slice none 0 0] 29
  have hp := Whole.lt hpre.rr
  have hR1 : Rr ((w.alloc (.cells #[.int .i64 1, .int .i64 s, .int .i64 l, .int .i64 hh, .int .i64 t, .slice fA ps.length fc] 24)).alloc (.cells #[.int .u64 0, .slice none 0 0, .slice none 0 0] 29)) p A xs.length c i e st := Whole.grew hpre.rr g1 (by simp)
  have G1 := Lib.hid g1
  have K0 := Lib.hid k0
  have K1 := Lib.hid k1
  have HR1 := Lib.hid hR1
  have PRE := Lib.hid hpre
  have hst' : st ≤ 1000000 := by omega
  obtain ⟨r0, r1, r2, r4, r5, r6⟩ := hR1.cells
  have f5 := Whole.frozen hR1 5
  clear g1 k0 k1 hR1 hpre
  have pw : IntKind.i64.wrap ((st : Int) + 1) = (st : Int) + 1 := IntWalk.i64_in _ (by omega)
  go_enter Try.func30, Try.ntmps30
  go_upto_region 3 with (fail)
  generalize (w.alloc (.cells #[.int .i64 1, .int .i64 s, .int .i64 l, .int .i64 hh, .int .i64 t, .slice fA ps.length fc] 24)).alloc (.cells #[.int .u64 0, .slice none 0 0, .slice none 0 0] 29) = W at *
  generalize hq : w.heap.size = q at *
  have HQ := Lib.hid hq
  have KS := Lib.hid ks
  clear hq ks
  have hm : decide ((1099511627776 : Int) ≤ (st : Int)) = false := decide_eq_false (by omega)
  go_quiet (fail)

  clear hm
  go_upto_region 7 with (fail)
  have hF : Fr w ((W.drewN nq).setCell ⟨p, 5, none⟩ (.int .i64 ((st : Int) + 1))) (fun j => j = p) := ((fr_of G1.out).trans ((Fr.refl W (fun j => j = p)).drewN nq) (fun _ _ h => h)).trans (fr_cell _ _ _ _) (fun _ _ h => h)
  have hFW : Fr W ((W.drewN nq).setCell ⟨p, 5, none⟩ (.int .i64 ((st : Int) + 1))) (fun j => j = p) := ((Fr.refl W (fun j => j = p)).drewN nq).trans (fr_cell _ _ _ _) (fun _ _ h => h)
  have hR2 : Rr ((W.drewN nq).setCell ⟨p, 5, none⟩ (.int .i64 ((st : Int) + 1))) p A xs.length c i e (st + 1) := Rr.set5 (w := W.drewN nq) HR1.out (st + 1)
  have k0 := K0.out.fr hFW (show ¬ q = p by omega)
  have k1 := K1.out.fr hFW (show ¬ q + 1 = p by omega)
  clear r0 r1 r2 r4 r5 r6 f5 pw
  generalize (W.drewN nq).setCell ⟨p, 5, none⟩ (.int .i64 ((st : Int) + 1)) = X at *
  have HF := Lib.hid hF
  have HR2 := Lib.hid hR2
  have K0' := Lib.hid k0
  have K1' := Lib.hid k1
  have hXs : q + 2 ≤ X.heap.size := by have := hFW.size; have := KS.out; omega
  clear hF hFW hR2 k0 k1 HR1 K0 K1 G1
  obtain ⟨a0, a1, a2, a3, a4, a5⟩ := K0'.out.six
  have hX0 : Fr X X (fun j => j = p) := Fr.refl _ _
  have HLN := Lib.hid (rr_length X p A xs c i e (st + 1) HR2.out s l hh t fA fc ps N ⟨w0.heap.size, PRE.out.lo, ((PRE.out.by'.grew PRE.out.g (fun _ h => by cases h)).byf).fr HF.out (fun j hj e => by have := PRE.out.lo; omega)⟩ hs hbs hNl h1 h2 h3 ht (by omega) PRE.out.he PRE.out.hn (by have := PRE.out.hc; omega) 1)
  clear hbs hNl h1 h2 h3 ht
  go_wp2_with fail
  refine HLN.out.mono ?_
  rintro r Y ⟨rfl, t0, f0⟩
  have hFY := HF.out.trans f0 (fun _ _ h => h)
  have k1 := K1'.out.fr f0 (show ¬ q + 1 = p by omega)
  have HFY := Lib.hid hFY
  have HTY := Lib.hid t0
  have K1Y := Lib.hid k1
  have hYs : q + 2 ≤ Y.heap.size := by have := f0.size; omega
  clear hFY t0 f0 k1 HLN HF HR2 K0' K1' hX0
  go_upto_region 12 with (fail)
  have ga := grew_alloc (grew_refl Y none) (.cells #[] 5)
  have hT2 : Rr (Y.alloc (.cells #[] 5)) p A xs.length c (i + s) e (st + 1) := Whole.grew HTY.out ga (by simp)
  have HT := Lib.hid (rr_take _ p A xs.length c (i + s) e (st + 1) N hT2 (by omega) PRE.out.he PRE.out.hn (by have := PRE.out.hc; omega))
  have HO := Lib.hid (own_nil0 Y)
  have GA := Lib.hid ga
  clear ga hT2 a0 a1 a2 a3 a4 a5
  go_wp2_with fail
  generalize Y.alloc (.cells #[] 5) = Y2 at *
  generalize hz : Y.heap.size = z at *
  have HZ := Lib.hid hz
  clear hz
  refine HT.out.mono ?_
  rintro r Y3 ⟨rfl, t3, f3⟩
  have hF3 := (HFY.out.trans (fr_of GA.out (F := fun j => j = p)) (fun _ _ h => h)).trans f3 (fun _ _ h => h)
  have hb3 : Byt Y3 w0.heap.size (cutAt A c (i + s)) v.bs := by
    have h' : Byt Y3 w0.heap.size A xs := ((PRE.out.by'.grew PRE.out.g (fun _ h => by cases h)).byf).fr hF3 (fun j hj e => by have := PRE.out.lo; omega)
    have hd := (h'.drop (k := (i + s)) PRE.out.hn).take N
    rw [hb] at hd
    exact hd
  have ho3 := own_fr HO.out f3 (fun g hg e => by simp [Value.ownBlock] at hg; have := HZ.out; omega)
  have k13 := (K1Y.out.grew GA.out (by simp)).fr f3 (show ¬ q + 1 = p by omega)
  have hs3 : q + 2 ≤ Y3.heap.size ∧ z < Y3.heap.size := by have := f3.size; have := GA.out.size; have := own_lt HO.out z rfl; have := HZ.out; omega
  have HA := Lib.hid (fun ty => append_bytes (P := Try.prog) Y3 26 ty 5 Try.underlying26 info_u8 ho3 hb3.byf (c - (i + s)) (by have := PRE.out.hc; have := PRE.out.he; omega))
  rw [hbl] at HA
  have HF3 := Lib.hid hF3
  have HT3 := Lib.hid t3
  have K13 := Lib.hid k13
  clear hF3 hb3 ho3 t3 f3 k13 HT HO GA
  go_wp2_with (at_builtin; refine wpList_append_run _ rfl (.tmp 55) (.tmp 58) 26 rfl rfl rfl (fun ty => HA.out ty) ?_; intro V Y4 hApp; obtain ⟨A4, d4, hV4, _⟩ := own_form hApp.1; subst hV4; have k14 := K13.out.fr (Fr.of_grew' (F := fun i => i = z) hApp.2.1 (fun i hi => by simp [Value.ownBlock] at hi; omega)) (show ¬ q + 1 = z by have := HZ.out; omega); obtain ⟨z0, z1, z2⟩ := k14.three; have fz := k14.frozen; have K14 := Lib.hid k14; have HAP := Lib.hid hApp; clear k14 hApp)
  have e0 : 0 + N = v.bs.length := by omega
  refine bodyPost_ret (results_cell_row rfl _ _ (q + 1) _ _ _ _ rfl (K14.out.put3 (.int .u64 0) (.slice A4 N d4) (.slice none 0 0)) Try.underlying29 rfl (by kernel_rfl)) rfl ?_
  have hf4 : Fr Y3 Y4 (fun i => i = z) := Fr.of_grew' HAP.out.2.1 (fun i hi => by simp [Value.ownBlock] at hi; omega)
  have hzp : ¬ p = z := by have := HZ.out; omega
  have hown := HAP.out.1
  rw [List.nil_append, e0] at hown
  obtain ⟨A5, c5, e5, hle5, hb5⟩ := byt_of_own hown
  have hA5 : A4 = A5 ∧ d4 = c5 := by simpa using e5
  obtain ⟨rfl, rfl⟩ := hA5
  clear e0
  subst hbl
  have hhi : ∀ a, A4 = some a → q + 2 ≤ a.block := fun a ha => by
    subst ha
    have := HAP.out.2.2
    simp [Value.ownBlock] at this
    have := HZ.out
    omega
  have hfw : Fr w Y4 (fun j => j = p) := HF3.out.trans hf4 (fun j hj e => by have := HZ.out; have := HQ.out; omega)
  exact got6_close (u := .mk 0 A4 d4 v.bs none 0 []) (k := q + 2) hfw (by have := HQ.out; omega) (by have := HQ.out; omega) (by omega) (by have := HQ.out; omega) K14.out (by rw [hcn, ← Nat.add_assoc]; exact Whole.fr HT3.out hf4 hzp) ⟨.mk (by omega) hb5 ⟨hle5, by have := PRE.out.hc; have := PRE.out.he; omega⟩ (by simp) (by simp) (Va.Lie.nil _ _) (fun p hp => by simp at hp), .mk hhi (fun _ h => by cases h) (fun p hp => by simp at hp), .mk (fun h => by simp at h) (fun p hp => by simp at hp)⟩ (by rw [hnf]; rfl)


set_option maxRecDepth 100000 in
set_option maxHeartbeats 2000000 in
theorem rf_4 (w0 w : World) (p : Nat) (A : Option Addr) (xs : List UInt8) (c i e st : Nat) (hpre : Pre6 w0 w p A xs c i e st) (v : Va) (N : Nat) (s l hh t : Int) (fA : Option Addr) (fc : Nat) (ps : List Fo) (hnf : v.nf = vB v.bs) (hcn : v.cnt = 1) (h1 : l ≤ N) (h2 : (N : Int) ≤ hh) (hb : (xs.drop i).take N = v.bs) (hbl : v.bs.length = N) (hk : i + N = e) (hst : st + v.cnt ≤ 1000000) :
    Calls Try.prog 30 #[.pointer (some ⟨p, 0, none⟩), .agg #[.int .i64 4, .int .i64 s, .int .i64 l, .int .i64 hh, .int .i64 t, .slice fA ps.length fc]] w (Got6 w p A xs.length c i e st N v) := by
  obtain ⟨g1, k0, k1, ks⟩ := two_new w #[.int .i64 4, .int .i64 s, .int .i64 l, .int .i64 hh, .int .i64 t, .slice fA ps.length fc] 24 #[.int .u64 0, .slice none 0 0, .slice none 0 0] 29
  have hp := Whole.lt hpre.rr
  have hR1 : Rr ((w.alloc (.cells #[.int .i64 4, .int .i64 s, .int .i64 l, .int .i64 hh, .int .i64 t, .slice fA ps.length fc] 24)).alloc (.cells #[.int .u64 0, .slice none 0 0, .slice none 0 0] 29)) p A xs.length c i e st := Whole.grew hpre.rr g1 (by simp)
  have G1 := Lib.hid g1
  have K0 := Lib.hid k0
  have K1 := Lib.hid k1
  have HR1 := Lib.hid hR1
  have PRE := Lib.hid hpre
  have hst' : st ≤ 1000000 := by omega
  obtain ⟨r0, r1, r2, r4, r5, r6⟩ := hR1.cells
  have f5 := Whole.frozen hR1 5
  clear g1 k0 k1 hR1 hpre
  have pw : IntKind.i64.wrap ((st : Int) + 1) = (st : Int) + 1 := IntWalk.i64_in _ (by omega)
  go_enter Try.func30, Try.ntmps30
  go_upto_region 3 with (fail)
  generalize (w.alloc (.cells #[.int .i64 4, .int .i64 s, .int .i64 l, .int .i64 hh, .int .i64 t, .slice fA ps.length fc] 24)).alloc (.cells #[.int .u64 0, .slice none 0 0, .slice none 0 0] 29) = W at *
  generalize hq : w.heap.size = q at *
  have HQ := Lib.hid hq
  have KS := Lib.hid ks
  clear hq ks
  have hm : decide ((1099511627776 : Int) ≤ (st : Int)) = false := decide_eq_false (by omega)
  go_quiet (fail)

  clear hm
  go_upto_region 7 with (fail)
  have hF : Fr w ((W.drewN nq).setCell ⟨p, 5, none⟩ (.int .i64 ((st : Int) + 1))) (fun j => j = p) := ((fr_of G1.out).trans ((Fr.refl W (fun j => j = p)).drewN nq) (fun _ _ h => h)).trans (fr_cell _ _ _ _) (fun _ _ h => h)
  have hFW : Fr W ((W.drewN nq).setCell ⟨p, 5, none⟩ (.int .i64 ((st : Int) + 1))) (fun j => j = p) := ((Fr.refl W (fun j => j = p)).drewN nq).trans (fr_cell _ _ _ _) (fun _ _ h => h)
  have hR2 : Rr ((W.drewN nq).setCell ⟨p, 5, none⟩ (.int .i64 ((st : Int) + 1))) p A xs.length c i e (st + 1) := Rr.set5 (w := W.drewN nq) HR1.out (st + 1)
  have k0 := K0.out.fr hFW (show ¬ q = p by omega)
  have k1 := K1.out.fr hFW (show ¬ q + 1 = p by omega)
  clear r0 r1 r2 r4 r5 r6 f5 pw
  generalize (W.drewN nq).setCell ⟨p, 5, none⟩ (.int .i64 ((st : Int) + 1)) = X at *
  have HF := Lib.hid hF
  have HR2 := Lib.hid hR2
  have K0' := Lib.hid k0
  have K1' := Lib.hid k1
  have hXs : q + 2 ≤ X.heap.size := by have := hFW.size; have := KS.out; omega
  clear hF hFW hR2 k0 k1 HR1 K0 K1 G1
  obtain ⟨a0, a1, a2, a3, a4, a5⟩ := K0'.out.six
  have hX0 : Fr X X (fun j => j = p) := Fr.refl _ _
  obtain ⟨r0, r1, r2, r4, r5, r6⟩ := HR2.out.cells
  have pw : IntKind.i64.wrap ((e : Int) - i) = (N : Int) := by rw [show (e : Int) - i = N from by omega]; exact IntWalk.i64_in _ (by have := PRE.out.hc; have := PRE.out.he; omega)
  have w1 : ¬ ((N : Int) < l) := by omega
  have w2 : ¬ (hh < (N : Int)) := by omega
  clear hX0
  go_upto_region 16 with (fail)
  go_quiet (fail)
  have hFY := HF.out.drewN nq
  have hTY : Rr (X.drewN nq) p A xs.length c i e (st + 1) := HR2.out
  have k1 : Whole (X.drewN nq) (q + 1) _ _ := K1'.out
  have k0 : Whole (X.drewN nq) q _ _ := K0'.out
  have hYs : q + 2 ≤ (X.drewN nq).heap.size := hXs
  clear r0 r1 r2 r4 r5 r6 pw a0 a1 a2 a3 a4 a5
  generalize X.drewN nq = Y at *
  obtain ⟨a0, a1, a2, a3, a4, a5⟩ := k0.six
  have HFY := Lib.hid hFY
  have HTY := Lib.hid hTY
  have K1Y := Lib.hid k1
  clear hFY hTY k1 k0 HF HR2 K0' K1'
  go_upto_region 21 with (fail)
  have ga := grew_alloc (grew_refl Y none) (.cells #[] 5)
  have hT2 : Rr (Y.alloc (.cells #[] 5)) p A xs.length c i e (st + 1) := Whole.grew HTY.out ga (by simp)
  have HT := Lib.hid (rr_take _ p A xs.length c i e (st + 1) N hT2 (by omega) PRE.out.he PRE.out.hn (by have := PRE.out.hc; omega))
  have HO := Lib.hid (own_nil0 Y)
  have GA := Lib.hid ga
  clear ga hT2 a0 a1 a2 a3 a4 a5
  go_wp2_with fail
  generalize Y.alloc (.cells #[] 5) = Y2 at *
  generalize hz : Y.heap.size = z at *
  have HZ := Lib.hid hz
  clear hz
  refine HT.out.mono ?_
  rintro r Y3 ⟨rfl, t3, f3⟩
  have hF3 := (HFY.out.trans (fr_of GA.out (F := fun j => j = p)) (fun _ _ h => h)).trans f3 (fun _ _ h => h)
  have hb3 : Byt Y3 w0.heap.size (cutAt A c i) v.bs := by
    have h' : Byt Y3 w0.heap.size A xs := ((PRE.out.by'.grew PRE.out.g (fun _ h => by cases h)).byf).fr hF3 (fun j hj e => by have := PRE.out.lo; omega)
    have hd := (h'.drop (k := i) PRE.out.hn).take N
    rw [hb] at hd
    exact hd
  have ho3 := own_fr HO.out f3 (fun g hg e => by simp [Value.ownBlock] at hg; have := HZ.out; omega)
  have k13 := (K1Y.out.grew GA.out (by simp)).fr f3 (show ¬ q + 1 = p by omega)
  have hs3 : q + 2 ≤ Y3.heap.size ∧ z < Y3.heap.size := by have := f3.size; have := GA.out.size; have := own_lt HO.out z rfl; have := HZ.out; omega
  have HA := Lib.hid (fun ty => append_bytes (P := Try.prog) Y3 26 ty 5 Try.underlying26 info_u8 ho3 hb3.byf (c - i) (by have := PRE.out.hc; have := PRE.out.he; omega))
  rw [hbl] at HA
  have HF3 := Lib.hid hF3
  have HT3 := Lib.hid t3
  have K13 := Lib.hid k13
  clear hF3 hb3 ho3 t3 f3 k13 HT HO GA
  go_wp2_with (at_builtin; refine wpList_append_run _ rfl (.tmp 104) (.tmp 107) 26 rfl rfl rfl (fun ty => HA.out ty) ?_; intro V Y4 hApp; obtain ⟨A4, d4, hV4, _⟩ := own_form hApp.1; subst hV4; have k14 := K13.out.fr (Fr.of_grew' (F := fun i => i = z) hApp.2.1 (fun i hi => by simp [Value.ownBlock] at hi; omega)) (show ¬ q + 1 = z by have := HZ.out; omega); obtain ⟨z0, z1, z2⟩ := k14.three; have fz := k14.frozen; have K14 := Lib.hid k14; have HAP := Lib.hid hApp; clear k14 hApp)
  have e0 : 0 + N = v.bs.length := by omega
  refine bodyPost_ret (results_cell_row rfl _ _ (q + 1) _ _ _ _ rfl (K14.out.put3 (.int .u64 0) (.slice A4 N d4) (.slice none 0 0)) Try.underlying29 rfl (by kernel_rfl)) rfl ?_
  have hf4 : Fr Y3 Y4 (fun i => i = z) := Fr.of_grew' HAP.out.2.1 (fun i hi => by simp [Value.ownBlock] at hi; omega)
  have hzp : ¬ p = z := by have := HZ.out; omega
  have hown := HAP.out.1
  rw [List.nil_append, e0] at hown
  obtain ⟨A5, c5, e5, hle5, hb5⟩ := byt_of_own hown
  have hA5 : A4 = A5 ∧ d4 = c5 := by simpa using e5
  obtain ⟨rfl, rfl⟩ := hA5
  clear e0
  subst hbl
  have hhi : ∀ a, A4 = some a → q + 2 ≤ a.block := fun a ha => by
    subst ha
    have := HAP.out.2.2
    simp [Value.ownBlock] at this
    have := HZ.out
    omega
  have hfw : Fr w Y4 (fun j => j = p) := HF3.out.trans hf4 (fun j hj e => by have := HZ.out; have := HQ.out; omega)
  exact got6_close (u := .mk 0 A4 d4 v.bs none 0 []) (k := q + 2) hfw (by have := HQ.out; omega) (by have := HQ.out; omega) (by omega) (by have := HQ.out; omega) K14.out (by rw [hcn]; exact Whole.fr HT3.out hf4 hzp) ⟨.mk (by omega) hb5 ⟨hle5, by have := PRE.out.hc; have := PRE.out.he; omega⟩ (by simp) (by simp) (Va.Lie.nil _ _) (fun p hp => by simp at hp), .mk hhi (fun _ h => by cases h) (fun p hp => by simp at hp), .mk (fun h => by simp at h) (fun p hp => by simp at hp)⟩ (by rw [hnf]; rfl)

end Go.Proofs.Ytibbeodcheefaaa


/- The document's reader, of bytes that are right: rows. -/
namespace Go.Proofs.Ytibbeodcheefaaa
open Go.RowKit Va

theorem Pl.fr2 {w w' : World} {F : Nat → Prop} {u : Va} (h : Pl w u) (g : Fr w w' F) (ho : Va.Offn F u) : Pl w' u := by
  induction h with
  | mk ha _ ih =>
    cases ho with
    | mk h1 h2 h3 =>
      exact .mk (fun hl => by
        obtain ⟨b, o, cs, t, e, hh⟩ := ha hl
        exact ⟨b, o, cs, t, e, (g.block b (Array.getElem?_eq_some_iff.1 hh).1 (h2 hl _ e)).trans hh⟩) (fun p hp => ih p hp (h3 p hp))
theorem grew_of_fr {w w' : World} {F : Nat → Prop} (g : Fr w w' F) (hF : ∀ i, F i → w.heap.size ≤ i) : Grew w w' none :=
  ⟨g.os, g.tape, g.output, g.size, fun k hk _ => g.block k hk (fun h => by have := hF k h; omega)⟩
theorem Pre6.fr {w0 w w' : World} {p : Nat} {A : Option Addr} {xs : List UInt8} {c i e st i' e' st' : Nat} {F : Nat → Prop} (h : Pre6 w0 w p A xs c i e st) (g : Fr w w' F) (hF : ∀ k, F k → w0.heap.size ≤ k) (hr : Rr w' p A xs.length c i' e' st') (hi : i' ≤ e') (he : e' ≤ xs.length) : Pre6 w0 w' p A xs c i' e' st' :=
  ⟨grew_fr h.g g hF, h.lo, hr, h.by', h.hn, h.hc, hi, he⟩
section
variable {ρ : Operand → Value} {o : Oper}
theorem run_vbuild1 {x : Operand} {f : Va} (ho : o.op = .buildSlice 27 1 #[(0, x)]) (hx : ρ x = f.val) (w : World) :
    (execOp ρ o).run Try.prog w = .ok (.value (.slice (some ⟨w.heap.size, 0, none⟩) 1 1)) (w.alloc (.cells (flat [f]).toArray 29)) := by
  simp [execOp, ho, hx, go_sem, Va.val, Va.cells, flat]
theorem run_storeL {x y : Operand} {b i : Nat} {A : Option Addr} {n c : Nat} {cs : Array Value} {t : TypeId} (ho : o.op = .store 27 x y) (hx : ρ x = .pointer (some ⟨b, i, none⟩)) (hy : ρ y = .slice A n c) {w : World} {u : Value} (h : Whole w b cs t) (hi : cs[i]? = some u) :
    (execOp ρ o).run Try.prog w = .ok .skip (w.setCell ⟨b, i, none⟩ (.slice A n c)) := by
  have hc := (h.cell i).trans hi
  have hz := h.frozen i
  simp [execOp, ho, hx, hy, go_sem, hc, hz]
end
section
variable {ops : Array Oper} {o : Oper} {a : Act} {w : World} {K : Act → World → Prop} {Q : Exit → Act → World → Prop}
theorem wp_vbuild1 (hw : Region.wanted o (yielded ops a.tmps) = true) {x : Operand} {f : Va} (ho : o.op = .buildSlice 27 1 #[(0, x)]) (hx : a.eval x = f.val)
    (h : ∀ q W', Va.Lie W' (some ⟨q, 0, none⟩) [f] → Grew w W' none → K (a.put o.dst (.slice (some ⟨q, 0, none⟩) 1 1)) W') :
    if Region.wanted o (yielded ops a.tmps) = true then Oper.wp Try.prog o a w K Q else K (a.put o.dst undef) w :=
  wp_runG hw (run_vbuild1 ho hx w) (h _ _ (Va.Lie.whole (Whole.new w _ _) (by simp)) (grew_alloc (grew_refl _ none) _))
theorem wp_appV {x y : Operand} (ho : o.op = .call { callee := .builtin .append, args := #[x, y], argTypes := #[27, 27] }) (hgd : o.guard = none) {V : Value} {n : Nat} {xs : List Va} (hown : w.ownsRow 0 29 3 V n (flat xs)) (hx : a.eval x = V) {A : Option Addr} {ys : List Va} (hb : Va.Lie w A ys) (c : Nat) (hy : a.eval y = .slice A ys.length c) (hm : n + ys.length ≤ 2513169434916)
    (h : ∀ V' W', AppLeft w 29 3 V (n + ys.length) (flat (xs ++ ys)) V' W' → K (a.put o.dst V') W') :
    if Region.wanted o (yielded ops a.tmps) = true then Oper.wp Try.prog o a w K Q else K (a.put o.dst undef) w :=
  step_append_run w hgd x y 27 ho hx hy (fun ty => append_values w ty hown hb c hm) h
end
theorem enter_rform : ∀ args w, (callFunc 30 args).run Try.prog w = .ok (.enter 30 args) w := fun _ _ => by kernel_rfl

/-- The list so far: what holds of it. -/
structure Bld (w wr : World) (p z : Nat) (A : Option Addr) (n c i e st : Nat) (fcs : Array Value) (o : Nat → Nat) (ls : List Va) (j : Nat) (V : Value) (us : List Va) : Prop where
  fr : Fr w wr (fun k => k = p)
  rr : Rr wr p A n c (i + o j) e (st + cnts (ls.take j))
  k0 : Whole wr w.heap.size fcs 24
  k1 : Whole wr (w.heap.size + 1) #[.int .u64 0, .slice none 0 0, .slice none 0 0] 29
  k2 : Whole wr z #[.int .u64 0, .slice none 0 0, V] 29
  own : wr.ownsRow 0 29 3 V us.length (flat us)
  hi : ∀ b, V.ownBlock = some b → z < b
  ins : ∀ u ∈ us, u.In wr ∧ u.Hi (z + 1) ∧ u.Offn (fun i => V.ownBlock = some i) ∧ Pl wr u
  nf : nfs us = nfs (ls.take j)
  len : us.length = j
  hz : w.heap.size + 2 ≤ z
  hp : p < w.heap.size

theorem Bld.step {w wr X X1 Y : World} {p z : Nat} {A : Option Addr} {n c i e st zz : Nat} {fcs : Array Value} {o : Nat → Nat} {ls : List Va} {j : Nat} {V V' : Value} {us : List Va} {u u' : Va} (h : Bld w wr p z A n c i e st fcs o ls j V us) (hX : Fr wr X (fun k => k = p)) (hu : Nv X wr.heap.size u') (hn : u'.nf = u.nf) (hj : ls[j]? = some u) (hR : Rr X p A n c (i + o j + zz) e (st + cnts (ls.take j) + u.cnt)) (hz : o (j + 1) = o j + zz) (hG : Grew X X1 none) (hA : AppLeft X1 29 3 V (us.length + [u'].length) (flat (us ++ [u'])) V' Y) :
    Bld w (Y.setCell ⟨z, 2, none⟩ V') p z A n c i e st fcs o ls (j + 1) V' (us ++ [u']) := by
  obtain ⟨a1, a2, a3⟩ := hA
  have hzl := h.k2.lt
  have hzq := h.hz
  have hpq := h.hp
  have hvo : ∀ b, V.ownBlock = some b → z < b ∧ b < wr.heap.size := fun b hb => ⟨h.hi b hb, own_lt h.own b hb⟩
  have hs1 := hX.size
  have hs2 := hG.size
  have hXY : Fr X Y (fun i => V.ownBlock = some i) := (fr_of hG).trans (Fr.of_grew' (F := fun i => V.ownBlock = some i) a2 (fun i e => e)) (fun _ _ e => e)
  have hY : Fr Y (Y.setCell ⟨z, 2, none⟩ V') (fun i => i = z) := fr_cell _ _ _ _
  have hvo' : ∀ b, V'.ownBlock = some b → z < b := fun b hb => by
    rcases a3 with e | e
    · rw [e] at hb; exact (hvo b hb).1
    · rw [e] at hb; cases hb; omega
  have hXZ : Fr X (Y.setCell ⟨z, 2, none⟩ V') (fun i => V.ownBlock = some i ∨ i = z) := (hXY.mono (fun i _ e => .inl e)).trans hY (fun i _ e => .inr e)
  refine ⟨(h.fr.trans hX (fun _ _ e => e)).trans hXZ (fun i hi e => ?_), ?_, ?_, ?_, ?_, ?_, hvo', ?_, ?_, ?_, hzq, hpq⟩
  · rcases e with e | e
    · have := hvo i e; omega
    · omega
  · have e1 : i + o (j + 1) = i + o j + zz := by omega
    have e2 : st + cnts (ls.take (j + 1)) = st + cnts (ls.take j) + u.cnt := by rw [cnts_take hj]; omega
    rw [e1, e2]
    exact Whole.fr hR hXZ (fun e => by
      rcases e with e | e
      · have := hvo p e; omega
      · omega)
  · exact (h.k0.fr hX (by omega)).fr hXZ (fun e => by
      rcases e with e | e
      · have := hvo _ e; omega
      · omega)
  · exact (h.k1.fr hX (by omega)).fr hXZ (fun e => by
      rcases e with e | e
      · have := hvo _ e; omega
      · omega)
  · exact ((h.k2.fr hX (by omega)).fr hXY (fun e => by have := hvo _ e; omega)).set 2 V'
  · rw [List.length_append]
    exact own_fr a1 hY (fun k hk e => by have := hvo' k hk; omega)
  · intro x hx
    have key : x.In X ∧ x.Hi (z + 1) ∧ x.Offn (fun i => V.ownBlock = some i) ∧ Pl X x := by
      rcases List.mem_append.1 hx with hx | hx
      · obtain ⟨k1, k2, k3, k4⟩ := h.ins x hx
        exact ⟨k1.fr hX k2 (fun i e => by omega), k2, k3, k4.fr hX k2 (fun i e => by omega)⟩
      · rw [List.mem_singleton] at hx
        subst hx
        exact ⟨hu.1, hu.2.1.mono (by omega), hu.2.1.offn (fun i e => (hvo i e).2), hu.2.2⟩
    obtain ⟨k1, k2, k3, k4⟩ := key
    refine ⟨(k1.fr2 hXY k3).fr hY k2 (fun i e => by omega), k2, ?_, (k4.fr2 hXY k3).fr hY k2 (fun i e => by omega)⟩
    rcases a3 with e | e
    · rw [e]; exact k3
    · rw [e]
      exact (k1.grew hG).offn (fun i e => by cases e; exact Nat.le_refl _)
  · rw [nfs_append, take_succ' hj, nfs_append, h.nf, nfs, nfs, hn]
    rfl
  · rw [List.length_append, h.len]; rfl
/-- The list is whole. -/
theorem Bld.done {w wr : World} {p z : Nat} {A : Option Addr} {n c i e st : Nat} {fcs : Array Value} {o : Nat → Nat} {ls : List Va} {V : Value} {us : List Va} (h : Bld w wr p z A n c i e st fcs o ls ls.length V us) (hls : ls.length ≤ 1000000) : ∃ A' c', V = .slice A' us.length c' ∧ Nv wr (z + 1) (.mk 0 none 0 [] A' c' us) ∧ nfs us = nfs ls := by
  obtain ⟨A', c', hV, hc, hl⟩ := Va.Lie.of_own h.own
  have ho := h.own.2
  have hlen : us.length ≤ 2513169434916 := by have := h.len; omega
  refine ⟨A', c', hV, ⟨.mk (by omega) (fun h => by simp at h) (by simp) hc hlen hl (fun u hu => (h.ins u hu).1), .mk (fun _ h => by cases h) (fun a ha => ?_) (fun u hu => (h.ins u hu).2.1), .mk (fun h0 => ?_) (fun u hu => (h.ins u hu).2.2.2)⟩, by rw [h.nf, List.take_length]⟩
  · subst ha
    have := h.hi a.block (by rw [hV]; rfl)
    omega
  · rcases ho with ⟨_, h0'⟩ | ⟨g, cap, cur, hv, _, hg, _⟩
    · have : 0 < us.length := h0
      omega
    · rw [hV] at hv
      simp at hv
      exact ⟨g, 0, cur, _, hv.1, hg⟩

theorem Bld.drewN {w wr : World} {p z : Nat} {A : Option Addr} {n c i e st : Nat} {fcs : Array Value} {o : Nat → Nat} {ls : List Va} {j : Nat} {V : Value} {us : List Va} (h : Bld w wr p z A n c i e st fcs o ls j V us) (m : Nat) : Bld w (wr.drewN m) p z A n c i e st fcs o ls j V us :=
  have g : Fr wr (wr.drewN m) (fun _ => False) := (Fr.refl _ _).drewN m
  ⟨h.fr.drewN m, h.rr, h.k0, h.k1, h.k2, own_fr h.own g (fun _ _ h => h), h.hi, fun u hu => by
    obtain ⟨k1, k2, k3, k4⟩ := h.ins u hu
    exact ⟨k1.fr2 g (k3.mono (fun _ h => h.elim)), k2, k3, k4.fr2 g (k3.mono (fun _ h => h.elim))⟩, h.nf, h.len, h.hz, h.hp⟩
/-- Each of the list's values is read where it stands. -/
def Elem6 (w0 : World) (p : Nat) (A : Option Addr) (xs : List UInt8) (c i e st : Nat) (o : Nat → Nat) (g : Nat → Fo) (ls : List Va) : Prop :=
  ∀ j u, ls[j]? = some u → ∀ W, Pre6 w0 W p A xs c (i + o j) e (st + cnts (ls.take j)) → ∃ zz, o (j + 1) = o j + zz ∧ Calls Try.prog 30 #[.pointer (some ⟨p, 0, none⟩), (g j).val] W (Got6 W p A xs.length c (i + o j) e (st + cnts (ls.take j)) zz u)


set_option maxRecDepth 100000 in
set_option maxHeartbeats 4000000 in
theorem rf_3 (w0 w : World) (p : Nat) (A : Option Addr) (xs : List UInt8) (c i e st : Nat) (hpre : Pre6 w0 w p A xs c i e st) (v : Va) (s l hh t : Int) (fA : Option Addr) (fc : Nat) (ps : List Fo) (hin : Fo.In w0 (.mk 3 s l hh t fA fc ps)) (hnf : v.nf = .mk 0 none 0 [] none 0 (nfs v.ls)) (hcn : v.cnt = cnts v.ls + 1) (hll : v.ls.length ≤ 1000000) (o : Nat → Nat) (g : Nat → Fo) (hg : v.ls.length = ps.length ∧ ∀ j pf, ps[j]? = some pf → g j = pf) (ho : o 0 = 0 ∧ ∀ j, j ≤ v.ls.length → i + o j ≤ e) (hel : Elem6 w0 p A xs c i e (st + 1) o g v.ls) (hst : st + v.cnt ≤ 1000000) :
    Calls Try.prog 30 #[.pointer (some ⟨p, 0, none⟩), .agg #[.int .i64 3, .int .i64 s, .int .i64 l, .int .i64 hh, .int .i64 t, .slice fA ps.length fc]] w (Got6 w p A xs.length c i e st (o v.ls.length) v) := by
  have HIN := Lib.hid hin
  have HEL := Lib.hid hel
  have HG := Lib.hid hg
  have HLL := Lib.hid hll
  have HO := Lib.hid ho
  clear hin hel hg hll ho
  obtain ⟨g1, k0, k1, ks⟩ := two_new w #[.int .i64 3, .int .i64 s, .int .i64 l, .int .i64 hh, .int .i64 t, .slice fA ps.length fc] 24 #[.int .u64 0, .slice none 0 0, .slice none 0 0] 29
  have hp := Whole.lt hpre.rr
  have hR1 : Rr ((w.alloc (.cells #[.int .i64 3, .int .i64 s, .int .i64 l, .int .i64 hh, .int .i64 t, .slice fA ps.length fc] 24)).alloc (.cells #[.int .u64 0, .slice none 0 0, .slice none 0 0] 29)) p A xs.length c i e st := Whole.grew hpre.rr g1 (by simp)
  have G1 := Lib.hid g1
  have K0 := Lib.hid k0
  have K1 := Lib.hid k1
  have HR1 := Lib.hid hR1
  have PRE := Lib.hid hpre
  have hst' : st ≤ 1000000 := by omega
  obtain ⟨r0, r1, r2, r4, r5, r6⟩ := hR1.cells
  have f5 := Whole.frozen hR1 5
  clear g1 k0 k1 hR1 hpre
  have pw : IntKind.i64.wrap ((st : Int) + 1) = (st : Int) + 1 := IntWalk.i64_in _ (by omega)
  go_enter Try.func30, Try.ntmps30
  go_upto_region 3 with (fail)
  generalize (w.alloc (.cells #[.int .i64 3, .int .i64 s, .int .i64 l, .int .i64 hh, .int .i64 t, .slice fA ps.length fc] 24)).alloc (.cells #[.int .u64 0, .slice none 0 0, .slice none 0 0] 29) = W at *
  generalize hq : w.heap.size = q at *
  have HQ := Lib.hid hq
  have KS := Lib.hid ks
  clear hq ks
  have hm : decide ((1099511627776 : Int) ≤ (st : Int)) = false := decide_eq_false (by omega)
  go_quiet (fail)

  clear hm
  go_upto_region 7 with (fail)
  have hF : Fr w ((W.drewN nq).setCell ⟨p, 5, none⟩ (.int .i64 ((st : Int) + 1))) (fun j => j = p) := ((fr_of G1.out).trans ((Fr.refl W (fun j => j = p)).drewN nq) (fun _ _ h => h)).trans (fr_cell _ _ _ _) (fun _ _ h => h)
  have hFW : Fr W ((W.drewN nq).setCell ⟨p, 5, none⟩ (.int .i64 ((st : Int) + 1))) (fun j => j = p) := ((Fr.refl W (fun j => j = p)).drewN nq).trans (fr_cell _ _ _ _) (fun _ _ h => h)
  have hR2 : Rr ((W.drewN nq).setCell ⟨p, 5, none⟩ (.int .i64 ((st : Int) + 1))) p A xs.length c i e (st + 1) := Rr.set5 (w := W.drewN nq) HR1.out (st + 1)
  have k0 := K0.out.fr hFW (show ¬ q = p by omega)
  have k1 := K1.out.fr hFW (show ¬ q + 1 = p by omega)
  clear r0 r1 r2 r4 r5 r6 f5 pw
  generalize (W.drewN nq).setCell ⟨p, 5, none⟩ (.int .i64 ((st : Int) + 1)) = X at *
  have HF := Lib.hid hF
  have HR2 := Lib.hid hR2
  have K0' := Lib.hid k0
  have K1' := Lib.hid k1
  have hXs : q + 2 ≤ X.heap.size := by have := hFW.size; have := KS.out; omega
  clear hF hFW hR2 k0 k1 HR1 K0 K1 G1
  obtain ⟨a0, a1, a2, a3, a4, a5⟩ := K0'.out.six

  go_upto_region 22 with (fail)
  have ga := grew_alloc (grew_refl X none) (.cells #[.int .u64 0, .slice none 0 0, .slice none 0 0] 29)
  have kz := Whole.new X #[.int .u64 0, .slice none 0 0, .slice none 0 0] 29
  have k0 := K0'.out.grew ga (by simp)
  have k1 := K1'.out.grew ga (by simp)
  have r2 : Rr (X.alloc (.cells #[.int .u64 0, .slice none 0 0, .slice none 0 0] 29)) p A xs.length c i e (st + 1) := Whole.grew HR2.out ga (by simp)
  have fz := kz.frozen
  obtain ⟨y0, y1, y2⟩ := kz.three
  have G2 := Lib.hid ga
  clear a0 a1 a2 a3 a4 a5
  obtain ⟨a0, a1, a2, a3, a4, a5⟩ := k0.six
  have KZ := Lib.hid kz
  have K0 := Lib.hid k0
  have K1 := Lib.hid k1
  have R2 := Lib.hid r2
  clear ga kz k0 k1 r2 K0' K1' HR2
  go_upto_region 25 with (fail)
  generalize X.alloc (.cells #[.int .u64 0, .slice none 0 0, .slice none 0 0] 29) = X0 at *
  generalize hz : X.heap.size = z at *
  have hF0 := (HF.out.trans (fr_of G2.out (F := fun j => j = p)) (fun _ _ h => h))
  have hF1 := hF0
  have kz := KZ.out
  have k0 := K0.out
  have k1 := K1.out
  have r2 := R2.out
  clear hF0 KZ K0 K1 R2 y0 y1 y2 fz a0 a1 a2 a3 a4 a5 HF G2
  generalize X0 = X1 at *
  have HB := Lib.hid (show Bld w X1 p z A xs.length c i e (st + 1) #[.int .i64 3, .int .i64 s, .int .i64 l, .int .i64 hh, .int .i64 t, .slice fA ps.length fc] o v.ls 0 (.slice none 0 0) [] from
    ⟨hF1, by rw [HO.out.1]; exact r2, by rw [HQ.out]; exact k0, by rw [HQ.out]; exact k1, kz, ⟨rfl, .inl ⟨rfl, rfl⟩⟩, fun b hb => (by cases hb), fun u hu => (by simp at hu), rfl, rfl, by rw [HQ.out]; exact hXs, by rw [HQ.out]; exact hp⟩)
  clear hF1 kz k0 k1 r2
  have HZP := Lib.hid (show p < q ∧ q + 2 ≤ z from ⟨hp, hXs⟩)
  go_loopg [8] (v.ls.length) (fun gi x wr => ∃ (j : Nat) (V : Value) (us : List Va), x = .int .i64 j ∧ j ≤ v.ls.length ∧ gi = v.ls.length - j ∧ Hid (Bld w wr p z A xs.length c i e (st + 1) #[.int .i64 3, .int .i64 s, .int .i64 l, .int .i64 hh, .int .i64 t, .slice fA ps.length fc] o v.ls j V us))
  case atStart => exact ⟨0, _, [], rfl, Nat.zero_le _, rfl, HB⟩
  case round =>
    obtain ⟨j, V, us, rfl, hj, hgi, R⟩ := hrel
    have HGI := Lib.hid hgi
    clear hgi
    have hk0 := R.out.k0
    have hk1 := R.out.k1
    rw [HQ.out] at hk0 hk1
    have K0 := Lib.hid hk0
    have K1 := Lib.hid hk1
    obtain ⟨b0, b1, b2, b3, b4, b5⟩ := hk0.six
    obtain ⟨m0, m1, m2⟩ := R.out.k2.three
    clear hk0 hk1
    have hll : (ps.length : Int) = v.ls.length := by rw [HG.out.1]
    by_cases hlt : j < v.ls.length
    · have hlt' : j < ps.length := HG.out.1 ▸ hlt
      clear hll
      go_upto_region 27 with (fail)
      obtain ⟨bf, of, pf, hA, hpf, hpm, hpi, d0, d1, d2, d3, d4, d5⟩ := HIN.out.at (i := j) (hlt')
      subst hA
      obtain ⟨u, hu⟩ : ∃ u, v.ls[j]? = some u := ⟨_, List.getElem?_eq_getElem hlt⟩
      have hbf : bf < w0.heap.size := by have := World.block_lt_of_cell? _ _ d0; exact this
      have hg0 : Grew w0 wr none := grew_fr PRE.out.g R.out.fr (fun k e => by have := PRE.out.lo; omega)
      have hoj : i + o j ≤ e := HO.out.2 j hj
      obtain ⟨zz, hzz, hcv⟩ := HEL.out j u hu (World.drew wr) (PRE.out.fr (F := fun k => k = p) (R.out.fr.drew) (fun k e => by have := PRE.out.lo; omega) R.out.rr (by omega) (by have := PRE.out.he; omega))
      rw [HG.out.2 j pf hpf] at hcv
      have HCV := Lib.hid hcv
      have HZZ := Lib.hid hzz
      have d0' := hg0.cell d0 (by simp)
      have d1' := hg0.cell d1 (by simp)
      have d2' := hg0.cell d2 (by simp)
      have d3' := hg0.cell d3 (by simp)
      have d4' := hg0.cell d4 (by simp)
      have d5' := hg0.cell d5 (by simp)
      have n1 : ¬ (q = p ∨ V.ownBlock = some q ∨ q = z) := fun e => by
        have := HZP.out
        rcases e with e | e | e
        · omega
        · have := R.out.hi _ e; omega
        · omega
      have n2 : ¬ (bf = p ∨ V.ownBlock = some bf ∨ bf = z) := fun e => by
        have := HZP.out
        have := PRE.out.lo
        rcases e with e | e | e
        · omega
        · have := R.out.hi _ e; omega
        · omega
      have HN := Lib.hid (show _ ∧ _ from ⟨n1, n2⟩)
      have HU := Lib.hid hu
      have K2 := Lib.hid (show _ ∧ _ from ⟨m2, m1⟩)
      clear hcv hzz hpm hpi hpf d0 d1 d2 d3 d4 d5 hbf hg0 hoj n1 n2 hu b0 b1 b2 b3 b4 m0 m1 m2
      have GS := Lib.hid (show (fun w' => Fr wr w' (fun i => i = p ∨ V.ownBlock = some i ∨ i = z)) (World.drew wr) from (Fr.refl _ _).drew)
      refine act_letterC (fun A1 hA1 => ?_)
      have d0 : A1.eval (.tmp 0) = .pointer (some ⟨p, 0, none⟩) := by rw [← hA1]; rfl
      have d3 : A1.eval (.tmp 3) = .pointer (some ⟨q, 0, none⟩) := by rw [← hA1]; rfl
      have d7 : A1.eval (.tmp 7) = .pointer (some ⟨z, 0, none⟩) := by rw [← hA1]; rfl
      have d8 : A1.eval (.tmp 8) = .int .i64 (j : Int) := by rw [← hA1]; rfl
      have szA1 : A1.tmps.size = 188 := by rw [← hA1]; rfl
      have HA1 := Lib.hid hA1
      clear hA1
      refine wp_region_held (S := fun w' => Fr wr w' (fun i => i = p ∨ V.ownBlock = some i ∨ i = z)) (by kernel_rfl) ?_
      change wpAnyH _ _ _ _ _ _ _ _ (World.drew wr)
      refine wpAnyH_take (i := 0) (v := .pointer (some ⟨z, 2, none⟩)) rfl (by kernel_rfl) (by kernel_rfl) (by kernel_rfl) (fun _ _ _ h => h) (.inl ⟨rfl, fun w g => run_fv2 rfl d7 w⟩) GS.out ?_
      refine act_letter (fun A2 hA2 => ?_)
      replace d0 : A2.eval (.tmp 0) = .pointer (some ⟨p, 0, none⟩) := by rw [← hA2]; exact (ev_ne A1 (m := 121) (n := 0) (.pointer (some ⟨z, 2, none⟩)) (by decide)).trans d0
      replace d3 : A2.eval (.tmp 3) = .pointer (some ⟨q, 0, none⟩) := by rw [← hA2]; exact (ev_ne A1 (m := 121) (n := 3) (.pointer (some ⟨z, 2, none⟩)) (by decide)).trans d3
      replace d7 : A2.eval (.tmp 7) = .pointer (some ⟨z, 0, none⟩) := by rw [← hA2]; exact (ev_ne A1 (m := 121) (n := 7) (.pointer (some ⟨z, 2, none⟩)) (by decide)).trans d7
      replace d8 : A2.eval (.tmp 8) = .int .i64 (j : Int) := by rw [← hA2]; exact (ev_ne A1 (m := 121) (n := 8) (.pointer (some ⟨z, 2, none⟩)) (by decide)).trans d8
      have e121 : A2.eval (.tmp 121) = .pointer (some ⟨z, 2, none⟩) := by rw [← hA2]; exact ev_self A1 121 (.pointer (some ⟨z, 2, none⟩)) (by omega)
      have szA2 : A2.tmps.size = 188 := by rw [← hA2]; exact (sz_put A1 121 (.pointer (some ⟨z, 2, none⟩))).trans szA1
      have HA2 := Lib.hid (show A1.put (some 121) (.pointer (some ⟨z, 2, none⟩)) = A2 from hA2)
      clear hA2 szA1
      have d121 := e121
      clear e121
      refine wpAnyH_take (i := 2) (v := .pointer (some ⟨p, 0, none⟩)) rfl (by kernel_rfl) (by kernel_rfl) (by kernel_rfl) (fun _ _ _ h => h) (.inl ⟨rfl, fun w g => run_moveV rfl d0 w⟩) GS.out ?_
      refine act_letter (fun A3 hA3 => ?_)
      replace d3 : A3.eval (.tmp 3) = .pointer (some ⟨q, 0, none⟩) := by rw [← hA3]; exact (ev_ne A2 (m := 123) (n := 3) (.pointer (some ⟨p, 0, none⟩)) (by decide)).trans d3
      replace d7 : A3.eval (.tmp 7) = .pointer (some ⟨z, 0, none⟩) := by rw [← hA3]; exact (ev_ne A2 (m := 123) (n := 7) (.pointer (some ⟨p, 0, none⟩)) (by decide)).trans d7
      replace d8 : A3.eval (.tmp 8) = .int .i64 (j : Int) := by rw [← hA3]; exact (ev_ne A2 (m := 123) (n := 8) (.pointer (some ⟨p, 0, none⟩)) (by decide)).trans d8
      replace d121 : A3.eval (.tmp 121) = .pointer (some ⟨z, 2, none⟩) := by rw [← hA3]; exact (ev_ne A2 (m := 123) (n := 121) (.pointer (some ⟨p, 0, none⟩)) (by decide)).trans d121
      have e123 : A3.eval (.tmp 123) = .pointer (some ⟨p, 0, none⟩) := by rw [← hA3]; exact ev_self A2 123 (.pointer (some ⟨p, 0, none⟩)) (by omega)
      have szA3 : A3.tmps.size = 188 := by rw [← hA3]; exact (sz_put A2 123 (.pointer (some ⟨p, 0, none⟩))).trans szA2
      have HA3 := Lib.hid (show A2.put (some 123) (.pointer (some ⟨p, 0, none⟩)) = A3 from hA3)
      clear hA3 szA2 d0
      have d123 := e123
      clear e123
      refine wpAnyH_take (i := 3) (v := .pointer (some ⟨q, 5, none⟩)) rfl (by kernel_rfl) (by kernel_rfl) (by kernel_rfl) (fun _ _ _ h => h) (.inl ⟨rfl, fun w g => run_ff5 rfl d3 w⟩) GS.out ?_
      refine act_letter (fun A4 hA4 => ?_)
      replace d7 : A4.eval (.tmp 7) = .pointer (some ⟨z, 0, none⟩) := by rw [← hA4]; exact (ev_ne A3 (m := 124) (n := 7) (.pointer (some ⟨q, 5, none⟩)) (by decide)).trans d7
      replace d8 : A4.eval (.tmp 8) = .int .i64 (j : Int) := by rw [← hA4]; exact (ev_ne A3 (m := 124) (n := 8) (.pointer (some ⟨q, 5, none⟩)) (by decide)).trans d8
      replace d121 : A4.eval (.tmp 121) = .pointer (some ⟨z, 2, none⟩) := by rw [← hA4]; exact (ev_ne A3 (m := 124) (n := 121) (.pointer (some ⟨q, 5, none⟩)) (by decide)).trans d121
      replace d123 : A4.eval (.tmp 123) = .pointer (some ⟨p, 0, none⟩) := by rw [← hA4]; exact (ev_ne A3 (m := 124) (n := 123) (.pointer (some ⟨q, 5, none⟩)) (by decide)).trans d123
      have e124 : A4.eval (.tmp 124) = .pointer (some ⟨q, 5, none⟩) := by rw [← hA4]; exact ev_self A3 124 (.pointer (some ⟨q, 5, none⟩)) (by omega)
      have szA4 : A4.tmps.size = 188 := by rw [← hA4]; exact (sz_put A3 124 (.pointer (some ⟨q, 5, none⟩))).trans szA3
      have HA4 := Lib.hid (show A3.put (some 124) (.pointer (some ⟨q, 5, none⟩)) = A4 from hA4)
      clear hA4 szA3 d3
      have d124 := e124
      clear e124
      refine wpAnyH_take (i := 4) (v := .slice (some ⟨bf, of, none⟩) ps.length fc) rfl (by kernel_rfl) (by kernel_rfl) (by kernel_rfl) (fun _ _ _ h => h) (.inl ⟨rfl, fun w g => run_ldFs rfl d124 (g.cell b5 HN.out.1)⟩) GS.out ?_
      refine act_letter (fun A5 hA5 => ?_)
      replace d7 : A5.eval (.tmp 7) = .pointer (some ⟨z, 0, none⟩) := by rw [← hA5]; exact (ev_ne A4 (m := 125) (n := 7) (.slice (some ⟨bf, of, none⟩) ps.length fc) (by decide)).trans d7
      replace d8 : A5.eval (.tmp 8) = .int .i64 (j : Int) := by rw [← hA5]; exact (ev_ne A4 (m := 125) (n := 8) (.slice (some ⟨bf, of, none⟩) ps.length fc) (by decide)).trans d8
      replace d121 : A5.eval (.tmp 121) = .pointer (some ⟨z, 2, none⟩) := by rw [← hA5]; exact (ev_ne A4 (m := 125) (n := 121) (.slice (some ⟨bf, of, none⟩) ps.length fc) (by decide)).trans d121
      replace d123 : A5.eval (.tmp 123) = .pointer (some ⟨p, 0, none⟩) := by rw [← hA5]; exact (ev_ne A4 (m := 125) (n := 123) (.slice (some ⟨bf, of, none⟩) ps.length fc) (by decide)).trans d123
      have e125 : A5.eval (.tmp 125) = .slice (some ⟨bf, of, none⟩) ps.length fc := by rw [← hA5]; exact ev_self A4 125 (.slice (some ⟨bf, of, none⟩) ps.length fc) (by omega)
      have szA5 : A5.tmps.size = 188 := by rw [← hA5]; exact (sz_put A4 125 (.slice (some ⟨bf, of, none⟩) ps.length fc)).trans szA4
      have HA5 := Lib.hid (show A4.put (some 125) (.slice (some ⟨bf, of, none⟩) ps.length fc) = A5 from hA5)
      clear hA5 szA4 d124
      have d125 := e125
      clear e125
      refine wpAnyH_take (i := 5) (v := .int .i64 (j : Int)) rfl (by kernel_rfl) (by kernel_rfl) (by kernel_rfl) (fun _ _ _ h => h) (.inl ⟨rfl, fun w g => run_moveV rfl d8 w⟩) GS.out ?_
      refine act_letter (fun A6 hA6 => ?_)
      replace d7 : A6.eval (.tmp 7) = .pointer (some ⟨z, 0, none⟩) := by rw [← hA6]; exact (ev_ne A5 (m := 126) (n := 7) (.int .i64 (j : Int)) (by decide)).trans d7
      replace d121 : A6.eval (.tmp 121) = .pointer (some ⟨z, 2, none⟩) := by rw [← hA6]; exact (ev_ne A5 (m := 126) (n := 121) (.int .i64 (j : Int)) (by decide)).trans d121
      replace d123 : A6.eval (.tmp 123) = .pointer (some ⟨p, 0, none⟩) := by rw [← hA6]; exact (ev_ne A5 (m := 126) (n := 123) (.int .i64 (j : Int)) (by decide)).trans d123
      replace d125 : A6.eval (.tmp 125) = .slice (some ⟨bf, of, none⟩) ps.length fc := by rw [← hA6]; exact (ev_ne A5 (m := 126) (n := 125) (.int .i64 (j : Int)) (by decide)).trans d125
      have e126 : A6.eval (.tmp 126) = .int .i64 (j : Int) := by rw [← hA6]; exact ev_self A5 126 (.int .i64 (j : Int)) (by omega)
      have szA6 : A6.tmps.size = 188 := by rw [← hA6]; exact (sz_put A5 126 (.int .i64 (j : Int))).trans szA5
      have HA6 := Lib.hid (show A5.put (some 126) (.int .i64 (j : Int)) = A6 from hA6)
      clear hA6 szA5 d8
      have d126 := e126
      clear e126
      refine wpAnyH_take (i := 6) (v := .pointer (some ⟨bf, of + j * 6, none⟩)) rfl (by kernel_rfl) (by kernel_rfl) (by kernel_rfl) (fun _ _ _ h => h) (.inl ⟨rfl, fun w g => run_idxF rfl d125 d126 hlt' w⟩) GS.out ?_
      refine act_letter (fun A7 hA7 => ?_)
      replace d7 : A7.eval (.tmp 7) = .pointer (some ⟨z, 0, none⟩) := by rw [← hA7]; exact (ev_ne A6 (m := 127) (n := 7) (.pointer (some ⟨bf, of + j * 6, none⟩)) (by decide)).trans d7
      replace d121 : A7.eval (.tmp 121) = .pointer (some ⟨z, 2, none⟩) := by rw [← hA7]; exact (ev_ne A6 (m := 127) (n := 121) (.pointer (some ⟨bf, of + j * 6, none⟩)) (by decide)).trans d121
      replace d123 : A7.eval (.tmp 123) = .pointer (some ⟨p, 0, none⟩) := by rw [← hA7]; exact (ev_ne A6 (m := 127) (n := 123) (.pointer (some ⟨bf, of + j * 6, none⟩)) (by decide)).trans d123
      have e127 : A7.eval (.tmp 127) = .pointer (some ⟨bf, of + j * 6, none⟩) := by rw [← hA7]; exact ev_self A6 127 (.pointer (some ⟨bf, of + j * 6, none⟩)) (by omega)
      have szA7 : A7.tmps.size = 188 := by rw [← hA7]; exact (sz_put A6 127 (.pointer (some ⟨bf, of + j * 6, none⟩))).trans szA6
      have HA7 := Lib.hid (show A6.put (some 127) (.pointer (some ⟨bf, of + j * 6, none⟩)) = A7 from hA7)
      clear hA7 szA6 d125 d126
      have d127 := e127
      clear e127
      refine wpAnyH_take (i := 7) (v := pf.val) rfl (by kernel_rfl) (by kernel_rfl) (by kernel_rfl) (fun _ _ _ h => h) (.inl ⟨rfl, fun w g => run_ldF rfl d127 (g.cell d0' HN.out.2) (g.cell d1' HN.out.2) (g.cell d2' HN.out.2) (g.cell d3' HN.out.2) (g.cell d4' HN.out.2) (g.cell d5' HN.out.2)⟩) GS.out ?_
      refine act_letter (fun A8 hA8 => ?_)
      replace d7 : A8.eval (.tmp 7) = .pointer (some ⟨z, 0, none⟩) := by rw [← hA8]; exact (ev_ne A7 (m := 128) (n := 7) (pf.val) (by decide)).trans d7
      replace d121 : A8.eval (.tmp 121) = .pointer (some ⟨z, 2, none⟩) := by rw [← hA8]; exact (ev_ne A7 (m := 128) (n := 121) (pf.val) (by decide)).trans d121
      replace d123 : A8.eval (.tmp 123) = .pointer (some ⟨p, 0, none⟩) := by rw [← hA8]; exact (ev_ne A7 (m := 128) (n := 123) (pf.val) (by decide)).trans d123
      have e128 : A8.eval (.tmp 128) = pf.val := by rw [← hA8]; exact ev_self A7 128 (pf.val) (by omega)
      have szA8 : A8.tmps.size = 188 := by rw [← hA8]; exact (sz_put A7 128 (pf.val)).trans szA7
      have HA8 := Lib.hid (show A7.put (some 128) (pf.val) = A8 from hA8)
      clear hA8 szA7 d127
      have d128 := e128
      clear e128
      refine wpAnyH_ready (rs := [1, 8]) (by kernel_rfl) (by simp) ?_
      refine AllReadyH.cons rfl (fun K hK => ?_) (AllReadyH.cons rfl (fun K hK => ?_) AllReadyH.nil)
      · refine wp_runG rfl (run_ldVs rfl d121 (show (World.drew wr).cell? ⟨z, 2, none⟩ = some V from K2.out.1)) (hK.out _ _ GS.out (fun _ => ?_))
        clear hK K
        refine act_letter (fun A9 hA9 => ?_)
        replace d7 : A9.eval (.tmp 7) = .pointer (some ⟨z, 0, none⟩) := by rw [← hA9]; exact (ev_ne A8 (m := 122) (n := 7) (V) (by decide)).trans d7
        replace d123 : A9.eval (.tmp 123) = .pointer (some ⟨p, 0, none⟩) := by rw [← hA9]; exact (ev_ne A8 (m := 122) (n := 123) (V) (by decide)).trans d123
        replace d128 : A9.eval (.tmp 128) = pf.val := by rw [← hA9]; exact (ev_ne A8 (m := 122) (n := 128) (V) (by decide)).trans d128
        have e122 : A9.eval (.tmp 122) = V := by rw [← hA9]; exact ev_self A8 122 (V) (by omega)
        have szA9 : A9.tmps.size = 188 := by rw [← hA9]; exact (sz_put A8 122 (V)).trans szA8
        have HA9 := Lib.hid (show A8.put (some 122) (V) = A9 from hA9)
        clear hA9 szA8 d121
        have d122 := e122
        clear e122
        refine wpAnyH_ready (rs := [8]) (by kernel_rfl) (by simp) ?_
        refine AllReadyH.cons rfl (fun K hK => ?_) AllReadyH.nil
        refine wp_callG rfl (rfl) enter_rform (vs := #[.pointer (some ⟨p, 0, none⟩), pf.val]) (by simp [d123, d128]) (HCV.out.mono ?_)
        rintro r X ⟨u', rfl, nv, nfu, rr, fx⟩
        have hSX : Fr wr X (fun i => i = p ∨ V.ownBlock = some i ∨ i = z) := ((Fr.refl wr _).drew).trans fx (fun i _ e => .inl e)
        refine ⟨_, rfl, hK.out _ _ hSX (fun _ => ?_)⟩
        clear hK K
        have SX := Lib.hid hSX
        have FX := Lib.hid (show Fr wr X (fun k => k = p) from ((Fr.refl wr _).drew).trans fx (fun i _ e => e))
        have NVX := Lib.hid (show Nv X wr.heap.size u' from nv)
        have NFX := Lib.hid nfu
        have RRX := Lib.hid rr
        clear hSX nv nfu rr fx GS
        refine act_letter (fun A10 hA10 => ?_)
        replace d7 : A10.eval (.tmp 7) = .pointer (some ⟨z, 0, none⟩) := by rw [← hA10]; exact (ev_ne A9 (m := 129) (n := 7) (u'.val) (by decide)).trans d7
        replace d122 : A10.eval (.tmp 122) = V := by rw [← hA10]; exact (ev_ne A9 (m := 129) (n := 122) (u'.val) (by decide)).trans d122
        have e129 : A10.eval (.tmp 129) = u'.val := by rw [← hA10]; exact ev_self A9 129 (u'.val) (by omega)
        have szA10 : A10.tmps.size = 188 := by rw [← hA10]; exact (sz_put A9 129 (u'.val)).trans szA9
        have HA10 := Lib.hid (show A9.put (some 129) (u'.val) = A10 from hA10)
        clear hA10 szA9 d123 d128
        have d129 := e129
        clear e129
        refine wpAnyH_ready (rs := [9]) (by kernel_rfl) (by simp) ?_
        refine AllReadyH.cons rfl (fun K hK => ?_) AllReadyH.nil
        refine wp_vbuild1 rfl rfl d129 (fun y X1 hy gy => hK.out _ _ (SX.out.trans (fr_of gy) (fun _ _ h => h)) (fun _ => ?_))
        clear hK K
        have SY := Lib.hid (show Fr wr X1 (fun i => i = p ∨ V.ownBlock = some i ∨ i = z) from SX.out.trans (fr_of gy) (fun _ _ h => h))
        have GY := Lib.hid gy
        have LY := Lib.hid hy
        clear gy hy SX
        refine act_letter (fun A11 hA11 => ?_)
        replace d7 : A11.eval (.tmp 7) = .pointer (some ⟨z, 0, none⟩) := by rw [← hA11]; exact (ev_ne A10 (m := 130) (n := 7) (.slice (some ⟨y, 0, none⟩) 1 1) (by decide)).trans d7
        replace d122 : A11.eval (.tmp 122) = V := by rw [← hA11]; exact (ev_ne A10 (m := 130) (n := 122) (.slice (some ⟨y, 0, none⟩) 1 1) (by decide)).trans d122
        have e130 : A11.eval (.tmp 130) = .slice (some ⟨y, 0, none⟩) 1 1 := by rw [← hA11]; exact ev_self A10 130 (.slice (some ⟨y, 0, none⟩) 1 1) (by omega)
        have szA11 : A11.tmps.size = 188 := by rw [← hA11]; exact (sz_put A10 130 (.slice (some ⟨y, 0, none⟩) 1 1)).trans szA10
        have HA11 := Lib.hid (show A10.put (some 130) (.slice (some ⟨y, 0, none⟩) 1 1) = A11 from hA11)
        clear hA11 szA10 d129
        have d130 := e130
        clear e130
        refine wpAnyH_ready (rs := [10]) (by kernel_rfl) (by simp) ?_
        refine AllReadyH.cons rfl (fun K hK => ?_) AllReadyH.nil
        refine wp_appV rfl rfl (own_fr (own_fr R.out.own FX.out (fun k hk e => by have := R.out.hi k hk; have := HZP.out; omega)) (F := fun _ => False) (fr_of GY.out) (fun _ _ h => h)) d122 (ys := [u']) LY.out 1 d130 (by have := HLL.out; have := R.out.len; simp; omega) (fun V' Y hApp => hK.out _ _ (SY.out.trans (Fr.of_grew' (F := fun i => V.ownBlock = some i) hApp.2.1 (fun i hi => hi)) (fun i _ e => .inr (.inl e))) (fun _ => ?_))
        have SA := Lib.hid (show Fr wr Y (fun i => i = p ∨ V.ownBlock = some i ∨ i = z) from SY.out.trans (Fr.of_grew' (F := fun i => V.ownBlock = some i) hApp.2.1 (fun i hi => hi)) (fun i _ e => .inr (.inl e)))
        have FY := Lib.hid (show Fr X Y (fun i => V.ownBlock = some i) from (fr_of GY.out).trans (Fr.of_grew' (F := fun i => V.ownBlock = some i) hApp.2.1 (fun i hi => hi)) (fun _ _ e => e))
        obtain ⟨A2, c2, rfl, _⟩ := own_form hApp.1
        have HAP := Lib.hid hApp
        clear hK K hApp SY
        refine act_letter (fun A12 hA12 => ?_)
        replace d7 : A12.eval (.tmp 7) = .pointer (some ⟨z, 0, none⟩) := by rw [← hA12]; exact (ev_ne A11 (m := 131) (n := 7) (.slice A2 (us.length + [u'].length) c2) (by decide)).trans d7
        have e131 : A12.eval (.tmp 131) = .slice A2 (us.length + [u'].length) c2 := by rw [← hA12]; exact ev_self A11 131 (.slice A2 (us.length + [u'].length) c2) (by omega)
        have szA12 : A12.tmps.size = 188 := by rw [← hA12]; exact (sz_put A11 131 (.slice A2 (us.length + [u'].length) c2)).trans szA11
        have HA12 := Lib.hid (show A11.put (some 131) (.slice A2 (us.length + [u'].length) c2) = A12 from hA12)
        clear hA12 szA11 d122 d130
        have d131 := e131
        clear e131
        refine wpAnyH_take (i := 11) (v := .pointer (some ⟨z, 2, none⟩)) rfl (by kernel_rfl) (by kernel_rfl) (by kernel_rfl) (fun _ _ _ h => h) (.inl ⟨rfl, fun w g => run_fv2 rfl d7 w⟩) SA.out ?_
        refine act_letter (fun A13 hA13 => ?_)
        replace d131 : A13.eval (.tmp 131) = .slice A2 (us.length + [u'].length) c2 := by rw [← hA13]; exact (ev_ne A12 (m := 132) (n := 131) (.pointer (some ⟨z, 2, none⟩)) (by decide)).trans d131
        have e132 : A13.eval (.tmp 132) = .pointer (some ⟨z, 2, none⟩) := by rw [← hA13]; exact ev_self A12 132 (.pointer (some ⟨z, 2, none⟩)) (by omega)
        have szA13 : A13.tmps.size = 188 := by rw [← hA13]; exact (sz_put A12 132 (.pointer (some ⟨z, 2, none⟩))).trans szA12
        have HA13 := Lib.hid (show A12.put (some 132) (.pointer (some ⟨z, 2, none⟩)) = A13 from hA13)
        clear hA13 szA12 d7
        have d132 := e132
        clear e132
        refine wpAnyH_ready (rs := [12]) (by kernel_rfl) (by simp) ?_
        refine AllReadyH.cons rfl (fun K hK => ?_) AllReadyH.nil
        refine wp_skipG rfl (w' := (Y.setCell ⟨z, 2, none⟩ (.slice A2 (us.length + [u'].length) c2))) (run_storeL rfl d132 d131 ((R.out.k2.fr FX.out (show ¬ z = p by have := HZP.out; omega)).fr FY.out (fun e => by have := R.out.hi z e; omega)) rfl) (hK.out _ _ (SA.out.trans (fr_cell Y z 2 _) (fun i _ e => .inr (.inr e))) (fun _ => ?_))
        clear hK K SA
        refine act_letter (fun A14 hA14 => ?_)
        replace d131 : A14.eval (.tmp 131) = .slice A2 (us.length + [u'].length) c2 := by rw [← hA14]; exact d131
        replace d132 : A14.eval (.tmp 132) = .pointer (some ⟨z, 2, none⟩) := by rw [← hA14]; exact d132
        have szA14 : A14.tmps.size = 188 := by rw [← hA14]; exact szA13
        have HA14 := Lib.hid (show A13 = A14 from hA14)
        clear hA14 szA13
        refine wpAnyH_done (by kernel_rfl) ?_ _
        rw [← HA14.out, ← HA13.out, ← HA12.out, ← HA11.out, ← HA10.out, ← HA9.out, ← HA8.out, ← HA7.out, ← HA6.out, ← HA5.out, ← HA4.out, ← HA3.out, ← HA2.out, ← HA1.out]
        clear HA2 HA3 HA4 HA5 HA6 HA7 HA8 HA9 HA10 HA11 HA12 HA13 HA14 HA1 d131 d132 szA14
        simp only [Act.put, List.setIfInBounds_toArray, List.set_cons_zero, List.set_cons_succ]
        have HR2 := Lib.hid (show Bld w (Y.setCell ⟨z, 2, none⟩ (.slice A2 (us.length + [u'].length) c2)) p z A xs.length c i e (st + 1) #[.int .i64 3, .int .i64 s, .int .i64 l, .int .i64 hh, .int .i64 t, .slice (some ⟨bf, of, none⟩) ps.length fc] o v.ls (j + 1) (.slice A2 (us.length + [u'].length) c2) (us ++ [u']) from R.out.step FX.out NVX.out NFX.out HU.out RRX.out HZZ.out GY.out HAP.out)
        clear R FX FY NVX NFX RRX GY LY HAP HU K2 HN HCV HZZ K0 K1 d0' d1' d2' d3' d4' d5' b5
        have hjw : j ≤ 1000000 := by have := HLL.out; omega
        go_wp2_with fail
        go_roundg (v.ls.length - (j + 1))
        case measure => have := HGI.out; omega
        case rel => exact ⟨j + 1, _, _, by go_num, by omega, rfl, HR2⟩
      · refine wp_callG rfl (rfl) enter_rform (vs := #[.pointer (some ⟨p, 0, none⟩), pf.val]) (by simp [d123, d128]) (HCV.out.mono ?_)
        rintro r X ⟨u', rfl, nv, nfu, rr, fx⟩
        have hSX : Fr wr X (fun i => i = p ∨ V.ownBlock = some i ∨ i = z) := ((Fr.refl wr _).drew).trans fx (fun i _ e => .inl e)
        refine ⟨_, rfl, hK.out _ _ hSX (fun _ => ?_)⟩
        clear hK K
        have SX := Lib.hid hSX
        have FX := Lib.hid (show Fr wr X (fun k => k = p) from ((Fr.refl wr _).drew).trans fx (fun i _ e => e))
        have NVX := Lib.hid (show Nv X wr.heap.size u' from nv)
        have NFX := Lib.hid nfu
        have RRX := Lib.hid rr
        clear hSX nv nfu rr fx GS
        refine act_letter (fun A9 hA9 => ?_)
        replace d7 : A9.eval (.tmp 7) = .pointer (some ⟨z, 0, none⟩) := by rw [← hA9]; exact (ev_ne A8 (m := 129) (n := 7) (u'.val) (by decide)).trans d7
        replace d121 : A9.eval (.tmp 121) = .pointer (some ⟨z, 2, none⟩) := by rw [← hA9]; exact (ev_ne A8 (m := 129) (n := 121) (u'.val) (by decide)).trans d121
        have e129 : A9.eval (.tmp 129) = u'.val := by rw [← hA9]; exact ev_self A8 129 (u'.val) (by omega)
        have szA9 : A9.tmps.size = 188 := by rw [← hA9]; exact (sz_put A8 129 (u'.val)).trans szA8
        have HA9 := Lib.hid (show A8.put (some 129) (u'.val) = A9 from hA9)
        clear hA9 szA8 d123 d128
        have d129 := e129
        clear e129
        refine wpAnyH_ready (rs := [1, 9]) (by kernel_rfl) (by simp) ?_
        refine AllReadyH.cons rfl (fun K hK => ?_) (AllReadyH.cons rfl (fun K hK => ?_) AllReadyH.nil)
        · refine wp_runG rfl (run_ldVs rfl d121 (FX.out.cell K2.out.1 (show ¬ z = p by have := HZP.out; omega))) (hK.out _ _ SX.out (fun _ => ?_))
          clear hK K
          refine act_letter (fun A10 hA10 => ?_)
          replace d7 : A10.eval (.tmp 7) = .pointer (some ⟨z, 0, none⟩) := by rw [← hA10]; exact (ev_ne A9 (m := 122) (n := 7) (V) (by decide)).trans d7
          replace d129 : A10.eval (.tmp 129) = u'.val := by rw [← hA10]; exact (ev_ne A9 (m := 122) (n := 129) (V) (by decide)).trans d129
          have e122 : A10.eval (.tmp 122) = V := by rw [← hA10]; exact ev_self A9 122 (V) (by omega)
          have szA10 : A10.tmps.size = 188 := by rw [← hA10]; exact (sz_put A9 122 (V)).trans szA9
          have HA10 := Lib.hid (show A9.put (some 122) (V) = A10 from hA10)
          clear hA10 szA9 d121
          have d122 := e122
          clear e122
          refine wpAnyH_ready (rs := [9]) (by kernel_rfl) (by simp) ?_
          refine AllReadyH.cons rfl (fun K hK => ?_) AllReadyH.nil
          refine wp_vbuild1 rfl rfl d129 (fun y X1 hy gy => hK.out _ _ (SX.out.trans (fr_of gy) (fun _ _ h => h)) (fun _ => ?_))
          clear hK K
          have SY := Lib.hid (show Fr wr X1 (fun i => i = p ∨ V.ownBlock = some i ∨ i = z) from SX.out.trans (fr_of gy) (fun _ _ h => h))
          have GY := Lib.hid gy
          have LY := Lib.hid hy
          clear gy hy SX
          refine act_letter (fun A11 hA11 => ?_)
          replace d7 : A11.eval (.tmp 7) = .pointer (some ⟨z, 0, none⟩) := by rw [← hA11]; exact (ev_ne A10 (m := 130) (n := 7) (.slice (some ⟨y, 0, none⟩) 1 1) (by decide)).trans d7
          replace d122 : A11.eval (.tmp 122) = V := by rw [← hA11]; exact (ev_ne A10 (m := 130) (n := 122) (.slice (some ⟨y, 0, none⟩) 1 1) (by decide)).trans d122
          have e130 : A11.eval (.tmp 130) = .slice (some ⟨y, 0, none⟩) 1 1 := by rw [← hA11]; exact ev_self A10 130 (.slice (some ⟨y, 0, none⟩) 1 1) (by omega)
          have szA11 : A11.tmps.size = 188 := by rw [← hA11]; exact (sz_put A10 130 (.slice (some ⟨y, 0, none⟩) 1 1)).trans szA10
          have HA11 := Lib.hid (show A10.put (some 130) (.slice (some ⟨y, 0, none⟩) 1 1) = A11 from hA11)
          clear hA11 szA10 d129
          have d130 := e130
          clear e130
          refine wpAnyH_ready (rs := [10]) (by kernel_rfl) (by simp) ?_
          refine AllReadyH.cons rfl (fun K hK => ?_) AllReadyH.nil
          refine wp_appV rfl rfl (own_fr (own_fr R.out.own FX.out (fun k hk e => by have := R.out.hi k hk; have := HZP.out; omega)) (F := fun _ => False) (fr_of GY.out) (fun _ _ h => h)) d122 (ys := [u']) LY.out 1 d130 (by have := HLL.out; have := R.out.len; simp; omega) (fun V' Y hApp => hK.out _ _ (SY.out.trans (Fr.of_grew' (F := fun i => V.ownBlock = some i) hApp.2.1 (fun i hi => hi)) (fun i _ e => .inr (.inl e))) (fun _ => ?_))
          have SA := Lib.hid (show Fr wr Y (fun i => i = p ∨ V.ownBlock = some i ∨ i = z) from SY.out.trans (Fr.of_grew' (F := fun i => V.ownBlock = some i) hApp.2.1 (fun i hi => hi)) (fun i _ e => .inr (.inl e)))
          have FY := Lib.hid (show Fr X Y (fun i => V.ownBlock = some i) from (fr_of GY.out).trans (Fr.of_grew' (F := fun i => V.ownBlock = some i) hApp.2.1 (fun i hi => hi)) (fun _ _ e => e))
          obtain ⟨A2, c2, rfl, _⟩ := own_form hApp.1
          have HAP := Lib.hid hApp
          clear hK K hApp SY
          refine act_letter (fun A12 hA12 => ?_)
          replace d7 : A12.eval (.tmp 7) = .pointer (some ⟨z, 0, none⟩) := by rw [← hA12]; exact (ev_ne A11 (m := 131) (n := 7) (.slice A2 (us.length + [u'].length) c2) (by decide)).trans d7
          have e131 : A12.eval (.tmp 131) = .slice A2 (us.length + [u'].length) c2 := by rw [← hA12]; exact ev_self A11 131 (.slice A2 (us.length + [u'].length) c2) (by omega)
          have szA12 : A12.tmps.size = 188 := by rw [← hA12]; exact (sz_put A11 131 (.slice A2 (us.length + [u'].length) c2)).trans szA11
          have HA12 := Lib.hid (show A11.put (some 131) (.slice A2 (us.length + [u'].length) c2) = A12 from hA12)
          clear hA12 szA11 d122 d130
          have d131 := e131
          clear e131
          refine wpAnyH_take (i := 11) (v := .pointer (some ⟨z, 2, none⟩)) rfl (by kernel_rfl) (by kernel_rfl) (by kernel_rfl) (fun _ _ _ h => h) (.inl ⟨rfl, fun w g => run_fv2 rfl d7 w⟩) SA.out ?_
          refine act_letter (fun A13 hA13 => ?_)
          replace d131 : A13.eval (.tmp 131) = .slice A2 (us.length + [u'].length) c2 := by rw [← hA13]; exact (ev_ne A12 (m := 132) (n := 131) (.pointer (some ⟨z, 2, none⟩)) (by decide)).trans d131
          have e132 : A13.eval (.tmp 132) = .pointer (some ⟨z, 2, none⟩) := by rw [← hA13]; exact ev_self A12 132 (.pointer (some ⟨z, 2, none⟩)) (by omega)
          have szA13 : A13.tmps.size = 188 := by rw [← hA13]; exact (sz_put A12 132 (.pointer (some ⟨z, 2, none⟩))).trans szA12
          have HA13 := Lib.hid (show A12.put (some 132) (.pointer (some ⟨z, 2, none⟩)) = A13 from hA13)
          clear hA13 szA12 d7
          have d132 := e132
          clear e132
          refine wpAnyH_ready (rs := [12]) (by kernel_rfl) (by simp) ?_
          refine AllReadyH.cons rfl (fun K hK => ?_) AllReadyH.nil
          refine wp_skipG rfl (w' := (Y.setCell ⟨z, 2, none⟩ (.slice A2 (us.length + [u'].length) c2))) (run_storeL rfl d132 d131 ((R.out.k2.fr FX.out (show ¬ z = p by have := HZP.out; omega)).fr FY.out (fun e => by have := R.out.hi z e; omega)) rfl) (hK.out _ _ (SA.out.trans (fr_cell Y z 2 _) (fun i _ e => .inr (.inr e))) (fun _ => ?_))
          clear hK K SA
          refine act_letter (fun A14 hA14 => ?_)
          replace d131 : A14.eval (.tmp 131) = .slice A2 (us.length + [u'].length) c2 := by rw [← hA14]; exact d131
          replace d132 : A14.eval (.tmp 132) = .pointer (some ⟨z, 2, none⟩) := by rw [← hA14]; exact d132
          have szA14 : A14.tmps.size = 188 := by rw [← hA14]; exact szA13
          have HA14 := Lib.hid (show A13 = A14 from hA14)
          clear hA14 szA13
          refine wpAnyH_done (by kernel_rfl) ?_ _
          rw [← HA14.out, ← HA13.out, ← HA12.out, ← HA11.out, ← HA10.out, ← HA9.out, ← HA8.out, ← HA7.out, ← HA6.out, ← HA5.out, ← HA4.out, ← HA3.out, ← HA2.out, ← HA1.out]
          clear HA2 HA3 HA4 HA5 HA6 HA7 HA8 HA9 HA10 HA11 HA12 HA13 HA14 HA1 d131 d132 szA14
          simp only [Act.put, List.setIfInBounds_toArray, List.set_cons_zero, List.set_cons_succ]
          have HR2 := Lib.hid (show Bld w (Y.setCell ⟨z, 2, none⟩ (.slice A2 (us.length + [u'].length) c2)) p z A xs.length c i e (st + 1) #[.int .i64 3, .int .i64 s, .int .i64 l, .int .i64 hh, .int .i64 t, .slice (some ⟨bf, of, none⟩) ps.length fc] o v.ls (j + 1) (.slice A2 (us.length + [u'].length) c2) (us ++ [u']) from R.out.step FX.out NVX.out NFX.out HU.out RRX.out HZZ.out GY.out HAP.out)
          clear R FX FY NVX NFX RRX GY LY HAP HU K2 HN HCV HZZ K0 K1 d0' d1' d2' d3' d4' d5' b5
          have hjw : j ≤ 1000000 := by have := HLL.out; omega
          go_wp2_with fail
          go_roundg (v.ls.length - (j + 1))
          case measure => have := HGI.out; omega
          case rel => exact ⟨j + 1, _, _, by go_num, by omega, rfl, HR2⟩
        · refine wp_vbuild1 rfl rfl d129 (fun y X1 hy gy => hK.out _ _ (SX.out.trans (fr_of gy) (fun _ _ h => h)) (fun _ => ?_))
          clear hK K
          have SY := Lib.hid (show Fr wr X1 (fun i => i = p ∨ V.ownBlock = some i ∨ i = z) from SX.out.trans (fr_of gy) (fun _ _ h => h))
          have GY := Lib.hid gy
          have LY := Lib.hid hy
          clear gy hy SX
          refine act_letter (fun A10 hA10 => ?_)
          replace d7 : A10.eval (.tmp 7) = .pointer (some ⟨z, 0, none⟩) := by rw [← hA10]; exact (ev_ne A9 (m := 130) (n := 7) (.slice (some ⟨y, 0, none⟩) 1 1) (by decide)).trans d7
          replace d121 : A10.eval (.tmp 121) = .pointer (some ⟨z, 2, none⟩) := by rw [← hA10]; exact (ev_ne A9 (m := 130) (n := 121) (.slice (some ⟨y, 0, none⟩) 1 1) (by decide)).trans d121
          have e130 : A10.eval (.tmp 130) = .slice (some ⟨y, 0, none⟩) 1 1 := by rw [← hA10]; exact ev_self A9 130 (.slice (some ⟨y, 0, none⟩) 1 1) (by omega)
          have szA10 : A10.tmps.size = 188 := by rw [← hA10]; exact (sz_put A9 130 (.slice (some ⟨y, 0, none⟩) 1 1)).trans szA9
          have HA10 := Lib.hid (show A9.put (some 130) (.slice (some ⟨y, 0, none⟩) 1 1) = A10 from hA10)
          clear hA10 szA9 d129
          have d130 := e130
          clear e130
          refine wpAnyH_ready (rs := [1]) (by kernel_rfl) (by simp) ?_
          refine AllReadyH.cons rfl (fun K hK => ?_) AllReadyH.nil
          refine wp_runG rfl (run_ldVs rfl d121 ((FX.out.trans (fr_of GY.out) (fun _ _ h => h)).cell K2.out.1 (show ¬ z = p by have := HZP.out; omega))) (hK.out _ _ SY.out (fun _ => ?_))
          clear hK K
          refine act_letter (fun A11 hA11 => ?_)
          replace d7 : A11.eval (.tmp 7) = .pointer (some ⟨z, 0, none⟩) := by rw [← hA11]; exact (ev_ne A10 (m := 122) (n := 7) (V) (by decide)).trans d7
          replace d130 : A11.eval (.tmp 130) = .slice (some ⟨y, 0, none⟩) 1 1 := by rw [← hA11]; exact (ev_ne A10 (m := 122) (n := 130) (V) (by decide)).trans d130
          have e122 : A11.eval (.tmp 122) = V := by rw [← hA11]; exact ev_self A10 122 (V) (by omega)
          have szA11 : A11.tmps.size = 188 := by rw [← hA11]; exact (sz_put A10 122 (V)).trans szA10
          have HA11 := Lib.hid (show A10.put (some 122) (V) = A11 from hA11)
          clear hA11 szA10 d121
          have d122 := e122
          clear e122
          refine wpAnyH_ready (rs := [10]) (by kernel_rfl) (by simp) ?_
          refine AllReadyH.cons rfl (fun K hK => ?_) AllReadyH.nil
          refine wp_appV rfl rfl (own_fr (own_fr R.out.own FX.out (fun k hk e => by have := R.out.hi k hk; have := HZP.out; omega)) (F := fun _ => False) (fr_of GY.out) (fun _ _ h => h)) d122 (ys := [u']) LY.out 1 d130 (by have := HLL.out; have := R.out.len; simp; omega) (fun V' Y hApp => hK.out _ _ (SY.out.trans (Fr.of_grew' (F := fun i => V.ownBlock = some i) hApp.2.1 (fun i hi => hi)) (fun i _ e => .inr (.inl e))) (fun _ => ?_))
          have SA := Lib.hid (show Fr wr Y (fun i => i = p ∨ V.ownBlock = some i ∨ i = z) from SY.out.trans (Fr.of_grew' (F := fun i => V.ownBlock = some i) hApp.2.1 (fun i hi => hi)) (fun i _ e => .inr (.inl e)))
          have FY := Lib.hid (show Fr X Y (fun i => V.ownBlock = some i) from (fr_of GY.out).trans (Fr.of_grew' (F := fun i => V.ownBlock = some i) hApp.2.1 (fun i hi => hi)) (fun _ _ e => e))
          obtain ⟨A2, c2, rfl, _⟩ := own_form hApp.1
          have HAP := Lib.hid hApp
          clear hK K hApp SY
          refine act_letter (fun A12 hA12 => ?_)
          replace d7 : A12.eval (.tmp 7) = .pointer (some ⟨z, 0, none⟩) := by rw [← hA12]; exact (ev_ne A11 (m := 131) (n := 7) (.slice A2 (us.length + [u'].length) c2) (by decide)).trans d7
          have e131 : A12.eval (.tmp 131) = .slice A2 (us.length + [u'].length) c2 := by rw [← hA12]; exact ev_self A11 131 (.slice A2 (us.length + [u'].length) c2) (by omega)
          have szA12 : A12.tmps.size = 188 := by rw [← hA12]; exact (sz_put A11 131 (.slice A2 (us.length + [u'].length) c2)).trans szA11
          have HA12 := Lib.hid (show A11.put (some 131) (.slice A2 (us.length + [u'].length) c2) = A12 from hA12)
          clear hA12 szA11 d130 d122
          have d131 := e131
          clear e131
          refine wpAnyH_take (i := 11) (v := .pointer (some ⟨z, 2, none⟩)) rfl (by kernel_rfl) (by kernel_rfl) (by kernel_rfl) (fun _ _ _ h => h) (.inl ⟨rfl, fun w g => run_fv2 rfl d7 w⟩) SA.out ?_
          refine act_letter (fun A13 hA13 => ?_)
          replace d131 : A13.eval (.tmp 131) = .slice A2 (us.length + [u'].length) c2 := by rw [← hA13]; exact (ev_ne A12 (m := 132) (n := 131) (.pointer (some ⟨z, 2, none⟩)) (by decide)).trans d131
          have e132 : A13.eval (.tmp 132) = .pointer (some ⟨z, 2, none⟩) := by rw [← hA13]; exact ev_self A12 132 (.pointer (some ⟨z, 2, none⟩)) (by omega)
          have szA13 : A13.tmps.size = 188 := by rw [← hA13]; exact (sz_put A12 132 (.pointer (some ⟨z, 2, none⟩))).trans szA12
          have HA13 := Lib.hid (show A12.put (some 132) (.pointer (some ⟨z, 2, none⟩)) = A13 from hA13)
          clear hA13 szA12 d7
          have d132 := e132
          clear e132
          refine wpAnyH_ready (rs := [12]) (by kernel_rfl) (by simp) ?_
          refine AllReadyH.cons rfl (fun K hK => ?_) AllReadyH.nil
          refine wp_skipG rfl (w' := (Y.setCell ⟨z, 2, none⟩ (.slice A2 (us.length + [u'].length) c2))) (run_storeL rfl d132 d131 ((R.out.k2.fr FX.out (show ¬ z = p by have := HZP.out; omega)).fr FY.out (fun e => by have := R.out.hi z e; omega)) rfl) (hK.out _ _ (SA.out.trans (fr_cell Y z 2 _) (fun i _ e => .inr (.inr e))) (fun _ => ?_))
          clear hK K SA
          refine act_letter (fun A14 hA14 => ?_)
          replace d131 : A14.eval (.tmp 131) = .slice A2 (us.length + [u'].length) c2 := by rw [← hA14]; exact d131
          replace d132 : A14.eval (.tmp 132) = .pointer (some ⟨z, 2, none⟩) := by rw [← hA14]; exact d132
          have szA14 : A14.tmps.size = 188 := by rw [← hA14]; exact szA13
          have HA14 := Lib.hid (show A13 = A14 from hA14)
          clear hA14 szA13
          refine wpAnyH_done (by kernel_rfl) ?_ _
          rw [← HA14.out, ← HA13.out, ← HA12.out, ← HA11.out, ← HA10.out, ← HA9.out, ← HA8.out, ← HA7.out, ← HA6.out, ← HA5.out, ← HA4.out, ← HA3.out, ← HA2.out, ← HA1.out]
          clear HA2 HA3 HA4 HA5 HA6 HA7 HA8 HA9 HA10 HA11 HA12 HA13 HA14 HA1 d131 d132 szA14
          simp only [Act.put, List.setIfInBounds_toArray, List.set_cons_zero, List.set_cons_succ]
          have HR2 := Lib.hid (show Bld w (Y.setCell ⟨z, 2, none⟩ (.slice A2 (us.length + [u'].length) c2)) p z A xs.length c i e (st + 1) #[.int .i64 3, .int .i64 s, .int .i64 l, .int .i64 hh, .int .i64 t, .slice (some ⟨bf, of, none⟩) ps.length fc] o v.ls (j + 1) (.slice A2 (us.length + [u'].length) c2) (us ++ [u']) from R.out.step FX.out NVX.out NFX.out HU.out RRX.out HZZ.out GY.out HAP.out)
          clear R FX FY NVX NFX RRX GY LY HAP HU K2 HN HCV HZZ K0 K1 d0' d1' d2' d3' d4' d5' b5
          have hjw : j ≤ 1000000 := by have := HLL.out; omega
          go_wp2_with fail
          go_roundg (v.ls.length - (j + 1))
          case measure => have := HGI.out; omega
          case rel => exact ⟨j + 1, _, _, by go_num, by omega, rfl, HR2⟩
    · obtain rfl : j = v.ls.length := by omega
      have hlt' : ¬ ((v.ls.length : Int) < ps.length) := by omega
      obtain ⟨A', c', hV, hnv, hnfs⟩ := R.out.done HLL.out
      subst hV
      obtain ⟨z0, z1, z2⟩ := K1.out.three
      have fz := K1.out.frozen
      have HNV := Lib.hid hnv
      clear hnv
      go_wp2_with fail
      refine bodyPost_ret (results_cell_row rfl _ _ (q + 1) _ _ _ _ rfl (K1.out.put3 (.int .u64 0) (.slice none 0 0) (.slice A' us.length c')) Try.underlying29 rfl (by kernel_rfl)) rfl ?_
      have hct : st + 1 + cnts (v.ls.take v.ls.length) = st + v.cnt := by rw [List.take_length]; omega
      have hr := R.out.rr
      rw [hct] at hr
      have hz := HZP.out
      have hq := HQ.out
      exact got6_close (u := .mk 0 none 0 [] A' c' us) (k := z + 1) R.out.fr (by omega) (by omega) (by omega) (by omega) K1.out hr HNV.out (by rw [hnf, nf, hnfs])
end Go.Proofs.Ytibbeodcheefaaa

