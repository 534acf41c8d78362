/- Two forms of two lists are taken, in whatever order: the region of FormMakes' loop. -/
import Derived.Test.YtlehehibfpbhmaaHn
namespace Go.Proofs.Ytlehehibfpbhmaa
open Go.RowKit Fo
set_option linter.unusedSimpArgs false
def r4_8_0 : Oper := { dst := some 96, op := Op.move (Operand.tmp 7), type := 22, pos := "law.go:64", after := #[], guard := none }
def r4_8_1 : Oper := { dst := some 97, op := Op.move (Operand.tmp 9), type := 3, pos := "law.go:64", after := #[], guard := none }
def r4_8_2 : Oper := { dst := some 98, op := Op.indexAddr 22 (Operand.tmp 96) (Operand.tmp 97), type := 0, pos := "law.go:64", after := #[{ on := 0, ground := Ground.data }, { on := 1, ground := Ground.data }], guard := none }
def r4_8_3 : Oper := { dst := some 99, op := Op.load 24 (Operand.tmp 98), type := 24, pos := "law.go:64", after := #[{ on := 2, ground := Ground.data }], guard := none }
def r4_8_4 : Oper := { dst := some 100, op := Op.move (Operand.tmp 8), type := 22, pos := "law.go:64", after := #[{ on := 10, ground := Ground.gcOnly Departure.lateStores }], guard := none }
def r4_8_5 : Oper := { dst := some 101, op := Op.move (Operand.tmp 9), type := 3, pos := "law.go:64", after := #[{ on := 10, ground := Ground.gcOnly Departure.lateStores }], guard := none }
def r4_8_6 : Oper := { dst := some 102, op := Op.indexAddr 22 (Operand.tmp 100) (Operand.tmp 101), type := 0, pos := "law.go:64", after := #[{ on := 4, ground := Ground.data }, { on := 5, ground := Ground.data }, { on := 10, ground := Ground.gcOnly Departure.lateStores }], guard := none }
def r4_8_7 : Oper := { dst := some 103, op := Op.load 24 (Operand.tmp 102), type := 24, pos := "law.go:64", after := #[{ on := 6, ground := Ground.data }, { on := 10, ground := Ground.gcOnly Departure.lateStores }], guard := none }
def r4_8_8 : Oper := { dst := some 10, op := Op.alloc 24, type := 0, pos := "law.go:64", after := #[], guard := none }
def r4_8_9 : Oper := { dst := some 11, op := Op.alloc 24, type := 0, pos := "law.go:64", after := #[], guard := none }
def r4_8_10 : Oper := { dst := none, op := Op.store 24 (Operand.tmp 10) (Operand.tmp 99), type := 0, pos := "law.go:64", after := #[{ on := 8, ground := Ground.data }, { on := 3, ground := Ground.data }, { on := 0, ground := Ground.phase }, { on := 1, ground := Ground.phase }, { on := 2, ground := Ground.phase }, { on := 3, ground := Ground.phase }, { on := 4, ground := Ground.textOnly Departure.lateStores }, { on := 5, ground := Ground.textOnly Departure.lateStores }, { on := 6, ground := Ground.textOnly Departure.lateStores }, { on := 7, ground := Ground.textOnly Departure.lateStores }, { on := 8, ground := Ground.phase }, { on := 9, ground := Ground.phase }], guard := none }
def r4_8_11 : Oper := { dst := none, op := Op.store 24 (Operand.tmp 11) (Operand.tmp 103), type := 0, pos := "law.go:64", after := #[{ on := 9, ground := Ground.data }, { on := 7, ground := Ground.data }, { on := 10, ground := Ground.chain }, { on := 0, ground := Ground.phase }, { on := 1, ground := Ground.phase }, { on := 2, ground := Ground.phase }, { on := 3, ground := Ground.phase }, { on := 4, ground := Ground.phase }, { on := 5, ground := Ground.phase }, { on := 6, ground := Ground.phase }, { on := 7, ground := Ground.phase }, { on := 8, ground := Ground.phase }, { on := 9, ground := Ground.phase }, { on := 10, ground := Ground.phase }], guard := none }
def r4_8 : Array Oper := #[{ dst := some 96, op := Op.move (Operand.tmp 7), type := 22, pos := "law.go:64", after := #[], guard := none }, { dst := some 97, op := Op.move (Operand.tmp 9), type := 3, pos := "law.go:64", after := #[], guard := none }, { dst := some 98, op := Op.indexAddr 22 (Operand.tmp 96) (Operand.tmp 97), type := 0, pos := "law.go:64", after := #[{ on := 0, ground := Ground.data }, { on := 1, ground := Ground.data }], guard := none }, { dst := some 99, op := Op.load 24 (Operand.tmp 98), type := 24, pos := "law.go:64", after := #[{ on := 2, ground := Ground.data }], guard := none }, { dst := some 100, op := Op.move (Operand.tmp 8), type := 22, pos := "law.go:64", after := #[{ on := 10, ground := Ground.gcOnly Departure.lateStores }], guard := none }, { dst := some 101, op := Op.move (Operand.tmp 9), type := 3, pos := "law.go:64", after := #[{ on := 10, ground := Ground.gcOnly Departure.lateStores }], guard := none }, { dst := some 102, op := Op.indexAddr 22 (Operand.tmp 100) (Operand.tmp 101), type := 0, pos := "law.go:64", after := #[{ on := 4, ground := Ground.data }, { on := 5, ground := Ground.data }, { on := 10, ground := Ground.gcOnly Departure.lateStores }], guard := none }, { dst := some 103, op := Op.load 24 (Operand.tmp 102), type := 24, pos := "law.go:64", after := #[{ on := 6, ground := Ground.data }, { on := 10, ground := Ground.gcOnly Departure.lateStores }], guard := none }, { dst := some 10, op := Op.alloc 24, type := 0, pos := "law.go:64", after := #[], guard := none }, { dst := some 11, op := Op.alloc 24, type := 0, pos := "law.go:64", after := #[], guard := none }, { dst := none, op := Op.store 24 (Operand.tmp 10) (Operand.tmp 99), type := 0, pos := "law.go:64", after := #[{ on := 8, ground := Ground.data }, { on := 3, ground := Ground.data }, { on := 0, ground := Ground.phase }, { on := 1, ground := Ground.phase }, { on := 2, ground := Ground.phase }, { on := 3, ground := Ground.phase }, { on := 4, ground := Ground.textOnly Departure.lateStores }, { on := 5, ground := Ground.textOnly Departure.lateStores }, { on := 6, ground := Ground.textOnly Departure.lateStores }, { on := 7, ground := Ground.textOnly Departure.lateStores }, { on := 8, ground := Ground.phase }, { on := 9, ground := Ground.phase }], guard := none }, { dst := none, op := Op.store 24 (Operand.tmp 11) (Operand.tmp 103), type := 0, pos := "law.go:64", after := #[{ on := 9, ground := Ground.data }, { on := 7, ground := Ground.data }, { on := 10, ground := Ground.chain }, { on := 0, ground := Ground.phase }, { on := 1, ground := Ground.phase }, { on := 2, ground := Ground.phase }, { on := 3, ground := Ground.phase }, { on := 4, ground := Ground.phase }, { on := 5, ground := Ground.phase }, { on := 6, ground := Ground.phase }, { on := 7, ground := Ground.phase }, { on := 8, ground := Ground.phase }, { on := 9, ground := Ground.phase }, { on := 10, ground := Ground.phase }], guard := none }]
theorem h4_8_0 : r4_8[0]? = some r4_8_0 := by kernel_rfl
theorem d4_8_0 : r4_8_0.dst = some 96 := rfl
theorem h4_8_1 : r4_8[1]? = some r4_8_1 := by kernel_rfl
theorem d4_8_1 : r4_8_1.dst = some 97 := rfl
theorem h4_8_2 : r4_8[2]? = some r4_8_2 := by kernel_rfl
theorem d4_8_2 : r4_8_2.dst = some 98 := rfl
theorem h4_8_3 : r4_8[3]? = some r4_8_3 := by kernel_rfl
theorem d4_8_3 : r4_8_3.dst = some 99 := rfl
theorem h4_8_4 : r4_8[4]? = some r4_8_4 := by kernel_rfl
theorem d4_8_4 : r4_8_4.dst = some 100 := rfl
theorem h4_8_5 : r4_8[5]? = some r4_8_5 := by kernel_rfl
theorem d4_8_5 : r4_8_5.dst = some 101 := rfl
theorem h4_8_6 : r4_8[6]? = some r4_8_6 := by kernel_rfl
theorem d4_8_6 : r4_8_6.dst = some 102 := rfl
theorem h4_8_7 : r4_8[7]? = some r4_8_7 := by kernel_rfl
theorem d4_8_7 : r4_8_7.dst = some 103 := rfl
theorem h4_8_8 : r4_8[8]? = some r4_8_8 := by kernel_rfl
theorem d4_8_8 : r4_8_8.dst = some 10 := rfl
theorem h4_8_9 : r4_8[9]? = some r4_8_9 := by kernel_rfl
theorem d4_8_9 : r4_8_9.dst = some 11 := rfl
theorem h4_8_10 : r4_8[10]? = some r4_8_10 := by kernel_rfl
theorem d4_8_10 : r4_8_10.dst = none := rfl
theorem h4_8_11 : r4_8[11]? = some r4_8_11 := by kernel_rfl
theorem d4_8_11 : r4_8_11.dst = none := rfl

/-- What holds behind two of them being taken. -/
def TakeT (A1 : Act) (wr : World) (B3 B9 n : Nat) (p : Fo) (rA : Option Addr) (rc : Nat) (a' : Act) (X : World) : Prop :=
  ∃ qp qr, a' = ((((((((((A1.put (some 96) (.slice (some ⟨B3, 0, none⟩) 6 6)).put (some 97) (.int .i64 n)).put (some 98) (.pointer (some ⟨B3, 0 + n * 6, none⟩))).put (some 99) p.val).put (some 100) (.slice (some ⟨B9, 0, none⟩) 6 6)).put (some 101) (.int .i64 n)).put (some 102) (.pointer (some ⟨B9, 0 + n * 6, none⟩))).put (some 103) (Fo.mk p.k p.s p.l p.h p.t rA rc p.ps).val).put (some 10) (.pointer (some ⟨qp, 0, none⟩))).put (some 11) (.pointer (some ⟨qr, 0, none⟩))) ∧ Whole X qp p.cells 24 ∧ Whole X qr (Fo.mk p.k p.s p.l p.h p.t rA rc p.ps).cells 24 ∧ Grew wr X none

set_option maxRecDepth 100000 in
set_option maxHeartbeats 1000000 in
theorem take_wp (A1 : Act) (wr : World) (B3 B9 n : Nat) (p : Fo) (rA : Option Addr) (rc : Nat) (hlt : n < 6) (hA7 : A1.eval (.tmp 7) = .slice (some ⟨B3, 0, none⟩) 6 6) (hA8 : A1.eval (.tmp 8) = .slice (some ⟨B9, 0, none⟩) 6 6) (hA9 : A1.eval (.tmp 9) = .int .i64 n) (hsz : A1.tmps.size = 170)
    (C : Hid (∀ w', Grew wr w' none → w'.cell? ⟨B3, 0 + n * 6, none⟩ = some (.int .i64 p.k) ∧ w'.cell? ⟨B3, 0 + n * 6 + 1, none⟩ = some (.int .i64 p.s) ∧ w'.cell? ⟨B3, 0 + n * 6 + 2, none⟩ = some (.int .i64 p.l) ∧ w'.cell? ⟨B3, 0 + n * 6 + 3, none⟩ = some (.int .i64 p.h) ∧ w'.cell? ⟨B3, 0 + n * 6 + 4, none⟩ = some (.int .i64 p.t) ∧ w'.cell? ⟨B3, 0 + n * 6 + 5, none⟩ = some (.slice p.A p.ps.length p.c)))
    (D : Hid (∀ w', Grew wr w' none → w'.cell? ⟨B9, 0 + n * 6, none⟩ = some (.int .i64 p.k) ∧ w'.cell? ⟨B9, 0 + n * 6 + 1, none⟩ = some (.int .i64 p.s) ∧ w'.cell? ⟨B9, 0 + n * 6 + 2, none⟩ = some (.int .i64 p.l) ∧ w'.cell? ⟨B9, 0 + n * 6 + 3, none⟩ = some (.int .i64 p.h) ∧ w'.cell? ⟨B9, 0 + n * 6 + 4, none⟩ = some (.int .i64 p.t) ∧ w'.cell? ⟨B9, 0 + n * 6 + 5, none⟩ = some (.slice rA p.ps.length rc))) :
    (Code.region 8 r4_8 true).wp Try.prog (fun e a' w' => e = .normal ∧ TakeT A1 wr B3 B9 n p rA rc a' w') A1 wr := by
  have G0 := Lib.hid (grew_drew (grew_refl wr none))
  refine wp_region_held (S := fun w' => Grew wr w' none) (by kernel_rfl) ?_
  change wpAnyH _ _ _ _ _ _ _ _ (World.drew wr)
  refine wpAnyH_take (i := 0) (v := .slice (some ⟨B3, 0, none⟩) 6 6) h4_8_0 (by kernel_rfl) (by kernel_rfl) (by kernel_rfl) (fun _ _ _ h => by cases h.1) (yi rfl (fun w _ => run_moveV rfl (by simp [ev_ne, ev_self, sz_put, put_none, hA7, hA8, hA9, hsz]) w)) G0.out ?_
  rw [d4_8_0]
  refine wpAnyH_take (i := 1) (v := .int .i64 n) h4_8_1 (by kernel_rfl) (by kernel_rfl) (by kernel_rfl) (fun _ _ _ h => by cases h.1) (yi rfl (fun w _ => run_moveV rfl (by simp [ev_ne, ev_self, sz_put, put_none, hA7, hA8, hA9, hsz]) w)) G0.out ?_
  rw [d4_8_1]
  refine wpAnyH_take (i := 2) (v := .pointer (some ⟨B3, 0 + n * 6, none⟩)) h4_8_2 (by kernel_rfl) (by kernel_rfl) (by kernel_rfl) (fun _ _ _ h => by cases h.1) (yi rfl (fun w _ => run_atS (l := 6) (c := 6) rfl (by simp [ev_ne, ev_self, sz_put, put_none, hA7, hA8, hA9, hsz]) (by simp [ev_ne, ev_self, sz_put, put_none, hA7, hA8, hA9, hsz]) hlt w)) G0.out ?_
  rw [d4_8_2]
  refine wpAnyH_take (i := 3) (v := p.val) h4_8_3 (by kernel_rfl) (by kernel_rfl) (by kernel_rfl) (fun _ _ _ h => by cases h.1) (yi rfl (fun w g => by obtain ⟨d0, d1, d2, d3, d4, d5⟩ := C.out w g; exact run_formAt (f := p) rfl (by simp [ev_ne, ev_self, sz_put, put_none, hA7, hA8, hA9, hsz]) d0 d1 d2 d3 d4 d5)) G0.out ?_
  rw [d4_8_3]
  refine wpAnyH_take (i := 4) (v := .slice (some ⟨B9, 0, none⟩) 6 6) h4_8_4 (by kernel_rfl) (by kernel_rfl) (by kernel_rfl) (fun _ _ _ h => by cases h.1) (yi rfl (fun w _ => run_moveV rfl (by simp [ev_ne, ev_self, sz_put, put_none, hA7, hA8, hA9, hsz]) w)) G0.out ?_
  rw [d4_8_4]
  refine wpAnyH_take (i := 5) (v := .int .i64 n) h4_8_5 (by kernel_rfl) (by kernel_rfl) (by kernel_rfl) (fun _ _ _ h => by cases h.1) (yi rfl (fun w _ => run_moveV rfl (by simp [ev_ne, ev_self, sz_put, put_none, hA7, hA8, hA9, hsz]) w)) G0.out ?_
  rw [d4_8_5]
  refine wpAnyH_take (i := 6) (v := .pointer (some ⟨B9, 0 + n * 6, none⟩)) h4_8_6 (by kernel_rfl) (by kernel_rfl) (by kernel_rfl) (fun _ _ _ h => by cases h.1) (yi rfl (fun w _ => run_atS (l := 6) (c := 6) rfl (by simp [ev_ne, ev_self, sz_put, put_none, hA7, hA8, hA9, hsz]) (by simp [ev_ne, ev_self, sz_put, put_none, hA7, hA8, hA9, hsz]) hlt w)) G0.out ?_
  rw [d4_8_6]
  refine wpAnyH_take (i := 7) (v := (Fo.mk p.k p.s p.l p.h p.t rA rc p.ps).val) h4_8_7 (by kernel_rfl) (by kernel_rfl) (by kernel_rfl) (fun _ _ _ h => by cases h.1) (yi rfl (fun w g => by obtain ⟨d0, d1, d2, d3, d4, d5⟩ := D.out w g; exact run_formAt (f := .mk p.k p.s p.l p.h p.t rA rc p.ps) rfl (by simp [ev_ne, ev_self, sz_put, put_none, hA7, hA8, hA9, hsz]) d0 d1 d2 d3 d4 d5)) G0.out ?_
  rw [d4_8_7]
  refine act_letter (fun A2 hA2 => ?_)
  have e99 : A2.eval (.tmp 99) = p.val := by rw [← hA2]; simp [ev_ne, ev_self, sz_put, hsz]
  have e103 : A2.eval (.tmp 103) = (Fo.mk p.k p.s p.l p.h p.t rA rc p.ps).val := by rw [← hA2]; simp [ev_ne, ev_self, sz_put, hsz]
  have hsz2 : A2.tmps.size = 170 := by rw [← hA2]; simp [sz_put, hsz]
  have HA2 := Lib.hid hA2
  clear hA2 hA7 hA8 hA9 hsz C D
  refine wpAnyH_ready (rs := [8, 9]) (by kernel_rfl) (by simp) ?_
  refine AllReadyH.cons h4_8_8 (fun K hK => ?_) (AllReadyH.cons h4_8_9 (fun K hK => ?_) AllReadyH.nil)
  · refine wp_newH rfl rfl (fun qp W1 H1 g1 l1 => hK.out _ _ (grew_trans G0.out g1) (fun _ => ?_))
    clear hK K
    rw [d4_8_8]
    refine wpAnyH_ready (rs := [9]) (by kernel_rfl) (by simp) ?_
    refine AllReadyH.cons h4_8_9 (fun K hK => ?_) AllReadyH.nil
    refine wp_newH rfl rfl (fun qr W2 H2 g2 l2 => hK.out _ _ (grew_trans G0.out (grew_trans g1 g2)) (fun _ => ?_))
    clear hK K
    rw [d4_8_9]
    have hlt1 : qp < qr := Nat.lt_of_lt_of_le H1.lt l2
    have hwq1 : wr.heap.size ≤ qp := Nat.le_trans G0.out.size l1
    have hwq2 : wr.heap.size ≤ qr := by omega
    have H1b := H1.grew g2 (by simp)
    have HP := Lib.hid H1b
    have HR := Lib.hid H2
    have GW := Lib.hid (grew_trans G0.out (grew_trans g1 g2))
    clear H1 H1b H2 g1 g2 l1 l2
    refine wpAnyH_ready (rs := [10]) (by kernel_rfl) (by simp) ?_
    refine AllReadyH.cons h4_8_10 (fun K hK => ?_) AllReadyH.nil
    refine wp_storeH (q := qp) (f := p) rfl rfl (by simp [ev_ne, ev_self, sz_put, e99, e103, hsz2]) (by simp [ev_ne, ev_self, sz_put, e99, e103, hsz2]) HP.out (fun W3 H3 f3 => hK.out _ _ (grew_fr GW.out f3 (fun i hi => by subst hi; assumption)) (fun _ => ?_))
    clear hK K
    rw [d4_8_10, put_none]
    have HR3 := Lib.hid (HR.out.fr f3 (by omega))
    have GW3 := Lib.hid (grew_fr GW.out f3 (fun i hi => by subst hi; assumption))
    clear HP HR GW f3
    refine wpAnyH_ready (rs := [11]) (by kernel_rfl) (by simp) ?_
    refine AllReadyH.cons h4_8_11 (fun K hK => ?_) AllReadyH.nil
    refine wp_storeH (q := qr) (f := .mk p.k p.s p.l p.h p.t rA rc p.ps) rfl rfl (by simp [ev_ne, ev_self, sz_put, e99, e103, hsz2]) (by simp [ev_ne, ev_self, sz_put, e99, e103, hsz2]) HR3.out (fun W4 H4 f4 => hK.out _ _ (grew_fr GW3.out f4 (fun i hi => by subst hi; assumption)) (fun _ => ?_))
    clear hK K
    rw [d4_8_11, put_none]
    refine wpAnyH_done (by kernel_rfl) ?_ _
    exact ⟨rfl, qp, qr, by rw [HA2.out], H3.fr f4 (by omega), H4, grew_fr GW3.out f4 (fun i hi => by subst hi; assumption)⟩
  · refine wp_newH rfl rfl (fun qr W1 H1 g1 l1 => hK.out _ _ (grew_trans G0.out g1) (fun _ => ?_))
    clear hK K
    rw [d4_8_9]
    refine wpAnyH_ready (rs := [8]) (by kernel_rfl) (by simp) ?_
    refine AllReadyH.cons h4_8_8 (fun K hK => ?_) AllReadyH.nil
    refine wp_newH rfl rfl (fun qp W2 H2 g2 l2 => hK.out _ _ (grew_trans G0.out (grew_trans g1 g2)) (fun _ => ?_))
    clear hK K
    rw [d4_8_8]
    have hlt1 : qr < qp := Nat.lt_of_lt_of_le H1.lt l2
    have hwq1 : wr.heap.size ≤ qr := Nat.le_trans G0.out.size l1
    have hwq2 : wr.heap.size ≤ qp := by omega
    have H1b := H1.grew g2 (by simp)
    have HP := Lib.hid H2
    have HR := Lib.hid H1b
    have GW := Lib.hid (grew_trans G0.out (grew_trans g1 g2))
    clear H1 H1b H2 g1 g2 l1 l2
    refine wpAnyH_ready (rs := [10]) (by kernel_rfl) (by simp) ?_
    refine AllReadyH.cons h4_8_10 (fun K hK => ?_) AllReadyH.nil
    refine wp_storeH (q := qp) (f := p) rfl rfl (by simp [ev_ne, ev_self, sz_put, e99, e103, hsz2]) (by simp [ev_ne, ev_self, sz_put, e99, e103, hsz2]) HP.out (fun W3 H3 f3 => hK.out _ _ (grew_fr GW.out f3 (fun i hi => by subst hi; assumption)) (fun _ => ?_))
    clear hK K
    rw [d4_8_10, put_none]
    have HR3 := Lib.hid (HR.out.fr f3 (by omega))
    have GW3 := Lib.hid (grew_fr GW.out f3 (fun i hi => by subst hi; assumption))
    clear HP HR GW f3
    refine wpAnyH_ready (rs := [11]) (by kernel_rfl) (by simp) ?_
    refine AllReadyH.cons h4_8_11 (fun K hK => ?_) AllReadyH.nil
    refine wp_storeH (q := qr) (f := .mk p.k p.s p.l p.h p.t rA rc p.ps) rfl rfl (by simp [ev_ne, ev_self, sz_put, e99, e103, hsz2]) (by simp [ev_ne, ev_self, sz_put, e99, e103, hsz2]) HR3.out (fun W4 H4 f4 => hK.out _ _ (grew_fr GW3.out f4 (fun i hi => by subst hi; assumption)) (fun _ => ?_))
    clear hK K
    rw [d4_8_11, put_none]
    refine wpAnyH_done (by kernel_rfl) ?_ _
    exact ⟨rfl, qp, qr, by rw [HA2.out]; exact pc _ 11 10 _ _ (by decide), H3.fr f4 (by omega), H4, grew_fr GW3.out f4 (fun i hi => by subst hi; assumption)⟩
end Go.Proofs.Ytlehehibfpbhmaa

