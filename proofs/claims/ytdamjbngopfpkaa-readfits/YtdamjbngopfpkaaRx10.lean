/- Reading: a form is counted, and read by its Kind's step. -/
import Derived.Test.YtdamjbngopfpkaaRl
import Derived.Deep.Cut
namespace Go.Proofs.Ytdamjbngopfpkaa
open Go.RowKit Va

set_option maxRecDepth 100000 in
set_option maxHeartbeats 4000000 in
theorem rform_any (w0 : World) (r : Nat) (t : Option Nat) (f : Fo) (kk : Nat) (hk : f.k = kk) (hk6 : kk < 6) (G : FuncId) (hG : (rcells t)[1 + kk]? = some (.func (.func G) #[] #[])) (hen : ∀ args w, (callFunc G args).run Try.prog w = .ok (.enter G args) w)
    (hstep : ∀ (w : World) (p : Nat) (m c : Int) (xs : List UInt8) (a : Int), Pre w0 w r p t m c xs a → (t ≠ none → c + (Rd.bd f xs).c ≤ m) → Calls Try.prog G #[.pointer (some ⟨r, 0, none⟩), .pointer (some ⟨p, 0, none⟩), f.val] w (Got w0 w p t m c xs a (Rd.bd f xs))) : Reads w0 r t f := by
  intro w p m c xs a hpre hm
  obtain ⟨g0, k0, k1, k2, ks⟩ := three_new w #[.int .i64 f.k, .int .i64 f.s, .int .i64 f.l, .int .i64 f.h, .int .i64 f.t, .slice f.A f.ps.length f.c] 24 #[.int .u64 0, .slice none 0 0, .slice none 0 0] 35 #[.int .i64 0, .int .i64 0] 62
  have HF := Lib.hid hpre.flt
  have HRL := Lib.hid (show r < w.heap.size from hpre.rd.lt)
  have H0 := Lib.hid hpre.g.size
  have PW := Lib.hid (hpre.fr (F := fun _ => False) (fr_of g0) (fun h => h) (fun _ _ h => h) (fun _ h => h.elim))
  have G0 := Lib.hid g0
  have K0 := Lib.hid (show Whole _ w.heap.size f.cells 24 from k0)
  have K1 := Lib.hid k1
  have K2 := Lib.hid k2
  have KS := Lib.hid ks
  have HST := Lib.hid (fun (w : World) (p : Nat) (m c : Int) (a : Int) => hstep w p m c xs a)
  have HEN := Lib.hid hen
  have HGG := Lib.hid hG
  have HKK := Lib.hid hk
  have HK6 := Lib.hid hk6
  have HM := Lib.hid (show t ≠ none → c + 1 + (Rd.bd f xs).c ≤ m from fun ht => by
    have h1 := hm ht
    have h2 : (Rd.rd f xs).c = (Rd.bd f xs).c + 1 := rfl
    rw [h2] at h1
    omega)
  have hR : Rd.rd f xs = ⟨(Rd.bd f xs).e, (Rd.bd f xs).n, (Rd.bd f xs).v, (Rd.bd f xs).c + 1⟩ := rfl
  rw [hR]
  clear hR hpre g0 k0 k1 k2 ks hstep hen hG hk hk6 hm
  rw [show f.val = .agg #[.int .i64 f.k, .int .i64 f.s, .int .i64 f.l, .int .i64 f.h, .int .i64 f.t, .slice f.A f.ps.length f.c] from rfl]
  generalize Rd.bd f xs = RR at *
  cases t with
  | none =>
    have r0 := PW.out.rd.cell 0
    change _ = some (Value.pointer none) at r0
    go_enter Try.func37, Try.ntmps37
    go_upto_region 3 with (fail)
    clear r0
    have PX := Lib.hid (show Pre w0 _ r p none m (c + 1) xs a from ⟨PW.out.g, PW.out.rd, PW.out.cr, PW.out.tl, fun q hq => by cases hq⟩)
    have GX := Lib.hid (show Fr w _ (Ft p none) from fr_of G0.out)
    clear PW G0
    generalize ((w.alloc (.cells #[.int .i64 f.k, .int .i64 f.s, .int .i64 f.l, .int .i64 f.h, .int .i64 f.t, .slice f.A f.ps.length f.c] 24)).alloc (.cells #[.int .u64 0, .slice none 0 0, .slice none 0 0] 35)).alloc (.cells #[.int .i64 0, .int .i64 0] 62) = X at *
    have XS := Lib.hid (show w.heap.size + 3 ≤ X.heap.size by rw [KS.out]; exact Nat.le_refl _)
    have PD := Lib.hid (PX.out.fr (F := fun _ => False) ((Fr.refl X (fun _ => False)).drew) (fun h => h) (fun _ _ h => h) (fun _ h => h.elim))
    have GS := Lib.hid (show (fun w' => Whole w' w.heap.size f.cells 24 ∧ Whole w' r (rcells none) 78) X.drew from ⟨K0.out, PD.out.rd⟩)
    have KD0 := Lib.hid (show Whole X.drew w.heap.size f.cells 24 from K0.out)
    have KD1 := Lib.hid (show Whole X.drew (w.heap.size + 1) _ _ from K1.out)
    have KD2 := Lib.hid (show Whole X.drew (w.heap.size + 2) _ _ from K2.out)
    have GD := Lib.hid (show Fr w X.drew (Ft p none) from GX.out.drew)
    have XD := Lib.hid (show w.heap.size + 3 ≤ X.drew.heap.size from XS.out)
    have NR := Lib.hid (show ¬ Ft p none r from PD.out.rne)
    have HLO := Lib.hid (show ∀ i, w.heap.size ≤ i → ¬ Ft p none i from fun i hi e => by have := HF.out i e; omega)
    clear K0 K1 K2 GX XS KS
    refine act_letterC (fun A1 hA1 => ?_)
    have d0 : A1.eval (.tmp 0) = .pointer (some ⟨r, 0, none⟩) := by rw [← hA1]; rfl
    have d1 : A1.eval (.tmp 1) = .pointer (some ⟨p, 0, none⟩) := by rw [← hA1]; rfl
    have d5 : A1.eval (.tmp 5) = .pointer (some ⟨w.heap.size, 0, none⟩) := by rw [← hA1]; rfl
    have d6 : A1.eval (.tmp 6) = .pointer (some ⟨w.heap.size + 1, 0, none⟩) := by rw [← hA1]; rfl
    have d7 : A1.eval (.tmp 7) = .pointer (some ⟨w.heap.size + 2, 0, none⟩) := by rw [← hA1]; rfl
    have szA1 : A1.tmps.size = 38 := by rw [← hA1]; rfl
    have HA1 := Lib.hid hA1
    clear hA1
    refine wp_region_held (S := fun w' => Whole w' w.heap.size f.cells 24 ∧ Whole w' r (rcells none) 78) (by kernel_rfl) ?_
    change wpAnyH _ _ _ _ _ _ _ _ (World.drew X)
    refine wpAnyH_take (i := 0) (v := .pointer (some ⟨r, 0, none⟩)) rfl (by kernel_rfl) (by kernel_rfl) (by kernel_rfl) (fun _ _ _ h => h) (.inl ⟨rfl, fun w g => run_moveV rfl d0 w⟩) GS.out ?_
    refine act_letter (fun A2 hA2 => ?_)
    replace d0 : A2.eval (.tmp 0) = .pointer (some ⟨r, 0, none⟩) := by rw [← hA2]; exact (ev_ne A1 (m := 25) (n := 0) (.pointer (some ⟨r, 0, none⟩)) (by decide)).trans d0
    replace d1 : A2.eval (.tmp 1) = .pointer (some ⟨p, 0, none⟩) := by rw [← hA2]; exact (ev_ne A1 (m := 25) (n := 1) (.pointer (some ⟨r, 0, none⟩)) (by decide)).trans d1
    replace d5 : A2.eval (.tmp 5) = .pointer (some ⟨w.heap.size, 0, none⟩) := by rw [← hA2]; exact (ev_ne A1 (m := 25) (n := 5) (.pointer (some ⟨r, 0, none⟩)) (by decide)).trans d5
    replace d6 : A2.eval (.tmp 6) = .pointer (some ⟨w.heap.size + 1, 0, none⟩) := by rw [← hA2]; exact (ev_ne A1 (m := 25) (n := 6) (.pointer (some ⟨r, 0, none⟩)) (by decide)).trans d6
    replace d7 : A2.eval (.tmp 7) = .pointer (some ⟨w.heap.size + 2, 0, none⟩) := by rw [← hA2]; exact (ev_ne A1 (m := 25) (n := 7) (.pointer (some ⟨r, 0, none⟩)) (by decide)).trans d7
    have e25 : A2.eval (.tmp 25) = .pointer (some ⟨r, 0, none⟩) := by rw [← hA2]; exact ev_self A1 25 (.pointer (some ⟨r, 0, none⟩)) (by omega)
    have szA2 : A2.tmps.size = 38 := by rw [← hA2]; exact (sz_put A1 25 (.pointer (some ⟨r, 0, none⟩))).trans szA1
    have HA2 := Lib.hid (show A1.put (some 25) (.pointer (some ⟨r, 0, none⟩)) = A2 from hA2)
    clear hA2 szA1
    have d25 := e25
    clear e25
    refine wpAnyH_take (i := 1) (v := .pointer (some ⟨w.heap.size, 0, none⟩)) rfl (by kernel_rfl) (by kernel_rfl) (by kernel_rfl) (fun _ _ _ h => h) (.inl ⟨rfl, fun w g => run_fieldF0 rfl d5 w⟩) GS.out ?_
    refine act_letter (fun A3 hA3 => ?_)
    replace d0 : A3.eval (.tmp 0) = .pointer (some ⟨r, 0, none⟩) := by rw [← hA3]; exact (ev_ne A2 (m := 26) (n := 0) (.pointer (some ⟨w.heap.size, 0, none⟩)) (by decide)).trans d0
    replace d1 : A3.eval (.tmp 1) = .pointer (some ⟨p, 0, none⟩) := by rw [← hA3]; exact (ev_ne A2 (m := 26) (n := 1) (.pointer (some ⟨w.heap.size, 0, none⟩)) (by decide)).trans d1
    replace d5 : A3.eval (.tmp 5) = .pointer (some ⟨w.heap.size, 0, none⟩) := by rw [← hA3]; exact (ev_ne A2 (m := 26) (n := 5) (.pointer (some ⟨w.heap.size, 0, none⟩)) (by decide)).trans d5
    replace d6 : A3.eval (.tmp 6) = .pointer (some ⟨w.heap.size + 1, 0, none⟩) := by rw [← hA3]; exact (ev_ne A2 (m := 26) (n := 6) (.pointer (some ⟨w.heap.size, 0, none⟩)) (by decide)).trans d6
    replace d7 : A3.eval (.tmp 7) = .pointer (some ⟨w.heap.size + 2, 0, none⟩) := by rw [← hA3]; exact (ev_ne A2 (m := 26) (n := 7) (.pointer (some ⟨w.heap.size, 0, none⟩)) (by decide)).trans d7
    replace d25 : A3.eval (.tmp 25) = .pointer (some ⟨r, 0, none⟩) := by rw [← hA3]; exact (ev_ne A2 (m := 26) (n := 25) (.pointer (some ⟨w.heap.size, 0, none⟩)) (by decide)).trans d25
    have e26 : A3.eval (.tmp 26) = .pointer (some ⟨w.heap.size, 0, none⟩) := by rw [← hA3]; exact ev_self A2 26 (.pointer (some ⟨w.heap.size, 0, none⟩)) (by omega)
    have szA3 : A3.tmps.size = 38 := by rw [← hA3]; exact (sz_put A2 26 (.pointer (some ⟨w.heap.size, 0, none⟩))).trans szA2
    have HA3 := Lib.hid (show A2.put (some 26) (.pointer (some ⟨w.heap.size, 0, none⟩)) = A3 from hA3)
    clear hA3 szA2
    have d26 := e26
    clear e26
    refine wpAnyH_take (i := 2) (v := .int .i64 f.k) rfl (by kernel_rfl) (by kernel_rfl) (by kernel_rfl) (fun _ _ _ h => h) (.inl ⟨rfl, fun w g => run_int rfl d26 (g.1.cell 0)⟩) GS.out ?_
    refine act_letter (fun A4 hA4 => ?_)
    replace d0 : A4.eval (.tmp 0) = .pointer (some ⟨r, 0, none⟩) := by rw [← hA4]; exact (ev_ne A3 (m := 27) (n := 0) (.int .i64 f.k) (by decide)).trans d0
    replace d1 : A4.eval (.tmp 1) = .pointer (some ⟨p, 0, none⟩) := by rw [← hA4]; exact (ev_ne A3 (m := 27) (n := 1) (.int .i64 f.k) (by decide)).trans d1
    replace d5 : A4.eval (.tmp 5) = .pointer (some ⟨w.heap.size, 0, none⟩) := by rw [← hA4]; exact (ev_ne A3 (m := 27) (n := 5) (.int .i64 f.k) (by decide)).trans d5
    replace d6 : A4.eval (.tmp 6) = .pointer (some ⟨w.heap.size + 1, 0, none⟩) := by rw [← hA4]; exact (ev_ne A3 (m := 27) (n := 6) (.int .i64 f.k) (by decide)).trans d6
    replace d7 : A4.eval (.tmp 7) = .pointer (some ⟨w.heap.size + 2, 0, none⟩) := by rw [← hA4]; exact (ev_ne A3 (m := 27) (n := 7) (.int .i64 f.k) (by decide)).trans d7
    replace d25 : A4.eval (.tmp 25) = .pointer (some ⟨r, 0, none⟩) := by rw [← hA4]; exact (ev_ne A3 (m := 27) (n := 25) (.int .i64 f.k) (by decide)).trans d25
    have e27 : A4.eval (.tmp 27) = .int .i64 f.k := by rw [← hA4]; exact ev_self A3 27 (.int .i64 f.k) (by omega)
    have szA4 : A4.tmps.size = 38 := by rw [← hA4]; exact (sz_put A3 27 (.int .i64 f.k)).trans szA3
    have HA4 := Lib.hid (show A3.put (some 27) (.int .i64 f.k) = A4 from hA4)
    clear hA4 szA3 d26
    have d27 := e27
    clear e27
    refine wpAnyH_take (i := 3) (v := .pointer (some ⟨r, 0, none⟩)) rfl (by kernel_rfl) (by kernel_rfl) (by kernel_rfl) (fun _ _ _ h => h) (.inl ⟨rfl, fun w g => run_nilc rfl d25 w⟩) GS.out ?_
    refine act_letter (fun A5 hA5 => ?_)
    replace d0 : A5.eval (.tmp 0) = .pointer (some ⟨r, 0, none⟩) := by rw [← hA5]; exact (ev_ne A4 (m := 28) (n := 0) (.pointer (some ⟨r, 0, none⟩)) (by decide)).trans d0
    replace d1 : A5.eval (.tmp 1) = .pointer (some ⟨p, 0, none⟩) := by rw [← hA5]; exact (ev_ne A4 (m := 28) (n := 1) (.pointer (some ⟨r, 0, none⟩)) (by decide)).trans d1
    replace d5 : A5.eval (.tmp 5) = .pointer (some ⟨w.heap.size, 0, none⟩) := by rw [← hA5]; exact (ev_ne A4 (m := 28) (n := 5) (.pointer (some ⟨r, 0, none⟩)) (by decide)).trans d5
    replace d6 : A5.eval (.tmp 6) = .pointer (some ⟨w.heap.size + 1, 0, none⟩) := by rw [← hA5]; exact (ev_ne A4 (m := 28) (n := 6) (.pointer (some ⟨r, 0, none⟩)) (by decide)).trans d6
    replace d7 : A5.eval (.tmp 7) = .pointer (some ⟨w.heap.size + 2, 0, none⟩) := by rw [← hA5]; exact (ev_ne A4 (m := 28) (n := 7) (.pointer (some ⟨r, 0, none⟩)) (by decide)).trans d7
    replace d27 : A5.eval (.tmp 27) = .int .i64 f.k := by rw [← hA5]; exact (ev_ne A4 (m := 28) (n := 27) (.pointer (some ⟨r, 0, none⟩)) (by decide)).trans d27
    have e28 : A5.eval (.tmp 28) = .pointer (some ⟨r, 0, none⟩) := by rw [← hA5]; exact ev_self A4 28 (.pointer (some ⟨r, 0, none⟩)) (by omega)
    have szA5 : A5.tmps.size = 38 := by rw [← hA5]; exact (sz_put A4 28 (.pointer (some ⟨r, 0, none⟩))).trans szA4
    have HA5 := Lib.hid (show A4.put (some 28) (.pointer (some ⟨r, 0, none⟩)) = A5 from hA5)
    clear hA5 szA4 d25
    have d28 := e28
    clear e28
    refine wpAnyH_take (i := 4) (v := .pointer (some ⟨r, 1, none⟩)) rfl (by kernel_rfl) (by kernel_rfl) (by kernel_rfl) (fun _ _ _ h => h) (.inl ⟨rfl, fun w g => run_fieldR rfl d28 w⟩) GS.out ?_
    refine act_letter (fun A6 hA6 => ?_)
    replace d0 : A6.eval (.tmp 0) = .pointer (some ⟨r, 0, none⟩) := by rw [← hA6]; exact (ev_ne A5 (m := 29) (n := 0) (.pointer (some ⟨r, 1, none⟩)) (by decide)).trans d0
    replace d1 : A6.eval (.tmp 1) = .pointer (some ⟨p, 0, none⟩) := by rw [← hA6]; exact (ev_ne A5 (m := 29) (n := 1) (.pointer (some ⟨r, 1, none⟩)) (by decide)).trans d1
    replace d5 : A6.eval (.tmp 5) = .pointer (some ⟨w.heap.size, 0, none⟩) := by rw [← hA6]; exact (ev_ne A5 (m := 29) (n := 5) (.pointer (some ⟨r, 1, none⟩)) (by decide)).trans d5
    replace d6 : A6.eval (.tmp 6) = .pointer (some ⟨w.heap.size + 1, 0, none⟩) := by rw [← hA6]; exact (ev_ne A5 (m := 29) (n := 6) (.pointer (some ⟨r, 1, none⟩)) (by decide)).trans d6
    replace d7 : A6.eval (.tmp 7) = .pointer (some ⟨w.heap.size + 2, 0, none⟩) := by rw [← hA6]; exact (ev_ne A5 (m := 29) (n := 7) (.pointer (some ⟨r, 1, none⟩)) (by decide)).trans d7
    replace d27 : A6.eval (.tmp 27) = .int .i64 f.k := by rw [← hA6]; exact (ev_ne A5 (m := 29) (n := 27) (.pointer (some ⟨r, 1, none⟩)) (by decide)).trans d27
    have e29 : A6.eval (.tmp 29) = .pointer (some ⟨r, 1, none⟩) := by rw [← hA6]; exact ev_self A5 29 (.pointer (some ⟨r, 1, none⟩)) (by omega)
    have szA6 : A6.tmps.size = 38 := by rw [← hA6]; exact (sz_put A5 29 (.pointer (some ⟨r, 1, none⟩))).trans szA5
    have HA6 := Lib.hid (show A5.put (some 29) (.pointer (some ⟨r, 1, none⟩)) = A6 from hA6)
    clear hA6 szA5 d28
    have d29 := e29
    clear e29
    refine wpAnyH_take (i := 5) (v := .pointer (some ⟨r, 1 + kk, none⟩)) rfl (by kernel_rfl) (by kernel_rfl) (by kernel_rfl) (fun _ _ _ h => h) (.inl ⟨rfl, fun w g => run_idx rfl d29 (d27.trans (by rw [HKK.out])) HK6.out w⟩) GS.out ?_
    refine act_letter (fun A7 hA7 => ?_)
    replace d0 : A7.eval (.tmp 0) = .pointer (some ⟨r, 0, none⟩) := by rw [← hA7]; exact (ev_ne A6 (m := 30) (n := 0) (.pointer (some ⟨r, 1 + kk, none⟩)) (by decide)).trans d0
    replace d1 : A7.eval (.tmp 1) = .pointer (some ⟨p, 0, none⟩) := by rw [← hA7]; exact (ev_ne A6 (m := 30) (n := 1) (.pointer (some ⟨r, 1 + kk, none⟩)) (by decide)).trans d1
    replace d5 : A7.eval (.tmp 5) = .pointer (some ⟨w.heap.size, 0, none⟩) := by rw [← hA7]; exact (ev_ne A6 (m := 30) (n := 5) (.pointer (some ⟨r, 1 + kk, none⟩)) (by decide)).trans d5
    replace d6 : A7.eval (.tmp 6) = .pointer (some ⟨w.heap.size + 1, 0, none⟩) := by rw [← hA7]; exact (ev_ne A6 (m := 30) (n := 6) (.pointer (some ⟨r, 1 + kk, none⟩)) (by decide)).trans d6
    replace d7 : A7.eval (.tmp 7) = .pointer (some ⟨w.heap.size + 2, 0, none⟩) := by rw [← hA7]; exact (ev_ne A6 (m := 30) (n := 7) (.pointer (some ⟨r, 1 + kk, none⟩)) (by decide)).trans d7
    have e30 : A7.eval (.tmp 30) = .pointer (some ⟨r, 1 + kk, none⟩) := by rw [← hA7]; exact ev_self A6 30 (.pointer (some ⟨r, 1 + kk, none⟩)) (by omega)
    have szA7 : A7.tmps.size = 38 := by rw [← hA7]; exact (sz_put A6 30 (.pointer (some ⟨r, 1 + kk, none⟩))).trans szA6
    have HA7 := Lib.hid (show A6.put (some 30) (.pointer (some ⟨r, 1 + kk, none⟩)) = A7 from hA7)
    clear hA7 szA6 d27 d29
    have d30 := e30
    clear e30
    refine wpAnyH_take (i := 6) (v := .func (.func G) #[] #[]) rfl (by kernel_rfl) (by kernel_rfl) (by kernel_rfl) (fun _ _ _ h => h) (.inl ⟨rfl, fun w g => run_fn rfl d30 ((g.2.cell (1 + kk)).trans HGG.out)⟩) GS.out ?_
    refine act_letter (fun A8 hA8 => ?_)
    replace d0 : A8.eval (.tmp 0) = .pointer (some ⟨r, 0, none⟩) := by rw [← hA8]; exact (ev_ne A7 (m := 31) (n := 0) (.func (.func G) #[] #[]) (by decide)).trans d0
    replace d1 : A8.eval (.tmp 1) = .pointer (some ⟨p, 0, none⟩) := by rw [← hA8]; exact (ev_ne A7 (m := 31) (n := 1) (.func (.func G) #[] #[]) (by decide)).trans d1
    replace d5 : A8.eval (.tmp 5) = .pointer (some ⟨w.heap.size, 0, none⟩) := by rw [← hA8]; exact (ev_ne A7 (m := 31) (n := 5) (.func (.func G) #[] #[]) (by decide)).trans d5
    replace d6 : A8.eval (.tmp 6) = .pointer (some ⟨w.heap.size + 1, 0, none⟩) := by rw [← hA8]; exact (ev_ne A7 (m := 31) (n := 6) (.func (.func G) #[] #[]) (by decide)).trans d6
    replace d7 : A8.eval (.tmp 7) = .pointer (some ⟨w.heap.size + 2, 0, none⟩) := by rw [← hA8]; exact (ev_ne A7 (m := 31) (n := 7) (.func (.func G) #[] #[]) (by decide)).trans d7
    have e31 : A8.eval (.tmp 31) = .func (.func G) #[] #[] := by rw [← hA8]; exact ev_self A7 31 (.func (.func G) #[] #[]) (by omega)
    have szA8 : A8.tmps.size = 38 := by rw [← hA8]; exact (sz_put A7 31 (.func (.func G) #[] #[])).trans szA7
    have HA8 := Lib.hid (show A7.put (some 31) (.func (.func G) #[] #[]) = A8 from hA8)
    clear hA8 szA7 d30
    have d31 := e31
    clear e31
    refine wpAnyH_take (i := 7) (v := .pointer (some ⟨r, 0, none⟩)) rfl (by kernel_rfl) (by kernel_rfl) (by kernel_rfl) (fun _ _ _ h => h) (.inl ⟨rfl, fun w g => run_moveV rfl d0 w⟩) GS.out ?_
    refine act_letter (fun A9 hA9 => ?_)
    replace d0 : A9.eval (.tmp 0) = .pointer (some ⟨r, 0, none⟩) := by rw [← hA9]; exact (ev_ne A8 (m := 32) (n := 0) (.pointer (some ⟨r, 0, none⟩)) (by decide)).trans d0
    replace d1 : A9.eval (.tmp 1) = .pointer (some ⟨p, 0, none⟩) := by rw [← hA9]; exact (ev_ne A8 (m := 32) (n := 1) (.pointer (some ⟨r, 0, none⟩)) (by decide)).trans d1
    replace d5 : A9.eval (.tmp 5) = .pointer (some ⟨w.heap.size, 0, none⟩) := by rw [← hA9]; exact (ev_ne A8 (m := 32) (n := 5) (.pointer (some ⟨r, 0, none⟩)) (by decide)).trans d5
    replace d6 : A9.eval (.tmp 6) = .pointer (some ⟨w.heap.size + 1, 0, none⟩) := by rw [← hA9]; exact (ev_ne A8 (m := 32) (n := 6) (.pointer (some ⟨r, 0, none⟩)) (by decide)).trans d6
    replace d7 : A9.eval (.tmp 7) = .pointer (some ⟨w.heap.size + 2, 0, none⟩) := by rw [← hA9]; exact (ev_ne A8 (m := 32) (n := 7) (.pointer (some ⟨r, 0, none⟩)) (by decide)).trans d7
    replace d31 : A9.eval (.tmp 31) = .func (.func G) #[] #[] := by rw [← hA9]; exact (ev_ne A8 (m := 32) (n := 31) (.pointer (some ⟨r, 0, none⟩)) (by decide)).trans d31
    have e32 : A9.eval (.tmp 32) = .pointer (some ⟨r, 0, none⟩) := by rw [← hA9]; exact ev_self A8 32 (.pointer (some ⟨r, 0, none⟩)) (by omega)
    have szA9 : A9.tmps.size = 38 := by rw [← hA9]; exact (sz_put A8 32 (.pointer (some ⟨r, 0, none⟩))).trans szA8
    have HA9 := Lib.hid (show A8.put (some 32) (.pointer (some ⟨r, 0, none⟩)) = A9 from hA9)
    clear hA9 szA8
    have d32 := e32
    clear e32
    refine wpAnyH_take (i := 8) (v := .pointer (some ⟨p, 0, none⟩)) rfl (by kernel_rfl) (by kernel_rfl) (by kernel_rfl) (fun _ _ _ h => h) (.inl ⟨rfl, fun w g => run_moveV rfl d1 w⟩) GS.out ?_
    refine act_letter (fun A10 hA10 => ?_)
    replace d0 : A10.eval (.tmp 0) = .pointer (some ⟨r, 0, none⟩) := by rw [← hA10]; exact (ev_ne A9 (m := 33) (n := 0) (.pointer (some ⟨p, 0, none⟩)) (by decide)).trans d0
    replace d1 : A10.eval (.tmp 1) = .pointer (some ⟨p, 0, none⟩) := by rw [← hA10]; exact (ev_ne A9 (m := 33) (n := 1) (.pointer (some ⟨p, 0, none⟩)) (by decide)).trans d1
    replace d5 : A10.eval (.tmp 5) = .pointer (some ⟨w.heap.size, 0, none⟩) := by rw [← hA10]; exact (ev_ne A9 (m := 33) (n := 5) (.pointer (some ⟨p, 0, none⟩)) (by decide)).trans d5
    replace d6 : A10.eval (.tmp 6) = .pointer (some ⟨w.heap.size + 1, 0, none⟩) := by rw [← hA10]; exact (ev_ne A9 (m := 33) (n := 6) (.pointer (some ⟨p, 0, none⟩)) (by decide)).trans d6
    replace d7 : A10.eval (.tmp 7) = .pointer (some ⟨w.heap.size + 2, 0, none⟩) := by rw [← hA10]; exact (ev_ne A9 (m := 33) (n := 7) (.pointer (some ⟨p, 0, none⟩)) (by decide)).trans d7
    replace d31 : A10.eval (.tmp 31) = .func (.func G) #[] #[] := by rw [← hA10]; exact (ev_ne A9 (m := 33) (n := 31) (.pointer (some ⟨p, 0, none⟩)) (by decide)).trans d31
    replace d32 : A10.eval (.tmp 32) = .pointer (some ⟨r, 0, none⟩) := by rw [← hA10]; exact (ev_ne A9 (m := 33) (n := 32) (.pointer (some ⟨p, 0, none⟩)) (by decide)).trans d32
    have e33 : A10.eval (.tmp 33) = .pointer (some ⟨p, 0, none⟩) := by rw [← hA10]; exact ev_self A9 33 (.pointer (some ⟨p, 0, none⟩)) (by omega)
    have szA10 : A10.tmps.size = 38 := by rw [← hA10]; exact (sz_put A9 33 (.pointer (some ⟨p, 0, none⟩))).trans szA9
    have HA10 := Lib.hid (show A9.put (some 33) (.pointer (some ⟨p, 0, none⟩)) = A10 from hA10)
    clear hA10 szA9
    have d33 := e33
    clear e33
    refine wpAnyH_take (i := 9) (v := f.val) rfl (by kernel_rfl) (by kernel_rfl) (by kernel_rfl) (fun _ _ _ h => h) (.inl ⟨rfl, fun w g => run_form rfl d5 g.1⟩) GS.out ?_
    refine act_letter (fun A11 hA11 => ?_)
    replace d0 : A11.eval (.tmp 0) = .pointer (some ⟨r, 0, none⟩) := by rw [← hA11]; exact (ev_ne A10 (m := 34) (n := 0) (f.val) (by decide)).trans d0
    replace d1 : A11.eval (.tmp 1) = .pointer (some ⟨p, 0, none⟩) := by rw [← hA11]; exact (ev_ne A10 (m := 34) (n := 1) (f.val) (by decide)).trans d1
    replace d5 : A11.eval (.tmp 5) = .pointer (some ⟨w.heap.size, 0, none⟩) := by rw [← hA11]; exact (ev_ne A10 (m := 34) (n := 5) (f.val) (by decide)).trans d5
    replace d6 : A11.eval (.tmp 6) = .pointer (some ⟨w.heap.size + 1, 0, none⟩) := by rw [← hA11]; exact (ev_ne A10 (m := 34) (n := 6) (f.val) (by decide)).trans d6
    replace d7 : A11.eval (.tmp 7) = .pointer (some ⟨w.heap.size + 2, 0, none⟩) := by rw [← hA11]; exact (ev_ne A10 (m := 34) (n := 7) (f.val) (by decide)).trans d7
    replace d31 : A11.eval (.tmp 31) = .func (.func G) #[] #[] := by rw [← hA11]; exact (ev_ne A10 (m := 34) (n := 31) (f.val) (by decide)).trans d31
    replace d32 : A11.eval (.tmp 32) = .pointer (some ⟨r, 0, none⟩) := by rw [← hA11]; exact (ev_ne A10 (m := 34) (n := 32) (f.val) (by decide)).trans d32
    replace d33 : A11.eval (.tmp 33) = .pointer (some ⟨p, 0, none⟩) := by rw [← hA11]; exact (ev_ne A10 (m := 34) (n := 33) (f.val) (by decide)).trans d33
    have e34 : A11.eval (.tmp 34) = f.val := by rw [← hA11]; exact ev_self A10 34 (f.val) (by omega)
    have szA11 : A11.tmps.size = 38 := by rw [← hA11]; exact (sz_put A10 34 (f.val)).trans szA10
    have HA11 := Lib.hid (show A10.put (some 34) (f.val) = A11 from hA11)
    clear hA11 szA10
    have d34 := e34
    clear e34
    refine wpAnyH_ready (rs := [10]) (by kernel_rfl) (by simp) ?_
    refine AllReadyH.cons rfl (fun K hK => ?_) AllReadyH.nil
    refine wp_callV rfl (rfl) d31 HEN.out (vs := #[.pointer (some ⟨r, 0, none⟩), .pointer (some ⟨p, 0, none⟩), f.val]) (by simp [d32, d33, d34]) ((HST.out _ p m (c + 1) a PD.out HM.out).mono ?_)
    rintro e x1 ⟨v, ys, a', rfl, hv, hi, hnf, hC, hx, hT, hF⟩
    refine ⟨_, rfl, hK.out _ _ (⟨KD0.out.fr hF (HLO.out _ (Nat.le_refl _)), PD.out.rd.fr hF NR.out⟩) (fun _ => ?_)⟩
    clear hK K
    have S1 := Lib.hid (show (fun w' => Whole w' w.heap.size f.cells 24 ∧ Whole w' r (rcells none) 78) x1 from ⟨KD0.out.fr hF (HLO.out _ (Nat.le_refl _)), PD.out.rd.fr hF NR.out⟩)
    have X1 := Lib.hid (show Whole x1 (w.heap.size + 1) _ _ from KD1.out.fr hF (HLO.out _ (by omega)))
    have X2 := Lib.hid (show Whole x1 (w.heap.size + 2) _ _ from KD2.out.fr hF (HLO.out _ (by omega)))
    have HV := Lib.hid (show v.In x1 ∧ v.Hi X.drew.heap.size ∧ v.nf = RR.v ∧ Cr x1 p w0.heap.size ys a' ∧ (RR.e = 0 → ys = xs.drop RR.n ∧ a' = a + RR.n) ∧ Tly x1 none m (c + 1 + RR.c) ∧ Fr w x1 (Ft p none) from ⟨hv, hi, hnf, hC, hx, hT, GD.out.trans hF (fun _ _ e => e)⟩)
    clear hv hi hnf hC hx hT hF KD0 KD1 KD2 PD GD
    clear GS
    refine act_letter (fun A12 hA12 => ?_)
    replace d6 : A12.eval (.tmp 6) = .pointer (some ⟨w.heap.size + 1, 0, none⟩) := by rw [← hA12]; exact (ev_ne A11 (m := 35) (n := 6) (.tuple #[v.val, fault (faI a RR) RR.e]) (by decide)).trans d6
    replace d7 : A12.eval (.tmp 7) = .pointer (some ⟨w.heap.size + 2, 0, none⟩) := by rw [← hA12]; exact (ev_ne A11 (m := 35) (n := 7) (.tuple #[v.val, fault (faI a RR) RR.e]) (by decide)).trans d7
    have e35 : A12.eval (.tmp 35) = .tuple #[v.val, fault (faI a RR) RR.e] := by rw [← hA12]; exact ev_self A11 35 (.tuple #[v.val, fault (faI a RR) RR.e]) (by omega)
    have szA12 : A12.tmps.size = 38 := by rw [← hA12]; exact (sz_put A11 35 (.tuple #[v.val, fault (faI a RR) RR.e])).trans szA11
    have HA12 := Lib.hid (show A11.put (some 35) (.tuple #[v.val, fault (faI a RR) RR.e]) = A12 from hA12)
    clear hA12 szA11 d0 d1 d5 d31 d32 d33 d34
    have d35 := e35
    clear e35
    refine wpAnyH_take (i := 11) (v := v.val) rfl (by kernel_rfl) (by kernel_rfl) (by kernel_rfl) (fun _ _ _ h => h) (.inl ⟨rfl, fun w g => run_ext0 rfl d35 w⟩) S1.out ?_
    refine act_letter (fun A13 hA13 => ?_)
    replace d6 : A13.eval (.tmp 6) = .pointer (some ⟨w.heap.size + 1, 0, none⟩) := by rw [← hA13]; exact (ev_ne A12 (m := 36) (n := 6) (v.val) (by decide)).trans d6
    replace d7 : A13.eval (.tmp 7) = .pointer (some ⟨w.heap.size + 2, 0, none⟩) := by rw [← hA13]; exact (ev_ne A12 (m := 36) (n := 7) (v.val) (by decide)).trans d7
    replace d35 : A13.eval (.tmp 35) = .tuple #[v.val, fault (faI a RR) RR.e] := by rw [← hA13]; exact (ev_ne A12 (m := 36) (n := 35) (v.val) (by decide)).trans d35
    have e36 : A13.eval (.tmp 36) = v.val := by rw [← hA13]; exact ev_self A12 36 (v.val) (by omega)
    have szA13 : A13.tmps.size = 38 := by rw [← hA13]; exact (sz_put A12 36 (v.val)).trans szA12
    have HA13 := Lib.hid (show A12.put (some 36) (v.val) = A13 from hA13)
    clear hA13 szA12
    have d36 := e36
    clear e36
    refine wpAnyH_take (i := 12) (v := fault (faI a RR) RR.e) rfl (by kernel_rfl) (by kernel_rfl) (by kernel_rfl) (fun _ _ _ h => h) (.inl ⟨rfl, fun w g => run_ext1 rfl d35 w⟩) S1.out ?_
    refine act_letter (fun A14 hA14 => ?_)
    replace d6 : A14.eval (.tmp 6) = .pointer (some ⟨w.heap.size + 1, 0, none⟩) := by rw [← hA14]; exact (ev_ne A13 (m := 37) (n := 6) (fault (faI a RR) RR.e) (by decide)).trans d6
    replace d7 : A14.eval (.tmp 7) = .pointer (some ⟨w.heap.size + 2, 0, none⟩) := by rw [← hA14]; exact (ev_ne A13 (m := 37) (n := 7) (fault (faI a RR) RR.e) (by decide)).trans d7
    replace d36 : A14.eval (.tmp 36) = v.val := by rw [← hA14]; exact (ev_ne A13 (m := 37) (n := 36) (fault (faI a RR) RR.e) (by decide)).trans d36
    have e37 : A14.eval (.tmp 37) = fault (faI a RR) RR.e := by rw [← hA14]; exact ev_self A13 37 (fault (faI a RR) RR.e) (by omega)
    have szA14 : A14.tmps.size = 38 := by rw [← hA14]; exact (sz_put A13 37 (fault (faI a RR) RR.e)).trans szA13
    have HA14 := Lib.hid (show A13.put (some 37) (fault (faI a RR) RR.e) = A14 from hA14)
    clear hA14 szA13 d35
    have d37 := e37
    clear e37
    refine wpAnyH_ready (rs := [13]) (by kernel_rfl) (by simp) ?_
    refine AllReadyH.cons rfl (fun K hK => ?_) AllReadyH.nil
    refine wp_skipG rfl (w' := put3 x1 (w.heap.size + 1) (.int .u64 v.n) (.slice v.B v.bs.length v.d) (.slice v.A v.ls.length v.c)) (run_storeVa rfl d6 d36 X1.out) (hK.out _ _ (⟨S1.out.1.fr (fr_put3 _ _ _ _ _) (by omega), S1.out.2.fr (fr_put3 _ _ _ _ _) (by have := HRL.out; omega)⟩) (fun _ => ?_))
    clear hK K
    have S2 := Lib.hid (show (fun w' => Whole w' w.heap.size f.cells 24 ∧ Whole w' r (rcells none) 78) (put3 x1 (w.heap.size + 1) (.int .u64 v.n) (.slice v.B v.bs.length v.d) (.slice v.A v.ls.length v.c)) from ⟨S1.out.1.fr (fr_put3 _ _ _ _ _) (by omega), S1.out.2.fr (fr_put3 _ _ _ _ _) (by have := HRL.out; omega)⟩)
    clear S1
    refine act_letter (fun A15 hA15 => ?_)
    replace d6 : A15.eval (.tmp 6) = .pointer (some ⟨w.heap.size + 1, 0, none⟩) := by rw [← hA15]; exact d6
    replace d7 : A15.eval (.tmp 7) = .pointer (some ⟨w.heap.size + 2, 0, none⟩) := by rw [← hA15]; exact d7
    replace d36 : A15.eval (.tmp 36) = v.val := by rw [← hA15]; exact d36
    replace d37 : A15.eval (.tmp 37) = fault (faI a RR) RR.e := by rw [← hA15]; exact d37
    have szA15 : A15.tmps.size = 38 := by rw [← hA15]; exact szA14
    have HA15 := Lib.hid (show A14 = A15 from hA15)
    clear hA15 szA14
    refine wpAnyH_ready (rs := [14]) (by kernel_rfl) (by simp) ?_
    refine AllReadyH.cons rfl (fun K hK => ?_) AllReadyH.nil
    refine wp_skipG rfl (w' := put2 (put3 x1 (w.heap.size + 1) (.int .u64 v.n) (.slice v.B v.bs.length v.d) (.slice v.A v.ls.length v.c)) (w.heap.size + 2) (.int .i64 (faI a RR)) (.int .i64 RR.e)) (run_storeFa rfl d7 d37 (X2.out.fr (fr_put3 _ _ _ _ _) (by omega))) (hK.out _ _ (⟨S2.out.1.fr (fr_put2 _ _ _ _) (by omega), S2.out.2.fr (fr_put2 _ _ _ _) (by have := HRL.out; omega)⟩) (fun _ => ?_))
    clear hK K
    have S3 := Lib.hid (show (fun w' => Whole w' w.heap.size f.cells 24 ∧ Whole w' r (rcells none) 78) (put2 (put3 x1 (w.heap.size + 1) (.int .u64 v.n) (.slice v.B v.bs.length v.d) (.slice v.A v.ls.length v.c)) (w.heap.size + 2) (.int .i64 (faI a RR)) (.int .i64 RR.e)) from ⟨S2.out.1.fr (fr_put2 _ _ _ _) (by omega), S2.out.2.fr (fr_put2 _ _ _ _) (by have := HRL.out; omega)⟩)
    clear S2
    refine act_letter (fun A16 hA16 => ?_)
    replace d6 : A16.eval (.tmp 6) = .pointer (some ⟨w.heap.size + 1, 0, none⟩) := by rw [← hA16]; exact d6
    replace d7 : A16.eval (.tmp 7) = .pointer (some ⟨w.heap.size + 2, 0, none⟩) := by rw [← hA16]; exact d7
    replace d36 : A16.eval (.tmp 36) = v.val := by rw [← hA16]; exact d36
    replace d37 : A16.eval (.tmp 37) = fault (faI a RR) RR.e := by rw [← hA16]; exact d37
    have szA16 : A16.tmps.size = 38 := by rw [← hA16]; exact szA15
    have HA16 := Lib.hid (show A15 = A16 from hA16)
    clear hA16 szA15
    refine wpAnyH_done (by kernel_rfl) ?_ _
    rw [← HA16.out, ← HA15.out, ← HA14.out, ← HA13.out, ← HA12.out, ← HA11.out, ← HA10.out, ← HA9.out, ← HA8.out, ← HA7.out, ← HA6.out, ← HA5.out, ← HA4.out, ← HA3.out, ← HA2.out, ← HA1.out]
    clear HA2 HA3 HA4 HA5 HA6 HA7 HA8 HA9 HA10 HA11 HA12 HA13 HA14 HA15 HA16 HA1 d6 d7 d36 d37 szA16
    simp only [Act.put, List.setIfInBounds_toArray, List.set_cons_zero, List.set_cons_succ]
    clear S3
    go_wp2_with fail
    obtain ⟨r1, r2, r3⟩ := put32 X1.out X2.out (by omega) (.int .u64 v.n) (.slice v.B v.bs.length v.d) (.slice v.A v.ls.length v.c) (.int .i64 (faI a RR)) (.int .i64 RR.e)
    refine bodyPost_ret (results_cells rfl _ _ _ _ _ _ _ _ _ _ _ _ rfl r1 Try.underlying35 rfl (by kernel_rfl) rfl r2 Try.underlying62 rfl (by kernel_rfl)) rfl ?_
    obtain ⟨hv, hi, hnf, hC, hx, hT, hF⟩ := HV.out
    have hxd := XD.out
    refine got_close (R := ⟨RR.e, RR.n, RR.v, RR.c + 1⟩) (v := v) (k := X.drew.heap.size) hF hC ?_ r3 (by omega) (by omega) HF.out hv hi (by omega) (by omega) hnf hx rfl
    have q1 : c + ((RR.c + 1 : Nat) : Int) = c + 1 + RR.c := by omega
    rw [q1]
    exact hT
  | some tq =>
    have r0 := PW.out.rd.cell 0
    change _ = some (Value.pointer (some ⟨tq, 0, none⟩)) at r0
    have hsp : spE m c 1 = 0 ∧ spC m c 1 = c + 1 := by
      have h1 := HM.out (by simp)
      exact ⟨spE_ok (by omega) (by omega), spC_ok (by omega) (by omega)⟩
    have HSP := Lib.hid hsp
    clear hsp
    go_enter Try.func37, Try.ntmps37
    go_wp2_with fail
    clear r0
    generalize ((w.alloc (.cells #[.int .i64 f.k, .int .i64 f.s, .int .i64 f.l, .int .i64 f.h, .int .i64 f.t, .slice f.A f.ps.length f.c] 24)).alloc (.cells #[.int .u64 0, .slice none 0 0, .slice none 0 0] 35)).alloc (.cells #[.int .i64 0, .int .i64 0] 62) = W at *
    refine (tspend_any W tq m c (PW.out.ty tq rfl) 1 (by omega)).mono ?_
    rintro e X ⟨rfl, hT, g⟩
    rw [HSP.out.1]
    rw [HSP.out.2] at hT
    have hFx : Fr W X (Ft p (some tq)) := Fr.of_grew' g (fun i e => .inr e)
    have hlo : ∀ i, w.heap.size ≤ i → ¬ Ft p (some tq) i := fun i hi e => by have := HF.out i e; omega
    have PX := Lib.hid (PW.out.got hFx (PW.out.cr.grew g (fun e => PW.out.tne e.symm) (fun k hk => by cases hk; exact PW.out.tl _ rfl)) (fun q hq => by cases hq; exact hT))
    have XS := Lib.hid (show w.heap.size + 3 ≤ X.heap.size by rw [← KS.out]; exact g.size)
    replace K0 := Lib.hid (K0.out.fr hFx (hlo _ (Nat.le_refl _)))
    replace K1 := Lib.hid (K1.out.fr hFx (hlo _ (by omega)))
    replace K2 := Lib.hid (K2.out.fr hFx (hlo _ (by omega)))
    have GX := Lib.hid (show Fr w X (Ft p (some tq)) from (fr_of G0.out).trans hFx (fun _ _ e => e))
    clear hT g hFx hlo PW G0
    go_upto_region 3 with (fail)
    have PD := Lib.hid (PX.out.fr (F := fun _ => False) ((Fr.refl X (fun _ => False)).drew) (fun h => h) (fun _ _ h => h) (fun _ h => h.elim))
    have GS := Lib.hid (show (fun w' => Whole w' w.heap.size f.cells 24 ∧ Whole w' r (rcells (some tq)) 78) X.drew from ⟨K0.out, PD.out.rd⟩)
    have KD0 := Lib.hid (show Whole X.drew w.heap.size f.cells 24 from K0.out)
    have KD1 := Lib.hid (show Whole X.drew (w.heap.size + 1) _ _ from K1.out)
    have KD2 := Lib.hid (show Whole X.drew (w.heap.size + 2) _ _ from K2.out)
    have GD := Lib.hid (show Fr w X.drew (Ft p (some tq)) from GX.out.drew)
    have XD := Lib.hid (show w.heap.size + 3 ≤ X.drew.heap.size from XS.out)
    have NR := Lib.hid (show ¬ Ft p (some tq) r from PD.out.rne)
    have HLO := Lib.hid (show ∀ i, w.heap.size ≤ i → ¬ Ft p (some tq) i from fun i hi e => by have := HF.out i e; omega)
    clear K0 K1 K2 GX XS KS
    refine act_letterC (fun A1 hA1 => ?_)
    have d0 : A1.eval (.tmp 0) = .pointer (some ⟨r, 0, none⟩) := by rw [← hA1]; rfl
    have d1 : A1.eval (.tmp 1) = .pointer (some ⟨p, 0, none⟩) := by rw [← hA1]; rfl
    have d5 : A1.eval (.tmp 5) = .pointer (some ⟨w.heap.size, 0, none⟩) := by rw [← hA1]; rfl
    have d6 : A1.eval (.tmp 6) = .pointer (some ⟨w.heap.size + 1, 0, none⟩) := by rw [← hA1]; rfl
    have d7 : A1.eval (.tmp 7) = .pointer (some ⟨w.heap.size + 2, 0, none⟩) := by rw [← hA1]; rfl
    have szA1 : A1.tmps.size = 38 := by rw [← hA1]; rfl
    have HA1 := Lib.hid hA1
    clear hA1
    refine wp_region_held (S := fun w' => Whole w' w.heap.size f.cells 24 ∧ Whole w' r (rcells (some tq)) 78) (by kernel_rfl) ?_
    change wpAnyH _ _ _ _ _ _ _ _ (World.drew X)
    refine wpAnyH_take (i := 0) (v := .pointer (some ⟨r, 0, none⟩)) rfl (by kernel_rfl) (by kernel_rfl) (by kernel_rfl) (fun _ _ _ h => h) (.inl ⟨rfl, fun w g => run_moveV rfl d0 w⟩) GS.out ?_
    refine act_letter (fun A2 hA2 => ?_)
    replace d0 : A2.eval (.tmp 0) = .pointer (some ⟨r, 0, none⟩) := by rw [← hA2]; exact (ev_ne A1 (m := 25) (n := 0) (.pointer (some ⟨r, 0, none⟩)) (by decide)).trans d0
    replace d1 : A2.eval (.tmp 1) = .pointer (some ⟨p, 0, none⟩) := by rw [← hA2]; exact (ev_ne A1 (m := 25) (n := 1) (.pointer (some ⟨r, 0, none⟩)) (by decide)).trans d1
    replace d5 : A2.eval (.tmp 5) = .pointer (some ⟨w.heap.size, 0, none⟩) := by rw [← hA2]; exact (ev_ne A1 (m := 25) (n := 5) (.pointer (some ⟨r, 0, none⟩)) (by decide)).trans d5
    replace d6 : A2.eval (.tmp 6) = .pointer (some ⟨w.heap.size + 1, 0, none⟩) := by rw [← hA2]; exact (ev_ne A1 (m := 25) (n := 6) (.pointer (some ⟨r, 0, none⟩)) (by decide)).trans d6
    replace d7 : A2.eval (.tmp 7) = .pointer (some ⟨w.heap.size + 2, 0, none⟩) := by rw [← hA2]; exact (ev_ne A1 (m := 25) (n := 7) (.pointer (some ⟨r, 0, none⟩)) (by decide)).trans d7
    have e25 : A2.eval (.tmp 25) = .pointer (some ⟨r, 0, none⟩) := by rw [← hA2]; exact ev_self A1 25 (.pointer (some ⟨r, 0, none⟩)) (by omega)
    have szA2 : A2.tmps.size = 38 := by rw [← hA2]; exact (sz_put A1 25 (.pointer (some ⟨r, 0, none⟩))).trans szA1
    have HA2 := Lib.hid (show A1.put (some 25) (.pointer (some ⟨r, 0, none⟩)) = A2 from hA2)
    clear hA2 szA1
    have d25 := e25
    clear e25
    refine wpAnyH_take (i := 1) (v := .pointer (some ⟨w.heap.size, 0, none⟩)) rfl (by kernel_rfl) (by kernel_rfl) (by kernel_rfl) (fun _ _ _ h => h) (.inl ⟨rfl, fun w g => run_fieldF0 rfl d5 w⟩) GS.out ?_
    refine act_letter (fun A3 hA3 => ?_)
    replace d0 : A3.eval (.tmp 0) = .pointer (some ⟨r, 0, none⟩) := by rw [← hA3]; exact (ev_ne A2 (m := 26) (n := 0) (.pointer (some ⟨w.heap.size, 0, none⟩)) (by decide)).trans d0
    replace d1 : A3.eval (.tmp 1) = .pointer (some ⟨p, 0, none⟩) := by rw [← hA3]; exact (ev_ne A2 (m := 26) (n := 1) (.pointer (some ⟨w.heap.size, 0, none⟩)) (by decide)).trans d1
    replace d5 : A3.eval (.tmp 5) = .pointer (some ⟨w.heap.size, 0, none⟩) := by rw [← hA3]; exact (ev_ne A2 (m := 26) (n := 5) (.pointer (some ⟨w.heap.size, 0, none⟩)) (by decide)).trans d5
    replace d6 : A3.eval (.tmp 6) = .pointer (some ⟨w.heap.size + 1, 0, none⟩) := by rw [← hA3]; exact (ev_ne A2 (m := 26) (n := 6) (.pointer (some ⟨w.heap.size, 0, none⟩)) (by decide)).trans d6
    replace d7 : A3.eval (.tmp 7) = .pointer (some ⟨w.heap.size + 2, 0, none⟩) := by rw [← hA3]; exact (ev_ne A2 (m := 26) (n := 7) (.pointer (some ⟨w.heap.size, 0, none⟩)) (by decide)).trans d7
    replace d25 : A3.eval (.tmp 25) = .pointer (some ⟨r, 0, none⟩) := by rw [← hA3]; exact (ev_ne A2 (m := 26) (n := 25) (.pointer (some ⟨w.heap.size, 0, none⟩)) (by decide)).trans d25
    have e26 : A3.eval (.tmp 26) = .pointer (some ⟨w.heap.size, 0, none⟩) := by rw [← hA3]; exact ev_self A2 26 (.pointer (some ⟨w.heap.size, 0, none⟩)) (by omega)
    have szA3 : A3.tmps.size = 38 := by rw [← hA3]; exact (sz_put A2 26 (.pointer (some ⟨w.heap.size, 0, none⟩))).trans szA2
    have HA3 := Lib.hid (show A2.put (some 26) (.pointer (some ⟨w.heap.size, 0, none⟩)) = A3 from hA3)
    clear hA3 szA2
    have d26 := e26
    clear e26
    refine wpAnyH_take (i := 2) (v := .int .i64 f.k) rfl (by kernel_rfl) (by kernel_rfl) (by kernel_rfl) (fun _ _ _ h => h) (.inl ⟨rfl, fun w g => run_int rfl d26 (g.1.cell 0)⟩) GS.out ?_
    refine act_letter (fun A4 hA4 => ?_)
    replace d0 : A4.eval (.tmp 0) = .pointer (some ⟨r, 0, none⟩) := by rw [← hA4]; exact (ev_ne A3 (m := 27) (n := 0) (.int .i64 f.k) (by decide)).trans d0
    replace d1 : A4.eval (.tmp 1) = .pointer (some ⟨p, 0, none⟩) := by rw [← hA4]; exact (ev_ne A3 (m := 27) (n := 1) (.int .i64 f.k) (by decide)).trans d1
    replace d5 : A4.eval (.tmp 5) = .pointer (some ⟨w.heap.size, 0, none⟩) := by rw [← hA4]; exact (ev_ne A3 (m := 27) (n := 5) (.int .i64 f.k) (by decide)).trans d5
    replace d6 : A4.eval (.tmp 6) = .pointer (some ⟨w.heap.size + 1, 0, none⟩) := by rw [← hA4]; exact (ev_ne A3 (m := 27) (n := 6) (.int .i64 f.k) (by decide)).trans d6
    replace d7 : A4.eval (.tmp 7) = .pointer (some ⟨w.heap.size + 2, 0, none⟩) := by rw [← hA4]; exact (ev_ne A3 (m := 27) (n := 7) (.int .i64 f.k) (by decide)).trans d7
    replace d25 : A4.eval (.tmp 25) = .pointer (some ⟨r, 0, none⟩) := by rw [← hA4]; exact (ev_ne A3 (m := 27) (n := 25) (.int .i64 f.k) (by decide)).trans d25
    have e27 : A4.eval (.tmp 27) = .int .i64 f.k := by rw [← hA4]; exact ev_self A3 27 (.int .i64 f.k) (by omega)
    have szA4 : A4.tmps.size = 38 := by rw [← hA4]; exact (sz_put A3 27 (.int .i64 f.k)).trans szA3
    have HA4 := Lib.hid (show A3.put (some 27) (.int .i64 f.k) = A4 from hA4)
    clear hA4 szA3 d26
    have d27 := e27
    clear e27
    refine wpAnyH_take (i := 3) (v := .pointer (some ⟨r, 0, none⟩)) rfl (by kernel_rfl) (by kernel_rfl) (by kernel_rfl) (fun _ _ _ h => h) (.inl ⟨rfl, fun w g => run_nilc rfl d25 w⟩) GS.out ?_
    refine act_letter (fun A5 hA5 => ?_)
    replace d0 : A5.eval (.tmp 0) = .pointer (some ⟨r, 0, none⟩) := by rw [← hA5]; exact (ev_ne A4 (m := 28) (n := 0) (.pointer (some ⟨r, 0, none⟩)) (by decide)).trans d0
    replace d1 : A5.eval (.tmp 1) = .pointer (some ⟨p, 0, none⟩) := by rw [← hA5]; exact (ev_ne A4 (m := 28) (n := 1) (.pointer (some ⟨r, 0, none⟩)) (by decide)).trans d1
    replace d5 : A5.eval (.tmp 5) = .pointer (some ⟨w.heap.size, 0, none⟩) := by rw [← hA5]; exact (ev_ne A4 (m := 28) (n := 5) (.pointer (some ⟨r, 0, none⟩)) (by decide)).trans d5
    replace d6 : A5.eval (.tmp 6) = .pointer (some ⟨w.heap.size + 1, 0, none⟩) := by rw [← hA5]; exact (ev_ne A4 (m := 28) (n := 6) (.pointer (some ⟨r, 0, none⟩)) (by decide)).trans d6
    replace d7 : A5.eval (.tmp 7) = .pointer (some ⟨w.heap.size + 2, 0, none⟩) := by rw [← hA5]; exact (ev_ne A4 (m := 28) (n := 7) (.pointer (some ⟨r, 0, none⟩)) (by decide)).trans d7
    replace d27 : A5.eval (.tmp 27) = .int .i64 f.k := by rw [← hA5]; exact (ev_ne A4 (m := 28) (n := 27) (.pointer (some ⟨r, 0, none⟩)) (by decide)).trans d27
    have e28 : A5.eval (.tmp 28) = .pointer (some ⟨r, 0, none⟩) := by rw [← hA5]; exact ev_self A4 28 (.pointer (some ⟨r, 0, none⟩)) (by omega)
    have szA5 : A5.tmps.size = 38 := by rw [← hA5]; exact (sz_put A4 28 (.pointer (some ⟨r, 0, none⟩))).trans szA4
    have HA5 := Lib.hid (show A4.put (some 28) (.pointer (some ⟨r, 0, none⟩)) = A5 from hA5)
    clear hA5 szA4 d25
    have d28 := e28
    clear e28
    refine wpAnyH_take (i := 4) (v := .pointer (some ⟨r, 1, none⟩)) rfl (by kernel_rfl) (by kernel_rfl) (by kernel_rfl) (fun _ _ _ h => h) (.inl ⟨rfl, fun w g => run_fieldR rfl d28 w⟩) GS.out ?_
    refine act_letter (fun A6 hA6 => ?_)
    replace d0 : A6.eval (.tmp 0) = .pointer (some ⟨r, 0, none⟩) := by rw [← hA6]; exact (ev_ne A5 (m := 29) (n := 0) (.pointer (some ⟨r, 1, none⟩)) (by decide)).trans d0
    replace d1 : A6.eval (.tmp 1) = .pointer (some ⟨p, 0, none⟩) := by rw [← hA6]; exact (ev_ne A5 (m := 29) (n := 1) (.pointer (some ⟨r, 1, none⟩)) (by decide)).trans d1
    replace d5 : A6.eval (.tmp 5) = .pointer (some ⟨w.heap.size, 0, none⟩) := by rw [← hA6]; exact (ev_ne A5 (m := 29) (n := 5) (.pointer (some ⟨r, 1, none⟩)) (by decide)).trans d5
    replace d6 : A6.eval (.tmp 6) = .pointer (some ⟨w.heap.size + 1, 0, none⟩) := by rw [← hA6]; exact (ev_ne A5 (m := 29) (n := 6) (.pointer (some ⟨r, 1, none⟩)) (by decide)).trans d6
    replace d7 : A6.eval (.tmp 7) = .pointer (some ⟨w.heap.size + 2, 0, none⟩) := by rw [← hA6]; exact (ev_ne A5 (m := 29) (n := 7) (.pointer (some ⟨r, 1, none⟩)) (by decide)).trans d7
    replace d27 : A6.eval (.tmp 27) = .int .i64 f.k := by rw [← hA6]; exact (ev_ne A5 (m := 29) (n := 27) (.pointer (some ⟨r, 1, none⟩)) (by decide)).trans d27
    have e29 : A6.eval (.tmp 29) = .pointer (some ⟨r, 1, none⟩) := by rw [← hA6]; exact ev_self A5 29 (.pointer (some ⟨r, 1, none⟩)) (by omega)
    have szA6 : A6.tmps.size = 38 := by rw [← hA6]; exact (sz_put A5 29 (.pointer (some ⟨r, 1, none⟩))).trans szA5
    have HA6 := Lib.hid (show A5.put (some 29) (.pointer (some ⟨r, 1, none⟩)) = A6 from hA6)
    clear hA6 szA5 d28
    have d29 := e29
    clear e29
    refine wpAnyH_take (i := 5) (v := .pointer (some ⟨r, 1 + kk, none⟩)) rfl (by kernel_rfl) (by kernel_rfl) (by kernel_rfl) (fun _ _ _ h => h) (.inl ⟨rfl, fun w g => run_idx rfl d29 (d27.trans (by rw [HKK.out])) HK6.out w⟩) GS.out ?_
    refine act_letter (fun A7 hA7 => ?_)
    replace d0 : A7.eval (.tmp 0) = .pointer (some ⟨r, 0, none⟩) := by rw [← hA7]; exact (ev_ne A6 (m := 30) (n := 0) (.pointer (some ⟨r, 1 + kk, none⟩)) (by decide)).trans d0
    replace d1 : A7.eval (.tmp 1) = .pointer (some ⟨p, 0, none⟩) := by rw [← hA7]; exact (ev_ne A6 (m := 30) (n := 1) (.pointer (some ⟨r, 1 + kk, none⟩)) (by decide)).trans d1
    replace d5 : A7.eval (.tmp 5) = .pointer (some ⟨w.heap.size, 0, none⟩) := by rw [← hA7]; exact (ev_ne A6 (m := 30) (n := 5) (.pointer (some ⟨r, 1 + kk, none⟩)) (by decide)).trans d5
    replace d6 : A7.eval (.tmp 6) = .pointer (some ⟨w.heap.size + 1, 0, none⟩) := by rw [← hA7]; exact (ev_ne A6 (m := 30) (n := 6) (.pointer (some ⟨r, 1 + kk, none⟩)) (by decide)).trans d6
    replace d7 : A7.eval (.tmp 7) = .pointer (some ⟨w.heap.size + 2, 0, none⟩) := by rw [← hA7]; exact (ev_ne A6 (m := 30) (n := 7) (.pointer (some ⟨r, 1 + kk, none⟩)) (by decide)).trans d7
    have e30 : A7.eval (.tmp 30) = .pointer (some ⟨r, 1 + kk, none⟩) := by rw [← hA7]; exact ev_self A6 30 (.pointer (some ⟨r, 1 + kk, none⟩)) (by omega)
    have szA7 : A7.tmps.size = 38 := by rw [← hA7]; exact (sz_put A6 30 (.pointer (some ⟨r, 1 + kk, none⟩))).trans szA6
    have HA7 := Lib.hid (show A6.put (some 30) (.pointer (some ⟨r, 1 + kk, none⟩)) = A7 from hA7)
    clear hA7 szA6 d27 d29
    have d30 := e30
    clear e30
    refine wpAnyH_take (i := 6) (v := .func (.func G) #[] #[]) rfl (by kernel_rfl) (by kernel_rfl) (by kernel_rfl) (fun _ _ _ h => h) (.inl ⟨rfl, fun w g => run_fn rfl d30 ((g.2.cell (1 + kk)).trans HGG.out)⟩) GS.out ?_
    refine act_letter (fun A8 hA8 => ?_)
    replace d0 : A8.eval (.tmp 0) = .pointer (some ⟨r, 0, none⟩) := by rw [← hA8]; exact (ev_ne A7 (m := 31) (n := 0) (.func (.func G) #[] #[]) (by decide)).trans d0
    replace d1 : A8.eval (.tmp 1) = .pointer (some ⟨p, 0, none⟩) := by rw [← hA8]; exact (ev_ne A7 (m := 31) (n := 1) (.func (.func G) #[] #[]) (by decide)).trans d1
    replace d5 : A8.eval (.tmp 5) = .pointer (some ⟨w.heap.size, 0, none⟩) := by rw [← hA8]; exact (ev_ne A7 (m := 31) (n := 5) (.func (.func G) #[] #[]) (by decide)).trans d5
    replace d6 : A8.eval (.tmp 6) = .pointer (some ⟨w.heap.size + 1, 0, none⟩) := by rw [← hA8]; exact (ev_ne A7 (m := 31) (n := 6) (.func (.func G) #[] #[]) (by decide)).trans d6
    replace d7 : A8.eval (.tmp 7) = .pointer (some ⟨w.heap.size + 2, 0, none⟩) := by rw [← hA8]; exact (ev_ne A7 (m := 31) (n := 7) (.func (.func G) #[] #[]) (by decide)).trans d7
    have e31 : A8.eval (.tmp 31) = .func (.func G) #[] #[] := by rw [← hA8]; exact ev_self A7 31 (.func (.func G) #[] #[]) (by omega)
    have szA8 : A8.tmps.size = 38 := by rw [← hA8]; exact (sz_put A7 31 (.func (.func G) #[] #[])).trans szA7
    have HA8 := Lib.hid (show A7.put (some 31) (.func (.func G) #[] #[]) = A8 from hA8)
    clear hA8 szA7 d30
    have d31 := e31
    clear e31
    refine wpAnyH_take (i := 7) (v := .pointer (some ⟨r, 0, none⟩)) rfl (by kernel_rfl) (by kernel_rfl) (by kernel_rfl) (fun _ _ _ h => h) (.inl ⟨rfl, fun w g => run_moveV rfl d0 w⟩) GS.out ?_
    refine act_letter (fun A9 hA9 => ?_)
    replace d0 : A9.eval (.tmp 0) = .pointer (some ⟨r, 0, none⟩) := by rw [← hA9]; exact (ev_ne A8 (m := 32) (n := 0) (.pointer (some ⟨r, 0, none⟩)) (by decide)).trans d0
    replace d1 : A9.eval (.tmp 1) = .pointer (some ⟨p, 0, none⟩) := by rw [← hA9]; exact (ev_ne A8 (m := 32) (n := 1) (.pointer (some ⟨r, 0, none⟩)) (by decide)).trans d1
    replace d5 : A9.eval (.tmp 5) = .pointer (some ⟨w.heap.size, 0, none⟩) := by rw [← hA9]; exact (ev_ne A8 (m := 32) (n := 5) (.pointer (some ⟨r, 0, none⟩)) (by decide)).trans d5
    replace d6 : A9.eval (.tmp 6) = .pointer (some ⟨w.heap.size + 1, 0, none⟩) := by rw [← hA9]; exact (ev_ne A8 (m := 32) (n := 6) (.pointer (some ⟨r, 0, none⟩)) (by decide)).trans d6
    replace d7 : A9.eval (.tmp 7) = .pointer (some ⟨w.heap.size + 2, 0, none⟩) := by rw [← hA9]; exact (ev_ne A8 (m := 32) (n := 7) (.pointer (some ⟨r, 0, none⟩)) (by decide)).trans d7
    replace d31 : A9.eval (.tmp 31) = .func (.func G) #[] #[] := by rw [← hA9]; exact (ev_ne A8 (m := 32) (n := 31) (.pointer (some ⟨r, 0, none⟩)) (by decide)).trans d31
    have e32 : A9.eval (.tmp 32) = .pointer (some ⟨r, 0, none⟩) := by rw [← hA9]; exact ev_self A8 32 (.pointer (some ⟨r, 0, none⟩)) (by omega)
    have szA9 : A9.tmps.size = 38 := by rw [← hA9]; exact (sz_put A8 32 (.pointer (some ⟨r, 0, none⟩))).trans szA8
    have HA9 := Lib.hid (show A8.put (some 32) (.pointer (some ⟨r, 0, none⟩)) = A9 from hA9)
    clear hA9 szA8
    have d32 := e32
    clear e32
    refine wpAnyH_take (i := 8) (v := .pointer (some ⟨p, 0, none⟩)) rfl (by kernel_rfl) (by kernel_rfl) (by kernel_rfl) (fun _ _ _ h => h) (.inl ⟨rfl, fun w g => run_moveV rfl d1 w⟩) GS.out ?_
    refine act_letter (fun A10 hA10 => ?_)
    replace d0 : A10.eval (.tmp 0) = .pointer (some ⟨r, 0, none⟩) := by rw [← hA10]; exact (ev_ne A9 (m := 33) (n := 0) (.pointer (some ⟨p, 0, none⟩)) (by decide)).trans d0
    replace d1 : A10.eval (.tmp 1) = .pointer (some ⟨p, 0, none⟩) := by rw [← hA10]; exact (ev_ne A9 (m := 33) (n := 1) (.pointer (some ⟨p, 0, none⟩)) (by decide)).trans d1
    replace d5 : A10.eval (.tmp 5) = .pointer (some ⟨w.heap.size, 0, none⟩) := by rw [← hA10]; exact (ev_ne A9 (m := 33) (n := 5) (.pointer (some ⟨p, 0, none⟩)) (by decide)).trans d5
    replace d6 : A10.eval (.tmp 6) = .pointer (some ⟨w.heap.size + 1, 0, none⟩) := by rw [← hA10]; exact (ev_ne A9 (m := 33) (n := 6) (.pointer (some ⟨p, 0, none⟩)) (by decide)).trans d6
    replace d7 : A10.eval (.tmp 7) = .pointer (some ⟨w.heap.size + 2, 0, none⟩) := by rw [← hA10]; exact (ev_ne A9 (m := 33) (n := 7) (.pointer (some ⟨p, 0, none⟩)) (by decide)).trans d7
    replace d31 : A10.eval (.tmp 31) = .func (.func G) #[] #[] := by rw [← hA10]; exact (ev_ne A9 (m := 33) (n := 31) (.pointer (some ⟨p, 0, none⟩)) (by decide)).trans d31
    replace d32 : A10.eval (.tmp 32) = .pointer (some ⟨r, 0, none⟩) := by rw [← hA10]; exact (ev_ne A9 (m := 33) (n := 32) (.pointer (some ⟨p, 0, none⟩)) (by decide)).trans d32
    have e33 : A10.eval (.tmp 33) = .pointer (some ⟨p, 0, none⟩) := by rw [← hA10]; exact ev_self A9 33 (.pointer (some ⟨p, 0, none⟩)) (by omega)
    have szA10 : A10.tmps.size = 38 := by rw [← hA10]; exact (sz_put A9 33 (.pointer (some ⟨p, 0, none⟩))).trans szA9
    have HA10 := Lib.hid (show A9.put (some 33) (.pointer (some ⟨p, 0, none⟩)) = A10 from hA10)
    clear hA10 szA9
    have d33 := e33
    clear e33
    refine wpAnyH_take (i := 9) (v := f.val) rfl (by kernel_rfl) (by kernel_rfl) (by kernel_rfl) (fun _ _ _ h => h) (.inl ⟨rfl, fun w g => run_form rfl d5 g.1⟩) GS.out ?_
    refine act_letter (fun A11 hA11 => ?_)
    replace d0 : A11.eval (.tmp 0) = .pointer (some ⟨r, 0, none⟩) := by rw [← hA11]; exact (ev_ne A10 (m := 34) (n := 0) (f.val) (by decide)).trans d0
    replace d1 : A11.eval (.tmp 1) = .pointer (some ⟨p, 0, none⟩) := by rw [← hA11]; exact (ev_ne A10 (m := 34) (n := 1) (f.val) (by decide)).trans d1
    replace d5 : A11.eval (.tmp 5) = .pointer (some ⟨w.heap.size, 0, none⟩) := by rw [← hA11]; exact (ev_ne A10 (m := 34) (n := 5) (f.val) (by decide)).trans d5
    replace d6 : A11.eval (.tmp 6) = .pointer (some ⟨w.heap.size + 1, 0, none⟩) := by rw [← hA11]; exact (ev_ne A10 (m := 34) (n := 6) (f.val) (by decide)).trans d6
    replace d7 : A11.eval (.tmp 7) = .pointer (some ⟨w.heap.size + 2, 0, none⟩) := by rw [← hA11]; exact (ev_ne A10 (m := 34) (n := 7) (f.val) (by decide)).trans d7
    replace d31 : A11.eval (.tmp 31) = .func (.func G) #[] #[] := by rw [← hA11]; exact (ev_ne A10 (m := 34) (n := 31) (f.val) (by decide)).trans d31
    replace d32 : A11.eval (.tmp 32) = .pointer (some ⟨r, 0, none⟩) := by rw [← hA11]; exact (ev_ne A10 (m := 34) (n := 32) (f.val) (by decide)).trans d32
    replace d33 : A11.eval (.tmp 33) = .pointer (some ⟨p, 0, none⟩) := by rw [← hA11]; exact (ev_ne A10 (m := 34) (n := 33) (f.val) (by decide)).trans d33
    have e34 : A11.eval (.tmp 34) = f.val := by rw [← hA11]; exact ev_self A10 34 (f.val) (by omega)
    have szA11 : A11.tmps.size = 38 := by rw [← hA11]; exact (sz_put A10 34 (f.val)).trans szA10
    have HA11 := Lib.hid (show A10.put (some 34) (f.val) = A11 from hA11)
    clear hA11 szA10
    have d34 := e34
    clear e34
    refine wpAnyH_ready (rs := [10]) (by kernel_rfl) (by simp) ?_
    refine AllReadyH.cons rfl (fun K hK => ?_) AllReadyH.nil
    refine wp_callV rfl (rfl) d31 HEN.out (vs := #[.pointer (some ⟨r, 0, none⟩), .pointer (some ⟨p, 0, none⟩), f.val]) (by simp [d32, d33, d34]) ((HST.out _ p m (c + 1) a PD.out HM.out).mono ?_)
    rintro e x1 ⟨v, ys, a', rfl, hv, hi, hnf, hC, hx, hT, hF⟩
    refine ⟨_, rfl, hK.out _ _ (⟨KD0.out.fr hF (HLO.out _ (Nat.le_refl _)), PD.out.rd.fr hF NR.out⟩) (fun _ => ?_)⟩
    clear hK K
    have S1 := Lib.hid (show (fun w' => Whole w' w.heap.size f.cells 24 ∧ Whole w' r (rcells (some tq)) 78) x1 from ⟨KD0.out.fr hF (HLO.out _ (Nat.le_refl _)), PD.out.rd.fr hF NR.out⟩)
    have X1 := Lib.hid (show Whole x1 (w.heap.size + 1) _ _ from KD1.out.fr hF (HLO.out _ (by omega)))
    have X2 := Lib.hid (show Whole x1 (w.heap.size + 2) _ _ from KD2.out.fr hF (HLO.out _ (by omega)))
    have HV := Lib.hid (show v.In x1 ∧ v.Hi X.drew.heap.size ∧ v.nf = RR.v ∧ Cr x1 p w0.heap.size ys a' ∧ (RR.e = 0 → ys = xs.drop RR.n ∧ a' = a + RR.n) ∧ Tly x1 (some tq) m (c + 1 + RR.c) ∧ Fr w x1 (Ft p (some tq)) from ⟨hv, hi, hnf, hC, hx, hT, GD.out.trans hF (fun _ _ e => e)⟩)
    clear hv hi hnf hC hx hT hF KD0 KD1 KD2 PD GD
    clear GS
    refine act_letter (fun A12 hA12 => ?_)
    replace d6 : A12.eval (.tmp 6) = .pointer (some ⟨w.heap.size + 1, 0, none⟩) := by rw [← hA12]; exact (ev_ne A11 (m := 35) (n := 6) (.tuple #[v.val, fault (faI a RR) RR.e]) (by decide)).trans d6
    replace d7 : A12.eval (.tmp 7) = .pointer (some ⟨w.heap.size + 2, 0, none⟩) := by rw [← hA12]; exact (ev_ne A11 (m := 35) (n := 7) (.tuple #[v.val, fault (faI a RR) RR.e]) (by decide)).trans d7
    have e35 : A12.eval (.tmp 35) = .tuple #[v.val, fault (faI a RR) RR.e] := by rw [← hA12]; exact ev_self A11 35 (.tuple #[v.val, fault (faI a RR) RR.e]) (by omega)
    have szA12 : A12.tmps.size = 38 := by rw [← hA12]; exact (sz_put A11 35 (.tuple #[v.val, fault (faI a RR) RR.e])).trans szA11
    have HA12 := Lib.hid (show A11.put (some 35) (.tuple #[v.val, fault (faI a RR) RR.e]) = A12 from hA12)
    clear hA12 szA11 d0 d1 d5 d31 d32 d33 d34
    have d35 := e35
    clear e35
    refine wpAnyH_take (i := 11) (v := v.val) rfl (by kernel_rfl) (by kernel_rfl) (by kernel_rfl) (fun _ _ _ h => h) (.inl ⟨rfl, fun w g => run_ext0 rfl d35 w⟩) S1.out ?_
    refine act_letter (fun A13 hA13 => ?_)
    replace d6 : A13.eval (.tmp 6) = .pointer (some ⟨w.heap.size + 1, 0, none⟩) := by rw [← hA13]; exact (ev_ne A12 (m := 36) (n := 6) (v.val) (by decide)).trans d6
    replace d7 : A13.eval (.tmp 7) = .pointer (some ⟨w.heap.size + 2, 0, none⟩) := by rw [← hA13]; exact (ev_ne A12 (m := 36) (n := 7) (v.val) (by decide)).trans d7
    replace d35 : A13.eval (.tmp 35) = .tuple #[v.val, fault (faI a RR) RR.e] := by rw [← hA13]; exact (ev_ne A12 (m := 36) (n := 35) (v.val) (by decide)).trans d35
    have e36 : A13.eval (.tmp 36) = v.val := by rw [← hA13]; exact ev_self A12 36 (v.val) (by omega)
    have szA13 : A13.tmps.size = 38 := by rw [← hA13]; exact (sz_put A12 36 (v.val)).trans szA12
    have HA13 := Lib.hid (show A12.put (some 36) (v.val) = A13 from hA13)
    clear hA13 szA12
    have d36 := e36
    clear e36
    refine wpAnyH_take (i := 12) (v := fault (faI a RR) RR.e) rfl (by kernel_rfl) (by kernel_rfl) (by kernel_rfl) (fun _ _ _ h => h) (.inl ⟨rfl, fun w g => run_ext1 rfl d35 w⟩) S1.out ?_
    refine act_letter (fun A14 hA14 => ?_)
    replace d6 : A14.eval (.tmp 6) = .pointer (some ⟨w.heap.size + 1, 0, none⟩) := by rw [← hA14]; exact (ev_ne A13 (m := 37) (n := 6) (fault (faI a RR) RR.e) (by decide)).trans d6
    replace d7 : A14.eval (.tmp 7) = .pointer (some ⟨w.heap.size + 2, 0, none⟩) := by rw [← hA14]; exact (ev_ne A13 (m := 37) (n := 7) (fault (faI a RR) RR.e) (by decide)).trans d7
    replace d36 : A14.eval (.tmp 36) = v.val := by rw [← hA14]; exact (ev_ne A13 (m := 37) (n := 36) (fault (faI a RR) RR.e) (by decide)).trans d36
    have e37 : A14.eval (.tmp 37) = fault (faI a RR) RR.e := by rw [← hA14]; exact ev_self A13 37 (fault (faI a RR) RR.e) (by omega)
    have szA14 : A14.tmps.size = 38 := by rw [← hA14]; exact (sz_put A13 37 (fault (faI a RR) RR.e)).trans szA13
    have HA14 := Lib.hid (show A13.put (some 37) (fault (faI a RR) RR.e) = A14 from hA14)
    clear hA14 szA13 d35
    have d37 := e37
    clear e37
    refine wpAnyH_ready (rs := [13]) (by kernel_rfl) (by simp) ?_
    refine AllReadyH.cons rfl (fun K hK => ?_) AllReadyH.nil
    refine wp_skipG rfl (w' := put3 x1 (w.heap.size + 1) (.int .u64 v.n) (.slice v.B v.bs.length v.d) (.slice v.A v.ls.length v.c)) (run_storeVa rfl d6 d36 X1.out) (hK.out _ _ (⟨S1.out.1.fr (fr_put3 _ _ _ _ _) (by omega), S1.out.2.fr (fr_put3 _ _ _ _ _) (by have := HRL.out; omega)⟩) (fun _ => ?_))
    clear hK K
    have S2 := Lib.hid (show (fun w' => Whole w' w.heap.size f.cells 24 ∧ Whole w' r (rcells (some tq)) 78) (put3 x1 (w.heap.size + 1) (.int .u64 v.n) (.slice v.B v.bs.length v.d) (.slice v.A v.ls.length v.c)) from ⟨S1.out.1.fr (fr_put3 _ _ _ _ _) (by omega), S1.out.2.fr (fr_put3 _ _ _ _ _) (by have := HRL.out; omega)⟩)
    clear S1
    refine act_letter (fun A15 hA15 => ?_)
    replace d6 : A15.eval (.tmp 6) = .pointer (some ⟨w.heap.size + 1, 0, none⟩) := by rw [← hA15]; exact d6
    replace d7 : A15.eval (.tmp 7) = .pointer (some ⟨w.heap.size + 2, 0, none⟩) := by rw [← hA15]; exact d7
    replace d36 : A15.eval (.tmp 36) = v.val := by rw [← hA15]; exact d36
    replace d37 : A15.eval (.tmp 37) = fault (faI a RR) RR.e := by rw [← hA15]; exact d37
    have szA15 : A15.tmps.size = 38 := by rw [← hA15]; exact szA14
    have HA15 := Lib.hid (show A14 = A15 from hA15)
    clear hA15 szA14
    refine wpAnyH_ready (rs := [14]) (by kernel_rfl) (by simp) ?_
    refine AllReadyH.cons rfl (fun K hK => ?_) AllReadyH.nil
    refine wp_skipG rfl (w' := put2 (put3 x1 (w.heap.size + 1) (.int .u64 v.n) (.slice v.B v.bs.length v.d) (.slice v.A v.ls.length v.c)) (w.heap.size + 2) (.int .i64 (faI a RR)) (.int .i64 RR.e)) (run_storeFa rfl d7 d37 (X2.out.fr (fr_put3 _ _ _ _ _) (by omega))) (hK.out _ _ (⟨S2.out.1.fr (fr_put2 _ _ _ _) (by omega), S2.out.2.fr (fr_put2 _ _ _ _) (by have := HRL.out; omega)⟩) (fun _ => ?_))
    clear hK K
    have S3 := Lib.hid (show (fun w' => Whole w' w.heap.size f.cells 24 ∧ Whole w' r (rcells (some tq)) 78) (put2 (put3 x1 (w.heap.size + 1) (.int .u64 v.n) (.slice v.B v.bs.length v.d) (.slice v.A v.ls.length v.c)) (w.heap.size + 2) (.int .i64 (faI a RR)) (.int .i64 RR.e)) from ⟨S2.out.1.fr (fr_put2 _ _ _ _) (by omega), S2.out.2.fr (fr_put2 _ _ _ _) (by have := HRL.out; omega)⟩)
    clear S2
    refine act_letter (fun A16 hA16 => ?_)
    replace d6 : A16.eval (.tmp 6) = .pointer (some ⟨w.heap.size + 1, 0, none⟩) := by rw [← hA16]; exact d6
    replace d7 : A16.eval (.tmp 7) = .pointer (some ⟨w.heap.size + 2, 0, none⟩) := by rw [← hA16]; exact d7
    replace d36 : A16.eval (.tmp 36) = v.val := by rw [← hA16]; exact d36
    replace d37 : A16.eval (.tmp 37) = fault (faI a RR) RR.e := by rw [← hA16]; exact d37
    have szA16 : A16.tmps.size = 38 := by rw [← hA16]; exact szA15
    have HA16 := Lib.hid (show A15 = A16 from hA16)
    clear hA16 szA15
    refine wpAnyH_done (by kernel_rfl) ?_ _
    rw [← HA16.out, ← HA15.out, ← HA14.out, ← HA13.out, ← HA12.out, ← HA11.out, ← HA10.out, ← HA9.out, ← HA8.out, ← HA7.out, ← HA6.out, ← HA5.out, ← HA4.out, ← HA3.out, ← HA2.out, ← HA1.out]
    clear HA2 HA3 HA4 HA5 HA6 HA7 HA8 HA9 HA10 HA11 HA12 HA13 HA14 HA15 HA16 HA1 d6 d7 d36 d37 szA16
    simp only [Act.put, List.setIfInBounds_toArray, List.set_cons_zero, List.set_cons_succ]
    clear S3
    go_wp2_with fail
    obtain ⟨r1, r2, r3⟩ := put32 X1.out X2.out (by omega) (.int .u64 v.n) (.slice v.B v.bs.length v.d) (.slice v.A v.ls.length v.c) (.int .i64 (faI a RR)) (.int .i64 RR.e)
    refine bodyPost_ret (results_cells rfl _ _ _ _ _ _ _ _ _ _ _ _ rfl r1 Try.underlying35 rfl (by kernel_rfl) rfl r2 Try.underlying62 rfl (by kernel_rfl)) rfl ?_
    obtain ⟨hv, hi, hnf, hC, hx, hT, hF⟩ := HV.out
    have hxd := XD.out
    refine got_close (R := ⟨RR.e, RR.n, RR.v, RR.c + 1⟩) (v := v) (k := X.drew.heap.size) hF hC ?_ r3 (by omega) (by omega) HF.out hv hi (by omega) (by omega) hnf hx rfl
    have q1 : c + ((RR.c + 1 : Nat) : Int) = c + 1 + RR.c := by omega
    rw [q1]
    exact hT
end Go.Proofs.Ytdamjbngopfpkaa

