/- Numbers of an identifier, laid seven bits a byte, are told as they are; with a byte of 128 ahead they aren't: the law returns true. -/
import Derived.Test.YtnegakobammljaaAr
import Derived.Deep.Cut
namespace Go.Proofs.Ytnegakobammljaa
open Go.ChangeShapes Go.WideShapes Go.ChangeAt Go.RowKit

theorem wf_byte {n : Int} (h : (Lit.int .u8 n).wf = true) : ∃ m : Nat, n = (m : Int) ∧ m < 256 := by
  simp [Lit.wf, IntKind.min, IntKind.max, IntKind.signed, IntKind.bits] at h
  exact ⟨n.toNat, by omega, by omega⟩
/-- Two numbers in new memory. -/
theorem own_two (w : World) (a b : Nat) : (w.alloc (.cells #[.int .u64 (a : Int), .int .u64 (b : Int)] 47)).ownsRow 0 47 1 (.slice (some ⟨w.heap.size, 0, none⟩) 2 2) 2 (cells64 [a, b]) :=
  ⟨rfl, .inr ⟨w.heap.size, 2, _, rfl, Nat.zero_le _, Whole.new w _ _, Nat.le_refl _, by unfold maxLen; omega, rfl, rfl⟩⟩
/-- 'b[:h]' of a list of bytes, wherever it lies. -/
theorem slice_to8 (w : World) (A : Option Addr) (n c h : Nat) (hA : ∀ a, A = some a → ∃ b o, a = ⟨b, o, none⟩) (hh : h ≤ c) :
    (Instr.slice 22 (.slice A n c) none (some (.int .i64 (h : Int))) none).run Try.prog w = .ok (.slice A h c) w := by
  rw [run_slice_h w 22 A n c under_bytes .i64 _ (by omega) (by omega), elem_u8, size_of_u8]
  cases A with
  | none => simp [Result.andThen, sliced]
  | some a =>
    obtain ⟨b, o, rfl⟩ := hA a rfl
    simp [Result.andThen, sliced, Addr.add]
theorem own8_form {w : World} {v : Value} {n : Nat} {xs : List Value} (h : w.ownsRow 0 5 1 v n xs) : ∃ A c, v = .slice A n c ∧ (∀ a, A = some a → ∃ b o, a = ⟨b, o, none⟩) ∧ n ≤ c := by
  rcases h.2 with ⟨rfl, rfl⟩ | ⟨g, cap, cur, rfl, _, _, h1, _⟩
  · exact ⟨none, 0, rfl, fun a ha => by (cases ha), Nat.le_refl _⟩
  · exact ⟨_, _, rfl, fun a ha => by (cases ha; exact ⟨_, _, rfl⟩), h1⟩
/-- The bytes of an identifier: of the first two numbers, and of more. -/
def idB (x : Nat) (ds : List Nat) : List UInt8 := layN x ++ ds.flatMap layN
theorem idB_next (x : Nat) (ds : List Nat) (d : Nat) : idB x ds ++ layN d = idB x (ds ++ [d]) := by simp [idB]
theorem idB_len (x : Nat) (ds : List Nat) : (idB x ds).length ≤ 10 + 10 * ds.length := by
  have h1 := layN_len x
  have h2 := lay_lens ds
  unfold idB
  rw [List.length_append]
  omega
/-- Arcs of bytes that a row holds. -/
theorem arcs_row (w : World) {A : Option Addr} {n c : Nat} {xs : List UInt8} (ho : w.ownsRow 0 5 1 (.slice A n c) n (cellsOf xs)) (hm : n ≤ 1000000) (E : Int) (R : List Nat) (k : Nat) (hE : arE xs = E) (hR : arR xs = R) (hk : R.length = k) :
    Calls Try.prog 14 #[.slice A n c] w fun e w' => ∃ (A' : Option Addr) (c' : Nat), e = .returned (.tuple #[.slice A' k c', .int .i64 E]) ∧ R64 w' w'.heap.size A' R ∧ Below w.heap.size w w' := by
  obtain ⟨A2, c2, e, h1, h2, _⟩ := byt_owned ho
  injection e with e1 e2 e3
  subst e1
  subst e3
  subst hE
  subst hR
  subst hk
  rw [e2]
  exact arcsC w A c xs h2 h1 (by omega)

set_option maxRecDepth 100000 in
set_option maxHeartbeats 4000000 in
theorem dertypeArcs_in (w : World) (f s : Nat) (hf : f < 256) (hs : s < 256) (A : Option Addr) (c : Nat) (ls : List Nat) (hl : ls.length ≤ c) (hc : c ≤ 140737488351232) (hb : R64 w w.heap.size A ls) (hw : ∀ z ∈ ls, z < 18446744073709551616) :
    Calls Try.prog 7 #[.int .u8 (f : Int), .int .u8 (s : Int), .slice A ls.length c] w fun e w' => e = .returned (.bool true) ∧ Below w.heap.size w w' := by
  obtain ⟨m, hm⟩ : ∃ m, min ls.length 20 = m := ⟨_, rfl⟩
  have HM := Lib.hid (show m ≤ 20 ∧ m ≤ ls.length by omega)
  obtain ⟨L, hL⟩ : ∃ L, ls.length = L := ⟨_, rfl⟩
  rw [hL] at hm hl HM ⊢
  have hLI : (L : Int) ≤ 140737488351232 := by omega
  have hmin : (if (20 : Int) < (L : Int) then (20 : Int) else (L : Int)) = (m : Int) := by split <;> omega
  obtain ⟨hs', hhs⟩ : ∃ hs' : List Nat, ls.map (· / 2) = hs' := ⟨_, rfl⟩
  have hhl : hs'.length = L := by rw [← hhs, List.length_map, hL]
  have HB := Lib.hid (show ∀ j, j < m → ∃ b o, A = some ⟨b, o, none⟩ ∧ b < w.heap.size ∧ ∃ y, w.cell? ⟨b, o + j, none⟩ = some (.int .u64 ((y : Nat) : Int)) ∧ y < 18446744073709551616 ∧ hs'.take (j + 1) = hs'.take j ++ [y / 2] from fun j hj => by
    have h2 := HM.out.2
    obtain ⟨b, o, rfl, hlt, hcc⟩ := hb (by omega)
    have hjl : j < ls.length := by omega
    refine ⟨b, o, rfl, hlt, ls[j], ?_, hw _ (List.getElem_mem hjl), ?_⟩
    · rw [hcc j hjl, List.getD_eq_getElem?_getD, List.getElem?_eq_getElem hjl]
      rfl
    · have hj2 : j < hs'.length := by omega
      rw [List.take_add_one, List.getElem?_eq_getElem hj2]
      simp [← hhs])
  have HD := Lib.hid (show ∀ x ∈ hs'.take m, x < 9223372036854775808 from fun x hx => by
    have := List.mem_of_mem_take hx
    rw [← hhs] at this
    obtain ⟨y, hy, rfl⟩ := List.mem_map.1 this
    have := hw y hy
    omega)
  have HT := Lib.hid (show (hs'.take m).length = m by rw [List.length_take, hhl]; have := HM.out; omega)
  obtain ⟨a, ha⟩ : ∃ a, f % 3 = a := ⟨_, rfl⟩
  have hfa : (f : Int) % 3 = (a : Int) := by omega
  have ha3 : a < 3 := by omega
  have hm20 : (m : Int) ≤ 20 := by have := HM.out; omega
  clear hb hw hhs hhl hm ha hL
  go_enter Try.func7, Try.ntmps7
  go_upto_region 3 with (fail)
  rw [hfa]
  clear hmin hfa hLI
  by_cases ha2 : a < 2
  · obtain ⟨b, hbb⟩ : ∃ b, s % 40 = b := ⟨_, rfl⟩
    have hsb : (s : Int) % 40 = (b : Int) := by omega
    have hab : (a = 0 ∧ b < 40) ∨ (a = 1 ∧ b < 40) ∨ (a = 2 ∧ b < 256) := by omega
    have haI : (a : Int) < 2 := by omega
    clear hbb ha2 ha3
    go_upto_region 5 with (fail)
    rw [hsb]
    clear hsb
    obtain ⟨x, hx⟩ : ∃ x, 40 * a + b = x := ⟨_, rfl⟩
    have hxI : 40 * (a : Int) + (b : Int) = (x : Int) := by omega
    have hx9 : x < 9223372036854775808 := by omega
    have hbI : (b : Int) < 256 := by omega
    have haI3 : (a : Int) < 3 := by omega
    obtain ⟨hE, hR⟩ := arcs_laid a b (hs'.take m) hab HD.out
    rw [hx] at hE hR
    have HE := Lib.hid (show arE (idB x (hs'.take m)) = 0 from hE)
    have HR := Lib.hid (show arR (idB x (hs'.take m)) = a :: b :: hs'.take m from hR)
    obtain ⟨q, hq⟩ : ∃ q, w.heap.size = q := ⟨_, rfl⟩
    have HO9 := Lib.hid (own_two w a b)
    have HB0 := Lib.hid (show Below q w (w.alloc (.cells #[.int .u64 (a : Int), .int .u64 (b : Int)] 47)) ∧ q ≤ (w.alloc (.cells #[.int .u64 (a : Int), .int .u64 (b : Int)] 47)).heap.size from ⟨by rw [← hq]; exact (Below.refl _ w).alloc (Nat.le_refl _) _, by simp; omega⟩)
    have HQ := Lib.hid hq
    have HX9 := Lib.hid hx9
    rw [hq] at HO9
    clear hE hR hab hx hx9 hf hs hl hc
    go_upto_region 6 with (fail)
    clear hq
    generalize w.alloc (.cells #[.int .u64 (a : Int), .int .u64 (b : Int)] 47) = W0 at *
    go_wp2_with fail
    clear hxI haI hbI haI3
    refine (lay_any W0 x (by have := HX9.out; omega)).mono ?_
    rintro e W1 ⟨v10, rfl, k1, k2, k3⟩
    obtain ⟨A10, c10, rfl, hc10, hby, -⟩ := byt_owned k1
    have hlx := layN_len x
    have HA := Lib.hid (fun ty => app_byt W1 128 (c := c10) hby (by omega) ty)
    have HN0 := Lib.hid (show Below q w W1 ∧ q ≤ W1.heap.size from ⟨HB0.out.1.trans (k2.mono HB0.out.2), Nat.le_trans HB0.out.2 k2.size⟩)
    have HO9b := Lib.hid (own_under HO9.out k2)
    have HO10 := Lib.hid k1
    have HQ10 := Lib.hid (show ∀ k, (Value.slice A10 (layN x).length c10).ownBlock = some k → q ≤ k from fun k hk => Nat.le_trans HB0.out.2 (k3 k hk))
    rw [show (((128 : UInt8).toNat : Nat) : Int) = 128 from rfl] at HA
    clear k1 k2 k3 hby HB0 HO9 hc10 hlx
    go_wp2_with (at_builtin; refine wpList_append_run _ rfl (.tmp 42) (.tmp 43) 22 rfl rfl rfl HA.out ?_; rintro v11 W2 a1; have A1 := Lib.hid a1; clear a1 HA)
    have HK := Lib.hid (show Arx w W2 q [a, b] (idB x []) (128 :: idB x []) (.slice (some ⟨q, 0, none⟩) 2 2) (.slice A10 (layN x).length c10) v11 from by
      obtain ⟨o11, b11, n11⟩ := A1.out
      have e0 : idB x [] = layN x := by simp [idB]
      rw [e0]
      refine ⟨own_under HO9b.out b11, own_under HO10.out b11, by rw [List.length_cons]; exact o11, fun k hk e => ?_, fun k hk => by simp [Value.ownBlock] at hk; omega, HQ10.out, fun k hk => Nat.le_trans HN0.out.2 (n11 k hk), HN0.out.1.trans (b11.mono HN0.out.2), Nat.le_trans HN0.out.2 b11.size⟩
      have h1 := own_lt HO10.out k hk
      have h2 := n11 k e
      omega)
    have HL0 := Lib.hid (show (layN x).length = (idB x []).length by simp [idB])
    rw [HL0.out] at HK ⊢
    clear A1 HO9b HO10 HQ10 HN0 HL0
    go_upto_region 9 with (fail)
    go_loopw [9, 10, 11, 47] (fun v9 v10 v11 i wr => ∃ j : Nat, j ≤ m ∧ i = .int .i64 j ∧ Hid (Arx w wr q (a :: b :: hs'.take j) (idB x (hs'.take j)) (128 :: idB x (hs'.take j)) v9 v10 v11)) (fun _ _ _ i _ => m - (intOf i).toNat)
    case atStart => exact ⟨0, Nat.zero_le _, rfl, Lib.hid HK.out⟩
    case round =>
      clear HK
      obtain ⟨j, hj, rfl, HK⟩ := hrel
      have hjI : (j : Int) ≤ 20 := by omega
      by_cases hlt : j < m
      · obtain ⟨bb, oo, rfl, hbq, y, hy, hy64, htk⟩ := HB.out j hlt
        have c1 : wr.cell? ⟨bb, oo + j, none⟩ = some (.int .u64 (y : Int)) := (HK.out.bel.cell (p := ⟨bb, oo + j, none⟩) (by show bb < q; rw [← HQ.out]; exact hbq)).trans hy
        obtain ⟨d, hd⟩ : ∃ d, y / 2 = d := ⟨_, rfl⟩
        rw [hd] at htk
        have e2 : (y : Int) / 2 = (d : Int) := by omega
        have HDB := Lib.hid (show d < 18446744073709551616 by omega)
        have HTK := Lib.hid htk
        obtain ⟨ds, hds⟩ : ∃ ds, hs'.take j = ds := ⟨_, rfl⟩
        have hdl : ds.length ≤ 20 := by rw [← hds, List.length_take]; omega
        rw [hds] at HK HTK
        obtain ⟨-, A9, c9, rfl⟩ := own64_form HK.out.o9
        have HA := Lib.hid (fun ty => app64_g wr HK.out.o9 (by simp; omega) d ty)
        have HDL := Lib.hid hdl
        clear hy hy64 htk hd hds hdl hbq
        go_upto_region 12 with (fail)
        clear e2 c1
        go_wp2_with (at_builtin; refine wpList_append_run _ rfl (.tmp 53) (.tmp 55) 32 rfl rfl rfl HA.out ?_; rintro v9' W3 a1; have A1 := Lib.hid a1; clear a1 HA)
        have K3 := Lib.hid (show Arx w W3 q (a :: b :: (ds ++ [d])) (idB x ds) (128 :: idB x ds) v9' _ _ from HK.out.app9 (by have := A1.out.1; simpa using this) A1.out.2.1 A1.out.2.2)
        clear A1 HK
        refine (lay_any W3 d HDB.out).mono ?_
        rintro e W4 ⟨v59, rfl, k1, k2, k3⟩
        have K4 := Lib.hid (K3.out.under k2)
        obtain ⟨A5, c5, rfl, -, -, -⟩ := byt_owned k1
        obtain ⟨A10, c10, rfl, -, -, -⟩ := byt_owned K4.out.o10
        obtain ⟨A11, c11, rfl, -, -, -⟩ := byt_owned K4.out.o11
        have HA := Lib.hid (fun ty => app8_g W4 K4.out.o10 k1 (by have h1 := idB_len x ds; have h2 := layN_len d; have := HDL.out; omega) ty)
        clear k1 k2 k3 K3
        go_wp2_with (at_builtin; refine wpList_append_run _ rfl (.tmp 57) (.tmp 59) 22 rfl rfl rfl HA.out ?_; rintro v10' W5 a1; have A1 := Lib.hid a1; clear a1 HA)
        have K5 := Lib.hid (show Arx w W5 q (a :: b :: (ds ++ [d])) (idB x (ds ++ [d])) (128 :: idB x ds) v9' v10' _ from K4.out.app10 (by have := A1.out.1; rw [idB_next] at this; rw [← idB_next, List.length_append]; rw [idB_next]; exact this) A1.out.2.1 A1.out.2.2)
        clear A1 K4
        refine (lay_any W5 d HDB.out).mono ?_
        rintro e W6 ⟨v63, rfl, k1, k2, k3⟩
        have K6 := Lib.hid (K5.out.under k2)
        obtain ⟨A6, c6, rfl, -, -, -⟩ := byt_owned k1
        have HA := Lib.hid (fun ty => app8_g W6 K6.out.o11 k1 (by have h1 := idB_len x ds; have h2 := layN_len d; have := HDL.out; simp; omega) ty)
        clear k1 k2 k3 K5
        go_wp2_with (at_builtin; refine wpList_append_run _ rfl (.tmp 61) (.tmp 63) 22 rfl rfl rfl HA.out ?_; rintro v11' W7 a1; have A1 := Lib.hid a1; clear a1 HA)
        have K7 := Lib.hid (show Arx w W7 q (a :: b :: (ds ++ [d])) (idB x (ds ++ [d])) (128 :: idB x (ds ++ [d])) v9' v10' v11' from K6.out.app11 (by have := A1.out.1; rw [List.cons_append, idB_next] at this; rw [List.length_cons, ← idB_next, List.length_append, idB_next]; rw [show (idB x ds).length + (layN d).length + 1 = (128 :: idB x ds).length + (layN d).length by simp; omega]; exact this) A1.out.2.1 A1.out.2.2)
        clear A1 K6
        go_roundw
        case rel => exact ⟨j + 1, hlt, rfl, Lib.hid (by rw [HTK.out]; exact K7.out)⟩
        case measure => simp [intOf]; omega
      · obtain rfl : j = m := by omega
        obtain ⟨ns, hns⟩ : ∃ ns, a :: b :: hs'.take j = ns := ⟨_, rfl⟩
        obtain ⟨xs, hxs⟩ : ∃ xs, idB x (hs'.take j) = xs := ⟨_, rfl⟩
        have hNp : 0 < xs.length := by rw [← hxs]; unfold idB; rw [List.length_append]; have := (lay_all x HX9.out).2.2; omega
        have hNl : xs.length ≤ 300 := by have := idB_len x (hs'.take j); rw [HT.out, hxs] at this; omega
        have hnl : ns.length ≤ 30 := by rw [← hns]; simp only [List.length_cons]; rw [HT.out]; omega
        rw [hns, hxs] at HK HR
        rw [hxs] at HE
        obtain ⟨N, hN⟩ : ∃ N, xs.length = N + 1 := ⟨xs.length - 1, by omega⟩
        obtain ⟨n, hn⟩ : ∃ n, ns.length = n := ⟨_, rfl⟩
        have k9 := HK.out.o9
        have k10 := HK.out.o10
        have k11 := HK.out.o11
        have hzl : (128 :: xs).length = N + 2 := by rw [List.length_cons, hN]
        rw [hn] at k9
        rw [hN] at k10
        rw [hzl] at k11
        obtain ⟨-, A9, c9, rfl⟩ := own64_form k9
        obtain ⟨A10, c10, rfl, hf10, hc10⟩ := own8_form k10
        obtain ⟨A11, c11, rfl, -, -⟩ := own8_form k11
        have HBW := Lib.hid (And.intro HK.out.bel HK.out.sz)
        have HK9 := Lib.hid k9
        have HK10 := Lib.hid k10
        have HK11 := Lib.hid k11
        have HN1 := Lib.hid hN
        have HNN := Lib.hid hn
        have HLB := Lib.hid (And.intro hNl hnl)
        have HF10 := Lib.hid (And.intro hf10 hc10)
        have hNI : (N : Int) ≤ 300 := by omega
        have r1 := arcs_row wr k10 (by omega) 0 ns n HE.out HR.out hn
        clear k9 k10 k11 hzl hNp hNl hnl HK HE HR hns hxs hN hn hf10 hc10 hlt hj HB HD HT hm20 hjI
        go_wp2_with fail
        refine r1.mono ?_
        rintro e W8 ⟨G, cg, rfl, hg, hB8⟩
        have HG := Lib.hid hg
        have HB8 := Lib.hid hB8
        have r2 := arcs_row W8 (own_under HK11.out hB8) (by have := HLB.out; have := HN1.out; omega) 13 [] 0 (arcs_wrong xs) (by unfold arR; rw [arcs_wrong]; rfl) rfl
        clear r1 hg hB8
        go_wp2_with fail
        refine r2.mono ?_
        rintro e W9 ⟨G2, cg2, rfl, -, hB9⟩
        have HB9 := Lib.hid (HB8.out.trans (hB9.mono HB8.out.size))
        have HG9 := Lib.hid (HG.out.below hB9 (Nat.le_refl _))
        have hsl := slice_to8 W9 A10 (N + 1) c10 N HF10.out.1 (by have := HF10.out.2; omega)
        have hby9 : Byt W9 W9.heap.size A10 (xs.take N) := by
          obtain ⟨A2, c2, e, h1, h2, _⟩ := byt_owned (own_under HK10.out HB9.out)
          injection e with e1 _ _
          subst e1
          exact h2.take N
        have htl : (xs.take N).length = N := by rw [List.length_take, HN1.out]; omega
        have r3 := arcsC W9 A10 c10 (xs.take N) hby9 (by rw [htl]; have := HF10.out.2; omega) (by rw [htl]; have := HLB.out; have := HN1.out; omega)
        have hE3 : N = 0 → arE (xs.take N) = 13 := fun h0 => by rw [h0]; rfl
        rw [htl] at r3
        obtain ⟨E3, hE3'⟩ : ∃ E3, arE (xs.take N) = E3 := ⟨_, rfl⟩
        obtain ⟨K3, hK3'⟩ : ∃ K3, (arR (xs.take N)).length = K3 := ⟨_, rfl⟩
        rw [hE3'] at hE3
        rw [hE3', hK3'] at r3
        have HE3 := Lib.hid hE3
        have HR3 := Lib.hid r3
        have HG8 := Lib.hid (show W8.heap.size ≤ W9.heap.size from hB9.size)
        clear r2 r3 hB9 hby9 htl hE3 hE3' hK3' HB8 HG
        go_wp2_with fail
        refine HR3.out.mono ?_
        rintro e W10 ⟨G3, cg3, rfl, -, hB10⟩
        have HB10 := Lib.hid (HB9.out.trans (hB10.mono HB9.out.size))
        have HG10 := Lib.hid (show R64 W10 W9.heap.size G ns from (show R64 W9 W9.heap.size G ns from fun h0 => by obtain ⟨b', o', e', h1, h2⟩ := HG9.out h0; exact ⟨b', o', e', by have := HG8.out; omega, h2⟩).below hB10 (Nat.le_refl _))
        have HS10 := Lib.hid (show W9.heap.size ≤ W10.heap.size from hB10.size)
        clear hB10 HR3 HB9 HG9 HG8 hsl
        go_wp2_with fail
        refine (aliveC W10).mono ?_
        rintro e W11 ⟨rfl, hB11⟩
        have HB11 := Lib.hid (HB10.out.trans (hB11.mono HB10.out.size))
        have r4 := same_n W11 G A9 cg c9 ns n HNN.out
          (fun h0 => by obtain ⟨b', o', e', h1, h2⟩ := (HG10.out.below (hB11.mono HS10.out) (Nat.le_refl _)) h0; exact ⟨b', o', e', by have := HS10.out; have := hB11.size; omega, h2⟩)
          (R64.own (own_under HK9.out HB11.out)) (by have := HLB.out; have := HNN.out; omega)
        have HR4 := Lib.hid r4
        clear hB11 r4 HB10 HG10 HS10
        go_wp2_with fail
        refine HR4.out.mono ?_
        rintro e W12 ⟨rfl, hB12⟩
        have HB12 := Lib.hid (HBW.out.1.trans ((HB11.out.trans (hB12.mono HB11.out.size)).mono HBW.out.2))
        clear hB12 HR4 HB11
        by_cases h0 : N = 0
        · obtain rfl := HE3.out h0
          subst h0
          go_wp2_with fail
          go_ret
          exact ⟨rfl, by rw [HQ.out]; exact HB12.out⟩
        · have h1 : (1 : Int) < (N : Int) + 1 := by omega
          go_wp2_with fail
          go_ret
          exact ⟨rfl, by rw [HQ.out]; exact HB12.out⟩
  · have hab : (a = 0 ∧ s < 40) ∨ (a = 1 ∧ s < 40) ∨ (a = 2 ∧ s < 256) := by omega
    have haI : ¬ (a : Int) < 2 := by omega
    clear ha2
    go_upto_region 5 with (fail)
    obtain ⟨b, hbs⟩ : ∃ b, s = b := ⟨_, rfl⟩
    subst hbs
    obtain ⟨x, hx⟩ : ∃ x, 40 * a + s = x := ⟨_, rfl⟩
    have hxI : 40 * (a : Int) + (s : Int) = (x : Int) := by omega
    have hx9 : x < 9223372036854775808 := by omega
    have hbI : (s : Int) < 256 := by omega
    have haI3 : (a : Int) < 3 := by omega
    obtain ⟨hE, hR⟩ := arcs_laid a s (hs'.take m) hab HD.out
    rw [hx] at hE hR
    have HE := Lib.hid (show arE (idB x (hs'.take m)) = 0 from hE)
    have HR := Lib.hid (show arR (idB x (hs'.take m)) = a :: s :: hs'.take m from hR)
    obtain ⟨q, hq⟩ : ∃ q, w.heap.size = q := ⟨_, rfl⟩
    have HO9 := Lib.hid (own_two w a s)
    have HB0 := Lib.hid (show Below q w (w.alloc (.cells #[.int .u64 (a : Int), .int .u64 (s : Int)] 47)) ∧ q ≤ (w.alloc (.cells #[.int .u64 (a : Int), .int .u64 (s : Int)] 47)).heap.size from ⟨by rw [← hq]; exact (Below.refl _ w).alloc (Nat.le_refl _) _, by simp; omega⟩)
    have HQ := Lib.hid hq
    have HX9 := Lib.hid hx9
    rw [hq] at HO9
    clear hE hR hab hx hx9 hf hs hl hc
    go_upto_region 6 with (fail)
    clear hq
    generalize w.alloc (.cells #[.int .u64 (a : Int), .int .u64 (s : Int)] 47) = W0 at *
    go_wp2_with fail
    clear hxI haI hbI haI3
    refine (lay_any W0 x (by have := HX9.out; omega)).mono ?_
    rintro e W1 ⟨v10, rfl, k1, k2, k3⟩
    obtain ⟨A10, c10, rfl, hc10, hby, -⟩ := byt_owned k1
    have hlx := layN_len x
    have HA := Lib.hid (fun ty => app_byt W1 128 (c := c10) hby (by omega) ty)
    have HN0 := Lib.hid (show Below q w W1 ∧ q ≤ W1.heap.size from ⟨HB0.out.1.trans (k2.mono HB0.out.2), Nat.le_trans HB0.out.2 k2.size⟩)
    have HO9b := Lib.hid (own_under HO9.out k2)
    have HO10 := Lib.hid k1
    have HQ10 := Lib.hid (show ∀ k, (Value.slice A10 (layN x).length c10).ownBlock = some k → q ≤ k from fun k hk => Nat.le_trans HB0.out.2 (k3 k hk))
    rw [show (((128 : UInt8).toNat : Nat) : Int) = 128 from rfl] at HA
    clear k1 k2 k3 hby HB0 HO9 hc10 hlx
    go_wp2_with (at_builtin; refine wpList_append_run _ rfl (.tmp 42) (.tmp 43) 22 rfl rfl rfl HA.out ?_; rintro v11 W2 a1; have A1 := Lib.hid a1; clear a1 HA)
    have HK := Lib.hid (show Arx w W2 q [a, s] (idB x []) (128 :: idB x []) (.slice (some ⟨q, 0, none⟩) 2 2) (.slice A10 (layN x).length c10) v11 from by
      obtain ⟨o11, b11, n11⟩ := A1.out
      have e0 : idB x [] = layN x := by simp [idB]
      rw [e0]
      refine ⟨own_under HO9b.out b11, own_under HO10.out b11, by rw [List.length_cons]; exact o11, fun k hk e => ?_, fun k hk => by simp [Value.ownBlock] at hk; omega, HQ10.out, fun k hk => Nat.le_trans HN0.out.2 (n11 k hk), HN0.out.1.trans (b11.mono HN0.out.2), Nat.le_trans HN0.out.2 b11.size⟩
      have h1 := own_lt HO10.out k hk
      have h2 := n11 k e
      omega)
    have HL0 := Lib.hid (show (layN x).length = (idB x []).length by simp [idB])
    rw [HL0.out] at HK ⊢
    clear A1 HO9b HO10 HQ10 HN0 HL0
    go_upto_region 9 with (fail)
    go_loopw [9, 10, 11, 47] (fun v9 v10 v11 i wr => ∃ j : Nat, j ≤ m ∧ i = .int .i64 j ∧ Hid (Arx w wr q (a :: s :: hs'.take j) (idB x (hs'.take j)) (128 :: idB x (hs'.take j)) v9 v10 v11)) (fun _ _ _ i _ => m - (intOf i).toNat)
    case atStart => exact ⟨0, Nat.zero_le _, rfl, Lib.hid HK.out⟩
    case round =>
      clear HK
      obtain ⟨j, hj, rfl, HK⟩ := hrel
      have hjI : (j : Int) ≤ 20 := by omega
      by_cases hlt : j < m
      · obtain ⟨bb, oo, rfl, hbq, y, hy, hy64, htk⟩ := HB.out j hlt
        have c1 : wr.cell? ⟨bb, oo + j, none⟩ = some (.int .u64 (y : Int)) := (HK.out.bel.cell (p := ⟨bb, oo + j, none⟩) (by show bb < q; rw [← HQ.out]; exact hbq)).trans hy
        obtain ⟨d, hd⟩ : ∃ d, y / 2 = d := ⟨_, rfl⟩
        rw [hd] at htk
        have e2 : (y : Int) / 2 = (d : Int) := by omega
        have HDB := Lib.hid (show d < 18446744073709551616 by omega)
        have HTK := Lib.hid htk
        obtain ⟨ds, hds⟩ : ∃ ds, hs'.take j = ds := ⟨_, rfl⟩
        have hdl : ds.length ≤ 20 := by rw [← hds, List.length_take]; omega
        rw [hds] at HK HTK
        obtain ⟨-, A9, c9, rfl⟩ := own64_form HK.out.o9
        have HA := Lib.hid (fun ty => app64_g wr HK.out.o9 (by simp; omega) d ty)
        have HDL := Lib.hid hdl
        clear hy hy64 htk hd hds hdl hbq
        go_upto_region 12 with (fail)
        clear e2 c1
        go_wp2_with (at_builtin; refine wpList_append_run _ rfl (.tmp 53) (.tmp 55) 32 rfl rfl rfl HA.out ?_; rintro v9' W3 a1; have A1 := Lib.hid a1; clear a1 HA)
        have K3 := Lib.hid (show Arx w W3 q (a :: s :: (ds ++ [d])) (idB x ds) (128 :: idB x ds) v9' _ _ from HK.out.app9 (by have := A1.out.1; simpa using this) A1.out.2.1 A1.out.2.2)
        clear A1 HK
        refine (lay_any W3 d HDB.out).mono ?_
        rintro e W4 ⟨v59, rfl, k1, k2, k3⟩
        have K4 := Lib.hid (K3.out.under k2)
        obtain ⟨A5, c5, rfl, -, -, -⟩ := byt_owned k1
        obtain ⟨A10, c10, rfl, -, -, -⟩ := byt_owned K4.out.o10
        obtain ⟨A11, c11, rfl, -, -, -⟩ := byt_owned K4.out.o11
        have HA := Lib.hid (fun ty => app8_g W4 K4.out.o10 k1 (by have h1 := idB_len x ds; have h2 := layN_len d; have := HDL.out; omega) ty)
        clear k1 k2 k3 K3
        go_wp2_with (at_builtin; refine wpList_append_run _ rfl (.tmp 57) (.tmp 59) 22 rfl rfl rfl HA.out ?_; rintro v10' W5 a1; have A1 := Lib.hid a1; clear a1 HA)
        have K5 := Lib.hid (show Arx w W5 q (a :: s :: (ds ++ [d])) (idB x (ds ++ [d])) (128 :: idB x ds) v9' v10' _ from K4.out.app10 (by have := A1.out.1; rw [idB_next] at this; rw [← idB_next, List.length_append]; rw [idB_next]; exact this) A1.out.2.1 A1.out.2.2)
        clear A1 K4
        refine (lay_any W5 d HDB.out).mono ?_
        rintro e W6 ⟨v63, rfl, k1, k2, k3⟩
        have K6 := Lib.hid (K5.out.under k2)
        obtain ⟨A6, c6, rfl, -, -, -⟩ := byt_owned k1
        have HA := Lib.hid (fun ty => app8_g W6 K6.out.o11 k1 (by have h1 := idB_len x ds; have h2 := layN_len d; have := HDL.out; simp; omega) ty)
        clear k1 k2 k3 K5
        go_wp2_with (at_builtin; refine wpList_append_run _ rfl (.tmp 61) (.tmp 63) 22 rfl rfl rfl HA.out ?_; rintro v11' W7 a1; have A1 := Lib.hid a1; clear a1 HA)
        have K7 := Lib.hid (show Arx w W7 q (a :: s :: (ds ++ [d])) (idB x (ds ++ [d])) (128 :: idB x (ds ++ [d])) v9' v10' v11' from K6.out.app11 (by have := A1.out.1; rw [List.cons_append, idB_next] at this; rw [List.length_cons, ← idB_next, List.length_append, idB_next]; rw [show (idB x ds).length + (layN d).length + 1 = (128 :: idB x ds).length + (layN d).length by simp; omega]; exact this) A1.out.2.1 A1.out.2.2)
        clear A1 K6
        go_roundw
        case rel => exact ⟨j + 1, hlt, rfl, Lib.hid (by rw [HTK.out]; exact K7.out)⟩
        case measure => simp [intOf]; omega
      · obtain rfl : j = m := by omega
        obtain ⟨ns, hns⟩ : ∃ ns, a :: s :: hs'.take j = ns := ⟨_, rfl⟩
        obtain ⟨xs, hxs⟩ : ∃ xs, idB x (hs'.take j) = xs := ⟨_, rfl⟩
        have hNp : 0 < xs.length := by rw [← hxs]; unfold idB; rw [List.length_append]; have := (lay_all x HX9.out).2.2; omega
        have hNl : xs.length ≤ 300 := by have := idB_len x (hs'.take j); rw [HT.out, hxs] at this; omega
        have hnl : ns.length ≤ 30 := by rw [← hns]; simp only [List.length_cons]; rw [HT.out]; omega
        rw [hns, hxs] at HK HR
        rw [hxs] at HE
        obtain ⟨N, hN⟩ : ∃ N, xs.length = N + 1 := ⟨xs.length - 1, by omega⟩
        obtain ⟨n, hn⟩ : ∃ n, ns.length = n := ⟨_, rfl⟩
        have k9 := HK.out.o9
        have k10 := HK.out.o10
        have k11 := HK.out.o11
        have hzl : (128 :: xs).length = N + 2 := by rw [List.length_cons, hN]
        rw [hn] at k9
        rw [hN] at k10
        rw [hzl] at k11
        obtain ⟨-, A9, c9, rfl⟩ := own64_form k9
        obtain ⟨A10, c10, rfl, hf10, hc10⟩ := own8_form k10
        obtain ⟨A11, c11, rfl, -, -⟩ := own8_form k11
        have HBW := Lib.hid (And.intro HK.out.bel HK.out.sz)
        have HK9 := Lib.hid k9
        have HK10 := Lib.hid k10
        have HK11 := Lib.hid k11
        have HN1 := Lib.hid hN
        have HNN := Lib.hid hn
        have HLB := Lib.hid (And.intro hNl hnl)
        have HF10 := Lib.hid (And.intro hf10 hc10)
        have hNI : (N : Int) ≤ 300 := by omega
        have r1 := arcs_row wr k10 (by omega) 0 ns n HE.out HR.out hn
        clear k9 k10 k11 hzl hNp hNl hnl HK HE HR hns hxs hN hn hf10 hc10 hlt hj HB HD HT hm20 hjI
        go_wp2_with fail
        refine r1.mono ?_
        rintro e W8 ⟨G, cg, rfl, hg, hB8⟩
        have HG := Lib.hid hg
        have HB8 := Lib.hid hB8
        have r2 := arcs_row W8 (own_under HK11.out hB8) (by have := HLB.out; have := HN1.out; omega) 13 [] 0 (arcs_wrong xs) (by unfold arR; rw [arcs_wrong]; rfl) rfl
        clear r1 hg hB8
        go_wp2_with fail
        refine r2.mono ?_
        rintro e W9 ⟨G2, cg2, rfl, -, hB9⟩
        have HB9 := Lib.hid (HB8.out.trans (hB9.mono HB8.out.size))
        have HG9 := Lib.hid (HG.out.below hB9 (Nat.le_refl _))
        have hsl := slice_to8 W9 A10 (N + 1) c10 N HF10.out.1 (by have := HF10.out.2; omega)
        have hby9 : Byt W9 W9.heap.size A10 (xs.take N) := by
          obtain ⟨A2, c2, e, h1, h2, _⟩ := byt_owned (own_under HK10.out HB9.out)
          injection e with e1 _ _
          subst e1
          exact h2.take N
        have htl : (xs.take N).length = N := by rw [List.length_take, HN1.out]; omega
        have r3 := arcsC W9 A10 c10 (xs.take N) hby9 (by rw [htl]; have := HF10.out.2; omega) (by rw [htl]; have := HLB.out; have := HN1.out; omega)
        have hE3 : N = 0 → arE (xs.take N) = 13 := fun h0 => by rw [h0]; rfl
        rw [htl] at r3
        obtain ⟨E3, hE3'⟩ : ∃ E3, arE (xs.take N) = E3 := ⟨_, rfl⟩
        obtain ⟨K3, hK3'⟩ : ∃ K3, (arR (xs.take N)).length = K3 := ⟨_, rfl⟩
        rw [hE3'] at hE3
        rw [hE3', hK3'] at r3
        have HE3 := Lib.hid hE3
        have HR3 := Lib.hid r3
        have HG8 := Lib.hid (show W8.heap.size ≤ W9.heap.size from hB9.size)
        clear r2 r3 hB9 hby9 htl hE3 hE3' hK3' HB8 HG
        go_wp2_with fail
        refine HR3.out.mono ?_
        rintro e W10 ⟨G3, cg3, rfl, -, hB10⟩
        have HB10 := Lib.hid (HB9.out.trans (hB10.mono HB9.out.size))
        have HG10 := Lib.hid (show R64 W10 W9.heap.size G ns from (show R64 W9 W9.heap.size G ns from fun h0 => by obtain ⟨b', o', e', h1, h2⟩ := HG9.out h0; exact ⟨b', o', e', by have := HG8.out; omega, h2⟩).below hB10 (Nat.le_refl _))
        have HS10 := Lib.hid (show W9.heap.size ≤ W10.heap.size from hB10.size)
        clear hB10 HR3 HB9 HG9 HG8 hsl
        go_wp2_with fail
        refine (aliveC W10).mono ?_
        rintro e W11 ⟨rfl, hB11⟩
        have HB11 := Lib.hid (HB10.out.trans (hB11.mono HB10.out.size))
        have r4 := same_n W11 G A9 cg c9 ns n HNN.out
          (fun h0 => by obtain ⟨b', o', e', h1, h2⟩ := (HG10.out.below (hB11.mono HS10.out) (Nat.le_refl _)) h0; exact ⟨b', o', e', by have := HS10.out; have := hB11.size; omega, h2⟩)
          (R64.own (own_under HK9.out HB11.out)) (by have := HLB.out; have := HNN.out; omega)
        have HR4 := Lib.hid r4
        clear hB11 r4 HB10 HG10 HS10
        go_wp2_with fail
        refine HR4.out.mono ?_
        rintro e W12 ⟨rfl, hB12⟩
        have HB12 := Lib.hid (HBW.out.1.trans ((HB11.out.trans (hB12.mono HB11.out.size)).mono HBW.out.2))
        clear hB12 HR4 HB11
        by_cases h0 : N = 0
        · obtain rfl := HE3.out h0
          subst h0
          go_wp2_with fail
          go_ret
          exact ⟨rfl, by rw [HQ.out]; exact HB12.out⟩
        · have h1 : (1 : Int) < (N : Int) + 1 := by omega
          go_wp2_with fail
          go_ret
          exact ⟨rfl, by rw [HQ.out]; exact HB12.out⟩
theorem dertypeArcs_walk (w : World) (f : Int) (hf : (Lit.int .u8 f).wf = true) (s : Int) (hs : (Lit.int .u8 s).wf = true) (A : Option Addr) (c : Nat) (ls : List Nat) (hl : ls.length ≤ c) (hc : c ≤ 140737488351232) (hb : R64 w w.heap.size A ls) (hw : ∀ z ∈ ls, z < 18446744073709551616) :
    Calls Try.prog 7 #[.int .u8 f, .int .u8 s, .slice A ls.length c] w fun e w' => e = .returned (.bool true) ∧ Below w.heap.size w w' := by
  obtain ⟨f', rfl, hf'⟩ := wf_byte hf
  obtain ⟨s', rfl, hs'⟩ := wf_byte hs
  exact dertypeArcs_in w f' s' hf' hs' A c ls hl hc hb hw

set_option maxRecDepth 100000 in
theorem dertypeArcs_lifted (os : Os) (started : os.Started) (H : Type) (enc : TypeId × Value → H) :
    ReturnsInHanded {} Try.checked os 7 .any (Rows.dertypeArcsSpec.pre6 enc Try.prog Try.f7 Rows.dertypeArcsRow.domain false) (Rows.dertypeArcsSpec.post enc Try.prog Try.f7 false true false false) := by
  refine returnsInHanded_of_change_sized (C := Try.checked) own started (by kernel_rfl) Try.func7
    (ChangeSpec.witness6 (enc := enc) (C := Try.checked) false ⟨#[], #[.int .u8 0, .int .u8 0, .slice none 0 0], []⟩ 8 (by kernel_rfl) (by kernel_rfl) (by kernel_rfl) (by kernel_rfl)) ?_
  intro W base args ds gs before hval0 hW hcnd hsz0 _
  have hval : ∀ (j : Nat) t v, Try.f7.params[j]? = some t → args[j]? = some v → Value.okWide Try.prog W .any base t v := hval0
  have hsz : (DataW.weightsEach Try.prog (Try.f7.params.toList ++ Rows.dertypeArcsSpec.plain.varTypes Try.prog) (ds ++ gs)).all (· ≤ reachBytes) = true := hsz0
  have hW' := hW
  obtain ⟨p, q, hA0, hV, rfl, hfz, hnd⟩ := hW
  have hA : DataW.TrodAll enc Try.prog W 0 (fun _ => true) true Try.f7.params.toList args.toList ds p := hA0
  rw [Try.params7] at hA hval hsz
  obtain ⟨v0, vs0, d0, ds0, p0, q0, hargs, rfl, rfl, h0, r0⟩ := trodAll_cons hA
  obtain ⟨v1, vs1, d1, ds1, p1, q1, rfl, rfl, rfl, h1, r1⟩ := trodAll_cons r0
  obtain ⟨v2, vs2, d2, ds2, p2, q2, rfl, rfl, rfl, h2, r2⟩ := trodAll_cons r1
  obtain ⟨rfl, rfl, rfl⟩ := trodAll_nil r2
  obtain rfl : args = #[v0, v1, v2] := by cases args; simp_all
  obtain ⟨rfl, rfl⟩ := trodVars_none hV
  obtain ⟨a0, rfl, rfl, rfl, w0⟩ := open_int Try.underlying5 (hval 0 5 v0 rfl rfl) h0
  obtain ⟨a1, rfl, rfl, rfl, w1⟩ := open_int Try.underlying5 (hval 1 5 v1 rfl rfl) h1
  have k2 := h2
  have lt2 : ∀ x ∈ p2, x.block < W.heap.size := by obtain ⟨m, hm⟩ := k2; exact DataW.trod_lt m _ _ _ hm
  obtain ⟨A2, c2, x2, rfl, l2, m2, b2, w2⟩ := arg_u64s (hval 2 32 v2 rfl rfl) h2 hsz (j := 2) rfl rfl
  clear hA0 hval0 hsz0
  refine (dertypeArcs_walk W a0 w0 a1 w1 A2 c2 x2 l2 m2 b2 w2).mono fun e W' ⟨he, bel⟩ => ?_
  subst he
  exact ⟨_, rfl, _, _, _, [], _, [], hW', trodAll_mk1 (shut_bool Try.underlying4 _), (trodAll_cons_mk (shut_int Try.underlying5 w0) (trodAll_cons_mk (shut_int Try.underlying5 w1) (trodAll_cons_mk (Below.trod laidOut (by kernel_rfl) (of_decide_eq_true (by kernel_rfl)) k2 bel lt2) trodAll_mk0))), rfl, bel.frame _, fun h => by cases h⟩

theorem dertypeArcs_over : Rows.dertypeArcsRow.holds Try.pinned (OpenSpec.ofChange Rows.dertypeArcsSpec) :=
  OpenClaim.holds_of_wide 7 Try.f7 rfl rfl rfl rfl rfl rfl rfl ⟨rfl, rfl, rfl, rfl, rfl⟩ rfl rfl rfl rfl rfl (by kernel_rfl) Try.func7 (by kernel_rfl)
    (of_decide_eq_true (by kernel_rfl)) (by unfold Func.isWrapper; first | (rw [if_pos (by decide +kernel)]; kernel_rfl) | (rw [if_neg (by decide +kernel)]; exact ⟨rfl, rfl⟩))
    (fun os started H enc _ => dertypeArcs_lifted os started H enc)

theorem dertypeArcs_holds : Rows.DertypeArcsSaid := dertypeArcs_over
#print axioms dertypeArcs_holds
end Go.Proofs.Ytnegakobammljaa

