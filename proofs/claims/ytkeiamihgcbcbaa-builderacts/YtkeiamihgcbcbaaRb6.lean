/- The document's builder of layer 2: Close, a part that is closed. -/
import Derived.Test.YtkeiamihgcbcbaaRb5
namespace Go.Proofs.Ytkeiamihgcbcbaa
open Go.RowKit

set_option maxRecDepth 100000 in
set_option maxHeartbeats 8000000 in
theorem rclose_ok (w : World) (F : Nat → Prop) (m most : Nat) (Q : List (List UInt8)) (P1 P : List UInt8) (S : List Nat) (s : Nat) (h : Rb w F m most (Q ++ [P1, P]) (S ++ [s])) (hl : P.length < 256 ^ s) :
    Calls Try.prog 32 #[.pointer (some ⟨m, 0, none⟩)] w fun e w' => e = .returned (.int .i64 0) ∧ RbOut w w' F m most (Q ++ [P1 ++ be s P.length ++ P]) S := by
  obtain ⟨hql, hs1, hs3, gP, cP, gS, cS, vs, A, c, h1, h2, h3, h4, h5, h6, h7, h8, h9, ck, cp, hok, hcP, hcS, hmP, hmS, hvl⟩ := h.open_
  have hmo := h.le.2.2.1
  have hts := tot_short Q P1 P S s
  have htl := h.le.2.1
  have hsl := h.le.2.2.2.1
  simp at hsl
  have hPb : P.length ≤ 2000 := by omega
  have hqb : Q.length ≤ 2000 := by omega
  have hml := h1.lt
  have c1 := h1.cell 1
  have c2 := h1.cell 2
  simp only [List.getElem?_toArray, List.getElem?_cons_succ, List.getElem?_cons_zero] at c1 c2
  have hrb := fun W => rbe_any W s P.length (by omega) (by omega)
  have hne : num (be s P.length) = P.length := num_be_lt s P.length hl
  have HRB := Lib.hid hrb
  have HNE := Lib.hid hne
  have hbl := be_length s P.length
  have hn0 : ¬ ((Q.length : Int) < 0) := by omega
  have hn1 : (0 : Int) ≤ (Q.length : Int) := by omega
  have H := Lib.hid h
  have H1 := Lib.hid h1
  have H2 := Lib.hid h2
  have H3 := Lib.hid h3
  have H4 := Lib.hid h4
  have H8 := Lib.hid h8
  have H9 := Lib.hid h9
  have HOK := Lib.hid hok
  have HVL := Lib.hid hvl
  have HQL := Lib.hid hql
  have HTS := Lib.hid hts
  have HTL := Lib.hid htl
  have HBL := Lib.hid hbl
  unfold maxLen at hmP hmS
  clear h1 h2 h3 h4 h8 h9 hok hvl hql hts htl hsl hrb hne h hl hbl
  generalize hlp : P.length = l at *
  have HLP := Lib.hid hlp
  clear hlp
  generalize hq : Q.length = q at *
  have HQ := Lib.hid hq
  clear hq
  go_enter Try.func32, Try.ntmps32
  go_wp2_with fail
  refine (HRB.out w).mono ?_
  rintro e w1 ⟨rfl, b1, g1⟩
  have hcn := rnum_any w1 w1.heap.size (some ⟨w.heap.size, 0, none⟩) (be s l) s b1.byt (by rw [HBL.out]; omega)
  rw [HBL.out, HNE.out] at hcn
  have HCN := Lib.hid hcn
  have hf1 : Fr w w1 (fun _ => False) := Fr.of_grew' g1 (fun _ h => by cases h)
  have hw1 := H1.out.fr hf1 (fun h => h)
  have d1 := hw1.cell 1
  have d2 := hw1.cell 2
  have z1 := hw1.frozen 1
  have z2 := hw1.frozen 2
  simp only [List.getElem?_toArray, List.getElem?_cons_succ, List.getElem?_cons_zero] at d1 d2
  have B1 := Lib.hid b1
  have F1 := Lib.hid hf1
  have HW1 := Lib.hid hw1
  clear hcn b1 g1 hf1 hw1 c1 c2
  generalize hd : w.heap.size = d at *
  have HD := Lib.hid hd
  clear hd
  go_wp2_with fail
  refine HCN.out.mono ?_
  rintro e w2 ⟨rfl, rfl⟩
  go_wp2_with fail
  have hsh : Rb ((w1.setCell ⟨m, 2, none⟩ (.slice (some ⟨gS, 0, none⟩) q cS)).setCell ⟨m, 1, none⟩ (.slice (some ⟨gP, 0, none⟩) (q + 1) cP)) F m most (Q ++ [P1]) S ∧
      Fr w1 ((w1.setCell ⟨m, 2, none⟩ (.slice (some ⟨gS, 0, none⟩) q cS)).setCell ⟨m, 1, none⟩ (.slice (some ⟨gP, 0, none⟩) (q + 1) cP)) (fun i => i = m) := by
    have e := HQ.out
    subst e
    exact Rb.short (H.out.fr F1.out (fun _ _ h => h)) HW1.out (own_fr H2.out F1.out (fun _ _ h => h)) (own_fr H3.out F1.out (fun _ _ h => h)) (H4.out.fr F1.out (fun _ _ _ _ h => h)) H8.out h6 h7 HQL.out HVL.out rfl
  clear d1 d2 z1 z2 ck cp
  generalize (w1.setCell ⟨m, 2, none⟩ (.slice (some ⟨gS, 0, none⟩) q cS)).setCell ⟨m, 1, none⟩ (.slice (some ⟨gP, 0, none⟩) (q + 1) cP) = W at *
  obtain ⟨hRW, fW⟩ := hsh
  have tm : ∀ i, i = m → Typed w1 i 41 := fun i e => by subst e; exact ⟨_, HW1.out⟩
  have hbP := (own_by (own_far (own_fr HOK.out F1.out (fun _ _ h => h)) fW tm (by decide))).byt.byf
  have hbH := (B1.out.fr fW (fun i hi e => by omega)).byt.byf
  obtain ⟨hpl, hto, _, hsl, hss⟩ := hRW.le
  simp at hpl
  have hP1 : P1.length ≤ 2000 := by
    have : P1.length ≤ tot (Q ++ [P1]) S := by simp [tot]; omega
    omega
  have hall : tot (Q ++ [P1 ++ be s l ++ P]) S ≤ most := by
    have e1 := tot_last Q P1 (P1 ++ be s l ++ P) S
    simp only [List.length_append, HBL.out, HLP.out] at e1
    have e2 := HTS.out
    have e3 := HTL.out
    omega
  obtain ⟨gQ, cQ, vQ, vs', AK, cK, k1, k2, k3, k4, k5, k6, k7, k8, k9, hck, hfk, hokk, kvl⟩ := hRW.last
  rw [HQ.out] at k1 k2 hck hfk kvl
  have c1 := k1.cell 1
  simp only [List.getElem?_toArray, List.getElem?_cons_succ, List.getElem?_cons_zero] at c1
  have hgl : gQ < W.heap.size := k9 gQ k6
  have f1 : Fr W (W.alloc (.cells #[] 5)).drew (fun _ => False) := ((Fr.refl _ _).alloc _).drew
  have hv0 : (W.alloc (.cells #[] 5)).drew.ownsRow 0 5 1 (.slice (some ⟨W.heap.size, 0, none⟩) 0 0) 0 (cellsOf []) := own_lit0 W
  have ha1 := fun ty => append_bytes (P := Try.prog) (W.alloc (.cells #[] 5)).drew 32 ty 5 Try.underlying32 info_u8 hv0 ((own_by hokk).fr f1 (fun _ _ h => h)) cK (by omega)
  have hw1 : (W.alloc (.cells #[] 5)).drew.cell? ⟨m, 1, none⟩ = some (.slice (some ⟨gQ, 0, none⟩) (q + 1) cQ) := f1.cell c1 (fun h => h)
  have hk1 : (W.alloc (.cells #[] 5)).drew.cell? ⟨gQ, q, none⟩ = some (.slice AK P1.length cK) := f1.cell hck (fun h => h)
  have hk0 : W.drew.cell? ⟨gQ, q, none⟩ = some (.slice AK P1.length cK) := hck
  have hbP1 := hbP.fr f1 (fun _ _ h => h)
  have hbH1 := hbH.fr f1 (fun _ _ h => h)
  have hn2 : (q : Int) < (q : Int) + 1 := by omega
  have hFW : Fr w W F := (F1.out.mono (fun _ _ h => h.elim)).trans fW (fun i _ e => by subst e; exact h5)
  have HFW := Lib.hid hFW
  have K1 := Lib.hid k1
  have K2 := Lib.hid k2
  have K3 := Lib.hid k3
  have K4 := Lib.hid k4
  have K7 := Lib.hid k7
  have K8 := Lib.hid k8
  have K9 := Lib.hid k9
  have HA1 := Lib.hid ha1
  have HBP := Lib.hid hbP1
  have HBH := Lib.hid hbH1
  have FF1 := Lib.hid f1
  have HSS := Lib.hid hss
  have HPL := Lib.hid hpl
  have KVL := Lib.hid kvl
  have HALL := Lib.hid hall
  have hzW : W.heap.size < (W.alloc (.cells #[] 5)).drew.heap.size := by simp
  clear hbP hbH hpl hall hfk hokk f1 hv0 ha1 hbP1 hbH1 hFW k1 k2 k3 k4 k7 k8 k9 hss kvl tm fW hRW HRB HNE H H1 H2 H3 H4 H8 HOK HVL HQL HTS HTL HW1 B1 HCN
  go_region_law (first
      | (refine step_append_run _ (by rfl) (.tmp 63) (.tmp 70) _ (by rfl) (by rfl) (by rfl) HA1.out ?_; rintro v1 w2 ⟨a1, a2, a3⟩; have fr2 : Fr (W.alloc (.cells #[] 5)).drew w2 (fun i => W.heap.size ≤ i) := Fr.of_grew' a2 (fun i hi => by simp [Value.ownBlock] at hi; omega); have N1 := Lib.hid (show ∀ g, v1.ownBlock = some g → W.heap.size ≤ g from fun g hg => by rcases a3 with e | e <;> (rw [hg] at e; simp [Value.ownBlock] at e; omega)); have hH2 := HBH.out.fr fr2 (fun i hi e => by omega); have HP2 := Lib.hid (HBP.out.fr fr2 (fun i hi e => by omega)); have F2 := Lib.hid (FF1.out.trans fr2 (fun i hi e => by omega)); have ha2 := fun ty => append_bytes (P := Try.prog) w2 32 ty 5 Try.underlying32 info_u8 a1 hH2 s (by rw [HBL.out]; omega); rw [HBL.out] at ha2; have HA2 := Lib.hid ha2; have hm2 := F2.out.cell c1 (fun h => h); clear a1 a2 a3 fr2 hH2 ha2)
      | (refine step_append_run _ (by rfl) (.tmp 71) (.tmp 72) _ (by rfl) (by rfl) (by rfl) HA2.out ?_; rintro v2 w3 ⟨b1, b2, b3⟩; have fr3 : Fr w2 w3 (fun i => W.heap.size ≤ i) := Fr.of_grew' b2 (fun i hi => N1.out i hi); have N2 := Lib.hid (show ∀ g, v2.ownBlock = some g → W.heap.size ≤ g from fun g hg => by rcases b3 with e | e; exact N1.out g (by rw [← e]; exact hg); (rw [hg] at e; have := F2.out.size; simp at e; omega)); have hP3 := HP2.out.fr fr3 (fun i hi e => by omega); have F3 := Lib.hid (F2.out.trans fr3 (fun i hi e => by omega)); have ha3 := fun ty => append_bytes (P := Try.prog) w3 32 ty 5 Try.underlying32 info_u8 b1 hP3 c (by rw [HLP.out]; omega); rw [HLP.out] at ha3; have HA3 := Lib.hid ha3; have hm3 := F3.out.cell c1 (fun h => h); clear b1 b2 b3 fr3 hP3 ha3)
      | (refine step_append_run _ (by rfl) (.tmp 73) (.tmp 74) _ (by rfl) (by rfl) (by rfl) HA3.out ?_; rintro v3 w4 ⟨e1, e2, e3⟩; obtain ⟨A4, c4, rfl, _⟩ := own_form e1; have fr4 : Fr w3 w4 (fun i => W.heap.size ≤ i) := Fr.of_grew' e2 (fun i hi => N2.out i hi); have N3 := Lib.hid (show ∀ g, (Value.slice A4 (0 + P1.length + s + l) c4).ownBlock = some g → W.heap.size ≤ g from fun g hg => by rcases e3 with e | e; exact N2.out g (by rw [← e]; exact hg); (rw [hg] at e; have := F3.out.size; simp at e; omega)); have f4 : Fr W w4 (fun _ => False) := F3.out.trans fr4 (fun i hi e => by omega); have hk4 := f4.cell hck (fun h => h); have hm4 := f4.cell c1 (fun h => h); obtain ⟨_, hfw⟩ := own_whole (own_fr K2.out f4 (fun _ _ h => h)); have hfz4 := hfw.frozen q; have F4 := Lib.hid f4; have E1 := Lib.hid e1; clear hfw e1 e2 e3 fr4 f4))
  all_goals
    go_wp2_with fail
    go_ret
    refine ⟨rfl, ?_⟩
    have hq := HQ.out
    have hlp := HLP.out
    subst hq hlp
    have hput := rb_put K1.out K2.out K3.out K4.out k5 k6 K7.out K8.out K9.out KVL.out F4.out (P' := P1 ++ be s P.length ++ P) (by
      have := E1.out
      simpa [be_length, Nat.add_assoc, List.append_assoc] using this) (fun g hg => N3.out g hg) HALL.out HPL.out hmo hsl HSS.out
    obtain ⟨F', p1, p2, p3⟩ := hput
    exact ⟨F', by simpa [Nat.add_assoc] using p1, by simpa [Nat.add_assoc] using HFW.out.trans p2 (fun _ _ h => h), fun i hi => (p3 i hi).imp id (fun h => Nat.le_trans HFW.out.size h)⟩

end Go.Proofs.Ytkeiamihgcbcbaa

