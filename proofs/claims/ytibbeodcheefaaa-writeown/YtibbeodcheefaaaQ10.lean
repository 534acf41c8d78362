/- One contract for each of Number, Take and Sub, whatever the argument: what is told hangs on the bytes ahead alone. -/
import Derived.Test.YtibbeodcheefaaaQ9
import Derived.StillTailTactics
import Derived.Deep.RegionHeld3
import Derived.OwnWalk
import Derived.Deep.AppendLies
import Derived.Deep.RegionLaw
import Derived.BigRegion
namespace Go.Proofs.Ytibbeodcheefaaa
open Go.RowKit

theorem Byt.far {w w' : World} {row : Option Nat} {B g0 : Nat} {A : Option Addr} {xs : List UInt8} (h : Byt w B A xs) (hA : ∀ x, A = some x → x.block = g0) (g : Grew w w' row) (hne : some g0 ≠ row) : Byt w' B A xs := by
  intro hn
  obtain ⟨b, o, rfl, hb, hc⟩ := h hn
  have e := hA _ rfl
  exact ⟨b, o, rfl, hb, fun i hi => g.cell (hc i hi) (by simp only at e ⊢; rw [e]; exact hne)⟩

/-- What Take tells of n bytes where len are ahead: the error; how far the cursor goes. -/
def tkE (len : Nat) (n : Int) : Int := if n < 0 then 2 else if (len : Int) < n then 4 else 0
def tkM (len : Nat) (n : Int) : Nat := if n < 0 then 0 else if (len : Int) < n then 0 else n.toNat
theorem tkM_le (len : Nat) (n : Int) : tkM len n ≤ len := by
  unfold tkM
  split
  · omega
  · split <;> omega

theorem cr_take_all (w : World) (p B : Nat) (ys : List UInt8) (a : Int) (h : Cr w p B ys a) (n : Int) :
    Calls Try.prog 110 #[.pointer (some ⟨p, 0, none⟩), .int .i64 n] w fun e w' => ∃ A', e = .returned (.tuple #[.slice A' (tkM ys.length n) (tkM ys.length n), .int .i64 (tkE ys.length n)]) ∧
      Cr w' p B (ys.drop (tkM ys.length n)) (a + tkM ys.length n) ∧ Byt w' w'.heap.size A' (ys.take (tkM ys.length n)) ∧ (∀ x, A' = some x → x.block = w.heap.size) ∧ Grew w w' (some p) := by
  by_cases h1 : n < 0
  · have e1 : tkM ys.length n = 0 := by simp [tkM, h1]
    have e2 : tkE ys.length n = 2 := by simp [tkE, h1]
    rw [e1, e2]
    refine (take_arg w p n h1).mono ?_
    rintro e w' ⟨rfl, rfl⟩
    exact ⟨none, rfl, by simpa using h, fun h => by simp at h, (fun x h => by cases h), grew_refl _ _⟩
  · by_cases h2 : (ys.length : Int) < n
    · have e1 : tkM ys.length n = 0 := by simp [tkM, h1, h2]
      have e2 : tkE ys.length n = 4 := by simp [tkE, h1, h2]
      rw [e1, e2]
      refine (cr_take_short w p B ys a h n h2).mono ?_
      rintro e w' ⟨rfl, rfl⟩
      exact ⟨none, rfl, by simpa using h, fun h => by simp at h, (fun x h => by cases h), grew_refl _ _⟩
    · have e2 : tkE ys.length n = 0 := by simp [tkE, h1, h2]
      have e1 : tkM ys.length n = n.toNat := by simp [tkM, h1, h2]
      obtain ⟨k, rfl⟩ := Int.eq_ofNat_of_zero_le (a := n) (by omega)
      rw [e1, e2, Int.toNat_natCast]
      refine (cr_take w p B ys a h k (by omega)).mono ?_
      rintro e w' ⟨rfl, h', hb, g, s⟩
      exact ⟨_, rfl, h', hb.more (by omega), fun x h => by cases h; rfl, g⟩

/-- What Number tells. -/
def nmX (ys : List UInt8) (n : Int) : Nat := if sizeOk n then (if (ys.length : Int) < n then 0 else num (ys.take n.toNat)) else 0
def nmE (len : Nat) (n : Int) : Int := if sizeOk n then (if (len : Int) < n then 4 else 0) else 2
def nmM (len : Nat) (n : Int) : Nat := if sizeOk n then (if (len : Int) < n then 0 else n.toNat) else 0
theorem nmM_le (len : Nat) (n : Int) : nmM len n ≤ len := by
  unfold nmM
  split
  · split <;> omega
  · omega

theorem cr_number_all (w : World) (p B : Nat) (ys : List UInt8) (a : Int) (h : Cr w p B ys a) (n : Int) :
    Calls Try.prog 92 #[.pointer (some ⟨p, 0, none⟩), .int .i64 n] w fun e w' => e = .returned (.tuple #[.int .u64 (nmX ys n), .int .i64 (nmE ys.length n)]) ∧
      Cr w' p B (ys.drop (nmM ys.length n)) (a + nmM ys.length n) ∧ Grew w w' (some p) := by
  by_cases h1 : sizeOk n
  · by_cases h2 : (ys.length : Int) < n
    · have e1 : nmM ys.length n = 0 := by simp [nmM, h1, h2]
      have e2 : nmE ys.length n = 4 := by simp [nmE, h1, h2]
      have e3 : nmX ys n = 0 := by simp [nmX, h2]
      rw [e1, e2, e3]
      refine (cr_number_short w p B ys a h n h1 h2).mono ?_
      rintro e w' ⟨rfl, rfl⟩
      exact ⟨rfl, by simpa using h, grew_refl _ _⟩
    · have e1 : nmM ys.length n = n.toNat := by simp [nmM, h1, h2]
      have e2 : nmE ys.length n = 0 := by simp [nmE, h1, h2]
      have e3 : nmX ys n = num (ys.take n.toNat) := by simp [nmX, h1, h2]
      obtain ⟨k, rfl⟩ := Int.eq_ofNat_of_zero_le (a := n) (by unfold sizeOk at h1; omega)
      rw [e1, e2, e3, Int.toNat_natCast]
      refine (cr_number w p B ys a h k h1 (by omega)).mono ?_
      rintro e w' ⟨rfl, h', g, s⟩
      exact ⟨rfl, h', g⟩
  · have e1 : nmM ys.length n = 0 := by simp [nmM, h1]
    have e2 : nmE ys.length n = 2 := by simp [nmE, h1]
    have e3 : nmX ys n = 0 := by simp [nmX, h1]
    rw [e1, e2, e3]
    refine (number_arg w p n h1).mono ?_
    rintro e w' ⟨rfl, rfl⟩
    exact ⟨rfl, by simpa using h, grew_refl _ _⟩

end Go.Proofs.Ytibbeodcheefaaa


/- Builders: what one holds, and contracts of its functions. -/
namespace Go.Proofs.Ytibbeodcheefaaa
open Go.RowKit

/-- The cells of parts. -/
def partsOf (ps : List (Nat × Nat)) : List Value := ps.flatMap fun p => [.int .i64 (p.1 : Int), .int .i64 (p.2 : Int)]
theorem partsOf_length (ps : List (Nat × Nat)) : (partsOf ps).length = ps.length * 2 := by
  induction ps with
  | nil => rfl
  | cons p ps ih => simp [partsOf] at ih ⊢; omega
theorem partsOf_append (ps qs : List (Nat × Nat)) : partsOf (ps ++ qs) = partsOf ps ++ partsOf qs := by simp [partsOf]

/-- Each part's length has 1 to 3 bytes, and stands among the bytes. -/
def PsOk (n : Nat) (ps : List (Nat × Nat)) : Prop := ps.length ≤ n ∧ ∀ q ∈ ps, 1 ≤ q.2 ∧ q.2 ≤ 3 ∧ q.2 ≤ q.1 ∧ q.1 ≤ n

/-- A builder in block p: how many bytes it may have, its bytes, its open parts; all of it lies in blocks of F. -/
def Bd (w : World) (F : Nat → Prop) (p most : Nat) (xs : List UInt8) (ps : List (Nat × Nat)) : Prop :=
  ∃ vb vp, Whole w p #[.int .i64 most, vb, vp] 117 ∧ w.ownsRow 0 5 1 vb xs.length (cellsOf xs) ∧ w.ownsRow 0 151 2 vp ps.length (partsOf ps) ∧
    F p ∧ (∀ g, vb.ownBlock = some g → F g) ∧ (∀ g, vp.ownBlock = some g → F g) ∧ (∀ i, F i → i < w.heap.size) ∧ xs.length ≤ most ∧ most ≤ 1073741824 ∧ PsOk xs.length ps

/-- What a call leaves. -/
def BdOut (w w' : World) (F : Nat → Prop) (p most : Nat) (xs : List UInt8) (ps : List (Nat × Nat)) : Prop :=
  ∃ F', Bd w' F' p most xs ps ∧ Fr w w' F ∧ ∀ i, F' i → F i ∨ w.heap.size ≤ i

theorem Bd.lt {w : World} {F : Nat → Prop} {p most : Nat} {xs : List UInt8} {ps : List (Nat × Nat)} (h : Bd w F p most xs ps) : p < w.heap.size := by
  obtain ⟨_, _, h, _⟩ := h
  exact h.lt
theorem Bd.has {w : World} {F : Nat → Prop} {p most : Nat} {xs : List UInt8} {ps : List (Nat × Nat)} (h : Bd w F p most xs ps) : ∀ i, F i → i < w.heap.size := by
  obtain ⟨_, _, _, _, _, _, _, _, h, _⟩ := h
  exact h
theorem Bd.le {w : World} {F : Nat → Prop} {p most : Nat} {xs : List UInt8} {ps : List (Nat × Nat)} (h : Bd w F p most xs ps) : xs.length ≤ most ∧ most ≤ 1073741824 ∧ PsOk xs.length ps := by
  obtain ⟨_, _, _, _, _, _, _, _, _, h1, h2, h3⟩ := h
  exact ⟨h1, h2, h3⟩
theorem Bd.fr {w w' : World} {F G : Nat → Prop} {p most : Nat} {xs : List UInt8} {ps : List (Nat × Nat)} (h : Bd w F p most xs ps) (g : Fr w w' G) (hr : ∀ i, F i → ¬ G i) : Bd w' F p most xs ps := by
  obtain ⟨vb, vp, h1, h2, h3, h4, h5, h6, h7, h8, h9⟩ := h
  exact ⟨vb, vp, h1.fr g (hr p h4), own_fr h2 g (fun k hk => hr k (h5 k hk)), own_fr h3 g (fun k hk => hr k (h6 k hk)), h4, h5, h6, fun i hi => Nat.lt_of_lt_of_le (h7 i hi) g.size, h8, h9⟩
theorem Bd.drewN {w : World} {F : Nat → Prop} {p most : Nat} {xs : List UInt8} {ps : List (Nat × Nat)} (h : Bd w F p most xs ps) (n : Nat) : Bd (w.drewN n) F p most xs ps := h.fr (G := fun _ => False) ((Fr.refl _ _).drewN n) (fun _ _ h => h)
theorem BdOut.same {w : World} {F : Nat → Prop} {p most : Nat} {xs : List UInt8} {ps : List (Nat × Nat)} (h : Bd w F p most xs ps) (n : Nat) : BdOut w (w.drewN n) F p most xs ps :=
  ⟨F, h.drewN n, (Fr.refl _ _).drewN n, fun _ hi => .inl hi⟩

/-- Ahead of it nothing turned. -/
theorem BdOut.ahead {w W w' : World} {F : Nat → Prop} {p most : Nat} {xs : List UInt8} {ps : List (Nat × Nat)} (h : BdOut W w' F p most xs ps) (hF : Fr w W (fun _ => False)) : BdOut w w' F p most xs ps := by
  obtain ⟨F', h1, h2, h3⟩ := h
  exact ⟨F', h1, (hF.mono (fun _ _ h => h.elim)).trans h2 (fun _ _ h => h), fun i hi => (h3 i hi).imp id (fun h => Nat.le_trans hF.size h)⟩

/-- One behind the other. -/
theorem BdOut.andThen {w w1 w2 : World} {F F1 : Nat → Prop} {p most : Nat} {xs : List UInt8} {ps : List (Nat × Nat)} (g : Fr w w1 F) (hn : ∀ i, F1 i → F i ∨ w.heap.size ≤ i) (k : BdOut w1 w2 F1 p most xs ps) : BdOut w w2 F p most xs ps := by
  obtain ⟨F2, h2, g2, n2⟩ := k
  refine ⟨F2, h2, g.trans g2 (fun i hi h => (hn i h).resolve_right (by omega)), fun i hi => ?_⟩
  rcases n2 i hi with h | h
  · exact hn i h
  · exact .inr (Nat.le_trans g.size h)

/-- An owned value is a slice. -/
theorem own_form {w : World} {e : TypeId} {size n : Nat} {v : Value} {xs : List Value} (h : w.ownsRow 0 e size v n xs) : ∃ A c, v = .slice A n c ∧ n ≤ c ∧ c ≤ maxLen ∧ (A = none → c = 0) := by
  rcases h.2 with ⟨rfl, rfl⟩ | ⟨g, cap, cur, rfl, _, _, h1, h2, _⟩
  · exact ⟨none, 0, rfl, Nat.le_refl _, by unfold maxLen; omega, fun _ => rfl⟩
  · exact ⟨_, cap, rfl, h1, h2, fun h => by cases h⟩

set_option maxHeartbeats 400000 in
theorem bnew_ok (w : World) (most : Nat) (hm : most ≤ 1073741824) :
    Calls Try.prog 54 #[.int .i64 most] w fun e w' => e = .returned (.tuple #[.pointer (some ⟨w.heap.size, 0, none⟩), .int .i64 0]) ∧ Bd w' (fun i => i = w.heap.size) w.heap.size most [] [] ∧ Grew w w' none := by
  have hn : ¬ ((most : Int) < 0) := by omega
  have hn2 : ¬ ((1073741824 : Int) < most) := by omega
  go_enter Try.func54, Try.ntmps54
  go_wp2
  go_ret2
  refine ⟨rfl, ⟨.slice none 0 0, .slice none 0 0, Whole.new _ _ _, World.ownsRow_nil _ _ _ _, World.ownsRow_nil _ _ _ _, rfl, fun g h => ?_, fun g h => ?_, fun i h => ?_, Nat.zero_le _, hm, Nat.zero_le _, fun q h => ?_⟩, grew_alloc (grew_refl _ _) _⟩
  · simp [Value.ownBlock] at h
  · simp [Value.ownBlock] at h
  · subst h; simp
  · simp at h

set_option maxHeartbeats 400000 in
theorem bnew_no (w : World) (most : Int) (hm : most < 0 ∨ 1073741824 < most) :
    Calls Try.prog 54 #[.int .i64 most] w fun e w' => e = .returned (.tuple #[.pointer none, .int .i64 3]) ∧ w = w' := by
  rcases hm with hm | hm
  · go_enter Try.func54, Try.ntmps54
    go_wp2
    go_ret2
    exact ⟨rfl, rfl⟩
  · have hn : ¬ (most < 0) := by omega
    go_enter Try.func54, Try.ntmps54
    go_wp2
    go_ret2
    exact ⟨rfl, rfl⟩

set_option maxHeartbeats 1000000 in
theorem add_full (w : World) (F : Nat → Prop) (p most : Nat) (xs : List UInt8) (ps : List (Nat × Nat)) (h : Bd w F p most xs ps) (A : Option Addr) (n c : Nat) (hfull : most < xs.length + n) :
    Calls Try.prog 86 #[.pointer (some ⟨p, 0, none⟩), .slice A n c] w fun e w' => e = .returned (.int .i64 5) ∧ ∃ m, w' = w.drewN m := by
  have hle := h.le.1
  have hmo := h.le.2.1
  obtain ⟨vb, vp, h1, h2, _⟩ := h
  obtain ⟨A', c', rfl, _⟩ := own_form h2
  have h0 := h1.cell 1
  have h0' := h1.cell 0
  simp at h0 h0'
  clear h1 h2
  generalize xs.length = k at *
  have p2 : IntKind.i64.wrap ((most : Int) - k) = (most : Int) - k := IntWalk.i64_in _ (by omega)
  have p1 : (most : Int) - k < n := by omega
  go_enter Try.func86, Try.ntmps86
  go_wp2_with fail
  go_quiet (fail)
  go_wp2_with fail
  go_ret
  exact ⟨rfl, _, rfl⟩

theorem Grew.undraw {w w' : World} {row : Option Nat} {m : Nat} (h : Grew (w.drewN m) w' row) : Grew w w' row := ⟨h.os, h.tape, h.output, h.size, h.block⟩

theorem PsOk.more {n m : Nat} {ps : List (Nat × Nat)} (h : PsOk n ps) (hm : n ≤ m) : PsOk m ps :=
  ⟨by have := h.1; omega, fun q hq => by have := h.2 q hq; omega⟩

set_option maxHeartbeats 1000000 in
theorem add_ok (w : World) (F : Nat → Prop) (p most : Nat) (xs : List UInt8) (ps : List (Nat × Nat)) (h : Bd w F p most xs ps) (G : Nat → Prop) (A : Option Addr) (bs : List UInt8) (c : Nat) (hb : ByF w G A bs) (hfit : xs.length + bs.length ≤ most) :
    Calls Try.prog 86 #[.pointer (some ⟨p, 0, none⟩), .slice A bs.length c] w fun e w' => e = .returned (.int .i64 0) ∧ BdOut w w' F p most (xs ++ bs) ps := by
  have hmo := h.le.2.1
  obtain ⟨vb, vp, h1, h2, h3, h4, h5, h6, h7, h8, h9, h10⟩ := h
  have hne := own_ne h2 h1 (by decide)
  have hpp := own_own h2 h3 (by decide)
  obtain ⟨A', c', rfl, _⟩ := own_form h2
  have h0 := h1.cell 1
  have h0' := h1.cell 0
  simp at h0 h0'
  have hap := fun ty m => append_bytes (P := Try.prog) (w.drewN m) 26 ty 5 Try.underlying26 info_u8 (own_fr (F := fun _ => False) h2 ((Fr.refl _ _).drewN m) (fun _ _ h => h)) (hb.fr (G := fun _ => False) ((Fr.refl _ _).drewN m) (fun _ _ h => h)) c (by omega)
  have HA := Lib.hid hap
  have H1 := Lib.hid h1
  have H3 := Lib.hid h3
  have H5 := Lib.hid h5
  have H6 := Lib.hid h6
  have H7 := Lib.hid h7
  have H10 := Lib.hid h10
  have HN := Lib.hid hne
  have HP := Lib.hid hpp
  clear hap h1 h2 h3 h5 h6 h7 h10 hb hne hpp
  generalize hk : xs.length = k at *
  have HK := Lib.hid hk
  clear hk
  have p2 : IntKind.i64.wrap ((most : Int) - k) = (most : Int) - k := IntWalk.i64_in _ (by omega)
  have p1 : ¬ ((most : Int) - k < bs.length) := by omega
  go_enter Try.func86, Try.ntmps86
  go_wp2_with fail
  go_quiet (fail)
  go_wp2_with (at_builtin; refine wpList_append_run _ rfl (.tmp 22) (.tmp 23) 26 rfl rfl rfl (fun ty => HA.out ty nq) ?_; rintro v' w1 ⟨a1, a2, a3⟩; obtain ⟨A2, c2, rfl, _⟩ := own_form a1; have hW1 := H1.out.fr (Fr.of_grew' (F := fun i => (Value.slice A' k c').ownBlock = some i) (Grew.undraw a2) (fun i hi => hi)) HN.out; have hs1 := hW1.cell 1; have hf1 := hW1.frozen 1; simp at hs1; have HW1 := Lib.hid hW1; have A1 := Lib.hid a1; have A2' := Lib.hid a2; have A3 := Lib.hid a3; clear hW1 a1 a2 a3)
  go_ret
  refine ⟨rfl, ?_⟩
  have hW2 := HW1.out.set 1 (.slice A2 (k + bs.length) c2)
  simp at hW2
  have hfr : Fr w w1 F := Fr.of_grew' (Grew.undraw A2'.out) (fun i hi => H5.out i hi)
  have hne := own_ne A1.out HW1.out (by decide)
  have hset : ∀ u, Fr w1 (w1.setCell ⟨p, 1, none⟩ u) (fun i => i = p) := fun u => Fr.set (F := fun i => i = p) (Fr.refl _ _) (.inl rfl) _ _ _
  refine ⟨fun i => F i ∨ i = w.heap.size ∧ i < w1.heap.size, ⟨_, _, hW2, ?_, ?_, .inl h4, ?_, ?_, ?_, ?_, hmo, ?_⟩, hfr.set (.inl h4) _ _ _, ?_⟩
  · have := own_fr A1.out (hset (.slice A2 (k + bs.length) c2)) (fun g hg e => hne (by rw [hg, e]))
    simpa [HK.out] using this
  · have h3 := own_fr H3.out (Fr.of_grew' (F := fun i => (Value.slice A' k c').ownBlock = some i) (Grew.undraw A2'.out) (fun i hi => hi)) (fun g hg e => HP.out g e hg)
    exact own_fr h3 (hset _) (fun g hg e => own_ne h3 HW1.out (by decide) (by rw [hg, e]))
  · intro g hg
    rcases A3.out with e | e
    · exact .inl (H5.out g (by rw [← e]; exact hg))
    · have e' : some g = some w.heap.size := hg.symm.trans e
      have := own_lt A1.out g hg
      simp at e'
      exact .inr ⟨e', this⟩
  · exact fun g hg => .inl (H6.out g hg)
  · rintro i (hi | ⟨_, hi⟩)
    · have := H7.out i hi
      have := hfr.size
      simp; omega
    · simpa using hi
  · rw [List.length_append, HK.out]; exact hfit
  · rw [List.length_append, HK.out]; exact H10.out.more (by omega)
  · rintro i (hi | ⟨hi, _⟩)
    · exact .inl hi
    · exact .inr (by omega)

/-- What is told of k bytes more where there are n: the error; the bytes then. -/
def adE (most n k : Nat) : Int := if most < n + k then 5 else 0
def adX (most : Nat) (xs bs : List UInt8) : List UInt8 := if most < xs.length + bs.length then xs else xs ++ bs

theorem add_any (w : World) (F : Nat → Prop) (p most : Nat) (xs : List UInt8) (ps : List (Nat × Nat)) (h : Bd w F p most xs ps) (G : Nat → Prop) (A : Option Addr) (bs : List UInt8) (c : Nat) (hb : ByF w G A bs) :
    Calls Try.prog 86 #[.pointer (some ⟨p, 0, none⟩), .slice A bs.length c] w fun e w' => e = .returned (.int .i64 (adE most xs.length bs.length)) ∧ BdOut w w' F p most (adX most xs bs) ps := by
  by_cases hf : most < xs.length + bs.length
  · simp only [adE, adX, if_pos hf]
    refine (add_full w F p most xs ps h A bs.length c hf).mono ?_
    rintro e w' ⟨rfl, m, rfl⟩
    exact ⟨rfl, BdOut.same h m⟩
  · simp only [adE, adX, if_neg hf]
    exact add_ok w F p most xs ps h G A bs c hb (by omega)

set_option maxHeartbeats 400000 in
theorem bbytes_any (w : World) (F : Nat → Prop) (p most : Nat) (xs : List UInt8) (ps : List (Nat × Nat)) (h : Bd w F p most xs ps) (G : Nat → Prop) (A : Option Addr) (bs : List UInt8) (c : Nat) (hb : ByF w G A bs) :
    Calls Try.prog 68 #[.pointer (some ⟨p, 0, none⟩), .slice A bs.length c] w fun e w' => e = .returned (.int .i64 (adE most xs.length bs.length)) ∧ BdOut w w' F p most (adX most xs bs) ps := by
  have HA := Lib.hid (add_any w F p most xs ps h G A bs c hb)
  clear h hb
  generalize adE most xs.length bs.length = E at *
  generalize adX most xs bs = X at *
  go_enter Try.func68, Try.ntmps68
  go_wp2_with fail
  refine HA.out.mono ?_
  rintro e w' ⟨rfl, h⟩
  have H := Lib.hid h
  clear h
  go_wp2_with fail
  go_ret
  exact ⟨rfl, H.out⟩

set_option maxHeartbeats 400000 in
theorem bbytes_nil (w : World) (v : Value) :
    Calls Try.prog 68 #[.pointer none, v] w fun e w' => e = .returned (.int .i64 1) ∧ w = w' := by
  go_enter Try.func68, Try.ntmps68
  go_wp2_with fail
  go_ret
  exact ⟨rfl, rfl⟩

theorem ByF.of_whole {w : World} {q k : Nat} {ys : List UInt8} {cs : Array Value} {t : TypeId} (h : Whole w q cs t) (hc : cs.toList = cellsOf ys) : ByF w (fun i => i = q) (some ⟨q, k, none⟩) (ys.drop k) := by
  intro hn
  rw [List.length_drop] at hn
  refine ⟨q, k, rfl, rfl, fun i hi => ?_⟩
  rw [List.length_drop] at hi
  rw [h.cell, ← Array.getElem?_toList, hc, cellsOf_at _ _ (by omega)]
  simp [List.getD, List.getElem?_drop]

/-- What Number tells; the bytes then. -/
def nbE (most n : Nat) (size : Int) (x : Nat) : Int := if sizeOk size then (if x < 256 ^ size.toNat then adE most n size.toNat else 3) else 2
def nbX (most : Nat) (xs : List UInt8) (size : Int) (x : Nat) : List UInt8 := if sizeOk size then (if x < 256 ^ size.toNat then adX most xs (be size.toNat x) else xs) else xs

set_option maxHeartbeats 1000000 in
theorem bnumber_ok (w : World) (F : Nat → Prop) (p most : Nat) (xs : List UInt8) (ps : List (Nat × Nat)) (h : Bd w F p most xs ps) (k x : Nat) (hk : sizeOk k) (hx : x < 18446744073709551616) (hl : x < 256 ^ k) :
    Calls Try.prog 65 #[.pointer (some ⟨p, 0, none⟩), .int .i64 k, .int .u64 x] w fun e w' => e = .returned (.int .i64 (adE most xs.length k)) ∧ BdOut w w' F p most (adX most xs (be k x)) ps := by
  have hd : decide (x < 256 ^ k) = true := by simpa using hl
  have HD := Lib.hid hd
  have HS := Lib.hid hk
  have H := Lib.hid h
  have hk' : k = 1 ∨ k = 2 ∨ k = 3 ∨ k = 4 ∨ k = 8 := by unfold sizeOk at hk; omega
  have hh := highest_any w x hx
  have hbl := be_last k x (by omega)
  obtain ⟨b0, b1, b2, b3, b4, b5, b6, b7, he⟩ : ∃ b0 b1 b2 b3 b4 b5 b6 b7 : UInt8, be 8 x = [b0, b1, b2, b3, b4, b5, b6, b7] := ⟨_, _, _, _, _, _, _, _, be8 x⟩
  rw [he] at hh hbl
  simp only [cellsOf, List.map_cons, List.map_nil] at hh
  have HH := Lib.hid hh
  have HB := Lib.hid hbl
  clear hd hk h hh he hl hbl
  generalize be k x = bk at *
  go_enter Try.func65, Try.ntmps65
  go_wp2_with fail
  refine (bsize_yes w k HS.out).mono ?_
  rintro e w1 ⟨rfl, rfl⟩
  go_wp2_with fail
  refine (holds_any w k x HS.out hx).mono ?_
  rintro e w1 ⟨rfl, rfl⟩
  rw [HD.out]
  go_wp2_with fail
  refine HH.out.mono ?_
  rintro e w1 ⟨rfl, g1⟩
  have hW := Whole.new w1 #[.int .u8 b0.toNat, .int .u8 b1.toNat, .int .u8 b2.toNat, .int .u8 b3.toNat, .int .u8 b4.toNat, .int .u8 b5.toNat, .int .u8 b6.toNat, .int .u8 b7.toNat] 131
  have hG := grew_alloc g1 (.cells #[.int .u8 b0.toNat, .int .u8 b1.toNat, .int .u8 b2.toNat, .int .u8 b3.toNat, .int .u8 b4.toNat, .int .u8 b5.toNat, .int .u8 b6.toNat, .int .u8 b7.toNat] 131)
  have hB := ByF.of_whole (k := 8 - k) hW (ys := [b0, b1, b2, b3, b4, b5, b6, b7]) rfl
  rw [HB.out] at hB
  have hlen : bk.length = k := by rw [← HB.out]; simp; omega
  have hF : Fr w (w1.alloc (.cells #[.int .u8 b0.toNat, .int .u8 b1.toNat, .int .u8 b2.toNat, .int .u8 b3.toNat, .int .u8 b4.toNat, .int .u8 b5.toNat, .int .u8 b6.toNat, .int .u8 b7.toNat] 131)) (fun _ => False) := Fr.of_grew' hG (fun _ h => by cases h)
  have hc := add_any _ F p most xs ps (H.out.fr hF (fun _ _ h => h)) _ _ bk k hB
  rw [hlen] at hc
  have HC := Lib.hid hc
  have HF := Lib.hid hF
  have HP := Lib.hid H.out.has
  clear hc hB hW hG hF hlen g1 HH HB HD
  rcases hk' with rfl | rfl | rfl | rfl | rfl
  all_goals
    go_wp2_with fail
    refine HC.out.mono ?_
    rintro e w2 ⟨rfl, h2⟩
    have H2 := Lib.hid h2
    clear h2
    go_wp2_with fail
    go_ret
    exact ⟨rfl, H2.out.ahead HF.out⟩

set_option maxHeartbeats 400000 in
theorem bnumber_range (w : World) (p : Nat) (k x : Nat) (hk : sizeOk k) (hx : x < 18446744073709551616) (hl : ¬ x < 256 ^ k) :
    Calls Try.prog 65 #[.pointer (some ⟨p, 0, none⟩), .int .i64 k, .int .u64 x] w fun e w' => e = .returned (.int .i64 3) ∧ w = w' := by
  have hd : decide (x < 256 ^ k) = false := by simpa using hl
  have HD := Lib.hid hd
  have HS := Lib.hid hk
  clear hd hk hl
  go_enter Try.func65, Try.ntmps65
  go_wp2_with fail
  refine (bsize_yes w k HS.out).mono ?_
  rintro e w1 ⟨rfl, rfl⟩
  go_wp2_with fail
  refine (holds_any w k x HS.out hx).mono ?_
  rintro e w1 ⟨rfl, rfl⟩
  rw [HD.out]
  go_wp2_with fail
  go_ret
  exact ⟨rfl, rfl⟩

set_option maxHeartbeats 400000 in
theorem bnumber_arg (w : World) (p : Nat) (k : Int) (x : Int) (hk : ¬ sizeOk k) :
    Calls Try.prog 65 #[.pointer (some ⟨p, 0, none⟩), .int .i64 k, .int .u64 x] w fun e w' => e = .returned (.int .i64 2) ∧ w = w' := by
  have HS := Lib.hid hk
  clear hk
  go_enter Try.func65, Try.ntmps65
  go_wp2_with fail
  refine (bsize_no w k HS.out).mono ?_
  rintro e w1 ⟨rfl, rfl⟩
  go_wp2_with fail
  go_ret
  exact ⟨rfl, rfl⟩

set_option maxHeartbeats 400000 in
theorem bnumber_nil (w : World) (k x : Int) :
    Calls Try.prog 65 #[.pointer none, .int .i64 k, .int .u64 x] w fun e w' => e = .returned (.int .i64 1) ∧ w = w' := by
  go_enter Try.func65, Try.ntmps65
  go_wp2_with fail
  go_ret
  exact ⟨rfl, rfl⟩

theorem bnumber_any (w : World) (F : Nat → Prop) (p most : Nat) (xs : List UInt8) (ps : List (Nat × Nat)) (h : Bd w F p most xs ps) (k : Int) (x : Nat) (hx : x < 18446744073709551616) :
    Calls Try.prog 65 #[.pointer (some ⟨p, 0, none⟩), .int .i64 k, .int .u64 x] w fun e w' => e = .returned (.int .i64 (nbE most xs.length k x)) ∧ BdOut w w' F p most (nbX most xs k x) ps := by
  by_cases hk : sizeOk k
  · obtain ⟨n, rfl⟩ := Int.eq_ofNat_of_zero_le (a := k) (by unfold sizeOk at hk; omega)
    simp only [nbE, nbX, if_pos hk, Int.toNat_natCast]
    by_cases hl : x < 256 ^ n
    · simp only [if_pos hl]
      exact bnumber_ok w F p most xs ps h n x hk hx hl
    · simp only [if_neg hl]
      refine (bnumber_range w p n x hk hx hl).mono ?_
      rintro e w' ⟨rfl, rfl⟩
      exact ⟨rfl, BdOut.same h 0⟩
  · simp only [nbE, nbX, if_neg hk]
    refine (bnumber_arg w p k x hk).mono ?_
    rintro e w' ⟨rfl, rfl⟩
    exact ⟨rfl, BdOut.same h 0⟩

end Go.Proofs.Ytibbeodcheefaaa


/- Builders: Done, Open, Close. -/
namespace Go.Proofs.Ytibbeodcheefaaa
open Go.RowKit

set_option maxRecDepth 100000 in
theorem ByF.src {w : World} {F : Nat → Prop} {A : Option Addr} {xs : List UInt8} (h : ByF w F A xs) : 0 < (cellsOf xs).length → ∃ ad, A = some ad ∧ ∀ j v, (cellsOf xs)[j]? = some v → w.cell? (ad.add j) = some v := by
  intro hn
  rw [cellsOf_length] at hn
  obtain ⟨b, o, rfl, _, hc⟩ := h hn
  refine ⟨_, rfl, fun j v hj => ?_⟩
  have hj' : j < xs.length := by
    rcases Nat.lt_or_ge j xs.length with h | h
    · exact h
    · rw [List.getElem?_eq_none (by rw [cellsOf_length]; exact h)] at hj; cases hj
  rw [cellsOf_at _ _ hj'] at hj
  rw [addr_add, hc j hj']
  exact hj

set_option maxRecDepth 100000 in
set_option maxHeartbeats 1000000 in
theorem bdone_ok (w : World) (F : Nat → Prop) (p most : Nat) (xs : List UInt8) (h : Bd w F p most xs []) :
    Calls Try.prog 56 #[.pointer (some ⟨p, 0, none⟩)] w fun e w' => e = .returned (.tuple #[.slice (some ⟨w.heap.size, 0, none⟩) xs.length xs.length, .int .i64 0]) ∧
      ByF w' (fun i => i = w.heap.size) (some ⟨w.heap.size, 0, none⟩) xs ∧ Grew w w' none ∧ w.heap.size < w'.heap.size := by
  have hle := h.le.1
  have hmo := h.le.2.1
  have hp := h.lt
  obtain ⟨vb, vp, h1, h2, h3, h4, h5, h6, h7, h8, h9, h10⟩ := h
  obtain ⟨A, c, rfl, _⟩ := own_form h2
  obtain ⟨A', c', rfl, _⟩ := own_form h3
  have hc1 := h1.cell 1
  have hc2 := h1.cell 2
  simp at hc1 hc2
  have HB := Lib.hid (own_by h2)
  clear h1 h2 h3 h4 h5 h6 h7 h8 h9 h10
  generalize hn : xs.length = n at *
  have HN := Lib.hid hn
  clear hn
  have hmk := run_make_row' (P := Try.prog) 26 5 (.int .u8 0) 1 Try.underlying26 info_u8 rfl .i64 .i64 n (by omega) (by omega)
  have hx1 : ByF (w.alloc (.cells (madeCells #[.int .u8 0] n) 5)) (fun i => (Value.slice A n c).ownBlock = some i) A xs := HB.out.fr (G := fun _ => False) ((Fr.refl _ _).alloc _) (fun _ _ h => h)
  have Hx1 := Lib.hid hx1
  clear hx1
  go_enter Try.func56, Try.ntmps56
  go_wp2_with (with_reducible refine wpList_copy_splice (o := ⟨some 24, _, _, _, _, _⟩) rfl (.tmp 19) (.tmp 23) 26 26 rfl 5 Try.underlying26 size_u8 (some ⟨w.heap.size, 0, none⟩) A n n n c rfl rfl w.heap.size 0 (List.replicate n (.int .u8 0)) 5 ?hg (cellsOf xs) ?hn ?hpos ?hfit ?h1 w.heap.size w ?hb ?hBg ?K)
  case hg => rw [← toList_madeCells_one, Array.toArray_toList]; exact heap_alloc_new _ _
  case hn => rw [cellsOf_length, HN.out]; simp
  case hpos => exact Hx1.out.src
  case hfit => rw [cellsOf_length, HN.out]; simp
  case h1 => exact cellsOf_one _
  case hb => exact (Below.refl _ _).alloc (Nat.le_refl _) _
  case hBg => exact Nat.le_refl _
  case K =>
    intro w2 hw2 hb2
    go_wp2
    go_ret2
    have hw : Whole w2 w.heap.size (cellsOf xs).toArray 5 := by
      have := hw2.out
      rw [splice_all _ _ (by simp [cellsOf_length, HN.out])] at this
      exact this
    have g2 : Grew w w2 none := ⟨hb2.os, hb2.tape, hb2.output, hb2.size, fun i hi _ => hb2.block i hi⟩
    refine ⟨rfl, ?_, g2, hw.lt⟩
    have := ByF.of_whole (k := 0) hw (ys := xs) (by simp)
    simpa using this

set_option maxRecDepth 100000 in
set_option maxHeartbeats 400000 in
theorem bdone_state (w : World) (F : Nat → Prop) (p most : Nat) (xs : List UInt8) (ps : List (Nat × Nat)) (h : Bd w F p most xs ps) (hps : 0 < ps.length) :
    Calls Try.prog 56 #[.pointer (some ⟨p, 0, none⟩)] w fun e w' => e = .returned (.tuple #[.slice none 0 0, .int .i64 17]) ∧ w = w' := by
  obtain ⟨vb, vp, h1, _, h2, _⟩ := h
  obtain ⟨A, c, rfl, _⟩ := own_form h2
  have h0 := h1.cell 2
  simp at h0
  clear h1 h2
  generalize ps.length = k at *
  go_enter Try.func56, Try.ntmps56
  go_wp2
  go_ret2
  exact ⟨rfl, rfl⟩

set_option maxRecDepth 100000 in
set_option maxHeartbeats 400000 in
theorem bdone_nil (w : World) :
    Calls Try.prog 56 #[.pointer none] w fun e w' => e = .returned (.tuple #[.slice none 0 0, .int .i64 1]) ∧ w = w' := by
  go_enter Try.func56, Try.ntmps56
  go_wp2
  go_ret2
  exact ⟨rfl, rfl⟩

set_option maxRecDepth 100000 in
set_option maxHeartbeats 400000 in
theorem bclose_nil (w : World) :
    Calls Try.prog 88 #[.pointer none] w fun e w' => e = .returned (.int .i64 1) ∧ w = w' := by
  go_enter Try.func88, Try.ntmps88
  go_wp2_with fail
  go_ret
  exact ⟨rfl, rfl⟩

set_option maxRecDepth 100000 in
set_option maxHeartbeats 400000 in
theorem bopen_nil (w : World) (k : Int) : Calls Try.prog 87 #[.pointer none, .int .i64 k] w fun e w' => e = .returned (.int .i64 1) ∧ w = w' := by
  go_enter Try.func87, Try.ntmps87
  go_wp2_with fail
  go_ret
  exact ⟨rfl, rfl⟩

set_option maxRecDepth 100000 in
set_option maxHeartbeats 400000 in
theorem bopen_arg (w : World) (p : Nat) (k : Int) (hk : k < 1 ∨ 3 < k) : Calls Try.prog 87 #[.pointer (some ⟨p, 0, none⟩), .int .i64 k] w fun e w' => e = .returned (.int .i64 2) ∧ w = w' := by
  rcases hk with hk | hk
  · go_enter Try.func87, Try.ntmps87
    go_wp2_with fail
    go_ret
    exact ⟨rfl, rfl⟩
  · have hk' : ¬ k < 1 := by omega
    go_enter Try.func87, Try.ntmps87
    go_wp2_with fail
    go_ret
    exact ⟨rfl, rfl⟩

set_option maxRecDepth 100000 in
theorem part_info : (Try.prog.info? 151).map (fun i => (i.zero, i.size, i.bytes)) = some (some (.agg #[.int .i64 0, .int .i64 0]), 2, 16) := by kernel_rfl

set_option maxRecDepth 100000 in
theorem arr_cut (q k : Nat) (h1 : 1 ≤ k) (h3 : k ≤ 3) (W : World) : (Instr.sliceAt 131 (.pointer (some ⟨q, 0, none⟩)) none (some (.int .i64 (k : Int))) none).run Try.prog W = .ok (.slice (some ⟨q, 0, none⟩) k 8) W := by
  have hk' : k = 1 ∨ k = 2 ∨ k = 3 := by omega
  rcases hk' with rfl | rfl | rfl
  · first | rfl | kernel_rfl | simp [go_sem]
  · first | rfl | kernel_rfl | simp [go_sem]
  · first | rfl | kernel_rfl | simp [go_sem]

set_option maxRecDepth 100000 in
set_option maxHeartbeats 1000000 in
theorem bopen_ok (w : World) (F : Nat → Prop) (p most : Nat) (xs : List UInt8) (ps : List (Nat × Nat)) (h : Bd w F p most xs ps) (k : Nat) (hk1 : 1 ≤ k) (hk3 : k ≤ 3) (hfit : xs.length + k ≤ most) :
    Calls Try.prog 87 #[.pointer (some ⟨p, 0, none⟩), .int .i64 k] w fun e w' => e = .returned (.int .i64 0) ∧ BdOut w w' F p most (xs ++ List.replicate k 0) (ps ++ [(xs.length + k, k)]) := by
  have hp := h.lt
  have hW := Whole.new w #[.int .u8 0, .int .u8 0, .int .u8 0, .int .u8 0, .int .u8 0, .int .u8 0, .int .u8 0, .int .u8 0] 131
  have hB := ByF.of_whole (k := 0) hW (ys := List.replicate 8 0) rfl
  rw [List.drop_zero] at hB
  have hB' := hB.take k
  rw [List.take_replicate, show min k 8 = k from by omega] at hB'
  have hF : Fr w (w.alloc (.cells #[.int .u8 0, .int .u8 0, .int .u8 0, .int .u8 0, .int .u8 0, .int .u8 0, .int .u8 0, .int .u8 0] 131)) (fun _ => False) := (Fr.refl _ _).alloc _
  have hc := add_ok _ F p most xs ps (h.fr hF (fun _ _ h => h)) _ _ (List.replicate k 0) 8 hB' (by simp; omega)
  rw [List.length_replicate] at hc
  have HC := Lib.hid hc
  have HF := Lib.hid hF
  have H := Lib.hid h
  clear hc hF hB' hB hW h
  have hk0 : ¬ ((k : Int) < 1) := by omega
  have hk4 : ¬ ((3 : Int) < k) := by omega
  have hk' : k = 1 ∨ k = 2 ∨ k = 3 := by omega
  have hlen : (xs ++ List.replicate k (0 : UInt8)).length = xs.length + k := by simp
  have HL := Lib.hid hlen
  clear hlen
  have hsl : ∀ W, (Instr.sliceAt 131 (.pointer (some ⟨w.heap.size, 0, none⟩)) none (some (.int .i64 (k : Int))) none).run Try.prog W = .ok (.slice (some ⟨w.heap.size, 0, none⟩) k 8) W := arr_cut _ k hk1 hk3
  go_enter Try.func87, Try.ntmps87
  · go_wp2_with fail
    clear hsl
    refine HC.out.mono ?_
    rintro e w1 ⟨rfl, F1, h1, g1, n1⟩
    have hp1 := h1.lt
    obtain ⟨vb, vp, b1, b2, b3, b4, b5, b6, b7, b8, b9, b10⟩ := h1
    obtain ⟨A, c, rfl, _⟩ := own_form b2
    have hne := own_ne b3 b1 (by decide)
    have hpp := own_own b3 b2 (by decide)
    have hc1 := b1.cell 1
    have hc2 := b1.cell 2
    have hf2 := b1.frozen 2
    simp only [List.getElem?_toArray, List.getElem?_cons_succ, List.getElem?_cons_zero] at hc1 hc2
    obtain ⟨A', c', rfl, _⟩ := own_form b3
    rw [HL.out] at hc1 b1 b2 b5 b8 b10
    rw [HL.out] at hpp
    have hb10 := b10.1
    have hps : ps.length ≤ 1073741824 := by omega
    obtain ⟨i0, hi0, hz0, hz1, hz2⟩ := info_parts part_info
    have hown := (b3.alloc (.cells #[.int .i64 ((xs.length + k : Nat) : Int), .int .i64 k] 151)).drew
    have HO := Lib.hid hown
    have B1 := Lib.hid b1
    have B2 := Lib.hid b2
    have B3 := Lib.hid b3
    have B5 := Lib.hid b5
    have B6 := Lib.hid b6
    have B7 := Lib.hid b7
    have B10 := Lib.hid b10
    have HN := Lib.hid hne
    have HP := Lib.hid hpp
    have G1 := Lib.hid g1
    have N1 := Lib.hid n1
    have HI := Lib.hid hi0
    have HZ0 := Lib.hid hz0
    have HZ1 := Lib.hid hz1
    have HZ2 := Lib.hid hz2
    clear b1 b2 b3 b5 b6 b7 b10 hne hpp g1 n1 hown hi0 hz0 hz1 hz2
    generalize hk : ps.length = np at *
    have HK := Lib.hid hk
    clear hk
    have ks : ∀ W, Whole W p #[.int .i64 most, .slice A (xs.length + k) c, .slice A' np c'] 117 → W.cell? ⟨p, 1, none⟩ = some (.slice A (xs.length + k) c) ∧ W.cell? ⟨p, 2, none⟩ = some (.slice A' np c') ∧ W.frozen? ⟨p, 2, none⟩ = false :=
      fun W h => ⟨h.cell 1, h.cell 2, h.frozen 2⟩
    have KS := Lib.hid ks
    clear ks
    go_wp2_with fail
    go_region_law ((refine step_append_lies _ (by rfl) _ _ _ (by rfl) 0 151 i0 _ 2 16 Try.underlying115 HI.out HZ0.out HZ1.out HZ2.out rfl (by omega) (.slice A' np c') np (partsOf ps) (by rfl) HO.out ⟨w1.heap.size, 0, none⟩ 1 1 [.int .i64 ((xs.length + k : Nat) : Int), .int .i64 k] (by rfl) (by rfl) (World.news_of_block (cs := #[.int .i64 ((xs.length + k : Nat) : Int), .int .i64 k]) (t := 151) (fr := (0, 0)) (heap_alloc_new w1 _)) (by simp [Value.oneCell']) (by omega) (by unfold maxLen; omega) (by omega) (Nat.zero_le _) (w1.heap.size + 1) (by simp) ?_; intro gg cap w2 hown1 hgrow hat hlt; obtain ⟨_, hs2, hf2⟩ := KS.out _ ((B1.out.fr ((Fr.alloc (Fr.refl w1 (fun _ => False)) _).drew) (fun h => h)).grew hgrow (fun e => HN.out e.symm)); have HG := Lib.hid hgrow; have HOWN := Lib.hid hown1; have HAT := Lib.hid hat; clear hgrow hown1 hat))
    all_goals
      go_wp2_with fail
      go_ret
      refine ⟨rfl, BdOut.ahead (BdOut.andThen G1.out N1.out ?_) HF.out⟩
      have hgr : Fr w1 w2 (fun i => (Value.slice A' np c').ownBlock = some i) := by
        have h0 := (Fr.alloc (Fr.refl w1 (fun i => (Value.slice A' np c').ownBlock = some i)) (.cells #[.int .i64 ((xs.length : Int) + k), .int .i64 k] 151)).drew
        exact h0.trans (Fr.of_grew HG.out) (fun i _ e => e.symm)
      have hW := B1.out.fr hgr HN.out
      have hset : ∀ u, Fr w2 (w2.setCell ⟨p, 2, none⟩ u) (fun i => i = p) := fun u => Fr.set (F := fun i => i = p) (Fr.refl _ _) (.inl rfl) _ _ _
      have hW2 := hW.set 2 (.slice (some ⟨gg, 0, none⟩) (np + 1) cap)
      simp at hW2
      refine ⟨fun i => F1 i ∨ (w1.heap.size ≤ i ∧ i < w2.heap.size), ⟨_, _, hW2, ?_, ?_, .inl b4, ?_, ?_, ?_, ?_, b9, ?_⟩, ?_, ?_⟩
      · rw [HL.out]
        have h2 := own_fr B2.out hgr (fun g hg e => HP.out g e hg)
        exact own_fr h2 (hset _) (fun g hg e => own_ne h2 hW (by decide) (by rw [hg, e]))
      · have h3 := own_fr HOWN.out (hset (.slice (some ⟨gg, 0, none⟩) (np + 1) cap)) (fun g hg e => own_ne HOWN.out hW (by decide) (by rw [hg, e]))
        rw [partsOf_append, List.length_append, HK.out]
        exact h3
      · exact fun g hg => .inl (B5.out g hg)
      · intro g hg
        simp [Value.ownBlock] at hg
        subst hg
        rcases HAT.out with e | e
        · exact .inl (B6.out _ e)
        · exact .inr ⟨by omega, hlt⟩
      · rintro i (hi | ⟨_, hi⟩)
        · have := B7.out i hi
          have := hgr.size
          simp; omega
        · simpa using hi
      · rw [HL.out]; exact hfit
      · rw [HL.out]
        refine ⟨?_, ?_⟩
        · rw [List.length_append, HK.out]; have := H.out.le.2.2.1; rw [HK.out] at this; simp; omega
        · intro q hq
          rw [List.mem_append, List.mem_singleton] at hq
          rcases hq with hq | rfl
          · exact B10.out.2 q hq
          · simp only; omega
      · exact (hgr.mono (fun i _ h => B6.out i h)).set (.inl b4) _ _ _
      · rintro i (hi | ⟨hi, _⟩)
        · exact .inl hi
        · exact .inr hi

end Go.Proofs.Ytibbeodcheefaaa

