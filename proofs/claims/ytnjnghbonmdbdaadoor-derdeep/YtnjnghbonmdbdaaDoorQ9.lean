/- What the laws of layer 10 are made of: a number, seven bits a byte. -/
import Derived.Test.YtnjnghbonmdbdaaDoorQ8
import Derived.Laws.BitsAllLaws
import Derived.Test.YtnjnghbonmdbdaaDoorQ2
import Derived.Test.YtnjnghbonmdbdaaDoorQ5
import Derived.Deep.RegionLaw
import Derived.BigQuiet
import Derived.StillTailTactics
namespace Go.Proofs.YtnjnghbonmdbdaaDoor
open Go.RowKit

/-- Seven bits; with the bit that says that more follow; a number, seven bits a byte. -/
def sv (x : Nat) : UInt8 := .ofNat (x % 128)
def sw (x : Nat) : UInt8 := .ofNat (x % 128 + 128)
theorem sv_int (x : Nat) : ((sv x).toNat : Int) = (x : Int) % 128 := by unfold sv; simp; omega
theorem sw_int (x : Nat) : ((sw x).toNat : Int) = (x : Int) % 128 + 128 := by unfold sw; simp; omega
def layF : Nat → Nat → List UInt8 → List UInt8
  | 0, _, acc => acc
  | k + 1, x, acc => if 0 < x then layF k (x / 128) (sw x :: acc) else acc
def layN (x : Nat) : List UInt8 := layF 9 (x / 128) [sv x]
theorem and_seven (y : Nat) (h : y < 18446744073709551616) : bits BinOp.and IntKind.u64 (y : Int) 127 = (y : Int) % 128 := by
  have := u64_and_nat y 127 h (by omega)
  rw [show ((127 : Nat) : Int) = 127 from rfl] at this
  rw [this, show y &&& 127 = y % 2 ^ 7 from Nat.and_two_pow_sub_one_eq_mod y 7]
  omega
theorem or_128 : ∀ t : Nat, t < 128 → bits BinOp.or IntKind.u8 (t : Int) 128 = t + 128 := by decide +kernel

end Go.Proofs.YtnjnghbonmdbdaaDoor


/- Numbers of an identifier, laid seven bits a byte, are told as they are (of plain lists). -/
namespace Go.Proofs.YtnjnghbonmdbdaaDoor
open Go.RowKit

theorem sv_nat (x : Nat) : (sv x).toNat = x % 128 := by unfold sv; simp; omega
theorem sw_nat (x : Nat) : (sw x).toNat = x % 128 + 128 := by unfold sw; simp; omega
/-- What the bytes of a number are, wherever the laying of them stands. -/
theorem lay_inv (x : Nat) (hx : x < 9223372036854775808) : ∀ (k y : Nat) (acc : List UInt8), y < 128 ^ k → y ≤ x →
    (∀ out rest, arF y out (acc ++ rest) = arF 0 (out ++ (if out = [] then arH x else [x])) rest) → (∀ rest, obF false (acc ++ rest) = obF true rest) → (∃ c t, acc = c :: t ∧ (y = 0 → c.toNat ≠ 128)) →
    (∀ out rest, arF 0 out (layF k y acc ++ rest) = arF 0 (out ++ (if out = [] then arH x else [x])) rest) ∧ (∀ rest, obF true (layF k y acc ++ rest) = obF true rest) ∧ 0 < (layF k y acc).length := by
  intro k
  induction k with
  | zero =>
    intro y acc hy hyx h1 h2 h3
    obtain rfl : y = 0 := by simp at hy; exact hy
    obtain ⟨c, t, rfl, hc⟩ := h3
    refine ⟨h1, fun rest => ?_, by simp [layF]⟩
    have := h2 rest
    show (if (true && c.toNat == 128) = true then false else obF (decide (c.toNat < 128)) (t ++ rest)) = _
    rw [if_neg (by have := hc rfl; simpa using this)]
    exact this
  | succ k ih =>
    intro y acc hy hyx h1 h2 h3
    by_cases g : 0 < y
    · have e : layF (k + 1) y acc = layF k (y / 128) (sw y :: acc) := by show (if 0 < y then _ else _) = _; rw [if_pos g]
      rw [e]
      rw [Nat.pow_succ] at hy
      refine ih (y / 128) (sw y :: acc) (by omega) (by omega) (fun out rest => ?_) (fun rest => ?_) ⟨sw y, acc, rfl, fun h0 => by rw [sw_nat]; omega⟩
      · show (if 72057594037927936 ≤ y / 128 then none else if 128 ≤ (sw y).toNat then arF (128 * (y / 128) + (sw y).toNat % 128) out (acc ++ rest) else _) = _
        rw [sw_nat, if_neg (by omega), if_pos (by omega), show 128 * (y / 128) + (y % 128 + 128) % 128 = y by omega]
        exact h1 out rest
      · show (if (false && (sw y).toNat == 128) = true then false else obF (decide ((sw y).toNat < 128)) (acc ++ rest)) = _
        rw [if_neg (by simp), sw_nat, decide_eq_false (by omega)]
        exact h2 rest
    · obtain rfl : y = 0 := by omega
      have e : layF (k + 1) 0 acc = acc := by show (if 0 < 0 then _ else _) = _; rw [if_neg (by omega)]
      rw [e]
      obtain ⟨c, t, rfl, hc⟩ := h3
      refine ⟨h1, fun rest => ?_, by simp⟩
      have := h2 rest
      show (if (true && c.toNat == 128) = true then false else obF (decide (c.toNat < 128)) (t ++ rest)) = _
      rw [if_neg (by have := hc rfl; simpa using this)]
      exact this
theorem lay_all (x : Nat) (hx : x < 9223372036854775808) : (∀ out rest, arF 0 out (layN x ++ rest) = arF 0 (out ++ (if out = [] then arH x else [x])) rest) ∧ (∀ rest, obF true (layN x ++ rest) = obF true rest) ∧ 0 < (layN x).length := by
  refine lay_inv x hx 9 (x / 128) [sv x] (by rw [show 128 ^ 9 = 9223372036854775808 by decide]; omega) (by omega) (fun out rest => ?_) (fun rest => ?_) ⟨sv x, [], rfl, fun _ => by rw [sv_nat]; omega⟩
  · show (if 72057594037927936 ≤ x / 128 then none else if 128 ≤ (sv x).toNat then _ else arF 0 (out ++ (if out = [] then arH (128 * (x / 128) + (sv x).toNat % 128) else [128 * (x / 128) + (sv x).toNat % 128])) ([] ++ rest)) = _
    rw [sv_nat, if_neg (by omega), if_neg (by omega), show 128 * (x / 128) + x % 128 % 128 = x by omega]
    rfl
  · show (if (false && (sv x).toNat == 128) = true then false else obF (decide ((sv x).toNat < 128)) ([] ++ rest)) = _
    rw [if_neg (by simp), sv_nat, decide_eq_true (by omega)]
    rfl
/-- Numbers one behind the other. -/
theorem lay_list (out : List Nat) (ho : out ≠ []) : ∀ ls : List Nat, (∀ x ∈ ls, x < 9223372036854775808) → arF 0 out (ls.flatMap layN) = some (out ++ ls) ∧ obF true (ls.flatMap layN) = true := by
  intro ls
  induction ls generalizing out with
  | nil => intro _; exact ⟨by simp [arF], rfl⟩
  | cons x ls ih =>
    intro h
    obtain ⟨a1, a2, _⟩ := lay_all x (h x (List.mem_cons_self))
    have hi := ih (out ++ [x]) (by simp) (fun y hy => h y (List.mem_cons_of_mem _ hy))
    rw [List.flatMap_cons, a1, a2, if_neg ho]
    exact ⟨by rw [hi.1]; simp, hi.2⟩
/-- An identifier of numbers: the first two, and more. -/
theorem arcs_laid (a b : Nat) (ls : List Nat) (hab : (a = 0 ∧ b < 40) ∨ (a = 1 ∧ b < 40) ∨ (a = 2 ∧ b < 256)) (hl : ∀ x ∈ ls, x < 9223372036854775808) :
    arE (layN (40 * a + b) ++ ls.flatMap layN) = 0 ∧ arR (layN (40 * a + b) ++ ls.flatMap layN) = a :: b :: ls := by
  obtain ⟨a1, a2, a3⟩ := lay_all (40 * a + b) (by omega)
  have hh : arH (40 * a + b) = [a, b] := by
    unfold arH
    rcases hab with ⟨rfl, h⟩ | ⟨rfl, h⟩ | ⟨rfl, h⟩
    · rw [if_pos (by omega)]; simp
    · rw [if_neg (by omega), if_pos (by omega)]; simp
    · rw [if_neg (by omega), if_neg (by omega)]; simp
  obtain ⟨b1, b2⟩ := lay_list [a, b] (by simp) ls hl
  have e1 : arF 0 [] (layN (40 * a + b) ++ ls.flatMap layN) = some (a :: b :: ls) := by
    rw [a1, if_pos rfl, hh]
    exact b1
  have e2 : ob (layN (40 * a + b) ++ ls.flatMap layN) = true := by
    unfold ob
    rw [a2, b2]
    cases h : layN (40 * a + b) with
    | nil => rw [h] at a3; simp at a3
    | cons c t => rfl
  have e3 : arE (layN (40 * a + b) ++ ls.flatMap layN) = 0 := by unfold arE; rw [e2, e1]; rfl
  exact ⟨e3, by unfold arR; rw [e3, e1]; rfl⟩
theorem arcs_wrong (xs : List UInt8) : arE (128 :: xs) = 13 := by
  have : ob (128 :: xs) = false := rfl
  unfold arE
  rw [this]
  rfl
theorem btF_mod : ∀ (k n : Nat), btF k n = decide (n % 2 ^ k = 0) := by
  intro k
  induction k with
  | zero => intro n; simp [btF, Nat.mod_one]
  | succ k ih =>
    intro n
    unfold btF
    rw [ih, Nat.pow_succ, Nat.mul_comm (2 ^ k) 2, Nat.mod_mul]
    by_cases h : n % 2 = 1
    · rw [if_pos (by simpa using h), decide_eq_false (by omega)]
    · rw [if_neg (by simpa using h)]
      have h0 : n % 2 = 0 := by omega
      rw [h0]
      simp
      omega
end Go.Proofs.YtnjnghbonmdbdaaDoor


/- The package's own tests of contents: an identifier, a bit string. -/
namespace Go.Proofs.YtnjnghbonmdbdaaDoor
open Go.RowKit

set_option maxRecDepth 100000 in
set_option maxHeartbeats 1000000 in
theorem isoid_any (w : World) (A : Option Addr) (c : Nat) (xs : List UInt8) (hb : Byt w w.heap.size A xs) (hl : xs.length ≤ 140737488351232) :
    Calls Tryd.prog 67 #[.slice A xs.length c] w fun e w' => e = .returned (.bool (ob xs)) ∧ w' = w := by
  obtain ⟨L, hL⟩ : ∃ L, xs.length = L := ⟨_, rfl⟩
  rw [hL] at hl ⊢
  obtain ⟨R, hR⟩ : ∃ R, ob xs = R := ⟨_, rfl⟩
  have HR := Lib.hid hR
  have HC := Lib.hid hl
  have HB := Lib.hid hb
  have HL := Lib.hid hL
  rw [hR]
  clear hb hL hl hR
  go_enter Tryd.func67, Tryd.ntmps67
  go_wp2_with fail
  go_loopw [3, 8] (fun s i wr => ∃ (j : Nat) (st : Bool), j ≤ L ∧ i = .int .i64 j ∧ s = .bool st ∧ Hid (obF true xs = obF st (xs.drop j)) ∧ wr = w) (fun _ i _ => L - (intOf i).toNat)
  case atStart => exact ⟨0, true, Nat.zero_le _, rfl, rfl, Lib.hid rfl, rfl⟩
  case round =>
    obtain ⟨j, st, hj, rfl, rfl, hd, hwr⟩ := hrel
    obtain rfl : w = wr := hwr.symm
    clear hwr
    have hjI : (j : Int) ≤ 140737488351232 := by have := HC.out; omega
    by_cases hlt : j < L
    · obtain ⟨b, o, rfl, -, hc⟩ := HB.out (by rw [HL.out]; omega)
      obtain ⟨x, hx⟩ : ∃ x, xs.getD j 0 = x := ⟨_, rfl⟩
      obtain ⟨d, hdd⟩ : ∃ d, x.toNat = d := ⟨_, rfl⟩
      have hd256 : d < 256 := by rw [← hdd]; exact x.toNat_lt
      have c1 : w.cell? ⟨b, o + j, none⟩ = some (.int .u8 (d : Int)) := by rw [hc j (by rw [HL.out]; omega), hx, hdd]
      have hstep : obF true xs = if (st && d == 128) = true then false else obF (decide (d < 128)) (xs.drop (j + 1)) := by
        rw [hd.out, getD_take_drop (by rw [HL.out]; exact hlt), hx, ← hdd]
        rfl
      have HST := Lib.hid hstep
      clear hstep hx hdd hd hc
      by_cases g : (st && d == 128) = true
      · have hs : st = true := by cases st <;> simp_all
        have hd8 : d = 128 := by cases st <;> simp_all
        subst hs
        subst hd8
        have e : R = false := by
          rw [← HR.out]
          unfold ob
          rw [HST.out, if_pos (by rfl)]
          simp
        subst e
        clear g
        go_wp2_with fail
        go_ret
        exact ⟨rfl, rfl⟩
      · have HN := Lib.hid (show obF true xs = obF (decide (d < 128)) (xs.drop (j + 1)) by rw [HST.out, if_neg g])
        cases st with
        | false =>
          clear g
          go_wp2_with fail
          go_roundw
          case rel => exact ⟨j + 1, decide (d < 128), hlt, rfl, congrArg Value.bool (decide_eq_decide.2 (by omega)), HN, trivial⟩
          case measure => simp [intOf]; omega
        | true =>
          have g1 : ((d : Int) == 128) = false := beq_eq_false_iff_ne.2 (by
            have h9 : ¬ d = 128 := by simpa using g
            omega)
          clear g
          go_wp2_with fail
          go_roundw
          case rel => exact ⟨j + 1, decide (d < 128), hlt, rfl, congrArg Value.bool (decide_eq_decide.2 (by omega)), HN, trivial⟩
          case measure => simp [intOf]; omega
    · obtain rfl : j = L := by omega
      have hd0 : obF true xs = st := by rw [hd.out, List.drop_of_length_le (by rw [HL.out]; omega)]; rfl
      by_cases h0 : j = 0
      · have hz : xs = [] := List.eq_nil_of_length_eq_zero (by rw [HL.out]; exact h0)
        have e : R = false := by rw [← HR.out, hz]; rfl
        have h0' : ¬ 0 < (j : Int) := by omega
        subst e
        clear hd0 hz hd
        go_wp2_with fail
        go_ret
        exact ⟨rfl, rfl⟩
      · have h0' : 0 < (j : Int) := by omega
        have e : R = st := by
          rw [← HR.out]
          unfold ob
          rw [hd0]
          cases xs with
          | nil => exact absurd HL.out.symm h0
          | cons _ _ => rfl
        subst e
        clear hd0 hd h0
        go_wp2_with fail
        go_ret
        exact ⟨rfl, rfl⟩

theorem mask_all : ∀ k : Fin 8, ∀ v : Fin 256, (bits BinOp.and IntKind.u8 ((v.1 : Nat) : Int) ((2 ^ k.1 - 1 : Nat) : Int) == 0) = btF k.1 v.1 := by decide +kernel
theorem mask_bits {k v : Nat} (hk : k < 8) (hv : v < 256) : (bits BinOp.and IntKind.u8 (v : Int) ((2 ^ k - 1 : Nat) : Int) == 0) = btF k v := mask_all ⟨k, hk⟩ ⟨v, hv⟩
theorem modm_all : ∀ k : Fin 8, ∀ v : Fin 256, (((v.1 : Nat) : Int) % ((2 ^ k.1 : Nat) : Int) == 0) = btF k.1 v.1 := by decide +kernel
theorem modm_bits {k v : Nat} (hk : k < 8) (hv : v < 256) : ((v : Int) % ((2 ^ k : Nat) : Int) == 0) = btF k v := modm_all ⟨k, hk⟩ ⟨v, hv⟩

set_option maxRecDepth 100000 in
set_option maxHeartbeats 1000000 in
theorem isbits_any (w : World) (A : Option Addr) (c : Nat) (xs : List UInt8) (hb : Byt w w.heap.size A xs) (hl : xs.length ≤ 140737488351232) :
    Calls Tryd.prog 65 #[.slice A xs.length c] w fun e w' => e = .returned (.bool (bt xs)) ∧ w' = w := by
  cases xs with
  | nil =>
    go_enter Tryd.func65, Tryd.ntmps65
    go_wp2_with fail
    go_ret
    exact ⟨rfl, rfl⟩
  | cons x r =>
    obtain ⟨b, o, rfl, -, hc⟩ := hb (by simp)
    obtain ⟨M, hM⟩ : ∃ M, r.length = M := ⟨_, rfl⟩
    obtain ⟨d, hd⟩ : ∃ d, x.toNat = d := ⟨_, rfl⟩
    have hd256 : d < 256 := by rw [← hd]; exact x.toNat_lt
    have c0 : w.cell? ⟨b, o, none⟩ = some (.int .u8 (d : Int)) := by have := hc 0 (by simp); rw [← hd]; simpa using this
    have hlen : (x :: r).length = M + 1 := by rw [← hM]; rfl
    have hbt : bt (x :: r) = if 7 < d then false else if r.isEmpty then d == 0 else btF d ((x :: r).getD M 0).toNat := by
      rw [← hd, ← hM, ← getLastD_at]; rfl
    have hlast := hc M (by rw [hlen]; omega)
    obtain ⟨v, hv⟩ : ∃ v, ((x :: r).getD M 0).toNat = v := ⟨_, rfl⟩
    have hv256 : v < 256 := by rw [← hv]; exact UInt8.toNat_lt _
    rw [hv] at hlast hbt
    rw [hlen] at hl ⊢
    have hMI : (M : Int) ≤ 140737488351232 := by omega
    have hrM : r.isEmpty = (M == 0) := by rw [← hM]; cases r <;> rfl
    rw [hrM] at hbt
    obtain ⟨R, hR⟩ : ∃ R, bt (x :: r) = R := ⟨_, rfl⟩
    rw [hR] at hbt ⊢
    clear hb hc hd hv hlen hM hl hrM hR
    have h0 : ((M : Int) + 1 == 0) = false := beq_eq_false_iff_ne.2 (by omega)
    have h0'' : (0 : Int) < (M : Int) + 1 := by omega
    by_cases g1 : 7 < d
    · have g1' : 7 < (d : Int) := by omega
      rw [if_pos g1] at hbt
      subst hbt
      clear g1
      go_enter Tryd.func65, Tryd.ntmps65
      go_wp2_with fail
      go_ret
      exact ⟨rfl, rfl⟩
    · have g1' : ¬ 7 < (d : Int) := by omega
      rw [if_neg g1] at hbt
      by_cases g2 : M = 0
      · subst g2
        rw [if_pos (by rfl)] at hbt
        have f : ((d : Int) == 0) = (d == 0) := by cases d <;> rfl
        rw [← hbt] at f
        clear hbt g1
        go_enter Tryd.func65, Tryd.ntmps65
        go_wp2_with fail
        go_ret
        exact ⟨rfl, rfl⟩
      · have g2' : ((M : Int) + 1 == 1) = false := beq_eq_false_iff_ne.2 (by omega)
        rw [if_neg (by simpa using g2)] at hbt
        have HBT := Lib.hid hbt
        clear hbt g2
        have HM := Lib.hid (fun k (hk : k < 8) => mask_bits (k := k) (v := v) hk hv256)
        have HM2 := Lib.hid (fun k (hk : k < 8) => modm_bits (k := k) (v := v) hk hv256)
        have hk : d = 0 ∨ d = 1 ∨ d = 2 ∨ d = 3 ∨ d = 4 ∨ d = 5 ∨ d = 6 ∨ d = 7 := by omega
        clear g1
        rcases hk with rfl | rfl | rfl | rfl | rfl | rfl | rfl | rfl
        all_goals
          go_enter Tryd.func65, Tryd.ntmps65
          go_wp2_with fail
          go_ret
          refine ⟨?_, rfl⟩
          rw [HBT.out]
          first | (rw [← HM.out _ (by omega)]; rfl) | (rw [← HM2.out _ (by omega)]; rfl)
end Go.Proofs.YtnjnghbonmdbdaaDoor


/- The package's own tests of contents: any, none, a bool, a number. -/
namespace Go.Proofs.YtnjnghbonmdbdaaDoor
open Go.RowKit

set_option maxRecDepth 100000 in
theorem isany_any (w : World) (A : Option Addr) (c n : Nat) : Calls Tryd.prog 62 #[.slice A n c] w fun e w' => e = .returned (.bool true) ∧ w' = w := by
  go_enter Tryd.func62, Tryd.ntmps62
  go_wp2_with fail
  go_ret
  exact ⟨rfl, rfl⟩

set_option maxRecDepth 100000 in
theorem isnull_any (w : World) (A : Option Addr) (c n : Nat) : Calls Tryd.prog 66 #[.slice A n c] w fun e w' => e = .returned (.bool (n == 0)) ∧ w' = w := by
  obtain ⟨r, hr⟩ : ∃ r, ((n : Int) == 0) = r := ⟨_, rfl⟩
  have hr2 : (n == 0) = r := by rw [← hr]; cases n <;> rfl
  rw [hr2]
  clear hr2
  go_enter Tryd.func66, Tryd.ntmps66
  go_wp2_with fail
  go_ret
  exact ⟨rfl, rfl⟩

set_option maxRecDepth 100000 in
set_option maxHeartbeats 400000 in
theorem isbool_any (w : World) (A : Option Addr) (c : Nat) (xs : List UInt8) (hb : Byt w w.heap.size A xs) :
    Calls Tryd.prog 63 #[.slice A xs.length c] w fun e w' => e = .returned (.bool (xs.length == 1 && ((xs.getD 0 0).toNat == 0 || (xs.getD 0 0).toNat == 255))) ∧ w' = w := by
  obtain ⟨L, hL⟩ : ∃ L, xs.length = L := ⟨_, rfl⟩
  by_cases h1 : L = 1
  · subst h1
    obtain ⟨b, o, rfl, -, hc⟩ := hb (by omega)
    obtain ⟨d, hd⟩ : ∃ d, (xs.getD 0 0).toNat = d := ⟨_, rfl⟩
    have hd256 : d < 256 := by rw [← hd]; exact UInt8.toNat_lt _
    have c0 : w.cell? ⟨b, o, none⟩ = some (.int .u8 (d : Int)) := by have := hc 0 (by omega); rw [hd] at this; simpa using this
    rw [hL, hd]
    have f1 : ((d : Int) == 0) = (d == 0) := by cases d <;> rfl
    have f2 : ((d : Int) == 255) = (d == 255) := by
      by_cases h : d = 255
      · subst h; rfl
      · rw [beq_eq_false_iff_ne.2 h]; exact beq_eq_false_iff_ne.2 (by omega)
    obtain ⟨r0, hr0⟩ : ∃ r, (d == 0) = r := ⟨_, rfl⟩
    obtain ⟨r1, hr1⟩ : ∃ r, (d == 255) = r := ⟨_, rfl⟩
    rw [hr0, hr1]
    rw [hr0] at f1
    rw [hr1] at f2
    clear hr0 hr1 hb hc hL hd
    cases r0 <;> cases r1
    all_goals
      go_enter Tryd.func63, Tryd.ntmps63
      go_wp2_with fail
      go_ret
      exact ⟨rfl, rfl⟩
  · have hn : (xs.length == 1) = false := by rw [hL]; exact beq_eq_false_iff_ne.2 h1
    have hn' : ((L : Int) == 1) = false := beq_eq_false_iff_ne.2 (by omega)
    rw [hn, hL]
    clear hn hb hL
    go_enter Tryd.func63, Tryd.ntmps63
    go_wp2_with fail
    go_ret
    exact ⟨rfl, rfl⟩

set_option maxRecDepth 100000 in
set_option maxHeartbeats 400000 in
theorem isnum_any (w : World) (A : Option Addr) (c : Nat) (xs : List UInt8) (hb : Byt w w.heap.size A xs) :
    Calls Tryd.prog 64 #[.slice A xs.length c] w fun e w' => e = .returned (.bool (nmB xs)) ∧ w' = w := by
  rcases xs with _ | ⟨x, _ | ⟨y, r⟩⟩
  · go_enter Tryd.func64, Tryd.ntmps64
    go_wp2_with fail
    go_ret
    exact ⟨rfl, rfl⟩
  · clear hb
    go_enter Tryd.func64, Tryd.ntmps64
    go_wp2_with fail
    go_ret
    exact ⟨rfl, rfl⟩
  · obtain ⟨b, o, rfl, -, hc⟩ := hb (by simp)
    obtain ⟨d, hd⟩ : ∃ d, x.toNat = d := ⟨_, rfl⟩
    obtain ⟨k, hk⟩ : ∃ k, y.toNat = k := ⟨_, rfl⟩
    have c0 : w.cell? ⟨b, o, none⟩ = some (.int .u8 (d : Int)) := by have := hc 0 (by simp); rw [← hd]; simpa using this
    have c1 : w.cell? ⟨b, o + 1, none⟩ = some (.int .u8 (k : Int)) := by have := hc 1 (by simp); rw [← hk]; simpa using this
    obtain ⟨n, hn⟩ : ∃ n, (x :: y :: r).length = n + 2 := ⟨r.length, rfl⟩
    have hnm : nmB (x :: y :: r) = (!(d == 0 && decide (k < 128)) && !(d == 255 && decide (128 ≤ k))) := by rw [← hd, ← hk]; rfl
    have hlt : ¬ ((n + 2 : Nat) : Int) < 2 := by omega
    have hl1 : (1 : Int) < ((n + 2 : Nat) : Int) := by omega
    have hl0 : (0 : Int) < ((n + 2 : Nat) : Int) := by omega
    rw [hn, hnm]
    clear hb hc hd hk hn hnm
    by_cases g0 : d = 0
    · subst g0
      by_cases g1 : k < 128
      · have g1' : ¬ 128 ≤ (k : Int) := by omega
        have HE : (!((0 : Nat) == 0 && decide (k < 128)) && !((0 : Nat) == 255 && decide (128 ≤ k))) = false := by simp [g1]
        rw [HE]
        clear HE g1
        go_enter Tryd.func64, Tryd.ntmps64
        go_wp2_with fail
        go_ret
        exact ⟨rfl, rfl⟩
      · have g1' : 128 ≤ (k : Int) := by omega
        have HE : (!((0 : Nat) == 0 && decide (k < 128)) && !((0 : Nat) == 255 && decide (128 ≤ k))) = true := by simp [g1]
        rw [HE]
        clear HE g1
        go_enter Tryd.func64, Tryd.ntmps64
        go_wp2_with fail
        go_ret
        exact ⟨rfl, rfl⟩
    · have g0' : ((d : Int) == 0) = false := beq_eq_false_iff_ne.2 (by omega)
      by_cases g2 : d = 255
      · subst g2
        by_cases g1 : k < 128
        · have g1' : (k : Int) < 128 := by omega
          have HE : (!((255 : Nat) == 0 && decide (k < 128)) && !((255 : Nat) == 255 && decide (128 ≤ k))) = true := by simp; omega
          rw [HE]
          clear HE g1 g0 g0'
          go_enter Tryd.func64, Tryd.ntmps64
          go_wp2_with fail
          go_ret
          exact ⟨rfl, rfl⟩
        · have g1' : ¬ (k : Int) < 128 := by omega
          have HE : (!((255 : Nat) == 0 && decide (k < 128)) && !((255 : Nat) == 255 && decide (128 ≤ k))) = false := by simp; omega
          rw [HE]
          clear HE g1 g0 g0'
          go_enter Tryd.func64, Tryd.ntmps64
          go_wp2_with fail
          go_ret
          exact ⟨rfl, rfl⟩
      · have g2' : ((d : Int) == 255) = false := beq_eq_false_iff_ne.2 (by omega)
        have HE : (!(d == 0 && decide (k < 128)) && !(d == 255 && decide (128 ≤ k))) = true := by rw [beq_eq_false_iff_ne.2 g0, beq_eq_false_iff_ne.2 g2]; rfl
        rw [HE]
        clear HE g0 g2
        go_enter Tryd.func64, Tryd.ntmps64
        go_wp2_with fail
        go_ret
        exact ⟨rfl, rfl⟩
end Go.Proofs.YtnjnghbonmdbdaaDoor


/- Number: the package's own. -/
namespace Go.Proofs.YtnjnghbonmdbdaaDoor
open Go.RowKit

theorem or_byte_s (n : Int) (b : Nat) (h1 : -36028797018963968 ≤ n) (h2 : n < 36028797018963968) (hb : b < 256) : bits .or .i64 (n * 256) (b : Int) = n * 256 + b := by
  have e : bits .or .i64 (n * 256) (b : Int) = IntKind.i64.wrap ((BitVec.ofInt 64 (n * 256) ||| BitVec.ofInt 64 (b : Int)).toNat : Int) := rfl
  rw [e, BitVec.toNat_or, BitVec.toNat_ofInt, BitVec.toNat_ofInt]
  have eb : ((b : Int) % (2 ^ 64 : Nat)).toNat = b := by omega
  rw [eb, nat_join 8 _ _ (by omega) (by omega), IntWalk.i64_left]
  unfold wrap64
  omega

/-- 'b[1:]' of a list that isn't empty: it lies behind the first byte, if there is a second one. -/
theorem slice_rest' (b o n c : Nat) (hn : n + 1 ≤ c) :
    ∃ A', (∀ w, (Instr.slice 22 (.slice (some ⟨b, o, none⟩) (n + 1) c) (some (.int .i64 1)) none none).run Tryd.prog w = .ok (.slice A' n (c - 1)) w) ∧ (0 < n → A' = some ⟨b, o + 1, none⟩) := by
  by_cases hc : c = 1
  · refine ⟨some ⟨b, o, none⟩, fun w => ?_, fun h => by omega⟩
    have := run_slice_l w 22 (some ⟨b, o, none⟩) (n + 1) c under_bytes .i64 1 (by omega) (by omega)
    rw [this, elem_u8, size_of_u8]
    have h0 : n = 0 := by omega
    subst h0
    subst hc
    simp [Result.andThen, sliced]
  · refine ⟨some ⟨b, o + 1, none⟩, fun w => ?_, fun _ => rfl⟩
    have := slice_from w b o (n + 1) c 1 (by omega) (by omega)
    simpa using this
theorem slice_rest (w : World) (b o n c : Nat) (hn : n + 1 ≤ c) :
    ∃ A', (Instr.slice 22 (.slice (some ⟨b, o, none⟩) (n + 1) c) (some (.int .i64 1)) none none).run Tryd.prog w = .ok (.slice A' n (c - 1)) w ∧ (0 < n → A' = some ⟨b, o + 1, none⟩) :=
  (slice_rest' b o n c hn).imp fun _ h => ⟨h.1 w, h.2⟩

end Go.Proofs.YtnjnghbonmdbdaaDoor


/- Check: the package's own. -/
namespace Go.Proofs.YtnjnghbonmdbdaaDoor
open Go.RowKit

/-- May they be its bytes? -/
def ckB (tag : Int) (xs : List UInt8) : Bool := ckE tag xs == 0
theorem ck_in {tag : Int} (h : tag ∈ tgs) (xs : List UInt8) : ckE tag xs = if ckB tag xs then 0 else 13 := by
  have key : ckE tag xs = 0 ∨ ckE tag xs = 13 := by
    obtain ⟨j, hj, rfl⟩ := tgA_mem h
    have k : ∀ b : Bool, (if b then (0 : Int) else 13) = 0 ∨ (if b then (0 : Int) else 13) = 13 := by decide
    have h17 : j = 0 ∨ j = 1 ∨ j = 2 ∨ j = 3 ∨ j = 4 ∨ j = 5 ∨ j = 6 ∨ j = 7 ∨ j = 8 ∨ j = 9 ∨ j = 10 ∨ j = 11 ∨ j = 12 ∨ j = 13 ∨ j = 14 ∨ j = 15 ∨ j = 16 := by omega
    rcases h17 with rfl | rfl | rfl | rfl | rfl | rfl | rfl | rfl | rfl | rfl | rfl | rfl | rfl | rfl | rfl | rfl | rfl <;> first | exact k _ | exact .inl rfl
  unfold ckB
  rcases key with h | h <;> rw [h] <;> rfl
theorem ck_out {tag : Int} (h : tag ∉ tgs) (xs : List UInt8) : ckE tag xs = 2 := by
  have n : ∀ t, t ∈ tgs → tag ≠ t := fun t ht e => h (e ▸ ht)
  unfold ckE
  rw [if_neg (n 1 (by decide)), if_neg (fun e => e.elim (n 2 (by decide)) (n 10 (by decide))), if_neg (n 3 (by decide)), if_neg (n 5 (by decide)), if_neg (n 6 (by decide)), if_neg (fun e => e.elim (n 23 (by decide)) (n 24 (by decide)))]
  refine if_neg ?_
  rintro (e | e | e | e | e | e | e | e | e)
  · exact n 4 (by decide) e
  · exact n 12 (by decide) e
  · exact n 18 (by decide) e
  · exact n 19 (by decide) e
  · exact n 20 (by decide) e
  · exact n 22 (by decide) e
  · exact n 26 (by decide) e
  · exact n 28 (by decide) e
  · exact n 30 (by decide) e

/-- What a row's function answers. -/
theorem ask_any {w : World} {tag : Int} (h : tag ∈ tgs) (hn : ¬ (tag = 23 ∨ tag = 24)) (A : Option Addr) (c : Nat) (xs : List UInt8) (hb : Byt w w.heap.size A xs) (hm : xs.length ≤ 140737488351232) :
    (Calls Tryd.prog (rwFn tag) #[.slice A xs.length c] w fun e w' => e = .returned (.bool (ckB tag xs)) ∧ w' = w) ∧ ∀ args w, (callFunc (rwFn tag) args).run Tryd.prog w = .ok (.enter (rwFn tag) args) w := by
  have hi : ∀ b : Bool, ((if b then (0 : Int) else 13) == 0) = b := by decide
  have e1 : ∀ args w, (callFunc 63 args).run Tryd.prog w = .ok (.enter 63 args) w := fun _ _ => by kernel_rfl
  have e2 : ∀ args w, (callFunc 64 args).run Tryd.prog w = .ok (.enter 64 args) w := fun _ _ => by kernel_rfl
  have e3 : ∀ args w, (callFunc 65 args).run Tryd.prog w = .ok (.enter 65 args) w := fun _ _ => by kernel_rfl
  have e4 : ∀ args w, (callFunc 66 args).run Tryd.prog w = .ok (.enter 66 args) w := fun _ _ => by kernel_rfl
  have e5 : ∀ args w, (callFunc 67 args).run Tryd.prog w = .ok (.enter 67 args) w := fun _ _ => by kernel_rfl
  have e6 : ∀ args w, (callFunc 62 args).run Tryd.prog w = .ok (.enter 62 args) w := fun _ _ => by kernel_rfl
  obtain ⟨j, hj, rfl⟩ := tgA_mem h
  have h17 : j = 0 ∨ j = 1 ∨ j = 2 ∨ j = 3 ∨ j = 4 ∨ j = 5 ∨ j = 6 ∨ j = 7 ∨ j = 8 ∨ j = 9 ∨ j = 10 ∨ j = 11 ∨ j = 12 ∨ j = 13 ∨ j = 14 ∨ j = 15 ∨ j = 16 := by omega
  have any : ∀ t : Int, ckB t xs = true → Calls Tryd.prog 62 #[.slice A xs.length c] w fun e w' => e = .returned (.bool (ckB t xs)) ∧ w' = w := fun t ht => by rw [ht]; exact isany_any w A c xs.length
  rcases h17 with rfl | rfl | rfl | rfl | rfl | rfl | rfl | rfl | rfl | rfl | rfl | rfl | rfl | rfl | rfl | rfl | rfl
  · exact ⟨(isbool_any w A c xs hb).mono fun _ _ h => ⟨h.1.trans (by rw [← hi (_ && _)]; rfl), h.2⟩, e1⟩
  · exact ⟨(isnum_any w A c xs hb).mono fun _ _ h => ⟨h.1.trans (by rw [← hi (nmB xs)]; rfl), h.2⟩, e2⟩
  · exact ⟨(isbits_any w A c xs hb hm).mono fun _ _ h => ⟨h.1.trans (by rw [← hi (bt xs)]; rfl), h.2⟩, e3⟩
  · exact ⟨any 4 rfl, e6⟩
  · exact ⟨(isnull_any w A c xs.length).mono fun _ _ h => ⟨h.1.trans (by rw [← hi (xs.length == 0)]; rfl), h.2⟩, e4⟩
  · exact ⟨(isoid_any w A c xs hb hm).mono fun _ _ h => ⟨h.1.trans (by rw [← hi (ob xs)]; rfl), h.2⟩, e5⟩
  · exact ⟨(isnum_any w A c xs hb).mono fun _ _ h => ⟨h.1.trans (by rw [← hi (nmB xs)]; rfl), h.2⟩, e2⟩
  · exact ⟨any 12 rfl, e6⟩
  · exact ⟨any 18 rfl, e6⟩
  · exact ⟨any 19 rfl, e6⟩
  · exact ⟨any 20 rfl, e6⟩
  · exact ⟨any 22 rfl, e6⟩
  · exact absurd (.inl rfl) hn
  · exact absurd (.inr rfl) hn
  · exact ⟨any 26 rfl, e6⟩
  · exact ⟨any 28 rfl, e6⟩
  · exact ⟨any 30 rfl, e6⟩

set_option maxRecDepth 100000 in
set_option maxHeartbeats 2000000 in
theorem check_any (w : World) (tag : Int) (hw : -9223372036854775808 ≤ tag ∧ tag ≤ 9223372036854775807) (A : Option Addr) (c : Nat) (xs : List UInt8) (hb : Byt w w.heap.size A xs) (hl : xs.length ≤ c) (hm : xs.length ≤ 140737488351232) :
    Calls Tryd.prog 56 #[.int .i64 tag, .slice A xs.length c] w fun e w' => e = .returned (.int .i64 (ckE tag xs)) ∧ Below w.heap.size w w' := by
  by_cases ht : tag ∈ tgs
  · have hE := ck_in ht xs
    obtain ⟨R, hR⟩ : ∃ R, ckB tag xs = R := ⟨_, rfl⟩
    obtain ⟨E, hEE⟩ : ∃ E, ckE tag xs = E := ⟨_, rfl⟩
    rw [hR, hEE] at hE
    rw [hEE]
    by_cases hn : tag = 23 ∨ tag = 24
    · have HAS := Lib.hid (fun w' (hB : Byt w' w'.heap.size A xs) p hp => asktime_any w' tag hn A c xs hB hl hm p hp)
      have hRR : tyOk tag xs = R := by
        rw [← hR]
        have hi : ∀ b : Bool, ((if b then (0 : Int) else 13) == 0) = b := by decide
        rcases hn with rfl | rfl <;> exact (hi _).symm
      rw [hRR] at HAS
      obtain ⟨L, hL⟩ : ∃ L, xs.length = L := ⟨_, rfl⟩
      rw [hL] at HAS ⊢
      have HB := Lib.hid hb
      have HE := Lib.hid hE
      have HT := Lib.hid (And.intro ht hn)
      clear hb hl hm hw hL hR hEE hE hRR ht hn
      go_enter Tryd.func56, Tryd.ntmps56
      go_wp2_with fail
      refine (rows_any w).mono ?_
      rintro e W1 ⟨m, rfl, hM, hG⟩
      obtain ⟨v, hlk, -, hrow⟩ := hM.look HT.out.1
      unfold RwOf at hrow
      rw [if_pos HT.out.2] at hrow
      obtain ⟨p, rfl, hp⟩ := hrow
      have HP := Lib.hid hp
      have HG := Lib.hid hG
      clear hM hG hp
      generalize hyd : ydg tag = n at *
      clear hyd
      have HK := Lib.hid (Whole.new W1 #[.func (.func 69) #[] #[.pointer (some ⟨p, 0, none⟩)], .int .i64 n] 109)
      have HP2 := Lib.hid (HP.out.grew (grew_alloc (grew_refl W1 none) (.cells #[.func (.func 69) #[] #[.pointer (some ⟨p, 0, none⟩)], .int .i64 n] 109)) (by simp))
      have HG2 := Lib.hid (grew_alloc HG.out (.cells #[.func (.func 69) #[] #[.pointer (some ⟨p, 0, none⟩)], .int .i64 n] 109))
      go_upto_region 2 with (fail)
      generalize W1.alloc (.cells #[.func (.func 69) #[] #[.pointer (some ⟨p, 0, none⟩)], .int .i64 n] 109) = W2 at *
      generalize W1.heap.size = r at *
      have c0 : W2.cell? ⟨r, 0, none⟩ = some (.func (.func 69) #[] #[.pointer (some ⟨p, 0, none⟩)]) := HK.out.cell 0
      have hcall := HAS.out W2 (byt_up (HB.out.grew HG2.out (fun _ h => by cases h)) HG2.out.size) p HP2.out
      have HC := Lib.hid hcall
      clear hlk HAS HK hcall
      go_wp2_with fail
      refine HC.out.mono ?_
      rintro e W3 ⟨rfl, hB3⟩
      have HB3 := Lib.hid ((grew_below HG2.out (Nat.le_refl _) (fun _ h => by cases h)).trans (hB3.mono HG2.out.size))
      clear hB3 HC
      obtain rfl := HE.out
      cases R
      all_goals
        go_wp2_with fail
        go_ret
        exact ⟨rfl, HB3.out⟩
    · have HAS := Lib.hid (fun w' (hB : Byt w' w'.heap.size A xs) => (ask_any (w := w') ht hn A c xs hB hm).1)
      have hEN := (ask_any (w := w) ht hn A c xs hb hm).2
      rw [hR] at HAS
      obtain ⟨L, hL⟩ : ∃ L, xs.length = L := ⟨_, rfl⟩
      rw [hL] at HAS ⊢
      have HB := Lib.hid hb
      have HE := Lib.hid hE
      have HT := Lib.hid (And.intro ht hn)
      clear hb hl hm hw hL hR hEE hE ht hn
      go_enter Tryd.func56, Tryd.ntmps56
      go_wp2_with fail
      refine (rows_any w).mono ?_
      rintro e W1 ⟨m, rfl, hM, hG⟩
      obtain ⟨v, hlk, -, hrow⟩ := hM.look HT.out.1
      unfold RwOf at hrow
      rw [if_neg HT.out.2] at hrow
      subst hrow
      have HG := Lib.hid hG
      clear hM hG HT
      generalize rwFn tag = G at *
      have HK := Lib.hid (Whole.new W1 #[.func (.func G) #[] #[], .int .i64 0] 109)
      have HG2 := Lib.hid (grew_alloc HG.out (.cells #[.func (.func G) #[] #[], .int .i64 0] 109))
      go_upto_region 2 with (fail)
      generalize W1.alloc (.cells #[.func (.func G) #[] #[], .int .i64 0] 109) = W2 at *
      generalize W1.heap.size = r at *
      have c0 : W2.cell? ⟨r, 0, none⟩ = some (.func (.func G) #[] #[]) := HK.out.cell 0
      have hcall := HAS.out W2 (byt_up (HB.out.grew HG2.out (fun _ h => by cases h)) HG2.out.size)
      have HC := Lib.hid hcall
      clear hlk HAS HK hcall
      go_wp2_with fail
      refine HC.out.mono ?_
      rintro e W3 ⟨rfl, hB3⟩
      obtain rfl : W2 = W3 := hB3.symm
      have HB3 := Lib.hid (grew_below HG2.out (Nat.le_refl _) (fun _ h => by cases h))
      clear hB3 HC
      obtain rfl := HE.out
      cases R
      all_goals
        go_wp2_with fail
        go_ret
        exact ⟨rfl, HB3.out⟩
  · rw [ck_out ht xs]
    obtain ⟨L, hL⟩ : ∃ L, xs.length = L := ⟨_, rfl⟩
    rw [hL]
    have HT := Lib.hid (And.intro ht hw)
    clear hb hl hm hw hL ht
    go_enter Tryd.func56, Tryd.ntmps56
    go_wp2_with fail
    refine (rows_any w).mono ?_
    rintro e W1 ⟨m, rfl, hM, hG⟩
    obtain ⟨hlk, -⟩ := hM.miss HT.out.1 HT.out.2
    have HG2 := Lib.hid (grew_alloc hG (.cells #[.nilFunc, .int .i64 0] 109))
    clear hM hG HT
    go_wp2_with fail
    go_ret
    exact ⟨rfl, grew_below HG2.out (Nat.le_refl _) (fun _ h => by cases h)⟩
end Go.Proofs.YtnjnghbonmdbdaaDoor


/- The program's own answers of layer 9: a length laid behind bytes. -/
namespace Go.Proofs.YtnjnghbonmdbdaaDoor
open Go.RowKit

set_option maxRecDepth 100000 in
set_option maxHeartbeats 4000000 in
theorem applen_any (w : World) (v : Value) (f : UInt8) (own : w.ownsRow 0 5 1 v 1 (cellsOf [f])) (n : Nat) (hn : n < 16777216) :
    Calls Tryd.prog 51 #[v, .int .i64 (n : Int)] w fun e w' => ∃ v', e = .returned v' ∧ Apd w v v' (1 + (lenB n).length) (f :: lenB n) w' := by
  have hnd := needed_any w n hn
  have OWN := Lib.hid own
  have APD0 := Lib.hid (show Apd w v v 1 [f] w from ⟨own, grew_refl _ _, fun k hk => .inl hk⟩)
  by_cases l1 : n < 128
  · have e0 : nd n = 0 := by unfold nd; rw [if_pos l1]
    have hlb : lenB n = [.ofNat n] := by unfold lenB; rw [if_pos l1]
    have ex : ((UInt8.ofNat n).toNat : Int) = (n : Int) := u8_nat n (by omega)
    have ew : IntKind.u8.wrap (n : Int) = (n : Int) := by show (n : Int) % 256 = n; omega
    have hA := app_one w own (by omega) (UInt8.ofNat n)
    rw [ex] at hA
    have HA := Lib.hid hA
    rw [e0] at hnd
    have HLB := Lib.hid hlb
    clear own e0 hlb ex l1 hA
    go_enter Tryd.func51, Tryd.ntmps51
    go_wp2_with fail
    refine hnd.mono ?_
    rintro e w' ⟨rfl, rfl⟩
    go_wp2_with (at_builtin; refine wpList_append_run _ rfl (.tmp 11) (.tmp 14) 22 rfl rfl rfl HA.out ?_; rintro v1 w1 a1; have A1 := Lib.hid a1; clear a1)
    go_ret
    refine ⟨v1, rfl, ?_⟩
    rw [HLB.out]
    exact APD0.out.more A1.out
  by_cases l2 : n < 256
  · have e0 : nd n = 1 := by unfold nd; rw [if_neg l1]; rw [if_pos l2]
    have hlb : lenB n = [129, .ofNat (n)] := by unfold lenB; rw [if_neg l1]; rw [if_pos l2]
    have hA := app_one w own (by omega) 129
    rw [show ((((129 : UInt8)).toNat : Nat) : Int) = 129 from rfl] at hA
    have ex0 : ((UInt8.ofNat (n)).toNat : Int) = IntKind.u8.wrap ((n : Int)) := by rw [u8_nat _ (by omega)]; show _ = ((n : Int)) % 256; omega
    obtain ⟨y0, hy0⟩ : ∃ y, IntKind.u8.wrap ((n : Int)) = y := ⟨_, rfl⟩
    rw [hy0] at ex0
    have EX0 := Lib.hid ex0
    have HA := Lib.hid hA
    rw [e0] at hnd
    have HLB := Lib.hid hlb
    clear own e0 hlb hA ex0 l1 l2
    go_enter Tryd.func51, Tryd.ntmps51
    go_wp2_with fail
    refine hnd.mono ?_
    rintro e w' ⟨rfl, rfl⟩
    clear hnd
    go_wp2_with (at_builtin; refine wpList_append_run _ rfl (.tmp 16) (.tmp 20) 22 rfl rfl rfl HA.out ?_; rintro v1 w1 a1; have A1 := Lib.hid (APD0.out.more a1); clear a1)
    go_loopw [0, 23] (fun r i wr => ∃ j : Nat, j ≤ 1 ∧ i = .int .i64 j ∧ Hid (Apd w' v r (2 + j) (([f] ++ lenB n).take (2 + j)) wr)) (fun _ i _ => 1 - (intOf i).toNat)
    case atStart => exact ⟨0, Nat.zero_le _, rfl, Lib.hid (by rw [HLB.out]; exact A1.out)⟩
    case round =>
      obtain ⟨j, hj, rfl, hR⟩ := hrel
      clear A1 HA APD0 OWN
      by_cases h0 : j = 0
      · subst h0
        have hB := app_one wr hR.out.1 (by omega) (.ofNat (n))
        rw [EX0.out] at hB
        have HB := Lib.hid hB
        clear hB
        go_wp2_with (at_builtin; refine wpList_append_run _ rfl (.tmp 26) (.tmp 35) 22 rfl rfl rfl HB.out ?_; rintro v2 w2 a2; have A2 := Lib.hid (hR.out.more a2); clear a2)
        go_roundw
        case rel => exact ⟨1, by omega, rfl, Lib.hid (by have := A2.out; rw [HLB.out] at this ⊢; exact this)⟩
        case measure => simp [intOf]
      · obtain rfl : j = 1 := by omega
        go_wp2_with fail
        go_ret
        refine ⟨_, rfl, ?_⟩
        have := hR.out
        rw [HLB.out] at this ⊢
        exact this
  by_cases l3 : n < 65536
  · have e0 : nd n = 2 := by unfold nd; rw [if_neg l1]; rw [if_neg l2]; rw [if_pos l3]
    have hlb : lenB n = [130, .ofNat (n / 256), .ofNat (n % 256)] := by unfold lenB; rw [if_neg l1]; rw [if_neg l2]; rw [if_pos l3]
    have hA := app_one w own (by omega) 130
    rw [show ((((130 : UInt8)).toNat : Nat) : Int) = 130 from rfl] at hA
    have ex0 : ((UInt8.ofNat (n / 256)).toNat : Int) = IntKind.u8.wrap ((n : Int) / 256) := by rw [u8_nat _ (by omega)]; show _ = ((n : Int) / 256) % 256; omega
    have ex1 : ((UInt8.ofNat (n % 256)).toNat : Int) = IntKind.u8.wrap ((n : Int)) := by rw [u8_nat _ (by omega)]; show _ = ((n : Int)) % 256; omega
    obtain ⟨y0, hy0⟩ : ∃ y, IntKind.u8.wrap ((n : Int) / 256) = y := ⟨_, rfl⟩
    rw [hy0] at ex0
    obtain ⟨y1, hy1⟩ : ∃ y, IntKind.u8.wrap ((n : Int)) = y := ⟨_, rfl⟩
    rw [hy1] at ex1
    have EX0 := Lib.hid ex0
    have EX1 := Lib.hid ex1
    have HA := Lib.hid hA
    rw [e0] at hnd
    have HLB := Lib.hid hlb
    clear own e0 hlb hA ex0 ex1 l1 l2 l3
    go_enter Tryd.func51, Tryd.ntmps51
    go_wp2_with fail
    refine hnd.mono ?_
    rintro e w' ⟨rfl, rfl⟩
    clear hnd
    go_wp2_with (at_builtin; refine wpList_append_run _ rfl (.tmp 16) (.tmp 20) 22 rfl rfl rfl HA.out ?_; rintro v1 w1 a1; have A1 := Lib.hid (APD0.out.more a1); clear a1)
    go_loopw [0, 23] (fun r i wr => ∃ j : Nat, j ≤ 2 ∧ i = .int .i64 j ∧ Hid (Apd w' v r (2 + j) (([f] ++ lenB n).take (2 + j)) wr)) (fun _ i _ => 2 - (intOf i).toNat)
    case atStart => exact ⟨0, Nat.zero_le _, rfl, Lib.hid (by rw [HLB.out]; exact A1.out)⟩
    case round =>
      obtain ⟨j, hj, rfl, hR⟩ := hrel
      clear A1 HA APD0 OWN
      by_cases h0 : j = 0
      · subst h0
        have hB := app_one wr hR.out.1 (by omega) (.ofNat (n / 256))
        rw [EX0.out] at hB
        have HB := Lib.hid hB
        clear hB
        go_wp2_with (at_builtin; refine wpList_append_run _ rfl (.tmp 26) (.tmp 35) 22 rfl rfl rfl HB.out ?_; rintro v2 w2 a2; have A2 := Lib.hid (hR.out.more a2); clear a2)
        go_roundw
        case rel => exact ⟨1, by omega, rfl, Lib.hid (by have := A2.out; rw [HLB.out] at this ⊢; exact this)⟩
        case measure => simp [intOf]
      by_cases h1 : j = 1
      · subst h1
        have hB := app_one wr hR.out.1 (by omega) (.ofNat (n % 256))
        rw [EX1.out] at hB
        have HB := Lib.hid hB
        clear hB
        go_wp2_with (at_builtin; refine wpList_append_run _ rfl (.tmp 26) (.tmp 35) 22 rfl rfl rfl HB.out ?_; rintro v2 w2 a2; have A2 := Lib.hid (hR.out.more a2); clear a2)
        go_roundw
        case rel => exact ⟨2, by omega, rfl, Lib.hid (by have := A2.out; rw [HLB.out] at this ⊢; exact this)⟩
        case measure => simp [intOf]
      · obtain rfl : j = 2 := by omega
        go_wp2_with fail
        go_ret
        refine ⟨_, rfl, ?_⟩
        have := hR.out
        rw [HLB.out] at this ⊢
        exact this
  have e0 : nd n = 3 := by unfold nd; rw [if_neg l1]; rw [if_neg l2]; rw [if_neg l3]
  have hlb : lenB n = [131, .ofNat (n / 65536), .ofNat (n / 256 % 256), .ofNat (n % 256)] := by unfold lenB; rw [if_neg l1]; rw [if_neg l2]; rw [if_neg l3]
  have hA := app_one w own (by omega) 131
  rw [show ((((131 : UInt8)).toNat : Nat) : Int) = 131 from rfl] at hA
  have ex0 : ((UInt8.ofNat (n / 65536)).toNat : Int) = IntKind.u8.wrap ((n : Int) / 65536) := by rw [u8_nat _ (by omega)]; show _ = ((n : Int) / 65536) % 256; omega
  have ex1 : ((UInt8.ofNat (n / 256 % 256)).toNat : Int) = IntKind.u8.wrap ((n : Int) / 256) := by rw [u8_nat _ (by omega)]; show _ = ((n : Int) / 256) % 256; omega
  have ex2 : ((UInt8.ofNat (n % 256)).toNat : Int) = IntKind.u8.wrap ((n : Int)) := by rw [u8_nat _ (by omega)]; show _ = ((n : Int)) % 256; omega
  obtain ⟨y0, hy0⟩ : ∃ y, IntKind.u8.wrap ((n : Int) / 65536) = y := ⟨_, rfl⟩
  rw [hy0] at ex0
  obtain ⟨y1, hy1⟩ : ∃ y, IntKind.u8.wrap ((n : Int) / 256) = y := ⟨_, rfl⟩
  rw [hy1] at ex1
  obtain ⟨y2, hy2⟩ : ∃ y, IntKind.u8.wrap ((n : Int)) = y := ⟨_, rfl⟩
  rw [hy2] at ex2
  have EX0 := Lib.hid ex0
  have EX1 := Lib.hid ex1
  have EX2 := Lib.hid ex2
  have HA := Lib.hid hA
  rw [e0] at hnd
  have HLB := Lib.hid hlb
  clear own e0 hlb hA ex0 ex1 ex2 l1 l2 l3
  go_enter Tryd.func51, Tryd.ntmps51
  go_wp2_with fail
  refine hnd.mono ?_
  rintro e w' ⟨rfl, rfl⟩
  clear hnd
  go_wp2_with (at_builtin; refine wpList_append_run _ rfl (.tmp 16) (.tmp 20) 22 rfl rfl rfl HA.out ?_; rintro v1 w1 a1; have A1 := Lib.hid (APD0.out.more a1); clear a1)
  go_loopw [0, 23] (fun r i wr => ∃ j : Nat, j ≤ 3 ∧ i = .int .i64 j ∧ Hid (Apd w' v r (2 + j) (([f] ++ lenB n).take (2 + j)) wr)) (fun _ i _ => 3 - (intOf i).toNat)
  case atStart => exact ⟨0, Nat.zero_le _, rfl, Lib.hid (by rw [HLB.out]; exact A1.out)⟩
  case round =>
    obtain ⟨j, hj, rfl, hR⟩ := hrel
    clear A1 HA APD0 OWN
    by_cases h0 : j = 0
    · subst h0
      have hB := app_one wr hR.out.1 (by omega) (.ofNat (n / 65536))
      rw [EX0.out] at hB
      have HB := Lib.hid hB
      clear hB
      go_wp2_with (at_builtin; refine wpList_append_run _ rfl (.tmp 26) (.tmp 35) 22 rfl rfl rfl HB.out ?_; rintro v2 w2 a2; have A2 := Lib.hid (hR.out.more a2); clear a2)
      go_roundw
      case rel => exact ⟨1, by omega, rfl, Lib.hid (by have := A2.out; rw [HLB.out] at this ⊢; exact this)⟩
      case measure => simp [intOf]
    by_cases h1 : j = 1
    · subst h1
      have hB := app_one wr hR.out.1 (by omega) (.ofNat (n / 256 % 256))
      rw [EX1.out] at hB
      have HB := Lib.hid hB
      clear hB
      go_wp2_with (at_builtin; refine wpList_append_run _ rfl (.tmp 26) (.tmp 35) 22 rfl rfl rfl HB.out ?_; rintro v2 w2 a2; have A2 := Lib.hid (hR.out.more a2); clear a2)
      go_roundw
      case rel => exact ⟨2, by omega, rfl, Lib.hid (by have := A2.out; rw [HLB.out] at this ⊢; exact this)⟩
      case measure => simp [intOf]
    by_cases h2 : j = 2
    · subst h2
      have hB := app_one wr hR.out.1 (by omega) (.ofNat (n % 256))
      rw [EX2.out] at hB
      have HB := Lib.hid hB
      clear hB
      go_wp2_with (at_builtin; refine wpList_append_run _ rfl (.tmp 26) (.tmp 35) 22 rfl rfl rfl HB.out ?_; rintro v2 w2 a2; have A2 := Lib.hid (hR.out.more a2); clear a2)
      go_roundw
      case rel => exact ⟨3, by omega, rfl, Lib.hid (by have := A2.out; rw [HLB.out] at this ⊢; exact this)⟩
      case measure => simp [intOf]
    · obtain rfl : j = 3 := by omega
      go_wp2_with fail
      go_ret
      refine ⟨_, rfl, ?_⟩
      have := hR.out
      rw [HLB.out] at this ⊢
      exact this
end Go.Proofs.YtnjnghbonmdbdaaDoor


/- The program's own answers of layer 9: the first byte, what it tells; a head's bytes. -/
namespace Go.Proofs.YtnjnghbonmdbdaaDoor
open Go.RowKit

theorem or_t : ∀ t : Nat, t < 31 → bits BinOp.or IntKind.i64 0 (t : Int) = t ∧ bits BinOp.or IntKind.i64 128 (t : Int) = 128 + t ∧ bits BinOp.or IntKind.u8 (t : Int) 32 = t + 32 ∧ bits BinOp.or IntKind.u8 (128 + (t : Int)) 32 = 160 + t := by decide +kernel
theorem and_n : ∀ n : Nat, n < 256 → (bits BinOp.and IntKind.u8 (n : Int) 32 != 0) = (n / 32 % 2 == 1) := by decide +kernel

set_option maxRecDepth 100000 in
set_option maxHeartbeats 2000000 in
theorem firstb_any (w : World) (h : Hd) (hk : kd h.c h.t h.m = true) : Calls Tryd.prog 52 #[h.agg] w fun e w' => e = .returned (.int .u8 ((UInt8.ofNat (fb h.c h.t h.m)).toNat : Int)) ∧ Below w.heap.size w w' := by
  obtain ⟨c, t, m, l⟩ := h
  obtain ⟨hc, ht0, ht1⟩ := kd_bounds hk
  dsimp only at hc ht0 ht1 hk ⊢
  clear hk
  obtain ⟨k, rfl⟩ := Int.eq_ofNat_of_zero_le ht0
  obtain ⟨o1, o2, o3, o4⟩ := or_t k (by omega)
  have hb : ∀ o, Below w.heap.size w (w.alloc o) := fun o => (Below.refl _ w).alloc (Nat.le_refl _) _
  have e1 : (k : Int) % 256 = k := by omega
  have e2 : (128 + (k : Int)) % 256 = 128 + k := by omega
  rcases hc with rfl | rfl
  · cases m with
    | false =>
      have hv : ((UInt8.ofNat (fb 0 k false)).toNat : Int) = k := by rw [u8_nat _ (by unfold fb; simp; omega)]; unfold fb; simp
      rw [Hd.agg, hv]
      clear hv
      go_enter Tryd.func52, Tryd.ntmps52
      go_wp2_with fail
      go_ret
      exact ⟨rfl, hb _⟩
    | true =>
      have hv : ((UInt8.ofNat (fb 0 k true)).toNat : Int) = k + 32 := by rw [u8_nat _ (by unfold fb; simp; omega)]; unfold fb; simp; omega
      rw [Hd.agg, hv]
      clear hv
      go_enter Tryd.func52, Tryd.ntmps52
      go_wp2_with fail
      go_ret
      exact ⟨rfl, hb _⟩
  · cases m with
    | false =>
      have hv : ((UInt8.ofNat (fb 2 k false)).toNat : Int) = 128 + k := by rw [u8_nat _ (by unfold fb; simp; omega)]; unfold fb; simp; omega
      rw [Hd.agg, hv]
      clear hv
      go_enter Tryd.func52, Tryd.ntmps52
      go_wp2_with fail
      go_ret
      exact ⟨rfl, hb _⟩
    | true =>
      have hv : ((UInt8.ofNat (fb 2 k true)).toNat : Int) = 160 + k := by rw [u8_nat _ (by unfold fb; simp; omega)]; unfold fb; simp; omega
      rw [Hd.agg, hv]
      clear hv
      go_enter Tryd.func52, Tryd.ntmps52
      go_wp2_with fail
      go_ret
      exact ⟨rfl, hb _⟩

set_option maxRecDepth 100000 in
set_option maxHeartbeats 2000000 in
theorem headof_any (w : World) (n : Nat) (hn : n < 256) : Calls Tryd.prog 54 #[.int .u8 (n : Int)] w fun e w' => e = .returned (Hd.agg ⟨(n : Int) / 64, (n : Int) % 32, n / 32 % 2 == 1, 0⟩) ∧ Below w.heap.size w w' := by
  have ha := and_n n hn
  go_enter Tryd.func54, Tryd.ntmps54
  go_wp2_with fail
  refine bodyPost_ret (results_cell_row rfl _ _ w.heap.size _ _ _ _ rfl (Whole.new w _ _) Tryd.underlying65 rfl (by kernel_rfl)) rfl ?_
  refine ⟨?_, (Below.refl _ w).alloc (Nat.le_refl _) _⟩
  rw [Hd.agg, ← ha]

end Go.Proofs.YtnjnghbonmdbdaaDoor

