/- Maps whose keys are where lists lie. -/
import Derived.Test.YtibbeodcheefaaaQ11
import Derived.LaidEqlPtr
import Derived.Maps.AppendAt
import Derived.Test.YtibbeodcheefaaaQ10
import Derived.Test.YtibbeodcheefaaaQ9
import Derived.Deep.Slices
import Derived.Deep.LoopGhost
import Derived.Deep.Cut
import Derived.Test.YtibbeodcheefaaaQ21
namespace Go.Proofs.Ytibbeodcheefaaa
open Go.RowKit Va

/-- Where a list lies, as a key. -/
def mkey (a : Addr) (n : Nat) : Value := .agg #[.pointer (some a), .int .i64 (n : Int)]

set_option maxRecDepth 100000 in
set_option maxHeartbeats 1000000 in
theorem eq_mkey (w : World) {a b : Addr} (n m : Nat) {ca cb : Array Value} {ta tb : TypeId} (ha : w.heap[a.block]? = some (.cells ca ta (0, 0))) (hb : w.heap[b.block]? = some (.cells cb tb (0, 0))) :
    (Op.equal 87 (mkey a n) (mkey b m)).run Try.prog w = .ok (decide (a = b) && decide (n = m)) w := by
  obtain ⟨j, hj, hz⟩ := Option.map_eq_some_iff.1 info_value
  simp only [Prod.mk.injEq] at hz
  have hsz : j.size ≠ 0 := by rw [hz.2.1]; decide
  have hst : Try.prog.stoodInHeld 87 = false := by kernel_rfl
  have h1 : ∀ d : Nat, (Op.equalIn (d + 1) 58 (.pointer (some a)) (.pointer (some b))).run Try.prog w = .ok (decide (a = b)) w := by
    intro d
    by_cases h : a = b
    · subst h
      simp [Op.equalIn, run_underlying Try.underlying58, sizeOf, typeInfo, hj, run_sameAddr_same]
    · simp [Op.equalIn, run_underlying Try.underlying58, sizeOf, typeInfo, hj, hsz, run_sameAddr_other w h ha hb, h]
  have h2 : ∀ d : Nat, (Op.equalIn (d + 1) 3 (.int .i64 (n : Int)) (.int .i64 (m : Int))).run Try.prog w = .ok (decide (n = m)) w := by
    intro d
    by_cases h : n = m
    · subst h
      simp [Op.equalIn, run_underlying Try.underlying3]
    · have h' : ¬ (n : Int) = (m : Int) := by omega
      simp [Op.equalIn, run_underlying Try.underlying3, h, h']
  have key : ∀ d : Nat, (Op.equalIn (d + 2) 87 (mkey a n) (mkey b m)).run Try.prog w = .ok (decide (a = b) && decide (n = m)) w := by
    intro d
    unfold Op.equalIn mkey
    by_cases h : a = b
    · have h1' := h1 d
      rw [decide_eq_true h] at h1' ⊢
      by_cases h3 : n = m
      · rw [decide_eq_true h3]
        simp [run_underlying Try.underlying87, hst, part, go_sem, h1']
        omega
      · rw [decide_eq_false h3]
        simp [run_underlying Try.underlying87, hst, part, go_sem, h1']
        omega
    · have h1' := h1 d
      rw [decide_eq_false h] at h1' ⊢
      simp [run_underlying Try.underlying87, hst, part, go_sem, h1']
  exact key 9998

open Classical in
/-- What entries of such a map tell: the first with that key. -/
noncomputable def mfind (a : Addr) (n : Nat) : List MapEntry → Nat → Option (Nat × Value)
  | [], _ => none
  | e :: es, i => if e.key = mkey a n then some (i, e.val) else mfind a n es (i + 1)
/-- Each key is where a list lies, in memory without a mark. -/
def MKeys (w : World) (es : List MapEntry) : Prop := ∀ e ∈ es, ∃ a n ca ta, e.key = mkey a n ∧ w.heap[a.block]? = some (.cells ca ta (0, 0))
theorem mkey_inj {a b : Addr} {n m : Nat} : mkey a n = mkey b m ↔ a = b ∧ n = m := by
  simp only [mkey, Value.agg.injEq]
  constructor
  · intro h
    simp at h
    exact ⟨h.1, by omega⟩
  · rintro ⟨rfl, rfl⟩; rfl
theorem run_find (w : World) {a : Addr} (n : Nat) {ca : Array Value} {ta : TypeId} (ha : w.heap[a.block]? = some (.cells ca ta (0, 0))) : ∀ (es : List MapEntry) (i : Nat), MKeys w es →
    (Instr.findAsking 87 (mkey a n) es i).run Try.prog w = .ok (mfind a n es i) w := by
  intro es
  induction es with
  | nil => intro i _; rfl
  | cons e es ih =>
    intro i h
    obtain ⟨b, m, cb, tb, hk, hb⟩ := h e (by simp)
    have he := eq_mkey w n m ha hb
    unfold Instr.findAsking mfind
    rw [hk]
    simp only [Sem.run_bind, he, Result.andThen_ok, mkey_inj]
    by_cases hc : a = b ∧ n = m
    · obtain ⟨rfl, rfl⟩ := hc
      simp
    · have hf : (decide (a = b) && decide (n = m)) = false := by
        simp only [Bool.and_eq_false_iff, decide_eq_false_iff_not]
        by_cases h1 : a = b
        · exact .inr (fun h2 => hc ⟨h1, h2⟩)
        · exact .inl h1
      rw [hf]
      simp only [Bool.false_eq_true, if_false]
      rw [if_neg (fun hc' => hc ⟨hc'.1.symm, hc'.2.symm⟩)]
      exact ih (i + 1) (fun e' he' => h e' (by simp [he']))
theorem run_key (w : World) {a : Addr} (n : Nat) {ca : Array Value} {ta : TypeId} (ha : w.heap[a.block]? = some (.cells ca ta (0, 0))) (es : List MapEntry) (h : MKeys w es) :
    (Instr.findKey 87 (mkey a n) es).run Try.prog w = .ok (mfind a n es 0) w := by
  unfold Instr.findKey
  rw [Sem.run_bind, run_underlying Try.underlying87]
  cases es with
  | nil => rfl
  | cons e es =>
    simp only [Result.andThen_ok, Instr.findNow, Instr.sameNow]
    exact run_find w n ha _ 0 h
theorem run_check (w : World) (a : Addr) (n : Nat) (b : Bool) : (Instr.checkKey b 10000 87 (mkey a n)).run Try.prog w = .ok () w := by
  have key : ∀ d : Nat, (Instr.checkKey b (d + 2) 87 (mkey a n)).run Try.prog w = .ok () w := by
    intro d
    simp [Instr.checkKey, mkey, run_underlying Try.underlying87, run_underlying Try.underlying58, run_underlying Try.underlying3, part, sizeOf, typeInfo, go_sem]
  exact key 9998
end Go.Proofs.Ytibbeodcheefaaa


/- Copies of lists and bytes, owned; a map by where lists lie: what is looked up, what is laid. -/
namespace Go.Proofs.Ytibbeodcheefaaa
open Go.RowKit Va

set_option maxRecDepth 100000 in
theorem vclone_own (w : World) (a : Addr) (c : Nat) (ps : List Va) (hl : Va.Lie w (some a) ps) (hm : ps.length ≤ 2513169434916) :
    Calls Try.prog 25 #[.slice (some a) ps.length c] w fun e w' => ∃ b c', e = .returned (.slice (some ⟨b, 0, none⟩) ps.length c') ∧ w'.ownsRow 0 29 3 (.slice (some ⟨b, 0, none⟩) ps.length c') ps.length (flat ps) ∧ w.heap.size ≤ b ∧ Grew w w' none := by
  have HL := Lib.hid hl
  have HM := Lib.hid hm
  clear hl hm
  have he : ∀ w : World, (binOp .eql 27 (.slice (some a) ps.length c) (.slice none 0 0)).run Try.prog w = .ok (.bool false) w := fun _ => by kernel_rfl
  go_enter Try.func25, Try.ntmps25
  have HA := Lib.hid (fun ty => append_values (w.alloc (.cells #[] 29)) ty (xs := []) (v := .slice (some ⟨w.heap.size, 0, none⟩) 0 0) (n := 0) ⟨rfl, .inr ⟨w.heap.size, 0, #[], rfl, Nat.zero_le _, Whole.new _ _ _, Nat.le_refl _, by unfold maxLen; omega, rfl, rfl⟩⟩ (HL.out.grew (grew_alloc (grew_refl _ _) _)) c (by have := HM.out; omega))
  go_wp2_with (at_builtin; refine wpList_append_run _ rfl (.tmp 5) (.tmp 6) 27 rfl rfl rfl HA.out ?_; rintro v' w1 ⟨a1, a2, a3⟩; have A1 := Lib.hid a1; have A2 := Lib.hid a2; have A3 := Lib.hid a3; clear a1 a2 a3)
  go_ret
  have h1 := A1.out
  rw [Nat.zero_add] at h1
  have h3 := A3.out
  rcases h1.2 with ⟨e, _⟩ | ⟨b, cap, cur, rfl, _, hh, hnc, _, hsz, ht⟩
  · subst e
    simp [Value.ownBlock] at h3
  · refine ⟨b, cap, rfl, h1, ?_, grew_own (grew_alloc (grew_refl _ none) _) A2.out (Nat.le_refl _)⟩
    simp [Value.ownBlock] at h3
    omega

set_option maxRecDepth 100000 in
theorem bclone_own (w : World) (A : Option Addr) (c : Nat) (xs : List UInt8) (hl : Byt w w.heap.size A xs) (hm : xs.length ≤ 140737488355328) :
    Calls Try.prog 44 #[.slice A xs.length c] w fun e w' => ∃ A' c', e = .returned (.slice A' xs.length c') ∧ w'.ownsRow 0 5 1 (.slice A' xs.length c') xs.length (cellsOf xs) ∧ Grew w w' none := by
  have HL := Lib.hid hl
  have HM := Lib.hid hm
  cases A with
  | none =>
    have e0 : xs = [] := by
      rcases Nat.eq_zero_or_pos xs.length with h | h
      · exact List.eq_nil_of_length_eq_zero h
      · obtain ⟨_, _, h, _⟩ := hl h
        cases h
    subst e0
    clear hl hm
    have he : ∀ w : World, (binOp .eql 26 (.slice none 0 c) (.slice none 0 0)).run Try.prog w = .ok (.bool true) w := fun _ => by kernel_rfl
    go_enter Try.func44, Try.ntmps44
    go_wp2_with fail
    go_ret
    exact ⟨none, 0, rfl, World.ownsRow_nil _ _ _ _, grew_refl _ _⟩
  | some a =>
    clear hl hm
    have he : ∀ w : World, (binOp .eql 26 (.slice (some a) xs.length c) (.slice none 0 0)).run Try.prog w = .ok (.bool false) w := fun _ => by kernel_rfl
    go_enter Try.func44, Try.ntmps44
    have HA := Lib.hid (fun ty => append_bytes (P := Try.prog) (w := w.alloc (.cells #[] 5)) 26 ty 5 Try.underlying26 info_u8 (xs := []) (v := .slice (some ⟨w.heap.size, 0, none⟩) 0 0) (n := 0) ⟨rfl, .inr ⟨w.heap.size, 0, #[], rfl, Nat.zero_le _, Whole.new _ _ _, Nat.le_refl _, by unfold maxLen; omega, rfl, rfl⟩⟩ (F := (· < w.heap.size)) ((HL.out.grew (grew_alloc (grew_refl _ none) _) (fun _ h => by cases h)).byf) c (by have := HM.out; omega))
    go_wp2_with (at_builtin; refine wpList_append_run _ rfl (.tmp 5) (.tmp 6) 26 rfl rfl rfl HA.out ?_; rintro v' w1 ⟨a1, a2, a3⟩; have A1 := Lib.hid a1; have A2 := Lib.hid a2; have A3 := Lib.hid a3; clear a1 a2 a3)
    go_ret
    have h1 := A1.out
    rw [Nat.zero_add] at h1
    obtain ⟨A', c', rfl, _⟩ := own_form h1
    exact ⟨A', c', rfl, h1, grew_own (grew_alloc (grew_refl _ none) _) A2.out (Nat.le_refl _)⟩

/-- What a look-up tells. -/
noncomputable def mget (a : Addr) (n : Nat) (es : List MapEntry) : Value := match mfind a n es 0 with
  | some (_, v) => .tuple #[v, .bool true]
  | none => .tuple #[.slice none 0 0, .bool false]
set_option maxRecDepth 100000 in
theorem run_lookup (w : World) {a : Addr} (n : Nat) {ca : Array Value} {ta : TypeId} (ha : w.heap[a.block]? = some (.cells ca ta (0, 0))) {q : Nat} {es : Array MapEntry} {k : Nat} (hq : w.heap[q]? = some (.map es k)) (h : MKeys w es.toList) :
    (Instr.lookup 84 (.map (some q)) (.agg #[.pointer (some a), .int .i64 (n : Int)]) true).run Try.prog w = .ok (mget a n es.toList) w := by
  have hz : (zeroValue 27).run Try.prog w = .ok (.slice none 0 0) w := by kernel_rfl
  change (Instr.lookup 84 (.map (some q)) (mkey a n) true).run Try.prog w = _
  unfold Instr.lookup
  simp only [Sem.run_bind, run_underlying Try.underlying84, Result.andThen_ok, getObj, Sem.run, hq, Sem.run_pure, run_check, run_key w n ha es.toList h]
  unfold mget
  cases hm : mfind a n es.toList 0 with
  | none => simp [hz]
  | some r => simp
set_option maxRecDepth 100000 in
theorem run_update (w : World) {a : Addr} (n : Nat) {ca : Array Value} {ta : TypeId} (ha : w.heap[a.block]? = some (.cells ca ta (0, 0))) {q : Nat} {es : Array MapEntry} {k : Nat} (hq : w.heap[q]? = some (.map es k)) (h : MKeys w es.toList) (hm : mfind a n es.toList 0 = none) (v : Value) :
    ∃ w', (Instr.mapUpdate 84 (.map (some q)) (.agg #[.pointer (some a), .int .i64 (n : Int)]) v).run Try.prog w = .ok () w' ∧ w'.heap[q]? = some (.map (es.push { key := mkey a n, val := v, born := k }) (k + 1)) ∧ Fr w w' (fun i => i = q) := by
  change ∃ w', (Instr.mapUpdate 84 (.map (some q)) (mkey a n) v).run Try.prog w = .ok () w' ∧ _
  unfold Instr.mapUpdate
  simp only [Sem.run_bind, run_underlying Try.underlying84, Result.andThen_ok, getObj, Sem.run, hq, run_check, run_key w n ha es.toList h, hm, setObj]
  have hlt : q < w.heap.size := (Array.getElem?_eq_some_iff.1 hq).1
  refine ⟨_, rfl, ?_, ?_⟩
  · simp [hlt]
  · refine ⟨rfl, rfl, rfl, by simp, fun i hi hn => ?_⟩
    simp [Ne.symm hn]
end Go.Proofs.Ytibbeodcheefaaa


/- Rows of values that stand for lists: what holds of them while a value is copied apart. -/
namespace Go.Proofs.Ytibbeodcheefaaa
open Go.RowKit Va

/-- A row that was made: its block, its capacity, the list that it stands for. -/
structure Rw where
  b : Nat
  c : Nat
  ls : List Va
namespace Rw
def val (r : Rw) : Value := .slice (some ⟨r.b, 0, none⟩) r.ls.length r.c
end Rw

/-- A value in a row: as it was, but in memory of its own. -/
structure El (W : World) (G : List Rw) (u l : Va) : Prop where
  n : u.n = l.n
  bs : u.bs = l.bs
  ls : u.ls = l.ls
  own : W.ownsRow 0 5 1 (.slice u.B u.bs.length u.d) u.bs.length (cellsOf u.bs)
  nil : l.ls = [] → u.A = none ∧ u.c = 0
  some : l.ls ≠ [] → ∃ r ∈ G, u.A = some ⟨r.b, 0, none⟩ ∧ u.c = r.c ∧ nfs r.ls = nfs l.ls

/-- A row whose first k values are done. -/
def Row (W : World) (G : List Rw) (r : Rw) (k : Nat) : Prop :=
  ∃ us : List Va, us.length = k ∧ k ≤ r.ls.length ∧ W.ownsRow 0 29 3 r.val r.ls.length (flat (us ++ r.ls.drop k)) ∧ ∀ (j : Nat) (u l : Va), us[j]? = some u → r.ls[j]? = some l → El W G u l

theorem El.more {W : World} {G G' : List Rw} {u l : Va} (h : El W G u l) (hG : ∀ r ∈ G, r ∈ G') : El W G' u l :=
  ⟨h.n, h.bs, h.ls, h.own, h.nil, fun hn => by obtain ⟨r, h1, h2⟩ := h.some hn; exact ⟨r, hG r h1, h2⟩⟩
theorem Row.more {W : World} {G G' : List Rw} {r : Rw} {k : Nat} (h : Row W G r k) (hG : ∀ r ∈ G, r ∈ G') : Row W G' r k := by
  obtain ⟨us, h1, h2, h3, h4⟩ := h
  exact ⟨us, h1, h2, h3, fun j u l hu hl => (h4 j u l hu hl).more hG⟩
/-- Blocks that hold no bytes. -/
def NoB (W : World) (F : Nat → Prop) : Prop := ∀ i cs, F i → W.heap[i]? ≠ some (.cells cs 5 (0, 0))
theorem own_nob {W W' : World} {F : Nat → Prop} {v : Value} {n : Nat} {xs : List Value} (h : W.ownsRow 0 5 1 v n xs) (g : Fr W W' F) (hF : NoB W F) : W'.ownsRow 0 5 1 v n xs := by
  refine own_fr h g (fun k hk hFk => ?_)
  rcases h.2 with ⟨e, _⟩ | ⟨b, cap, cur, rfl, _, hh, _⟩
  · subst e; simp [Value.ownBlock] at hk
  · simp [Value.ownBlock] at hk
    subst hk
    exact hF _ _ hFk hh
theorem El.fr {W W' : World} {G : List Rw} {u l : Va} {F : Nat → Prop} (h : El W G u l) (g : Fr W W' F) (hF : NoB W F) : El W' G u l :=
  ⟨h.n, h.bs, h.ls, own_nob h.own g hF, h.nil, h.some⟩
theorem Row.fr {W W' : World} {G : List Rw} {r : Rw} {k : Nat} {F : Nat → Prop} (h : Row W G r k) (g : Fr W W' F) (hr : ¬ F r.b) (hF : NoB W F) : Row W' G r k := by
  obtain ⟨us, h1, h2, h3, h4⟩ := h
  exact ⟨us, h1, h2, own_fr h3 g (fun i hi => by simp [Rw.val, Value.ownBlock] at hi; subst hi; exact hr), fun j u l hu hl => (h4 j u l hu hl).fr g hF⟩

/-- The block of a row. -/
theorem own_whole {W : World} {r : Rw} {n : Nat} {xs : List Value} (h : W.ownsRow 0 29 3 r.val n xs) : ∃ cur, Whole W r.b cur 29 ∧ n = r.ls.length ∧ n ≤ r.c ∧ r.c ≤ maxLen ∧ cur.size = r.c * 3 ∧ cur.toList.take (n * 3) = xs ∧ xs.length = n * 3 := by
  rcases h.2 with ⟨e, _⟩ | ⟨b, cap, cur, e, _, hh, h1, h2, h3, h4⟩
  · simp [Rw.val] at e
  · simp only [Rw.val, Value.slice.injEq, Option.some.injEq, Addr.mk.injEq] at e
    obtain ⟨⟨e1, _⟩, e2, e3⟩ := e
    subst e1 e3
    exact ⟨cur, hh, e2.symm, h1, h2, h3, h4, h.1⟩
/-- A cell of a row is stored. -/
theorem own_cell {W : World} {r : Rw} {n : Nat} {us : List Va} {u u' : Va} {rest : List Va} (h : W.ownsRow 0 29 3 r.val n (flat (us ++ u :: rest))) (i : Nat) (x : Value) (hc : u'.cells.toList = (u.cells.toList).set i x) (hi : i < 3) :
    (W.setCell ⟨r.b, us.length * 3 + i, none⟩ x).ownsRow 0 29 3 r.val n (flat (us ++ u' :: rest)) := by
  obtain ⟨cur, hW, e1, e2, e3, e4, e5, e6⟩ := own_whole h
  have hset := hW.set (us.length * 3 + i) x
  have hfl : ∀ v : Va, flat (us ++ v :: rest) = flat us ++ (v.cells.toList ++ flat rest) := fun v => by rw [flat_append]; rfl
  have hul : (u.cells.toList).length = 3 := by simp [Va.cells]
  have hnew : flat (us ++ u' :: rest) = (flat (us ++ u :: rest)).set (us.length * 3 + i) x := by
    rw [hfl, hfl, hc, List.set_append_right _ _ (by rw [flat_length]; omega), flat_length, Nat.add_sub_cancel_left, List.set_append_left _ _ (by omega)]
  refine ⟨by rw [hnew, List.length_set]; exact e6, .inr ⟨r.b, r.c, _, by rw [Rw.val, e1], Nat.zero_le _, hset, e2, e3, by simp [e4], ?_⟩⟩
  rw [hnew, ← e5, Array.toList_setIfInBounds, List.take_set]

/-- Two lists that lie in one place, as long, are the same. -/
theorem lie_cells {w : World} {A : Option Addr} {ps qs : List Va} (hp : Va.Lie w A ps) (hq : Va.Lie w A qs) (hl : ps.length = qs.length) {i : Nat} {p q : Va} (h1 : ps[i]? = some p) (h2 : qs[i]? = some q) : p.cells = q.cells := by
  have hi : i < ps.length := (List.getElem?_eq_some_iff.1 h1).1
  obtain ⟨b, o, e, hc⟩ := hp (by omega)
  obtain ⟨b', o', e', hc'⟩ := hq (by omega)
  rw [e] at e'
  cases e'
  apply Array.ext
  · simp [Va.cells]
  · intro j hj hj'
    have a1 := hc i p h1 j _ (Array.getElem?_eq_getElem hj)
    have a2 := hc' i q h2 j _ (Array.getElem?_eq_getElem hj')
    rw [a1] at a2
    exact Option.some.inj a2
theorem byt_uniq {w : World} {A : Option Addr} {xs ys : List UInt8} (hx : Byt w w.heap.size A xs) (hy : Byt w w.heap.size A ys) (hl : xs.length = ys.length) : xs = ys := by
  apply List.ext_getElem hl
  intro i h1 h2
  obtain ⟨b, o, e, _, hc⟩ := hx (by omega)
  obtain ⟨b', o', e', _, hc'⟩ := hy (by omega)
  rw [e] at e'
  cases e'
  have a1 := hc i h1
  have a2 := hc' i h2
  rw [a1] at a2
  simp only [Option.some.injEq, Value.int.injEq, true_and, List.getD, List.getElem?_eq_getElem h1, List.getElem?_eq_getElem h2, Option.getD_some] at a2
  exact UInt8.toNat_inj.1 (by omega)
theorem nf_uniq {w : World} (p : Va) : ∀ q : Va, p.In w → q.In w → p.cells = q.cells → p.nf = q.nf := by
  induction p using Va.ind with
  | H n B d bs A c ls ih =>
    intro q hp hq he
    cases q with
    | mk n' B' d' bs' A' c' ls' =>
    simp only [Va.cells, Va.n, Va.B, Va.bs, Va.d, Va.A, Va.ls, Va.c] at he
    simp at he
    obtain ⟨e1, ⟨e2, e3, e4⟩, e5, e6, e7⟩ := he
    subst e1 e2 e4 e5 e7
    have hb : bs = bs' := byt_uniq hp.bytes.1 hq.bytes.1 e3
    subst hb
    have hn : nfs ls = nfs ls' := by
      rw [nfs_map, nfs_map]
      apply List.ext_getElem (by simpa using e6)
      intro i h1 h2
      rw [List.length_map] at h1 h2
      rw [List.getElem_map, List.getElem_map]
      have hc := lie_cells (show Va.Lie w A ls from hp.list.1) (show Va.Lie w A ls' from hq.list.1) e6 (List.getElem?_eq_getElem h1) (List.getElem?_eq_getElem h2)
      exact ih _ (List.getElem_mem h1) _ (hp.parts _ (List.getElem_mem h1)) (hq.parts _ (List.getElem_mem h2)) hc
    rw [nf, nf, hn]
theorem lie_uniq {w : World} {A : Option Addr} {ps qs : List Va} (hp : Va.Lie w A ps) (hq : Va.Lie w A qs) (hpi : ∀ p ∈ ps, p.In w) (hqi : ∀ q ∈ qs, q.In w) (hl : ps.length = qs.length) : nfs ps = nfs qs := by
  rw [nfs_map, nfs_map]
  apply List.ext_getElem (by simpa using hl)
  intro i h1 h2
  rw [List.length_map] at h1 h2
  rw [List.getElem_map, List.getElem_map]
  exact nf_uniq _ _ (hpi _ (List.getElem_mem h1)) (hqi _ (List.getElem_mem h2)) (lie_cells hp hq hl (List.getElem?_eq_getElem h1) (List.getElem?_eq_getElem h2))

theorem cnt_nf (v : Va) : v.nf.cnt = v.cnt := by
  induction v using Va.ind with
  | H n B d bs A c ls ih =>
    have : ∀ xs : List Va, (∀ p ∈ xs, p.nf.cnt = p.cnt) → cnts (nfs xs) = cnts xs := by
      intro xs
      induction xs with
      | nil => intro _; rfl
      | cons x xs ihx => intro h; rw [nfs, cnts, cnts, h x (by simp), ihx (fun p hp => h p (by simp [hp]))]
    rw [nf, cnt, cnt, this ls ih]
theorem cnts_nfs {xs ys : List Va} (h : nfs xs = nfs ys) : cnts xs = cnts ys := by
  have : ∀ xs : List Va, cnts (nfs xs) = cnts xs := by
    intro xs
    induction xs with
    | nil => rfl
    | cons x xs ihx => rw [nfs, cnts, cnts, cnt_nf, ihx]
  rw [← this xs, ← this ys, h]
theorem cnts_mem {ls : List Va} {l : Va} (h : l ∈ ls) : l.cnt ≤ cnts ls := by
  induction ls with
  | nil => simp at h
  | cons x xs ih =>
    rw [cnts]
    rcases List.mem_cons.1 h with rfl | h
    · omega
    · have := ih h; omega

/-- No list of it lies below block k. -/
inductive LHi (k : Nat) : Va → Prop
  | mk {n : Int} {B : Option Addr} {d : Nat} {bs : List UInt8} {A : Option Addr} {c : Nat} {ls : List Va} (ha : ∀ a, 0 < ls.length → A = some a → k ≤ a.block) (hp : ∀ p ∈ ls, LHi k p) : LHi k (.mk n B d bs A c ls)
/-- A variable of zero is stored over: what has no list below stays. -/
theorem in_put {W : World} {q k : Nat} (hW : Whole W q #[.int .u64 0, .slice none 0 0, .slice none 0 0] 29) (hq : q < k) (c0 c1 c2 : Value) (u : Va) : u.In W → LHi k u → u.In (put3 W q c0 c1 c2) := by
  have g := fr_put3 W q c0 c1 c2
  induction u using Va.ind with
  | H n B d bs A c ls ih =>
    intro hu hh
    cases hu with
    | mk hn hb hd hc hz ha hp =>
      cases hh with
      | mk la lp =>
        refine .mk hn (fun hbl => ?_) hd hc hz (fun hl => ?_) (fun p hpm => ih p hpm (hp p hpm) (lp p hpm))
        · obtain ⟨b, o, e, hlt, hcell⟩ := hb hbl
          have hne : b ≠ q := by
            rintro rfl
            have h0 := hcell 0 hbl
            rw [hW.cell] at h0
            have hlt3 : o + 0 < 3 := by
              rcases Nat.lt_or_ge (o + 0) 3 with h | h
              · exact h
              · rw [Array.getElem?_eq_none (by simpa using h)] at h0; cases h0
            have ho : o = 0 ∨ o = 1 ∨ o = 2 := by omega
            rcases ho with rfl | rfl | rfl <;> simp at h0
          exact ⟨b, o, e, Nat.lt_of_lt_of_le hlt g.size, fun i hi => g.cell (hcell i hi) hne⟩
        · obtain ⟨b, o, e, hcell⟩ := ha hl
          have hbk := la _ hl e
          exact ⟨b, o, e, fun i p hi j v hv => g.cell (hcell i p hi j v hv) (show ¬ b = q by have : k ≤ b := hbk; omega)⟩

/-- Where all rows are done each is a list of values as they were. -/
theorem rows_done {W : World} {G : List Rw} {m : Nat} (hm : ∀ r ∈ G, m ≤ r.b) (hG : ∀ r ∈ G, Row W G r r.ls.length) (hI : ∀ r ∈ G, ∀ l ∈ r.ls, (0 ≤ l.n ∧ l.n ≤ 18446744073709551615) ∧ l.bs.length ≤ 140737488355328 ∧ l.ls.length ≤ 2513169434916) :
    ∀ (k : Nat) (r : Rw), r ∈ G → cnts r.ls ≤ k → ∃ us : List Va, us.length = r.ls.length ∧ us.length ≤ r.c ∧ Va.Lie W (some ⟨r.b, 0, none⟩) us ∧ nfs us = nfs r.ls ∧ ∀ u ∈ us, u.In W ∧ LHi m u := by
  intro k
  induction k with
  | zero =>
    intro r hr hk
    have h0 : r.ls = [] := by
      cases h : r.ls with
      | nil => rfl
      | cons x xs => rw [h, cnts] at hk; have := cnt_pos x; omega
    exact ⟨[], by rw [h0], Nat.zero_le _, Va.Lie.nil _ _, by rw [h0], fun u hu => by simp at hu⟩
  | succ k ih =>
    intro r hr hk
    obtain ⟨us, h1, _, h3, h4⟩ := hG r hr
    rw [List.drop_length, List.append_nil] at h3
    have each : ∀ i, i < us.length → ∃ v : Va, (v.In W ∧ LHi m v) ∧ (∀ u, us[i]? = some u → v.cells = u.cells) ∧ ∀ l, r.ls[i]? = some l → v.nf = l.nf := by
      intro i hi
      have hu : us[i]? = some us[i] := List.getElem?_eq_getElem hi
      have hl : r.ls[i]? = some r.ls[i] := List.getElem?_eq_getElem (by omega)
      have hlm : r.ls[i] ∈ r.ls := List.getElem_mem _
      generalize hx : us[i] = u at *
      generalize hy : r.ls[i] = l at *
      have E := h4 i u l hu hl
      obtain ⟨q1, q2, q3⟩ := hI r hr l hlm
      have hbb := byt_of_own E.own
      obtain ⟨B', c', eB, hle, hB⟩ := hbb
      have hB' : u.B = B' ∧ u.d = c' := by simpa using eB
      have hcl := cnts_mem hlm
      have hcc : l.cnt = cnts l.ls + 1 := by cases l; rfl
      cases u with
      | mk un uB ud ubs uA uc uls =>
      cases l with
      | mk ln lB ld lbs lA lc lls =>
      obtain ⟨e1, e2, e3⟩ : un = ln ∧ ubs = lbs ∧ uls = lls := ⟨E.n, E.bs, E.ls⟩
      subst e1 e2 e3
      change uB = B' ∧ ud = c' at hB'
      obtain ⟨rfl, rfl⟩ := hB'
      change Byt W W.heap.size uB ubs at hB
      by_cases hn : uls = []
      · obtain ⟨a1, a2⟩ := E.nil hn
        change uA = none at a1
        change uc = 0 at a2
        subst a1 a2 hn
        exact ⟨.mk un uB ud ubs none 0 [], ⟨.mk q1 hB ⟨hle, q2⟩ (Nat.le_refl _) (by simp) (Va.Lie.nil _ _) (fun p hp => by simp at hp), .mk (fun a h => by simp at h) (fun p hp => by simp at hp)⟩, fun u hu' => by rw [hu] at hu'; cases hu'; rfl, fun l hl' => by rw [hl] at hl'; cases hl'; rfl⟩
      · obtain ⟨r', g1, g2, g3, g4⟩ := E.some hn
        change uA = some ⟨r'.b, 0, none⟩ at g2
        change uc = r'.c at g3
        change nfs r'.ls = nfs uls at g4
        subst g2 g3
        have hlen : r'.ls.length = uls.length := by have := congrArg List.length g4; rwa [nfs_length, nfs_length] at this
        obtain ⟨vs, v1, v2, v3, v4, v5⟩ := ih r' g1 (by rw [cnts_nfs g4]; change cnts uls + 1 ≤ _ at hcl; omega)
        refine ⟨.mk un uB ud ubs (some ⟨r'.b, 0, none⟩) r'.c vs, ⟨.mk q1 hB ⟨hle, q2⟩ v2 (by rw [v1, hlen]; exact q3) v3 (fun p hp => (v5 p hp).1), .mk (fun a _ e => by cases e; exact hm r' g1) (fun p hp => (v5 p hp).2)⟩, fun u hu' => ?_, fun l hl' => ?_⟩
        · rw [hu] at hu'
          cases hu'
          simp only [Va.cells, Va.n, Va.B, Va.bs, Va.d, Va.A, Va.ls, Va.c, v1, hlen]
        · rw [hl] at hl'
          cases hl'
          rw [nf, nf, v4, g4]
    haveI : Inhabited Va := ⟨.mk 0 none 0 [] none 0 []⟩
    obtain ⟨q, hq⟩ := Go.Deep.choose_lt each
    have hlr : ((List.range us.length).map q).length = us.length := by simp
    have hat : ∀ i, i < us.length → ((List.range us.length).map q)[i]? = some (q i) := fun i hi => by rw [List.getElem?_map, List.getElem?_range hi]; rfl
    have hfl : flat ((List.range us.length).map q) = flat us := by
      unfold flat
      have : ((List.range us.length).map q).map (fun p => p.cells.toList) = us.map (fun p => p.cells.toList) := by
        apply List.ext_getElem (by simp)
        intro i a1 a2
        rw [List.length_map, hlr] at a1
        simp only [List.getElem_map, List.getElem_range]
        rw [(hq i a1).2.1 _ (List.getElem?_eq_getElem a1)]
      rw [List.flatMap_def, List.flatMap_def, this]
    rw [← hfl] at h3
    obtain ⟨A, c, e, hle, hlie⟩ := Va.Lie.of_own h3
    rw [Rw.val, hlr] at e
    simp only [Value.slice.injEq] at e
    obtain ⟨rfl, _, rfl⟩ := e
    refine ⟨_, by rw [hlr, h1], by rw [hlr]; rw [hlr] at hle; exact hle, hlie, ?_, ?_⟩
    · rw [nfs_map, nfs_map]
      apply List.ext_getElem (by simp [h1])
      intro i a1 a2
      rw [List.length_map, hlr] at a1
      rw [List.length_map] at a2
      simp only [List.getElem_map, List.getElem_range]
      exact (hq i a1).2.2 _ (List.getElem?_eq_getElem a2)
    · intro u hu
      obtain ⟨i, hi, rfl⟩ := List.mem_map.1 hu
      exact (hq i (List.mem_range.1 hi)).1
end Go.Proofs.Ytibbeodcheefaaa


/- A value apart: what holds of the rows, the list of what is left, the map; the copy. -/
namespace Go.Proofs.Ytibbeodcheefaaa
open Go.RowKit Va

/-- No list of it lies in memory with a mark. -/
inductive Pl (w : World) : Va → Prop
  | mk {n : Int} {B : Option Addr} {d : Nat} {bs : List UInt8} {A : Option Addr} {c : Nat} {ls : List Va} (ha : 0 < ls.length → ∃ b o cs t, A = some ⟨b, o, none⟩ ∧ w.heap[b]? = some (.cells cs t (0, 0))) (hp : ∀ p ∈ ls, Pl w p) : Pl w (.mk n B d bs A c ls)
theorem Pl.at {w : World} {v : Va} (h : Pl w v) (hl : v.ls ≠ []) : ∃ b o cs t, v.A = some ⟨b, o, none⟩ ∧ w.heap[b]? = some (.cells cs t (0, 0)) := by
  cases h with
  | mk ha _ => exact ha (List.length_pos_iff.2 hl)
theorem Pl.parts {w : World} {v : Va} (h : Pl w v) : ∀ p ∈ v.ls, Pl w p := by
  cases h with
  | mk _ hp => exact hp

/-- The rows: of P none is begun, those of D are done. -/
structure ApB (w W : World) (r0 : Rw) (G P D : List Rw) : Prop where
  g : Grew w W none
  pend : ∀ r ∈ P, Row W G r 0
  done : ∀ r ∈ D, Row W G r r.ls.length
  nd : (G.map Rw.b).Nodup
  ok : ∀ r ∈ G, w.heap.size + 2 ≤ r.b ∧ r.b < W.heap.size ∧ r.ls ≠ [] ∧ r.ls.length ≤ 2513169434916 ∧ ∀ l ∈ r.ls, l.In w ∧ Pl w l
  res : Whole W (w.heap.size + 1) #[.int .u64 0, .slice none 0 0, .slice none 0 0] 29
  r0 : r0 ∈ G
/-- What is left. -/
def Lf (w W : World) (P : List Rw) (LV : Value) : Prop := W.ownsRow 0 27 1 LV P.length (P.map Rw.val) ∧ (∀ g, LV.ownBlock = some g → w.heap.size + 2 ≤ g)
/-- The map. -/
def Mp (w W : World) (G : List Rw) (q : Nat) (es : Array MapEntry) (ck : Nat) : Prop :=
  W.heap[q]? = some (.map es ck) ∧ w.heap.size + 2 ≤ q ∧ ∀ e ∈ es.toList, ∃ a r cs t, e.key = mkey a r.ls.length ∧ e.val = r.val ∧ r ∈ G ∧ Va.Lie w (some a) r.ls ∧ w.heap[a.block]? = some (.cells cs t (0, 0))

theorem ApB.fr {w W W' : World} {r0 : Rw} {G P D : List Rw} {F : Nat → Prop} (h : ApB w W r0 G P D) (g : Fr W W' F) (hF : ∀ i, F i → w.heap.size + 2 ≤ i) (hN : NoB W F) (hP : ∀ r ∈ P, ¬ F r.b) (hD : ∀ r ∈ D, ¬ F r.b) : ApB w W' r0 G P D :=
  ⟨grew_fr h.g g (fun i hi => by have := hF i hi; omega), fun r hr => (h.pend r hr).fr g (hP r hr) hN, fun r hr => (h.done r hr).fr g (hD r hr) hN, h.nd, fun r hr => by
    obtain ⟨h1, h2, h3⟩ := h.ok r hr
    exact ⟨h1, Nat.lt_of_lt_of_le h2 g.size, h3⟩, h.res.fr g (fun hi => by have := hF _ hi; omega), h.r0⟩
theorem ApB.grew {w W W' : World} {r0 : Rw} {G P D : List Rw} (h : ApB w W r0 G P D) (g : Grew W W' none) : ApB w W' r0 G P D :=
  h.fr (fr_of g (F := fun _ => False)) (fun _ h => h.elim) (fun _ _ h => h.elim) (fun _ _ h => h) (fun _ _ h => h)
theorem Row.grew {W W' : World} {G : List Rw} {r : Rw} {k : Nat} (h : Row W G r k) (g : Grew W W' none) : Row W' G r k :=
  h.fr (fr_of g (F := fun _ => False)) (fun h => h) (fun _ _ h => h.elim)
theorem Lf.fr {w W W' : World} {P : List Rw} {LV : Value} {F : Nat → Prop} (h : Lf w W P LV) (g : Fr W W' F) (hF : ∀ i cs, F i → W.heap[i]? ≠ some (.cells cs 27 (0, 0))) : Lf w W' P LV := by
  refine ⟨own_fr h.1 g (fun k hk hFk => ?_), h.2⟩
  rcases h.1.2 with ⟨e, _⟩ | ⟨b, cap, cur, e, _, hh, _⟩
  · subst e; simp [Value.ownBlock] at hk
  · subst e
    simp [Value.ownBlock] at hk
    subst hk
    exact hF _ _ hFk hh
theorem Lf.grew {w W W' : World} {P : List Rw} {LV : Value} (h : Lf w W P LV) (g : Grew W W' none) : Lf w W' P LV :=
  h.fr (fr_of g (F := fun _ => False)) (fun _ _ h => h.elim)
theorem Mp.fr {w W W' : World} {G : List Rw} {q : Nat} {es : Array MapEntry} {ck : Nat} {F : Nat → Prop} (h : Mp w W G q es ck) (g : Fr W W' F) (hF : ¬ F q) : Mp w W' G q es ck :=
  ⟨(g.block q (Array.getElem?_eq_some_iff.1 h.1).1 hF).trans h.1, h.2⟩
theorem Mp.grew {w W W' : World} {G : List Rw} {q : Nat} {es : Array MapEntry} {ck : Nat} (h : Mp w W G q es ck) (g : Grew W W' none) : Mp w W' G q es ck :=
  h.fr (fr_of g (F := fun _ => False)) (fun h => h)
/-- The sum of what is left. -/
def sumP (P : List Rw) : Nat := (P.map (fun r => cnts r.ls)).sum

theorem sumP_append (P Q : List Rw) : sumP (P ++ Q) = sumP P + sumP Q := by simp [sumP]
theorem sumP_one (r : Rw) : sumP [r] = cnts r.ls := by simp [sumP]
theorem len_cnts (ls : List Va) : ls.length ≤ cnts ls := by
  induction ls with
  | nil => simp
  | cons x xs ih => rw [cnts, List.length_cons]; have := cnt_pos x; omega
theorem sumP_len {P : List Rw} (h : ∀ r ∈ P, r.ls ≠ []) : P.length ≤ sumP P := by
  induction P with
  | nil => simp
  | cons r P ih =>
    have h1 := ih (fun r hr => h r (by simp [hr]))
    have h2 : 1 ≤ cnts r.ls := Nat.le_trans (List.length_pos_iff.2 (h r (by simp))) (len_cnts r.ls)
    have h3 : sumP (r :: P) = cnts r.ls + sumP P := by simp [sumP]
    rw [h3, List.length_cons]; omega

def S3 (w W : World) (r0 : Rw) (q : Nat) (G P D : List Rw) (LV : Value) (es : Array MapEntry) (ck : Nat) : Prop := ApB w W r0 G P D ∧ Lf w W P LV ∧ Mp w W G q es ck
theorem S3.grew {w W W' : World} {r0 : Rw} {q : Nat} {G P D : List Rw} {LV : Value} {es : Array MapEntry} {ck : Nat} (h : S3 w W r0 q G P D LV es ck) (g : Grew W W' none) : S3 w W' r0 q G P D LV es ck := ⟨h.1.grew g, h.2.1.grew g, h.2.2.grew g⟩
/-- A cell of a row of values is stored. -/
theorem nob_row {W : World} {b : Nat} {cs : Array Value} (hW : Whole W b cs 29) : NoB W (fun i => i = b) := by
  intro i cs' hi he
  have hi' : i = b := hi
  subst hi'
  have hW' : W.heap[i]? = some (.cells cs 29 (0, 0)) := hW
  rw [hW'] at he
  simp at he
theorem S3.row {w W : World} {r0 : Rw} {q : Nat} {G P D : List Rw} {LV : Value} {es : Array MapEntry} {ck b : Nat} {cs : Array Value} (h : S3 w W r0 q G P D LV es ck) (hW : Whole W b cs 29) (hb : w.heap.size + 2 ≤ b) (hP : ∀ r ∈ P, r.b ≠ b) (hD : ∀ r ∈ D, r.b ≠ b) (i : Nat) (y : Value) : S3 w (W.setCell ⟨b, i, none⟩ y) r0 q G P D LV es ck := by
  have g : Fr W (W.setCell ⟨b, i, none⟩ y) (fun i => i = b) := Fr.set (F := fun i => i = b) (Fr.refl _ _) (.inl rfl) _ _ _
  have hW' : W.heap[b]? = some (.cells cs 29 (0, 0)) := hW
  refine ⟨h.1.fr g (fun i hi => by omega) (nob_row hW) hP hD, h.2.1.fr g (fun i cs' hi he => ?_), h.2.2.fr g (fun hq => ?_)⟩
  · have hi' : i = b := hi
    subst hi'
    rw [hW'] at he
    simp at he
  · have hq' : q = b := hq
    have := h.2.2.1
    rw [hq', hW'] at this
    cases this

/-- The row whose values are being done. -/
structure Cw (W : World) (G : List Rw) (cur : Rw) (us : List Va) (x : Va) (rest : List Va) : Prop where
  own : W.ownsRow 0 29 3 cur.val cur.ls.length (flat (us ++ x :: rest))
  el : ∀ (j : Nat) (u l : Va), us[j]? = some u → cur.ls[j]? = some l → El W G u l
theorem Cw.fr {W W' : World} {G : List Rw} {cur : Rw} {us : List Va} {x : Va} {rest : List Va} {F : Nat → Prop} (h : Cw W G cur us x rest) (g : Fr W W' F) (hr : ¬ F cur.b) (hF : NoB W F) : Cw W' G cur us x rest :=
  ⟨own_fr h.own g (fun i hi => by simp [Rw.val, Value.ownBlock] at hi; subst hi; exact hr), fun j u l hu hl => (h.el j u l hu hl).fr g hF⟩
theorem Cw.grew {W W' : World} {G : List Rw} {cur : Rw} {us : List Va} {x : Va} {rest : List Va} (h : Cw W G cur us x rest) (g : Grew W W' none) : Cw W' G cur us x rest :=
  h.fr (fr_of g (F := fun _ => False)) (fun h => h) (fun _ _ h => h.elim)
theorem Cw.more {W : World} {G G' : List Rw} {cur : Rw} {us : List Va} {x : Va} {rest : List Va} (h : Cw W G cur us x rest) (hG : ∀ r ∈ G, r ∈ G') : Cw W G' cur us x rest :=
  ⟨h.own, fun j u l hu hl => (h.el j u l hu hl).more hG⟩
theorem Cw.whole {W : World} {G : List Rw} {cur : Rw} {us : List Va} {x : Va} {rest : List Va} (h : Cw W G cur us x rest) : ∃ cs, Whole W cur.b cs 29 ∧ ∀ j y, x.cells[j]? = some y → cs[us.length * 3 + j]? = some y := by
  obtain ⟨cs, hW, e1, e2, e3, e4, e5, e6⟩ := own_whole h.own
  refine ⟨cs, hW, fun j y hy => ?_⟩
  have hx : (us ++ x :: rest)[us.length]? = some x := by rw [List.getElem?_append_right (Nat.le_refl _), Nat.sub_self]; rfl
  have hf := flat_at hx hy
  have hlt : us.length * 3 + j < cur.ls.length * 3 := by
    rw [← e6]
    exact (List.getElem?_eq_some_iff.1 hf).1
  rw [← e5, List.getElem?_take_of_lt hlt] at hf
  rw [← Array.getElem?_toList]
  exact hf
theorem Cw.set {W : World} {G : List Rw} {cur : Rw} {us : List Va} {x x' : Va} {rest : List Va} (h : Cw W G cur us x rest) (i : Nat) (y : Value) (hc : x'.cells.toList = (x.cells.toList).set i y) (hi : i < 3) : Cw (W.setCell ⟨cur.b, us.length * 3 + i, none⟩ y) G cur us x' rest := by
  obtain ⟨cs, hW, _⟩ := h.whole
  exact ⟨own_cell h.own i y hc hi, fun j u l hu hl => (h.el j u l hu hl).fr (Fr.set (F := fun i => i = cur.b) (Fr.refl _ _) (.inl rfl) _ _ _) (nob_row hW)⟩
/-- A row with one more value that is done. -/
theorem Cw.step {W : World} {G : List Rw} {cur : Rw} {us : List Va} {u l : Va} {k : Nat} (h : Cw W G cur us u (cur.ls.drop (k + 1))) (hk : us.length = k) (hl : cur.ls[k]? = some l) (he : El W G u l) : Row W G cur (k + 1) := by
  have hlt : k < cur.ls.length := (List.getElem?_eq_some_iff.1 hl).1
  refine ⟨us ++ [u], by simp [hk], by omega, ?_, ?_⟩
  · rw [List.append_assoc]; exact h.own
  · intro j u' l' hu' hl'
    rcases Nat.lt_or_ge j us.length with hj | hj
    · rw [List.getElem?_append_left hj] at hu'
      exact h.el j u' l' hu' hl'
    · rw [List.getElem?_append_right hj] at hu'
      have hj0 : j = k := by
        rcases Nat.eq_or_lt_of_le hj with e | e
        · omega
        · rw [List.getElem?_eq_none (by simp; omega)] at hu'; cases hu'
      subst hj0
      rw [hk, Nat.sub_self] at hu'
      rw [hl] at hl'
      cases hu'; cases hl'
      exact he
theorem Row.cur {W : World} {G : List Rw} {cur : Rw} {k : Nat} (h : Row W G cur k) {l : Va} (hl : cur.ls[k]? = some l) : ∃ us, us.length = k ∧ Cw W G cur us l (cur.ls.drop (k + 1)) := by
  obtain ⟨us, h1, h2, h3, h4⟩ := h
  rw [dropL hl] at h3
  exact ⟨us, h1, h3, h4⟩

set_option maxRecDepth 100000 in
theorem info_slice : (Try.prog.info? 27).map (fun i => (i.zero, i.size, i.bytes)) = some (some (.slice none 0 0), 1, 24) := by kernel_rfl
set_option maxRecDepth 100000 in
/-- 'append(left, r)'. -/
theorem append_left (w : World) (ty : TypeId) {LV : Value} {n : Nat} {xs : List Value} (hown : w.ownsRow 0 27 1 LV n xs) (q : Nat) (x : Value) (hx : x.oneCell' = true) (hq : w.cell? ⟨q, 0, none⟩ = some x) (c : Nat) (hm : n + 1 ≤ 1000000000) :
    ∃ v' w', (Builtin.append_ #[83, 83] ty #[LV, .slice (some ⟨q, 0, none⟩) 1 c]).run Try.prog w = .ok v' w' ∧ AppLeft w 27 1 LV (n + 1) (xs ++ [x]) v' w' := by
  obtain ⟨i, hi, hz⟩ := Option.map_eq_some_iff.1 info_slice
  simp only [Prod.mk.injEq] at hz
  obtain ⟨hz0, hz1, hz2⟩ := hz
  obtain ⟨v', w', hr, h2, h3, _, h5⟩ := run_append_own_at (P := Try.prog) w 0 83 ty 27 i _ 1 24 Try.underlying83 hi hz0 hz1 hz2 rfl (by omega) LV n xs hown ⟨q, 0, none⟩ 1 c [x] (by simp) (fun j u hu => by
      cases j with
      | zero => simp at hu; subst hu; rw [addr_add]; exact hq
      | succ j => simp at hu) (fun u hu => by simp at hu; subst hu; exact hx)
    (by unfold maxLen; omega) (by omega) (Nat.zero_le _)
  exact ⟨v', w', hr, h2, h3, h5⟩

/-- A row more, which is left. -/
theorem S3.push {w W W' : World} {r0 cur r : Rw} {q : Nat} {P D : List Rw} {LV LV' : Value} {es : Array MapEntry} {ck : Nat} (hB0 : ApB w W r0 (P ++ cur :: D) P D) (hL0 : Lf w W P LV) (hM0 : Mp w W ((P ++ [r]) ++ cur :: D) q es ck) (hr : W.ownsRow 0 29 3 r.val r.ls.length (flat r.ls)) (hb : ∀ r' ∈ P ++ cur :: D, r'.b ≠ r.b) (hlo : w.heap.size + 2 ≤ r.b) (hne : r.ls ≠ []) (hlen : r.ls.length ≤ 2513169434916) (hin : ∀ l ∈ r.ls, l.In w ∧ Pl w l)
    (hA : AppLeft W 27 1 LV (P.length + 1) (P.map Rw.val ++ [r.val]) LV' W') : S3 w W' r0 q ((P ++ [r]) ++ cur :: D) (P ++ [r]) D LV' es ck ∧ (∀ k, Row W (P ++ cur :: D) cur k → Row W' ((P ++ [r]) ++ cur :: D) cur k) ∧ (∀ us x rest, Cw W (P ++ cur :: D) cur us x rest → Cw W' ((P ++ [r]) ++ cur :: D) cur us x rest) ∧ r ∈ (P ++ [r]) ++ cur :: D := by
  obtain ⟨o1, g1, e1⟩ := hA
  have hF : Fr W W' (fun i => LV.ownBlock = some i) := Fr.of_grew' g1 (fun i hi => hi)
  have hty : ∀ i, LV.ownBlock = some i → ∃ cs, W.heap[i]? = some (.cells cs 27 (0, 0)) := by
    intro i hi
    rcases hL0.1.2 with ⟨e, _⟩ | ⟨b, cap, cur, e, _, hh, _⟩
    · subst e; simp [Value.ownBlock] at hi
    · subst e
      simp [Value.ownBlock] at hi
      subst hi
      exact ⟨_, hh⟩
  have hNB : NoB W (fun i => LV.ownBlock = some i) := by
    intro i cs hi he
    obtain ⟨cs', h'⟩ := hty i hi
    rw [h'] at he
    simp at he
  have hrow : ∀ r' : Rw, (∃ cs, Whole W r'.b cs 29) → ¬ LV.ownBlock = some r'.b := by
    rintro r' ⟨cs, hW⟩ hi
    obtain ⟨cs', h'⟩ := hty _ hi
    have hW' : W.heap[r'.b]? = some (.cells cs 29 (0, 0)) := hW
    rw [hW'] at h'
    simp at h'
  have hrw : ∀ {G : List Rw} {r' : Rw} {k : Nat}, Row W G r' k → ∃ cs, Whole W r'.b cs 29 := by
    rintro G r' k ⟨us, _, _, h3, _⟩
    obtain ⟨cs, hW, _⟩ := own_whole h3
    exact ⟨cs, hW⟩
  have hsub : ∀ r' ∈ P ++ cur :: D, r' ∈ (P ++ [r]) ++ cur :: D := fun r' hr' => by
    simp only [List.mem_append, List.mem_cons, List.not_mem_nil, or_false] at hr' ⊢
    rcases hr' with h | h
    · exact .inl (.inl h)
    · exact .inr h
  have hB := hB0.fr hF (fun i hi => hL0.2 i hi) hNB (fun r' hr' => hrow r' (hrw (hB0.pend r' hr'))) (fun r' hr' => hrow r' (hrw (hB0.done r' hr')))
  have hRr : Row W (P ++ cur :: D) r 0 := ⟨[], rfl, Nat.zero_le _, by rw [List.drop_zero]; exact hr, fun j u l hu => by simp at hu⟩
  have hRr' := (hRr.fr hF (hrow r (hrw hRr)) hNB).more hsub
  have hrlt : r.b < W'.heap.size := by
    obtain ⟨cs, hW⟩ := hrw hRr
    exact Nat.lt_of_lt_of_le hW.lt g1.size
  refine ⟨⟨⟨hB.g, fun r' hr' => ?_, fun r' hr' => (hB.done r' hr').more hsub, ?_, fun r' hr' => ?_, hB.res, hsub _ hB.r0⟩, ⟨?_, ?_⟩, ?_⟩, fun k hk => (hk.fr hF (hrow _ (hrw hk)) hNB).more hsub, fun us x rest hk => ?_, by simp⟩
  · rcases List.mem_append.1 hr' with h1 | h1
    · exact (hB.pend r' h1).more hsub
    · rw [List.mem_singleton] at h1
      subst h1
      exact hRr'
  · have hnd := hB0.nd
    have hperm : ((P ++ [r]) ++ cur :: D).Perm (r :: (P ++ cur :: D)) := by
      rw [List.append_assoc]
      exact (List.perm_middle (a := r) (l₁ := P) (l₂ := cur :: D))
    rw [(hperm.map Rw.b).nodup_iff, List.map_cons, List.nodup_cons]
    refine ⟨fun hm => ?_, hnd⟩
    obtain ⟨r', hr', e⟩ := List.mem_map.1 hm
    exact hb r' hr' e
  · have : r' = r ∨ r' ∈ P ++ cur :: D := by
      simp only [List.mem_append, List.mem_cons, List.not_mem_nil, or_false] at hr' ⊢
      rcases hr' with (h | h) | h
      · exact .inr (.inl h)
      · exact .inl h
      · exact .inr (.inr h)
    rcases this with rfl | h1
    · exact ⟨hlo, hrlt, hne, hlen, hin⟩
    · exact hB.ok r' h1
  · rw [List.length_append, List.map_append]; exact o1
  · intro g hg
    rcases e1 with e | e
    · exact hL0.2 g (by rw [← e]; exact hg)
    · have e' : some g = some W.heap.size := hg.symm.trans e
      have h1 := hB0.g.size
      have h2 := (hB0.ok _ hB0.r0)
      simp at e'
      omega
  · obtain ⟨m1, m2, m3⟩ := hM0
    have hq : ¬ LV.ownBlock = some q := fun hi => by
      obtain ⟨cs', h'⟩ := hty _ hi
      rw [m1] at h'
      cases h'
    exact ⟨(hF.block q (Array.getElem?_eq_some_iff.1 m1).1 hq).trans m1, m2, m3⟩
  · obtain ⟨cs, hW, _⟩ := hk.whole
    exact (hk.fr hF (hrow _ ⟨cs, hW⟩) hNB).more hsub
end Go.Proofs.Ytibbeodcheefaaa


/- A value apart: the copy. -/
namespace Go.Proofs.Ytibbeodcheefaaa
open Go.RowKit Va

section
variable {ρ : Operand → Value} {o : Oper}
theorem run_idxL {x y : Operand} {b l c k : Nat} (ho : o.op = .indexAddr 27 x y) (hx : ρ x = .slice (some ⟨b, 0, none⟩) l c) (hy : ρ y = .int .i64 (k : Int)) (hk : k < l) (w : World) : (execOp ρ o).run Try.prog w = .ok (.value (.pointer (some ⟨b, k * 3, none⟩))) w := by
  simp [execOp, ho, go_sem, hx, hy, hk]
theorem run_idx0 {x y : Operand} {b i l c : Nat} (ho : o.op = .indexAddr 27 x y) (hx : ρ x = .slice (some ⟨b, i, none⟩) l c) (hy : ρ y = .int .i64 0) (hl : 0 < l) (w : World) : (execOp ρ o).run Try.prog w = .ok (.value (.pointer (some ⟨b, i, none⟩))) w := by
  simp [execOp, ho, go_sem, hx, hy, hl]
theorem run_fld2 {x : Operand} {b i : Nat} (ho : o.op = .fieldAddr 29 x 2) (hx : ρ x = .pointer (some ⟨b, i, none⟩)) (w : World) : (execOp ρ o).run Try.prog w = .ok (.value (.pointer (some ⟨b, i + 2, none⟩))) w := by
  simp [execOp, ho, hx, go_sem]
theorem run_ldL {x : Operand} {b i : Nat} {v : Value} (ho : o.op = .load 27 x) (hx : ρ x = .pointer (some ⟨b, i, none⟩)) {w : World} (hc : w.cell? ⟨b, i, none⟩ = some v) : (execOp ρ o).run Try.prog w = .ok (.value v) w := by
  simp [execOp, ho, hx, go_sem, hc]
theorem run_lenL {x : Operand} {A : Option Addr} {l c : Nat} (ho : o.op = .call { callee := .builtin .len, args := #[x], argTypes := #[27] }) (hx : ρ x = .slice A l c) (w : World) : (execOp ρ o).run Try.prog w = .ok (.value (.int .i64 (l : Int))) w := by
  simp [execOp, ho, hx, go_sem]
theorem run_bkey {x y : Operand} {a : Addr} {n : Nat} (ho : o.op = .build 87 #[(0, x), (1, y)]) (hx : ρ x = .pointer (some a)) (hy : ρ y = .int .i64 (n : Int)) (w : World) : (execOp ρ o).run Try.prog w = .ok (.value (mkey a n)) w := by
  simp [execOp, ho, hx, hy, go_sem, mkey]
theorem run_newK (ho : o.op = .alloc 87) (w : World) : (execOp ρ o).run Try.prog w = .ok (.value (.pointer (some ⟨w.heap.size, 0, none⟩))) (w.alloc (.cells #[.pointer none, .int .i64 0] 87)) := by
  simp [execOp, ho, go_sem]
theorem run_storeK {x y : Operand} {q : Nat} {a : Addr} {n : Nat} (ho : o.op = .store 87 x y) (hx : ρ x = .pointer (some ⟨q, 0, none⟩)) (hy : ρ y = mkey a n) {w : World} {a0 a1 : Value} (h : Whole w q #[a0, a1] 87) :
    (execOp ρ o).run Try.prog w = .ok .skip (put2 w q (.pointer (some a)) (.int .i64 (n : Int))) := by
  obtain ⟨c0, c1⟩ := h.two
  have hz := h.frozen
  simp [execOp, ho, hx, hy, go_sem, mkey, c0, c1, hz, put2]
end
section
variable {ops : Array Oper} {o : Oper} {a : Act} {w : World} {K : Act → World → Prop} {Q : Exit → Act → World → Prop}
theorem wp_newK (ho : o.op = .alloc 87) (hw : Region.wanted o (yielded ops a.tmps) = true)
    (h : ∀ z W', Whole W' z #[.pointer none, .int .i64 0] 87 → Grew w W' none → w.heap.size ≤ z → K (a.put o.dst (.pointer (some ⟨z, 0, none⟩))) W') :
    if Region.wanted o (yielded ops a.tmps) = true then Oper.wp Try.prog o a w K Q else K (a.put o.dst undef) w :=
  wp_runG hw (run_newK ho w) (h _ _ (Whole.new w _ _) (grew_alloc (grew_refl _ none) _) (Nat.le_refl _))
end

theorem map_val_at (P : List Rw) (cur : Rw) : (List.map Rw.val (P ++ [cur]))[P.length]? = some cur.val := by
  rw [List.map_append, List.getElem?_append_right (by simp)]
  simp

/-- The first list of what is left is taken off. -/
theorem S3.pop {w W : World} {r0 cur : Rw} {q : Nat} {P D : List Rw} {g cap : Nat} {es : Array MapEntry} {ck : Nat} (h : S3 w W r0 q ((P ++ [cur]) ++ D) (P ++ [cur]) D (.slice (some ⟨g, 0, none⟩) (P.length + 1) cap) es ck) :
    S3 w W r0 q (P ++ cur :: D) P D (.slice (some ⟨g, 0, none⟩) P.length cap) es ck ∧ Row W (P ++ cur :: D) cur 0 := by
  have e : (P ++ [cur]) ++ D = P ++ cur :: D := by rw [List.append_assoc]; rfl
  rw [e] at h
  obtain ⟨h1, ⟨h2, h2'⟩, h3⟩ := h
  refine ⟨⟨⟨h1.g, fun r hr => h1.pend r (by simp [hr]), h1.done, h1.nd, h1.ok, h1.res, h1.r0⟩, ⟨?_, h2'⟩, h3⟩, h1.pend cur (by simp)⟩
  have hl : (P ++ [cur]).length = P.length + 1 := by simp
  rw [hl] at h2
  have := own_short h2 (k := P.length) (by omega)
  rw [Nat.mul_one, List.map_append, List.take_left' (by simp)] at this
  exact this
/-- A row that is done. -/
theorem S3.rest {w W : World} {r0 cur : Rw} {q : Nat} {P D : List Rw} {LV : Value} {es : Array MapEntry} {ck : Nat} (h : S3 w W r0 q (P ++ cur :: D) P D LV es ck) (hr : Row W (P ++ cur :: D) cur cur.ls.length) : S3 w W r0 q (P ++ cur :: D) P (cur :: D) LV es ck :=
  ⟨⟨h.1.g, h.1.pend, fun r hr' => by
    rcases List.mem_cons.1 hr' with rfl | h'
    · exact hr
    · exact h.1.done r h', h.1.nd, h.1.ok, h.1.res, h.1.r0⟩, h.2.1, h.2.2⟩
/-- The row that is worked at is no other. -/
theorem S3.apart {w W : World} {r0 cur : Rw} {q : Nat} {P D : List Rw} {LV : Value} {es : Array MapEntry} {ck : Nat} (h : S3 w W r0 q (P ++ cur :: D) P D LV es ck) : (∀ r ∈ P, r.b ≠ cur.b) ∧ (∀ r ∈ D, r.b ≠ cur.b) := by
  have hnd := h.1.nd
  have hperm : (P ++ cur :: D).Perm (cur :: (P ++ D)) := List.perm_middle
  rw [(hperm.map Rw.b).nodup_iff, List.map_cons, List.nodup_cons] at hnd
  exact ⟨fun r hr e => hnd.1 (List.mem_map.2 ⟨r, by simp [hr], e⟩), fun r hr e => hnd.1 (List.mem_map.2 ⟨r, by simp [hr], e⟩)⟩
/-- A cell of that row is stored. -/
theorem S3.set {w W : World} {r0 cur : Rw} {q : Nat} {P D : List Rw} {LV : Value} {es : Array MapEntry} {ck : Nat} {us : List Va} {x : Va} {rest : List Va} (h : S3 w W r0 q (P ++ cur :: D) P D LV es ck) (hc : Cw W (P ++ cur :: D) cur us x rest) (i : Nat) (y : Value) : S3 w (W.setCell ⟨cur.b, i, none⟩ y) r0 q (P ++ cur :: D) P D LV es ck := by
  obtain ⟨cs, hW, _⟩ := hc.whole
  obtain ⟨a1, a2⟩ := h.apart
  exact h.row hW (h.1.ok cur (by simp)).1 a1 a2 i y
/-- The keys lie in memory without a mark. -/
theorem Mp.keys {w W : World} {G : List Rw} {q : Nat} {es : Array MapEntry} {ck : Nat} (h : Mp w W G q es ck) (g : Grew w W none) : MKeys W es.toList := by
  intro e he
  obtain ⟨a, r, cs, t, k1, _, _, _, k5⟩ := h.2.2 e he
  have hlt : a.block < w.heap.size := (Array.getElem?_eq_some_iff.1 k5).1
  exact ⟨a, _, cs, t, k1, (g.block _ hlt (by simp)).trans k5⟩
/-- What is found stands for the same list. -/
theorem mfind_some {a : Addr} {n : Nat} : ∀ {es : List MapEntry} {i j : Nat} {v : Value}, mfind a n es i = some (j, v) → ∃ e ∈ es, e.key = mkey a n ∧ e.val = v
  | [], _, _, _, h => by simp [mfind] at h
  | e :: es, i, j, v, h => by
    unfold mfind at h
    split at h
    · rename_i hk
      simp at h
      exact ⟨e, by simp, hk, h.2⟩
    · obtain ⟨e', h1, h2⟩ := mfind_some h
      exact ⟨e', by simp [h1], h2⟩
/-- The map with an entry more. -/
theorem S3.laid {w W W' : World} {r0 cur r : Rw} {q : Nat} {P D : List Rw} {LV : Value} {es : Array MapEntry} {ck : Nat} {a : Addr} {cs : Array Value} {t : TypeId} (h : S3 w W r0 q (P ++ cur :: D) P D LV es ck) (hq : W'.heap[q]? = some (.map (es.push { key := mkey a r.ls.length, val := r.val, born := ck }) (ck + 1))) (g : Fr W W' (fun i => i = q)) (hl : Va.Lie w (some a) r.ls) (ha : w.heap[a.block]? = some (.cells cs t (0, 0))) :
    ApB w W' r0 (P ++ cur :: D) P D ∧ Lf w W' P LV ∧ Mp w W' ((P ++ [r]) ++ cur :: D) q (es.push { key := mkey a r.ls.length, val := r.val, born := ck }) (ck + 1) := by
  have hnot : ∀ i cs e, i = q → W.heap[i]? ≠ some (.cells cs e (0, 0)) := fun i cs e hi he => by
    subst hi
    rw [h.2.2.1] at he
    cases he
  have hrow : ∀ {G : List Rw} {r' : Rw} {k : Nat}, Row W G r' k → ¬ r'.b = q := by
    rintro G r' k ⟨us, _, _, h3, _⟩ e
    obtain ⟨cs, hW, _⟩ := own_whole h3
    exact hnot _ _ _ e hW
  refine ⟨h.1.fr g (fun i hi => by have := h.2.2.2.1; omega) (fun i cs hi => hnot i cs _ hi) (fun r' hr' => hrow (h.1.pend r' hr')) (fun r' hr' => hrow (h.1.done r' hr')), h.2.1.fr g (fun i cs hi => hnot i cs _ hi), hq, h.2.2.2.1, fun e he => ?_⟩
  rw [Array.toList_push, List.mem_append] at he
  rcases he with he | he
  · obtain ⟨a', r', cs', t', k1, k2, k3, k4⟩ := h.2.2.2.2 e he
    refine ⟨a', r', cs', t', k1, k2, ?_, k4⟩
    simp only [List.mem_append, List.mem_cons, List.not_mem_nil, or_false] at k3 ⊢
    rcases k3 with h | h
    · exact .inl (.inl h)
    · exact .inr h
  · rw [List.mem_singleton] at he
    subst he
    exact ⟨a, r, cs, t, rfl, rfl, by simp, hl, ha⟩
theorem Cw.map {w W W' : World} {r0 cur : Rw} {q : Nat} {G P D : List Rw} {LV : Value} {es : Array MapEntry} {ck : Nat} {us : List Va} {x : Va} {rest : List Va} (h : S3 w W r0 q G P D LV es ck) (hc : Cw W G cur us x rest) (g : Fr W W' (fun i => i = q)) : Cw W' G cur us x rest := by
  obtain ⟨cs, hW, _⟩ := hc.whole
  have hW' : W.heap[cur.b]? = some (.cells cs 29 (0, 0)) := hW
  refine hc.fr g (fun e => ?_) (fun i cs hi he => ?_)
  · have e' : cur.b = q := e
    rw [e', h.2.2.1] at hW'
    cases hW'
  · have hi' : i = q := hi
    rw [hi', h.2.2.1] at he
    cases he

/-- All is done: the value. -/
theorem S3.fin {w W : World} {v : Va} {q b : Nat} {G D : List Rw} {LV : Value} {es : Array MapEntry} {ck : Nat} (h : S3 w W ⟨b, 1, [v]⟩ q G [] D LV es ck) (hG : G = D) : ∃ x : Va, W.cell? ⟨b, 0, none⟩ = some (.int .u64 x.n) ∧ W.cell? ⟨b, 1, none⟩ = some (.slice x.B x.bs.length x.d) ∧ W.cell? ⟨b, 2, none⟩ = some (.slice x.A x.ls.length x.c) ∧
    ∃ u : Va, u.val = .agg #[.int .u64 x.n, .slice x.B x.bs.length x.d, .slice x.A x.ls.length x.c] ∧ u.In (put3 W (w.heap.size + 1) (.int .u64 x.n) (.slice x.B x.bs.length x.d) (.slice x.A x.ls.length x.c)) ∧ u.nf = v.nf ∧ LHi (w.heap.size + 2) u := by
  subst hG
  have hok : ∀ r ∈ G, ∀ l ∈ r.ls, (0 ≤ l.n ∧ l.n ≤ 18446744073709551615) ∧ l.bs.length ≤ 140737488355328 ∧ l.ls.length ≤ 2513169434916 := fun r hr l hl => by
    have hi := ((h.1.ok r hr).2.2.2.2 l hl).1
    exact ⟨hi.num, hi.bytes.2.2, hi.list.2.2⟩
  obtain ⟨us, u1, _, u3, u4, _⟩ := rows_done (fun r hr => (h.1.ok r hr).1) h.1.done hok _ _ h.1.r0 (Nat.le_refl _)
  obtain ⟨x, rfl⟩ := List.length_eq_one_iff.1 u1
  obtain ⟨b', o', x', e, hx, _, c0, c1, c2⟩ := u3.at (i := 0) (by simp)
  cases hx
  cases e
  simp only [Nat.zero_mul, Nat.add_zero, Nat.zero_add] at c0 c1 c2
  refine ⟨x, c0, c1, c2, ?_⟩
  have g := fr_put3 W (w.heap.size + 1) (.int .u64 x.n) (.slice x.B x.bs.length x.d) (.slice x.A x.ls.length x.c)
  have hrows : ∀ r ∈ G, Row (put3 W (w.heap.size + 1) (.int .u64 x.n) (.slice x.B x.bs.length x.d) (.slice x.A x.ls.length x.c)) G r r.ls.length := fun r hr => (h.1.done r hr).fr g (fun e => by
    have e' : r.b = w.heap.size + 1 := e
    have := (h.1.ok r hr).1
    omega) (nob_row h.1.res)
  obtain ⟨us, v1, _, v3, v4, v5⟩ := rows_done (fun r hr => (h.1.ok r hr).1) hrows hok _ _ h.1.r0 (Nat.le_refl _)
  obtain ⟨y, rfl⟩ := List.length_eq_one_iff.1 v1
  obtain ⟨b', o', y', e, hy, _, d0, d1, d2⟩ := v3.at (i := 0) (by simp)
  cases hy
  cases e
  simp only [Nat.zero_mul, Nat.add_zero, Nat.zero_add] at d0 d1 d2
  have hne : ¬ b = w.heap.size + 1 := by
    have : w.heap.size + 2 ≤ b := (h.1.ok _ h.1.r0).1
    omega
  have f0 := g.cell c0 hne
  have f1 := g.cell c1 hne
  have f2 := g.cell c2 hne
  rw [d0] at f0
  rw [d1] at f1
  rw [d2] at f2
  refine ⟨y, ?_, (v5 y (by simp)).1, ?_, (v5 y (by simp)).2⟩
  · rw [vval_eq, Option.some.inj f0, Option.some.inj f1, Option.some.inj f2]
  · have := v4
    rw [nfs, nfs, nfs, nfs] at this
    simpa using this

/-- The state that the copy begins with. -/
theorem S3.first (w : World) (v : Va) (hv : v.In w) (hp : Pl w v) (W : World) (hW : W = (((((w.alloc (.cells #[.int .u64 v.n, .slice v.B v.bs.length v.d, .slice v.A v.ls.length v.c] 29)).alloc (.cells #[.int .u64 0, .slice none 0 0, .slice none 0 0] 29)).alloc (.cells #[.int .u64 v.n, .slice v.B v.bs.length v.d, .slice v.A v.ls.length v.c] 29)).alloc (.cells #[.slice (some ⟨w.heap.size + 1 + 1, 0, none⟩) 1 1] 27)).alloc (.map #[] 0))) :
    S3 w W ⟨w.heap.size + 1 + 1, 1, [v]⟩ (w.heap.size + 1 + 1 + 1 + 1) ([⟨w.heap.size + 1 + 1, 1, [v]⟩] ++ []) [⟨w.heap.size + 1 + 1, 1, [v]⟩] [] (.slice (some ⟨w.heap.size + 1 + 1 + 1, 0, none⟩) 1 1) #[] 0 := by
  obtain ⟨g1, k0, k1, ks⟩ := two_new w #[.int .u64 v.n, .slice v.B v.bs.length v.d, .slice v.A v.ls.length v.c] 29 #[.int .u64 0, .slice none 0 0, .slice none 0 0] 29
  obtain ⟨g2, k2, k3, ks2⟩ := two_new ((w.alloc (.cells #[.int .u64 v.n, .slice v.B v.bs.length v.d, .slice v.A v.ls.length v.c] 29)).alloc (.cells #[.int .u64 0, .slice none 0 0, .slice none 0 0] 29)) #[.int .u64 v.n, .slice v.B v.bs.length v.d, .slice v.A v.ls.length v.c] 29 #[.slice (some ⟨w.heap.size + 1 + 1, 0, none⟩) 1 1] 27
  rw [ks] at k2 k3 ks2
  have g3 := grew_alloc (grew_refl ((((w.alloc (.cells #[.int .u64 v.n, .slice v.B v.bs.length v.d, .slice v.A v.ls.length v.c] 29)).alloc (.cells #[.int .u64 0, .slice none 0 0, .slice none 0 0] 29)).alloc (.cells #[.int .u64 v.n, .slice v.B v.bs.length v.d, .slice v.A v.ls.length v.c] 29)).alloc (.cells #[.slice (some ⟨w.heap.size + 1 + 1, 0, none⟩) 1 1] 27)) none) (.map #[] 0)
  have hm : (((((w.alloc (.cells #[.int .u64 v.n, .slice v.B v.bs.length v.d, .slice v.A v.ls.length v.c] 29)).alloc (.cells #[.int .u64 0, .slice none 0 0, .slice none 0 0] 29)).alloc (.cells #[.int .u64 v.n, .slice v.B v.bs.length v.d, .slice v.A v.ls.length v.c] 29)).alloc (.cells #[.slice (some ⟨w.heap.size + 1 + 1, 0, none⟩) 1 1] 27)).alloc (.map #[] 0)).heap[w.heap.size + 1 + 1 + 1 + 1]? = some (.map #[] 0) := by
    have := heap_alloc_new ((((w.alloc (.cells #[.int .u64 v.n, .slice v.B v.bs.length v.d, .slice v.A v.ls.length v.c] 29)).alloc (.cells #[.int .u64 0, .slice none 0 0, .slice none 0 0] 29)).alloc (.cells #[.int .u64 v.n, .slice v.B v.bs.length v.d, .slice v.A v.ls.length v.c] 29)).alloc (.cells #[.slice (some ⟨w.heap.size + 1 + 1, 0, none⟩) 1 1] 27)) (.map #[] 0)
    rw [ks2] at this
    exact this
  rw [← hW] at g3 hm
  have hk2 := k2.grew g3 (by simp)
  have hk3 := k3.grew g3 (by simp)
  have hk1 := (k1.grew g2 (by simp)).grew g3 (by simp)
  have hG := grew_trans (grew_trans g1 g2) g3
  have hlt := hk2.lt
  refine ⟨⟨hG, fun r hr => ?_, fun r hr => by simp at hr, by simp, fun r hr => ?_, hk1, by simp⟩, ⟨⟨rfl, .inr ⟨w.heap.size + 1 + 1 + 1, 1, _, rfl, Nat.zero_le _, hk3, Nat.le_refl _, by unfold maxLen; omega, rfl, rfl⟩⟩, fun g hg => by simp [Value.ownBlock] at hg; omega⟩, hm, by omega, fun e he => by simp at he⟩
  · rw [List.mem_singleton] at hr
    subst hr
    exact ⟨[], rfl, Nat.zero_le _, ⟨rfl, .inr ⟨w.heap.size + 1 + 1, 1, _, rfl, Nat.zero_le _, hk2, Nat.le_refl _, by unfold maxLen; omega, rfl, rfl⟩⟩, fun j u l hu => by simp at hu⟩
  · simp only [List.append_nil, List.mem_singleton] at hr
    subst hr
    exact ⟨by show w.heap.size + 2 ≤ w.heap.size + 1 + 1; omega, hlt, by simp, by simp, fun l hl => by rw [List.mem_singleton] at hl; subst hl; exact ⟨hv, hp⟩⟩

set_option maxRecDepth 100000 in
set_option maxHeartbeats 4000000 in
theorem apart_any (w : World) (v : Va) (hv : v.In w) (hp : Pl w v) (hc : v.cnt ≤ 2000) :
    Calls Try.prog 26 #[v.val] w fun e w' => ∃ u : Va, e = .returned u.val ∧ u.In w' ∧ u.nf = v.nf ∧ LHi (w.heap.size + 2) u ∧ Grew w w' none := by
  have HS := Lib.hid (S3.first w v hv hp)
  have hmm := @run_makeMap Try.prog
  clear hv hp
  rw [vval_eq]
  go_enter Try.func26, Try.ntmps26
  go_upto_region 4 with (fail)
  have HS' := Lib.hid (HS.out _ rfl)
  clear HS hmm
  generalize ((((w.alloc (.cells #[.int .u64 v.n, .slice v.B v.bs.length v.d, .slice v.A v.ls.length v.c] 29)).alloc (.cells #[.int .u64 0, .slice none 0 0, .slice none 0 0] 29)).alloc (.cells #[.int .u64 v.n, .slice v.B v.bs.length v.d, .slice v.A v.ls.length v.c] 29)).alloc (.cells #[.slice (some ⟨w.heap.size + 1 + 1, 0, none⟩) 1 1] 27)).alloc (.map #[] 0) = W0 at *
  generalize w.heap.size + 1 + 1 + 1 + 1 = qm at *
  generalize hr0 : w.heap.size + 1 + 1 + 1 = ql at *
  clear hr0
  generalize hb0 : w.heap.size + 1 + 1 = qo at *
  clear hb0
  go_loopg [4] (v.cnt) (fun gk p wr => ∃ (P D : List Rw) (LV : Value) (es : Array MapEntry) (ck : Nat), p = LV ∧ gk ≤ 2000 ∧ Hid (S3 w wr ⟨qo, 1, [v]⟩ qm (P ++ D) P D LV es ck ∧ sumP P ≤ gk))
  case atStart => exact ⟨[⟨qo, 1, [v]⟩], [], _, #[], 0, rfl, hc, Lib.hid ⟨HS'.out, by rw [sumP_one]; show cnts [v] ≤ v.cnt; simp [cnts]⟩⟩
  case round =>
    obtain ⟨P, D, LV, es, ck, rfl, hg, R⟩ := hrel
    rcases List.eq_nil_or_concat P with rfl | ⟨P', cur, rfl⟩
    · have hL := R.out.1.2.1.1
      obtain ⟨A, c, rfl, _⟩ := own_form hL
      obtain ⟨x, e0, e1, e2, u, eu, hu, hnf, hhi⟩ := R.out.1.fin rfl
      obtain ⟨r0, r1, r2⟩ := R.out.1.1.res.three
      have fz := R.out.1.1.res.frozen
      have HR := Lib.hid (show Whole wr (w.heap.size + 1) _ _ ∧ Grew w wr none from ⟨R.out.1.1.res, R.out.1.1.g⟩)
      have HU := Lib.hid (show u.val = .agg #[.int .u64 x.n, .slice x.B x.bs.length x.d, .slice x.A x.ls.length x.c] ∧ u.In (put3 wr (w.heap.size + 1) (.int .u64 x.n) (.slice x.B x.bs.length x.d) (.slice x.A x.ls.length x.c)) ∧ u.nf = v.nf ∧ LHi (w.heap.size + 2) u from ⟨eu, hu, hnf, hhi⟩)
      clear hL R eu hu hnf hhi
      simp only [List.length_nil] at *
      go_wp2_with fail
      refine bodyPost_ret (results_cell_row rfl _ _ (w.heap.size + 1) _ _ _ _ rfl (HR.out.1.put3 (.int .u64 x.n) (.slice x.B x.bs.length x.d) (.slice x.A x.ls.length x.c)) Try.underlying29 rfl (by kernel_rfl)) rfl ?_
      exact ⟨u, by rw [HU.out.1], HU.out.2.1, HU.out.2.2.1, HU.out.2.2.2, grew_put3 HR.out.2 (by omega) _ _ _⟩
    · rw [List.concat_eq_append] at R
      have hL := R.out.1.2.1.1
      have hPl : (P' ++ [cur]).length = P'.length + 1 := by simp
      rw [hPl] at hL
      rcases hL.2 with ⟨_, e⟩ | ⟨g, cap, lcs, rfl, _, hh, hnc, hcm, hsz, ht⟩
      · omega
      have hcell : wr.cell? ⟨g, P'.length, none⟩ = some (.slice (some ⟨cur.b, 0, none⟩) cur.ls.length cur.c) := by
        have hW : Whole wr g lcs 27 := hh
        have := map_val_at P' cur
        rw [← ht, List.getElem?_take_of_lt (by omega)] at this
        rw [hW.cell, ← Array.getElem?_toList]
        exact this
      obtain ⟨hS, hR0⟩ := R.out.1.pop
      have hsum := R.out.2
      rw [sumP_append, sumP_one] at hsum
      have hcl : cur.ls.length ≤ 2513169434916 := (hS.1.ok cur (by simp)).2.2.2.1
      have hc1 : 1 ≤ cur.ls.length := List.length_pos_iff.2 (hS.1.ok cur (by simp)).2.2.1
      have hpl : P'.length ≤ 2000 := by
        have := sumP_len (P := P') (fun r hr => (hS.1.ok r (by simp [hr])).2.2.1)
        omega
      have hnc' : P'.length + 1 ≤ cap := hnc
      have HI := Lib.hid (show S3 w wr ⟨qo, 1, [v]⟩ qm (P' ++ cur :: D) P' D (.slice (some ⟨g, 0, none⟩) P'.length cap) es ck ∧ Row wr (P' ++ cur :: D) cur 0 ∧ sumP P' + cnts (cur.ls.drop 0) + 0 ≤ gk from ⟨hS, hR0, by rw [List.drop_zero]; omega⟩)
      clear hL R hh hcm hsz ht hS hR0 hPl hsum hnc
      generalize hnp : P'.length = np at *
      have HNP := Lib.hid hnp
      clear hnp
      go_upto_region 8 with (fail)
      obtain ⟨go, rfl⟩ : ∃ g, g = gk := ⟨gk, rfl⟩
      go_loopg [32, 4] (cur.ls.length) (fun gi i p wi => ∃ (k : Nat) (Pn : List Rw) (LV : Value) (es : Array MapEntry) (ck : Nat), i = .int .i64 k ∧ LV = p ∧ k ≤ cur.ls.length ∧ gi = cur.ls.length - k ∧ Hid (S3 w wi ⟨qo, 1, [v]⟩ qm (Pn ++ cur :: D) Pn D LV es ck ∧ Row wi (Pn ++ cur :: D) cur k ∧ sumP Pn + cnts (cur.ls.drop k) + k ≤ go))
      case atStart => exact ⟨0, P', _, es, ck, rfl, rfl, Nat.zero_le _, rfl, HI⟩
      case round =>
        clear HI hcell
        obtain ⟨k, Pn, LV, es, ck, rfl, rfl, hk, hgi, R⟩ := hrel
        have HGI := Lib.hid hgi
        clear hgi
        by_cases hlt : k < cur.ls.length
        · obtain ⟨l, hl⟩ : ∃ l, cur.ls[k]? = some l := ⟨_, List.getElem?_eq_getElem hlt⟩
          have hlm : l ∈ cur.ls := List.mem_of_getElem? hl
          obtain ⟨us, husl, hC⟩ := R.out.2.1.cur hl
          obtain ⟨hli, hlp⟩ := (R.out.1.1.ok cur (by simp)).2.2.2.2 l hlm
          obtain ⟨cs, hW, hcs⟩ := hC.whole
          rw [husl] at hcs
          have c1 := (hW.cell (k * 3 + 1)).trans (hcs 1 _ rfl)
          have hgw := R.out.1.1.g
          have HCL := Lib.hid (fun X (gx : Grew w X none) => bclone_own X l.B l.d l.bs ((hli.grew gx).bytes.1) (hli.bytes.2.2))
          have HL := Lib.hid (show cur.ls[k]? = some l ∧ us.length = k ∧ l.In w ∧ Pl w l from ⟨hl, husl, hli, hlp⟩)
          have HC := Lib.hid hC
          have HW := Lib.hid (show Whole wr cur.b cs _ ∧ _ from ⟨hW, hcs⟩)
          have HG := Lib.hid hgw
          clear hl hlm husl hC hli hlp hW hcs hgw
          go_wp2_with fail
          refine (HCL.out wr HG.out).mono ?_
          rintro e X1 ⟨B', d', rfl, ob, g1⟩
          have w1 := HW.out.1.grew g1 (by simp)
          have f1 := w1.frozen
          have c1' := (w1.cell (k * 3 + 1)).trans (HW.out.2 1 _ rfl)
          have OB := Lib.hid ob
          have G1 := Lib.hid g1
          have W1 := Lib.hid w1
          clear ob g1 w1 c1 HCL
          go_upto_region 11 with (fail)
          have hC1 := HC.out.grew G1.out
          have hS1 := R.out.1.grew G1.out
          have hus := HL.out.2.1
          have hC2 := hC1.set (x' := .mk l.n B' d' l.bs l.A l.c l.ls) 1 (.slice B' l.bs.length d') rfl (by omega)
          rw [hus] at hC2
          have hS2 := hS1.set hC1 (k * 3 + 1) (.slice B' l.bs.length d')
          have hset : Fr X1 (X1.setCell ⟨cur.b, k * 3 + 1, none⟩ (.slice B' l.bs.length d')) (fun i => i = cur.b) := Fr.set (F := fun i => i = cur.b) (Fr.refl _ _) (.inl rfl) _ _ _
          have ob2 := own_nob OB.out hset (nob_row W1.out)
          have hW2 := W1.out.set (k * 3 + 1) (.slice B' l.bs.length d')
          clear f1 c1'
          generalize X1.setCell ⟨cur.b, k * 3 + 1, none⟩ (.slice B' l.bs.length d') = X2 at *
          obtain ⟨cs2, hW2', hcs2⟩ := hC2.whole
          rw [hus] at hcs2
          have hc2 := (hW2'.cell (k * 3 + 2)).trans (hcs2 2 _ rfl)
          change X2.cell? ⟨cur.b, k * 3 + 2, none⟩ = some (.slice l.A l.ls.length l.c) at hc2
          have hf2 := hW2'.frozen
          have HS2 := Lib.hid hS2
          have HC2 := Lib.hid hC2
          have OB2 := Lib.hid ob2
          have HSM := Lib.hid R.out.2.2
          have HW2 := Lib.hid (show Whole X2 cur.b cs2 _ from hW2')
          clear hC1 hS1 hus hC2 hS2 hset ob2 hW2 hW2' hcs2 R HC HW HG OB G1 W1
          by_cases hls : l.ls = []
          · have hl0 : l.ls.length = 0 := by rw [hls]; rfl
            have HR3 := Lib.hid (show S3 w (X2.setCell ⟨cur.b, k * 3 + 2, none⟩ (.slice none 0 0)) ⟨qo, 1, [v]⟩ qm (Pn ++ cur :: D) Pn D LV es ck ∧ Row (X2.setCell ⟨cur.b, k * 3 + 2, none⟩ (.slice none 0 0)) (Pn ++ cur :: D) cur (k + 1) ∧ sumP Pn + cnts (cur.ls.drop (k + 1)) + (k + 1) ≤ go from by
              have hus := HL.out.2.1
              have hC3 := HC2.out.set (x' := .mk l.n B' d' l.bs none 0 l.ls) 2 (.slice none 0 0) (by show [Value.int .u64 l.n, .slice B' l.bs.length d', .slice none l.ls.length 0] = [Value.int .u64 l.n, .slice B' l.bs.length d', .slice none 0 0]; rw [hl0]) (by omega)
              rw [hus] at hC3
              refine ⟨HS2.out.set HC2.out _ _, hC3.step hus HL.out.1 ⟨rfl, rfl, rfl, own_nob OB2.out (Fr.set (F := fun i => i = cur.b) (Fr.refl _ _) (.inl rfl) _ _ _) (nob_row HW2.out), fun _ => ⟨rfl, rfl⟩, fun h => absurd hls h⟩, ?_⟩
              have h1 := HSM.out
              rw [dropL HL.out.1, cnts] at h1
              have := cnt_pos l
              omega)
            clear HS2 HC2 OB2 HW2 HSM
            go_wp2_with fail
            go_roundg (cur.ls.length - (k + 1))
            case measure => have := HGI.out; omega
            case rel => exact ⟨k + 1, Pn, LV, es, ck, by go_num, rfl, by omega, rfl, HR3⟩
          · have hl0 : 0 < l.ls.length := List.length_pos_iff.2 hls
            obtain ⟨lb, lo, hcs, ht, hA, hheap⟩ := HL.out.2.2.2.at hls
            rw [hA] at hc2
            have HHP := Lib.hid (show l.A = some ⟨lb, lo, none⟩ ∧ w.heap[lb]? = some (.cells hcs ht (0, 0)) from ⟨hA, hheap⟩)
            have hl1 : ((l.ls.length : Int) == 0) = false := by simp; omega
            clear hA hheap
            go_upto_region 13 with (fail)
            have GS := Lib.hid (grew_drew (grew_refl X2 none))
            refine act_letterC (fun A1 hA1 => ?_)
            have d6 : A1.eval (.tmp 6) = .slice (some ⟨cur.b, 0, none⟩) cur.ls.length cur.c := by rw [← hA1]; rfl
            have d7 : A1.eval (.tmp 7) = .int .i64 (k : Int) := by rw [← hA1]; rfl
            have szA1 : A1.tmps.size = 99 := by rw [← hA1]; rfl
            have HA1 := Lib.hid hA1
            clear hA1
            refine wp_region_held (S := fun w' => Grew X2 w' none) (by kernel_rfl) ?_
            change wpAnyH _ _ _ _ _ _ _ _ (World.drew X2)
            refine wpAnyH_take (i := 0) (v := .slice (some ⟨cur.b, 0, none⟩) cur.ls.length cur.c) rfl (by kernel_rfl) (by kernel_rfl) (by kernel_rfl) (fun _ _ _ h => h) (.inl ⟨rfl, fun w g => run_moveV rfl d6 w⟩) GS.out ?_
            refine act_letter (fun A2 hA2 => ?_)
            replace d6 : A2.eval (.tmp 6) = .slice (some ⟨cur.b, 0, none⟩) cur.ls.length cur.c := by rw [← hA2]; exact (ev_ne A1 (m := 56) (n := 6) (.slice (some ⟨cur.b, 0, none⟩) cur.ls.length cur.c) (by decide)).trans d6
            replace d7 : A2.eval (.tmp 7) = .int .i64 (k : Int) := by rw [← hA2]; exact (ev_ne A1 (m := 56) (n := 7) (.slice (some ⟨cur.b, 0, none⟩) cur.ls.length cur.c) (by decide)).trans d7
            have e56 : A2.eval (.tmp 56) = .slice (some ⟨cur.b, 0, none⟩) cur.ls.length cur.c := by rw [← hA2]; exact ev_self A1 56 (.slice (some ⟨cur.b, 0, none⟩) cur.ls.length cur.c) (by omega)
            have szA2 : A2.tmps.size = 99 := by rw [← hA2]; exact (sz_put A1 56 (.slice (some ⟨cur.b, 0, none⟩) cur.ls.length cur.c)).trans szA1
            have HA2 := Lib.hid (show A1.put (some 56) (.slice (some ⟨cur.b, 0, none⟩) cur.ls.length cur.c) = A2 from hA2)
            clear hA2 szA1
            have d56 := e56
            clear e56
            refine wpAnyH_take (i := 1) (v := .int .i64 (k : Int)) rfl (by kernel_rfl) (by kernel_rfl) (by kernel_rfl) (fun _ _ _ h => h) (.inl ⟨rfl, fun w g => run_moveV rfl d7 w⟩) GS.out ?_
            refine act_letter (fun A3 hA3 => ?_)
            replace d6 : A3.eval (.tmp 6) = .slice (some ⟨cur.b, 0, none⟩) cur.ls.length cur.c := by rw [← hA3]; exact (ev_ne A2 (m := 57) (n := 6) (.int .i64 (k : Int)) (by decide)).trans d6
            replace d7 : A3.eval (.tmp 7) = .int .i64 (k : Int) := by rw [← hA3]; exact (ev_ne A2 (m := 57) (n := 7) (.int .i64 (k : Int)) (by decide)).trans d7
            replace d56 : A3.eval (.tmp 56) = .slice (some ⟨cur.b, 0, none⟩) cur.ls.length cur.c := by rw [← hA3]; exact (ev_ne A2 (m := 57) (n := 56) (.int .i64 (k : Int)) (by decide)).trans d56
            have e57 : A3.eval (.tmp 57) = .int .i64 (k : Int) := by rw [← hA3]; exact ev_self A2 57 (.int .i64 (k : Int)) (by omega)
            have szA3 : A3.tmps.size = 99 := by rw [← hA3]; exact (sz_put A2 57 (.int .i64 (k : Int))).trans szA2
            have HA3 := Lib.hid (show A2.put (some 57) (.int .i64 (k : Int)) = A3 from hA3)
            clear hA3 szA2
            have d57 := e57
            clear e57
            refine wpAnyH_take (i := 2) (v := .pointer (some ⟨cur.b, k * 3, none⟩)) rfl (by kernel_rfl) (by kernel_rfl) (by kernel_rfl) (fun _ _ _ h => h) (.inl ⟨rfl, fun w g => run_idxL rfl d56 d57 hlt w⟩) GS.out ?_
            refine act_letter (fun A4 hA4 => ?_)
            replace d6 : A4.eval (.tmp 6) = .slice (some ⟨cur.b, 0, none⟩) cur.ls.length cur.c := by rw [← hA4]; exact (ev_ne A3 (m := 58) (n := 6) (.pointer (some ⟨cur.b, k * 3, none⟩)) (by decide)).trans d6
            replace d7 : A4.eval (.tmp 7) = .int .i64 (k : Int) := by rw [← hA4]; exact (ev_ne A3 (m := 58) (n := 7) (.pointer (some ⟨cur.b, k * 3, none⟩)) (by decide)).trans d7
            have e58 : A4.eval (.tmp 58) = .pointer (some ⟨cur.b, k * 3, none⟩) := by rw [← hA4]; exact ev_self A3 58 (.pointer (some ⟨cur.b, k * 3, none⟩)) (by omega)
            have szA4 : A4.tmps.size = 99 := by rw [← hA4]; exact (sz_put A3 58 (.pointer (some ⟨cur.b, k * 3, none⟩))).trans szA3
            have HA4 := Lib.hid (show A3.put (some 58) (.pointer (some ⟨cur.b, k * 3, none⟩)) = A4 from hA4)
            clear hA4 szA3 d56 d57
            have d58 := e58
            clear e58
            refine wpAnyH_take (i := 3) (v := .pointer (some ⟨cur.b, k * 3 + 2, none⟩)) rfl (by kernel_rfl) (by kernel_rfl) (by kernel_rfl) (fun _ _ _ h => h) (.inl ⟨rfl, fun w g => run_fld2 rfl d58 w⟩) GS.out ?_
            refine act_letter (fun A5 hA5 => ?_)
            replace d6 : A5.eval (.tmp 6) = .slice (some ⟨cur.b, 0, none⟩) cur.ls.length cur.c := by rw [← hA5]; exact (ev_ne A4 (m := 59) (n := 6) (.pointer (some ⟨cur.b, k * 3 + 2, none⟩)) (by decide)).trans d6
            replace d7 : A5.eval (.tmp 7) = .int .i64 (k : Int) := by rw [← hA5]; exact (ev_ne A4 (m := 59) (n := 7) (.pointer (some ⟨cur.b, k * 3 + 2, none⟩)) (by decide)).trans d7
            have e59 : A5.eval (.tmp 59) = .pointer (some ⟨cur.b, k * 3 + 2, none⟩) := by rw [← hA5]; exact ev_self A4 59 (.pointer (some ⟨cur.b, k * 3 + 2, none⟩)) (by omega)
            have szA5 : A5.tmps.size = 99 := by rw [← hA5]; exact (sz_put A4 59 (.pointer (some ⟨cur.b, k * 3 + 2, none⟩))).trans szA4
            have HA5 := Lib.hid (show A4.put (some 59) (.pointer (some ⟨cur.b, k * 3 + 2, none⟩)) = A5 from hA5)
            clear hA5 szA4 d58
            have d59 := e59
            clear e59
            refine wpAnyH_take (i := 4) (v := .slice (some ⟨lb, lo, none⟩) l.ls.length l.c) rfl (by kernel_rfl) (by kernel_rfl) (by kernel_rfl) (fun _ _ _ h => h) (.inl ⟨rfl, fun w g => run_ldL rfl d59 (g.cell hc2 (by simp))⟩) GS.out ?_
            refine act_letter (fun A6 hA6 => ?_)
            replace d6 : A6.eval (.tmp 6) = .slice (some ⟨cur.b, 0, none⟩) cur.ls.length cur.c := by rw [← hA6]; exact (ev_ne A5 (m := 60) (n := 6) (.slice (some ⟨lb, lo, none⟩) l.ls.length l.c) (by decide)).trans d6
            replace d7 : A6.eval (.tmp 7) = .int .i64 (k : Int) := by rw [← hA6]; exact (ev_ne A5 (m := 60) (n := 7) (.slice (some ⟨lb, lo, none⟩) l.ls.length l.c) (by decide)).trans d7
            have e60 : A6.eval (.tmp 60) = .slice (some ⟨lb, lo, none⟩) l.ls.length l.c := by rw [← hA6]; exact ev_self A5 60 (.slice (some ⟨lb, lo, none⟩) l.ls.length l.c) (by omega)
            have szA6 : A6.tmps.size = 99 := by rw [← hA6]; exact (sz_put A5 60 (.slice (some ⟨lb, lo, none⟩) l.ls.length l.c)).trans szA5
            have HA6 := Lib.hid (show A5.put (some 60) (.slice (some ⟨lb, lo, none⟩) l.ls.length l.c) = A6 from hA6)
            clear hA6 szA5 d59
            have d60 := e60
            clear e60
            refine wpAnyH_take (i := 5) (v := .pointer (some ⟨lb, lo, none⟩)) rfl (by kernel_rfl) (by kernel_rfl) (by kernel_rfl) (fun _ _ _ h => h) (.inl ⟨rfl, fun w g => run_idx0 rfl d60 rfl hl0 w⟩) GS.out ?_
            refine act_letter (fun A7 hA7 => ?_)
            replace d6 : A7.eval (.tmp 6) = .slice (some ⟨cur.b, 0, none⟩) cur.ls.length cur.c := by rw [← hA7]; exact (ev_ne A6 (m := 61) (n := 6) (.pointer (some ⟨lb, lo, none⟩)) (by decide)).trans d6
            replace d7 : A7.eval (.tmp 7) = .int .i64 (k : Int) := by rw [← hA7]; exact (ev_ne A6 (m := 61) (n := 7) (.pointer (some ⟨lb, lo, none⟩)) (by decide)).trans d7
            have e61 : A7.eval (.tmp 61) = .pointer (some ⟨lb, lo, none⟩) := by rw [← hA7]; exact ev_self A6 61 (.pointer (some ⟨lb, lo, none⟩)) (by omega)
            have szA7 : A7.tmps.size = 99 := by rw [← hA7]; exact (sz_put A6 61 (.pointer (some ⟨lb, lo, none⟩))).trans szA6
            have HA7 := Lib.hid (show A6.put (some 61) (.pointer (some ⟨lb, lo, none⟩)) = A7 from hA7)
            clear hA7 szA6 d60
            have d61 := e61
            clear e61
            refine wpAnyH_take (i := 6) (v := .slice (some ⟨cur.b, 0, none⟩) cur.ls.length cur.c) rfl (by kernel_rfl) (by kernel_rfl) (by kernel_rfl) (fun _ _ _ h => h) (.inl ⟨rfl, fun w g => run_moveV rfl d6 w⟩) GS.out ?_
            refine act_letter (fun A8 hA8 => ?_)
            replace d6 : A8.eval (.tmp 6) = .slice (some ⟨cur.b, 0, none⟩) cur.ls.length cur.c := by rw [← hA8]; exact (ev_ne A7 (m := 62) (n := 6) (.slice (some ⟨cur.b, 0, none⟩) cur.ls.length cur.c) (by decide)).trans d6
            replace d7 : A8.eval (.tmp 7) = .int .i64 (k : Int) := by rw [← hA8]; exact (ev_ne A7 (m := 62) (n := 7) (.slice (some ⟨cur.b, 0, none⟩) cur.ls.length cur.c) (by decide)).trans d7
            replace d61 : A8.eval (.tmp 61) = .pointer (some ⟨lb, lo, none⟩) := by rw [← hA8]; exact (ev_ne A7 (m := 62) (n := 61) (.slice (some ⟨cur.b, 0, none⟩) cur.ls.length cur.c) (by decide)).trans d61
            have e62 : A8.eval (.tmp 62) = .slice (some ⟨cur.b, 0, none⟩) cur.ls.length cur.c := by rw [← hA8]; exact ev_self A7 62 (.slice (some ⟨cur.b, 0, none⟩) cur.ls.length cur.c) (by omega)
            have szA8 : A8.tmps.size = 99 := by rw [← hA8]; exact (sz_put A7 62 (.slice (some ⟨cur.b, 0, none⟩) cur.ls.length cur.c)).trans szA7
            have HA8 := Lib.hid (show A7.put (some 62) (.slice (some ⟨cur.b, 0, none⟩) cur.ls.length cur.c) = A8 from hA8)
            clear hA8 szA7
            have d62 := e62
            clear e62
            refine wpAnyH_take (i := 7) (v := .int .i64 (k : Int)) rfl (by kernel_rfl) (by kernel_rfl) (by kernel_rfl) (fun _ _ _ h => h) (.inl ⟨rfl, fun w g => run_moveV rfl d7 w⟩) GS.out ?_
            refine act_letter (fun A9 hA9 => ?_)
            replace d6 : A9.eval (.tmp 6) = .slice (some ⟨cur.b, 0, none⟩) cur.ls.length cur.c := by rw [← hA9]; exact (ev_ne A8 (m := 63) (n := 6) (.int .i64 (k : Int)) (by decide)).trans d6
            replace d7 : A9.eval (.tmp 7) = .int .i64 (k : Int) := by rw [← hA9]; exact (ev_ne A8 (m := 63) (n := 7) (.int .i64 (k : Int)) (by decide)).trans d7
            replace d61 : A9.eval (.tmp 61) = .pointer (some ⟨lb, lo, none⟩) := by rw [← hA9]; exact (ev_ne A8 (m := 63) (n := 61) (.int .i64 (k : Int)) (by decide)).trans d61
            replace d62 : A9.eval (.tmp 62) = .slice (some ⟨cur.b, 0, none⟩) cur.ls.length cur.c := by rw [← hA9]; exact (ev_ne A8 (m := 63) (n := 62) (.int .i64 (k : Int)) (by decide)).trans d62
            have e63 : A9.eval (.tmp 63) = .int .i64 (k : Int) := by rw [← hA9]; exact ev_self A8 63 (.int .i64 (k : Int)) (by omega)
            have szA9 : A9.tmps.size = 99 := by rw [← hA9]; exact (sz_put A8 63 (.int .i64 (k : Int))).trans szA8
            have HA9 := Lib.hid (show A8.put (some 63) (.int .i64 (k : Int)) = A9 from hA9)
            clear hA9 szA8
            have d63 := e63
            clear e63
            refine wpAnyH_take (i := 8) (v := .pointer (some ⟨cur.b, k * 3, none⟩)) rfl (by kernel_rfl) (by kernel_rfl) (by kernel_rfl) (fun _ _ _ h => h) (.inl ⟨rfl, fun w g => run_idxL rfl d62 d63 hlt w⟩) GS.out ?_
            refine act_letter (fun A10 hA10 => ?_)
            replace d6 : A10.eval (.tmp 6) = .slice (some ⟨cur.b, 0, none⟩) cur.ls.length cur.c := by rw [← hA10]; exact (ev_ne A9 (m := 64) (n := 6) (.pointer (some ⟨cur.b, k * 3, none⟩)) (by decide)).trans d6
            replace d7 : A10.eval (.tmp 7) = .int .i64 (k : Int) := by rw [← hA10]; exact (ev_ne A9 (m := 64) (n := 7) (.pointer (some ⟨cur.b, k * 3, none⟩)) (by decide)).trans d7
            replace d61 : A10.eval (.tmp 61) = .pointer (some ⟨lb, lo, none⟩) := by rw [← hA10]; exact (ev_ne A9 (m := 64) (n := 61) (.pointer (some ⟨cur.b, k * 3, none⟩)) (by decide)).trans d61
            have e64 : A10.eval (.tmp 64) = .pointer (some ⟨cur.b, k * 3, none⟩) := by rw [← hA10]; exact ev_self A9 64 (.pointer (some ⟨cur.b, k * 3, none⟩)) (by omega)
            have szA10 : A10.tmps.size = 99 := by rw [← hA10]; exact (sz_put A9 64 (.pointer (some ⟨cur.b, k * 3, none⟩))).trans szA9
            have HA10 := Lib.hid (show A9.put (some 64) (.pointer (some ⟨cur.b, k * 3, none⟩)) = A10 from hA10)
            clear hA10 szA9 d62 d63
            have d64 := e64
            clear e64
            refine wpAnyH_take (i := 9) (v := .pointer (some ⟨cur.b, k * 3 + 2, none⟩)) rfl (by kernel_rfl) (by kernel_rfl) (by kernel_rfl) (fun _ _ _ h => h) (.inl ⟨rfl, fun w g => run_fld2 rfl d64 w⟩) GS.out ?_
            refine act_letter (fun A11 hA11 => ?_)
            replace d6 : A11.eval (.tmp 6) = .slice (some ⟨cur.b, 0, none⟩) cur.ls.length cur.c := by rw [← hA11]; exact (ev_ne A10 (m := 65) (n := 6) (.pointer (some ⟨cur.b, k * 3 + 2, none⟩)) (by decide)).trans d6
            replace d7 : A11.eval (.tmp 7) = .int .i64 (k : Int) := by rw [← hA11]; exact (ev_ne A10 (m := 65) (n := 7) (.pointer (some ⟨cur.b, k * 3 + 2, none⟩)) (by decide)).trans d7
            replace d61 : A11.eval (.tmp 61) = .pointer (some ⟨lb, lo, none⟩) := by rw [← hA11]; exact (ev_ne A10 (m := 65) (n := 61) (.pointer (some ⟨cur.b, k * 3 + 2, none⟩)) (by decide)).trans d61
            have e65 : A11.eval (.tmp 65) = .pointer (some ⟨cur.b, k * 3 + 2, none⟩) := by rw [← hA11]; exact ev_self A10 65 (.pointer (some ⟨cur.b, k * 3 + 2, none⟩)) (by omega)
            have szA11 : A11.tmps.size = 99 := by rw [← hA11]; exact (sz_put A10 65 (.pointer (some ⟨cur.b, k * 3 + 2, none⟩))).trans szA10
            have HA11 := Lib.hid (show A10.put (some 65) (.pointer (some ⟨cur.b, k * 3 + 2, none⟩)) = A11 from hA11)
            clear hA11 szA10 d64
            have d65 := e65
            clear e65
            refine wpAnyH_take (i := 10) (v := .slice (some ⟨lb, lo, none⟩) l.ls.length l.c) rfl (by kernel_rfl) (by kernel_rfl) (by kernel_rfl) (fun _ _ _ h => h) (.inl ⟨rfl, fun w g => run_ldL rfl d65 (g.cell hc2 (by simp))⟩) GS.out ?_
            refine act_letter (fun A12 hA12 => ?_)
            replace d6 : A12.eval (.tmp 6) = .slice (some ⟨cur.b, 0, none⟩) cur.ls.length cur.c := by rw [← hA12]; exact (ev_ne A11 (m := 66) (n := 6) (.slice (some ⟨lb, lo, none⟩) l.ls.length l.c) (by decide)).trans d6
            replace d7 : A12.eval (.tmp 7) = .int .i64 (k : Int) := by rw [← hA12]; exact (ev_ne A11 (m := 66) (n := 7) (.slice (some ⟨lb, lo, none⟩) l.ls.length l.c) (by decide)).trans d7
            replace d61 : A12.eval (.tmp 61) = .pointer (some ⟨lb, lo, none⟩) := by rw [← hA12]; exact (ev_ne A11 (m := 66) (n := 61) (.slice (some ⟨lb, lo, none⟩) l.ls.length l.c) (by decide)).trans d61
            have e66 : A12.eval (.tmp 66) = .slice (some ⟨lb, lo, none⟩) l.ls.length l.c := by rw [← hA12]; exact ev_self A11 66 (.slice (some ⟨lb, lo, none⟩) l.ls.length l.c) (by omega)
            have szA12 : A12.tmps.size = 99 := by rw [← hA12]; exact (sz_put A11 66 (.slice (some ⟨lb, lo, none⟩) l.ls.length l.c)).trans szA11
            have HA12 := Lib.hid (show A11.put (some 66) (.slice (some ⟨lb, lo, none⟩) l.ls.length l.c) = A12 from hA12)
            clear hA12 szA11 d65
            have d66 := e66
            clear e66
            refine wpAnyH_take (i := 11) (v := .int .i64 (l.ls.length : Int)) rfl (by kernel_rfl) (by kernel_rfl) (by kernel_rfl) (fun _ _ _ h => h) (.inl ⟨rfl, fun w g => run_lenL rfl d66 w⟩) GS.out ?_
            refine act_letter (fun A13 hA13 => ?_)
            replace d6 : A13.eval (.tmp 6) = .slice (some ⟨cur.b, 0, none⟩) cur.ls.length cur.c := by rw [← hA13]; exact (ev_ne A12 (m := 67) (n := 6) (.int .i64 (l.ls.length : Int)) (by decide)).trans d6
            replace d7 : A13.eval (.tmp 7) = .int .i64 (k : Int) := by rw [← hA13]; exact (ev_ne A12 (m := 67) (n := 7) (.int .i64 (l.ls.length : Int)) (by decide)).trans d7
            replace d61 : A13.eval (.tmp 61) = .pointer (some ⟨lb, lo, none⟩) := by rw [← hA13]; exact (ev_ne A12 (m := 67) (n := 61) (.int .i64 (l.ls.length : Int)) (by decide)).trans d61
            have e67 : A13.eval (.tmp 67) = .int .i64 (l.ls.length : Int) := by rw [← hA13]; exact ev_self A12 67 (.int .i64 (l.ls.length : Int)) (by omega)
            have szA13 : A13.tmps.size = 99 := by rw [← hA13]; exact (sz_put A12 67 (.int .i64 (l.ls.length : Int))).trans szA12
            have HA13 := Lib.hid (show A12.put (some 67) (.int .i64 (l.ls.length : Int)) = A13 from hA13)
            clear hA13 szA12 d66
            have d67 := e67
            clear e67
            refine wpAnyH_take (i := 12) (v := mkey ⟨lb, lo, none⟩ l.ls.length) rfl (by kernel_rfl) (by kernel_rfl) (by kernel_rfl) (fun _ _ _ h => h) (.inl ⟨rfl, fun w g => run_bkey rfl d61 d67 w⟩) GS.out ?_
            refine act_letter (fun A14 hA14 => ?_)
            replace d6 : A14.eval (.tmp 6) = .slice (some ⟨cur.b, 0, none⟩) cur.ls.length cur.c := by rw [← hA14]; exact (ev_ne A13 (m := 68) (n := 6) (mkey ⟨lb, lo, none⟩ l.ls.length) (by decide)).trans d6
            replace d7 : A14.eval (.tmp 7) = .int .i64 (k : Int) := by rw [← hA14]; exact (ev_ne A13 (m := 68) (n := 7) (mkey ⟨lb, lo, none⟩ l.ls.length) (by decide)).trans d7
            have e68 : A14.eval (.tmp 68) = mkey ⟨lb, lo, none⟩ l.ls.length := by rw [← hA14]; exact ev_self A13 68 (mkey ⟨lb, lo, none⟩ l.ls.length) (by omega)
            have szA14 : A14.tmps.size = 99 := by rw [← hA14]; exact (sz_put A13 68 (mkey ⟨lb, lo, none⟩ l.ls.length)).trans szA13
            have HA14 := Lib.hid (show A13.put (some 68) (mkey ⟨lb, lo, none⟩ l.ls.length) = A14 from hA14)
            clear hA14 szA13 d61 d67
            have d68 := e68
            clear e68
            refine wpAnyH_ready (rs := [13]) (by kernel_rfl) (by simp) ?_
            refine AllReadyH.cons rfl (fun K hK => ?_) AllReadyH.nil
            refine wp_newK rfl (rfl) (fun z X3 hz gz zle => hK.out _ _ (grew_trans GS.out gz) (fun _ => ?_))
            clear hK K
            have GS2 := Lib.hid (grew_trans GS.out gz)
            have HZ := Lib.hid hz
            clear hz GS gz
            refine act_letter (fun A15 hA15 => ?_)
            replace d6 : A15.eval (.tmp 6) = .slice (some ⟨cur.b, 0, none⟩) cur.ls.length cur.c := by rw [← hA15]; exact (ev_ne A14 (m := 8) (n := 6) (.pointer (some ⟨z, 0, none⟩)) (by decide)).trans d6
            replace d7 : A15.eval (.tmp 7) = .int .i64 (k : Int) := by rw [← hA15]; exact (ev_ne A14 (m := 8) (n := 7) (.pointer (some ⟨z, 0, none⟩)) (by decide)).trans d7
            replace d68 : A15.eval (.tmp 68) = mkey ⟨lb, lo, none⟩ l.ls.length := by rw [← hA15]; exact (ev_ne A14 (m := 8) (n := 68) (.pointer (some ⟨z, 0, none⟩)) (by decide)).trans d68
            have e8 : A15.eval (.tmp 8) = .pointer (some ⟨z, 0, none⟩) := by rw [← hA15]; exact ev_self A14 8 (.pointer (some ⟨z, 0, none⟩)) (by omega)
            have szA15 : A15.tmps.size = 99 := by rw [← hA15]; exact (sz_put A14 8 (.pointer (some ⟨z, 0, none⟩))).trans szA14
            have HA15 := Lib.hid (show A14.put (some 8) (.pointer (some ⟨z, 0, none⟩)) = A15 from hA15)
            clear hA15 szA14
            have d8 := e8
            clear e8
            refine wpAnyH_ready (rs := [14]) (by kernel_rfl) (by simp) ?_
            refine AllReadyH.cons rfl (fun K hK => ?_) AllReadyH.nil
            refine wp_skipG rfl (w' := put2 X3 z (.pointer (some ⟨lb, lo, none⟩)) (.int .i64 (l.ls.length : Int))) (run_storeK rfl d8 d68 HZ.out) (hK.out _ _ (grew_own GS2.out (grew_set (grew_set (grew_refl _ (some z)) _ _ _) _ _ _) (show X2.heap.size ≤ z from by simpa using zle)) (fun _ => ?_))
            clear hK K
            have S8 := Lib.hid (show (fun w' => Grew X2 w' none) (put2 X3 z (.pointer (some ⟨lb, lo, none⟩)) (.int .i64 (l.ls.length : Int))) from grew_own GS2.out (grew_set (grew_set (grew_refl _ (some z)) _ _ _) _ _ _) (show X2.heap.size ≤ z from by simpa using zle))
            clear GS2
            refine act_letter (fun A16 hA16 => ?_)
            replace d6 : A16.eval (.tmp 6) = .slice (some ⟨cur.b, 0, none⟩) cur.ls.length cur.c := by rw [← hA16]; exact d6
            replace d7 : A16.eval (.tmp 7) = .int .i64 (k : Int) := by rw [← hA16]; exact d7
            replace d68 : A16.eval (.tmp 68) = mkey ⟨lb, lo, none⟩ l.ls.length := by rw [← hA16]; exact d68
            replace d8 : A16.eval (.tmp 8) = .pointer (some ⟨z, 0, none⟩) := by rw [← hA16]; exact d8
            have szA16 : A16.tmps.size = 99 := by rw [← hA16]; exact szA15
            have HA16 := Lib.hid (show A15 = A16 from hA16)
            clear hA16 szA15
            have HK := Lib.hid (HZ.out.put2 (.pointer (some ⟨lb, lo, none⟩)) (.int .i64 (l.ls.length : Int)))
            have GX := S8
            refine wpAnyH_done (by kernel_rfl) ?_ _
            rw [← HA16.out, ← HA15.out, ← HA14.out, ← HA13.out, ← HA12.out, ← HA11.out, ← HA10.out, ← HA9.out, ← HA8.out, ← HA7.out, ← HA6.out, ← HA5.out, ← HA4.out, ← HA3.out, ← HA2.out, ← HA1.out]
            clear HA2 HA3 HA4 HA5 HA6 HA7 HA8 HA9 HA10 HA11 HA12 HA13 HA14 HA15 HA16 HA1 d6 d7 d68 d8 szA16
            simp only [Act.put, List.setIfInBounds_toArray, List.set_cons_zero, List.set_cons_succ]
            generalize put2 X3 z (.pointer (some ⟨lb, lo, none⟩)) (.int .i64 (l.ls.length : Int)) = X4 at *
            have hG4 : Grew w X4 none := grew_trans HS2.out.1.g GX.out
            have hS4 := HS2.out.grew GX.out
            have hC4 := HC2.out.grew GX.out
            have ob4 := own_nob OB2.out (fr_of GX.out (F := fun _ => False)) (fun _ _ h => h.elim)
            obtain ⟨y0, y1⟩ := HK.out.two
            have hlbs : lb < w.heap.size := (Array.getElem?_eq_some_iff.1 HHP.out.2).1
            have hh4 : X4.heap[lb]? = some (.cells hcs ht (0, 0)) := (hG4.block _ hlbs (by simp)).trans HHP.out.2
            have hlk := run_lookup X4 (a := ⟨lb, lo, none⟩) l.ls.length hh4 hS4.2.2.1 (hS4.2.2.keys hG4)
            have hlie : Va.Lie w (some ⟨lb, lo, none⟩) l.ls := by have := HL.out.2.2.1.list.1; rw [HHP.out.1] at this; exact this
            have hc4 := GX.out.cell hc2 (by simp)
            have hf4 := (HW2.out.grew GX.out (by simp)).frozen
            have HS4 := Lib.hid hS4
            have HC4 := Lib.hid hC4
            have OB4 := Lib.hid ob4
            have HG4 := Lib.hid hG4
            have HW4 := Lib.hid (HW2.out.grew GX.out (by simp))
            have HLI := Lib.hid hlie
            have HH4 := Lib.hid hh4
            clear hS4 hC4 ob4 hG4 hlie hh4 hc2 hf2 HS2 HC2 OB2 HW2 hlbs S8 GX HZ zle
            cases hmf : mfind ⟨lb, lo, none⟩ l.ls.length es.toList 0 with
            | some jv =>
              obtain ⟨j, val⟩ := jv
              obtain ⟨e, he, hk1, hk2⟩ := mfind_some hmf
              obtain ⟨a, r, cs', t', k1, k2, k3, k4, _⟩ := HS4.out.2.2.2.2 e he
              rw [hk1, mkey_inj] at k1
              obtain ⟨e1, e2⟩ := k1
              subst e1
              rw [hk2] at k2
              subst k2
              have hnf : nfs r.ls = nfs l.ls := lie_uniq k4 HLI.out (fun p hp => ((HS4.out.1.ok r k3).2.2.2.2 p hp).1) HL.out.2.2.1.parts e2.symm
              have hmg : mget ⟨lb, lo, none⟩ l.ls.length es.toList = .tuple #[.slice (some ⟨r.b, 0, none⟩) l.ls.length r.c, .bool true] := by unfold mget; rw [hmf, e2]; rfl
              rw [hmg] at hlk
              have HR3 := Lib.hid (show S3 w (X4.setCell ⟨cur.b, k * 3 + 2, none⟩ (.slice (some ⟨r.b, 0, none⟩) l.ls.length r.c)) ⟨qo, 1, [v]⟩ qm (Pn ++ cur :: D) Pn D LV es ck ∧ Row (X4.setCell ⟨cur.b, k * 3 + 2, none⟩ (.slice (some ⟨r.b, 0, none⟩) l.ls.length r.c)) (Pn ++ cur :: D) cur (k + 1) ∧ sumP Pn + cnts (cur.ls.drop (k + 1)) + (k + 1) ≤ go from by
                have hus := HL.out.2.1
                have hC3 := HC4.out.set (x' := .mk l.n B' d' l.bs (some ⟨r.b, 0, none⟩) r.c l.ls) 2 (.slice (some ⟨r.b, 0, none⟩) l.ls.length r.c) rfl (by omega)
                rw [hus] at hC3
                refine ⟨HS4.out.set HC4.out _ _, hC3.step hus HL.out.1 ⟨rfl, rfl, rfl, own_nob OB4.out (Fr.set (F := fun i => i = cur.b) (Fr.refl _ _) (.inl rfl) _ _ _) (nob_row HW4.out), fun h => absurd h hls, fun _ => ⟨r, k3, rfl, rfl, hnf⟩⟩, ?_⟩
                have h1 := HSM.out
                rw [dropL HL.out.1, cnts] at h1
                have := cnt_pos l
                omega)
              clear HS4 HC4 OB4 HW4 HSM hmf he hk1 k3 k4 hnf hmg e2 HLI HHP HH4 HG4
              go_wp2_with fail
              go_roundg (cur.ls.length - (k + 1))
              case measure => have := HGI.out; omega
              case rel => exact ⟨k + 1, Pn, LV, es, ck, by go_num, rfl, by omega, rfl, HR3⟩
            | none =>
              have hmg : mget ⟨lb, lo, none⟩ l.ls.length es.toList = .tuple #[.slice none 0 0, .bool false] := by unfold mget; rw [hmf]
              rw [hmg] at hlk
              have HMF := Lib.hid hmf
              have HVC := Lib.hid (vclone_own X4 ⟨lb, lo, none⟩ l.c l.ls (HLI.out.grew HG4.out) HL.out.2.2.1.list.2.2)
              clear hmf hmg
              go_wp2_with fail
              refine HVC.out.mono ?_
              rintro e X5 ⟨rb, rc, rfl, ro, rle, g5⟩
              obtain ⟨X6, hup, hq6, fr6⟩ := run_update X5 (a := ⟨lb, lo, none⟩) l.ls.length ((g5.block _ (Array.getElem?_eq_some_iff.1 HH4.out).1 (by simp)).trans HH4.out) (HS4.out.grew g5).2.2.1 ((HS4.out.grew g5).2.2.keys (grew_trans HG4.out g5)) HMF.out (.slice (some ⟨rb, 0, none⟩) l.ls.length rc)
              obtain ⟨y0', y1'⟩ := (HK.out.grew g5 (by simp)).two
              have HST := Lib.hid (show _ ∧ _ ∧ _ ∧ _ ∧ _ ∧ _ from ⟨ro, rle, g5, hq6, fr6, True.intro⟩)
              clear ro rle g5 hq6 fr6 y0 y1 hlk hc4 hf4 HVC
              go_upto_region 18 with (fail)
              obtain ⟨ro, rle, g5, hq6, fr6, _⟩ := HST.out
              have hS5 := HS4.out.grew g5
              have hnq : ∀ i cs e, i = qm → X5.heap[i]? ≠ some (.cells cs e (0, 0)) := fun i cs e hi he => by
                rw [hi, hS5.2.2.1] at he
                cases he
              obtain ⟨hB6, hL6, hM6⟩ := S3.laid (r := ⟨rb, rc, l.ls⟩) hS5 hq6 fr6 HLI.out HHP.out.2
              have hC6 := Cw.map hS5 (HC4.out.grew g5) fr6
              have ob6 := own_nob (own_nob OB4.out (fr_of g5 (F := fun _ => False)) (fun _ _ h => h.elim)) fr6 (fun i cs hi => hnq i cs _ hi)
              have ro6 : X6.ownsRow 0 29 3 (Rw.val ⟨rb, rc, l.ls⟩) l.ls.length (flat l.ls) := own_fr ro fr6 (fun i hi e => by
                rcases ro.2 with ⟨e', _⟩ | ⟨b2, cap2, cur2, e', _, hh2, _⟩
                · cases e'
                · simp only [Value.slice.injEq, Option.some.injEq, Addr.mk.injEq] at e'
                  have hi' : some rb = some i := hi
                  cases hi'
                  exact hnq _ _ _ e (by rw [e'.1.1]; exact hh2))
              have hok := HS4.out.1.ok
              have hlo : w.heap.size + 2 ≤ rb := by
                have := hok cur (by simp)
                omega
              have hnb : ∀ r' ∈ Pn ++ cur :: D, r'.b ≠ rb := fun r' hr' => by
                have := hok r' hr'
                omega
              have hpn : Pn.length ≤ 2000 := by
                have h1 := sumP_len (P := Pn) (fun r hr => (hok r (by simp [hr])).2.2.1)
                have h2 := HSM.out
                omega
              have ga := grew_alloc (grew_refl X6 none) (.cells #[.slice (some ⟨rb, 0, none⟩) l.ls.length rc] 27)
              have hq7 := (Whole.new X6 #[.slice (some ⟨rb, 0, none⟩) l.ls.length rc] 27).cell 0
              simp only [List.getElem?_toArray, List.getElem?_cons_zero] at hq7
              have HA := Lib.hid (fun ty => append_left (X6.alloc (.cells #[.slice (some ⟨rb, 0, none⟩) l.ls.length rc] 27)) ty (hL6.grew ga).1 X6.heap.size (.slice (some ⟨rb, 0, none⟩) l.ls.length rc) rfl hq7 1 (by omega))
              have HP := Lib.hid (fun (LV' : Value) (X8 : World) (hA : AppLeft (X6.alloc (.cells #[.slice (some ⟨rb, 0, none⟩) l.ls.length rc] 27)) 27 1 LV (Pn.length + 1) (Pn.map Rw.val ++ [Rw.val ⟨rb, rc, l.ls⟩]) LV' X8) =>
                (show _ ∧ _ from ⟨S3.push (hB6.grew ga) (hL6.grew ga) (hM6.grew ga) (own_fr ro6 (fr_of ga (F := fun _ => False)) (fun _ _ h => h)) hnb hlo hls HL.out.2.2.1.list.2.2 (fun p hp => ⟨HL.out.2.2.1.parts p hp, HL.out.2.2.2.parts p hp⟩) hA, hA⟩))
              have HC7 := Lib.hid (hC6.grew ga)
              have OB7 := Lib.hid (own_nob ob6 (fr_of ga (F := fun _ => False)) (fun _ _ h => h.elim))
              have HTY := Lib.hid (hL6.grew ga)
              clear ro rle g5 hq6 fr6 hS5 hnq hB6 hL6 hM6 hC6 ob6 ro6 hok hlo hnb ga hq7 HST HS4 HC4 OB4 HG4 HW4 HLI HH4 HMF hup y0' y1'
              go_wp2_with (at_builtin; refine wpList_append_run _ rfl (.tmp 86) (.tmp 88) 83 rfl rfl rfl (fun ty => HA.out ty) ?_; intro LV' X8 hApp; obtain ⟨⟨pS, _, pC, pM⟩, _⟩ := HP.out LV' X8 hApp; have hC8 := pC _ _ _ HC7.out; obtain ⟨cs8, hW8, hcs8⟩ := hC8.whole; rw [HL.out.2.1] at hcs8; have c8 := (hW8.cell (k * 3 + 2)).trans (hcs8 2 _ rfl); change X8.cell? ⟨cur.b, k * 3 + 2, none⟩ = some (.slice l.A l.ls.length l.c) at c8; have f8 := hW8.frozen; have PS := Lib.hid pS; have PM := Lib.hid pM; have HC8 := Lib.hid hC8; have HW8 := Lib.hid hW8; have HAP := Lib.hid hApp; clear pS pC pM hC8 hW8 hcs8 hApp)
              go_roundg (cur.ls.length - (k + 1))
              case measure => have := HGI.out; omega
              case rel =>
                have hus := HL.out.2.1
                have ob8 : X8.ownsRow 0 5 1 (.slice B' l.bs.length d') l.bs.length (cellsOf l.bs) := by
                  refine own_nob OB7.out (Fr.of_grew' (F := fun i => LV.ownBlock = some i) HAP.out.2.1 (fun i hi => hi)) (fun i cs hi he => ?_)
                  rcases HTY.out.1.2 with ⟨e, _⟩ | ⟨b2, cap2, cur2, e, _, hh2, _⟩
                  · rw [e] at hi; simp [Value.ownBlock] at hi
                  · rw [e] at hi
                    simp [Value.ownBlock] at hi
                    rw [← hi, hh2] at he
                    simp at he
                have hC9 := HC8.out.set (x' := .mk l.n B' d' l.bs (some ⟨rb, 0, none⟩) rc l.ls) 2 (.slice (some ⟨rb, 0, none⟩) l.ls.length rc) rfl (by omega)
                rw [hus] at hC9
                refine ⟨k + 1, Pn ++ [⟨rb, rc, l.ls⟩], LV', _, _, by go_num, rfl, by omega, rfl, Lib.hid ⟨PS.out.set HC8.out _ _, hC9.step hus HL.out.1 ⟨rfl, rfl, rfl, own_nob ob8 (Fr.set (F := fun i => i = cur.b) (Fr.refl _ _) (.inl rfl) _ _ _) (nob_row HW8.out), fun h => absurd h hls, fun _ => ⟨_, PM.out, rfl, rfl, rfl⟩⟩, ?_⟩⟩
                have h1 := HSM.out
                rw [dropL HL.out.1, cnts] at h1
                have h2 : l.cnt = cnts l.ls + 1 := by cases l; rfl
                rw [sumP_append, sumP_one]
                show sumP Pn + cnts l.ls + cnts (cur.ls.drop (k + 1)) + (k + 1) ≤ go
                omega
        · obtain rfl : k = cur.ls.length := by omega
          have HR := Lib.hid (show S3 w wr ⟨qo, 1, [v]⟩ qm (Pn ++ cur :: D) Pn (cur :: D) LV es ck ∧ sumP Pn + cur.ls.length ≤ go from ⟨R.out.1.rest R.out.2.1, by have := R.out.2.2; rw [List.drop_length] at this; simp [cnts] at this; exact this⟩)
          clear R
          go_wp2_with fail
          go_roundg (go - 1)
          case measure => have := HR.out.2; omega
          case rel => exact ⟨Pn, cur :: D, LV, es, ck, rfl, by omega, Lib.hid ⟨HR.out.1, by have := HR.out.2; omega⟩⟩
end Go.Proofs.Ytibbeodcheefaaa



/- Vary by the empty path. -/
namespace Go.Proofs.Ytibbeodcheefaaa
open Go.RowKit Va

theorem results_cell_tmp {P : Program} {fn : Func} {p r : Tmp} {ty : TypeId} (h : fn.results = #[.cell p ty, .tmp r]) (tmps : Array Value) (w : World) (g : Nat) (t : TypeId) (cs : Array Value) (fr : Nat × Nat) (d : TypeDesc)
    (hp : tmps.getD p undef = .pointer (some ⟨g, 0, none⟩)) (hg : w.heap[g]? = some (.cells cs t fr))
    (hu : P.underlying ty = some d) (hd : (match d with | .struct _ | .array _ _ => true | _ => false) = true) (hi : (P.info? ty).map (·.size) = some cs.size) :
    (results fn tmps).run P w = .ok (.tuple #[.agg cs, tmps.getD r undef]) w := by
  have hp' : tmps[p]?.getD undef = .pointer (some ⟨g, 0, none⟩) := by simpa using hp
  simp [results, h, hp', asAddr, run_loadVar_row w g t ty cs fr d hg hu hd hi]

theorem Pl.grew {w w' : World} {v : Va} (h : Pl w v) (g : Grew w w' none) : Pl w' v := by
  induction h with
  | mk ha _ ih =>
    exact .mk (fun hl => by
      obtain ⟨b, o, cs, t, e, hh⟩ := ha hl
      exact ⟨b, o, cs, t, e, (g.block b (Array.getElem?_eq_some_iff.1 hh).1 (by simp)).trans hh⟩) ih

set_option maxRecDepth 100000 in
set_option maxHeartbeats 2000000 in
theorem vary_nil (w : World) (v x : Va) (hx : x.In w) (hp : Pl w x) (hc : x.cnt ≤ 2000) :
    Calls Try.prog 14 #[v.val, .slice none 0 0, x.val] w fun e w' => ∃ u : Va, e = .returned (.tuple #[u.val, .int .i64 0]) ∧ u.In w' ∧ u.nf = x.nf ∧ Grew w w' none := by
  obtain ⟨g1, k0, k1, k2, ks⟩ := three_new w #[.int .u64 v.n, .slice v.B v.bs.length v.d, .slice v.A v.ls.length v.c] 29 #[.int .u64 x.n, .slice x.B x.bs.length x.d, .slice x.A x.ls.length x.c] 29 #[.int .u64 0, .slice none 0 0, .slice none 0 0] 29
  have CA := Lib.hid (fun (W : World) (g : Grew w W none) => apart_any W x (hx.grew g) (hp.grew g) hc)
  have G1 := Lib.hid g1
  have K0 := Lib.hid k0
  have K1 := Lib.hid k1
  have K2 := Lib.hid k2
  clear hx hp g1 k0 k1 k2 ks
  rw [vval_eq, vval_eq]
  go_enter Try.func14, Try.ntmps14
  go_upto_region 3 with (fail)
  generalize ((w.alloc (.cells #[.int .u64 v.n, .slice v.B v.bs.length v.d, .slice v.A v.ls.length v.c] 29)).alloc (.cells #[.int .u64 x.n, .slice x.B x.bs.length x.d, .slice x.A x.ls.length x.c] 29)).alloc (.cells #[.int .u64 0, .slice none 0 0, .slice none 0 0] 29) = W at *
  go_loopg [13, 8] 0 (fun _ i a wr => i = .int .i64 0 ∧ a = .pointer (some ⟨w.heap.size, 0, none⟩) ∧ wr = W)
  case atStart => exact ⟨rfl, rfl, rfl⟩
  case round =>
    obtain ⟨rfl, rfl, rfl⟩ := hrel
    obtain ⟨a0, a1, a2⟩ := K0.out.three
    obtain ⟨b0, b1, b2⟩ := K1.out.three
    have f0 := K0.out.frozen
    go_upto_region 11 with (fail)
    have hP := K0.out.put3 (.int .u64 x.n) (.slice x.B x.bs.length x.d) (.slice x.A x.ls.length x.c)
    have hG := grew_put3 (q := w.heap.size) G1.out (Nat.le_refl _) (.int .u64 x.n) (.slice x.B x.bs.length x.d) (.slice x.A x.ls.length x.c)
    have hK2 := K2.out.fr (fr_put3 wr w.heap.size (.int .u64 x.n) (.slice x.B x.bs.length x.d) (.slice x.A x.ls.length x.c)) (show ¬ w.heap.size + 2 = w.heap.size by omega)
    clear a0 a1 a2 b0 b1 b2 f0
    unfold put3 at hP hG hK2
    generalize ((wr.setCell ⟨w.heap.size, 0, none⟩ (.int .u64 x.n)).setCell ⟨w.heap.size, 1, none⟩ (.slice x.B x.bs.length x.d)).setCell ⟨w.heap.size, 2, none⟩ (.slice x.A x.ls.length x.c) = X at *
    obtain ⟨a0, a1, a2⟩ := hP.three
    have HC := Lib.hid (CA.out X hG)
    rw [vval_eq] at HC
    have HG := Lib.hid hG
    have HK2 := Lib.hid hK2
    clear hP hG hK2 CA
    go_wp2_with fail
    refine HC.out.mono ?_
    rintro e X1 ⟨u, rfl, hu, hnf, hhi, g⟩
    rw [vval_eq]
    have hk := HK2.out.grew g (by simp)
    obtain ⟨r0, r1, r2⟩ := hk.three
    have fz := hk.frozen
    have HK := Lib.hid hk
    have hsz : w.heap.size + 2 < X.heap.size + 2 := by have := HK2.out.lt; omega
    have HU := Lib.hid (show u.In (put3 X1 (w.heap.size + 2) (.int .u64 u.n) (.slice u.B u.bs.length u.d) (.slice u.A u.ls.length u.c)) ∧ u.nf = x.nf ∧ Grew w X1 none from ⟨in_put hk hsz _ _ _ u hu hhi, hnf, grew_trans HG.out g⟩)
    clear hk hu hnf g a0 a1 a2 HC hhi hsz
    go_wp2_with fail
    refine bodyPost_ret (results_cell_tmp rfl _ _ (w.heap.size + 2) _ _ _ _ rfl (HK.out.put3 (.int .u64 u.n) (.slice u.B u.bs.length u.d) (.slice u.A u.ls.length u.c)) Try.underlying29 rfl (by kernel_rfl)) rfl ?_
    exact ⟨u, rfl, HU.out.1, HU.out.2.1, grew_put3 HU.out.2.2 (by omega) _ _ _⟩
end Go.Proofs.Ytibbeodcheefaaa

