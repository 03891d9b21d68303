import PyProof.Rows.All
import Wide.All
import OpenK.AllK
import Wide.FinOn
import HandS.ForMost
import HandS.Strs
import HandS.Set
import HandS.SetFor
import HandS.TupSets
import HandS.IsInst
import HandS.Flow
import HandS.Style
import HandS.Zip
import HandS.SortInts
import HandS.DeepEq
import HandS.Walk
import HandS.DictComp
import PySem.Challenge.RW_curbdesk_k04_meet_and_join_of_boxes
set_option Elab.async false
set_option linter.all false
set_option maxRecDepth 100000
/-! Tables of sets that are laid anew, for the masks that merging asks for. -/
namespace Cs
open PySem PySem.Spec PyProof.Rows

def hop (m : Nat) (q : Nat × Nat) : Nat × Nat := SetTable.leap m q.1 q.2
def hops (m : Nat) : Nat → Nat × Nat → Nat × Nat
  | 0, q => q
  | n + 1, q => hops m n (hop m q)
abbrev own (ow : Array (Option Nat)) (j : Nat) : Option Nat := ow.getD j (some 0)

theorem free_step (m : Nat) (ow : Array (Option Nat)) (f : Nat) (q : Nat × Nat) : SetTable.layClean.free m ow (f + 1) q.1 q.2 =
    (match (List.range (SetTable.runEnd m q.1 + 1 - q.1)).find? (fun k => (own ow (q.1 + k)).isNone) with
      | some k => some (q.1 + k)
      | none => SetTable.layClean.free m ow f (hop m q).1 (hop m q).2) := rfl
theorem run_ge (m i : Nat) : i ≤ SetTable.runEnd m i := by
  unfold SetTable.runEnd
  split <;> omega
theorem run_le {m i : Nat} (h : i ≤ m) : SetTable.runEnd m i ≤ m := by
  unfold SetTable.runEnd
  split <;> omega
theorem hop_le (m : Nat) (q : Nat × Nat) : (hop m q).1 ≤ m := Nat.le_of_lt_succ (Nat.mod_lt _ (Nat.succ_pos m))

theorem free_none (m : Nat) (ow : Array (Option Nat)) : ∀ (f : Nat) (q : Nat × Nat), SetTable.layClean.free m ow f q.1 q.2 = none → ∀ n, n < f → (own ow (hops m n q).1).isNone = false
  | 0, _, _, n, h => absurd h (Nat.not_lt_zero n)
  | f + 1, q, e, n, h => by
    rw [free_step] at e
    cases c : (List.range (SetTable.runEnd m q.1 + 1 - q.1)).find? (fun k => (own ow (q.1 + k)).isNone) with
    | some k => rw [c] at e; exact nomatch e
    | none =>
      rw [c] at e
      cases n with
      | zero =>
        have z := List.find?_eq_none.mp c 0 (List.mem_range.mpr (by have := run_ge m q.1; omega))
        have z2 : ¬ ((own ow q.1).isNone = true) := z
        exact Bool.eq_false_iff.mpr z2
      | succ n => exact free_none m ow f (hop m q) e n (by omega)

theorem free_some (m : Nat) (ow : Array (Option Nat)) : ∀ (f : Nat) (q : Nat × Nat) (j : Nat), SetTable.layClean.free m ow f q.1 q.2 = some j → q.1 ≤ m → j ≤ m ∧ (own ow j).isNone = true
  | 0, _, _, e, _ => nomatch e
  | f + 1, q, j, e, hq => by
    rw [free_step] at e
    cases c : (List.range (SetTable.runEnd m q.1 + 1 - q.1)).find? (fun k => (own ow (q.1 + k)).isNone) with
    | some k =>
      rw [c] at e
      have ej : q.1 + k = j := Option.some.inj e
      have h1 := List.mem_of_find?_eq_some c
      have h2 := List.find?_some c
      have h3 := List.mem_range.mp h1
      have h4 := run_le hq
      rw [← ej]
      exact ⟨by omega, h2⟩
    | none =>
      rw [c] at e
      exact free_some m ow f (hop m q) j e (hop_le m q)

theorem hops_back (m : Nat) : ∀ (n : Nat) (q : Nat × Nat), hops m (n + 1) q = hop m (hops m n q)
  | 0, _ => rfl
  | n + 1, q => hops_back m n (hop m q)
theorem hops_add (m : Nat) (a : Nat) : ∀ (k : Nat) (q : Nat × Nat), hops m (a + k) q = hops m k (hops m a q)
  | 0, _ => rfl
  | k + 1, q => by
    rw [show a + (k + 1) = (a + k) + 1 from rfl, hops_back, hops_back, hops_add m a k q]
theorem hops_snd (m : Nat) : ∀ (n : Nat) (q : Nat × Nat), (hops m n q).2 = q.2 / 32 ^ n
  | 0, q => (Nat.div_one q.2).symm
  | n + 1, q => by
    rw [hops_back]
    show (hops m n q).2 / 32 = _
    rw [hops_snd m n q, Nat.div_div_eq_div_mul, Nat.pow_succ]
theorem hops_fst_le (m : Nat) {q : Nat × Nat} (hq : q.1 ≤ m) : ∀ n, (hops m n q).1 ≤ m
  | 0 => hq
  | n + 1 => by rw [hops_back]; exact hop_le m _
theorem hops_zero (m i : Nat) : ∀ k, hops m k (i, 0) = (L2.lcgI m i k, 0)
  | 0 => rfl
  | k + 1 => by
    rw [hops_back, hops_zero m i k]
    show ((L2.lcgI m i k * 5 + 1 + 0 / 32) % (m + 1), 0 / 32) = _
    rw [Nat.zero_div, Nat.add_zero] <;> rfl

def Msk (m : Nat) : Prop := m = 7 ∨ m = 15 ∨ m = 31 ∨ m = 63 ∨ m = 127
def meetsAll (m : Nat) : Bool := (List.range (m + 1)).all fun i => (List.range (m + 1)).all fun j => (List.range (m + 1)).any fun k => L2.lcgI m i k == j
theorem lcg_of {m : Nat} (h : meetsAll m = true) {i j : Nat} (hi : i ≤ m) (hj : j ≤ m) : ∃ k, k ≤ m ∧ L2.lcgI m i k = j := by
  have h1 := List.all_eq_true.mp (List.all_eq_true.mp h i (List.mem_range.mpr (by omega))) j (List.mem_range.mpr (by omega))
  obtain ⟨k, hk, e⟩ := List.any_eq_true.mp h1
  exact ⟨k, Nat.le_of_lt_succ (List.mem_range.mp hk), eq_of_beq e⟩
/- one round from 0, then the shift -/
theorem all15 : ((List.range 16).all fun j => (List.range 16).any fun b => L2.lcgN 15 b == j) = true := by decide +kernel
theorem all63 : ((List.range 64).all fun j => (List.range 64).any fun b => L2.lcgN 63 b == j) = true := by decide +kernel
theorem round15 : L2.lcgN 15 16 = 0 := by decide +kernel
theorem round63 : L2.lcgN 63 64 = 0 := by decide +kernel
theorem turn_mod {m : Nat} (h : L2.lcgN m (m + 1) = 0) : ∀ k, L2.lcgN m (m + 1 + k) = L2.lcgN m k
  | 0 => h
  | k + 1 => by
    show (L2.lcgN m (m + 1 + k) * 5 + 1) % (m + 1) = (L2.lcgN m k * 5 + 1) % (m + 1)
    rw [turn_mod h k]
theorem lcg_by {m : Nat} (hr : L2.lcgN m (m + 1) = 0) (ha : ((List.range (m + 1)).all fun j => (List.range (m + 1)).any fun b => L2.lcgN m b == j) = true) {i j : Nat} (hi : i ≤ m) (hj : j ≤ m) :
    ∃ k, k ≤ m ∧ L2.lcgI m i k = j := by
  have at0 : ∀ x, x ≤ m → ∃ b, b ≤ m ∧ L2.lcgN m b = x := fun x hx => by
    obtain ⟨b, hb, e⟩ := List.any_eq_true.mp (List.all_eq_true.mp ha x (List.mem_range.mpr (by omega)))
    exact ⟨b, Nat.le_of_lt_succ (List.mem_range.mp hb), eq_of_beq e⟩
  obtain ⟨a, la, ea⟩ := at0 i hi
  obtain ⟨b, lb, eb⟩ := at0 j hj
  subst ea
  by_cases c : a ≤ b
  · exact ⟨b - a, by omega, by rw [L2.lcgN_add, Nat.add_sub_cancel' c]; exact eb⟩
  · refine ⟨m + 1 + b - a, by omega, ?_⟩
    rw [L2.lcgN_add, Nat.add_sub_cancel' (by omega), turn_mod hr]
    exact eb
theorem lcg_meets {m : Nat} (hm : Msk m) {i j : Nat} (hi : i ≤ m) (hj : j ≤ m) : ∃ k, k ≤ m ∧ L2.lcgI m i k = j := by
  rcases hm with e | e | e | e | e
  · exact L2.lcgI_all (.inl e) hi hj
  · subst e; exact lcg_by round15 all15 hi hj
  · exact L2.lcgI_all (.inr (.inl e)) hi hj
  · subst e; exact lcg_by round63 all63 hi hj
  · exact L2.lcgI_all (.inr (.inr e)) hi hj

theorem free_there {m : Nat} (hm : Msk m) (ow : Array (Option Nat)) (h : Int) {j0 : Nat} (hj : j0 ≤ m) (hf : (own ow j0).isNone = true) :
    ∃ j, SetTable.layClean.free m ow (SetTable.turns m) (SetTable.bits h % (m + 1)) (SetTable.bits h) = some j ∧ j ≤ m ∧ (own ow j).isNone = true := by
  have hq : SetTable.bits h % (m + 1) ≤ m := Nat.le_of_lt_succ (Nat.mod_lt _ (Nat.succ_pos m))
  cases e : SetTable.layClean.free m ow (SetTable.turns m) (SetTable.bits h % (m + 1)) (SetTable.bits h) with
  | some j => exact ⟨j, rfl, free_some m ow _ (SetTable.bits h % (m + 1), SetTable.bits h) j e hq⟩
  | none =>
    exfalso
    have all := free_none m ow _ (SetTable.bits h % (m + 1), SetTable.bits h) e
    have z : (hops m 13 (SetTable.bits h % (m + 1), SetTable.bits h)).2 = 0 := by
      rw [hops_snd]
      refine Nat.div_eq_of_lt (Nat.lt_trans (L2.bits_lt h) ?_)
      decide
    have le := hops_fst_le m (q := (SetTable.bits h % (m + 1), SetTable.bits h)) hq 13
    obtain ⟨k, hk, ek⟩ := lcg_meets hm le hj
    have q := all (13 + k) (by show 13 + k < m + 15; omega)
    have e2 : hops m 13 (SetTable.bits h % (m + 1), SetTable.bits h) = ((hops m 13 (SetTable.bits h % (m + 1), SetTable.bits h)).1, 0) := by
      rw [← z]
    rw [hops_add, e2, hops_zero] at q
    rw [ek] at q
    rw [hf] at q
    cases q

/-! ### who sits where -/
theorem put_perm : ∀ (l : List (Option Nat)) (j k : Nat), l[j]? = some none → ((l.set j (some k)).filterMap id).Perm (k :: l.filterMap id)
  | [], j, k, h => by simp at h
  | x :: l, 0, k, h => by
    have e : x = none := by simpa using h
    subst e
    simp
  | x :: l, j + 1, k, h => by
    have ih := put_perm l j k (by simpa using h)
    cases x with
    | none => simpa using ih
    | some y =>
      simp only [List.set_cons_succ, List.filterMap_cons, id]
      exact (ih.cons y).trans (List.Perm.swap k y _)
theorem gap : ∀ l : List (Option Nat), (l.filterMap id).length < l.length → ∃ j : Nat, j < l.length ∧ l[j]? = some none
  | [], h => by simp at h
  | none :: l, h => ⟨0, by simp, rfl⟩
  | some y :: l, h => by
    obtain ⟨j, hj, e⟩ := gap l (by simpa using h)
    exact ⟨j + 1, by simpa using hj, by simpa using e⟩
structure Sit (m k : Nat) (ow : Array (Option Nat)) : Prop where
  sz : ow.size = m + 1
  pm : (ow.toList.filterMap id).Perm (List.range k)
theorem Sit.start (m : Nat) : Sit m 0 (Array.replicate (m + 1) none) := ⟨by simp, by simp⟩
theorem Sit.next {m k : Nat} {ow : Array (Option Nat)} (S : Sit m k ow) (hm : Msk m) (hk : k ≤ m) (h : Int) :
    ∃ j, SetTable.layClean.free m ow (SetTable.turns m) (SetTable.bits h % (m + 1)) (SetTable.bits h) = some j ∧ Sit m (k + 1) (ow.setIfInBounds j (some k)) := by
  have l1 := S.pm.length_eq
  rw [List.length_range] at l1
  obtain ⟨j0, h0, e0⟩ := gap ow.toList (by rw [l1, Array.length_toList, S.sz]; omega)
  rw [Array.length_toList, S.sz] at h0
  have f0 : (own ow j0).isNone = true := by
    have : ow[j0]? = some none := by rw [← Array.getElem?_toList]; exact e0
    simp [own, Array.getD_eq_getD_getElem?, this]
  obtain ⟨j, ej, hj, hn⟩ := free_there hm ow h (by omega) f0
  have hjs : j < ow.size := by rw [S.sz]; omega
  have en : ow.toList[j]? = some none := by
    have : own ow j = none := by simpa using hn
    rw [Array.getElem?_toList]
    simp only [own, Array.getD_eq_getD_getElem?, Array.getElem?_eq_getElem hjs, Option.getD_some] at this
    rw [Array.getElem?_eq_getElem hjs, this]
  refine ⟨j, ej, by rw [Array.size_setIfInBounds]; exact S.sz, ?_⟩
  rw [Array.toList_setIfInBounds]
  refine (put_perm ow.toList j k en).trans ?_
  rw [List.range_succ]
  exact (S.pm.cons k).trans (List.perm_append_singleton k _).symm
theorem sit_all {m : Nat} (hm : Msk m) : ∀ (hs : List Int) (k : Nat) (ow : Array (Option Nat)), Sit m k ow → k + hs.length ≤ m →
    ∃ ow', hs.foldl (L2.stepF m) (some (ow, k)) = some (ow', k + hs.length) ∧ Sit m (k + hs.length) ow'
  | [], k, ow, S, _ => ⟨ow, rfl, S⟩
  | h :: hs, k, ow, S, hl => by
    rw [List.length_cons] at hl
    obtain ⟨j, ej, S2⟩ := S.next hm (by omega) h
    obtain ⟨ow', e, S3⟩ := sit_all hm hs (k + 1) _ S2 (by omega)
    refine ⟨ow', ?_, ?_⟩
    · rw [List.foldl_cons, L2.stepF_some ej, e, List.length_cons]
      exact congrArg (fun n => some (ow', n)) (by omega)
    · rw [List.length_cons, show k + (hs.length + 1) = k + 1 + hs.length by omega]
      exact S3
theorem lay_ok {m : Nat} (hm : Msk m) {hs : Array Int} (hn : hs.size ≤ m) : ∃ ow, SetTable.layClean m hs = some ow ∧ Sit m hs.size ow := by
  obtain ⟨ow, e, S⟩ := sit_all hm hs.toList 0 _ (Sit.start m) (by rw [Array.length_toList]; omega)
  rw [Nat.zero_add, Array.length_toList] at S
  refine ⟨ow, ?_, S⟩
  rw [L2.layClean_eq, e] <;> rfl

def liveAt (m : Nat) (ow : Array (Option Nat)) : List (Nat × Nat) := (List.range (m + 1)).filterMap fun j => (ow.getD j none).map (j, ·)
theorem live_snd {m : Nat} {ow : Array (Option Nat)} (hz : ow.size = m + 1) : (liveAt m ow).map (·.2) = ow.toList.filterMap id := by
  unfold liveAt
  rw [List.map_filterMap, ← hz]
  have e1 : (fun j => ((ow.getD j none).map (j, ·)).map (·.2)) = fun j => (ow[j]?).bind id := by
    funext j
    rw [Array.getD_eq_getD_getElem?]
    cases ow[j]? with
    | none => rfl
    | some y => cases y <;> rfl
  have e2 := filterMap_getElem?_range ow
  rw [e1, ← e2, List.filterMap_filterMap]
theorem laid_ok {m : Nat} (hm : Msk m) {hs : Array Int} (hn : hs.size ≤ m) (fi mv : Nat) (ld pl : Bool) :
    ∃ t order, SetTable.laid m fi mv ld pl hs = some (t, order) ∧ order.toList.Perm (List.range hs.size) ∧ t.mask = m ∧ t.dummies = #[] ∧ t.led = ld ∧ L2.Ris t.place.toList ∧ t.place.size = hs.size := by
  obtain ⟨ow, e, S⟩ := lay_ok hm hn
  have p : ((liveAt m ow).map (·.2)).Perm (List.range hs.size) := by
    rw [live_snd S.sz]
    exact S.pm
  refine ⟨_, _, by unfold SetTable.laid; rw [e]; rfl, p, rfl, rfl, rfl, ?_, ?_⟩
  · refine (L2.ris_live (fun j => ow.getD j none) (List.range (m + 1)) ?_).1
    unfold L2.Ris
    first | exact List.pairwise_lt_range | exact List.pairwise_lt_range _
  · have l := p.length_eq
    rw [List.length_map, List.length_range] at l
    show ((liveAt m ow).map (·.1)).toArray.size = hs.size
    rw [List.size_toArray, List.length_map]
    exact l
theorem above_msk : ((List.range 128).all fun n => (SetTable.sizeAbove n == 8 || SetTable.sizeAbove n == 16 || SetTable.sizeAbove n == 32 || SetTable.sizeAbove n == 64 || SetTable.sizeAbove n == 128) && decide (n < SetTable.sizeAbove n)) = true := by
  decide +kernel
theorem above_ok {n : Nat} (h : n < 128) : Msk (SetTable.sizeAbove n - 1) ∧ n ≤ SetTable.sizeAbove n - 1 ∧ SetTable.sizeAbove n ≤ 128 := by
  have q := List.all_eq_true.mp above_msk n (List.mem_range.mpr h)
  simp only [Bool.and_eq_true, Bool.or_eq_true, beq_iff_eq, decide_eq_true_eq] at q
  obtain ⟨q1, q2⟩ := q
  refine ⟨?_, by omega, by omega⟩
  unfold Msk
  omega
end Cs

set_option Elab.async false
set_option linter.all false
set_option maxRecDepth 100000
set_option maxHeartbeats 1000000
namespace Cs
open PySem PySem.Spec PyProof.Rows L2

/-- a set of ints, written out -/
structure SetX (w : World) (h : Heap) (a : Addr) (es : Array (Int × Value)) (ep : Nat) (t : SetTable) : Prop where
  obj : h.get? a = some { cls := .type "set", dict := none, data := .set es ep t, slots := #[] }
  good : ∀ e ∈ es.toList, GoodE e
  nd : (es.toList.map keyOf).Nodup
  few : es.size < scanBound
  fits : t.fits es.size = true
  ris : Ris t.place.toList
  led : w.params.followText "set-order" = true ∨ t.led = true
section
variable {w : World} {h h' : Heap} {a : Addr} {S : Int → Bool} {n : Nat} {es : Array (Int × Value)} {ep : Nat} {t : SetTable}
theorem SetX.toR (R : SetX w h a es ep t) (hS : ∀ k, S k = true ↔ k ∈ es.toList.map keyOf) (hn : es.size = n) : SetR w h a S n :=
  ⟨_, es, ep, t, R.obj, ⟨rfl, rfl, rfl⟩, rfl, R.good, R.nd, hS, R.few, R.fits, hn, R.ris, R.led⟩
theorem xOf (R : SetR w h a S n) : ∃ es ep t, SetX w h a es ep t ∧ (∀ k, S k = true ↔ k ∈ es.toList.map keyOf) ∧ es.size = n := by
  obtain ⟨⟨c, d, dt, sl⟩, es, ep, t, ho, ⟨e1, e2, e3⟩, hd, g, nd, m, fw, ft, hn, r, l⟩ := R
  simp only at e1 e2 e3 hd
  subst e1 e2 e3 hd
  exact ⟨es, ep, t, ⟨ho, g, nd, fw, ft, r, l⟩, m, hn⟩
theorem SetX.move (R : SetX w h a es ep t) (k : ∀ o, h.get? a = some o → h'.get? a = some o) : SetX w h' a es ep t :=
  ⟨k _ R.obj, R.good, R.nd, R.few, R.fits, R.ris, R.led⟩
theorem SetX.perm {es' : Array (Int × Value)} {t' : SetTable} {ep' : Nat} (R : SetX w h a es ep t) (p : es'.toList.Perm es.toList)
    (o : h'.get? a = some { cls := .type "set", dict := none, data := .set es' ep' t', slots := #[] }) (f : t'.fits es'.size = true) (r : Ris t'.place.toList) (l : w.params.followText "set-order" = true ∨ t'.led = true) : SetX w h' a es' ep' t' :=
  ⟨o, fun e he => R.good e (p.mem_iff.mp he), (p.map keyOf).nodup_iff.mpr R.nd, by
    have q := p.length_eq
    rw [Array.length_toList, Array.length_toList] at q
    rw [q]; exact R.few, f, r, l⟩
end
theorem order_perm {es : Array (Int × Value)} {order : Array Nat} (p : order.toList.Perm (List.range es.size)) : (order.filterMap (es[·]?)).toList.Perm es.toList := by
  have q := p.filterMap (fun i => es[i]?)
  rw [filterMap_getElem?_range] at q
  rw [Array.toList_filterMap]
  exact q
theorem perm_size {α : Type} {x y : Array α} (p : x.toList.Perm y.toList) : x.size = y.size := by
  have q := p.length_eq
  rw [Array.length_toList, Array.length_toList] at q
  exact q
section
variable {P : Program} {w : World} {A : Around} {E : Value → Shared → Prop} {s : Shared} {a : Addr} {es : Array (Int × Value)} {ep : Nat} {t : SetTable}

theorem relay_x {wanted : Nat} {Q : Unit → Shared → Prop} (R : SetX w s.heap a es ep t) (hw : wanted < 128) (hn : es.size ≤ wanted)
    (hQ : ∀ h' es' t', Heap.SameBut a s.heap h' → SetX w h' a es' (ep + 1) t' → es'.toList.Perm es.toList → t'.mask = SetTable.sizeAbove wanted - 1 → t'.dummies = #[] → t'.place.size = es.size → Q () { s with heap := h' }) :
    wpAny (model P w) A (setRelay a wanted) Q E s := by
  obtain ⟨hM, hMn, h128⟩ := above_ok hw
  obtain ⟨t', order, e, hp, em, ed, el, er, ez⟩ := laid_ok hM (hs := es.map (·.1)) (by rw [Array.size_map]; omega) t.finger (t.movedTo (SetTable.sizeAbove wanted - 1)) t.led t.plain
  rw [Array.size_map] at hp ez
  have p2 := order_perm hp
  have z2 := perm_size p2
  have fit : t'.fits (order.filterMap (es[·]?)).size = true := by
    unfold SetTable.fits SetTable.fill
    rw [ed, z2, ez, em, Bool.and_eq_true, beq_iff_eq, decide_eq_true_eq]
    exact ⟨rfl, by show es.size + 0 ≤ _; omega⟩
  have e' : t.relaid (es.map (·.1)) wanted = some (t', order) := e
  unfold setRelay
  refine wpAny_bind (wpAny_setState_of R.obj rfl R.fits ?_)
  dsimp only
  refine wp_if_neg (by rw [sizeLine_eq]; omega) ?_
  try refine wpAny_bind (wpAny_pure ?_)
  rw [e']
  refine wpAny_bind ?_
  refine wp_if_neg (c := ((order.filterMap (es[·]?)).size != es.size) = true) (by rw [z2]; simp) ?_
  try refine wpAny_bind (wpAny_pure ?_)
  refine wpAny_pure ?_
  dsimp only
  refine wpAny_storeSet_of R.obj rfl ?_ (fits_of_scanBound (by rw [z2]; exact R.few))
  have sb : Heap.SameBut a s.heap (s.heap.update a (Obj.putSet (order.filterMap (es[·]?)) t')) := Heap.SameBut.update ..
  exact hQ _ _ t' sb (R.perm p2 (store_at R.obj rfl) fit er (R.led.imp id fun z => el.trans z)) p2 em ed ez

/-! ### walking -/
theorem walk_x {Q : Array (Int × Value) → Shared → Prop} (R : SetX w s.heap a es ep t) (hQ : ∀ ys d, ys.toList.Perm es.toList → Q ys { s with drawn := d }) : wpAny (model P w) A (setWalk a) Q E s := by
  have rf : Q es s := hQ es s.drawn (List.Perm.refl _)
  unfold setWalk
  refine wpAny_bind (wpAny_setState_of R.obj rfl R.fits ?_)
  dsimp only
  refine wpAny_bind (wpAny_byText ?_)
  by_cases hb : w.params.followText "set-order" = true
  · refine wp_if_pos hb ?_
    refine wpAny_bind (wpAny_askSetting ?_)
    exact wpAny_pure (hQ _ s.drawn (pick_perm _ es))
  · refine wp_if_neg hb ?_
    by_cases hd : (!t.plain && decide (es.size > 1)) = true
    · refine wp_if_pos (c := (!t.plain && decide (es.size > 1)) = true) hd ?_
      refine wpAny_bind (drawOrder_at _ _ _ _ (Nat.le_of_eq Array.length_toList) fun ys d p => wpAny_pure (hQ _ d ?_))
      simpa using p
    · refine wp_if_neg (c := (!t.plain && decide (es.size > 1)) = true) hd ?_
      have hl : t.led = true := R.led.resolve_left hb
      refine wpAny_bind (m := (_ : Sem Unit)) ?_
      refine wp_if_neg (c := (!t.led && decide (es.size > 1)) = true) (by rw [hl]; simp) ?_
      exact wpAny_pure (wpAny_pure rf)
end
end Cs

set_option Elab.async false
set_option linter.all false
set_option maxRecDepth 100000
set_option maxHeartbeats 1000000
namespace Cs
open PySem PySem.Spec PyProof.Rows L2
section
variable {P : Program} {w : World} {A : Around} {E : Value → Shared → Prop} {s : Shared} {a : Addr} {es : Array (Int × Value)} {ep : Nat} {t : SetTable}

theorem quiet_x {Q : Bool → Shared → Prop} : ∀ (l : List Addr), (∀ b ∈ l, ∃ es ep t, SetX w s.heap b es ep t) → Q true s → wpAny (model P w) A (setsQuiet l) Q E s := by
  intro l hl hq
  unfold setsQuiet
  refine wpAny_bind (wpAny_forIn_list _ (fun rest b s' => b.1 = none ∧ s' = s ∧ ∀ x ∈ rest, ∃ es ep t, SetX w s.heap x es ep t) _ ?turn ?fin l _ ⟨rfl, rfl, hl⟩)
  case fin =>
    rintro ⟨b1, b2⟩ s' ⟨h1, rfl, _⟩
    cases h1
    exact wpAny_pure hq
  case turn =>
    rintro x rest ⟨b1, b2⟩ s' ⟨h1, rfl, h2⟩
    cases h1
    obtain ⟨es, ep, t, R⟩ := h2 x List.mem_cons_self
    unfold setEntries
    refine wpAny_bind (wpAny_bind (wpAny_setState_of R.obj rfl R.fits (wpAny_pure ?_)))
    refine wpAny_bind (MeetsSeq2.wpAny_forIn_array _ (fun rest' b s'' => b.1 = none ∧ s'' = s' ∧ ∀ e ∈ rest', GoodE e) _ ?t2 ?f2 es _ ⟨rfl, rfl, R.good⟩)
    case f2 =>
      rintro ⟨b1, b2⟩ s' ⟨h1, rfl, _⟩
      cases h1
      exact wpAny_pure ⟨rfl, rfl, fun y hy => h2 y (List.mem_cons_of_mem _ hy)⟩
    case t2 =>
      rintro ⟨hh, v⟩ rest' ⟨b1, b2⟩ s' ⟨h1, rfl, hg⟩
      cases h1
      obtain ⟨k, tk, e1, _⟩ := hg _ List.mem_cons_self
      have e2 : v = .int k tk := e1
      subst e2
      dsimp only
      refine wpAny_pure ⟨rfl, rfl, fun y hy => hg y (List.mem_cons_of_mem _ hy)⟩
end
end Cs

set_option Elab.async false
set_option linter.all false
set_option maxRecDepth 100000
set_option maxHeartbeats 1000000
namespace Cs
open PySem PySem.Spec PyProof.Rows L2
section
variable {P : Program} {w : World} {A : Around} {E : Value → Shared → Prop} {s : Shared} {a : Addr} {es : Array (Int × Value)} {ep : Nat} {t : SetTable}
theorem unseen_x {others : List Addr} {f : Addr} {ef : Array (Int × Value)} {pf : Nat} {tf : SetTable} {Q : Array (Int × Value) → Shared → Prop} (R : SetX w s.heap a es ep t)
    (ho : ∀ b ∈ others, ∃ es ep t, SetX w s.heap b es ep t) (F : SetX w s.heap f ef pf tf)
    (hQ : ∀ ys d h' pf' tf', ys.toList.Perm es.toList → Heap.SameBut f s.heap h' → SetX w h' f ef pf' tf' → Q ys { s with heap := h', drawn := d }) :
    wpAny (model P w) A (setWalkUnseen a others (some f)) Q E s := by
  have rf : ∀ ys d, ys.toList.Perm es.toList → Q ys { s with drawn := d } := fun ys d p => hQ ys d s.heap pf tf p (Heap.SameBut.refl f s.heap) F
  unfold setWalkUnseen
  refine wpAny_bind (wpAny_setState_of R.obj rfl R.fits ?_)
  dsimp only
  refine wpAny_bind (wpAny_byText ?_)
  by_cases hb : (w.params.followText "set-order" || (t.led && t.plain) || decide (es.size ≤ 1)) = true
  · refine wp_if_pos (c := (w.params.followText "set-order" || (t.led && t.plain) || decide (es.size ≤ 1)) = true) hb ?_
    exact walk_x R rf
  · refine wp_if_neg (c := (w.params.followText "set-order" || (t.led && t.plain) || decide (es.size ≤ 1)) = true) hb ?_
    have hnt : ¬ w.params.followText "set-order" = true := fun z => hb (by rw [z] <;> rfl)
    have hl : t.led = true := R.led.resolve_left hnt
    try refine wpAny_bind (wpAny_pure ?_)
    refine wpAny_bind (quiet_x _ (fun b hb' => (List.mem_cons.mp hb').elim (fun z => ⟨es, ep, t, z ▸ R⟩) (ho b)) ?_)
    refine wp_if_neg (c := (!true) = true) (by simp) ?_
    try refine wpAny_bind (wpAny_pure ?_)
    refine wpAny_bind (wpAny_rule ?_)
    try dsimp only
    refine wpAny_bind (wpAny_setState_of F.obj rfl F.fits ?_)
    dsimp only
    split
    · refine wpAny_bind (wpAny_storeSet_of F.obj rfl ?_ (fits_of_scanBound F.few))
      refine wpAny_pure ?_
      refine hQ es s.drawn _ _ _ (List.Perm.refl _) (Heap.SameBut.update s.heap f _) (F.perm (List.Perm.refl _) (store_at F.obj rfl) ?_ F.ris ?_)
      · exact F.fits
      · refine F.led.imp id fun z => ?_
        show (tf.led && t.led) = true
        rw [z, hl] <;> rfl
    · try refine wpAny_bind (wpAny_pure ?_)
      exact wpAny_pure (rf es s.drawn (List.Perm.refl _))
theorem unseen_n {others : List Addr} {Q : Array (Int × Value) → Shared → Prop} (R : SetX w s.heap a es ep t)
    (ho : ∀ b ∈ others, ∃ es ep t, SetX w s.heap b es ep t)
    (rf : ∀ ys d, ys.toList.Perm es.toList → Q ys { s with drawn := d }) :
    wpAny (model P w) A (setWalkUnseen a others none) Q E s := by
  unfold setWalkUnseen
  refine wpAny_bind (wpAny_setState_of R.obj rfl R.fits ?_)
  dsimp only
  refine wpAny_bind (wpAny_byText ?_)
  by_cases hb : (w.params.followText "set-order" || (t.led && t.plain) || decide (es.size ≤ 1)) = true
  · refine wp_if_pos (c := (w.params.followText "set-order" || (t.led && t.plain) || decide (es.size ≤ 1)) = true) hb ?_
    exact walk_x R rf
  · refine wp_if_neg (c := (w.params.followText "set-order" || (t.led && t.plain) || decide (es.size ≤ 1)) = true) hb ?_
    try refine wpAny_bind (wpAny_pure ?_)
    refine wpAny_bind (quiet_x _ (fun b hb' => (List.mem_cons.mp hb').elim (fun z => ⟨es, ep, t, z ▸ R⟩) (ho b)) ?_)
    refine wp_if_neg (c := (!true) = true) (by simp) ?_
    try refine wpAny_bind (wpAny_pure ?_)
    refine wpAny_bind (wpAny_rule ?_)
    try dsimp only
    try refine wpAny_bind (wpAny_pure ?_)
    exact wpAny_pure (rf es s.drawn (List.Perm.refl _))

theorem room_x {more : Nat} {Q : Unit → Shared → Prop} (R : SetX w s.heap a es ep t) (hm : (es.size + more) * 2 < 128)
    (hQ : ∀ h' es' ep' t', Heap.SameBut a s.heap h' → SetX w h' a es' ep' t' → es'.toList.Perm es.toList →
      ((t' = t ∧ (t.fill + more) * 5 < t.mask * 3) ∨ (t'.mask = SetTable.sizeAbove ((es.size + more) * 2) - 1 ∧ t'.dummies = #[])) → Q () { s with heap := h' }) :
    wpAny (model P w) A (setRoomFor a more) Q E s := by
  have hz : t.place.size = es.size := by
    have f := R.fits
    unfold SetTable.fits at f
    rw [Bool.and_eq_true, beq_iff_eq] at f
    exact f.1
  unfold setRoomFor
  refine wpAny_bind (wpAny_setState_of R.obj rfl R.fits ?_)
  dsimp only
  by_cases c : (t.fill + more) * 5 ≥ t.mask * 3
  · have e : t.roomFor more = some ((t.place.size + more) * 2) := if_pos c
    rw [e]
    dsimp only
    rw [hz]
    refine relay_x R hm (by omega) fun h' es' t' sb X p em ed _ => hQ h' es' _ t' sb X p (.inr ⟨em, ed⟩)
  · have e : t.roomFor more = none := if_neg c
    rw [e]
    dsimp only
    exact wpAny_pure (hQ s.heap es ep t (Heap.SameBut.refl a s.heap) R (List.Perm.refl _) (.inl ⟨rfl, by omega⟩))
end
end Cs

set_option Elab.async false
set_option linter.all false
set_option maxRecDepth 100000
set_option maxHeartbeats 1000000
namespace Cs
open PySem PySem.Spec PyProof.Rows L2
section
variable {P : Program} {w : World} {A : Around} {E : Value → Shared → Prop} {s : Shared}
abbrev keys (es : Array (Int × Value)) : List Int := es.toList.map keyOf
theorem keys_perm {x y : Array (Int × Value)} (p : x.toList.Perm y.toList) (k : Int) : k ∈ keys x ↔ k ∈ keys y := (p.map keyOf).mem_iff
theorem sb_trans {a : Addr} {h1 h2 h3 : Heap} (x : Heap.SameBut a h1 h2) (y : Heap.SameBut a h2 h3) : Heap.SameBut a h1 h3 := x.trans y
theorem sx_other {h h' : Heap} {a b : Addr} {es : Array (Int × Value)} {ep : Nat} {t : SetTable} (R : SetX w h b es ep t) (sb : Heap.SameBut a h h') (hne : b ≠ a) : SetX w h' b es ep t :=
  R.move fun o e => (sb.2 b hne).trans e
theorem sr_other {h h' : Heap} {a b : Addr} {S : Int → Bool} {n : Nat} (R : SetR w h b S n) (sb : Heap.SameBut a h h') (hne : b ≠ a) : SetR w h' b S n :=
  R.at fun o e => (sb.2 b hne).trans e

/-- adding the members of a walk, one by one -/
theorem add_all {r : Addr} (f : (Int × Value) → PUnit → Sem (ForInStep PUnit)) (K : Shared → Prop) (hK : ∀ s1 h', Heap.SameBut r s1.heap h' → K s1 → K { s1 with heap := h' })
    (hf : ∀ e k tk s1 Q', e = (hashInt k, Value.int k tk) → K s1 → (wpAny (model P w) A (setAddHashed r (.int k tk) (hashInt k)) (fun _ s2 => K s2 ∧ Q' (.yield ⟨⟩) s2) E s1) → wpAny (model P w) A (f e ⟨⟩) Q' E s1)
    (ys : Array (Int × Value)) (g : ∀ e ∈ ys.toList, GoodE e) {S : Int → Bool} {n : Nat} (R : SetR w s.heap r S n) (hn : n + ys.size + 1 < scanBound) (hs : K s) {Q : PUnit → Shared → Prop}
    (hQ : ∀ h' S' n', SetR w h' r S' n' → (∀ k, S' k = true ↔ S k = true ∨ k ∈ keys ys) → n' ≤ n + ys.size → Heap.SameBut r s.heap h' → K { s with heap := h' } → Q ⟨⟩ { s with heap := h' }) :
    wpAny (model P w) A (forIn ys ⟨⟩ f) Q E s := by
  refine MeetsSeq2.wpAny_forIn_array f (fun rest _ s' => ∃ h' S' n', s' = { s with heap := h' } ∧ SetR w h' r S' n' ∧ (∀ k, (S' k = true ∨ k ∈ rest.map keyOf) ↔ (S k = true ∨ k ∈ keys ys)) ∧ n' + rest.length ≤ n + ys.size ∧
    Heap.SameBut r s.heap h' ∧ K { s with heap := h' } ∧ ∀ e ∈ rest, GoodE e) Q ?turn ?fin ys ⟨⟩ ⟨s.heap, S, n, rfl, R, fun k => Iff.rfl, by rw [Array.length_toList]; exact Nat.le_refl _, Heap.SameBut.refl r s.heap, hs, g⟩
  case fin =>
    rintro ⟨⟩ s' ⟨h', S', n', rfl, R', m, l, sb, k, _⟩
    exact hQ h' S' n' R' (fun k => by simpa using m k) (by simpa using l) sb k
  case turn =>
    rintro e rest ⟨⟩ s' ⟨h', S', n', rfl, R', m, l, sb, kk, g'⟩
    obtain ⟨k, tk, e1, e2⟩ := g' e List.mem_cons_self
    obtain ⟨eh, ev⟩ := e
    simp only at e1 e2
    subst e1 e2
    rw [List.length_cons] at l
    refine hf _ k tk _ _ rfl kk ?_
    refine setR_add_hashed (s := { s with heap := h' }) R' (by omega) fun h2 sb2 R2 => ?_
    have k2 : K { s with heap := h2 } := hK { s with heap := h' } h2 sb2 kk
    refine ⟨k2, h2, _, _, rfl, R2, fun j => ?_, ?_, sb_trans sb sb2, k2, fun e he => g' e (List.mem_cons_of_mem _ he)⟩
    · rw [← m j, List.map_cons, List.mem_cons, Bool.or_eq_true, decide_eq_true_eq]
      show ((S' j = true ∨ j = k) ∨ _) ↔ (S' j = true ∨ (j = k ∨ _))
      exact or_assoc
    · have : (if S' k = true then n' else n' + 1) ≤ n' + 1 := by split <;> omega
      omega

/-- what is merged into a set with members -/
theorem merge_more {r o : Addr} {each : Sem Unit} {er eo : Array (Int × Value)} {pr po : Nat} {tr to : SetTable} {Q : Unit → Shared → Prop} (hro : o ≠ r) (R : SetX w s.heap r er pr tr) (O : SetX w s.heap o eo po to)
    (hne : er.size ≠ 0) (hroom : (er.size + eo.size) * 2 < 128)
    (heach : ∀ s' Q', SetX w s'.heap o eo po to → Q' () s' → wpAny (model P w) A each Q' E s')
    (hQ : ∀ h' d' S' n', SetR w h' r S' n' → (∀ k, S' k = true ↔ k ∈ keys er ∨ k ∈ keys eo) → n' ≤ er.size + eo.size → Heap.SameBut r s.heap h' → Q () { s with heap := h', drawn := d' }) :
    wpAny (model P w) A (setMerge r o each) Q E s := by
  unfold setMerge
  refine wp_if_neg (c := (r == o) = true) (by simpa using Ne.symm hro) ?_
  try refine wpAny_bind (wpAny_pure ?_)
  refine wpAny_bind (wpAny_setState_of O.obj rfl O.fits ?_)
  dsimp only
  by_cases he : eo.isEmpty = true
  · refine wp_if_pos (c := eo.isEmpty = true) he ?_
    refine wpAny_pure (hQ s.heap s.drawn _ _ (R.toR (S := fun k => decide (k ∈ keys er)) (fun k => decide_eq_true_iff) rfl) (fun k => ?_) (by omega) (Heap.SameBut.refl r s.heap))
    have : eo = #[] := by simpa using he
    subst this
    simp
  · refine wp_if_neg (c := eo.isEmpty = true) he ?_
    try refine wpAny_bind (wpAny_pure ?_)
    refine wpAny_bind (room_x R hroom fun h1 er1 pr1 tr1 sb1 R1 p1 _ => ?_)
    have O1 := sx_other O sb1 hro
    refine wpAny_bind (wpAny_setState_of R1.obj rfl R1.fits ?_)
    dsimp only
    have z1 := perm_size p1
    have hfill : (tr1.fill != 0) = true := by
      have f := R1.fits
      unfold SetTable.fits at f
      rw [Bool.and_eq_true, beq_iff_eq] at f
      have : tr1.fill ≠ 0 := by
        unfold SetTable.fill
        omega
      simpa using this
    have er' : tr1.road to = .oneByOne := if_pos hfill
    rw [er']
    dsimp only
    refine wpAny_bind (unseen_x (s := { s with heap := h1 }) O1 (fun b hb => by rw [List.mem_singleton.mp hb]; exact ⟨_, _, _, R1⟩) R1 fun ys d h2 pf tf py sb2 R2 => ?_)
    have O2 := sx_other O1 sb2 hro
    have zy := perm_size py
    refine wpAny_bind (add_all (s := { s with heap := h2, drawn := d }) (P := P) (A := A) (E := E) _ (fun s1 => SetX w s1.heap o eo po to) (fun s1 h' sb k => sx_other k sb hro) ?hf ys (fun e he => O.good e (py.mem_iff.mp he))
      (R2.toR (S := fun k => decide (k ∈ keys er1)) (fun k => decide_eq_true_iff) rfl) (by have : scanBound = 4096 := rfl; omega) O2 ?hQ)
    case hQ =>
      intro h3 S' n' R3 m3 l3 sb3 _
      refine wpAny_pure (hQ h3 d S' n' R3 (fun k => ?_) (by omega) (sb_trans sb1 (sb_trans sb2 sb3)))
      rw [m3 k, decide_eq_true_iff, keys_perm p1 k, keys_perm py k]
    case hf =>
      intro e k tk s1 Q' ee kk hwp
      subst ee
      dsimp only
      refine wpAny_bind (wpAny_holding (wpAny_mono hwp (fun b s2 hs2 => ?_) fun _ _ z => z))
      obtain ⟨k2, q2⟩ := hs2
      refine wpAny_bind (heach s2 _ k2 ?_)
      refine wpAny_bind (wpAny_setState_of k2.obj rfl k2.fits ?_)
      refine wp_if_neg (c := (po != po) = true) (by simp) ?_
      exact wpAny_pure q2
end
end Cs

set_option Elab.async false
set_option linter.all false
set_option maxRecDepth 100000
set_option maxHeartbeats 1000000
namespace Cs
open PySem PySem.Spec PyProof.Rows L2
section
variable {P : Program} {w : World} {A : Around} {E : Value → Shared → Prop} {s : Shared}
theorem SetX.permTo {h h' : Heap} {a b : Addr} {es es' : Array (Int × Value)} {t t' : SetTable} {ep ep' : Nat} (R : SetX w h a es ep t) (p : es'.toList.Perm es.toList)
    (o : h'.get? b = some { cls := .type "set", dict := none, data := .set es' ep' t', slots := #[] }) (f : t'.fits es'.size = true) (r : Ris t'.place.toList) (l : w.params.followText "set-order" = true ∨ t'.led = true) : SetX w h' b es' ep' t' :=
  ⟨o, fun e he => R.good e (p.mem_iff.mp he), (p.map keyOf).nodup_iff.mpr R.nd, by rw [perm_size p]; exact R.few, f, r, l⟩
theorem nil_of_perm {es : Array (Int × Value)} (p : es.toList.Perm (#[] : Array (Int × Value)).toList) : es = #[] := by
  have q := List.perm_nil.mp p
  simpa using q
theorem merge_fresh {r o : Addr} {each : Sem Unit} {eo : Array (Int × Value)} {pr po : Nat} {tr to : SetTable} {Q : Unit → Shared → Prop} (hro : o ≠ r) (R : SetX w s.heap r #[] pr tr)
    (hm : tr.mask = 7) (hdm : tr.dummies = #[]) (O : SetX w s.heap o eo po to) (h63 : eo.size ≤ 63)
    (hQ : ∀ h' es' ep' t', SetX w h' r es' ep' t' → es'.toList.Perm eo.toList → Heap.SameBut r s.heap h' → Q () { s with heap := h' }) :
    wpAny (model P w) A (setMerge r o each) Q E s := by
  unfold setMerge
  refine wp_if_neg (c := (r == o) = true) (by simpa using Ne.symm hro) ?_
  try refine wpAny_bind (wpAny_pure ?_)
  refine wpAny_bind (wpAny_setState_of O.obj rfl O.fits ?_)
  dsimp only
  by_cases he : eo.isEmpty = true
  · refine wp_if_pos (c := eo.isEmpty = true) he ?_
    have e0 : eo = #[] := by simpa using he
    subst e0
    exact wpAny_pure (hQ s.heap _ _ _ R (List.Perm.refl _) (Heap.SameBut.refl r s.heap))
  · refine wp_if_neg (c := eo.isEmpty = true) he ?_
    try refine wpAny_bind (wpAny_pure ?_)
    have fr : tr.fill = 0 := by
      have f := R.fits
      unfold SetTable.fits at f
      rw [Bool.and_eq_true, beq_iff_eq] at f
      have f1 : tr.place.size = 0 := f.1
      unfold SetTable.fill
      rw [hdm, f1]
      rfl
    refine wpAny_bind (room_x R (by show (0 + eo.size) * 2 < 128; omega) fun h1 er1 pr1 tr1 sb1 R1 p1 alt => ?_)
    have e1 := nil_of_perm p1
    subst e1
    have O1 := sx_other O sb1 hro
    have hM : Msk tr1.mask ∧ eo.size ≤ tr1.mask ∧ tr1.dummies = #[] := by
      rcases alt with ⟨et, hlt⟩ | ⟨em, ed⟩
      · subst et
        rw [fr, hm] at hlt
        exact ⟨.inl hm, by rw [hm]; omega, hdm⟩
      · have z : (#[] : Array (Int × Value)).size = 0 := rfl
        rw [z] at em
        obtain ⟨a1, a2, a3⟩ := above_ok (n := (0 + eo.size) * 2) (by omega)
        exact ⟨em ▸ a1, by omega, ed⟩
    obtain ⟨hM1, hM2, hM3⟩ := hM
    have fr1 : tr1.fill = 0 := by
      have f := R1.fits
      unfold SetTable.fits at f
      rw [Bool.and_eq_true, beq_iff_eq] at f
      have f1 : tr1.place.size = 0 := f.1
      unfold SetTable.fill
      rw [hM3, f1]
      rfl
    refine wpAny_bind (wpAny_setState_of R1.obj rfl R1.fits ?_)
    dsimp only
    have led : w.params.followText "set-order" = true ∨ (tr1.led && to.led) = true := by
      rcases R1.led with z | z
      · exact .inl z
      · rcases O1.led with y | y
        · exact .inl y
        · exact .inr (by rw [z, y] <;> rfl)
    have er : tr1.road to = if (tr1.mask == to.mask && to.dummies.isEmpty) = true then .slotForSlot else .clean := if_neg (by rw [fr1]; simp)
    by_cases c : (tr1.mask == to.mask && to.dummies.isEmpty) = true
    · rw [er, if_pos c]
      dsimp only
      refine wpAny_storeSet_of R1.obj rfl ?_ (fits_of_scanBound O.few)
      refine hQ _ _ _ _ (O1.permTo (List.Perm.refl _) (store_at R1.obj rfl) ?_ O1.ris led) (List.Perm.refl _) (sb_trans sb1 (Heap.SameBut.update h1 r _))
      exact O1.fits
    · rw [er, if_neg c]
      dsimp only
      obtain ⟨t', order, e, hp, em, ed, el, eR, ez⟩ := laid_ok hM1 (hs := eo.map (·.1)) (by rw [Array.size_map]; exact hM2) tr1.finger tr1.moves (tr1.led && to.led) (tr1.plain && to.plain)
      rw [Array.size_map] at hp ez
      have p2 := order_perm hp
      have z2 := perm_size p2
      rw [e]
      refine wpAny_bind ?_
      refine wp_if_neg (c := ((order.filterMap (eo[·]?)).size != eo.size) = true) (by rw [z2]; simp) ?_
      try refine wpAny_bind (wpAny_pure ?_)
      refine wpAny_pure ?_
      dsimp only
      refine wpAny_storeSet_of R1.obj rfl ?_ (fits_of_scanBound (by rw [z2]; exact O.few))
      refine hQ _ _ _ _ (O1.permTo p2 (store_at R1.obj rfl) ?_ eR (by rw [el]; exact led)) p2 (sb_trans sb1 (Heap.SameBut.update h1 r _))
      unfold SetTable.fits SetTable.fill
      rw [ed, z2, ez, em, Bool.and_eq_true, beq_iff_eq, decide_eq_true_eq]
      exact ⟨rfl, by show eo.size + 0 ≤ _; omega⟩

/-! ### the words of the class -/
abbrev newObjOf (w : World) : Obj := { cls := .type "set", dict := none, data := .set #[] 0 (.fresh 0 0 (!w.params.followText "set-order")) }
theorem fresh_x (h : Heap) : SetX w (h.push (newObjOf w)) h.objs.size #[] 0 (.fresh 0 0 (!w.params.followText "set-order")) :=
  ⟨Heap.get?_push_size _ rfl, fun e he => by simp at he, by simp, by decide, rfl, List.Pairwise.nil, by
    show _ ∨ (!w.params.followText "set-order") = true
    cases w.params.followText "set-order" <;> simp⟩
theorem SetX.ty {h : Heap} {a : Addr} {es : Array (Int × Value)} {ep : Nat} {t : SetTable} (R : SetX w h a es ep t) {s : Shared} (e : s.heap = h) : s.TypeIs (.ref a) "set" :=
  ⟨_, by rw [e]; exact R.obj, rfl⟩
theorem base_x {a : Addr} {Q : Value → Shared → Prop} (hT : s.TypeIs (.ref a) "set") (q : Q (.type "set") s) : wpAny (model P w) A (Builtin.Frozenset.baseOf a) Q E s := by
  unfold Builtin.Frozenset.baseOf
  refine wpAny_bind (wpAny_isInstance (b := true) hT sub_set_self ?_)
  exact wpAny_pure q
theorem any_x {a : Addr} {Q : Bool → Shared → Prop} (hT : s.TypeIs (.ref a) "set") (q : Q true s) : wpAny (model P w) A (Builtin.Frozenset.isAnySet (.ref a)) Q E s := by
  unfold Builtin.Frozenset.isAnySet
  refine wpAny_bind (wpAny_isInstance (b := true) hT sub_set_self ?_)
  exact wpAny_pure q
theorem new_x {Q : Value → Shared → Prop} (q : Q (.ref s.heap.objs.size) { s with heap := s.heap.push (newObjOf w) }) : wpAny (model P w) A (newSet (.type "set")) Q E s := by
  unfold newSet
  refine wpAny_bind (wpAny_byText ?_)
  dsimp only
  simp only [newObj]
  exact wpAny_bind (wpAny_alloc (wpAny_pure q))
theorem size_x {a : Addr} {es : Array (Int × Value)} {ep : Nat} {t : SetTable} {Q : Nat → Shared → Prop} (R : SetX w s.heap a es ep t) (q : Q es.size s) : wpAny (model P w) A (Builtin.Frozenset.sizeOf a) Q E s := by
  unfold Builtin.Frozenset.sizeOf setEntries
  exact wpAny_bind (wpAny_bind (wpAny_setState_of R.obj rfl R.fits (wpAny_pure (wpAny_pure q))))
theorem unchanged_x {id : String} {a : Addr} {es : Array (Int × Value)} {ep : Nat} {t : SetTable} {Q : Unit → Shared → Prop} (R : SetX w s.heap a es ep t) (q : Q () s) : wpAny (model P w) A (Builtin.Frozenset.unchanged id a ep) Q E s := by
  unfold Builtin.Frozenset.unchanged
  refine wpAny_bind (wpAny_setEpoch_of R.obj rfl R.fits ?_)
  exact wp_if_neg (c := (ep != ep) = true) (by simp) (wpAny_pure q)

/-- heaps in which all is as it was but what is new -/
def Old (h h' : Heap) : Prop := ∀ b o, h.get? b = some o → h'.get? b = some o
theorem old_push (h : Heap) (o : Obj) : Old h (h.push o) := fun _ _ e => Heap.get?_push_of_some o e
theorem old_but {h h' : Heap} {o : Obj} (sb : Heap.SameBut h.objs.size (h.push o) h') : Old h h' := fun b u e => by
  rw [sb.2 b (Nat.ne_of_lt (Heap.lt_size e))]
  exact Heap.get?_push_of_some o e
theorem copy_x {a : Addr} {es : Array (Int × Value)} {ep : Nat} {t : SetTable} {Q : Value → Shared → Prop} (R : SetX w s.heap a es ep t) (h63 : es.size ≤ 63)
    (hQ : ∀ h' es' ep' t', SetX w h' s.heap.objs.size es' ep' t' → es'.toList.Perm es.toList → Heap.SameBut s.heap.objs.size (s.heap.push (newObjOf w)) h' → Q (.ref s.heap.objs.size) { s with heap := h' }) :
    wpAny (model P w) A (Builtin.Frozenset.copyOf a) Q E s := by
  unfold Builtin.Frozenset.copyOf
  refine wpAny_bind (base_x (R.ty rfl) ?_)
  refine wpAny_bind (new_x ?_)
  refine wpAny_bind (wpAny_pure ?_)
  have hne : a ≠ s.heap.objs.size := Nat.ne_of_lt (Heap.lt_size R.obj)
  refine wpAny_bind (merge_fresh (s := { s with heap := s.heap.push (newObjOf w) }) hne (fresh_x s.heap) rfl rfl (R.move fun o e => old_push _ _ _ _ e) h63 fun h' es' ep' t' X p sb => ?_)
  exact wpAny_pure (hQ h' es' ep' t' X p sb)
end
end Cs

set_option Elab.async false
set_option linter.all false
set_option maxRecDepth 100000
set_option maxHeartbeats 1000000
namespace Cs
open PySem PySem.Spec PyProof.Rows L2
section
variable {P : Program} {w : World} {A : Around} {E : Value → Shared → Prop} {s : Shared}
/-- adding those of a walk that a test lets in -/
theorem add_some {r : Addr} (C : Int → Bool) (f : (Int × Value) → PUnit → Sem (ForInStep PUnit)) (K : Shared → Prop) (hK : ∀ s1 h', Heap.SameBut r s1.heap h' → K s1 → K { s1 with heap := h' })
    (hf : ∀ e k tk s1 Q', e = (hashInt k, Value.int k tk) → K s1 → (C k = true → wpAny (model P w) A (setAddHashed r (.int k tk) (hashInt k)) (fun _ s2 => K s2 ∧ Q' (.yield ⟨⟩) s2) E s1) → (C k = false → Q' (.yield ⟨⟩) s1) →
      wpAny (model P w) A (f e ⟨⟩) Q' E s1)
    (ys : Array (Int × Value)) (g : ∀ e ∈ ys.toList, GoodE e) {S : Int → Bool} {n : Nat} (R : SetR w s.heap r S n) (hn : n + ys.size + 1 < scanBound) (hs : K s) {Q : PUnit → Shared → Prop}
    (hQ : ∀ h' S' n', SetR w h' r S' n' → (∀ k, S' k = true ↔ S k = true ∨ (k ∈ keys ys ∧ C k = true)) → n' ≤ n + ys.size → Heap.SameBut r s.heap h' → K { s with heap := h' } → Q ⟨⟩ { s with heap := h' }) :
    wpAny (model P w) A (forIn ys ⟨⟩ f) Q E s := by
  refine MeetsSeq2.wpAny_forIn_array f (fun rest _ s' => ∃ h' S' n', s' = { s with heap := h' } ∧ SetR w h' r S' n' ∧ (∀ k, (S' k = true ∨ (k ∈ rest.map keyOf ∧ C k = true)) ↔ (S k = true ∨ (k ∈ keys ys ∧ C k = true))) ∧ n' + rest.length ≤ n + ys.size ∧
    Heap.SameBut r s.heap h' ∧ K { s with heap := h' } ∧ ∀ e ∈ rest, GoodE e) Q ?turn ?fin ys ⟨⟩ ⟨s.heap, S, n, rfl, R, fun k => Iff.rfl, by rw [Array.length_toList]; exact Nat.le_refl _, Heap.SameBut.refl r s.heap, hs, g⟩
  case fin =>
    rintro ⟨⟩ s' ⟨h', S', n', rfl, R', m, l, sb, k, _⟩
    exact hQ h' S' n' R' (fun k => by simpa using m k) (by simpa using l) sb k
  case turn =>
    rintro e rest ⟨⟩ s' ⟨h', S', n', rfl, R', m, l, sb, kk, g'⟩
    obtain ⟨k, tk, e1, e2⟩ := g' e List.mem_cons_self
    obtain ⟨eh, ev⟩ := e
    simp only at e1 e2
    subst e1 e2
    rw [List.length_cons] at l
    refine hf _ k tk _ _ rfl kk (fun hc => ?_) (fun hc => ?_)
    · refine setR_add_hashed (s := { s with heap := h' }) R' (by omega) fun h2 sb2 R2 => ?_
      have k2 : K { s with heap := h2 } := hK { s with heap := h' } h2 sb2 kk
      refine ⟨k2, h2, _, _, rfl, R2, fun j => ?_, ?_, sb_trans sb sb2, k2, fun e he => g' e (List.mem_cons_of_mem _ he)⟩
      · rw [← m j, List.map_cons, List.mem_cons, Bool.or_eq_true, decide_eq_true_eq]
        show ((S' j = true ∨ j = k) ∨ _) ↔ (S' j = true ∨ ((j = k ∨ _) ∧ _))
        constructor
        · rintro ((z | z) | ⟨z, z2⟩)
          · exact .inl z
          · exact .inr ⟨.inl z, z ▸ hc⟩
          · exact .inr ⟨.inr z, z2⟩
        · rintro (z | ⟨z | z, z2⟩)
          · exact .inl (.inl z)
          · exact .inl (.inr z)
          · exact .inr ⟨z, z2⟩
      · have : (if S' k = true then n' else n' + 1) ≤ n' + 1 := by split <;> omega
        omega
    · refine ⟨h', S', n', rfl, R', fun j => ?_, by omega, sb, kk, fun e he => g' e (List.mem_cons_of_mem _ he)⟩
      rw [← m j, List.map_cons, List.mem_cons]
      show (S' j = true ∨ _) ↔ (S' j = true ∨ ((j = k ∨ _) ∧ _))
      constructor
      · rintro (z | ⟨z, z2⟩)
        · exact .inl z
        · exact .inr ⟨.inr z, z2⟩
      · rintro (z | ⟨z | z, z2⟩)
        · exact .inl z
        · rw [z, hc] at z2
          cases z2
        · exact .inr ⟨z, z2⟩

theorem find_x {a : Addr} {es : Array (Int × Value)} {ep : Nat} {t : SetTable} {k : Int} {tk : Tok} {Q : Option Nat → Shared → Prop} (R : SetX w s.heap a es ep t)
    (h : ∀ i : Option Nat, (i = none ∧ k ∉ keys es ∨ ∃ j, i = some j ∧ (keys es)[j]? = some k) → Q i s) : wpAny (model P w) A (setFind a (.int k tk) (hashInt k)) Q E s := by
  have hkey : (intKind P w).is k (.int k tk) = true := intKind_is P w k tk
  have hel : ElemsOf (intKind P w) es.toList := good_elems R.good
  unfold setFind setFindIn
  refine wpAny_bind (wpAny_setState_of R.obj rfl R.fits ?_)
  dsimp only
  rw [byScan_of (x := .int k tk) rfl R.few hel]
  simp only [↓reduceIte]
  refine wpAny_bind (wpAny_rule ?_)
  refine wpAny_bind (wpAny_setScan_of (knd := intKind P w) hkey R.obj rfl R.fits hel ?_)
  cases hr : List.findIdx? (fun e => (intKind P w).is k e.2) es.toList with
  | none =>
    dsimp only
    refine wpAny_pure (h none (.inl ⟨rfl, fun z => ?_⟩))
    obtain ⟨e, he, q⟩ := (good_mem (P := P) (w := w) R.good k).1 z
    have c := List.findIdx?_eq_none_iff.mp hr e he
    rw [q] at c
    cases c
  | some j =>
    dsimp only
    obtain ⟨hj, pj, _⟩ := List.findIdx?_eq_some_iff_getElem.mp hr
    refine wpAny_pure (h (some (0 + j)) (.inr ⟨0 + j, rfl, ?_⟩))
    rw [Nat.zero_add, List.getElem?_map, List.getElem?_eq_getElem hj]
    have := (good_is (P := P) (w := w) (R.good _ (List.getElem_mem hj)) k).1 pj
    exact congrArg some this
theorem found_x {a : Addr} {es : Array (Int × Value)} {ep : Nat} {t : SetTable} {k : Int} {tk : Tok} {Q : Option Nat → Shared → Prop} (R : SetX w s.heap a es ep t)
    (h : ∀ i : Option Nat, i.isSome = decide (k ∈ keys es) → Q i s) : wpAny (model P w) A (setFind a (.int k tk) (hashInt k)) Q E s := by
  refine find_x R fun i hi => h i ?_
  rcases hi with ⟨rfl, z⟩ | ⟨j, rfl, z⟩
  · simp [z]
  · have : k ∈ keys es := List.mem_of_getElem? z
    simp [this]

/-- a & b -/
theorem and_x {id : String} {a b : Addr} {ea eb : Array (Int × Value)} {pa pb : Nat} {ta tb : SetTable} {Q : Value → Shared → Prop} (hne : b ≠ a) (RA : SetX w s.heap a ea pa ta) (RB : SetX w s.heap b eb pb tb)
    (hl : ea.size ≤ 63) (hl2 : eb.size ≤ 63)
    (hQ : ∀ h' d' S n, SetR w h' s.heap.objs.size S n → (∀ k, S k = true ↔ k ∈ keys ea ∧ k ∈ keys eb) → n ≤ 63 → Old s.heap h' → Q (.ref s.heap.objs.size) { s with heap := h', drawn := d' }) :
    wpAny (model P w) A (Builtin.Frozenset.intersection id a (.ref b)) Q E s := by
  have hsb : scanBound = 4096 := rfl
  have na : a ≠ s.heap.objs.size := Nat.ne_of_lt (Heap.lt_size RA.obj)
  have nb : b ≠ s.heap.objs.size := Nat.ne_of_lt (Heap.lt_size RB.obj)
  unfold Builtin.Frozenset.intersection
  refine wp_if_neg (c := ((Value.ref b == Value.ref a) = true)) (by simpa using hne) ?_
  try refine wpAny_bind (wpAny_pure ?_)
  refine wpAny_bind (base_x (RA.ty rfl) ?_)
  refine wpAny_bind (new_x ?_)
  refine wpAny_bind (wpAny_pure ?_)
  have RA1 : SetX w (s.heap.push (newObjOf w)) a ea pa ta := RA.move fun o e => old_push _ _ _ _ e
  have RB1 : SetX w (s.heap.push (newObjOf w)) b eb pb tb := RB.move fun o e => old_push _ _ _ _ e
  have R1 := fresh_x (w := w) s.heap
  refine wpAny_bind (wpAny_holding ?_)
  refine wpAny_bind (any_x (RB1.ty rfl) ?_)
  refine wp_if_pos (c := (true = true)) rfl ?_
  refine wpAny_bind (wpAny_pure ?_)
  refine wpAny_bind (size_x (s := { s with heap := s.heap.push (newObjOf w) }) RB1 ?_)
  refine wpAny_bind (size_x (s := { s with heap := s.heap.push (newObjOf w) }) RA1 ?_)
  have key : ∀ (q v : Addr) (eq ev : Array (Int × Value)) (pq pv : Nat) (tq tv : SetTable), SetX w (s.heap.push (newObjOf w)) q eq pq tq → SetX w (s.heap.push (newObjOf w)) v ev pv tv → ev.size ≤ 63 → q ≠ s.heap.objs.size → v ≠ s.heap.objs.size →
      (∀ k, k ∈ keys ev ∧ k ∈ keys eq ↔ k ∈ keys ea ∧ k ∈ keys eb) → wpAny (model P w) A (do
        let was ← setEpoch v
        for (h, x) in ← setWalkUnseen v [q, s.heap.objs.size] (some s.heap.objs.size) do
          holding [x] do
            if (← setFind q x h).isSome then
              let _ ← setAddHashed s.heap.objs.size x h
          Builtin.Frozenset.unchanged id v was) (fun _ s' => wpAny (model P w) A (pure (Value.ref s.heap.objs.size)) Q E s') E { s with heap := s.heap.push (newObjOf w) } := by
    intro q v eq ev pq pv tq tv RQ RV hv nq nv hk
    refine wpAny_bind (wpAny_setEpoch_of RV.obj rfl RV.fits ?_)
    refine wpAny_bind (unseen_x (s := { s with heap := s.heap.push (newObjOf w) }) RV (fun c hc => ?_) R1 fun ys d h2 pf tf py sb2 R2 => ?_)
    · rcases List.mem_cons.mp hc with z | z
      · exact ⟨_, _, _, z ▸ RQ⟩
      · rw [List.mem_singleton.mp z]
        exact ⟨_, _, _, R1⟩
    have RQ2 := sx_other RQ sb2 nq
    have RV2 := sx_other RV sb2 nv
    have zy := perm_size py
    refine wpAny_bind (add_some (P := P) (A := A) (E := E) (s := { s with heap := h2, drawn := d }) (r := s.heap.objs.size) (fun k => decide (k ∈ keys eq)) _ (fun s1 => SetX w s1.heap q eq pq tq ∧ SetX w s1.heap v ev pv tv) (fun s1 h' sb k => ⟨sx_other k.1 sb nq, sx_other k.2 sb nv⟩) ?hf ys
      (fun e he => RV.good e (py.mem_iff.mp he)) (R2.toR (S := fun _ => false) (fun k => by simp) rfl) (by show 0 + ys.size + 1 < scanBound; omega) ⟨RQ2, RV2⟩ ?hQ)
    case hQ =>
      intro h3 S' n' R3 m3 l3 sb3 _
      refine wpAny_pure (wpAny_pure (hQ h3 d S' n' R3 (fun k => ?_) ?_ ?_))
      · rw [m3 k, keys_perm py k, decide_eq_true_iff, ← hk k]
        simp
      · have : n' ≤ 0 + ys.size := l3
        omega
      · exact old_but (sb_trans sb2 sb3)
    case hf =>
      intro e k tk s1 Q' ee kk h1 h0
      subst ee
      dsimp only
      refine wpAny_bind (wpAny_holding ?_)
      refine wpAny_bind (found_x kk.1 fun i hi => ?_)
      by_cases c : k ∈ keys eq
      · refine wp_if_pos (by rw [hi]; exact decide_eq_true c) ?_
        refine wpAny_bind (wpAny_mono (h1 (decide_eq_true c)) (fun b s2 hs2 => ?_) fun _ _ z => z)
        refine wpAny_pure ?_
        refine wpAny_bind (unchanged_x hs2.1.2 ?_)
        exact wpAny_pure hs2.2
      · refine wp_if_neg (by rw [hi]; simpa using c) ?_
        refine wpAny_pure ?_
        refine wpAny_bind (unchanged_x kk.2 ?_)
        exact wpAny_pure (h0 (decide_eq_false c))
  by_cases c : eb.size > ea.size
  · rw [if_pos c]
    exact key b a eb ea pb pa tb ta RB1 RA1 hl nb na (fun k => Iff.rfl)
  · rw [if_neg c]
    exact key a b ea eb pa pb ta tb RA1 RB1 hl2 na nb (fun k => And.comm)
end
end Cs

set_option Elab.async false
set_option linter.all false
set_option maxRecDepth 100000
set_option maxHeartbeats 1000000
namespace Cs
open PySem PySem.Spec PyProof.Rows L2
section
variable {P : Program} {w : World} {A : Around} {E : Value → Shared → Prop} {s : Shared}
theorem map_out {α β : Type} (f : α → β) : ∀ (l : List α) (i : Nat), (l.map f).eraseIdx i = (l.eraseIdx i).map f
  | [], i => by simp
  | x :: l, 0 => by simp
  | x :: l, i + 1 => by simp [map_out f l i]
/-- a | b -/
theorem union_x {id : String} {a b : Addr} {ea eb : Array (Int × Value)} {pa pb : Nat} {ta tb : SetTable} {Q : Unit → Shared → Prop} (hne : b ≠ a) (RA : SetX w s.heap a ea pa ta) (RB : SetX w s.heap b eb pb tb)
    (ha : ea.size ≠ 0 ∨ (ea = #[] ∧ ta.mask = 7 ∧ ta.dummies = #[])) (hl : (ea.size + eb.size) * 2 < 128)
    (hQ : ∀ h' d' S n, SetR w h' a S n → (∀ k, S k = true ↔ k ∈ keys ea ∨ k ∈ keys eb) → n ≤ ea.size + eb.size → Heap.SameBut a s.heap h' → Q () { s with heap := h', drawn := d' }) :
    wpAny (model P w) A (Builtin.Frozenset.updateFrom id a (.ref b)) Q E s := by
  unfold Builtin.Frozenset.updateFrom
  refine wpAny_bind (any_x (RB.ty rfl) ?_)
  refine wp_if_pos (c := (true = true)) rfl ?_
  refine wpAny_bind (wpAny_pure ?_)
  refine wpAny_bind (wpAny_setEpoch_of RB.obj rfl RB.fits ?_)
  rcases ha with ha | ⟨e0, em, ed⟩
  · refine merge_more hne RA RB ha hl (fun s' Q' k q => unchanged_x k q) fun h' d' S' n' R m l sb => ?_
    exact hQ h' d' S' n' R m l sb
  · subst e0
    have z0 : (#[] : Array (Int × Value)).size = 0 := rfl
    refine merge_fresh hne RA em ed RB (by omega) fun h' es' ep' t' X p sb => ?_
    have z := perm_size p
    exact hQ h' s.drawn _ _ (X.toR (S := fun k => decide (k ∈ keys es')) (fun k => decide_eq_true_iff) rfl) (fun k => by rw [decide_eq_true_iff, keys_perm p k]; simp) (by omega) sb

/-- what is struck out -/
theorem discard_x {a : Addr} {es : Array (Int × Value)} {ep : Nat} {t : SetTable} {k : Int} {tk : Tok} {Q : Bool → Shared → Prop} (R : SetX w s.heap a es ep t)
    (hQ : ∀ b h' es' ep' t', SetX w h' a es' ep' t' → (∀ j, j ∈ keys es' ↔ j ∈ keys es ∧ j ≠ k) → es'.size ≤ es.size → Heap.SameBut a s.heap h' → Q b { s with heap := h' }) :
    wpAny (model P w) A (setDiscardHashed a (.int k tk) (hashInt k)) Q E s := by
  unfold setDiscardHashed
  refine wpAny_bind (find_x R fun i hi => ?_)
  rcases hi with ⟨rfl, z⟩ | ⟨i, rfl, z⟩
  · exact wpAny_pure (hQ false s.heap es ep t R (fun j => ⟨fun q => ⟨q, fun e => z (e ▸ q)⟩, fun q => q.1⟩) (Nat.le_refl _) (Heap.SameBut.refl a s.heap))
  · dsimp only
    refine wpAny_bind (wpAny_setState_of R.obj rfl R.fits ?_)
    dsimp only
    have hf := R.fits
    unfold SetTable.fits SetTable.fill at hf
    rw [Bool.and_eq_true, beq_iff_eq, decide_eq_true_eq] at hf
    have hi : i < es.toList.length := by
      have := (List.getElem?_eq_some_iff.mp z).1
      rw [List.length_map] at this
      exact this
    have hi2 : i < t.place.size := by rw [hf.1, ← Array.length_toList]; exact hi
    have er : ∀ {α : Type} (xs : Array α), (SetTable.eraseAt xs i).toList = xs.toList.eraseIdx i := fun xs => by
      unfold SetTable.eraseAt
      rw [List.eraseIdx_eq_take_drop_succ]
      simp [List.extract_eq_take_drop, List.take_of_length_le]
    have ed : t.drop i = { t with place := SetTable.eraseAt t.place i, dummies := SetTable.insertAt t.dummies (SetTable.below t.dummies t.place[i]) t.place[i] } := by
      unfold SetTable.drop
      rw [Array.getElem?_eq_getElem hi2]
    have l1 : (SetTable.eraseAt es i).size + 1 = es.size := by
      rw [← Array.length_toList, er, List.length_eraseIdx, if_pos hi, Array.length_toList]
      rw [Array.length_toList] at hi
      omega
    have l2 : (SetTable.eraseAt t.place i).size + 1 = t.place.size := by
      rw [← Array.length_toList, er, List.length_eraseIdx, Array.length_toList, if_pos hi2]
      omega
    have l3 : ∀ p x, (SetTable.insertAt t.dummies p x).size = t.dummies.size + 1 := fun p x => by
      have := (SetTable.insertAt_perm t.dummies p x).length_eq
      rw [Array.length_toList, Array.length_toList, Array.size_push] at this
      exact this
    refine wpAny_bind (wpAny_storeSet_of R.obj rfl ?_ (fits_of_scanBound (by have := R.few; omega)))
    refine wpAny_bind (wpAny_point ?_)
    have ek : keys (SetTable.eraseAt es i) = (keys es).eraseIdx i := by
      show (SetTable.eraseAt es i).toList.map keyOf = _
      rw [er]
      exact (map_out keyOf es.toList i).symm
    have pk : (k :: (keys es).eraseIdx i).Perm (keys es) := erase_perm (keys es) i k z
    have nd : (k :: (keys es).eraseIdx i).Nodup := pk.nodup_iff.mpr R.nd
    refine wpAny_pure (hQ true _ _ _ _ ⟨store_at R.obj rfl, fun e he => R.good e ?_, ?_, ?_, ?_, ?_, ?_⟩ (fun j => ?_) (by omega) (Heap.SameBut.update s.heap a _))
    · rw [er] at he
      exact List.mem_of_mem_eraseIdx he
    · show (keys (SetTable.eraseAt es i)).Nodup
      rw [ek]
      exact (List.nodup_cons.mp nd).2
    · have := R.few
      omega
    · rw [ed]
      unfold SetTable.fits SetTable.fill
      rw [Bool.and_eq_true, beq_iff_eq, decide_eq_true_eq]
      simp only
      rw [l3]
      exact ⟨by omega, by omega⟩
    · rw [ed]
      show Ris (SetTable.eraseAt t.place i).toList
      rw [er]
      exact List.Pairwise.sublist (List.eraseIdx_sublist _ _) R.ris
    · rw [ed]
      exact R.led
    · rw [ek, ← (pk.mem_iff (a := j)), List.mem_cons]
      constructor
      · intro q
        exact ⟨.inr q, fun e => (List.nodup_cons.mp nd).1 (e ▸ q)⟩
      · rintro ⟨q | q, q2⟩
        · exact absurd q q2
        · exact q

theorem strike_all {r : Addr} (f : (Int × Value) → PUnit → Sem (ForInStep PUnit)) (K : Shared → Prop) (hK : ∀ s1 h', Heap.SameBut r s1.heap h' → K s1 → K { s1 with heap := h' })
    (hf : ∀ e k tk s1 Q', e = (hashInt k, Value.int k tk) → K s1 → (wpAny (model P w) A (setDiscardHashed r (.int k tk) (hashInt k)) (fun _ s2 => K s2 ∧ Q' (.yield ⟨⟩) s2) E s1) → wpAny (model P w) A (f e ⟨⟩) Q' E s1)
    (ys : Array (Int × Value)) (g : ∀ e ∈ ys.toList, GoodE e) {es : Array (Int × Value)} {ep : Nat} {t : SetTable} (R : SetX w s.heap r es ep t) (hs : K s) {Q : PUnit → Shared → Prop}
    (hQ : ∀ h' es' ep' t', SetX w h' r es' ep' t' → (∀ k, k ∈ keys es' ↔ k ∈ keys es ∧ k ∉ keys ys) → es'.size ≤ es.size → Heap.SameBut r s.heap h' → K { s with heap := h' } → Q ⟨⟩ { s with heap := h' }) :
    wpAny (model P w) A (forIn ys ⟨⟩ f) Q E s := by
  refine MeetsSeq2.wpAny_forIn_array f (fun rest _ s' => ∃ h' es' ep' t', s' = { s with heap := h' } ∧ SetX w h' r es' ep' t' ∧ (∀ k, (k ∈ keys es' ∧ k ∉ rest.map keyOf) ↔ (k ∈ keys es ∧ k ∉ keys ys)) ∧ es'.size ≤ es.size ∧
    Heap.SameBut r s.heap h' ∧ K { s with heap := h' } ∧ ∀ e ∈ rest, GoodE e) Q ?turn ?fin ys ⟨⟩ ⟨s.heap, es, ep, t, rfl, R, fun k => Iff.rfl, Nat.le_refl _, Heap.SameBut.refl r s.heap, hs, g⟩
  case fin =>
    rintro ⟨⟩ s' ⟨h', es', ep', t', rfl, R', m, l, sb, k, _⟩
    exact hQ h' es' ep' t' R' (fun k => by simpa using m k) l sb k
  case turn =>
    rintro e rest ⟨⟩ s' ⟨h', es', ep', t', rfl, R', m, l, sb, kk, g'⟩
    obtain ⟨k, tk, e1, e2⟩ := g' e List.mem_cons_self
    obtain ⟨eh, ev⟩ := e
    simp only at e1 e2
    subst e1 e2
    refine hf _ k tk _ _ rfl kk ?_
    refine discard_x (s := { s with heap := h' }) R' fun b h2 es2 ep2 t2 R2 m2 l2 sb2 => ?_
    have k2 : K { s with heap := h2 } := hK { s with heap := h' } h2 sb2 kk
    refine ⟨k2, h2, _, _, _, rfl, R2, fun j => ?_, by omega, sb_trans sb sb2, k2, fun e he => g' e (List.mem_cons_of_mem _ he)⟩
    rw [← m j, List.map_cons, List.mem_cons, m2 j]
    show ((j ∈ keys es' ∧ j ≠ k) ∧ _) ↔ (j ∈ keys es' ∧ ¬ (j = k ∨ _))
    constructor
    · rintro ⟨⟨z1, z2⟩, z3⟩
      exact ⟨z1, fun z => z.elim z2 z3⟩
    · rintro ⟨z1, z2⟩
      exact ⟨⟨z1, fun z => z2 (.inl z)⟩, fun z => z2 (.inr z)⟩

theorem tidy_x {a : Addr} {es : Array (Int × Value)} {ep : Nat} {t : SetTable} {Q : Unit → Shared → Prop} (R : SetX w s.heap a es ep t) (hl : es.size ≤ 31)
    (hQ : ∀ h' es' ep' t', SetX w h' a es' ep' t' → es'.toList.Perm es.toList → Heap.SameBut a s.heap h' → Q () { s with heap := h' }) :
    wpAny (model P w) A (setTidy a) Q E s := by
  unfold setTidy
  refine wpAny_bind (wpAny_setState_of R.obj rfl R.fits ?_)
  dsimp only
  have eg : SetTable.grown es.size = es.size * 4 := if_neg (by omega)
  split
  · rw [eg]
    exact relay_x R (by omega) (by omega) fun h' es' t' sb X p _ _ _ => hQ h' es' _ t' X p sb
  · exact wpAny_pure (hQ s.heap es ep t R (List.Perm.refl _) (Heap.SameBut.refl a s.heap))
end
end Cs

set_option Elab.async false
set_option linter.all false
set_option maxRecDepth 100000
set_option maxHeartbeats 2000000
namespace Cs
open PySem PySem.Spec PyProof.Rows L2
section
variable {P : Program} {w : World} {A : Around} {E : Value → Shared → Prop} {s : Shared}
/-- a - b -/
theorem sub_x {id : String} {a b : Addr} {ea eb : Array (Int × Value)} {pa pb : Nat} {ta tb : SetTable} {Q : Value → Shared → Prop} (hne : b ≠ a) (RA : SetX w s.heap a ea pa ta) (RB : SetX w s.heap b eb pb tb)
    (hl : ea.size ≤ 31) (hl2 : eb.size ≤ 63)
    (hQ : ∀ h' d' S n, SetR w h' s.heap.objs.size S n → (∀ k, S k = true ↔ k ∈ keys ea ∧ k ∉ keys eb) → n ≤ 31 → Old s.heap h' → Q (.ref s.heap.objs.size) { s with heap := h', drawn := d' }) :
    wpAny (model P w) A (Builtin.Frozenset.difference id a (.ref b)) Q E s := by
  have hsb : scanBound = 4096 := rfl
  have na : a ≠ s.heap.objs.size := Nat.ne_of_lt (Heap.lt_size RA.obj)
  have nb : b ≠ s.heap.objs.size := Nat.ne_of_lt (Heap.lt_size RB.obj)
  unfold Builtin.Frozenset.difference
  dsimp only
  refine wpAny_bind (any_x (RB.ty rfl) ?_)
  refine wp_if_neg (c := ((!true) = true)) (by simp) ?_
  try refine wpAny_bind (wpAny_pure ?_)
  try refine wpAny_bind (wpAny_pure ?_)
  refine wp_if_neg (c := ((!true && b == sysModules) = true)) (by simp) ?_
  try refine wpAny_bind (wpAny_pure ?_)
  refine wp_if_pos (c := (true = true)) rfl ?_
  refine wpAny_bind (size_x RB ?_)
  refine wpAny_bind (size_x RA ?_)
  by_cases c : ea.size / 4 > eb.size
  · refine wp_if_pos c ?_
    refine wpAny_bind (wpAny_rule ?_)
    refine wpAny_bind (copy_x RA (by omega) fun h1 es1 ep1 t1 X1 p1 sb1 => ?_)
    have z1 := perm_size p1
    have RB1 : SetX w h1 b eb pb tb := RB.move fun o e => old_but sb1 _ _ e
    refine wpAny_bind (wpAny_pure ?_)
    refine wpAny_bind (wpAny_holding ?_)
    unfold Builtin.Frozenset.differenceUpdate
    refine wp_if_neg (c := ((Value.ref b == Value.ref s.heap.objs.size) = true)) (by simpa using nb) ?_
    try refine wpAny_bind (wpAny_pure ?_)
    refine wpAny_bind (any_x (RB1.ty rfl) ?_)
    refine wp_if_pos (c := (true = true)) rfl ?_
    refine wpAny_bind (wpAny_pure ?_)
    dsimp only
    refine wpAny_bind (size_x (s := { s with heap := h1 }) RB1 ?_)
    refine wpAny_bind (size_x (s := { s with heap := h1 }) X1 ?_)
    refine wp_if_neg (by omega) ?_
    try refine wpAny_bind (wpAny_pure ?_)
    refine wpAny_bind (wpAny_setEpoch_of RB1.obj rfl RB1.fits ?_)
    refine wpAny_bind (wpAny_holding ?_)
    refine wpAny_bind (unseen_n (s := { s with heap := h1 }) RB1 (fun x hx => by rw [List.mem_singleton.mp hx]; exact ⟨_, _, _, X1⟩) fun ys d py => ?_)
    refine wpAny_bind (strike_all (P := P) (A := A) (E := E) (s := { s with heap := h1, drawn := d }) (r := s.heap.objs.size) _ (fun s1 => SetX w s1.heap b eb pb tb) (fun s1 h' sb k => sx_other k sb nb) ?hf ys
      (fun e he => RB.good e (py.mem_iff.mp he)) X1 RB1 ?hQ)
    case hf =>
      intro e k tk s1 Q' ee kk hwp
      subst ee
      dsimp only
      refine wpAny_bind (wpAny_holding (wpAny_mono hwp (fun b s2 hs2 => ?_) fun _ _ z => z))
      obtain ⟨k2, q2⟩ := hs2
      refine wpAny_bind (unchanged_x k2 ?_)
      exact wpAny_pure q2
    case hQ =>
      intro h2 es2 ep2 t2 X2 m2 l2 sb2 _
      refine wpAny_pure ?_
      refine tidy_x (s := { s with heap := h2, drawn := d }) X2 (by omega) fun h3 es3 ep3 t3 X3 p3 sb3 => ?_
      have z3 := perm_size p3
      refine wpAny_pure (hQ h3 d _ _ (X3.toR (S := fun k => decide (k ∈ keys es3)) (fun k => decide_eq_true_iff) rfl) (fun k => ?_) (by omega) ?_)
      · rw [decide_eq_true_iff, keys_perm p3 k, m2 k, keys_perm p1 k, keys_perm py k]
      · exact old_but (sb_trans sb1 (sb_trans sb2 sb3))
  · refine wp_if_neg c ?_
    try refine wpAny_bind (wpAny_pure ?_)
    refine wpAny_bind (base_x (RA.ty rfl) ?_)
    refine wpAny_bind (new_x ?_)
    refine wpAny_bind (wpAny_pure ?_)
    have RA1 : SetX w (s.heap.push (newObjOf w)) a ea pa ta := RA.move fun o e => old_push _ _ _ _ e
    have RB1 : SetX w (s.heap.push (newObjOf w)) b eb pb tb := RB.move fun o e => old_push _ _ _ _ e
    have R1 := fresh_x (w := w) s.heap
    refine wpAny_bind (wpAny_setEpoch_of RA1.obj rfl RA1.fits ?_)
    refine wpAny_bind (wpAny_holding ?_)
    refine wpAny_bind (wp_if_pos (c := (true = true)) rfl ?_)
    refine unseen_x (s := { s with heap := s.heap.push (newObjOf w) }) RA1 (fun x hx => ?_) R1 fun ys d h2 pf tf py sb2 R2 => ?_
    · rcases List.mem_cons.mp hx with z | z
      · exact ⟨_, _, _, z ▸ RB1⟩
      · rw [List.mem_singleton.mp z]
        exact ⟨_, _, _, R1⟩
    have RA2 := sx_other RA1 sb2 na
    have RB2 := sx_other RB1 sb2 nb
    have zy := perm_size py
    refine wpAny_bind (add_some (P := P) (A := A) (E := E) (s := { s with heap := h2, drawn := d }) (r := s.heap.objs.size) (fun k => decide (k ∉ keys eb)) _ (fun s1 => SetX w s1.heap b eb pb tb ∧ SetX w s1.heap a ea pa ta)
      (fun s1 h' sb k => ⟨sx_other k.1 sb nb, sx_other k.2 sb na⟩) ?hf ys
      (fun e he => RA.good e (py.mem_iff.mp he)) (R2.toR (S := fun _ => false) (fun k => by simp) rfl) (by show 0 + ys.size + 1 < scanBound; omega) ⟨RB2, RA2⟩ ?hQ)
    case hQ =>
      intro h3 S' n' R3 m3 l3 sb3 _
      refine wpAny_pure (wpAny_pure (hQ h3 d S' n' R3 (fun k => ?_) ?_ ?_))
      · rw [m3 k, keys_perm py k, decide_eq_true_iff]
        simp
      · have : n' ≤ 0 + ys.size := l3
        omega
      · exact old_but (sb_trans sb2 sb3)
    case hf =>
      intro e k tk s1 Q' ee kk h1 h0
      subst ee
      dsimp only
      refine wpAny_bind (wpAny_holding ?_)
      refine wp_if_pos (c := (true = true)) rfl ?_
      refine wpAny_bind (found_x kk.1 fun i hi => ?_)
      refine wpAny_bind (wpAny_pure ?_)
      try refine wpAny_bind (wpAny_pure ?_)
      by_cases c : k ∈ keys eb
      · refine wp_if_neg (by rw [hi]; simp [c]) ?_
        refine wpAny_pure ?_
        refine wpAny_bind (unchanged_x kk.2 ?_)
        exact wpAny_pure (h0 (by simp [c]))
      · refine wp_if_pos (by rw [hi]; simp [c]) ?_
        refine wpAny_bind (wpAny_mono (h1 (decide_eq_true c)) (fun b s2 hs2 => ?_) fun _ _ z => z)
        refine wpAny_pure ?_
        refine wpAny_bind (unchanged_x hs2.1.2 ?_)
        exact wpAny_pure hs2.2
end
end Cs

set_option Elab.async false
set_option linter.all false
set_option maxRecDepth 100000
set_option maxHeartbeats 2000000
namespace Cs
open PySem PySem.Spec PyProof.Rows L2
theorem entry_and : entryFor table "set.__and__" = some Builtin.«frozenset.__and__» := entryFor_alias (id' := "frozenset.__and__") (by kernel_rfl) rfl (by decide +kernel) (by kernel_rfl)
theorem entry_or : entryFor table "set.__or__" = some Builtin.«frozenset.__or__» := entryFor_alias (id' := "frozenset.__or__") (by kernel_rfl) rfl (by decide +kernel) (by kernel_rfl)
theorem entry_sub : entryFor table "set.__sub__" = some Builtin.«frozenset.__sub__» := entryFor_alias (id' := "frozenset.__sub__") (by kernel_rfl) rfl (by decide +kernel) (by kernel_rfl)
end Cs

set_option Elab.async false
set_option linter.all false
set_option maxRecDepth 100000
set_option maxHeartbeats 2000000
namespace Cs
open PySem PySem.Spec PyProof.Rows L2
section
variable {P : Program} {w : World} {A : Around} {E : Value → Shared → Prop} {s : Shared}
theorem slot1_x {name : String} {v u : Value} {Q : Value × Value → Shared → Prop} (q : Q (v, u) s) : wpAny (model P w) A (Builtin.Frozenset.slot1 name ⟨[v, u], []⟩) Q E s := by
  unfold Builtin.Frozenset.slot1 slotArgs
  exact wpAny_pure q
theorem op_and_x {a b : Addr} {SA SB : Int → Bool} {na nb : Nat} {Q : Value → Shared → Prop} (hne : b ≠ a) (RA : SetR w s.heap a SA na) (RB : SetR w s.heap b SB nb) (hl : na ≤ 63) (hl2 : nb ≤ 63)
    (hQ : ∀ h' d' S n, SetR w h' s.heap.objs.size S n → (∀ k, S k = true ↔ SA k = true ∧ SB k = true) → n ≤ 63 → Old s.heap h' → Q (.ref s.heap.objs.size) { s with heap := h', drawn := d' }) :
    wpAny (model P w) A (binaryOp .BitAnd (.ref a) (.ref b)) Q E s := by
  obtain ⟨ea, pa, ta, XA, mA, zA⟩ := xOf RA
  obtain ⟨eb, pb, tb, XB, mB, zB⟩ := xOf RB
  have TA : s.TypeIs (.ref a) "set" := XA.ty rfl
  have TB : s.TypeIs (.ref b) "set" := XB.ty rfl
  refine wpAny_binaryOp_same (op := .BitAnd) TA TB F.fills_set_and F.slot_set_and ?_
  refine wpAny_call_entry F.slot_set_and TA entry_and ?_ (F.args_set_and_2 _ _)
  refine wpAny_bind (slot1_x ?_)
  dsimp only
  refine wpAny_bind (wpAny_bind (any_x TA ?_))
  show wpAny _ _ (Builtin.Frozenset.isAnySet (.ref b)) _ _ _
  refine any_x TB ?_
  refine wp_if_neg (c := ((!true) = true)) (by simp) ?_
  refine wpAny_bind (wpAny_pure ?_)
  refine wpAny_bind (and_x hne XA XB (by omega) (by omega) fun h' d' S n R m l o => ?_)
  refine wpAny_pure ⟨_, rfl, (fun z => nomatch z), hQ h' d' S n R (fun k => ?_) l o⟩
  rw [m k, mA k, mB k]
theorem op_or_x {a b : Addr} {SA SB : Int → Bool} {na nb : Nat} {Q : Value → Shared → Prop} (hne : b ≠ a) (RA : SetR w s.heap a SA na) (RB : SetR w s.heap b SB nb) (hl : na + nb ≤ 63)
    (hQ : ∀ h' d' S n, SetR w h' s.heap.objs.size S n → (∀ k, S k = true ↔ SA k = true ∨ SB k = true) → n ≤ na + nb → Old s.heap h' → Q (.ref s.heap.objs.size) { s with heap := h', drawn := d' }) :
    wpAny (model P w) A (binaryOp .BitOr (.ref a) (.ref b)) Q E s := by
  obtain ⟨ea, pa, ta, XA, mA, zA⟩ := xOf RA
  obtain ⟨eb, pb, tb, XB, mB, zB⟩ := xOf RB
  have TA : s.TypeIs (.ref a) "set" := XA.ty rfl
  have TB : s.TypeIs (.ref b) "set" := XB.ty rfl
  have hbs : b ≠ s.heap.objs.size := Nat.ne_of_lt (Heap.lt_size XB.obj)
  refine wpAny_binaryOp_same (op := .BitOr) TA TB F.fills_set_or F.slot_set_or ?_
  refine wpAny_call_entry F.slot_set_or TA entry_or ?_ (F.args_set_or_2 _ _)
  refine wpAny_bind (slot1_x ?_)
  dsimp only
  refine wpAny_bind (wpAny_bind (any_x TA ?_))
  show wpAny _ _ (Builtin.Frozenset.isAnySet (.ref b)) _ _ _
  refine any_x TB ?_
  refine wp_if_neg (c := ((!true) = true)) (by simp) ?_
  refine wpAny_bind (wpAny_pure ?_)
  refine wpAny_bind ?_
  by_cases he : ea = #[]
  · subst he
    refine wpAny_bind (m := Builtin.Frozenset.copyOf a) ?_
    unfold Builtin.Frozenset.copyOf
    refine wpAny_bind (base_x TA ?_)
    refine wpAny_bind (new_x ?_)
    refine wpAny_bind (wpAny_pure ?_)
    have hae : a ≠ s.heap.objs.size := Nat.ne_of_lt (Heap.lt_size XA.obj)
    have XA1 : SetX w (s.heap.push (newObjOf w)) a #[] pa ta := XA.move fun o e => old_push _ _ _ _ e
    have XB1 : SetX w (s.heap.push (newObjOf w)) b eb pb tb := XB.move fun o e => old_push _ _ _ _ e
    refine wpAny_bind ?_
    unfold setMerge
    refine wp_if_neg (c := (s.heap.objs.size == a) = true) (by simpa using hae.symm) ?_
    try refine wpAny_bind (wpAny_pure ?_)
    refine wpAny_bind (wpAny_setState_of XA1.obj rfl XA1.fits ?_)
    dsimp only
    refine wp_if_pos (c := (#[] : Array (Int × Value)).isEmpty = true) rfl ?_
    refine wpAny_pure (wpAny_pure ?_)
    refine wp_if_pos (c := ((Value.ref b != Value.ref a) = true)) (by simpa using hne) ?_
    refine wpAny_bind (wpAny_pure ?_)
    have z0 : (#[] : Array (Int × Value)).size = 0 := rfl
    refine wpAny_bind (wpAny_holding (union_x (s := { s with heap := s.heap.push (newObjOf w) }) hbs (fresh_x s.heap) XB1 (.inr ⟨rfl, rfl, rfl⟩) (by omega) fun h' d' S n R m l sb => ?_))
    refine wpAny_pure (wpAny_pure ⟨_, rfl, (fun z => nomatch z), hQ h' d' S n R (fun k => ?_) (by omega) (old_but sb)⟩)
    rw [m k, mA k, mB k]
  · have hz : ea.size ≠ 0 := fun z => he (by simpa using z)
    refine wpAny_bind (m := Builtin.Frozenset.copyOf a) (copy_x XA (by omega) fun h1 es1 ep1 t1 X1 p1 sb1 => ?_)
    have z1 := perm_size p1
    have XB1 : SetX w h1 b eb pb tb := XB.move fun o e => old_but sb1 _ _ e
    refine wp_if_pos (c := ((Value.ref b != Value.ref a) = true)) (by simpa using hne) ?_
    refine wpAny_bind (wpAny_pure ?_)
    refine wpAny_bind (wpAny_holding (union_x (s := { s with heap := h1 }) hbs X1 XB1 (.inl (by omega)) (by omega) fun h' d' S n R m l sb => ?_))
    refine wpAny_pure (wpAny_pure ⟨_, rfl, (fun z => nomatch z), hQ h' d' S n R (fun k => ?_) (by omega) (old_but (sb_trans sb1 sb))⟩)
    rw [m k, keys_perm p1 k, mA k, mB k]
theorem op_sub_x {a b : Addr} {SA SB : Int → Bool} {na nb : Nat} {Q : Value → Shared → Prop} (hne : b ≠ a) (RA : SetR w s.heap a SA na) (RB : SetR w s.heap b SB nb) (hl : na ≤ 31) (hl2 : nb ≤ 63)
    (hQ : ∀ h' d' S n, SetR w h' s.heap.objs.size S n → (∀ k, S k = true ↔ SA k = true ∧ SB k = false) → n ≤ 31 → Old s.heap h' → Q (.ref s.heap.objs.size) { s with heap := h', drawn := d' }) :
    wpAny (model P w) A (binaryOp .Sub (.ref a) (.ref b)) Q E s := by
  obtain ⟨ea, pa, ta, XA, mA, zA⟩ := xOf RA
  obtain ⟨eb, pb, tb, XB, mB, zB⟩ := xOf RB
  have TA : s.TypeIs (.ref a) "set" := XA.ty rfl
  have TB : s.TypeIs (.ref b) "set" := XB.ty rfl
  refine wpAny_binaryOp_same (op := .Sub) TA TB F.fills_set_sub F.slot_set_sub ?_
  refine wpAny_call_entry F.slot_set_sub TA entry_sub ?_ (F.args_set_sub_2 _ _)
  refine wpAny_bind (slot1_x ?_)
  dsimp only
  refine wpAny_bind (wpAny_bind (any_x TA ?_))
  show wpAny _ _ (Builtin.Frozenset.isAnySet (.ref b)) _ _ _
  refine any_x TB ?_
  refine wp_if_neg (c := ((!true) = true)) (by simp) ?_
  refine wpAny_bind (wpAny_pure ?_)
  refine wpAny_bind (sub_x hne XA XB (by omega) (by omega) fun h' d' S n R m l o => ?_)
  refine wpAny_pure ⟨_, rfl, (fun z => nomatch z), hQ h' d' S n R (fun k => ?_) l o⟩
  rw [m k, mA k, ← mB k]
  simp
end
end Cs

set_option Elab.async false
set_option linter.all false
set_option maxRecDepth 100000
set_option maxHeartbeats 3200000
namespace Cs
open PySem PySem.Spec PyProof.Rows L2
section
variable {P : Program} {w : World} {A : Around} {E : Value → Shared → Prop} {s : Shared}
/-- set(l), l a list of ints: made empty, then its items one by one -/
theorem set_of_list {l : Addr} {items : Array Value} (ns : List Int) {Q : Value → Shared → Prop} (quiet : A.handled = none) (isl : s.heap.IsList l items) (hints : IntsAre items.toList ns) (room : ns.length + 1 < scanBound)
    (fin : ∀ (h' : Heap) (tk c : Nat), SetR w h' s.heap.objs.size (fun j => decide (j ∈ ns)) c → c ≤ ns.length → Old s.heap h' → Q (.ref s.heap.objs.size) { s with heap := h', toks := tk }) :
    wpAny (model P w) A (call (.type "set") [.ref l]) Q E s := by
  have many : items.size = ns.length := (Array.length_toList (xs := items)).symm.trans (IntsAre.length hints)
  have cs := F.called_set
  obtain ⟨mc, mt, mro⟩ := cs.mro
  have made := cs.made
  have under := cs.sub
  refine wpAny_call (codeAny_of_tree ?_)
  show wpAny _ _ (callAny (.type "set") ⟨[.ref l], []⟩) _ _ _
  refine wpAny_pure ⟨Code.quiet_builtin _ (by decide +kernel), ?_⟩
  refine codeAny_builtin F.entry_type_call ?_
  rw [Around.under_plain (weight_type_call_type "set" [Value.ref l] []) rfl]
  have k1 := cs.notType
  have k2 := cs.canCreate
  have k3 := F.typeCall_set_1 (.ref l)
  repeat (any_goals (first | assumption | wp_step))
  refine codeAny_mono (code_set_led1 (.ref l) (E := E) (Q₁ := fun o z => o = .ref s.heap.objs.size ∧ z = { s with heap := s.heap.push (newObjOf w) }) ⟨rfl, rfl⟩) fun r z hz => ?_
  cases r with
  | error e => exact hz
  | ok fl =>
    cases fl with
    | ret o =>
      obtain ⟨rfl, rfl⟩ := hz
      have here : (s.heap.push (newObjOf w)).get? s.heap.objs.size = some (newObjOf w) := Heap.get?_push_size _ rfl
      have ty : Shared.TypeIs { s with heap := s.heap.push (newObjOf w) } (.ref s.heap.objs.size) "set" := ⟨_, here, rfl⟩
      have k4 := cs.init.lookup
      have k5 := cs.init.bind (.ref s.heap.objs.size)
      repeat (any_goals (first | assumption | wp_step))
      refine codeAny_mono (codeAny_call_builtin (R := wants (fun r y => r = .none ∧ ∃ h' tk c, y = { s with heap := h', toks := tk } ∧ SetR w h' s.heap.objs.size (fun j => decide (j ∈ ns)) c ∧ c ≤ ns.length ∧ Old s.heap h') E)
        cs.init.plain F.entry_set_init (check_set_init_1 ty ?_)) fun r2 y hy => ?_
      · obtain ⟨⟨oc, od, oda, osl⟩, lo, lc, ln, ld⟩ := isl
        simp only at lc ld
        subst lc ld
        have isl2 : (s.heap.push (newObjOf w)).IsList l items := ⟨_, Heap.get?_push_of_some _ lo, rfl, ln, rfl⟩
        have ll : l < s.heap.objs.size := Heap.lt_size lo
        have isl3 := Heap.get?_push_of_some (newObjOf w) lo
        have n1 := PySem.F.sub_list_set
        have n2 := PySem.F.sub_list_frozenset
        have n3 : (Value.type "list" == Value.type "dict") = false := by decide
        unfold Builtin.«set.__init__» noKeywords Builtin.Frozenset.updateFrom
        generalize hp : pyIter = iterOf
        wp_walk
        subst hp
        refine wpAny_pyIter_list isl2 ?_
        refine wpAny_bind (wpAny_runValue ?_)
        have q3 : A.in1.in1.in1.handled = none := by simp [quiet]
        have sz : (s.heap.push (newObjOf w)).objs.size = s.heap.objs.size + 1 := Heap.size_push ..
        have apart : l ≠ (s.heap.push (newObjOf w)).objs.size := by
          rw [sz]
          exact Nat.ne_of_lt (Nat.lt_succ_of_lt ll)
        have away : s.heap.objs.size ∉ [(s.heap.push (newObjOf w)).objs.size, l] := by
          rw [sz]
          simp only [List.mem_cons, List.not_mem_nil, or_false, not_or]
          exact ⟨Nat.ne_of_lt (Nat.lt_succ_self _), Nat.ne_of_gt ll⟩
        have val : ∀ (i : Nat) (v : Value), items[i]? = some v → ∃ k t, ns[i]? = some k ∧ v = .int k t := fun i v hv => by
          have hi : i < ns.length := by rw [← many]; exact (Array.getElem?_eq_some_iff.mp hv).1
          obtain ⟨t, e⟩ := IntsAre.int_at hints i v (by rw [Array.getElem?_toList]; exact hv)
          exact ⟨ns[i], t, List.getElem?_eq_getElem hi, by rw [e, List.getD_eq_getElem?_getD, List.getElem?_eq_getElem hi] <;> rfl⟩
        refine set_update_ints ((Walks.list q3 _ l apart items).toS) s.heap.objs.size away ns many room val (items.size - 0) 0 _ (by omega) (Nat.zero_le _) ⟨⟨_, Heap.get?_push_size _ rfl, rfl, rfl⟩, (isl2.push _)⟩ ?start ?stop
        case start => exact ⟨0, Nat.le_refl 0, setR_new_at (Heap.get?_push_of_some _ here)⟩
        case stop =>
          intro s2 c2 hm hc hS
          obtain ⟨h2, g2, d2, t2, o2⟩ := s2
          have eg : g2 = s.gens := hm.gens
          have ed : d2 = s.drawn := hm.drawn
          have eo : o2 = s.os := hm.os
          subst eg ed eo
          show wpAny _ _ _ _ _ _
          refine wpAny_pure ?_
          show wpAny _ _ (ret Value.none) _ _ _
          refine wpAny_pure ⟨rfl, h2, t2, c2, rfl, hS, by omega, fun b u e => ?_⟩
          have hb := Heap.lt_size e
          refine hm.heap b u ?_ (Heap.get?_push_of_some _ (Heap.get?_push_of_some _ e))
          rw [sz]
          simp only [List.mem_cons, List.not_mem_nil, or_false, not_or]
          exact ⟨Nat.ne_of_lt hb, Nat.ne_of_lt (Nat.lt_succ_of_lt hb)⟩
      · cases r2 with
        | error e => exact hy
        | ok f2 =>
          cases f2 with
          | ret r =>
            obtain ⟨rfl, h', tk, c, rfl, hS, hc, old⟩ := hy
            repeat (any_goals (first | assumption | wp_step))
            exact fin h' tk c hS hc old
          | _ => exact hy.elim
    | _ => exact hz.elim
end
end Cs

set_option Elab.async false
set_option linter.all false
set_option maxRecDepth 100000
set_option maxHeartbeats 2000000
namespace Cs
open PySem PySem.Spec PyProof.Rows L2
section
variable {X : Cx}
/-- set(l) -/
def rSetI (K : PySem.W.Frag) (w : World) : List V → Hp → VK → Prop := fun xs H Q => ∃ (l : Addr) (ns : List Int), xs = [V.ref l] ∧ SqL K H l (ns.map V.int) ∧ ns.length ≤ 4000 ∧
  ∀ (p : Addr) (c : Nat), H p = none → c ≤ ns.length → Q (.ref p) (upd H p (SetO w p (fun j => decide (j ∈ ns)) c))
theorem cr_setI (hc : X.calm = true) : CallR X (.type "set") (rSetI X.K X.w) := by
  intro pins s σ H xs us Q I r h
  obtain ⟨l, ns, rfl, hq, hl, q⟩ := h
  rw [Vals.ref1 r]
  obtain ⟨its, rv, pl, hz⟩ := I.list hq
  refine set_of_list ns (I.ok.hd hc) pl.isList (by simpa using ints_of_vals rv) (by have : scanBound = 4096 := rfl; omega) fun h' tk c hS hcn old => ?_
  exact ⟨.ref _, upd H s.heap.objs.size (SetO X.w s.heap.objs.size (fun j => decide (j ∈ ns)) c), I.laid (t' := tk) old (Nat.le_refl _) (setO_new hS), rfl, q _ c (I.hok.fresh (Nat.le_refl _)) hcn⟩
theorem laidD {pins : List (Addr × Obj)} {σ : L2.St} {H : Hp} {s : Shared} {h' : Heap} {d' : Drawn} {S : Int → Bool} {n : Nat} (I : Inv X pins σ H s) (old : Old s.heap h') (R : SetR X.w h' s.heap.objs.size S n) :
    Inv X pins σ (upd H s.heap.objs.size (SetO X.w s.heap.objs.size S n)) { s with heap := h', drawn := d' } :=
  I.call (ch := []) (g' := s.gens) (t' := s.toks) (Un.laid old (Nat.le_refl _) (I.hok.fresh (Nat.le_refl _))) (I.hok.laid old (Nat.le_refl _) (setO_new R)) I.bare (fun _ z => nomatch z)
/-- a & b, a | b, a - b of two sets of ints -/
def rSetOp (w : World) (most : Nat → Nat → Prop) (mem : (Int → Bool) → (Int → Bool) → Int → Prop) : V → V → Hp → VK → Prop := fun x y H Q => ∃ (a b : Addr) (SA SB : Int → Bool) (na nb : Nat), x = V.ref a ∧ y = V.ref b ∧ b ≠ a ∧
  H a = some (SetO w a SA na) ∧ H b = some (SetO w b SB nb) ∧ most na nb ∧
  ∀ (p : Addr) (S : Int → Bool) (n : Nat), H p = none → (∀ k, S k = true ↔ mem SA SB k) → n ≤ 63 → Q (.ref p) (upd H p (SetO w p S n))
abbrev mAnd : Nat → Nat → Prop := fun na nb => na ≤ 63 ∧ nb ≤ 63
abbrev mOr : Nat → Nat → Prop := fun na nb => na + nb ≤ 63
abbrev mSub : Nat → Nat → Prop := fun na nb => na ≤ 31 ∧ nb ≤ 63
abbrev eAnd : (Int → Bool) → (Int → Bool) → Int → Prop := fun A B k => A k = true ∧ B k = true
abbrev eOr : (Int → Bool) → (Int → Bool) → Int → Prop := fun A B k => A k = true ∨ B k = true
abbrev eSub : (Int → Bool) → (Int → Bool) → Int → Prop := fun A B k => A k = true ∧ B k = false
theorem op_sand : OpR X (binaryOp .BitAnd) (rSetOp X.w mAnd eAnd) := by
  intro pins s σ H x y v u Q I rx ry h
  obtain ⟨a, b, SA, SB, na, nb, rfl, rfl, hne, ha, hb, hm, q⟩ := h
  cases rx
  cases ry
  exact op_and_x hne (setO_get I ha) (setO_get I hb) hm.1 hm.2 fun h' d' S n R m l old => ⟨.ref _, _, laidD I old R, rfl, q _ S n (I.hok.fresh (Nat.le_refl _)) m l⟩
theorem op_sor : OpR X (binaryOp .BitOr) (rSetOp X.w mOr eOr) := by
  intro pins s σ H x y v u Q I rx ry h
  obtain ⟨a, b, SA, SB, na, nb, rfl, rfl, hne, ha, hb, hm, q⟩ := h
  cases rx
  cases ry
  have hm' : na + nb ≤ 63 := hm
  exact op_or_x hne (setO_get I ha) (setO_get I hb) hm fun h' d' S n R m l old => ⟨.ref _, _, laidD I old R, rfl, q _ S n (I.hok.fresh (Nat.le_refl _)) m (by omega)⟩
theorem op_ssub : OpR X (binaryOp .Sub) (rSetOp X.w mSub eSub) := by
  intro pins s σ H x y v u Q I rx ry h
  obtain ⟨a, b, SA, SB, na, nb, rfl, rfl, hne, ha, hb, hm, q⟩ := h
  cases rx
  cases ry
  exact op_sub_x hne (setO_get I ha) (setO_get I hb) hm.1 hm.2 fun h' d' S n R m l old => ⟨.ref _, _, laidD I old R, rfl, q _ S n (I.hok.fresh (Nat.le_refl _)) m (by omega)⟩
/-- len(s) of a set of ints: none where it has no members -/
def rLenSet (w : World) : List V → Hp → VK → Prop := fun xs H Q => ∃ (a : Addr) (S : Int → Bool) (n : Nat), xs = [V.ref a] ∧ H a = some (SetO w a S n) ∧ (∀ c : Nat, (c = 0 ↔ ∀ k, S k = false) → Q (.int (c : Int)) H)
theorem call_len_sI : CallR X (.builtin "len") (rLenSet X.w) := by
  intro pins s σ H xs us Q I r h
  obtain ⟨a, S, n, rfl, ha, q⟩ := h
  rw [Vals.ref1 r]
  obtain ⟨es, ep, t, R, m, hn⟩ := xOf (setO_get I ha)
  refine call_len_set R.obj ⟨rfl, rfl, rfl⟩ rfl R.fits (by have := R.few; have : scanBound = 4096 := rfl; omega) ⟨.int (es.size : Nat), H, I.tok _, ⟨_, rfl⟩, q _ ?_⟩
  constructor
  · intro z k
    have e : es = #[] := by simpa using z
    subst e
    cases c : S k with
    | false => rfl
    | true => exact absurd ((m k).1 c) (by simp)
  · intro z
    cases c : es.toList with
    | nil =>
      rw [← Array.length_toList, c]
      rfl
    | cons e r =>
      have : S (keyOf e) = true := (m _).2 (by rw [c]; simp)
      rw [z] at this
      cases this
end
end Cs

set_option Elab.async false
set_option linter.all false
set_option maxRecDepth 100000
set_option maxHeartbeats 2000000
/-! != of two lists whose items are equal, deep -/
namespace Cs
open PySem PySem.Spec PyProof.Rows L2
open AutoSeq1 (wpAny_loadPart')
open MeetsSeq MeetsSeq2 MeetsSeq3 SeqRoads2 SeqAt
section
variable {prog : Program} {w : World}
abbrev seqO (us : Array Value) (n : Nat) (dd : Option Addr) (sl : Array (Option Value)) : Obj := { cls := .type "list", dict := dd, data := .seq us n, slots := sl }
abbrev AllP (prog : Program) (w : World) (A : Around) (s : Shared) (us ws : Array Value) : Prop := ∀ j (h1 : j < us.size) (h2 : j < ws.size), EqP prog w A s us[j] ws[j] true
theorem ne_stepP (a c : Addr) (us ws : Array Value) (n m : Nat) (d1 d2 : Option Addr) (s1 s2 : Array (Option Value)) (eq : us.size = ws.size) :
    ∀ (k i : Nat), us.size - i = k → MeetsIn prog w (Builtin.«list.__eq__.loop» ⟨[.ref a, .ref c, rawInt i, rawInt 3], []⟩)
      (fun A R s => s.heap.get? a = some (seqO us n d1 s1) ∧ s.heap.get? c = some (seqO ws m d2 s2) ∧ AllP prog w A.in1 s us ws ∧ R (.ok (.ret (.bool false))) s) := by
  intro k
  induction k with
  | zero =>
    intro i le A R s h
    obtain ⟨hp, g, d, tk, os⟩ := s
    obtain ⟨ha, hc, _, q⟩ := h
    wp_walk using wpAny_loadPart' ha, wpAny_loadPart' hc
    rw [show us[((i : Nat) : Int).toNat]? = none by simp; omega, show ws[((i : Nat) : Int).toNat]? = none by simp; omega]
    wp_walk using wpAny_loadPart' ha, wpAny_loadPart' hc
    show R (.ok (.ret (.bool (us.size != ws.size)))) _
    rw [eq]
    simpa using q
  | succ k ih =>
    intro i le A R s h
    obtain ⟨hp, g, d, tk, os⟩ := s
    obtain ⟨ha, hc, al, q⟩ := h
    have i1 : i < us.size := by omega
    have i2 : i < ws.size := by omega
    wp_walk using wpAny_loadPart' ha, wpAny_loadPart' hc
    rw [show us[((i : Nat) : Int).toNat]? = some us[i] by simp [i1], show ws[((i : Nat) : Int).toNat]? = some ws[i] by simp [i2]]
    refine wpAny_bind (al i i1 i2 _ _ ?_)
    wp_walk
    rw [show ((i : Int) + 1) = ((i + 1 : Nat) : Int) by push_cast; rfl]
    refine ⟨plainId_quiet plain_eq_loop _, codeAny_builtin entry_eq_loop ?_⟩
    rw [Around.under_plainId plain_eq_loop _]
    exact ih (i + 1) (by omega) A R _ ⟨ha, hc, al, q⟩
theorem ne_listP (a c : Addr) (us ws : Array Value) (n m : Nat) (d1 d2 : Option Addr) (s1 s2 : Array (Option Value)) (eq : us.size = ws.size) :
    MeetsIn prog w (Builtin.«list.__ne__» ⟨[.ref a, .ref c], []⟩)
      (fun A R s => s.heap.get? a = some (seqO us n d1 s1) ∧ s.heap.get? c = some (seqO ws m d2 s2) ∧ AllP prog w A.in1 s us ws ∧ R (.ok (.ret (.bool false))) s) := by
  intro A R s h
  obtain ⟨hp, g, d, tk, os⟩ := s
  obtain ⟨ha, hc, al, q⟩ := h
  have sub := AutoSeq1.sub_list_list
  have same : ¬ (us.size != ws.size) = true := by simp [eq]
  wp_walk using wpAny_loadPart' ha, wpAny_loadPart' hc
  refine ⟨plainId_quiet plain_eq_loop _, codeAny_builtin entry_eq_loop ?_⟩
  rw [Around.under_plainId plain_eq_loop _]
  exact ne_stepP a c us ws n m d1 d2 s1 s2 eq _ 0 rfl A R _ ⟨ha, hc, al, q⟩
theorem rc_neP {A : Around} {s : Shared} {a c : Addr} {us ws : Array Value} (ha : s.heap.IsList a us) (hc : s.heap.IsList c ws) (eq : us.size = ws.size) (hu : A.units < cLine)
    (al : AllP prog w A.in1 s us ws) (E Q : Value → Shared → Prop) (q : Q (.bool false) s) : wpAny (model prog w) A (richCompare .NotEq (.ref a) (.ref c)) Q E s := by
  obtain ⟨⟨c1, d1, x1, s1⟩, o1, e1, n, f1⟩ := id ha
  obtain ⟨⟨c2, d2, x2, s2⟩, o2, e2, m, f2⟩ := id hc
  simp only at e1 f1 e2 f2
  subst e1 f1 e2 f2
  have ta : s.TypeIs (.ref a) "list" := ⟨_, o1, rfl⟩
  have tc : s.TypeIs (.ref c) "list" := ⟨_, o2, rfl⟩
  exact wpAny_richCompare_same_room (op := .NotEq) ta tc F.slot_list_ne (call_meetsIn F.slot_list_ne ta F.entry_list_ne (F.args_list_ne_2 _ _) (ne_listP a c us ws n m d1 d2 s1 s2 eq)
    ⟨o1, o2, al, show Value.bool false ≠ Value.notImplemented ∧ Q (.bool false) s from ⟨(fun x => nomatch x), q⟩⟩) hu
end
section
variable {X : Cx}
/-- a != b, two lists that are equal -/
def rNeV (K : PySem.W.Frag) : R2 := fun x y H Q => ∃ a b xs ys, x = .ref a ∧ y = .ref b ∧ SqL K H a xs ∧ SqL K H b ys ∧ (∃ n, n ≤ 60 ∧ Paired (EqV K H n) xs ys) ∧ Q (.bl false) H
theorem op_neV (hu : X.A.units + 64 < cLine) : OpR X (compareOp .NotEq) (rNeV X.K) := by
  intro pins s σ H x y v u Q I rx ry h
  obtain ⟨a, b, xs, ys, rfl, rfl, ha, hb, ⟨n, hn, hp⟩, q⟩ := h
  cases (show v = Value.ref a from rx)
  cases (show u = Value.ref b from ry)
  obtain ⟨us, r1, p1, _⟩ := I.list ha
  obtain ⟨ws, r2, p2, _⟩ := I.list hb
  have hsz : us.toArray.size = ws.toArray.size := by
    rw [List.size_toArray, List.size_toArray, ← r1.length, ← r2.length]
    exact Paired.length hp
  refine rc_neP p1.isList p2.isList hsz (by omega) (fun j h1 h2 => ?_) _ _ ⟨.bl false, H, I, rfl, q⟩
  have k := items_run (eqV_run I n X.A.in1 (by show X.A.units + 1 + n < cLine; omega)) hp r1 r2 j (by simpa using h1) (by simpa using h2)
  simpa using k
end
end Cs

set_option Elab.async false
set_option linter.all false
set_option maxRecDepth 100000
set_option maxHeartbeats 2000000
namespace K4
open PySem PySem.Spec PyProof.Rows L2 Cs
def topS (i : Nat) : Stmt := PySem.Challenge.pw_curbdesk_k04_meet_and_join_of_boxes.main.body.getD i (.Pass ⟨0, 0, 0, 0⟩)
structure Bt (mg : Str → Option Value) : Prop where
  sorted : mg "sorted" = none
  set : mg "set" = none
  len : mg "len" = none
  isi : mg "isinstance" = none
  int : mg "int" = none
  bool : mg "bool" = none
  list : mg "list" = none
  all : mg "all" = none
  range : mg "range" = none
  dict : mg "dict" = none
abbrev Srt (ms : List Int) : Prop := ms.Pairwise (· < ·)
theorem same_new {H : Hp} {p : Addr} {o : HO} (h : H p = none) : Same H (upd H p o) := fun b x e => by
  rw [upd_ne (ne_of_none e h)]
  exact e
theorem same_at {H H' : Hp} {p : Addr} {o : HO} (s : Same H H') (h : H p = none) : Same H (upd H' p o) := fun b x e => by
  rw [upd_ne (ne_of_none e h)]
  exact s _ _ e
theorem sl_map {K : PySem.W.Frag} {H : Hp} {a : Addr} {xs : List V} (h : H a = some (.lst xs)) : SqL K H a xs := .inl (.inl h)
theorem and_iff (ns ks : List Int) (k : Int) : eAnd (fun j => decide (j ∈ ns)) (fun j => decide (j ∈ ks)) k ↔ k ∈ ns ∧ k ∈ ks := by
  show (decide (k ∈ ns) = true ∧ decide (k ∈ ks) = true) ↔ _
  simp
theorem or_iff' (ns ks : List Int) (k : Int) : eOr (fun j => decide (j ∈ ns)) (fun j => decide (j ∈ ks)) k ↔ k ∈ ns ∨ k ∈ ks := by
  show (decide (k ∈ ns) = true ∨ decide (k ∈ ks) = true) ↔ _
  simp
theorem sub_iff (ns ks : List Int) (k : Int) : eSub (fun j => decide (j ∈ ns)) (fun j => decide (j ∈ ks)) k ↔ k ∈ ns ∧ k ∉ ks := by
  show (decide (k ∈ ns) = true ∧ decide (k ∈ ks) = false) ↔ _
  simp
section
variable {P : Program} {w : World} {K : PySem.W.Frag} {mg : Str → Option Value} {base : Heap}
/-! ### the program: sides -/
abbrev sCommon : Stmt := topS 1
abbrev sUnited : Stmt := topS 2
abbrev sWithin : Stmt := topS 3
theorem scCommon : FnScope ["first", "second"] ["first", "second"] (defScope sCommon) := ⟨rfl, rfl, rfl, by decide +kernel, rfl, by decide +kernel, by decide +kernel⟩
theorem scUnited : FnScope ["first", "second"] ["first", "second"] (defScope sUnited) := ⟨rfl, rfl, rfl, by decide +kernel, rfl, by decide +kernel, by decide +kernel⟩
theorem scWithin : FnScope ["first", "second"] ["first", "second"] (defScope sWithin) := ⟨rfl, rfl, rfl, by decide +kernel, rfl, by decide +kernel, by decide +kernel⟩
/-- two lists, and what is said of the members -/
def spTwo (K : PySem.W.Frag) (mem : List Int → List Int → Int → Prop) : Sp := fun vs H Q _ => ∃ (a b : Addr) (ns ks : List Int), vs = [.ref a, .ref b] ∧ SqL K H a (ns.map V.int) ∧ SqL K H b (ks.map V.int) ∧ ns.length ≤ 31 ∧ ks.length ≤ 31 ∧
  ∀ H' p ms, Same H H' → H p = none → H' p = some (.lst (ms.map V.int)) → Srt ms → (∀ k, k ∈ ms ↔ mem ns ks k) → ms.length ≤ 63 → Q (.ref p) H'
def spWithin (K : PySem.W.Frag) : Sp := fun vs H Q _ => ∃ (a b : Addr) (ns ks : List Int), vs = [.ref a, .ref b] ∧ SqL K H a (ns.map V.int) ∧ SqL K H b (ks.map V.int) ∧ ns.length ≤ 31 ∧ ks.length ≤ 31 ∧
  ∀ H' c, Same H H' → (c = true ↔ ∀ k ∈ ns, k ∈ ks) → Q (.bl c) H'
theorem ok_common {f : Addr} {fd : FuncData} {k : Nat} (F : Fun K "common" "common" sCommon f fd) (B : Bt mg) : FnOk P w K mg base CX0 (k + 1) f fd ["first", "second"] (spTwo K fun ns ks k => k ∈ ns ∧ k ∈ ks) := by
  refine F.ok scCommon (fun vs H Q E h => ?_) (fun cdv A outer s H vs Q E hr h => ?_)
  · obtain ⟨a, b, ns, ks, rfl, _⟩ := h
    rfl
  · obtain ⟨a, b, ns, ks, rfl, hA, hB, la, lb, q⟩ := h
    refine ⟨_, pss_one (ps_ret (pe_callB (cr_sortedSet rfl) (by rfl) B.sorted boot_sorted (pa_cons (pe_op op_sand (pe_callTy (cr_setI rfl) (by rfl) B.set PyProof.Rows.boot_set (pa_cons (pv 0) pa_nil)) (pe_callTy (cr_setI rfl) (by rfl) B.set PyProof.Rows.boot_set (pa_cons (pv 1) pa_nil))) pa_nil))), ?_⟩
    refine ⟨.ref a, rfl, a, ns, rfl, hA, by omega, fun p c np hc => ?_⟩
    have s1 := same_new (o := SetO w p (fun j => decide (j ∈ ns)) c) np
    refine ⟨.ref b, rfl, b, ks, rfl, s1.seq hB, by omega, fun p2 c2 np2 hc2 => ?_⟩
    have ne : p2 ≠ p := fun e => by rw [e, upd_same] at np2; cases np2
    have s2 := s1.trans (same_new (o := SetO w p2 (fun j => decide (j ∈ ks)) c2) np2)
    refine ⟨p, p2, _, _, c, c2, rfl, rfl, ne, by rw [upd_ne ne.symm, upd_same], upd_same, ⟨by omega, by omega⟩, fun r S n nr hm hn => ?_⟩
    have s3 := s2.trans (same_new (o := SetO w r S n) nr)
    refine ⟨r, S, n, rfl, upd_same, by omega, fun ms z hs hk hl nz => ?_⟩
    exact q _ z ms (same_at s3 (s3.free nz)) (s3.free nz) upd_same hs (fun k => (hk k).trans ((hm k).trans (and_iff ns ks k))) (by omega)
theorem ok_united {f : Addr} {fd : FuncData} {k : Nat} (F : Fun K "united" "united" sUnited f fd) (B : Bt mg) : FnOk P w K mg base CX0 (k + 1) f fd ["first", "second"] (spTwo K fun ns ks k => k ∈ ns ∨ k ∈ ks) := by
  refine F.ok scUnited (fun vs H Q E h => ?_) (fun cdv A outer s H vs Q E hr h => ?_)
  · obtain ⟨a, b, ns, ks, rfl, _⟩ := h
    rfl
  · obtain ⟨a, b, ns, ks, rfl, hA, hB, la, lb, q⟩ := h
    refine ⟨_, pss_one (ps_ret (pe_callB (cr_sortedSet rfl) (by rfl) B.sorted boot_sorted (pa_cons (pe_op op_sor (pe_callTy (cr_setI rfl) (by rfl) B.set PyProof.Rows.boot_set (pa_cons (pv 0) pa_nil)) (pe_callTy (cr_setI rfl) (by rfl) B.set PyProof.Rows.boot_set (pa_cons (pv 1) pa_nil))) pa_nil))), ?_⟩
    refine ⟨.ref a, rfl, a, ns, rfl, hA, by omega, fun p c np hc => ?_⟩
    have s1 := same_new (o := SetO w p (fun j => decide (j ∈ ns)) c) np
    refine ⟨.ref b, rfl, b, ks, rfl, s1.seq hB, by omega, fun p2 c2 np2 hc2 => ?_⟩
    have ne : p2 ≠ p := fun e => by rw [e, upd_same] at np2; cases np2
    have s2 := s1.trans (same_new (o := SetO w p2 (fun j => decide (j ∈ ks)) c2) np2)
    refine ⟨p, p2, _, _, c, c2, rfl, rfl, ne, by rw [upd_ne ne.symm, upd_same], upd_same, by show c + c2 ≤ 63; omega, fun r S n nr hm hn => ?_⟩
    have s3 := s2.trans (same_new (o := SetO w r S n) nr)
    refine ⟨r, S, n, rfl, upd_same, by omega, fun ms z hs hk hl nz => ?_⟩
    exact q _ z ms (same_at s3 (s3.free nz)) (s3.free nz) upd_same hs (fun k => (hk k).trans ((hm k).trans (or_iff' ns ks k))) (by omega)
theorem ok_within {f : Addr} {fd : FuncData} {k : Nat} (F : Fun K "is_within" "is_within" sWithin f fd) (B : Bt mg) : FnOk P w K mg base CX0 (k + 1) f fd ["first", "second"] (spWithin K) := by
  refine F.ok scWithin (fun vs H Q E h => ?_) (fun cdv A outer s H vs Q E hr h => ?_)
  · obtain ⟨a, b, ns, ks, rfl, _⟩ := h
    rfl
  · obtain ⟨a, b, ns, ks, rfl, hA, hB, la, lb, q⟩ := h
    refine ⟨_, pss_one (ps_ret (pe_cmpR op_eq (pe_callB call_len_sI (by rfl) B.len PySem.boot_len (pa_cons (pe_op op_ssub (pe_callTy (cr_setI rfl) (by rfl) B.set PyProof.Rows.boot_set (pa_cons (pv 0) pa_nil)) (pe_callTy (cr_setI rfl) (by rfl) B.set PyProof.Rows.boot_set (pa_cons (pv 1) pa_nil))) pa_nil)) pe_int (nomark _))), ?_⟩
    refine ⟨.ref a, rfl, a, ns, rfl, hA, by omega, fun p c np hc => ?_⟩
    have s1 := same_new (o := SetO w p (fun j => decide (j ∈ ns)) c) np
    refine ⟨.ref b, rfl, b, ks, rfl, s1.seq hB, by omega, fun p2 c2 np2 hc2 => ?_⟩
    have ne : p2 ≠ p := fun e => by rw [e, upd_same] at np2; cases np2
    have s2 := s1.trans (same_new (o := SetO w p2 (fun j => decide (j ∈ ks)) c2) np2)
    refine ⟨p, p2, _, _, c, c2, rfl, rfl, ne, by rw [upd_ne ne.symm, upd_same], upd_same, ⟨by omega, by omega⟩, fun r S n nr hm hn => ?_⟩
    have s3 := s2.trans (same_new (o := SetO w r S n) nr)
    refine ⟨r, S, n, rfl, upd_same, fun m hz => ?_⟩
    refine ⟨rfl, q _ _ s3 ?_⟩
    have e1 : (decide (V.int (m : Int) = V.int 0) = true) ↔ m = 0 := by
      rw [decide_eq_true_iff]
      constructor
      · intro e
        have := V.int.inj e
        omega
      · intro e
        rw [e]
        rfl
    rw [e1, hz]
    constructor
    · intro a0 k hk
      by_cases hks : k ∈ ks
      · exact hks
      · exfalso
        have := (hm k).2 ⟨decide_eq_true hk, decide_eq_false hks⟩
        rw [a0 k] at this
        cases this
    · intro a0 k
      cases c : S k with
      | false => rfl
      | true =>
        obtain ⟨h1, h2⟩ := (hm k).1 c
        exact absurd (a0 k (of_decide_eq_true h1)) (of_decide_eq_false h2)
end
end K4

set_option Elab.async false
set_option linter.all false
set_option maxRecDepth 100000
set_option maxHeartbeats 2000000
namespace K4
open PySem PySem.Spec PyProof.Rows L2 Cs
section
variable {P : Program} {w : World} {K : PySem.W.Frag} {mg : Str → Option Value} {base : Heap}
abbrev sIsInt : Stmt := topS 12
abbrev sStream : Stmt := topS 13
abbrev sDraw : Stmt := topS 14
theorem scIsInt : FnScope ["_law_actual"] ["_law_actual"] (defScope sIsInt) := ⟨rfl, rfl, rfl, by decide +kernel, rfl, by decide +kernel, by decide +kernel⟩
theorem scStream : FnScope ["_law_script", "_law_k", "_law_cell"] ["_law_script", "_law_k"] (defScope sStream) := ⟨rfl, rfl, rfl, by decide +kernel, rfl, by decide +kernel, by decide +kernel⟩
theorem scDraw : FnScope ["_law_stream_here", "_law_size", "_law_digit", "_law_mixed"] ["_law_stream_here", "_law_size"] (defScope sDraw) := ⟨rfl, rfl, rfl, by decide +kernel, rfl, by decide +kernel, by decide +kernel⟩
def spIsInt : Sp := fun vs H Q _ => ∃ k : Int, vs = [.int k] ∧ Q (.bl true) H
theorem ok_isInt {f : Addr} {fd : FuncData} {k : Nat} (F : Fun K "_law_is_integer" "_law_is_integer" sIsInt f fd) (B : Bt mg) : FnOk P w K mg base CX0 (k + 1) f fd ["_law_actual"] spIsInt := by
  refine F.ok scIsInt (fun vs H Q E h => ?_) (fun cdv A outer s H vs Q E hr h => ?_)
  · obtain ⟨a, rfl, _⟩ := h
    rfl
  · obtain ⟨a, rfl, q⟩ := h
    refine ⟨_, pss_one (ps_ret (pe_and (pe_callB call_isi (by rfl) B.isi PyProof.Rows.boot_isinstance (pa_cons (pv 0) (pa_cons (pe_bltn (by rfl) B.int PyProof.Rows.boot_int (v := .ty "int") rfl) pa_nil)))
      (pe_one (pe_not (pe_callB call_isi (by rfl) B.isi PyProof.Rows.boot_isinstance (pa_cons (pv 0) (pa_cons (pe_bltn (by rfl) B.bool PyProof.Rows.boot_bool (v := .ty "bool") rfl) pa_nil))))))), ?_⟩
    refine ⟨.int a, rfl, .int a, .ty "int", .type "int", .type "int", true, rfl, .ty _, .base (.int a), kit_ty (by decide +kernel), true, rfl, iteT ?_⟩
    exact ⟨.int a, rfl, .int a, .ty "bool", .type "int", .type "bool", false, rfl, .ty _, .base (.int a), kit_ty (by decide +kernel), false, rfl, q⟩

/-- a stream: three ints -/
def Strm (H : Hp) (p : Addr) : Prop := ∃ x y z : Int, H p = some (.lst [.int x, .int y, .int z])
def spStream (K : PySem.W.Frag) : Sp := fun vs H Q _ => ∃ (a : Addr) (ns : List Int) (k : Nat), vs = [.ref a, .int (k : Int)] ∧ SqL K H a (ns.map V.int) ∧
  ∀ H' p, Same H H' → H p = none → Strm H' p → Q (.ref p) H'
theorem ok_stream {f : Addr} {fd : FuncData} {k : Nat} (F : Fun K "_law_stream" "_law_stream" sStream f fd) (B : Bt mg) : FnOk P w K mg base CX0 (k + 1) f fd ["_law_script", "_law_k"] (spStream K) := by
  refine F.ok scStream (fun vs H Q E h => ?_) (fun cdv A outer s H vs Q E hr h => ?_)
  · obtain ⟨a, ns, k, rfl, _⟩ := h
    rfl
  · obtain ⟨a, ns, k, rfl, hS, q⟩ := h
    refine ⟨_, pss_cons (ps_set (i := 2) scStream.nd rfl (.inl rfl) pe_int)
      (pss_cons (ps_if (pt_cmpR op_lt (pv 1) (pe_callB call_len_seq (by rfl) B.len PySem.boot_len (pa_cons (pv 0) pa_nil)) (nomark _))
        (pss_one (ps_set (i := 2) scStream.nd rfl (.inl rfl) (pe_ix ix_list (pv 0) (pv 1) (fun _ _ => rfl)))) pss_nil)
      (pss_one (ps_ret (pe_lst (pa_cons (pe_op op_mul (pv 2) (pe_callTy call_int1 (by rfl) B.int PyProof.Rows.boot_int (pa_cons (pe_cmpR op_ge (pv 2) (pe_op op_pow pe_int pe_int) (nomark _)) pa_nil))) (pa_cons pe_int (pa_cons (pv 2) pa_nil))))))), ?_⟩
    have tail : ∀ (c : Int) (b : Bool), -(2 ^ 64) < (if b = true then (1 : Int) else 0) ∧ (if b = true then (1 : Int) else 0) < 2 ^ 64 := fun c b => by cases b <;> decide
    refine ⟨.int k, rfl, .ref a, rfl, a, _, rfl, .inl hS, (k : Int), _, rfl, rfl, _, rfl, ite2 (fun c => ?_) (fun c => ?_)⟩
    · have hk : k < ns.length := by
        have := of_decide_eq_true c
        rw [List.length_map] at this
        omega
      have g : (ns.map V.int)[k]? = some (.int ns[k]) := by
        rw [List.getElem?_map, List.getElem?_eq_getElem hk]
        rfl
      refine ⟨.ref a, rfl, .int k, rfl, a, _, (k : Int), _, rfl, rfl, hS, atI_nat g, ?_⟩
      refine ⟨.int ns[k], rfl, .int ns[k], rfl, 10, 18, rfl, rfl, ⟨by decide, by decide, by decide⟩, ns[k], _, rfl, rfl, .inr ⟨_, rfl, ns[k], _, rfl, rfl, .inr (tail 0 _), .int ns[k], rfl, by show 3 ≤ sizeLine; decide, fun l hl => ?_⟩⟩
      exact q _ l (same_new hl) hl ⟨_, _, _, upd_same⟩
    · refine ⟨.int 0, rfl, .int 0, rfl, 10, 18, rfl, rfl, ⟨by decide, by decide, by decide⟩, 0, _, rfl, rfl, .inr ⟨_, rfl, 0, _, rfl, rfl, .inr (tail 0 _), .int 0, rfl, by show 3 ≤ sizeLine; decide, fun l hl => ?_⟩⟩
      exact q _ l (same_new hl) hl ⟨_, _, _, upd_same⟩
/-- all but the one at p is as it was -/
def Oth (p : Addr) (H H' : Hp) : Prop := ∀ b, b ≠ p → H' b = H b
def spDraw : Sp := fun vs H Q _ => ∃ (p : Addr) (m : Int), vs = [.ref p, .int m] ∧ Strm H p ∧ 0 < m ∧ m < 1073741824 ∧
  ∀ H' d, Oth p H H' → Strm H' p → 0 ≤ d → d < m → Q (.int d) H'
theorem at0 {x y z : V} : atI [x, y, z] (0 : Int) = some x := atI_nat (j := 0) rfl
theorem at1 {x y z : V} : atI [x, y, z] (1 : Int) = some y := atI_nat (j := 1) rfl
theorem at2 {x y z : V} : atI [x, y, z] (2 : Int) = some z := atI_nat (j := 2) rfl
theorem ok_draw {f : Addr} {fd : FuncData} {k : Nat} (F : Fun K "_law_next" "_law_next" sDraw f fd) (B : Bt mg) : FnOk P w K mg base CX0 (k + 1) f fd ["_law_stream_here", "_law_size"] spDraw := by
  refine F.ok scDraw (fun vs H Q E h => ?_) (fun cdv A outer s H vs Q E hr h => ?_)
  · obtain ⟨p, m, rfl, _⟩ := h
    rfl
  · obtain ⟨p, m, rfl, ⟨x, y, z, hp⟩, m0, m1, q⟩ := h
    refine ⟨_, pss_cons (ps_asg (pe_op op_add (pe_ix ix_list (pv 0) pe_int (fun _ _ => rfl)) pe_int) (pg_sub (pv 0) pe_int set_list))
      (pss_cons (ps_if (pt_cmpR op_gt (pe_ix ix_list (pv 0) pe_int (fun _ _ => rfl)) pe_int (nomark _))
        (pss_cons (ps_set (i := 2) scDraw.nd rfl (.inl rfl) (pe_op op_mod (pe_callTy call_int1 (by rfl) B.int PyProof.Rows.boot_int (pa_cons (pe_ix ix_list (pv 0) pe_int (fun _ _ => rfl)) pa_nil)) (pv 1)))
          (pss_cons (ps_asg (pe_op op_fdiv (pe_ix ix_list (pv 0) pe_int (fun _ _ => rfl)) (pv 1)) (pg_sub (pv 0) pe_int set_list))
          (pss_one (ps_ret (pv 2))))) pss_nil)
      (pss_cons (ps_set (i := 3) scDraw.nd rfl (.inl rfl) (pe_op op_mod (pe_callTy call_int1 (by rfl) B.int PyProof.Rows.boot_int (pa_cons
          (pe_op op_add (pe_op op_add (pe_ix ix_list (pv 0) pe_int (fun _ _ => rfl)) (pe_op op_mul pe_int (pe_ix ix_list (pv 0) pe_int (fun _ _ => rfl)))) pe_int) pa_nil)) pe_int))
      (pss_cons (ps_set (i := 3) scDraw.nd rfl (.inl rfl) (pe_op op_mod (pe_callTy call_int1 (by rfl) B.int PyProof.Rows.boot_int (pa_cons
          (pe_op op_mul (pv 3) (pe_op op_add (pv 3) pe_int)) pa_nil)) pe_int))
      (pss_cons (ps_set (i := 3) scDraw.nd rfl (.inl rfl) (pe_op op_mod (pe_callTy call_int1 (by rfl) B.int PyProof.Rows.boot_int (pa_cons
          (pe_op op_add (pe_op op_mul (pv 3) (pe_op op_add (pv 3) pe_int)) (pe_op op_mul pe_int (pe_ix ix_list (pv 0) pe_int (fun _ _ => rfl)))) pa_nil)) pe_int))
      (pss_one (ps_ret (pe_op op_mod (pe_callTy call_int1 (by rfl) B.int PyProof.Rows.boot_int (pa_cons (pe_op op_fdiv (pv 3) pe_int) pa_nil)) (pv 1)))))))), ?_⟩
    have pos1 : (0 : Int) < 2147483647 := by decide
    have pos2 : (0 : Int) < 2147483629 := by decide
    -- stream[1] = stream[1] + 1
    refine ⟨.ref p, rfl, p, _, 1, .int y, rfl, rfl, sl_map hp, at1, y, 1, rfl, rfl, .ref p, rfl, p, _, 1, 1, rfl, rfl, hp, rfl, ?_⟩
    have h1 : ∀ o, (upd H p o) p = some o := fun o => upd_same
    -- if stream[0] > 0
    refine ⟨.ref p, rfl, p, _, 0, .int x, rfl, rfl, sl_map upd_same, at0, x, 0, rfl, rfl, _, rfl, ite2 (fun c => ?_) (fun c => ?_)⟩
    · refine ⟨.ref p, rfl, p, _, 0, .int x, rfl, rfl, sl_map upd_same, at0, .inl ⟨x, rfl, .int m, rfl, x, m, rfl, rfl, m0, ?_⟩⟩
      refine ⟨.ref p, rfl, p, _, 0, .int x, rfl, rfl, sl_map upd_same, at0, .int m, rfl, x, m, rfl, rfl, ⟨m0, m1⟩, .ref p, rfl, p, _, 0, 0, rfl, rfl, upd_same, rfl, ?_⟩
      refine ⟨.int (x % m), rfl, q _ _ (fun b hb => by rw [upd_ne hb, upd_ne hb]) ⟨_, _, _, upd_same⟩ (Int.emod_nonneg _ (by omega)) (Int.emod_lt_of_pos _ m0)⟩
    · refine ⟨.ref p, rfl, p, _, 2, .int z, rfl, rfl, sl_map upd_same, at2, .ref p, rfl, p, _, 1, .int (y + 1), rfl, rfl, sl_map upd_same, at1, 7919, y + 1, rfl, rfl, .inl ⟨by decide, by decide⟩, z, _, rfl, rfl, _, 13, rfl, rfl,
        .inl ⟨_, rfl, _, 2147483647, rfl, rfl, pos1, ?_⟩⟩
      have r1 : ∀ u : Int, 0 ≤ u % 2147483647 ∧ u % 2147483647 < 2147483647 := fun u => ⟨Int.emod_nonneg _ (by decide), Int.emod_lt_of_pos _ (by decide)⟩
      have r2 : ∀ u : Int, 0 ≤ u % 2147483629 ∧ u % 2147483629 < 2147483629 := fun u => ⟨Int.emod_nonneg _ (by decide), Int.emod_lt_of_pos _ (by decide)⟩
      have big : (2147483647 : Int) < 2 ^ 64 := by decide
      have big2 : (-(2 ^ 64) : Int) < 0 := by decide
      have b1 := r1 (z + 7919 * (y + 1) + 13)
      refine ⟨_, rfl, _, rfl, (z + 7919 * (y + 1) + 13) % 2147483647, 48271, rfl, rfl, (z + 7919 * (y + 1) + 13) % 2147483647, _, rfl, rfl, .inl ⟨by omega, by omega⟩, .inl ⟨_, rfl, _, 2147483629, rfl, rfl, pos2, ?_⟩⟩
      have b2 := r2 ((z + 7919 * (y + 1) + 13) % 2147483647 * ((z + 7919 * (y + 1) + 13) % 2147483647 + 48271))
      refine ⟨_, rfl, _, rfl, _, 69621, rfl, rfl, (z + 7919 * (y + 1) + 13) % 2147483647 * ((z + 7919 * (y + 1) + 13) % 2147483647 + 48271) % 2147483629, _, rfl, rfl, .inl ⟨?_, ?_⟩, .ref p, rfl, p, _, 1, .int (y + 1), rfl, rfl, sl_map upd_same, at1, 31, y + 1, rfl, rfl, .inl ⟨by decide, by decide⟩, _, _, rfl, rfl,
        .inl ⟨_, rfl, _, 2147483647, rfl, rfl, pos1, ?_⟩⟩
      · generalize (z + 7919 * (y + 1) + 13) % 2147483647 * ((z + 7919 * (y + 1) + 13) % 2147483647 + 48271) % 2147483629 = v at b2
        omega
      · generalize (z + 7919 * (y + 1) + 13) % 2147483647 * ((z + 7919 * (y + 1) + 13) % 2147483647 + 48271) % 2147483629 = v at b2
        omega
      refine ⟨_, rfl, _, 9, rfl, rfl, ⟨by decide, by decide⟩, .inl ⟨_, rfl, .int m, rfl, _, m, rfl, rfl, m0, ?_⟩⟩
      exact q _ _ (fun b hb => by rw [upd_ne hb]) ⟨_, _, _, upd_same⟩ (Int.emod_nonneg _ (by omega)) (Int.emod_lt_of_pos _ m0)
/-- a def that stands, with its promise -/
structure Call (P : Program) (w : World) (K : PySem.W.Frag) (mg : Str → Option Value) (base : Heap) (k : Nat) (x : Str) (f : Addr) (fd : FuncData) (ps : List Str) (sp : Sp) : Prop where
  ok : FnOk P w K mg base CX0 k f fd ps sp
  at_ : mg x = some (.ref f)
  kp : PySem.W.keepIn K (.ref f) = true
  bd : Binds K fd ps []
abbrev sIsSide : Stmt := topS 19
abbrev nIsSide : List Str := ["_law_actual", "_law_value", "_law_k"]
theorem scIsSide : FnScope nIsSide ["_law_actual"] (defScope sIsSide) := ⟨rfl, rfl, rfl, by decide +kernel, rfl, by decide +kernel, by decide +kernel⟩
def spIsSide : Sp := fun vs H Q _ => ∃ (a : Addr) (ns : List Int), vs = [.ref a] ∧ H a = some (.lst (ns.map V.int)) ∧ Srt ns ∧ ns.length ≤ 1000 ∧ ∀ H', Same H H' → Q (.bl true) H'
theorem all_rep (n : Nat) : (List.replicate n true).all id = true := by simp
theorem ok_isSide {f fI : Addr} {fd fdI : FuncData} (F : Fun K "_law_is_side" "_law_is_side" sIsSide f fd) (B : Bt mg) (I : Call P w K mg base 1 "_law_is_integer" fI fdI ["_law_actual"] spIsInt) :
    FnOk P w K mg base CX0 2 f fd ["_law_actual"] spIsSide := by
  refine F.ok scIsSide (fun vs H Q E h => ?_) (fun cdv A outer s H vs Q E hr h => ?_)
  · obtain ⟨a, ns, rfl, _⟩ := h
    rfl
  · obtain ⟨a, ns, rfl, ha, hs, hl, q⟩ := h
    refine ⟨_, pss_cons (ps_if (PW.pt (pw_or (pt_not (pt_val (pe_callB call_isi (by rfl) B.isi PyProof.Rows.boot_isinstance (pa_cons (pv 0) (pa_cons (pe_bltn (by rfl) B.list PyProof.Rows.boot_list (v := .ty "list") rfl) pa_nil)))))
        (pw_or1 (pt_not (pt_val (pe_callB (cr_all rfl) (by rfl) B.all PyProof.Rows.boot_all (pa_cons
          (pe_lc (own := [("_law_value", 1)]) (g := gName 1) (tt := tYes) rfl scIsSide.nd (pi_list (pv 0)) (blkOk_by (N := nIsSide) (sc := defScope sIsSide) (by decide +kernel)) (fun _ _ _ _ _ => pg_name (i := 1) scIsSide.nd rfl (Or.inl rfl)) (fun _ _ _ _ _ => pts_nil)
            (fun _ _ _ _ _ => pe_call I.ok hr (by rfl) I.at_ I.kp I.bd .nil pass0 (pa_cons (pv 1) pa_nil))) pa_nil)))))))
        (pss_one (ps_ret pe_bl)) pss_nil)
      (pss_one (ps_ret (pe_callB (cr_all rfl) (by rfl) B.all PyProof.Rows.boot_all (pa_cons
          (pe_lc (own := [("_law_k", 2)]) (g := gName 2) (tt := tYes) rfl scIsSide.nd (pi_range1 (by rfl) B.range (pa_cons (pe_op op_sub (pe_callB call_len_seq (by rfl) B.len PySem.boot_len (pa_cons (pv 0) pa_nil)) pe_int) pa_nil))
            (blkOk_by (N := nIsSide) (sc := defScope sIsSide) (by decide +kernel)) (fun _ _ _ _ _ => pg_name (i := 2) scIsSide.nd rfl (Or.inl rfl)) (fun _ _ _ _ _ => pts_nil)
            (fun _ _ _ _ _ => pe_cmpR op_lt (pe_ix (r := rIxL K) ix_list (pv 0) (pv 2) (fun _ _ => rfl)) (pe_ix (r := rIxL K) ix_list (pv 0) (pe_op op_add (pv 2) pe_int) (fun _ _ => rfl)) (nomark _))) pa_nil)))), ?_⟩
    refine ⟨.ref a, rfl, .ref a, .ty "list", .type "list", .type "list", true, rfl, .ty _, .base (.lst ha), kit_ty (by decide +kernel), true, rfl, iteF ?_⟩
    refine ⟨.ref a, rfl, a, rfl, ⟨_, sl_map ha⟩, fun D hD => lc_list (xs := ns.map V.int) (fun i H' => Same H H' ∧ H' D = some (.lst ((List.replicate i true).map V.bl))) ⟨same_new hD, upd_same⟩ (fun i H' _ h => h.1.seq (sl_map ha)) ?_ ?_⟩
    · rintro i x H' hx ⟨sm, hd⟩
      rw [List.getElem?_map] at hx
      obtain ⟨v, hv, rfl⟩ := Option.map_eq_some_iff.mp hx
      have hi : i < ns.length := (List.getElem?_eq_some_iff.mp hv).1
      refine ⟨rfl, ?_⟩
      refine ⟨_, rfl, v, rfl, _, hd, ?_, same_at sm hD, ?_⟩
      · rw [List.length_map, List.length_replicate]
        exact small1000 (by omega)
      · rw [upd_same, List.replicate_succ', List.map_append]
        rfl
    · rintro H' ⟨sm, hd⟩
      rw [List.length_map] at hd
      refine ⟨D, _, rfl, sl_map hd, _, rfl, ?_⟩
      rw [all_rep]
      refine iteF ?_
      -- all([.. < ..])
      refine ⟨.ref a, rfl, a, _, rfl, .inl (sm.seq (sl_map ha)), ((ns.map V.int).length : Int), 1, rfl, rfl, _, rfl, ?_, ?_, fun D2 hD2 => lc_range (lo := 0) (fun i H2 => Same H H2 ∧ H2 D2 = some (.lst ((List.replicate i true).map V.bl))) ⟨same_at sm (sm.free hD2), upd_same⟩ ?_ ?_⟩
      · rw [List.length_map]; omega
      · rw [List.length_map]; omega
      · rintro i H2 hi ⟨sm2, hd2⟩
        rw [List.length_map] at hi
        have h1 : i < ns.length := by omega
        have h2 : i + 1 < ns.length := by omega
        have g1 : (ns.map V.int)[i]? = some (.int ns[i]) := by
          rw [List.getElem?_map, List.getElem?_eq_getElem h1]
          rfl
        have g2 : (ns.map V.int)[i + 1]? = some (.int ns[i + 1]) := by
          rw [List.getElem?_map, List.getElem?_eq_getElem h2]
          rfl
        refine ⟨rfl, ?_⟩
        refine ⟨.ref a, rfl, _, rfl, a, _, _, _, rfl, rfl, sm2.seq (sl_map ha), at_of (by omega) g1, .ref a, rfl, _, rfl, _, 1, rfl, rfl, a, _, _, _, rfl, rfl, sm2.seq (sl_map ha), at_of (j := i + 1) (by omega) g2, _, _, rfl, rfl, _, hd2, ?_, same_at sm2 (sm.free hD2), ?_⟩
        · rw [List.length_map, List.length_replicate]
          exact small1000 (by omega)
        · have lt : ns[i] < ns[i + 1] := List.pairwise_iff_getElem.mp hs i (i + 1) h1 h2 (Nat.lt_succ_self i)
          have e : (fun i j : Int => V.bl (decide (i < j))) ns[i] ns[i + 1] = V.bl true := congrArg V.bl (decide_eq_true lt)
          rw [upd_same, e, List.replicate_succ', List.map_append]
          rfl
      · rintro H2 ⟨sm2, hd2⟩
        refine ⟨D2, _, rfl, sl_map hd2, ?_⟩
        rw [all_rep]
        exact q _ sm2
/-- what was tracked, but for the one at p, is as it was -/
def Keep (p : Addr) (H H' : Hp) : Prop := ∀ b o, b ≠ p → H b = some o → H' b = some o
theorem Keep.refl (p : Addr) (H : Hp) : Keep p H H := fun _ _ _ e => e
theorem Keep.oth {p : Addr} {H H1 H2 : Hp} (k : Keep p H H1) (o : Oth p H1 H2) : Keep p H H2 := fun b u hb e => (o b hb).trans (k b u hb e)
theorem Keep.trans {p : Addr} {H H1 H2 : Hp} (k : Keep p H H1) (k2 : Keep p H1 H2) : Keep p H H2 := fun b u hb e => k2 b u hb (k b u hb e)
theorem Keep.at_ {p q : Addr} {o : HO} {H H1 : Hp} (k : Keep p H H1) (n : H q = none) : Keep p H (upd H1 q o) := fun b u hb e => by
  rw [upd_ne (ne_of_none e n)]
  exact k b u hb e
theorem Keep.same {p : Addr} {H H1 : Hp} (s : Same H H1) : Keep p H H1 := fun b u _ e => s b u e
theorem Strm.some {H : Hp} {p : Addr} (s : Strm H p) : H p ≠ none := fun z => by
  obtain ⟨x, y, z', e⟩ := s
  rw [z] at e
  cases e
theorem Strm.keep {H H' : Hp} {p q : Addr} (s : Strm H p) (k : Keep q H H') (h : p ≠ q) : Strm H' p := by
  obtain ⟨x, y, z, e⟩ := s
  exact ⟨x, y, z, k _ _ h e⟩
theorem Strm.upd {H : Hp} {p q : Addr} {o : HO} (s : Strm H p) (h : p ≠ q) : Strm (upd H q o) p := by
  obtain ⟨x, y, z, e⟩ := s
  exact ⟨x, y, z, by rw [upd_ne h]; exact e⟩
theorem Keep.free {p q : Addr} {H H1 : Hp} (k : Keep p H H1) (s : Strm H1 p) (n : H1 q = none) : H q = none := by
  have hp : q ≠ p := fun z => s.some (z ▸ n)
  cases c : H q with
  | none => rfl
  | some o =>
    rw [k q o hp c] at n
    cases n
end
end K4

set_option Elab.async false
set_option linter.all false
set_option maxRecDepth 100000
set_option maxHeartbeats 2000000
namespace K4
open PySem PySem.Spec PyProof.Rows L2 Cs
theorem srt_ext : ∀ {xs ys : List Int}, Srt xs → Srt ys → (∀ k, k ∈ xs ↔ k ∈ ys) → xs = ys
  | [], [], _, _, _ => rfl
  | [], y :: ys, _, _, h => absurd ((h y).2 List.mem_cons_self) (by simp)
  | x :: xs, [], _, _, h => absurd ((h x).1 List.mem_cons_self) (by simp)
  | x :: xs, y :: ys, sx, sy, h => by
    obtain ⟨x1, x2⟩ := List.pairwise_cons.mp sx
    obtain ⟨y1, y2⟩ := List.pairwise_cons.mp sy
    have e : x = y := by
      rcases List.mem_cons.mp ((h x).1 List.mem_cons_self) with a | a
      · exact a
      · rcases List.mem_cons.mp ((h y).2 List.mem_cons_self) with b | b
        · exact b.symm
        · have := x1 y b
          have := y1 x a
          omega
    subst e
    have t : ∀ k, k ∈ xs ↔ k ∈ ys := fun k => by
      constructor
      · intro hk
        rcases List.mem_cons.mp ((h k).1 (List.mem_cons_of_mem _ hk)) with a | a
        · have := x1 k hk
          omega
        · exact a
      · intro hk
        rcases List.mem_cons.mp ((h k).2 (List.mem_cons_of_mem _ hk)) with a | a
        · have := y1 k hk
          omega
        · exact a
    rw [srt_ext x2 y2 t]
/-! ### lists of ints as data -/
abbrev dI (ns : List Int) : PyData := .list (ns.map PyData.int)
theorem dp_all {K : PySem.W.Frag} {H : Hp} : ∀ ns : List Int, DpAll K H (ns.map V.int) (ns.map PyData.int)
  | [] => .nil
  | n :: ns => .cons (.int n) (dp_all ns)
theorem dpI {K : PySem.W.Frag} {H : Hp} {a : Addr} {ns : List Int} (h : SqL K H a (ns.map V.int)) : Dp K H (.ref a) (dI ns) := .lst h (dp_all ns)
theorem lay_all : ∀ ns : List Int, PyData.canLayAll0 (ns.map PyData.int) = true
  | [] => rfl
  | n :: ns => by
    show (PyData.canLay0 (.int n) && PyData.canLayAll0 (ns.map PyData.int)) = true
    rw [lay_all ns] <;> rfl
theorem layI (ns : List Int) : (dI ns).canLay0 = true := lay_all ns
theorem deep_all : ∀ ns : List Int, PyData.depthAll (ns.map PyData.int) ≤ 1
  | [] => by simp [PyData.depthAll]
  | n :: ns => by
    have := deep_all ns
    simp only [List.map_cons, PyData.depthAll, PyData.depth]
    omega
theorem deepI (ns : List Int) : (dI ns).depth ≤ 2 := by
  have := deep_all ns
  simp only [dI, PyData.depth]
  omega
theorem shI (ns : List Int) : SeqAt.shaped (dI ns) = true := by
  unfold SeqAt.shaped
  rw [layI]
  have := deepI ns
  simp
  omega
theorem eqI (ns : List Int) : PyData.eqv (dI ns) (dI ns) = true := SeqAt.eqv_refl _ (layI ns)
theorem lay2 (ns ks : List Int) : (PyData.list [dI ns, dI ks]).canLay0 = true := by
  show (PyData.canLay0 (dI ns) && (PyData.canLay0 (dI ks) && true)) = true
  rw [layI, layI]
  rfl
theorem sh2 (ns ks : List Int) : SeqAt.shaped (.list [dI ns, dI ks]) = true := by
  unfold SeqAt.shaped
  rw [lay2]
  have h1 := deepI ns
  have h2 := deepI ks
  have : (PyData.list [dI ns, dI ks]).depth ≤ 3 := by
    simp only [PyData.depth, PyData.depthAll] at *
    omega
  simp
  omega
theorem eq2 (ns ks : List Int) : PyData.eqv (.list [dI ns, dI ks]) (.list [dI ns, dI ks]) = true := SeqAt.eqv_refl _ (lay2 ns ks)
/-! ### boxes: dicts from texts to lists of ints -/
abbrev Ent := Str × Addr × List Int
def entK (L : List Ent) : List (Key × V) := L.map fun e => (Sum.inr e.1, V.ref e.2.1)
def getE (L : List Ent) (x : Str) : Option Ent := L.find? fun e => decide (e.1 = x)
def look (L : List Ent) (x : Str) : Option (List Int) := (getE L x).map (·.2.2)
theorem getE_nil (x : Str) : getE [] x = none := rfl
theorem getE_pos {e : Ent} {L : List Ent} {x : Str} (h : e.1 = x) : getE (e :: L) x = some e := by simp [getE, List.find?_cons, h]
theorem getE_neg {e : Ent} {L : List Ent} {x : Str} (h : ¬ e.1 = x) : getE (e :: L) x = getE L x := by simp [getE, List.find?_cons, h]
theorem getE_mem {L : List Ent} {x : Str} {e : Ent} (h : getE L x = some e) : e ∈ L ∧ e.1 = x :=
  ⟨List.mem_of_find?_eq_some h, of_decide_eq_true (List.find?_some (p := fun e : Ent => decide (e.1 = x)) h)⟩
theorem getE_of : ∀ {L : List Ent} {e : Ent}, (L.map (·.1)).Nodup → e ∈ L → getE L e.1 = some e
  | [], _, _, h => by cases h
  | a :: L, e, nd, h => by
    rw [List.map_cons, List.nodup_cons] at nd
    rcases List.mem_cons.mp h with z | z
    · rw [z]; exact getE_pos rfl
    · have ne : ¬ a.1 = e.1 := fun q => nd.1 (q ▸ List.mem_map_of_mem z)
      rw [getE_neg ne]
      exact getE_of nd.2 z
theorem getE_none {L : List Ent} {x : Str} : getE L x = none ↔ x ∉ L.map (·.1) := by
  unfold getE
  rw [List.find?_eq_none]
  constructor
  · intro h hx
    obtain ⟨e, he, q⟩ := List.mem_map.mp hx
    exact h e he (decide_eq_true q)
  · intro h e he q
    exact h (of_decide_eq_true q ▸ List.mem_map_of_mem he)
theorem look_mem {L : List Ent} {e : Ent} (nd : (L.map (·.1)).Nodup) (h : e ∈ L) : look L e.1 = some e.2.2 := by
  unfold look
  rw [getE_of nd h]
  rfl
theorem valV_ent (x : Str) : ∀ L : List Ent, valV (entK L) (.inr x) = (getE L x).map fun e => V.ref e.2.1
  | [] => rfl
  | e :: L => by
    by_cases h : e.1 = x
    · rw [getE_pos h]
      exact valV_pos (congrArg Sum.inr h)
    · rw [getE_neg h]
      have : valV (entK (e :: L)) (.inr x) = valV (entK L) (.inr x) := valV_neg (fun z => h (Sum.inr.inj z))
      rw [this]
      exact valV_ent x L
structure Bx (H : Hp) (d : Addr) (L : List Ent) : Prop where
  rd : Rd H d (.dK (entK L))
  sides : ∀ e ∈ L, H e.2.1 = some (.lst (e.2.2.map V.int))
  nd : (L.map (·.1)).Nodup
  few : L.length ≤ 40
theorem Rd.same {H H' : Hp} {a : Addr} {u : HO} (s : Same H H') (r : Rd H a u) : Rd H' a u := r.elim (fun h => .inl (s _ _ h)) fun ⟨o, h⟩ => .inr ⟨o, s _ _ h⟩
theorem Bx.same {H H' : Hp} {d : Addr} {L : List Ent} (B : Bx H d L) (s : Same H H') : Bx H' d L := ⟨Rd.same s B.rd, fun e he => s _ _ (B.sides e he), B.nd, B.few⟩
theorem Bx.get {H : Hp} {d : Addr} {L : List Ent} (B : Bx H d L) (x : Str) : DGet H d (.str x) ((getE L x).map fun e => V.ref e.2.1) := .inl ⟨entK L, .inr x, B.rd, rfl, (valV_ent x L).symm⟩
/-- a locked dict is read as before -/
theorem Bx.lock {H : Hp} {d d' : Addr} {L L' : List Ent} {od : Obj} (B : Bx H d L) (h : H d' = some (.dK (entK L'))) : Bx (upd H d' (.frz od (.dK (entK L')))) d L := by
  refine ⟨?_, fun e he => ?_, B.nd, B.few⟩
  · by_cases z : d = d'
    · subst z
      have : entK L' = entK L := by
        rcases B.rd with q | ⟨o, q⟩
        · rw [h] at q
          exact HO.dK.inj (Option.some.inj q)
        · rw [h] at q; cases q
      rw [← this]
      exact .inr ⟨od, upd_same⟩
    · rcases B.rd with q | ⟨o, q⟩
      · exact .inl (by rw [upd_ne z]; exact q)
      · exact .inr ⟨o, by rw [upd_ne z]; exact q⟩
  · have : e.2.1 ≠ d' := fun z => by have q := B.sides e he; rw [z, h] at q; cases q
    rw [upd_ne this]
    exact B.sides e he
theorem unlock {H H' : Hp} {d : Addr} {u : HO} {od : Obj} (h : H d = some u) (s : Same (upd H d (.frz od u)) H') : Same H (upd H' d u) := fun b o e => by
  by_cases z : b = d
  · subst z
    rw [upd_same]
    exact h.symm.trans e
  · rw [upd_ne z]
    exact s b o (by rw [upd_ne z]; exact e)
/-- put -/
def putE (L : List Ent) (x : Str) (a : Addr) (s : List Int) : List Ent := if (L.any fun e => decide (e.1 = x)) = true then L.map (fun e => if e.1 = x then (x, a, s) else e) else L ++ [(x, a, s)]
theorem any_ent (L : List Ent) (x : Str) : ((entK L).any fun kv => decide (kv.1 = Sum.inr x)) = L.any fun e => decide (e.1 = x) := by
  unfold entK
  rw [List.any_map]
  congr 1
  funext e
  simp
theorem putK_ent (L : List Ent) (x : Str) (a : Addr) (s : List Int) : putK (entK L) (.inr x) (V.ref a) = entK (putE L x a s) := by
  unfold putK putE
  rw [any_ent]
  by_cases h : (L.any fun e => decide (e.1 = x)) = true
  · rw [if_pos h, if_pos h]
    unfold entK
    rw [List.map_map, List.map_map]
    congr 1
    funext e
    by_cases z : e.1 = x
    · simp [z]
    · simp [z]
  · rw [if_neg h, if_neg h]
    unfold entK
    rw [List.map_append]
    rfl
theorem any_iff {L : List Ent} {x : Str} : (L.any fun e => decide (e.1 = x)) = true ↔ x ∈ L.map (·.1) := by
  rw [List.any_eq_true, List.mem_map]
  constructor
  · rintro ⟨e, he, q⟩; exact ⟨e, he, of_decide_eq_true q⟩
  · rintro ⟨e, he, q⟩; exact ⟨e, he, decide_eq_true q⟩
theorem putE_keys (L : List Ent) (x : Str) (a : Addr) (s : List Int) : (putE L x a s).map (·.1) = if x ∈ L.map (·.1) then L.map (·.1) else L.map (·.1) ++ [x] := by
  unfold putE
  by_cases h : (L.any fun e => decide (e.1 = x)) = true
  · rw [if_pos h, if_pos (any_iff.mp h), List.map_map]
    congr 1
    funext e
    by_cases z : e.1 = x
    · simp [z]
    · simp [z]
  · rw [if_neg h, if_neg (fun z => h (any_iff.mpr z)), List.map_append]
    rfl
theorem putE_nd {L : List Ent} {x : Str} {a : Addr} {s : List Int} (nd : (L.map (·.1)).Nodup) : ((putE L x a s).map (·.1)).Nodup := by
  rw [putE_keys]
  split
  · exact nd
  · rename_i h
    rw [List.nodup_append]
    exact ⟨nd, by simp, fun y hy z hz => by rw [List.mem_singleton.mp hz]; exact fun e => h (e ▸ hy)⟩
theorem putE_len (L : List Ent) (x : Str) (a : Addr) (s : List Int) : (putE L x a s).length ≤ L.length + 1 := by
  unfold putE
  split
  · rw [List.length_map]; omega
  · rw [List.length_append]; exact Nat.le_refl _
theorem putE_mem {L : List Ent} {x : Str} {a : Addr} {s : List Int} {e : Ent} (h : e ∈ putE L x a s) : e = (x, a, s) ∨ (e ∈ L ∧ e.1 ≠ x) := by
  unfold putE at h
  split at h
  · obtain ⟨f, hf, q⟩ := List.mem_map.mp h
    by_cases z : f.1 = x
    · rw [if_pos z] at q; exact .inl q.symm
    · rw [if_neg z] at q; exact .inr (q ▸ ⟨hf, z⟩)
  · rename_i g
    rcases List.mem_append.mp h with q | q
    · exact .inr ⟨q, fun z => g (any_iff.mpr (z ▸ List.mem_map_of_mem q))⟩
    · exact .inl (List.mem_singleton.mp q)
theorem find_map_at {x y : Str} {a : Addr} {s : List Int} (h : ¬ x = y) : ∀ L : List Ent, getE (L.map (fun e => if e.1 = x then (x, a, s) else e)) y = getE L y
  | [] => rfl
  | e :: L => by
    rw [List.map_cons]
    by_cases z : e.1 = x
    · rw [if_pos z, getE_neg (show ¬ (x, a, s).1 = y from h), getE_neg (fun q => h (z.symm.trans q))]
      exact find_map_at h L
    · rw [if_neg z]
      by_cases q : e.1 = y
      · rw [getE_pos q, getE_pos q]
      · rw [getE_neg q, getE_neg q]
        exact find_map_at h L
theorem find_map_self {x : Str} {a : Addr} {s : List Int} : ∀ L : List Ent, x ∈ L.map (·.1) → getE (L.map (fun e => if e.1 = x then (x, a, s) else e)) x = some (x, a, s)
  | [], h => by cases h
  | e :: L, h => by
    rw [List.map_cons]
    by_cases z : e.1 = x
    · rw [if_pos z]; exact getE_pos rfl
    · rw [if_neg z, getE_neg z]
      rw [List.map_cons] at h
      exact find_map_self L ((List.mem_cons.mp h).elim (fun q => absurd q.symm z) id)
theorem getE_app (L M : List Ent) (y : Str) : getE (L ++ M) y = (getE L y).or (getE M y) := List.find?_append
theorem getE_put (L : List Ent) (x y : Str) (a : Addr) (s : List Int) : getE (putE L x a s) y = if y = x then some (x, a, s) else getE L y := by
  unfold putE
  by_cases h : (L.any fun e => decide (e.1 = x)) = true
  · rw [if_pos h]
    by_cases z : y = x
    · rw [if_pos z, z]
      exact find_map_self L (any_iff.mp h)
    · rw [if_neg z]
      exact find_map_at (fun q => z q.symm) L
  · rw [if_neg h, getE_app]
    by_cases z : y = x
    · rw [if_pos z, z, getE_none.mpr (fun q => h (any_iff.mpr q))]
      exact getE_pos rfl
    · rw [if_neg z, show getE [(x, a, s)] y = none from getE_neg (fun q => z q.symm)]
      cases getE L y <;> rfl
theorem look_put (L : List Ent) (x y : Str) (a : Addr) (s : List Int) : look (putE L x a s) y = if y = x then some s else look L y := by
  unfold look
  rw [getE_put]
  by_cases z : y = x
  · rw [if_pos z, if_pos z]; rfl
  · rw [if_neg z, if_neg z]
/-- drop -/
def dropE (L : List Ent) (x : Str) : List Ent := L.filter fun e => decide (e.1 ≠ x)
theorem dropK_ent (L : List Ent) (x : Str) : dropK (entK L) (.inr x) = entK (dropE L x) := by
  unfold dropK dropE entK
  rw [List.filter_map]
  congr 1
  apply List.filter_congr
  intro e _
  simp
theorem getE_drop (x y : Str) : ∀ L : List Ent, getE (dropE L x) y = if y = x then none else getE L y
  | [] => by unfold dropE; simp [getE]
  | e :: L => by
    have ih := getE_drop x y L
    unfold dropE at ih ⊢
    by_cases z : e.1 = x
    · rw [List.filter_cons_of_neg (by simp [z]), ih]
      by_cases q : y = x
      · rw [if_pos q, if_pos q]
      · rw [if_neg q, if_neg q, getE_neg (fun w => q (w.symm.trans z))]
    · rw [List.filter_cons_of_pos (by simp [z])]
      by_cases w : e.1 = y
      · rw [getE_pos w, getE_pos w, if_neg (fun q => z (w.trans q))]
      · rw [getE_neg w, getE_neg w, ih]
theorem look_drop (L : List Ent) (x y : Str) : look (dropE L x) y = if y = x then none else look L y := by
  unfold look
  rw [getE_drop]
  by_cases q : y = x
  · rw [if_pos q, if_pos q]; rfl
  · rw [if_neg q, if_neg q]
theorem dropE_nd {L : List Ent} {x : Str} (nd : (L.map (·.1)).Nodup) : ((dropE L x).map (·.1)).Nodup := List.Pairwise.sublist (List.Sublist.map _ List.filter_sublist) nd
theorem dropE_mem {L : List Ent} {x : Str} {e : Ent} (h : e ∈ dropE L x) : e ∈ L := (List.mem_filter.mp h).1
theorem dropE_len (L : List Ent) (x : Str) : (dropE L x).length ≤ L.length := List.length_filter_le _ _
/-- two boxes that say the same -/
def SameB (L M : List Ent) : Prop := ∀ x, look L x = look M x
theorem look_isSome {L : List Ent} {x : Str} : (look L x).isSome = true ↔ x ∈ L.map (·.1) := by
  unfold look
  rw [Option.isSome_map]
  cases h : getE L x with
  | none => simp [getE_none.mp h]
  | some e => simp only [Option.isSome_some, true_iff]; obtain ⟨a, b⟩ := getE_mem h; exact b ▸ List.mem_map_of_mem a
theorem len_le {α : Type} [DecidableEq α] : ∀ {l m : List α}, l.Nodup → (∀ x ∈ l, x ∈ m) → l.length ≤ m.length
  | [], _, _, _ => Nat.zero_le _
  | x :: l, m, nd, h => by
    rw [List.nodup_cons] at nd
    have hx := h x List.mem_cons_self
    have ih := len_le (m := m.erase x) nd.2 (fun y hy => (List.mem_erase_of_ne (fun (e : y = x) => nd.1 (by rw [← e]; exact hy))).2 (h y (List.mem_cons_of_mem _ hy)))
    rw [List.length_erase_of_mem hx] at ih
    have : 0 < m.length := List.length_pos_of_mem hx
    rw [List.length_cons]
    omega
theorem SameB.len {L M : List Ent} (s : SameB L M) (n1 : (L.map (·.1)).Nodup) (n2 : (M.map (·.1)).Nodup) : L.length = M.length := by
  have h1 := len_le n1 (fun x hx => look_isSome.mp (by rw [← s x]; exact look_isSome.mpr hx))
  have h2 := len_le n2 (fun x hx => look_isSome.mp (by rw [s x]; exact look_isSome.mpr hx))
  rw [List.length_map, List.length_map] at h1 h2
  omega
end K4

set_option Elab.async false
set_option linter.all false
set_option maxRecDepth 100000
set_option maxHeartbeats 2000000
namespace K4
open PySem PySem.Spec PyProof.Rows L2 Cs
/-- v in ks, as the model asks it -/
theorem in_ints (ks : List Int) (v : Int) : inV (.int v) (ks.map V.int) = decide (v ∈ ks) := by
  unfold inV
  induction ks with
  | nil => simp
  | cons k ks ih =>
    rw [List.map_cons, List.any_cons, ih]
    have e : eqV (.int k) (.int v) = decide (k = v) := by
      by_cases c : k = v
      · subst c; simp [eqV]
      · simp [eqV, c]
    rw [e]
    by_cases c : k = v
    · subst c; simp
    · have c2 : ¬ v = k := fun z => c z.symm
      simp [c, c2]
theorem flat_ints (ks : List Int) : (ks.map V.int).all flatV = true := by
  rw [List.all_map]
  exact List.all_eq_true.mpr fun _ _ => rfl
section
variable {P : Program} {w : World} {K : PySem.W.Frag} {mg : Str → Option Value} {base : Heap}
/-! ### the program: boxes -/
abbrev sRoom : Stmt := topS 5
abbrev sHolds : Stmt := topS 6
abbrev sBoxIn : Stmt := topS 7
abbrev sCopy : Stmt := topS 8
abbrev sMeet : Stmt := topS 9
abbrev sJoin : Stmt := topS 10
abbrev nRoom : List Str := ["box", "count", "side"]
abbrev nHolds : List Str := ["box", "values", "name", "side"]
abbrev nBoxIn : List Str := ["inner", "outer", "name", "side"]
abbrev nCopy : List Str := ["box", "name", "side"]
abbrev nMeet : List Str := ["first", "second", "meet", "name", "side"]
abbrev nJoin : List Str := ["first", "second", "name", "joined"]
theorem scRoom : FnScope nRoom ["box"] (defScope sRoom) := ⟨rfl, rfl, rfl, by decide +kernel, rfl, by decide +kernel, by decide +kernel⟩
theorem scHolds : FnScope nHolds ["box", "values"] (defScope sHolds) := ⟨rfl, rfl, rfl, by decide +kernel, rfl, by decide +kernel, by decide +kernel⟩
theorem scBoxIn : FnScope nBoxIn ["inner", "outer"] (defScope sBoxIn) := ⟨rfl, rfl, rfl, by decide +kernel, rfl, by decide +kernel, by decide +kernel⟩
theorem scCopy : FnScope nCopy ["box"] (defScope sCopy) := ⟨rfl, rfl, rfl, by decide +kernel, rfl, by decide +kernel, by decide +kernel⟩
theorem scMeet : FnScope nMeet ["first", "second"] (defScope sMeet) := ⟨rfl, rfl, rfl, by decide +kernel, rfl, by decide +kernel, by decide +kernel⟩
theorem scJoin : FnScope nJoin ["first", "second", "name"] (defScope sJoin) := ⟨rfl, rfl, rfl, by decide +kernel, rfl, by decide +kernel, by decide +kernel⟩
/-- a box that no walk has locked -/
structure Bu (H : Hp) (d : Addr) (L : List Ent) : Prop extends Bx H d L where
  un : H d = some (.dK (entK L))
theorem Bu.same' {H H' : Hp} {d : Addr} {L : List Ent} (B : Bu H d L) (s : Same H H') : Bu H' d L := ⟨B.toBx.same s, s _ _ B.un⟩
theorem upd_back {H : Hp} {d : Addr} {u x : HO} (h : H d = some u) : upd (upd H d x) d u = H := by
  funext b
  by_cases z : b = d
  · rw [z, upd_same, h]
  · rw [upd_ne z, upd_ne z]
/-- rooms -/
def roomE (L : List Ent) : Int := L.foldl (fun c e => c * (e.2.2.length : Int)) 1
theorem room_snoc {L : List Ent} {i : Nat} {e : Ent} (h : L[i]? = some e) : roomE (L.take (i + 1)) = roomE (L.take i) * (e.2.2.length : Int) := by
  unfold roomE
  rw [List.take_add_one, h, List.foldl_append]
  rfl
theorem entK_get {L : List Ent} {i : Nat} : (entK L)[i]? = (L[i]?).map fun e => (Sum.inr e.1, V.ref e.2.1) := by
  unfold entK
  rw [List.getElem?_map]
def spRoom : Sp := fun vs H Q _ => ∃ (d : Addr) (L : List Ent), vs = [.ref d] ∧ Bu H d L ∧ (∀ e ∈ L, e.2.2.length ≤ 1000) ∧ Q (.int (roomE L)) H
theorem ok_room {f : Addr} {fd : FuncData} {k : Nat} (F : Fun K "room" "room" sRoom f fd) (B : Bt mg) : FnOk P w K mg base CX0 (k + 1) f fd ["box"] spRoom := by
  refine F.ok scRoom (fun vs H Q E h => ?_) (fun cdv A outer s H vs Q E hr h => ?_)
  · obtain ⟨d, L, rfl, _⟩ := h
    rfl
  · obtain ⟨d, L, rfl, bx, sz, q⟩ := h
    refine ⟨_, pss_cons (ps_set (i := 1) scRoom.nd rfl (.inl rfl) pe_int)
      (pss_cons (ps_lock (ps_for PassesOwn.never rfl (pi_values (pv 0)) (pg_name (i := 2) scRoom.nd rfl (.inl rfl))
        (pss_one (ps_set (i := 1) scRoom.nd rfl (.inl rfl) (pe_op op_mul (pv 1) (pe_callB call_len_seq (by rfl) B.len PySem.boot_len (pa_cons (pv 2) pa_nil)))))))
      (pss_one (ps_ret (pv 1)))), ?_⟩
    refine ⟨d, _, bx.un, trivial, fun od => ?_⟩
    have bl := bx.toBx.lock (od := od) bx.un
    refine ⟨.ref d, rfl, d, od, entK L, rfl, upd_same, for_it walk_values (fun i σ H' => H' = upd H d (.frz od (.dK (entK L))) ∧ ∃ y, σ = [some (.ref d), some (.int (roomE (L.take i))), y]) ⟨rfl, none, rfl⟩ (fun i σ H' _ h => by rw [h.1]; exact upd_same) ?_ ?_⟩
    · rintro i x σ H' H'' hi ⟨rfl, y, rfl⟩ ⟨rfl, k, hk⟩
      rw [entK_get] at hk
      obtain ⟨e, he, q2⟩ := Option.map_eq_some_iff.mp hk
      cases q2
      have em := List.mem_of_getElem? he
      refine ⟨_, rfl, .ref e.2.1, rfl, e.2.1, _, rfl, .inl (sl_map (bl.sides e em)), _, _, rfl, rfl, .inr ⟨?_, ?_⟩, rfl, some (.ref e.2.1), ?_⟩
      · rw [List.length_map]; omega
      · rw [List.length_map]; have := sz e em; omega
      · rw [room_snoc he, List.length_map]
        rfl
    · rintro σ H' ⟨rfl, y, rfl⟩
      refine ⟨upd_same, ?_⟩
      rw [upd_back bx.un]
      have : (entK L).length = L.length := by unfold entK; rw [List.length_map]
      rw [this, List.take_length]
      exact ⟨_, rfl, q⟩
/-! ### holds -/
def intK (A : List (Str × Int)) : List (Key × V) := A.map fun e => (Sum.inr e.1, V.int e.2)
def aget (A : List (Str × Int)) (x : Str) : Option Int := (A.find? fun e => decide (e.1 = x)).map (·.2)
theorem valV_int (x : Str) : ∀ A : List (Str × Int), valV (intK A) (.inr x) = (aget A x).map V.int
  | [] => rfl
  | e :: A => by
    by_cases h : e.1 = x
    · have : aget (e :: A) x = some e.2 := by simp [aget, List.find?_cons, h]
      rw [this]
      exact valV_pos (congrArg Sum.inr h)
    · have : aget (e :: A) x = aget A x := by simp [aget, List.find?_cons, h]
      rw [this]
      have : valV (intK (e :: A)) (.inr x) = valV (intK A) (.inr x) := valV_neg (fun z => h (Sum.inr.inj z))
      rw [this]
      exact valV_int x A
/-- an assignment: a dict from texts to ints -/
structure Ax (H : Hp) (d : Addr) (A : List (Str × Int)) : Prop where
  rd : Rd H d (.dK (intK A))
theorem Ax.same {H H' : Hp} {d : Addr} {A : List (Str × Int)} (B : Ax H d A) (s : Same H H') : Ax H' d A := ⟨Rd.same s B.rd⟩
theorem Ax.get {H : Hp} {d : Addr} {A : List (Str × Int)} (B : Ax H d A) (x : Str) : DGet H d (.str x) ((aget A x).map V.int) := .inl ⟨intK A, .inr x, B.rd, rfl, (valV_int x A).symm⟩
def inSide (A : List (Str × Int)) (e : Ent) : Bool := match aget A e.1 with
  | some v => decide (v ∈ e.2.2)
  | none => true
def holdsE (L : List Ent) (A : List (Str × Int)) : Bool := L.all (inSide A)
theorem same_frz {H H' : Hp} {d : Addr} {u : HO} {od : Obj} (h : H d = some u) (s : Same H H') : Same (upd H d (.frz od u)) (upd H' d (.frz od u)) := fun b o e => by
  by_cases z : b = d
  · subst z
    rw [upd_same] at e ⊢
    exact e
  · rw [upd_ne z] at e ⊢
    exact s _ _ e
def spHolds : Sp := fun vs H Q _ => ∃ (d v : Addr) (L : List Ent) (A : List (Str × Int)), vs = [.ref d, .ref v] ∧ Bu H d L ∧ Ax H v A ∧ d ≠ v ∧ (∀ e ∈ L, ∃ z, aget A e.1 = some z) ∧ ∀ H', Same H H' → Q (.bl (holdsE L A)) H'
theorem take_all {α : Type} {L : List α} {i : Nat} {e : α} {p : α → Bool} (h : L[i]? = some e) : (L.take (i + 1)).all p = ((L.take i).all p && p e) := by
  rw [List.take_add_one, h, List.all_append]
  simp
theorem not_all {α : Type} {L : List α} {i : Nat} {e : α} {p : α → Bool} (h : L[i]? = some e) (q : p e = false) : L.all p = false := by
  rw [List.all_eq_false]
  exact ⟨e, List.mem_of_getElem? h, by simp [q]⟩
theorem Ax.frz {H : Hp} {v d : Addr} {A : List (Str × Int)} {u : HO} (B : Ax H v A) (h : v ≠ d) : Ax (upd H d u) v A := ⟨B.rd.elim (fun q => .inl (by rw [upd_ne h]; exact q)) fun ⟨o, q⟩ => .inr ⟨o, by rw [upd_ne h]; exact q⟩⟩
theorem entK_len (L : List Ent) : (entK L).length = L.length := by unfold entK; rw [List.length_map]
theorem items_at {L : List Ent} {i : Nat} {x1 x2 : V} (g1 : ((entK L)[i]?.map fun kv => kV kv.1) = some x1) (g2 : ((entK L)[i]?.map Prod.snd) = some x2) : ∃ e, L[i]? = some e ∧ x1 = .str e.1 ∧ x2 = .ref e.2.1 := by
  rw [entK_get] at g1 g2
  cases c : L[i]? with
  | none => rw [c] at g1; cases g1
  | some e => rw [c] at g1 g2; exact ⟨e, rfl, (Option.some.inj g1).symm, (Option.some.inj g2).symm⟩
theorem keys_at {L : List Ent} {i : Nat} {k : Key} {v : V} (h : (entK L)[i]? = some (k, v)) : ∃ e, L[i]? = some e ∧ k = .inr e.1 ∧ v = .ref e.2.1 := by
  rw [entK_get] at h
  obtain ⟨e, he, q⟩ := Option.map_eq_some_iff.mp h
  cases q
  exact ⟨e, he, rfl, rfl⟩
theorem ok_holds {f : Addr} {fd : FuncData} {k : Nat} (F : Fun K "holds" "holds" sHolds f fd) (B : Bt mg) : FnOk P w K mg base CX0 (k + 1) f fd ["box", "values"] spHolds := by
  refine F.ok scHolds (fun vs H Q E h => ?_) (fun cdv A outer s H vs Q E hr h => ?_)
  · obtain ⟨d, v, L, A, rfl, _⟩ := h
    rfl
  · obtain ⟨d, v, L, as, rfl, bx, ax, dv, cov, q⟩ := h
    have hu := hu_of hr
    refine ⟨_, pss_cons (ps_lock (ps_for PassesOwn.never rfl (pi_items (pv 0)) (pg_tup rfl (pgs_cons (pg_name (i := 2) scHolds.nd rfl (.inl rfl)) (pgs_cons (pg_name (i := 3) scHolds.nd rfl (.inl rfl)) pgs_nil)))
        (pss_one (ps_if (pt_cmpR op_notIn_seq (pe_dget hu (pv 1) (pv 2) (fun _ _ => rfl)) (pv 3) rfl) (pss_one (ps_ret pe_bl)) pss_nil))))
      (pss_one (ps_ret pe_bl)), ?_⟩
    refine ⟨d, _, bx.un, trivial, fun od => ?_⟩
    have bl := bx.toBx.lock (od := od) bx.un
    have al := ax.frz (d := d) (u := .frz od (.dK (entK L))) dv.symm
    refine ⟨.ref d, rfl, d, od, entK L, rfl, upd_same, for_it walk_items (fun i σ H' => Same (upd H d (.frz od (.dK (entK L)))) H' ∧ (L.take i).all (inSide as) = true ∧ ∃ y z, σ = [some (.ref d), some (.ref v), y, z]) ⟨Same.refl _, rfl, none, none, rfl⟩ (fun i σ H' _ h => h.1 _ _ upd_same) ?_ ?_⟩
    · rintro i x σ H' H'' hi ⟨sm, ev, y, z, rfl⟩ ⟨T, x1, x2, rfl, nT, rfl, g1, g2⟩
      obtain ⟨e, he, rfl, rfl⟩ := items_at g1 g2
      have em := List.mem_of_getElem? he
      have smT := sm.trans (same_new (o := HO.tup [V.str e.1, V.ref e.2.1]) nT)
      obtain ⟨a, ea⟩ := cov e em
      have gv := (al.same smT).get e.1
      rw [ea] at gv
      refine ⟨T, _, rfl, .inl (.inl upd_same), rfl, _, _, rfl, _, [], rfl, rfl, ?_⟩
      refine ⟨.ref v, rfl, .str e.1, rfl, v, .int a, rfl, gv, .ref e.2.1, rfl, e.2.1, _, rfl, .inl (sl_map (smT _ _ (bl.sides e em))), rfl, flat_ints _, _, rfl, ?_⟩
      rw [in_ints]
      have hp : inSide as e = decide (a ∈ e.2.2) := by unfold inSide; rw [ea]
      by_cases c : a ∈ e.2.2
      · rw [decide_eq_true c]
        refine iteF ⟨smT, ?_, _, _, rfl⟩
        rw [take_all he, ev, hp, decide_eq_true c]
        rfl
      · rw [decide_eq_false c]
        refine iteT ⟨smT _ _ upd_same, ?_⟩
        have hf : holdsE L as = false := not_all he (by rw [hp]; exact decide_eq_false c)
        rw [hf] at q
        exact q _ (unlock bx.un smT)
    · rintro σ H' ⟨sm, ev, y, z, rfl⟩
      rw [entK_len, List.take_length] at ev
      refine ⟨sm _ _ upd_same, ?_⟩
      have hf : holdsE L as = true := ev
      rw [hf] at q
      exact q _ (unlock bx.un sm)
/-! ### box_within -/
def partOf (M : List Ent) (e : Ent) : Bool := match look M e.1 with
  | some i => i.all fun k => decide (k ∈ e.2.2)
  | none => false
def withinE (M L : List Ent) : Bool := L.all (partOf M)
def spBoxIn : Sp := fun vs H Q _ => ∃ (a d : Addr) (M L : List Ent), vs = [.ref a, .ref d] ∧ Bx H a M ∧ Bu H d L ∧ (∀ e ∈ M, e.2.2.length ≤ 31) ∧ (∀ e ∈ L, e.2.2.length ≤ 31) ∧ ∀ H', Same H H' → Q (.bl (withinE M L)) H'
theorem ok_boxIn {f fW : Addr} {fd fdW : FuncData} (F : Fun K "box_within" "box_within" sBoxIn f fd) (B : Bt mg) (W : Call P w K mg base 1 "is_within" fW fdW ["first", "second"] (spWithin K)) : FnOk P w K mg base CX0 2 f fd ["inner", "outer"] spBoxIn := by
  refine F.ok scBoxIn (fun vs H Q E h => ?_) (fun cdv A outer s H vs Q E hr h => ?_)
  · obtain ⟨a, d, M, L, rfl, _⟩ := h
    rfl
  · obtain ⟨a, d, M, L, rfl, bm, bx, zm, zl, q⟩ := h
    have hu := hu_of hr
    refine ⟨_, pss_cons (ps_lock (ps_for PassesOwn.never rfl (pi_items (pv 1)) (pg_tup rfl (pgs_cons (pg_name (i := 2) scBoxIn.nd rfl (.inl rfl)) (pgs_cons (pg_name (i := 3) scBoxIn.nd rfl (.inl rfl)) pgs_nil)))
        (pss_one (ps_if (PW.pt (pw_or (pt_cmp (pc_dnotin hu (pv 2) (pv 0))) (pw_or1 (pt_not (pt_val (pe_call W.ok hr (by rfl) W.at_ W.kp W.bd .nil pass0 (pa_cons (pe_dget hu (pv 0) (pv 2) (fun _ _ => rfl)) (pa_cons (pv 3) pa_nil))))))))
          (pss_one (ps_ret pe_bl)) pss_nil))))
      (pss_one (ps_ret pe_bl)), ?_⟩
    refine ⟨d, _, bx.un, trivial, fun od => ?_⟩
    have bl := bx.toBx.lock (od := od) bx.un
    have ml := bm.lock (od := od) bx.un
    refine ⟨.ref d, rfl, d, od, entK L, rfl, upd_same, for_it walk_items (fun i σ H' => Same (upd H d (.frz od (.dK (entK L)))) H' ∧ (L.take i).all (partOf M) = true ∧ ∃ y z, σ = [some (.ref a), some (.ref d), y, z]) ⟨Same.refl _, rfl, none, none, rfl⟩ (fun i σ H' _ h => h.1 _ _ upd_same) ?_ ?_⟩
    · rintro i x σ H' H'' hi ⟨sm, ev, y, z, rfl⟩ ⟨T, x1, x2, rfl, nT, rfl, g1, g2⟩
      obtain ⟨e, he, rfl, rfl⟩ := items_at g1 g2
      have em := List.mem_of_getElem? he
      have smT := sm.trans (same_new (o := HO.tup [V.str e.1, V.ref e.2.1]) nT)
      have gv := (ml.same smT).get e.1
      refine ⟨T, _, rfl, .inl (.inl upd_same), rfl, _, _, rfl, _, [], rfl, rfl, ?_⟩
      refine ⟨.str e.1, rfl, .ref a, rfl, a, _, rfl, gv, ?_⟩
      cases c : getE M e.1 with
      | none =>
        rw [c] at gv
        refine ⟨true, rfl, smT _ _ upd_same, ?_⟩
        have hf : withinE M L = false := not_all he (by unfold partOf look; rw [c]; rfl)
        rw [hf] at q
        exact q _ (unlock bx.un smT)
      | some m =>
        rw [c] at gv
        obtain ⟨mm, me⟩ := getE_mem c
        refine ⟨false, rfl, iteF ?_⟩
        refine ⟨.ref a, rfl, .str e.1, rfl, a, .ref m.2.1, rfl, gv, .ref e.2.1, rfl, m.2.1, e.2.1, m.2.2, e.2.2, rfl, sl_map (smT _ _ (ml.sides m mm)), sl_map (smT _ _ (bl.sides e em)), zm m mm, zl e em, fun H3 cc s3 hc => ⟨cc, rfl, ?_⟩⟩
        have hp : partOf M e = cc := by
          have h1 : partOf M e = m.2.2.all fun k => decide (k ∈ e.2.2) := by unfold partOf look; rw [c]; rfl
          rw [h1, Bool.eq_iff_iff, hc, List.all_eq_true]
          simp
        have sm3 := smT.trans s3
        cases cc with
        | true =>
          refine iteF ⟨sm3, ?_, _, _, rfl⟩
          rw [take_all he, ev, hp]
          rfl
        | false =>
          refine ⟨sm3 _ _ upd_same, ?_⟩
          have hf : withinE M L = false := not_all he hp
          rw [hf] at q
          exact q _ (unlock bx.un sm3)
    · rintro σ H' ⟨sm, ev, y, z, rfl⟩
      rw [entK_len, List.take_length] at ev
      refine ⟨sm _ _ upd_same, ?_⟩
      have hf : withinE M L = true := ev
      rw [hf] at q
      exact q _ (unlock bx.un sm)
end
end K4

set_option Elab.async false
set_option linter.all false
set_option maxRecDepth 100000
set_option maxHeartbeats 2000000
namespace K4
open PySem PySem.Spec PyProof.Rows L2 Cs
/-- a new box with sides of its own -/
structure Nb (H0 H : Hp) (d : Addr) (L : List Ent) : Prop extends Bu H d L where
  fresh : H0 d = none
  freshS : ∀ e ∈ L, H0 e.2.1 = none
  inj : (L.map (·.2.1)).Nodup
theorem Nb.pull {H H0 H1 : Hp} {d : Addr} {L : List Ent} (N : Nb H0 H1 d L) (s : Same H H0) : Nb H H1 d L := ⟨N.toBu, s.free N.fresh, fun e he => s.free (N.freshS e he), N.inj⟩
theorem Nb.push {H0 H1 H2 : Hp} {d : Addr} {L : List Ent} (N : Nb H0 H1 d L) (s : Same H1 H2) : Nb H0 H2 d L := ⟨N.toBu.same' s, N.fresh, N.freshS, N.inj⟩
abbrev shape (L : List Ent) : List (Str × List Int) := L.map fun e => (e.1, e.2.2)
theorem look_shape : ∀ {L M : List Ent}, shape L = shape M → SameB L M
  | [], [], _, _ => rfl
  | [], _ :: _, h, _ => by cases h
  | _ :: _, [], h, _ => by cases h
  | e :: L, f :: M, h, x => by
    simp only [shape, List.map_cons, List.cons.injEq, Prod.mk.injEq] at h
    obtain ⟨⟨h1, h2⟩, h3⟩ := h
    have ih := look_shape (L := L) (M := M) h3 x
    unfold look at ih ⊢
    by_cases z : e.1 = x
    · rw [getE_pos z, getE_pos (h1 ▸ z)]
      exact congrArg some h2
    · rw [getE_neg z, getE_neg (fun q => z (h1.trans q))]
      exact ih
theorem shape_keys {L M : List Ent} (h : shape L = shape M) : L.map (·.1) = M.map (·.1) := by
  have q := congrArg (List.map Prod.fst) h
  unfold shape at q
  rw [List.map_map, List.map_map] at q
  exact q
theorem putE_new {L : List Ent} {x : Str} {a : Addr} {s : List Int} (h : x ∉ L.map (·.1)) : putE L x a s = L ++ [(x, a, s)] := if_neg fun z => h (any_iff.mp z)
theorem nd_snoc {α : Type} {l : List α} {x : α} (nd : l.Nodup) (h : x ∉ l) : (l ++ [x]).Nodup := by
  rw [List.nodup_append]
  exact ⟨nd, by simp, fun y hy z hz => by rw [List.mem_singleton.mp hz]; exact fun e => h (e ▸ hy)⟩
theorem dc_it {J : It} {n : Nat} {G : Hp → Prop} {Y : Nat → Hp → V → Hp → Prop} (w : Walk J n G Y) {g : TG} {tt : TT} {tk tv : TE} {vs : List Nat} {σ : L2.St} {H1 : Hp} {D : Addr} {Qd : Hp → Prop} (Pv : Nat → Hp → Prop) (start : Pv 0 (upd H1 D (.dK []))) (stays : ∀ i H, i ≤ n → Pv i H → G H)
    (turn : ∀ i x H H', i < n → Pv i H → Y i H x H' → g x (wipe σ vs) H' fun σ2 H2 => wipe σ2 vs = wipe σ vs ∧ tt σ2 H2 fun b H3 =>
      if b = true then tk σ2 H3 fun y H4 => tv σ2 H4 fun z H5 => ∃ kvs k, y = kV k ∧ H5 D = some (.dK kvs) ∧ kvs.length < sizeLine ∧ Pv (i + 1) (upd H5 D (.dK (putK kvs k z))) else Pv (i + 1) H3) (after : ∀ H, Pv n H → Qd H) :
    ∃ W : Nat → Nat → Hp → Prop, (∃ m, W 0 m (upd H1 D (.dK []))) ∧ ∀ i m H, W i m H →
      (J.stop i H ∧ Qd H) ∨ (J.go i H ∧ ∃ Nx : Hp → Prop, (∀ H', Nx H' → ∃ m', m' < m ∧ W (i + 1) m' H') ∧ ∀ x H', J.yld i H x H' → g x (wipe σ vs) H' fun σ2 H2 => wipe σ2 vs = wipe σ vs ∧ tt σ2 H2 fun b H3 =>
        if b = true then tk σ2 H3 fun y H4 => tv σ2 H4 fun z H5 => ∃ kvs k, y = kV k ∧ H5 D = some (.dK kvs) ∧ kvs.length < sizeLine ∧ Nx (upd H5 D (.dK (putK kvs k z))) else Nx H3) := by
  refine ⟨fun i m H => m = n - i ∧ i ≤ n ∧ Pv i H, ⟨n, rfl, Nat.zero_le _, start⟩, fun i m H h => ?_⟩
  obtain ⟨em, le, pv⟩ := h
  by_cases lt : i < n
  · exact .inr ⟨w.goes i H lt (stays i H le pv), Pv (i + 1), fun H' p => ⟨n - (i + 1), by omega, rfl, lt, p⟩, fun x H' y => turn i x H H' lt pv (w.yields i H x H' lt (stays i H le pv) y)⟩
  · obtain rfl : i = n := by omega
    exact .inl ⟨w.stops H (stays _ H le pv), after H pv⟩
section
variable {P : Program} {w : World} {K : PySem.W.Frag} {mg : Str → Option Value} {base : Heap}
abbrev rLst (K : PySem.W.Frag) : List V → Hp → VK → Prop := fun xs H Q => ∃ p ys, xs = [.ref p] ∧ (SqL K H p ys ∨ SqT K H p ys) ∧ ∀ l, H l = none → Q (.ref l) (upd H l (.lst ys))
def spCopy : Sp := fun vs H Q _ => ∃ (d : Addr) (L : List Ent), vs = [.ref d] ∧ Bu H d L ∧ ∀ (H' : Hp) (d' : Addr) (M : List Ent), Same H H' → Nb H H' d' M → shape M = shape L → Q (.ref d') H'
theorem ok_copy {f : Addr} {fd : FuncData} {k : Nat} (F : Fun K "copied_box" "copied_box" sCopy f fd) (B : Bt mg) : FnOk P w K mg base CX0 (k + 1) f fd ["box"] spCopy := by
  refine F.ok scCopy (fun vs H Q E h => ?_) (fun cdv A outer s H vs Q E hr h => ?_)
  · obtain ⟨d, L, rfl, _⟩ := h
    rfl
  · obtain ⟨d, L, rfl, bx, q⟩ := h
    have nd := scCopy.nd
    refine ⟨_, pss_one (ps_ret (pe_lock (pe_dc (own := [("name", 1), ("side", 2)]) (g := gTup K 2 (gCons (gName 1) (gCons (gName 2) gNil))) (tt := tYes) (tk := tVar 1) (tv := tCB (rLst K) (tCons (tVar 2) tNil)) rfl nd (pi_items (pv 0)) (blkOk_by (N := nCopy) (sc := defScope sCopy) (by decide +kernel))
      (fun _ _ _ _ _ => pg_tup rfl (pgs_cons (pg_name (i := 1) nd rfl (Or.inl rfl)) (pgs_cons (pg_name (i := 2) nd rfl (Or.inl rfl)) pgs_nil))) (fun _ _ _ _ _ => pts_nil) (fun _ _ _ _ _ => pv 1)
      (fun _ _ _ _ _ => pe_callTy call_list_of (by rfl) B.list PyProof.Rows.boot_list (pa_cons (pv 2) pa_nil))))), ?_⟩
    refine ⟨d, _, bx.un, trivial, fun od => ?_⟩
    have bl := bx.toBx.lock (od := od) bx.un
    refine ⟨.ref d, rfl, d, od, entK L, rfl, upd_same, fun D nD => dc_it walk_items (fun i H' => Same (upd H d (.frz od (.dK (entK L)))) H' ∧ ∃ M : List Ent, H' D = some (.dK (entK M)) ∧ (∀ e ∈ M, H' e.2.1 = some (.lst (e.2.2.map V.int))) ∧ (∀ e ∈ M, (upd H d (.frz od (.dK (entK L)))) e.2.1 = none) ∧ (M.map (·.2.1)).Nodup ∧ shape M = shape (L.take i))
      ⟨same_new nD, [], upd_same, by simp, by simp, List.Pairwise.nil, rfl⟩ (fun i H' _ h => h.1 _ _ upd_same) ?_ ?_⟩
    · rintro i x H' H'' hi ⟨sm, M, eD, sd, fr, ij, sh⟩ ⟨T, x1, x2, rfl, nT, rfl, g1, g2⟩
      obtain ⟨e, he, rfl, rfl⟩ := items_at g1 g2
      have em := List.mem_of_getElem? he
      have sT := same_new (o := HO.tup [V.str e.1, V.ref e.2.1]) nT
      have smT := sm.trans sT
      refine ⟨T, _, rfl, .inl (.inl upd_same), rfl, _, _, rfl, _, [], rfl, rfl, ?_⟩
      refine ⟨rfl, ?_⟩
      refine ⟨.str e.1, rfl, .ref e.2.1, rfl, e.2.1, _, rfl, .inl (sl_map (smT _ _ (bl.sides e em))), fun l nl => ?_⟩
      have sl := same_new (o := HO.lst (e.2.2.map V.int)) nl
      have sml := smT.trans sl
      have eD2 := sl _ _ (sT _ _ eD)
      have keys : M.map (·.1) = (L.take i).map (·.1) := shape_keys sh
      have xnew : e.1 ∉ M.map (·.1) := by
        rw [keys]
        intro z
        obtain ⟨g, hg, eg⟩ := List.mem_map.mp z
        obtain ⟨j, hj⟩ := List.mem_iff_getElem?.mp hg
        rw [List.getElem?_take] at hj
        split at hj
        · rename_i hji
          have a1 : (L.map (·.1))[j]? = some e.1 := by rw [List.getElem?_map, hj]; exact congrArg some eg
          have a2 : (L.map (·.1))[i]? = some e.1 := by rw [List.getElem?_map, he]; rfl
          have := nd_ix bx.nd a1 a2
          omega
        · cases hj
      have nlD : l ≠ D := fun z => by rw [z, sT _ _ eD] at nl; cases nl
      refine ⟨_, .inr e.1, rfl, eD2, ?_, same_at sml nD, M ++ [(e.1, l, e.2.2)], ?_, ?_, ?_, ?_, ?_⟩
      · rw [entK_len]
        have : M.length = (L.take i).length := by have := congrArg List.length sh; simpa [shape] using this
        rw [List.length_take] at this
        have := bx.few
        exact small1000 (by omega)
      · rw [upd_same, putK_ent (s := e.2.2), putE_new xnew]
      · intro g hg
        rcases List.mem_append.mp hg with z | z
        · have h1 := sl _ _ (sT _ _ (sd g z))
          have h2 : g.2.1 ≠ D := fun w => by rw [w, eD2] at h1; cases h1
          rw [upd_ne h2]
          exact h1
        · rw [List.mem_singleton.mp z, upd_ne nlD, upd_same]
      · intro g hg
        rcases List.mem_append.mp hg with z | z
        · exact fr g z
        · rw [List.mem_singleton.mp z]
          exact smT.free nl
      · rw [List.map_append]
        refine nd_snoc ij fun z => ?_
        obtain ⟨g, hg, eg⟩ := List.mem_map.mp z
        have eg' : g.2.1 = l := eg
        have h1 := sT _ _ (sd g hg)
        rw [eg', nl] at h1
        cases h1
      · rw [List.take_add_one, he]
        unfold shape at sh ⊢
        rw [List.map_append, List.map_append, sh]
        rfl
    · rintro H' ⟨sm, M, eD, sd, fr, ij, sh⟩
      rw [entK_len, List.take_length] at sh
      have eF := sm _ _ (upd_same (H := H) (a := d) (o := HO.frz od (.dK (entK L))))
      have nDd : D ≠ d := fun z => by rw [z, eF] at eD; cases eD
      have nD0 : H D = none := by rw [upd_ne nDd] at nD; exact nD
      have away : ∀ g ∈ M, g.2.1 ≠ d := fun g hg z => by have := sd g hg; rw [z, eF] at this; cases this
      refine ⟨eF, q _ D M (unlock bx.un sm) ⟨⟨⟨.inl (by rw [upd_ne nDd]; exact eD), fun g hg => by rw [upd_ne (away g hg)]; exact sd g hg, by rw [shape_keys sh]; exact bx.nd, ?_⟩, by rw [upd_ne nDd]; exact eD⟩, nD0, fun g hg => ?_, ij⟩ sh⟩
      · have : M.length = L.length := by have := congrArg List.length sh; simpa [shape] using this
        rw [this]; exact bx.few
      · have := fr g hg
        rw [upd_ne (away g hg)] at this
        exact this
end
end K4

set_option Elab.async false
set_option linter.all false
set_option maxRecDepth 100000
set_option maxHeartbeats 2000000
namespace K4
open PySem PySem.Spec PyProof.Rows L2 Cs
/-! ### what two sorted lists have together -/
def ins (k : Int) : List Int → List Int
  | [] => [k]
  | x :: l => if k < x then k :: x :: l else if k = x then x :: l else x :: ins k l
theorem ins_mem (k j : Int) : ∀ l : List Int, j ∈ ins k l ↔ j = k ∨ j ∈ l
  | [] => by simp [ins]
  | x :: l => by
    unfold ins
    by_cases a : k < x
    · rw [if_pos a]; simp
    · rw [if_neg a]
      by_cases b : k = x
      · rw [if_pos b, b]; simp
      · rw [if_neg b, List.mem_cons, ins_mem k j l, List.mem_cons]
        constructor
        · rintro (h | h | h)
          · exact .inr (.inl h)
          · exact .inl h
          · exact .inr (.inr h)
        · rintro (h | h | h)
          · exact .inr (.inl h)
          · exact .inl h
          · exact .inr (.inr h)
theorem ins_srt (k : Int) : ∀ l : List Int, Srt l → Srt (ins k l)
  | [], _ => List.pairwise_singleton _ _
  | x :: l, s => by
    obtain ⟨s1, s2⟩ := List.pairwise_cons.mp s
    unfold ins
    by_cases a : k < x
    · rw [if_pos a]
      refine List.pairwise_cons.mpr ⟨fun y hy => ?_, s⟩
      rcases List.mem_cons.mp hy with h | h
      · rw [h]; exact a
      · have := s1 y h; omega
    · rw [if_neg a]
      by_cases b : k = x
      · rw [if_pos b]; exact s
      · rw [if_neg b]
        refine List.pairwise_cons.mpr ⟨fun y hy => ?_, ins_srt k l s2⟩
        rcases (ins_mem k y l).mp hy with h | h
        · rw [h]; omega
        · exact s1 y h
theorem ins_len (k : Int) : ∀ l : List Int, (ins k l).length ≤ l.length + 1
  | [] => Nat.le_refl _
  | x :: l => by
    have := ins_len k l
    unfold ins
    split
    · simp
    · split
      · simp
      · simp only [List.length_cons]; omega
def uni (a b : List Int) : List Int := b.foldr ins a
theorem uni_mem (a : List Int) (j : Int) : ∀ b : List Int, j ∈ uni a b ↔ j ∈ a ∨ j ∈ b
  | [] => by simp [uni]
  | k :: b => by
    have ih := uni_mem a j b
    show j ∈ ins k (uni a b) ↔ _
    rw [ins_mem, ih, List.mem_cons]
    constructor
    · rintro (h | h | h)
      · exact .inr (.inl h)
      · exact .inl h
      · exact .inr (.inr h)
    · rintro (h | h | h)
      · exact .inr (.inl h)
      · exact .inl h
      · exact .inr (.inr h)
theorem uni_srt {a : List Int} (s : Srt a) : ∀ b : List Int, Srt (uni a b)
  | [] => s
  | k :: b => ins_srt k _ (uni_srt s b)
theorem uni_len (a : List Int) : ∀ b : List Int, (uni a b).length ≤ a.length + b.length
  | [] => Nat.le_refl _
  | k :: b => by
    have h1 := ins_len k (uni a b)
    have h2 := uni_len a b
    show (ins k (uni a b)).length ≤ a.length + (b.length + 1)
    omega
def both (a s : List Int) : List Int := a.filter fun k => decide (k ∈ s)
theorem both_srt {a s : List Int} (h : Srt a) : Srt (both a s) := List.Pairwise.filter _ h
theorem both_mem (a s : List Int) (k : Int) : k ∈ both a s ↔ k ∈ a ∧ k ∈ s := by
  unfold both
  rw [List.mem_filter, decide_eq_true_iff]
/-- the meet, the join, by what they say of a name -/
def mt (L M : List Ent) (x : Str) : Option (List Int) := match look M x with
  | none => look L x
  | some s => match look L x with
    | none => some s
    | some a => some (both a s)
def jo : Option (List Int) → Option (List Int) → Option (List Int)
  | some a, some s => some (uni a s)
  | _, _ => none
def jn (L M : List Ent) (n x : Str) : Option (List Int) := if x = n then jo (look L n) (look M n) else mt L M x
theorem look_snoc (L : List Ent) (e : Ent) (y : Str) (h : e.1 ∉ L.map (·.1)) : look (L ++ [e]) y = if y = e.1 then some e.2.2 else look L y := by
  unfold look
  rw [getE_app]
  by_cases z : y = e.1
  · rw [if_pos z, z, getE_none.mpr h, getE_pos rfl]
    rfl
  · rw [if_neg z, getE_neg (fun q => z q.symm), getE_nil]
    cases getE L y <;> rfl
theorem take_keys {L : List Ent} {i : Nat} {e : Ent} (nd : (L.map (·.1)).Nodup) (he : L[i]? = some e) : e.1 ∉ (L.take i).map (·.1) := by
  intro z
  obtain ⟨g, hg, eg⟩ := List.mem_map.mp z
  obtain ⟨j, hj⟩ := List.mem_iff_getElem?.mp hg
  rw [List.getElem?_take] at hj
  split at hj
  · rename_i hji
    have a1 : (L.map (·.1))[j]? = some e.1 := by rw [List.getElem?_map, hj]; exact congrArg some eg
    have a2 : (L.map (·.1))[i]? = some e.1 := by rw [List.getElem?_map, he]; rfl
    have := nd_ix nd a1 a2
    omega
  · cases hj
theorem look_take {L : List Ent} {i : Nat} {e : Ent} (nd : (L.map (·.1)).Nodup) (he : L[i]? = some e) (y : Str) : look (L.take (i + 1)) y = if y = e.1 then some e.2.2 else look (L.take i) y := by
  rw [List.take_add_one, he]
  exact look_snoc (L.take i) e y (take_keys nd he)
structure Sz (L : List Ent) (n : Nat) : Prop where
  srt : ∀ e ∈ L, Srt e.2.2
  len : ∀ e ∈ L, e.2.2.length ≤ n
theorem look_of {L : List Ent} {x : Str} {s : List Int} (h : look L x = some s) : ∃ e ∈ L, e.1 = x ∧ e.2.2 = s := by
  unfold look at h
  obtain ⟨e, he, q⟩ := Option.map_eq_some_iff.mp h
  obtain ⟨a, b⟩ := getE_mem he
  exact ⟨e, a, b, q⟩
/-- what a new box needs when one more side is put -/
theorem Nb.put {H0 H H3 : Hp} {d l : Addr} {M : List Ent} {x : Str} {s : List Int} (N : Nb H0 H d M) (n0 : H0 l = none) (nl : H l = none) (s3 : Same H H3) (el : H3 l = some (.lst (s.map V.int))) (few : M.length + 1 ≤ 40) :
    Nb H0 (upd H3 d (.dK (entK (putE M x l s)))) d (putE M x l s) := by
  have nld : l ≠ d := fun z => by rw [z, N.un] at nl; cases nl
  have sd : ∀ e ∈ putE M x l s, (upd H3 d (.dK (entK (putE M x l s)))) e.2.1 = some (.lst (e.2.2.map V.int)) := fun e he => by
    rcases putE_mem he with z | ⟨z, _⟩
    · rw [z, upd_ne nld]
      exact el
    · have h1 := N.sides e z
      have h2 : e.2.1 ≠ d := fun w => by rw [w, N.un] at h1; cases h1
      rw [upd_ne h2]
      exact s3 _ _ h1
  refine ⟨⟨⟨.inl upd_same, sd, putE_nd N.nd, by have := putE_len M x l s; omega⟩, upd_same⟩, N.fresh, fun e he => ?_, ?_⟩
  · rcases putE_mem he with z | ⟨z, _⟩
    · rw [z]; exact n0
    · exact N.freshS e z
  · have lM : l ∉ M.map (·.2.1) := fun w => by
      obtain ⟨g, hg, eg⟩ := List.mem_map.mp w
      have eg' : g.2.1 = l := eg
      have h1 := N.sides g hg
      rw [eg', nl] at h1
      cases h1
    unfold putE
    split
    · rw [List.map_map]
      have key : ∀ L : List Ent, (L.map (·.1)).Nodup → (L.map (·.2.1)).Nodup → l ∉ L.map (·.2.1) → (L.map ((fun e : Ent => e.2.1) ∘ fun e => if e.1 = x then (x, l, s) else e)).Nodup ∧ ∀ q ∈ L.map ((fun e : Ent => e.2.1) ∘ fun e => if e.1 = x then (x, l, s) else e), q ∈ L.map (·.2.1) ∨ (q = l ∧ x ∈ L.map (·.1)) := by
        intro L
        induction L with
        | nil => intro _ _ _; exact ⟨List.Pairwise.nil, fun q hq => by cases hq⟩
        | cons e L ih =>
          intro n1 n2 n3
          rw [List.map_cons, List.nodup_cons] at n1 n2
          rw [List.map_cons, List.mem_cons, not_or] at n3
          obtain ⟨i1, i2⟩ := ih n1.2 n2.2 n3.2
          rw [List.map_cons, List.nodup_cons]
          by_cases c : e.1 = x
          · have ef : ((fun e : Ent => e.2.1) ∘ fun e => if e.1 = x then (x, l, s) else e) e = l := by simp [c]
            rw [ef]
            refine ⟨⟨fun w => ?_, i1⟩, fun q hq => ?_⟩
            · rcases i2 l w with z | ⟨_, z⟩
              · exact n3.2 z
              · exact n1.1 (c ▸ z)
            · rcases List.mem_cons.mp hq with z | z
              · exact .inr ⟨z, by rw [List.map_cons, c]; exact List.mem_cons_self⟩
              · rcases i2 q z with y | ⟨y1, y2⟩
                · exact .inl (List.mem_cons_of_mem _ y)
                · exact .inr ⟨y1, List.mem_cons_of_mem _ y2⟩
          · have ef : ((fun e : Ent => e.2.1) ∘ fun e => if e.1 = x then (x, l, s) else e) e = e.2.1 := by simp [c]
            rw [ef]
            refine ⟨⟨fun w => ?_, i1⟩, fun q hq => ?_⟩
            · rcases i2 _ w with z | ⟨z, _⟩
              · exact n2.1 z
              · exact n3.1 z.symm
            · rcases List.mem_cons.mp hq with z | z
              · exact .inl (by rw [z]; exact List.mem_cons_self)
              · rcases i2 q z with y | ⟨y1, y2⟩
                · exact .inl (List.mem_cons_of_mem _ y)
                · exact .inr ⟨y1, List.mem_cons_of_mem _ y2⟩
      exact (key M N.nd N.inj lM).1
    · rw [List.map_append]
      exact nd_snoc N.inj lM
end K4

set_option Elab.async false
set_option linter.all false
set_option maxRecDepth 100000
set_option maxHeartbeats 2000000
namespace K4
open PySem PySem.Spec PyProof.Rows L2 Cs
theorem mt_step {L1 L2' : List Ent} {i : Nat} {e : Ent} (nd : (L2'.map (·.1)).Nodup) (he : L2'[i]? = some e) (y : Str) :
    mt L1 (L2'.take (i + 1)) y = if y = e.1 then (match look L1 e.1 with | none => some e.2.2 | some a => some (both a e.2.2)) else mt L1 (L2'.take i) y := by
  unfold mt
  rw [look_take nd he]
  by_cases z : y = e.1
  · rw [if_pos z, if_pos z, z] <;> rfl
  · rw [if_neg z, if_neg z]
theorem mt_nil (L1 : List Ent) (y : Str) : mt L1 [] y = look L1 y := rfl
theorem Same.unl {H H' : Hp} {d : Addr} {u : HO} {od : Obj} (h : H d = some u) (s : Same (upd H d (.frz od u)) H') : Same H (upd H' d u) := unlock h s
/-- a new box behind a lock elsewhere -/
theorem Nb.unl {H0 H' : Hp} {b d : Addr} {u : HO} {M : List Ent} {od : Obj} (N : Nb H0 H' d M) (hb : H0 b = some u) (eF : H' b = some (.frz od u)) : Nb H0 (upd H' b u) d M := by
  have db : d ≠ b := fun z => by have := N.un; rw [z, eF] at this; cases this
  have away : ∀ g ∈ M, g.2.1 ≠ b := fun g hg z => by have := N.sides g hg; rw [z, eF] at this; cases this
  exact ⟨⟨⟨.inl (by rw [upd_ne db]; exact N.un), fun g hg => by rw [upd_ne (away g hg)]; exact N.sides g hg, N.nd, N.few⟩, by rw [upd_ne db]; exact N.un⟩, N.fresh, N.freshS, N.inj⟩
theorem Nb.lck {H0 H : Hp} {b d : Addr} {u : HO} {M : List Ent} {od : Obj} (N : Nb H0 H d M) (hb : H0 b ≠ none) : Nb H0 (upd H b (.frz od u)) d M := by
  have db : d ≠ b := fun z => hb (z ▸ N.fresh)
  have away : ∀ g ∈ M, g.2.1 ≠ b := fun g hg z => hb (z ▸ N.freshS g hg)
  exact ⟨⟨⟨.inl (by rw [upd_ne db]; exact N.un), fun g hg => by rw [upd_ne (away g hg)]; exact N.sides g hg, N.nd, N.few⟩, by rw [upd_ne db]; exact N.un⟩, N.fresh, N.freshS, N.inj⟩
section
variable {P : Program} {w : World} {K : PySem.W.Frag} {mg : Str → Option Value} {base : Heap}
def spMeet : Sp := fun vs H Q _ => ∃ (a b : Addr) (L1 L2' : List Ent), vs = [.ref a, .ref b] ∧ Bu H a L1 ∧ Bu H b L2' ∧ Sz L1 31 ∧ Sz L2' 31 ∧ L1.length + L2'.length ≤ 40 ∧
  ∀ (H' : Hp) (d : Addr) (M : List Ent), Same H H' → Nb H H' d M → (∀ x, look M x = mt L1 L2' x) → M.length ≤ L1.length + L2'.length → Q (.ref d) H'
theorem ok_meet {f fC fM : Addr} {fd fdC fdM : FuncData} (F : Fun K "meet_boxes" "meet_boxes" sMeet f fd) (B : Bt mg) (C : Call P w K mg base 1 "copied_box" fC fdC ["box"] spCopy)
    (Co : Call P w K mg base 1 "common" fM fdM ["first", "second"] (spTwo K fun ns ks k => k ∈ ns ∧ k ∈ ks)) : FnOk P w K mg base CX0 2 f fd ["first", "second"] spMeet := by
  refine F.ok scMeet (fun vs H Q E h => ?_) (fun cdv A outer s H vs Q E hr h => ?_)
  · obtain ⟨a, b, L1, L2', rfl, _⟩ := h
    rfl
  · obtain ⟨a, b, L1, L2', rfl, b1, b2, z1, z2, few, q⟩ := h
    have hu := hu_of hr
    have nd := scMeet.nd
    refine ⟨_, pss_cons (ps_set (i := 2) nd rfl (.inl rfl) (pe_call C.ok hr (by rfl) C.at_ C.kp C.bd .nil pass0 (pa_cons (pv 0) pa_nil)))
      (pss_cons (ps_lock (ps_for PassesOwn.never rfl (pi_items (pv 1)) (pg_tup rfl (pgs_cons (pg_name (i := 3) nd rfl (.inl rfl)) (pgs_cons (pg_name (i := 4) nd rfl (.inl rfl)) pgs_nil)))
        (pss_one (ps_dput hu (pv 2) (pv 3) (pe_ifExp (pt_cmp (pc_din hu (pv 3) (pv 0))) (pe_call Co.ok hr (by rfl) Co.at_ Co.kp Co.bd .nil pass0 (pa_cons (pe_dget hu (pv 0) (pv 3) (fun _ _ => rfl)) (pa_cons (pv 4) pa_nil)))
          (pe_callTy call_list_of (by rfl) B.list PyProof.Rows.boot_list (pa_cons (pv 4) pa_nil))) rfl))))
      (pss_one (ps_ret (pv 2)))), ?_⟩
    refine ⟨.ref a, rfl, a, L1, rfl, b1, fun H1 d M0 s1 n0 sh => ?_⟩
    have u2 := s1 _ _ b2.un
    have lenM : M0.length = L1.length := by have := congrArg List.length sh; simpa [shape] using this
    refine ⟨b, _, u2, trivial, fun od => ?_⟩
    have c1 := (b1.toBx.same s1).lock (od := od) u2
    have c2 := (b2.toBx.same s1).lock (od := od) u2
    have hb0 : H b ≠ none := by rw [b2.un]; exact fun z => by cases z
    refine ⟨.ref b, rfl, b, od, entK L2', rfl, upd_same, for_it walk_items (fun i σ H' => ∃ (M : List Ent) (y z : Option V), σ = [some (.ref a), some (.ref b), some (.ref d), y, z] ∧ (∀ x o, x ≠ d → (upd H1 b (.frz od (.dK (entK L2')))) x = some o → H x ≠ none → H' x = some o) ∧ H' b = some (.frz od (.dK (entK L2'))) ∧ Nb H H' d M ∧ (∀ x, look M x = mt L1 (L2'.take i) x) ∧ M.length ≤ L1.length + i)
      ⟨M0, none, none, rfl, fun x o _ e _ => e, upd_same, n0.lck hb0, fun x => by rw [List.take_zero, mt_nil]; exact look_shape sh x, by omega⟩ (fun i σ H' _ h => by obtain ⟨M, y, z, _, _, e, _⟩ := h; exact e) ?_ ?_⟩
    · rintro i x σ H' H'' hi ⟨M, y, z, rfl, kp, eF, nb, lk, ln⟩ ⟨T, x1, x2, rfl, nT, rfl, g1, g2⟩
      obtain ⟨e, he, rfl, rfl⟩ := items_at g1 g2
      have em := List.mem_of_getElem? he
      rw [entK_len] at hi
      have sT := same_new (o := HO.tup [V.str e.1, V.ref e.2.1]) nT
      have nbT := nb.push sT
      have eFT := sT _ _ eF
      -- what stood is read as before
      have rd : ∀ {x : Addr} {o : HO}, H x = some o → x ≠ b → H' x = some o := fun {x o} h hx => kp x o (fun w => by rw [w, n0.fresh] at h; cases h) (by rw [upd_ne hx]; exact s1 _ _ h) (by rw [h]; exact fun z => by cases z)
      have rdS : ∀ {x : Addr} {ys : List V}, H x = some (.lst ys) → (upd H' T (.tup [V.str e.1, V.ref e.2.1])) x = some (.lst ys) := fun {x ys} h => sT _ _ (rd h (fun w => by rw [w, b2.un] at h; cases h))
      have bxA : Bx (upd H' T (.tup [V.str e.1, V.ref e.2.1])) a L1 := by
        refine ⟨?_, fun g hg => rdS (b1.sides g hg), b1.nd, b1.few⟩
        by_cases w : a = b
        · have : entK L1 = entK L2' := by
            have h1 := b1.un
            rw [w, b2.un] at h1
            exact (HO.dK.inj (Option.some.inj h1)).symm
          rw [this, w]
          exact .inr ⟨od, eFT⟩
        · exact .inl (sT _ _ (rd b1.un w))
      refine ⟨T, _, rfl, .inl (.inl upd_same), rfl, _, _, rfl, _, [], rfl, rfl, ?_⟩
      have gv := bxA.get e.1
      -- the value that is put
      have back : ∀ {l : Addr}, (upd H' T (.tup [V.str e.1, V.ref e.2.1])) l = none → H l = none := fun {l} nl => by
        cases c : H l with
        | none => rfl
        | some o =>
          by_cases w : l = b
          · rw [w, eFT] at nl; cases nl
          · rw [sT _ _ (rd c w)] at nl; cases nl
      have done : ∀ (H3 : Hp) (l : Addr) (sd : List Int), Same (upd H' T (.tup [V.str e.1, V.ref e.2.1])) H3 → (upd H' T (.tup [V.str e.1, V.ref e.2.1])) l = none → H3 l = some (.lst (sd.map V.int)) →
          (match look L1 e.1 with | none => some e.2.2 | some a => some (both a e.2.2)) = some sd →
          ∃ (M' : List Ent) (y z : Option V), [some (V.ref a), some (V.ref b), some (V.ref d), some (V.str e.1), some (V.ref e.2.1)] = [some (.ref a), some (.ref b), some (.ref d), y, z] ∧ (∀ x o, x ≠ d → (upd H1 b (.frz od (.dK (entK L2')))) x = some o → H x ≠ none → (upd H3 d (.dK (putK (entK M) (.inr e.1) (V.ref l)))) x = some o) ∧
            (upd H3 d (.dK (putK (entK M) (.inr e.1) (V.ref l)))) b = some (.frz od (.dK (entK L2'))) ∧ Nb H (upd H3 d (.dK (putK (entK M) (.inr e.1) (V.ref l)))) d M' ∧ (∀ x, look M' x = mt L1 (L2'.take (i + 1)) x) ∧ M'.length ≤ L1.length + (i + 1) := by
        intro H3 l sd s3 nl el val
        have db : b ≠ d := fun w => hb0 (w ▸ n0.fresh)
        rw [putK_ent (s := sd)]
        refine ⟨putE M e.1 l sd, _, _, rfl, fun x o hx hl hn => ?_, ?_, nbT.put (back nl) nl s3 el (by omega), fun x => ?_, ?_⟩
        · rw [upd_ne hx]
          exact s3 _ _ (sT _ _ (kp x o hx hl hn))
        · rw [upd_ne db]
          exact s3 _ _ eFT
        · rw [look_put, mt_step b2.nd he, val, lk x]
        · have := putE_len M e.1 l sd; omega
      have lenK : (entK M).length < sizeLine := by
        rw [entK_len]
        have := nb.few
        exact small1000 (by omega)
      refine ⟨.str e.1, rfl, .ref a, rfl, a, _, rfl, gv, ?_⟩
      cases c : getE L1 e.1 with
      | none =>
        have hl : look L1 e.1 = none := by unfold look; rw [c]; rfl
        refine ⟨false, rfl, iteF ?_⟩
        refine ⟨.ref e.2.1, rfl, e.2.1, _, rfl, .inl (sl_map (rdS (b2.sides e em))), fun l nl => ?_⟩
        have sl := same_new (o := HO.lst (e.2.2.map V.int)) nl
        refine ⟨.ref d, rfl, .str e.1, rfl, d, _, rfl, DPut.k (k := .inr e.1) (sl _ _ nbT.un) lenK, ?_⟩
        exact done _ l e.2.2 sl nl upd_same (by rw [hl])
      | some m =>
        obtain ⟨mm, me⟩ := getE_mem c
        have hl : look L1 e.1 = some m.2.2 := by unfold look; rw [c]; rfl
        rw [c] at gv
        refine ⟨true, rfl, iteT ?_⟩
        refine ⟨.ref a, rfl, .str e.1, rfl, a, .ref m.2.1, rfl, gv, .ref e.2.1, rfl, m.2.1, e.2.1, m.2.2, e.2.2, rfl, sl_map (rdS (b1.sides m mm)), sl_map (rdS (b2.sides e em)), z1.len m mm, z2.len e em, fun H3 l ms s3 nl el so mem _ => ?_⟩
        have ems : ms = both m.2.2 e.2.2 := srt_ext so (both_srt (z1.srt m mm)) fun k => (mem k).trans (both_mem _ _ k).symm
        refine ⟨.ref d, rfl, .str e.1, rfl, d, _, rfl, DPut.k (k := .inr e.1) (s3 _ _ nbT.un) lenK, ?_⟩
        exact done H3 l ms s3 nl el (by rw [hl, ems])
    · rintro σ H' ⟨M, y, z, rfl, kp, eF, nb, lk, ln⟩
      rw [entK_len] at lk ln
      rw [List.take_length] at lk
      refine ⟨eF, ?_⟩
      have same : Same H (upd H' b (.dK (entK L2'))) := fun x o e => by
        by_cases w : x = b
        · rw [w, upd_same]; rw [w, b2.un] at e; exact e
        · rw [upd_ne w]
          exact kp x o (fun v => by rw [v, n0.fresh] at e; cases e) (by rw [upd_ne w]; exact s1 _ _ e) (by rw [e]; exact fun z => by cases z)
      exact ⟨_, rfl, q _ d M same (nb.unl b2.un eF) lk ln⟩
end
end K4

set_option Elab.async false
set_option linter.all false
set_option maxRecDepth 100000
set_option maxHeartbeats 2000000
namespace K4
open PySem PySem.Spec PyProof.Rows L2 Cs
theorem Nb.drop {H0 H : Hp} {d : Addr} {M : List Ent} {x : Str} (N : Nb H0 H d M) : Nb H0 (upd H d (.dK (entK (dropE M x)))) d (dropE M x) := by
  refine ⟨⟨⟨.inl upd_same, fun e he => ?_, dropE_nd N.nd, Nat.le_trans (dropE_len M x) N.few⟩, upd_same⟩, N.fresh, fun e he => N.freshS e (dropE_mem he), List.Pairwise.sublist (List.Sublist.map _ List.filter_sublist) N.inj⟩
  have h1 := N.sides e (dropE_mem he)
  have h2 : e.2.1 ≠ d := fun w => by rw [w, N.un] at h1; cases h1
  rw [upd_ne h2]
  exact h1
theorem Nb.old {H0 H : Hp} {d : Addr} {M : List Ent} {u : HO} (N : Nb H0 H d M) (s : Same H0 H) : Same H0 (upd H d u) := same_at s N.fresh
section
variable {P : Program} {w : World} {K : PySem.W.Frag} {mg : Str → Option Value} {base : Heap}
def spJoin : Sp := fun vs H Q _ => ∃ (a b : Addr) (n : Str) (L1 L2' : List Ent), vs = [.ref a, .ref b, .str n] ∧ Bu H a L1 ∧ Bu H b L2' ∧ Sz L1 31 ∧ Sz L2' 31 ∧ L1.length + L2'.length ≤ 30 ∧
  ∀ (H' : Hp) (d : Addr) (M : List Ent), Same H H' → Nb H H' d M → (∀ x, look M x = jn L1 L2' n x) → M.length ≤ L1.length + L2'.length + 1 → Q (.ref d) H'
theorem ok_join {f fM fU : Addr} {fd fdM fdU : FuncData} (F : Fun K "join_boxes" "join_boxes" sJoin f fd) (B : Bt mg) (Me : Call P w K mg base 2 "meet_boxes" fM fdM ["first", "second"] spMeet)
    (U : Call P w K mg base 1 "united" fU fdU ["first", "second"] (spTwo K fun ns ks k => k ∈ ns ∨ k ∈ ks)) : FnOk P w K mg base CX0 3 f fd ["first", "second", "name"] spJoin := by
  refine F.ok scJoin (fun vs H Q E h => ?_) (fun cdv A outer s H vs Q E hr h => ?_)
  · obtain ⟨a, b, n, L1, L2', rfl, _⟩ := h
    rfl
  · obtain ⟨a, b, n, L1, L2', rfl, b1, b2, z1, z2, few, q⟩ := h
    have hu := hu_of hr
    have nd := scJoin.nd
    have hr1 : Room 1 (A.deeper (envOfC "join_boxes" (defScope sJoin) s.heap.objs.size f cdv)) := hr.mono (by decide)
    refine ⟨_, pss_cons (ps_set (i := 3) nd rfl (.inl rfl) (pe_call Me.ok hr (by rfl) Me.at_ Me.kp Me.bd .nil pass0 (pa_cons (pv 0) (pa_cons (pv 1) pa_nil))))
      (pss_cons (ps_if (PW.pt (pw_and (pt_cmp (pc_din hu (pv 2) (pv 0))) (pw_and1 (pt_cmp (pc_din hu (pv 2) (pv 1))))))
        (pss_one (ps_dput hu (pv 3) (pv 2) (pe_call U.ok hr1 (by rfl) U.at_ U.kp U.bd .nil pass0 (pa_cons (pe_dget hu (pv 0) (pv 2) (fun _ _ => rfl)) (pa_cons (pe_dget hu (pv 1) (pv 2) (fun _ _ => rfl)) pa_nil))) rfl))
        (pss_one (ps_if (pt_cmp (pc_din hu (pv 2) (pv 3))) (pss_one (ps_ddel (pv 3) (pv 2))) pss_nil)))
      (pss_one (ps_ret (pv 3)))), ?_⟩
    refine ⟨.ref a, rfl, .ref b, rfl, a, b, L1, L2', rfl, b1, b2, z1, z2, by omega, fun H1 d M s1 nb lk ln => ?_⟩
    have b1' := b1.same' s1
    have b2' := b2.same' s1
    have g1 := b1'.toBx.get n
    have g2 := b2'.toBx.get n
    have g3 := nb.toBx.get n
    have jn_ne : ∀ x, x ≠ n → jn L1 L2' n x = mt L1 L2' x := fun x h => by unfold jn; rw [if_neg h]
    -- without the name in both: it is taken out
    have out : jo (look L1 n) (look L2' n) = none →
        ∃ y, DGet H1 d (.str n) y ∧ ∃ c, V.bl y.isSome = .bl c ∧ (if c = true then ∃ kvs k, H1 d = some (.dK kvs) ∧ V.str n = kV k ∧ (valV kvs k).isSome = true ∧ Q (.ref d) (upd H1 d (.dK (dropK kvs k))) else Q (.ref d) H1) := by
      intro hj
      refine ⟨_, g3, _, rfl, ?_⟩
      cases c : getE M n with
      | none =>
        refine iteF (q H1 d M s1 nb (fun x => ?_) (by omega))
        by_cases h : x = n
        · unfold jn
          rw [if_pos h, hj, h]
          unfold look
          rw [c]
          rfl
        · rw [jn_ne x h]; exact lk x
      | some e =>
        refine iteT ⟨entK M, .inr n, nb.un, rfl, by rw [valV_ent, c]; rfl, ?_⟩
        rw [dropK_ent]
        refine q _ d (dropE M n) (nb.old s1) nb.drop (fun x => ?_) (by have := dropE_len M n; omega)
        rw [look_drop]
        by_cases h : x = n
        · unfold jn
          rw [if_pos h, if_pos h, hj]
        · rw [if_neg h, jn_ne x h]
          exact lk x
    have fin : jo (look L1 n) (look L2' n) = none → tIfS (tB (tDIn (tVar 2) (tVar 3))) (sDDel (tVar 3) (tVar 2)) tNext { nx := fun σ H => ∃ v, σ[3]? = some (some v) ∧ Q v H, rt := Q } [some (V.ref a), some (V.ref b), some (V.str n), some (V.ref d)] H1 := by
      intro hj
      obtain ⟨y, h1, c, h2, h3⟩ := out hj
      refine ⟨.str n, rfl, .ref d, rfl, d, y, rfl, h1, c, h2, ?_⟩
      cases c with
      | true =>
        rw [if_pos rfl] at h3
        obtain ⟨kvs, k, e1, e2, e3, qq⟩ := h3
        exact iteT ⟨.ref d, rfl, .str n, rfl, d, kvs, k, rfl, e1, e2, e3, _, rfl, qq⟩
      | false =>
        rw [if_neg (by simp)] at h3
        exact iteF ⟨_, rfl, h3⟩
    refine ⟨.str n, rfl, .ref a, rfl, a, _, rfl, g1, ?_⟩
    cases c1 : getE L1 n with
    | none =>
      have hl : look L1 n = none := by unfold look; rw [c1]; rfl
      refine ⟨false, rfl, iteF ?_⟩
      exact fin (by rw [hl]; rfl)
    | some m1 =>
      have hl : look L1 n = some m1.2.2 := by unfold look; rw [c1]; rfl
      obtain ⟨mm1, me1⟩ := getE_mem c1
      refine ⟨true, rfl, iteT ?_⟩
      refine ⟨.str n, rfl, .ref b, rfl, b, _, rfl, g2, ?_⟩
      cases c2 : getE L2' n with
      | none =>
        have hl2 : look L2' n = none := by unfold look; rw [c2]; rfl
        refine ⟨false, rfl, iteF ?_⟩
        exact fin (by rw [hl, hl2]; rfl)
      | some m2 =>
        have hl2 : look L2' n = some m2.2.2 := by unfold look; rw [c2]; rfl
        obtain ⟨mm2, me2⟩ := getE_mem c2
        rw [c1] at g1
        rw [c2] at g2
        refine ⟨true, rfl, iteT ?_⟩
        refine ⟨.ref a, rfl, .str n, rfl, a, .ref m1.2.1, rfl, g1, .ref b, rfl, .str n, rfl, b, .ref m2.2.1, rfl, g2, m1.2.1, m2.2.1, m1.2.2, m2.2.2, rfl, sl_map (b1'.sides m1 mm1), sl_map (b2'.sides m2 mm2), z1.len m1 mm1, z2.len m2 mm2, fun H3 l ms s3 nl el so mem _ => ?_⟩
        have ems : ms = uni m1.2.2 m2.2.2 := srt_ext so (uni_srt (z1.srt m1 mm1) _) fun k => (mem k).trans (uni_mem _ k _).symm
        refine ⟨.ref d, rfl, .str n, rfl, d, _, rfl, DPut.k (k := .inr n) (s3 _ _ nb.un) (by rw [entK_len]; exact small1000 (by have := nb.few; omega)), ?_⟩
        rw [putK_ent (s := ms)]
        refine ⟨_, rfl, q _ d (putE M n l ms) (same_at (s1.trans s3) nb.fresh) (nb.put (s1.free nl) nl s3 el (by omega)) (fun x => ?_) (by have := putE_len M n l ms; omega)⟩
        rw [look_put]
        by_cases h : x = n
        · unfold jn
          rw [if_pos h, if_pos h, hl, hl2, ems]
          rfl
        · rw [if_neg h, jn_ne x h]
          exact lk x
end
end K4

set_option Elab.async false
set_option linter.all false
set_option maxRecDepth 100000
set_option maxHeartbeats 4000000
namespace K4
open PySem PySem.Spec PyProof.Rows L2 Cs
theorem ne_some' {H : Hp} {p q : Addr} {o : HO} (h : H p = some o) (n : H q = none) : p ≠ q := fun e => by rw [e, n] at h; cases h
section
variable {P : Program} {w : World} {K : PySem.W.Frag} {mg : Str → Option Value} {base : Heap}
/-! ### the pool, a part of it -/
abbrev sPool : Stmt := topS 16
abbrev sPart : Stmt := topS 17
abbrev nPool : List Str := ["_law_stream_here", "_law_count", "_law_pool_here", "_law_k", "_law_scale", "_law_value"]
abbrev nPart : List Str := ["_law_stream_here", "_law_side", "_law_value"]
theorem scPool : FnScope nPool ["_law_stream_here", "_law_count"] (defScope sPool) := ⟨rfl, rfl, rfl, by decide +kernel, rfl, by decide +kernel, by decide +kernel⟩
theorem scPart : FnScope nPart ["_law_stream_here", "_law_side"] (defScope sPart) := ⟨rfl, rfl, rfl, by decide +kernel, rfl, by decide +kernel, by decide +kernel⟩
theorem srt_snoc {ss : List Int} {v : Int} (s : Srt ss) (h : ∀ k ∈ ss, k < v) : Srt (ss ++ [v]) :=
  List.pairwise_append.mpr ⟨s, List.pairwise_singleton _ _, fun a ha b hb => by rw [List.mem_singleton.mp hb]; exact h a ha⟩
def spPool : Sp := fun vs H Q _ => ∃ (p : Addr) (m : Nat), vs = [.ref p, .int (m : Int)] ∧ Strm H p ∧ 1 ≤ m ∧ m ≤ 100 ∧
  ∀ (H' : Hp) (l : Addr) (ns : List Int), Keep p H H' → H l = none → Strm H' p → H' l = some (.lst (ns.map V.int)) → Srt ns → ns.length = m → Q (.ref l) H'
theorem ok_pool {f fD : Addr} {fd fdD : FuncData} (F : Fun K "_law_pool" "_law_pool" sPool f fd) (B : Bt mg) (D : Call P w K mg base 1 "_law_next" fD fdD ["_law_stream_here", "_law_size"] spDraw) :
    FnOk P w K mg base CX0 2 f fd ["_law_stream_here", "_law_count"] spPool := by
  refine F.ok scPool (fun vs H Q E h => ?_) (fun cdv A outer s H vs Q E hr h => ?_)
  · obtain ⟨p, m, rfl, _⟩ := h
    rfl
  · obtain ⟨p, m, rfl, hp, m0, m1, q⟩ := h
    have nd := scPool.nd
    refine ⟨_, pss_cons (ps_set (i := 2) nd rfl (.inl rfl) (pe_lst (pa_cons (pe_op op_sub (pe_call D.ok hr (by rfl) D.at_ D.kp D.bd .nil pass0 (pa_cons (pv 0) (pa_cons pe_int pa_nil))) pe_int) pa_nil)))
      (pss_cons (ps_for PassesOwn.never rfl (pi_range1 (by rfl) B.range (pa_cons (pe_op op_sub (pv 1) pe_int) pa_nil)) (pg_name (i := 3) nd rfl (.inl rfl))
        (pss_one (ps_expr (pe_bm PySem.F.plainAttrs_list PySem.F.slot_list_append PySem.F.type_list_append mt_append (pv 2) (pa_cons
          (pe_op op_add (pe_op op_add (pe_ix ix_list (pv 2) (pv 3) (fun _ _ => rfl)) pe_int) (pe_op op_mul pe_int (pe_op op_fdiv (pe_call D.ok hr (by rfl) D.at_ D.kp D.bd .nil pass0 (pa_cons (pv 0) (pa_cons pe_int pa_nil))) pe_int))) pa_nil)))))
      (pss_cons (ps_set (i := 4) nd rfl (.inr rfl) (pe_ix ix_list (pe_lst (pa_cons pe_int (pa_cons pe_int (pa_cons pe_int (pa_cons pe_int (pa_cons pe_int (pa_cons pe_int (pa_cons pe_int (pa_cons (pe_op op_pow pe_int pe_int) pa_nil)))))))))
          (pe_call D.ok hr (by rfl) D.at_ D.kp D.bd .nil pass0 (pa_cons (pv 0) (pa_cons pe_int pa_nil))) (fun _ _ => rfl)))
      (pss_one (ps_ret (pe_lc (own := [("_law_value", 5)]) (g := gName 5) (tt := tYes) rfl nd (pi_list (pv 2)) (blkOk_by (N := nPool) (sc := defScope sPool) (by decide +kernel)) (fun _ _ _ _ _ => pg_name (i := 5) nd rfl (Or.inl rfl)) (fun _ _ _ _ _ => pts_nil)
        (fun _ _ _ _ _ => pe_op op_mul (pv 5) (pv 4))))))), ?_⟩
    refine ⟨.ref p, rfl, p, 9, rfl, hp, by decide, by decide, fun H1 d o1 st1 d0 d1 => ⟨d, 4, rfl, rfl, by show 1 ≤ sizeLine; decide, fun l nl1 => ?_⟩⟩
    have npl : p ≠ l := fun z => st1.some (z ▸ nl1)
    have nl : H l = none := by rw [← o1 l npl.symm]; exact nl1
    refine ⟨.int (m : Int), rfl, (m : Int), 1, rfl, rfl, (m : Int) - 1, rfl, by omega, by omega, for_range (lo := 0) (n := ((m : Int) - 1).toNat) (fun i σ H' => ∃ (y3 : Option V) (ns : List Int), σ = [some (.ref p), some (.int (m : Int)), some (.ref l), y3, none, none] ∧ Keep p H H' ∧ Strm H' p ∧ H' l = some (.lst (ns.map V.int)) ∧ Srt ns ∧ ns.length = i + 1 ∧ ∃ z, ns = ns.take i ++ [z])
      ⟨none, [d - 4], rfl, ((Keep.refl p H).oth o1).at_ nl, st1.upd npl, upd_same, List.pairwise_singleton _ _, rfl, d - 4, rfl⟩ ?_ ?_⟩
    · rintro i σ H' hi ⟨y3, ns, rfl, kp, st, el, so, len, z, ez⟩
      have gz : (ns.map V.int)[i]? = some (.int z) := by
        rw [ez, List.map_append, List.getElem?_append_right (by rw [List.length_map, List.length_take]; omega)]
        rw [List.length_map, List.length_take, show i - min i ns.length = 0 by omega]
        rfl
      refine ⟨.ref l, rfl, .inl ⟨rfl, _, sl_map el⟩, .ref l, rfl, .int (0 + (i : Int)), rfl, l, _, _, _, rfl, rfl, sl_map el, at_of (by omega) gz, z, 1, rfl, rfl, .ref p, rfl, p, 4, rfl, st, by decide, by decide, fun H2 e o2 st2 e0 e1 => ?_⟩
      refine ⟨e, 3, rfl, rfl, ⟨by decide, by decide⟩, 2, e / 3, rfl, rfl, .inl ⟨by decide, by decide⟩, z + 1, 2 * (e / 3), rfl, rfl, l, _, _, rfl, rfl, (o2 l npl.symm).trans el, ?_, ?_⟩
      · rw [List.length_map]
        exact small1000 (by omega)
      · have e3 : 0 ≤ e / 3 := Int.ediv_nonneg e0 (by decide)
        refine ⟨_, ns ++ [z + 1 + 2 * (e / 3)], rfl, (kp.oth o2).at_ nl, st2.upd npl, by rw [upd_same, List.map_append]; rfl, srt_snoc so fun k hk => ?_, by rw [List.length_append, len]; rfl, z + 1 + 2 * (e / 3), ?_⟩
        · rw [ez] at hk so
          rcases List.mem_append.mp hk with h | h
          · have := (List.pairwise_append.mp so).2.2 k h z (List.mem_singleton.mpr rfl)
            omega
          · have := List.mem_singleton.mp h
            omega
        · rw [List.take_append_of_le_length (by omega), List.take_of_length_le (by omega)]
    · rintro σ H' ⟨y3, ns, rfl, kp, st, el, so, len, z, ez⟩
      refine ⟨10, 9, rfl, rfl, ⟨by decide, by decide, by decide⟩, by show 8 ≤ sizeLine; decide, fun t nt => ?_⟩
      have npt : p ≠ t := fun e => st.some (e ▸ nt)
      have nlt : l ≠ t := ne_some' el nt
      refine ⟨.ref p, rfl, p, 8, rfl, st.upd npt, by decide, by decide, fun H2 e o2 st2 e0 e1 => ?_⟩
      have et : H2 t = some (.lst [V.int 1, V.int 1, V.int 1, V.int 1, V.int 1, V.int 1, V.int 7, V.int (10 ^ (9 : Int).toNat)]) := (o2 t npt.symm).trans upd_same
      obtain ⟨sc, hsc, sc0, sc1⟩ : ∃ sc : Int, atI [V.int 1, V.int 1, V.int 1, V.int 1, V.int 1, V.int 1, V.int 7, V.int (10 ^ (9 : Int).toNat)] e = some (.int sc) ∧ 0 < sc ∧ sc < 2 ^ 64 := by
        have : e = 0 ∨ e = 1 ∨ e = 2 ∨ e = 3 ∨ e = 4 ∨ e = 5 ∨ e = 6 ∨ e = 7 := by omega
        rcases this with h | h | h | h | h | h | h | h
        · exact ⟨_, by rw [h]; exact atI_nat (j := 0) rfl, by decide, by decide⟩
        · exact ⟨_, by rw [h]; exact atI_nat (j := 1) rfl, by decide, by decide⟩
        · exact ⟨_, by rw [h]; exact atI_nat (j := 2) rfl, by decide, by decide⟩
        · exact ⟨_, by rw [h]; exact atI_nat (j := 3) rfl, by decide, by decide⟩
        · exact ⟨_, by rw [h]; exact atI_nat (j := 4) rfl, by decide, by decide⟩
        · exact ⟨_, by rw [h]; exact atI_nat (j := 5) rfl, by decide, by decide⟩
        · exact ⟨_, by rw [h]; exact atI_nat (j := 6) rfl, by decide, by decide⟩
        · exact ⟨_, by rw [h]; exact atI_nat (j := 7) rfl, by decide, by decide⟩
      refine ⟨t, _, e, .int sc, rfl, rfl, sl_map et, hsc, ?_⟩
      have el2 : H2 l = some (.lst (ns.map V.int)) := by rw [o2 l npl.symm, upd_ne nlt]; exact el
      have kp2 : Keep p H H2 := (kp.at_ (kp.free st nt)).oth o2
      refine ⟨.ref l, rfl, l, rfl, ⟨_, sl_map el2⟩, fun R nR => lc_list (xs := ns.map V.int) (fun i H3 => Same H2 H3 ∧ H3 R = some (.lst (((ns.take i).map (· * sc)).map V.int))) ⟨same_new nR, upd_same⟩ (fun i H3 _ h => h.1.seq (sl_map el2)) ?_ ?_⟩
      · rintro i x H3 hx ⟨sm, eR⟩
        rw [List.getElem?_map] at hx
        obtain ⟨v, hv, rfl⟩ := Option.map_eq_some_iff.mp hx
        have hi := (List.getElem?_eq_some_iff.mp hv).1
        refine ⟨rfl, .int v, rfl, .int sc, rfl, v, sc, rfl, rfl, .inr ⟨by omega, by omega⟩, _, eR, ?_, same_at sm nR, ?_⟩
        · rw [List.length_map, List.length_map, List.length_take]
          exact small1000 (by omega)
        · rw [upd_same, List.take_add_one, hv, List.map_append, List.map_append]
          rfl
      · rintro H3 ⟨sm, eR⟩
        rw [List.length_map, List.take_length] at eR
        refine q H3 R _ (fun b u hb e => sm _ _ (kp2 b u hb e)) (kp2.free st2 nR) (st2.keep (Keep.same (p := R) sm) (fun z => st2.some (z ▸ nR))) eR ?_ ?_
        · unfold Srt
          rw [List.pairwise_map]
          exact so.imp fun h => Int.mul_lt_mul_of_pos_right h sc0
        · rw [List.length_map]
          omega
def spPart (K : PySem.W.Frag) : Sp := fun vs H Q _ => ∃ (p a : Addr) (ns : List Int), vs = [.ref p, .ref a] ∧ Strm H p ∧ H a = some (.lst (ns.map V.int)) ∧ p ≠ a ∧ ns.length ≤ 1000 ∧
  ∀ (H' : Hp) (l : Addr) (ms : List Int), Keep p H H' → H l = none → Strm H' p → H' l = some (.lst (ms.map V.int)) → ms.Sublist ns → Q (.ref l) H'
theorem ok_part {f fD : Addr} {fd fdD : FuncData} (F : Fun K "_law_part" "_law_part" sPart f fd) (B : Bt mg) (D : Call P w K mg base 1 "_law_next" fD fdD ["_law_stream_here", "_law_size"] spDraw) :
    FnOk P w K mg base CX0 2 f fd ["_law_stream_here", "_law_side"] (spPart K) := by
  refine F.ok scPart (fun vs H Q E h => ?_) (fun cdv A outer s H vs Q E hr h => ?_)
  · obtain ⟨p, a, ns, rfl, _⟩ := h
    rfl
  · obtain ⟨p, a, ns, rfl, hp, ha, pa, hl, q⟩ := h
    have nd := scPart.nd
    refine ⟨_, pss_one (ps_ret (pe_lc (own := [("_law_value", 2)]) (g := gName 2) (te := tVar 2) rfl nd (pi_list (pv 1)) (blkOk_by (N := nPart) (sc := defScope sPart) (by decide +kernel)) (fun _ _ _ _ _ => pg_name (i := 2) nd rfl (Or.inl rfl))
        (fun _ _ _ _ _ => pts_one (pt_cmpR op_gt (pe_call D.ok hr (by rfl) D.at_ D.kp D.bd .nil pass0 (pa_cons (pv 0) (pa_cons pe_int pa_nil))) pe_int (nomark _))) (fun _ _ _ _ _ => pv 2))), ?_⟩
    refine ⟨.ref a, rfl, a, rfl, ⟨_, sl_map ha⟩, fun D' nD => ?_⟩
    have npD : p ≠ D' := fun e => hp.some (e ▸ nD)
    have naD : a ≠ D' := ne_some' ha nD
    refine lc_list (xs := ns.map V.int) (fun i H' => Keep p H H' ∧ Strm H' p ∧ H' a = some (.lst (ns.map V.int)) ∧ ∃ ms : List Int, H' D' = some (.lst (ms.map V.int)) ∧ ms.Sublist (ns.take i)) ?_ ?_ ?_ ?_
    · exact ⟨(Keep.refl p H).at_ nD, hp.upd npD, by rw [upd_ne naD]; exact ha, [], upd_same, List.Sublist.refl _⟩
    · rintro i H' _ ⟨_, _, er, _⟩
      exact sl_map er
    · rintro i x H' hx ⟨kp, st, er, ms, eD, sub⟩
      rw [List.getElem?_map] at hx
      obtain ⟨v, hv, rfl⟩ := Option.map_eq_some_iff.mp hx
      have hi := (List.getElem?_eq_some_iff.mp hv).1
      have len := sub.length_le
      rw [List.length_take] at len
      refine ⟨rfl, .ref p, rfl, p, 3, rfl, st, by decide, by decide, fun H2 e o2 st2 e0 e1 => ?_⟩
      refine ⟨e, 0, rfl, rfl, _, rfl, ?_⟩
      have eD2 : H2 D' = some (.lst (ms.map V.int)) := (o2 D' npD.symm).trans eD
      have er2 : H2 a = some (.lst (ns.map V.int)) := (o2 a pa.symm).trans er
      have tk : ns.take (i + 1) = ns.take i ++ [v] := by
        rw [List.take_add_one, hv]
        rfl
      refine ite2 (fun _ => ?_) (fun _ => ?_)
      · refine ⟨.int v, rfl, _, eD2, ?_, (kp.oth o2).at_ nD, st2.upd npD, by rw [upd_ne naD]; exact er2, ms ++ [v], by rw [upd_same, List.map_append]; rfl, by rw [tk]; exact sub.append (List.Sublist.refl _)⟩
        rw [List.length_map]
        exact small1000 (by omega)
      · exact ⟨kp.oth o2, st2, er2, ms, eD2, by rw [tk]; exact sub.trans (List.sublist_append_left _ _)⟩
    · rintro H' ⟨kp, st, er, ms, eD, sub⟩
      rw [List.length_map, List.take_length] at sub
      exact q H' D' ms kp nD st eD sub
end
end K4

set_option Elab.async false
set_option linter.all false
set_option maxRecDepth 100000
set_option maxHeartbeats 4000000
namespace K4
open PySem PySem.Spec PyProof.Rows L2 Cs
/-! ### names -/
def plainN : List Str := ["x", "yard", "z", "u", "wide_one", "q", "pp", "t"]
def lettersN : Str := "qwertyuiopasdfghjklzxcvbnm_zyx"
def digitsN : Str := "7305186429"
theorem plain_nodup : ((List.range 8).all fun s => decide (((List.range 8).map fun k => plainN.getD ((k * 3 + s) % 8) "x").Nodup)) = true := by decide +kernel
def isDig (c : Nat) : Bool := decide (48 ≤ c) && decide (c ≤ 57)
def mark (z : Str) : Option Nat := z.cps.toList.find? isDig
theorem letters_none : (lettersN.cps.toList.all fun c => !isDig c) = true := by decide +kernel
theorem digits_are : (digitsN.cps.toList.all isDig) = true := by decide +kernel
theorem digits_nodup : digitsN.cps.toList.Nodup := by decide +kernel
theorem digits_len : digitsN.cps.toList.length = 10 := by decide +kernel
theorem letters_len : lettersN.length = 30 := by decide +kernel
theorem cut_letters (lo hi : Option Int) : ∀ c ∈ (cutS lettersN lo hi).cps.toList, isDig c = false := fun c hc => by
  have h1 : c ∈ lettersN.cps.toList := by
    have : (cutS lettersN lo hi).cps.toList = (lettersN.cps.toList.drop (HT.sIx lettersN.length 0 lo)).take (HT.sIx lettersN.length lettersN.length hi - HT.sIx lettersN.length 0 lo) := by
      unfold cutS
      simp
    rw [this] at hc
    exact List.mem_of_mem_drop (List.mem_of_mem_take hc)
  have := List.all_eq_true.mp letters_none c h1
  simpa using this
theorem cut_len (lo hi : Option Int) : (cutS lettersN lo hi).length ≤ 30 := by
  have h : (cutS lettersN lo hi).cps.toList.length ≤ 30 := by
    unfold cutS
    simp only [List.toList_toArray]
    have l : lettersN.cps.toList.length = 30 := letters_len
    rw [List.length_take, List.length_drop]
    omega
  exact h
theorem mark_of (x t : Str) (c : Nat) (hx : ∀ d ∈ x.cps.toList, isDig d = false) (hc : isDig c = true) : mark (x ++ ⟨#[c]⟩ ++ t) = some c := by
  unfold mark
  have e : (x ++ ⟨#[c]⟩ ++ t).cps.toList = x.cps.toList ++ [c] ++ t.cps.toList := by
    show ((x.cps ++ #[c]) ++ t.cps).toList = _
    simp
  rw [e, List.append_assoc, List.find?_append]
  have : x.cps.toList.find? isDig = none := List.find?_eq_none.mpr fun d hd => by rw [hx d hd]; simp
  rw [this]
  show (([c] ++ t.cps.toList).find? isDig) = some c
  simp [hc]
theorem str_one (c : Nat) : (⟨#[c]⟩ : Str).length = 1 := rfl
theorem len_app (x y : Str) : (x ++ y).length = x.length + y.length := by
  show (x.cps ++ y.cps).size = _
  exact Array.size_append
section
variable {P : Program} {w : World} {K : PySem.W.Frag} {mg : Str → Option Value} {base : Heap}
abbrev sNames : Stmt := topS 15
abbrev nNames : List Str := ["_law_stream_here", "_law_count", "_law_shift", "_law_plain", "_law_k", "_law_letters", "_law_names_here", "_law_at", "_law_size", "_law_tail"]
theorem scNames : FnScope nNames ["_law_stream_here", "_law_count"] (defScope sNames) := ⟨rfl, rfl, rfl, by decide +kernel, rfl, by decide +kernel, by decide +kernel⟩
def spNames : Sp := fun vs H Q _ => ∃ (p : Addr) (m : Nat), vs = [.ref p, .int (m : Int)] ∧ Strm H p ∧ m ≤ 8 ∧
  ∀ (H' : Hp) (l : Addr) (xs : List Str), Keep p H H' → H l = none → Strm H' p → H' l = some (.lst (xs.map V.str)) → xs.Nodup → xs.length = m → Q (.ref l) H'
theorem ok_names {f fD : Addr} {fd fdD : FuncData} (F : Fun K "_law_names" "_law_names" sNames f fd) (B : Bt mg) (D : Call P w K mg base 1 "_law_next" fD fdD ["_law_stream_here", "_law_size"] spDraw) :
    FnOk P w K mg base CX0 2 f fd ["_law_stream_here", "_law_count"] spNames := by
  refine F.ok scNames (fun vs H Q E h => ?_) (fun cdv A outer s H vs Q E hr h => ?_)
  · obtain ⟨p, m, rfl, _⟩ := h
    rfl
  · obtain ⟨p, m, rfl, hp, m8, q⟩ := h
    have nd := scNames.nd
    refine ⟨_, pss_cons (ps_if (pt_cmpR op_eq (pe_call D.ok hr (by rfl) D.at_ D.kp D.bd .nil pass0 (pa_cons (pv 0) (pa_cons pe_int pa_nil))) pe_int (nomark _))
        (pss_cons (ps_set (i := 2) nd rfl (.inr rfl) (pe_call D.ok hr (by rfl) D.at_ D.kp D.bd .nil pass0 (pa_cons (pv 0) (pa_cons pe_int pa_nil))))
        (pss_cons (ps_set (i := 3) nd rfl (.inr rfl) (pe_lst (pa_cons pe_str (pa_cons pe_str (pa_cons pe_str (pa_cons pe_str (pa_cons pe_str (pa_cons pe_str (pa_cons pe_str (pa_cons pe_str pa_nil))))))))))
        (pss_one (ps_ret (pe_lc (own := [("_law_k", 4)]) (g := gName 4) (tt := tYes) rfl nd (pi_range1 (by rfl) B.range (pa_cons (pv 1) pa_nil)) (blkOk_by (N := nNames) (sc := defScope sNames) (by decide +kernel)) (fun _ _ _ _ _ => pg_name (i := 4) nd rfl (Or.inl rfl)) (fun _ _ _ _ _ => pts_nil)
          (fun _ _ _ _ _ => pe_ix (r := rIxL K) ix_list (pv 3) (pe_op op_mod (pe_callTy call_int1 (by rfl) B.int PyProof.Rows.boot_int (pa_cons (pe_op op_add (pe_op op_mul (pv 4) pe_int) (pv 2)) pa_nil)) pe_int) (fun _ _ => rfl))))))) pss_nil)
      (pss_cons (ps_set (i := 5) nd rfl (.inl rfl) pe_str)
      (pss_cons (ps_set (i := 6) nd rfl (.inl rfl) (pe_lst pa_nil))
      (pss_cons (ps_for PassesOwn.never rfl (pi_range1 (by rfl) B.range (pa_cons (pv 1) pa_nil)) (pg_name (i := 4) nd rfl (.inl rfl))
        (pss_cons (ps_set (i := 7) nd rfl (.inl rfl) (pe_call D.ok hr (by rfl) D.at_ D.kp D.bd .nil pass0 (pa_cons (pv 0) (pa_cons pe_int pa_nil))))
        (pss_cons (ps_set (i := 8) nd rfl (.inl rfl) (pe_op op_add pe_int (pe_call D.ok hr (by rfl) D.at_ D.kp D.bd .nil pass0 (pa_cons (pv 0) (pa_cons pe_int pa_nil)))))
        (pss_cons (ps_set (i := 9) nd rfl (.inl rfl) (pe_slice sl_str (pv 5) (po_some (pe_op op_sub pe_int (pe_call D.ok hr (by rfl) D.at_ D.kp D.bd .nil pass0 (pa_cons (pv 0) (pa_cons pe_int pa_nil))))) (po_some pe_int)))
        (pss_one (ps_expr (pe_bm PySem.F.plainAttrs_list PySem.F.slot_list_append PySem.F.type_list_append mt_append (pv 6) (pa_cons
          (pe_op op_add_str (pe_op op_add_str (pe_slice sl_str (pv 5) (po_some (pv 7)) (po_some (pe_op op_add (pv 7) (pv 8)))) (pe_ix ix_str pe_str (pv 4) (fun _ _ => rfl))) (pv 9)) pa_nil))))))))
      (pss_one (ps_ret (pv 6)))))), ?_⟩
    refine ⟨.ref p, rfl, p, 3, rfl, hp, by decide, by decide, fun H1 d o1 st1 d0 d1 => ⟨rfl, _, rfl, ite2 (fun c => ?_) (fun c => ?_)⟩⟩
    · -- the plain names
      refine ⟨.ref p, rfl, p, 8, rfl, st1, by decide, by decide, fun H2 s o2 st2 s0 s1 => ?_⟩
      refine ⟨by show 8 ≤ sizeLine; decide, fun pl npl => ?_⟩
      have npp : p ≠ pl := fun z => st2.some (z ▸ npl)
      have epl : (upd H2 pl (.lst (plainN.map V.str))) pl = some (.lst (plainN.map V.str)) := upd_same
      refine ⟨.int (m : Int), rfl, (m : Int), rfl, by omega, by omega, fun R nR => ?_⟩
      have fin : ∀ k : Nat, k < m → (plainN.map V.str)[(k * 3 + s.toNat) % 8]? = some (.str (plainN.getD ((k * 3 + s.toNat) % 8) "x")) := fun k hk => by
        have : (k * 3 + s.toNat) % 8 < plainN.length := Nat.mod_lt _ (by decide)
        rw [List.getElem?_map, List.getD_eq_getElem?_getD, List.getElem?_eq_getElem this]
        rfl
      refine lc_range (lo := 0) (fun i H' => Same (upd H2 pl (.lst (plainN.map V.str))) H' ∧ H' R = some (.lst (((List.range i).map fun k => plainN.getD ((k * 3 + s.toNat) % 8) "x").map V.str))) ⟨same_new nR, upd_same⟩ ?_ ?_
      · rintro i H' hi ⟨sm, eR⟩
        have hi' : i < m := by omega
        refine ⟨rfl, .ref pl, rfl, .int (0 + (i : Int)), rfl, 0 + (i : Int), 3, rfl, rfl, .inr ⟨by decide, by decide⟩, .int s, rfl, (0 + (i : Int)) * 3, s, rfl, rfl, .inl ⟨_, rfl, (0 + (i : Int)) * 3 + s, 8, rfl, rfl, ?_, ?_⟩⟩
        · show (0 : Int) < 8
          decide
        · refine ⟨pl, _, _, _, rfl, rfl, sl_map (sm _ _ epl), at_of (j := (i * 3 + s.toNat) % 8) (by omega) (fin i hi'), _, eR, ?_, same_at sm nR, ?_⟩
          · rw [List.length_map, List.length_map, List.length_range]
            exact small1000 (by omega)
          · rw [upd_same, List.range_succ, List.map_append, List.map_append]
            rfl
      · rintro H' ⟨sm, eR⟩
        have smH : Keep p H2 H' := fun b u hb e => sm _ _ (by rw [upd_ne (ne_of_none e npl)]; exact e)
        have nR2 : H2 R = none := (same_new npl).free nR
        have st' : Strm H' p := by
          obtain ⟨x, y, z, e⟩ := st2
          exact ⟨x, y, z, sm _ _ (by rw [upd_ne npp]; exact e)⟩
        refine q H' R _ ((((Keep.refl p H).oth o1).oth o2).trans smH) ((((Keep.refl p H).oth o1).oth o2).free st2 nR2) st' eR ?_ ?_
        · have h8 := List.all_eq_true.mp plain_nodup s.toNat (List.mem_range.mpr (by omega))
          have h9 := of_decide_eq_true h8
          have e8 : (List.range (m : Int).toNat) = (List.range 8).take m := by
            rw [List.take_range, show min m 8 = (m : Int).toNat by omega]
          rw [e8, List.map_take]
          exact List.Pairwise.sublist (List.take_sublist _ _) h9
        · rw [List.length_map, List.length_range]
          omega
    · -- letters, a digit, letters
      refine ⟨Nat.zero_le _, fun l nl1 => ?_⟩
      have npl : p ≠ l := fun z => st1.some (z ▸ nl1)
      have nl : H l = none := by rw [← o1 l npl.symm]; exact nl1
      refine ⟨.int (m : Int), rfl, (m : Int), rfl, by omega, by omega, for_range (lo := 0) (n := ((m : Int)).toNat) (fun i σ H' => ∃ (y4 y7 y8 y9 : Option V) (xs : List Str), σ = [some (.ref p), some (.int (m : Int)), none, none, y4, some (.str lettersN), some (.ref l), y7, y8, y9] ∧ Keep p H H' ∧ Strm H' p ∧ H' l = some (.lst (xs.map V.str)) ∧ xs.length = i ∧ ∀ j x, xs[j]? = some x → mark x = digitsN.cps.toList[j]?)
        ⟨none, none, none, none, [], rfl, ((Keep.refl p H).oth o1).at_ nl, st1.upd npl, upd_same, rfl, fun j x h => absurd ((List.getElem?_nil (α := Str) (i := j)).symm.trans h) (by simp)⟩ ?_ ?_⟩
      · rintro i σ H' hi ⟨y4, y7, y8, y9, xs, rfl, kp, st, el, len, mk⟩
        have hi' : i < m := by omega
        refine ⟨.ref p, rfl, p, 26, rfl, st, by decide, by decide, fun H2 a o2 st2 a0 a1 => ?_⟩
        refine ⟨.ref p, rfl, p, 3, rfl, st2, by decide, by decide, fun H3 b o3 st3 b0 b1 => ⟨1, b, rfl, rfl, ?_⟩⟩
        refine ⟨_, rfl, .ref p, rfl, p, 3, rfl, st3, by decide, by decide, fun H4 t o4 st4 t0 t1 => ⟨26, t, rfl, rfl, _, rfl, 26, rfl, lettersN, rfl, by decide +kernel, ?_⟩⟩
        have el4 : H4 l = some (.lst (xs.map V.str)) := by rw [o4 l npl.symm, o3 l npl.symm, o2 l npl.symm]; exact el
        have hd : i < digitsN.cps.toList.length := by rw [digits_len]; omega
        have gd : digitsN.cps.toList[i]? = some digitsN.cps.toList[i] := List.getElem?_eq_getElem hd
        refine ⟨.ref l, rfl, .inl ⟨rfl, _, sl_map el4⟩, _, rfl, .int a, rfl, a, rfl, .int a, rfl, _, rfl, a, _, rfl, rfl, _, rfl, lettersN, rfl, by decide +kernel, .int (0 + (i : Int)), rfl, digitsN, _, digitsN.cps.toList[i], rfl, rfl, by decide +kernel, (by rw [show (0 : Int) + (i : Int) = ((i : Nat) : Int) by omega]; exact atI_nat gd), _, _, rfl, rfl, ?_, _, rfl, _, _, rfl, rfl, ?_, l, _, _, rfl, rfl, el4, ?_, ?_⟩
        · exact by have := cut_len (some a) (some (a + (1 + b))); rw [str_one]; exact Nat.le_trans (Nat.add_le_add_right this 1) (by decide)
        · exact by have := cut_len (some a) (some (a + (1 + b))); have h2 := cut_len (some (26 - t)) (some 26); rw [len_app, str_one]; exact Nat.le_trans (Nat.add_le_add (Nat.add_le_add_right this 1) h2) (by decide)
        · rw [List.length_map]
          exact small1000 (by omega)
        · have dg : isDig digitsN.cps.toList[i] = true := List.all_eq_true.mp digits_are _ (List.getElem_mem hd)
          refine ⟨_, _, _, _, xs ++ [cutS lettersN (some a) (some (a + (1 + b))) ++ ⟨#[digitsN.cps.toList[i]]⟩ ++ cutS lettersN (some (26 - t)) (some 26)], rfl, (((kp.oth o2).oth o3).oth o4).at_ nl, st4.upd npl, ?_, ?_, ?_⟩
          · rw [upd_same, List.map_append]
            rfl
          · rw [List.length_append, len]
            rfl
          · intro j x hj
            rcases Nat.lt_or_ge j i with c | c
            · rw [List.getElem?_append_left (by omega)] at hj
              exact mk j x hj
            · rw [List.getElem?_append_right (by omega)] at hj
              have ej : j = i := by
                have := (List.getElem?_eq_some_iff.mp hj).1
                rw [List.length_singleton] at this
                omega
              subst ej
              rw [show j - xs.length = 0 by omega] at hj
              have : _ = x := Option.some.inj hj
              rw [← this, gd]
              exact mark_of _ _ _ (cut_letters _ _) dg
      · rintro σ H' ⟨y4, y7, y8, y9, xs, rfl, kp, st, el, len, mk⟩
        refine ⟨_, rfl, q H' l xs kp nl st el ?_ (by omega)⟩
        refine List.pairwise_iff_getElem.mpr fun j k hj hk hjk he => ?_
        have e1 := mk j _ (List.getElem?_eq_getElem hj)
        have e2 := mk k _ (List.getElem?_eq_getElem hk)
        rw [he] at e1
        have hk' : k < digitsN.cps.toList.length := by rw [digits_len]; omega
        have hj' : j < digitsN.cps.toList.length := by rw [digits_len]; omega
        have e3 := e1.symm.trans e2
        rw [List.getElem?_eq_getElem hj', List.getElem?_eq_getElem hk'] at e3
        exact List.pairwise_iff_getElem.mp digits_nodup j k hj' hk' hjk (Option.some.inj e3)
end
end K4

set_option Elab.async false
set_option linter.all false
set_option maxRecDepth 100000
set_option maxHeartbeats 4000000
namespace K4
open PySem PySem.Spec PyProof.Rows L2 Cs
section
variable {P : Program} {w : World} {K : PySem.W.Frag} {mg : Str → Option Value} {base : Heap}
/-! ### a copy, by a loop -/
abbrev sCopied : Stmt := topS 23
abbrev nCopied : List Str := ["_law_sides", "_law_copied_here", "_law_name"]
theorem scCopied : FnScope nCopied ["_law_sides"] (defScope sCopied) := ⟨rfl, rfl, rfl, by decide +kernel, rfl, by decide +kernel, by decide +kernel⟩
theorem Nb.nil {H H' : Hp} {D : Addr} (n : H D = none) (h : H' D = some (.dK [])) : Nb H H' D [] := ⟨⟨⟨.inl h, (fun _ he => nomatch he), .nil, Nat.zero_le _⟩, h⟩, n, (fun _ he => nomatch he), .nil⟩
theorem shape_len {L M : List Ent} (h : shape L = shape M) : L.length = M.length := by have := congrArg List.length h; simpa [shape] using this
theorem shape_take {L M : List Ent} {i : Nat} {e : Ent} {l : Addr} (h : shape M = shape (L.take i)) (he : L[i]? = some e) : shape (M ++ [(e.1, l, e.2.2)]) = shape (L.take (i + 1)) := by
  rw [List.take_add_one, he]
  unfold shape at h ⊢
  rw [List.map_append, List.map_append, h]
  rfl
theorem ok_copied {f : Addr} {fd : FuncData} {k : Nat} (F : Fun K "_law_copied" "_law_copied" sCopied f fd) (B : Bt mg) : FnOk P w K mg base CX0 (k + 1) f fd ["_law_sides"] spCopy := by
  refine F.ok scCopied (fun vs H Q E h => ?_) (fun cdv A outer s H vs Q E hr h => ?_)
  · obtain ⟨d, L, rfl, _⟩ := h
    rfl
  · obtain ⟨d, L, rfl, bx, q⟩ := h
    have hu := hu_of hr
    have nd := scCopied.nd
    refine ⟨_, pss_cons (ps_set (i := 1) nd rfl (.inl rfl) pe_dnewK)
      (pss_cons (ps_lock (ps_for PassesOwn.never rfl (pi_keys (pv 0)) (pg_name (i := 2) nd rfl (.inl rfl))
        (pss_one (ps_dput hu (pv 1) (pv 2) (pe_callTy call_list_of (by rfl) B.list PyProof.Rows.boot_list (pa_cons (pe_dget hu (pv 0) (pv 2) (fun _ _ => rfl)) pa_nil)) rfl))))
      (pss_one (ps_ret (pv 1)))), ?_⟩
    intro D nD
    have s0 := same_new (o := HO.dK []) nD
    have bx0 := bx.same' s0
    refine ⟨d, _, bx0.un, trivial, fun od => ?_⟩
    have hd : H d ≠ none := by rw [bx.un]; exact fun z => by cases z
    have nDd : D ≠ d := fun z => hd (z ▸ nD)
    refine ⟨.ref d, rfl, d, od, rfl, .inl ⟨entK L, upd_same, for_it walk_keys (fun i σ H' => ∃ (M : List Ent) (y : Option V), σ = [some (.ref d), some (.ref D), y] ∧ Same (upd H d (.frz od (.dK (entK L)))) H' ∧ Nb H H' D M ∧ shape M = shape (L.take i))
      ⟨[], none, rfl, ?_, ?_, rfl⟩ (fun i σ H' _ h => by obtain ⟨M, y, _, e, _⟩ := h; exact e _ _ upd_same) ?_ ?_⟩⟩
    · intro b o e
      by_cases z : b = d
      · rw [z, upd_same] at e ⊢; exact e
      · rw [upd_ne z] at e ⊢
        exact s0 _ _ e
    · exact Nb.nil nD (by rw [upd_ne nDd]; exact upd_same)
    · rintro i x σ H' H'' hi ⟨M, y, rfl, sm, nb, sh⟩ ⟨rfl, k1, v1, hk, rfl⟩
      obtain ⟨e, he, rfl, rfl⟩ := keys_at hk
      have em := List.mem_of_getElem? he
      have bl := (bx.toBx.lock (od := od) bx.un).same sm
      have gv := bl.get e.1
      rw [getE_of bx.nd em] at gv
      rw [entK_len] at hi
      have few := bx.few
      have lM := shape_len sh
      rw [List.length_take] at lM
      refine ⟨.ref d, rfl, .str e.1, rfl, d, .ref e.2.1, rfl, gv, e.2.1, _, rfl, .inl (sl_map (bl.sides e em)), fun l nl => ?_⟩
      have sl := same_new (o := HO.lst (e.2.2.map V.int)) nl
      have nl0 : H l = none := by
        have := sm.free nl
        cases c : H l with
        | none => rfl
        | some o =>
          by_cases z : l = d
          · rw [z, upd_same] at this; cases this
          · rw [upd_ne z, c] at this; cases this
      have xnew : e.1 ∉ M.map (·.1) := by rw [shape_keys sh]; exact take_keys bx.nd he
      refine ⟨.ref D, rfl, .str e.1, rfl, D, _, rfl, DPut.k (k := .inr e.1) (sl _ _ nb.un) (by rw [entK_len]; exact small1000 (by omega)), ?_⟩
      refine ⟨putE M e.1 l e.2.2, some (.str e.1), rfl, ?_, ?_, ?_⟩
      · refine same_at (sm.trans sl) ?_
        rw [upd_ne nDd]
        exact nD
      · rw [putK_ent (s := e.2.2)]
        exact nb.put nl0 nl sl upd_same (by omega)
      · rw [putE_new xnew]
        exact shape_take sh he
    · rintro σ H' ⟨M, y, rfl, sm, nb, sh⟩
      rw [entK_len, List.take_length] at sh
      have eF := sm _ _ (upd_same (H := H) (a := d) (o := HO.frz od (.dK (entK L))))
      exact ⟨eF, _, rfl, q _ D M (unlock bx.un sm) (nb.unl bx.un eF) sh⟩
/-! ### _law_holds, _law_within, _law_is -/
abbrev sLHolds : Stmt := topS 27
abbrev sLWithin : Stmt := topS 28
abbrev sLIs : Stmt := topS 29
abbrev nLHolds : List Str := ["_law_sides", "_law_values", "_law_name"]
abbrev nLWithin : List Str := ["_law_inner", "_law_outer", "_law_name", "_law_value"]
abbrev nLIs : List Str := ["_law_told", "_law_expected"]
theorem scLHolds : FnScope nLHolds ["_law_sides", "_law_values"] (defScope sLHolds) := ⟨rfl, rfl, rfl, by decide +kernel, rfl, by decide +kernel, by decide +kernel⟩
theorem scLWithin : FnScope nLWithin ["_law_inner", "_law_outer"] (defScope sLWithin) := ⟨rfl, rfl, rfl, by decide +kernel, rfl, by decide +kernel, by decide +kernel⟩
theorem scLIs : FnScope nLIs ["_law_told", "_law_expected"] (defScope sLIs) := ⟨rfl, rfl, rfl, by decide +kernel, rfl, by decide +kernel, by decide +kernel⟩
theorem ok_lholds {f : Addr} {fd : FuncData} {k : Nat} (F : Fun K "_law_holds" "_law_holds" sLHolds f fd) (B : Bt mg) : FnOk P w K mg base CX0 (k + 1) f fd ["_law_sides", "_law_values"] spHolds := by
  refine F.ok scLHolds (fun vs H Q E h => ?_) (fun cdv A outer s H vs Q E hr h => ?_)
  · obtain ⟨d, v, L, A, rfl, _⟩ := h
    rfl
  · obtain ⟨d, v, L, as, rfl, bx, ax, dv, cov, q⟩ := h
    have hu := hu_of hr
    have nd := scLHolds.nd
    refine ⟨_, pss_cons (ps_lock (ps_for PassesOwn.never rfl (pi_keys (pv 0)) (pg_name (i := 2) nd rfl (.inl rfl))
        (pss_one (ps_if (pt_cmpR op_notIn_seq (pe_dget hu (pv 1) (pv 2) (fun _ _ => rfl)) (pe_dget hu (pv 0) (pv 2) (fun _ _ => rfl)) rfl) (pss_one (ps_ret pe_bl)) pss_nil))))
      (pss_one (ps_ret pe_bl)), ?_⟩
    refine ⟨d, _, bx.un, trivial, fun od => ?_⟩
    have bl := bx.toBx.lock (od := od) bx.un
    have al := ax.frz (d := d) (u := .frz od (.dK (entK L))) dv.symm
    refine ⟨.ref d, rfl, d, od, rfl, .inl ⟨entK L, upd_same, for_it walk_keys (fun i σ H' => H' = upd H d (.frz od (.dK (entK L))) ∧ (L.take i).all (inSide as) = true ∧ ∃ y, σ = [some (.ref d), some (.ref v), y]) ⟨rfl, rfl, none, rfl⟩ (fun i σ H' _ h => by rw [h.1]; exact upd_same) ?_ ?_⟩⟩
    · rintro i x σ H' H'' hi ⟨rfl, ev, y, rfl⟩ ⟨rfl, k1, v1, hk, rfl⟩
      obtain ⟨e, he, rfl, rfl⟩ := keys_at hk
      have em := List.mem_of_getElem? he
      obtain ⟨a, ea⟩ := cov e em
      have gv := al.get e.1
      rw [ea] at gv
      have gs := bl.get e.1
      rw [getE_of bx.nd em] at gs
      refine ⟨.ref v, rfl, .str e.1, rfl, v, .int a, rfl, gv, .ref d, rfl, .str e.1, rfl, d, .ref e.2.1, rfl, gs, e.2.1, _, rfl, .inl (sl_map (bl.sides e em)), rfl, flat_ints _, _, rfl, ?_⟩
      rw [in_ints]
      have hp : inSide as e = decide (a ∈ e.2.2) := by unfold inSide; rw [ea]
      by_cases c : a ∈ e.2.2
      · rw [decide_eq_true c]
        refine iteF ⟨rfl, ?_, some (.str e.1), rfl⟩
        rw [take_all he, ev, hp, decide_eq_true c]
        rfl
      · rw [decide_eq_false c]
        refine iteT ⟨upd_same, ?_⟩
        have hf : holdsE L as = false := not_all he (by rw [hp]; exact decide_eq_false c)
        rw [hf] at q
        exact q _ (unlock bx.un (Same.refl _))
    · rintro σ H' ⟨rfl, ev, y, rfl⟩
      rw [entK_len, List.take_length] at ev
      refine ⟨upd_same, ?_⟩
      have hf : holdsE L as = true := ev
      rw [hf] at q
      exact q _ (unlock bx.un (Same.refl _))
def spLIs : Sp := fun vs H Q _ => ∃ b : Bool, vs = [.bl b, .bl b] ∧ Q (.bl true) H
theorem ok_lis {f : Addr} {fd : FuncData} {k : Nat} (F : Fun K "_law_is" "_law_is" sLIs f fd) (B : Bt mg) : FnOk P w K mg base CX0 (k + 1) f fd ["_law_told", "_law_expected"] spLIs := by
  refine F.ok scLIs (fun vs H Q E h => ?_) (fun cdv A outer s H vs Q E hr h => ?_)
  · obtain ⟨b, rfl, _⟩ := h
    rfl
  · obtain ⟨b, rfl, q⟩ := h
    refine ⟨_, pss_one (ps_ret (pe_and (pe_callB call_isi (by rfl) B.isi PyProof.Rows.boot_isinstance (pa_cons (pv 0) (pa_cons (pe_bltn (by rfl) B.bool PyProof.Rows.boot_bool (v := .ty "bool") rfl) pa_nil)))
      (pe_one (pe_cmpR op_eq (pv 0) (pv 1) rfl)))), ?_⟩
    refine ⟨.bl b, rfl, .bl b, .ty "bool", .type "bool", .type "bool", true, rfl, .ty _, .base (.bl b), kit_ty (by decide +kernel), true, rfl, iteT ?_⟩
    refine ⟨.bl b, rfl, .bl b, rfl, rfl, ?_⟩
    rw [decide_eq_true rfl]
    exact q
def spLWithin : Sp := fun vs H Q _ => ∃ (a d : Addr) (M L : List Ent), vs = [.ref a, .ref d] ∧ Bx H a M ∧ Bu H d L ∧ ∀ H', Same H H' → Q (.bl (withinE M L)) H'
theorem ok_lwithin {f : Addr} {fd : FuncData} {k : Nat} (F : Fun K "_law_within" "_law_within" sLWithin f fd) (B : Bt mg) : FnOk P w K mg base CX0 (k + 1) f fd ["_law_inner", "_law_outer"] spLWithin := by
  refine F.ok scLWithin (fun vs H Q E h => ?_) (fun cdv A outer s H vs Q E hr h => ?_)
  · obtain ⟨a, d, M, L, rfl, _⟩ := h
    rfl
  · obtain ⟨a, d, M, L, rfl, bm, bx, q⟩ := h
    have hu := hu_of hr
    have nd := scLWithin.nd
    refine ⟨_, pss_cons (ps_lock (ps_for PassesOwn.never rfl (pi_keys (pv 1)) (pg_name (i := 2) nd rfl (.inl rfl))
        (pss_cons (ps_if (pt_cmp (pc_dnotin hu (pv 2) (pv 0))) (pss_one (ps_ret pe_bl)) pss_nil)
        (pss_one (ps_for PassesOwn.never rfl (pi_list (pe_dget hu (pv 0) (pv 2) (fun _ _ => rfl))) (pg_name (i := 3) nd rfl (.inl rfl))
          (pss_one (ps_if (pt_cmpR op_notIn_seq (pv 3) (pe_dget hu (pv 1) (pv 2) (fun _ _ => rfl)) rfl) (pss_one (ps_ret pe_bl)) pss_nil)))))))
      (pss_one (ps_ret pe_bl)), ?_⟩
    refine ⟨d, _, bx.un, trivial, fun od => ?_⟩
    have bl := bx.toBx.lock (od := od) bx.un
    have ml := bm.lock (od := od) bx.un
    refine ⟨.ref d, rfl, d, od, rfl, .inl ⟨entK L, upd_same, for_it walk_keys (fun i σ H' => H' = upd H d (.frz od (.dK (entK L))) ∧ (L.take i).all (partOf M) = true ∧ ∃ y z, σ = [some (.ref a), some (.ref d), y, z]) ⟨rfl, rfl, none, none, rfl⟩ (fun i σ H' _ h => by rw [h.1]; exact upd_same) ?_ ?_⟩⟩
    · rintro i x σ H' H'' hi ⟨rfl, ev, y, z, rfl⟩ ⟨rfl, k1, v1, hk, rfl⟩
      obtain ⟨e, he, rfl, rfl⟩ := keys_at hk
      have em := List.mem_of_getElem? he
      have gv := ml.get e.1
      have gs := bl.get e.1
      rw [getE_of bx.nd em] at gs
      refine ⟨.str e.1, rfl, .ref a, rfl, a, _, rfl, gv, ?_⟩
      cases c : getE M e.1 with
      | none =>
        refine ⟨true, rfl, iteT ⟨upd_same, ?_⟩⟩
        have hf : withinE M L = false := not_all he (by unfold partOf look; rw [c]; rfl)
        rw [hf] at q
        exact q _ (unlock bx.un (Same.refl _))
      | some m =>
        rw [c] at gv
        obtain ⟨mm, me⟩ := getE_mem c
        have hp : partOf M e = m.2.2.all fun k => decide (k ∈ e.2.2) := by unfold partOf look; rw [c]; rfl
        refine ⟨false, rfl, iteF ?_⟩
        refine ⟨.ref a, rfl, .str e.1, rfl, a, .ref m.2.1, rfl, gv, m.2.1, rfl, ⟨_, sl_map (ml.sides m mm)⟩, for_list (xs := m.2.2.map V.int) (fun j σ H' => H' = upd H d (.frz od (.dK (entK L))) ∧ (m.2.2.take j).all (fun k => decide (k ∈ e.2.2)) = true ∧ ∃ z, σ = [some (.ref a), some (.ref d), some (.str e.1), z]) ⟨rfl, rfl, z, rfl⟩ (fun i σ H' _ h => h.1 ▸ sl_map (ml.sides m mm)) ?_ ?_⟩
        · rintro j x σ H' hx ⟨rfl, ev2, z, rfl⟩
          rw [List.getElem?_map] at hx
          obtain ⟨v, hv, rfl⟩ := Option.map_eq_some_iff.mp hx
          refine ⟨.int v, rfl, .ref d, rfl, .str e.1, rfl, d, .ref e.2.1, rfl, gs, e.2.1, _, rfl, .inl (sl_map (bl.sides e em)), rfl, flat_ints _, _, rfl, ?_⟩
          rw [in_ints]
          by_cases q1 : v ∈ e.2.2
          · rw [decide_eq_true q1]
            refine iteF ⟨rfl, ?_, some (.int v), rfl⟩
            rw [take_all hv, ev2, decide_eq_true q1]
            rfl
          · rw [decide_eq_false q1]
            refine iteT ⟨upd_same, ?_⟩
            have hf : withinE M L = false := not_all he (by rw [hp]; exact not_all hv (decide_eq_false q1))
            rw [hf] at q
            exact q _ (unlock bx.un (Same.refl _))
        · rintro σ H' ⟨rfl, ev2, z, rfl⟩
          rw [List.length_map, List.take_length] at ev2
          refine ⟨rfl, ?_, _, _, rfl⟩
          rw [take_all he, ev, hp, ev2]
          rfl
    · rintro σ H' ⟨rfl, ev, y, z, rfl⟩
      rw [entK_len, List.take_length] at ev
      refine ⟨upd_same, ?_⟩
      have hf : withinE M L = true := ev
      rw [hf] at q
      exact q _ (unlock bx.un (Same.refl _))
end
end K4

set_option Elab.async false
set_option linter.all false
set_option maxRecDepth 100000
set_option maxHeartbeats 4000000
namespace K4
open PySem PySem.Spec PyProof.Rows L2 Cs
theorem filt_snoc {a : List Int} {i : Nat} {v : Int} (p : Int → Bool) (h : a[i]? = some v) : (a.take (i + 1)).filter p = if p v = true then (a.take i).filter p ++ [v] else (a.take i).filter p := by
  rw [List.take_add_one, h, List.filter_append]
  by_cases c : p v = true
  · simp [c]
  · simp [c]
section
variable {P : Program} {w : World} {K : PySem.W.Frag} {mg : Str → Option Value} {base : Heap}
abbrev sLMeet : Stmt := topS 25
abbrev nLMeet : List Str := ["_law_first", "_law_second", "_law_sides", "_law_name", "_law_value"]
theorem scLMeet : FnScope nLMeet ["_law_first", "_law_second"] (defScope sLMeet) := ⟨rfl, rfl, rfl, by decide +kernel, rfl, by decide +kernel, by decide +kernel⟩
def spLMeet : Sp := fun vs H Q _ => ∃ (a b : Addr) (L1 L2' : List Ent), vs = [.ref a, .ref b] ∧ Bu H a L1 ∧ Bu H b L2' ∧ Sz L1 31 ∧ Sz L2' 31 ∧ L1.length + L2'.length ≤ 40 ∧
  ∀ (H' : Hp) (d : Addr) (M : List Ent), Same H H' → Nb H H' d M → (∀ x, look M x = mt L1 L2' x) → M.length ≤ L1.length + L2'.length → Q (.ref d) H'
theorem ok_lmeet {f fC : Addr} {fd fdC : FuncData} (F : Fun K "_law_meet" "_law_meet" sLMeet f fd) (B : Bt mg) (C : Call P w K mg base 1 "_law_copied" fC fdC ["_law_sides"] spCopy) :
    FnOk P w K mg base CX0 2 f fd ["_law_first", "_law_second"] spLMeet := by
  refine F.ok scLMeet (fun vs H Q E h => ?_) (fun cdv A outer s H vs Q E hr h => ?_)
  · obtain ⟨a, b, L1, L2', rfl, _⟩ := h
    rfl
  · obtain ⟨a, b, L1, L2', rfl, b1, b2, z1, z2, few, q⟩ := h
    have hu := hu_of hr
    have nd := scLMeet.nd
    refine ⟨_, pss_cons (ps_set (i := 2) nd rfl (.inl rfl) (pe_call C.ok hr (by rfl) C.at_ C.kp C.bd .nil pass0 (pa_cons (pv 0) pa_nil)))
      (pss_cons (ps_lock (ps_for PassesOwn.never rfl (pi_keys (pv 1)) (pg_name (i := 3) nd rfl (.inr rfl))
        (pss_one (ps_if (pt_cmp (pc_din hu (pv 3) (pv 0)))
          (pss_one (ps_dput hu (pv 2) (pv 3) (pe_lc (own := [("_law_value", 4)]) (g := gName 4) (te := tVar 4) rfl nd (pi_list (pe_dget hu (pv 0) (pv 3) (fun _ _ => rfl))) (blkOk_by (N := nLMeet) (sc := defScope sLMeet) (by decide +kernel)) (fun _ _ _ _ _ => pg_name (i := 4) nd rfl (Or.inl rfl))
              (fun _ _ _ _ _ => pts_one (pt_cmpR (r := rIn K false) op_in_seq (pv 4) (pe_dget hu (pv 1) (pv 3) (fun _ _ => rfl)) rfl)) (fun _ _ _ _ _ => pv 4)) rfl))
          (pss_one (ps_dput hu (pv 2) (pv 3) (pe_callTy call_list_of (by rfl) B.list PyProof.Rows.boot_list (pa_cons (pe_dget hu (pv 1) (pv 3) (fun _ _ => rfl)) pa_nil)) rfl))))))
      (pss_one (ps_ret (pv 2)))), ?_⟩
    refine ⟨.ref a, rfl, a, L1, rfl, b1, fun H1 d M0 s1 n0 sh => ?_⟩
    have u2 := s1 _ _ b2.un
    have lenM : M0.length = L1.length := by have := congrArg List.length sh; simpa [shape] using this
    refine ⟨b, _, u2, trivial, fun od => ?_⟩
    have c1 := (b1.toBx.same s1).lock (od := od) u2
    have c2 := (b2.toBx.same s1).lock (od := od) u2
    have hb0 : H b ≠ none := by rw [b2.un]; exact fun z => by cases z
    refine ⟨.ref b, rfl, b, od, rfl, .inl ⟨entK L2', upd_same, for_it walk_keys (fun i σ H' => ∃ (M : List Ent) (y : Option V), σ = [some (.ref a), some (.ref b), some (.ref d), y, none] ∧ (∀ x o, x ≠ d → (upd H1 b (.frz od (.dK (entK L2')))) x = some o → H x ≠ none → H' x = some o) ∧ H' b = some (.frz od (.dK (entK L2'))) ∧ Nb H H' d M ∧ (∀ x, look M x = mt L1 (L2'.take i) x) ∧ M.length ≤ L1.length + i)
      ⟨M0, none, rfl, fun x o _ e _ => e, upd_same, n0.lck hb0, fun x => by rw [List.take_zero, mt_nil]; exact look_shape sh x, by omega⟩ (fun i σ H' _ h => by obtain ⟨M, y, _, _, e, _⟩ := h; exact e) ?_ ?_⟩⟩
    · rintro i x σ Hz H' hi ⟨M, y, rfl, kp, eF, nb, lk, ln⟩ ⟨rfl, k1, v1, hk, rfl⟩
      obtain ⟨e, he, rfl, rfl⟩ := keys_at hk
      have em := List.mem_of_getElem? he
      rw [entK_len] at hi
      have sT := Same.refl H'
      have nbT := nb
      have eFT := eF
      -- what stood is read as before
      have rd : ∀ {x : Addr} {o : HO}, H x = some o → x ≠ b → H' x = some o := fun {x o} h hx => kp x o (fun w => by rw [w, n0.fresh] at h; cases h) (by rw [upd_ne hx]; exact s1 _ _ h) (by rw [h]; exact fun z => by cases z)
      have rdS : ∀ {x : Addr} {ys : List V}, H x = some (.lst ys) → H' x = some (.lst ys) := fun {x ys} h => (rd h (fun w => by rw [w, b2.un] at h; cases h))
      have bxA : Bx H' a L1 := by
        refine ⟨?_, fun g hg => rdS (b1.sides g hg), b1.nd, b1.few⟩
        by_cases w : a = b
        · have : entK L1 = entK L2' := by
            have h1 := b1.un
            rw [w, b2.un] at h1
            exact (HO.dK.inj (Option.some.inj h1)).symm
          rw [this, w]
          exact .inr ⟨od, eFT⟩
        · exact .inl ((rd b1.un w))
      have gv := bxA.get e.1
      -- the value that is put
      have back : ∀ {l : Addr}, H' l = none → H l = none := fun {l} nl => by
        cases c : H l with
        | none => rfl
        | some o =>
          by_cases w : l = b
          · rw [w, eFT] at nl; cases nl
          · rw [(rd c w)] at nl; cases nl
      have done : ∀ (H3 : Hp) (l : Addr) (sd : List Int), Same H' H3 → H' l = none → H3 l = some (.lst (sd.map V.int)) →
          (match look L1 e.1 with | none => some e.2.2 | some a => some (both a e.2.2)) = some sd →
          ∃ (M' : List Ent) (y : Option V), [some (V.ref a), some (V.ref b), some (V.ref d), some (V.str e.1), none] = [some (.ref a), some (.ref b), some (.ref d), y, none] ∧ (∀ x o, x ≠ d → (upd H1 b (.frz od (.dK (entK L2')))) x = some o → H x ≠ none → (upd H3 d (.dK (putK (entK M) (.inr e.1) (V.ref l)))) x = some o) ∧
            (upd H3 d (.dK (putK (entK M) (.inr e.1) (V.ref l)))) b = some (.frz od (.dK (entK L2'))) ∧ Nb H (upd H3 d (.dK (putK (entK M) (.inr e.1) (V.ref l)))) d M' ∧ (∀ x, look M' x = mt L1 (L2'.take (i + 1)) x) ∧ M'.length ≤ L1.length + (i + 1) := by
        intro H3 l sd s3 nl el val
        have db : b ≠ d := fun w => hb0 (w ▸ n0.fresh)
        rw [putK_ent (s := sd)]
        refine ⟨putE M e.1 l sd, _, rfl, fun x o hx hl hn => ?_, ?_, nbT.put (back nl) nl s3 el (by omega), fun x => ?_, ?_⟩
        · rw [upd_ne hx]
          exact s3 _ _ ((kp x o hx hl hn))
        · rw [upd_ne db]
          exact s3 _ _ eFT
        · rw [look_put, mt_step b2.nd he, lk x]
          by_cases z : x = e.1
          · rw [if_pos z, if_pos z]; exact val.symm
          · rw [if_neg z, if_neg z]
        · have := putE_len M e.1 l sd; omega
      have bxB : Bx H' b L2' := ⟨.inr ⟨od, eF⟩, fun g hg => rdS (b2.sides g hg), b2.nd, b2.few⟩
      have gb := bxB.get e.1
      rw [getE_of b2.nd em] at gb
      have lenK : (entK M).length < sizeLine := by
        rw [entK_len]
        have := nb.few
        exact small1000 (by omega)
      refine ⟨.str e.1, rfl, .ref a, rfl, a, _, rfl, gv, ?_⟩
      cases c : getE L1 e.1 with
      | none =>
        have hl : look L1 e.1 = none := by unfold look; rw [c]; rfl
        refine ⟨false, rfl, iteF ?_⟩
        refine ⟨.ref b, rfl, .str e.1, rfl, b, .ref e.2.1, rfl, gb, e.2.1, _, rfl, .inl (sl_map (rdS (b2.sides e em))), fun l nl => ?_⟩
        have sl := same_new (o := HO.lst (e.2.2.map V.int)) nl
        refine ⟨.ref d, rfl, .str e.1, rfl, d, _, rfl, DPut.k (k := .inr e.1) (sl _ _ nbT.un) lenK, ?_⟩
        exact done _ l e.2.2 sl nl upd_same (by rw [hl])
      | some m =>
        obtain ⟨mm, me⟩ := getE_mem c
        have hl : look L1 e.1 = some m.2.2 := by unfold look; rw [c]; rfl
        rw [c] at gv
        refine ⟨true, rfl, iteT ?_⟩
        refine ⟨.ref a, rfl, .str e.1, rfl, a, .ref m.2.1, rfl, gv, m.2.1, rfl, ⟨_, sl_map (rdS (b1.sides m mm))⟩, fun R nR => lc_list (xs := m.2.2.map V.int) (fun j H3 => Same H' H3 ∧ H3 R = some (.lst (((m.2.2.take j).filter (fun k => decide (k ∈ e.2.2))).map V.int))) ⟨same_new nR, upd_same⟩ (fun j H3 _ h => h.1.seq (sl_map (rdS (b1.sides m mm)))) ?_ ?_⟩
        · rintro j x H3 hx ⟨sm, eR⟩
          rw [List.getElem?_map] at hx
          obtain ⟨v, hv, rfl⟩ := Option.map_eq_some_iff.mp hx
          have g3 := (bxB.same sm).get e.1
          rw [getE_of b2.nd em] at g3
          refine ⟨rfl, .int v, rfl, .ref b, rfl, .str e.1, rfl, b, .ref e.2.1, rfl, g3, e.2.1, _, rfl, .inl (sl_map (sm _ _ (rdS (b2.sides e em)))), rfl, flat_ints _, _, rfl, ?_⟩
          rw [in_ints]
          have fs := filt_snoc (fun k => decide (k ∈ e.2.2)) hv
          by_cases q1 : v ∈ e.2.2
          · rw [decide_eq_true q1]
            refine iteT ⟨.int v, rfl, _, eR, ?_, same_at sm nR, ?_⟩
            · rw [List.length_map]
              have h1 := List.length_filter_le (fun k => decide (k ∈ e.2.2)) (m.2.2.take j)
              have h2 := z1.len m mm
              rw [List.length_take] at h1
              exact small1000 (by omega)
            · rw [upd_same, fs, if_pos (decide_eq_true q1), List.map_append]
              rfl
          · rw [decide_eq_false q1]
            refine iteF ⟨sm, ?_⟩
            rw [fs, if_neg (by simp [q1])]
            exact eR
        · rintro H3 ⟨sm, eR⟩
          rw [List.length_map, List.take_length] at eR
          refine ⟨.ref d, rfl, .str e.1, rfl, d, _, rfl, DPut.k (k := .inr e.1) (sm _ _ nbT.un) lenK, ?_⟩
          exact done H3 R (both m.2.2 e.2.2) sm nR eR (by rw [hl])
    · rintro σ H' ⟨M, y, rfl, kp, eF, nb, lk, ln⟩
      rw [entK_len] at lk ln
      rw [List.take_length] at lk
      refine ⟨eF, ?_⟩
      have same : Same H (upd H' b (.dK (entK L2'))) := fun x o e => by
        by_cases w : x = b
        · rw [w, upd_same]; rw [w, b2.un] at e; exact e
        · rw [upd_ne w]
          exact kp x o (fun v => by rw [v, n0.fresh] at e; cases e) (by rw [upd_ne w]; exact s1 _ _ e) (by rw [e]; exact fun z => by cases z)
      exact ⟨_, rfl, q _ d M same (nb.unl b2.un eF) lk ln⟩
end
end K4

set_option Elab.async false
set_option linter.all false
set_option maxRecDepth 100000
set_option maxHeartbeats 4000000
namespace K4
open PySem PySem.Spec PyProof.Rows L2 Cs
theorem Nb.alias {H0 H : Hp} {d l : Addr} {M : List Ent} {x : Str} {s : List Int} (N : Nb H0 H d M) (n0 : H0 l = none) (el : H l = some (.lst (s.map V.int))) (nx : x ∉ M.map (·.1)) (nl : l ∉ M.map (·.2.1)) (few : M.length + 1 ≤ 40) :
    Nb H0 (upd H d (.dK (entK (M ++ [(x, l, s)])))) d (M ++ [(x, l, s)]) := by
  have ld : ∀ {c : Addr} {ys : List V}, H c = some (.lst ys) → c ≠ d := fun h z => by rw [z, N.un] at h; cases h
  refine ⟨⟨⟨.inl upd_same, fun e he => ?_, ?_, by rw [List.length_append]; exact few⟩, upd_same⟩, N.fresh, fun e he => ?_, ?_⟩
  · rcases List.mem_append.mp he with z | z
    · have h1 := N.sides e z
      rw [upd_ne (ld h1)]
      exact h1
    · rw [List.mem_singleton.mp z, upd_ne (ld el)]
      exact el
  · rw [List.map_append]
    exact nd_snoc N.nd nx
  · rcases List.mem_append.mp he with z | z
    · exact N.freshS e z
    · rw [List.mem_singleton.mp z]; exact n0
  · rw [List.map_append]
    exact nd_snoc N.inj nl
theorem Nb.unl' {H0 H' : Hp} {b d : Addr} {u : HO} {M : List Ent} {od : Obj} (N : Nb H0 H' d M) (eF : H' b = some (.frz od u)) : Nb H0 (upd H' b u) d M := by
  have db : d ≠ b := fun z => by have := N.un; rw [z, eF] at this; cases this
  have away : ∀ g ∈ M, g.2.1 ≠ b := fun g hg z => by have := N.sides g hg; rw [z, eF] at this; cases this
  exact ⟨⟨⟨.inl (by rw [upd_ne db]; exact N.un), fun g hg => by rw [upd_ne (away g hg)]; exact N.sides g hg, N.nd, N.few⟩, by rw [upd_ne db]; exact N.un⟩, N.fresh, N.freshS, N.inj⟩
theorem drop_snoc {M : List Ent} {i : Nat} {e : Ent} (n : Str) (h : M[i]? = some e) : dropE (M.take (i + 1)) n = if e.1 = n then dropE (M.take i) n else dropE (M.take i) n ++ [e] := by
  unfold dropE
  rw [List.take_add_one, h, List.filter_append]
  by_cases c : e.1 = n
  · simp [c]
  · simp [c]
theorem perm_uni {a s ms : List Int} (sa : Srt a) (ss : Srt s) (pm : ms.Perm (a ++ s.filter fun k => !decide (k ∈ a))) (so : ms.Pairwise (· ≤ ·)) : ms = uni a s := by
  have ndw : ∀ {l : List Int}, Srt l → l.Nodup := fun {l} h => h.imp fun h => by omega
  have nd : ms.Nodup := by
    rw [pm.nodup_iff, List.nodup_append]
    refine ⟨ndw sa, (ndw ss).filter _, fun x hx y hy e => ?_⟩
    have := (List.mem_filter.mp hy).2
    rw [← e] at this
    simp [hx] at this
  have st : Srt ms := by
    have h := List.pairwise_and_iff.mpr ⟨so, nd⟩
    exact h.imp fun h => by omega
  refine srt_ext st (uni_srt sa _) fun k => ?_
  rw [pm.mem_iff, uni_mem, List.mem_append, List.mem_filter]
  by_cases c : k ∈ a
  · simp [c]
  · simp [c]
section
variable {P : Program} {w : World} {K : PySem.W.Frag} {mg : Str → Option Value} {base : Heap}
abbrev sLJoin : Stmt := topS 26
abbrev nLJoin : List Str := ["_law_first", "_law_second", "_law_name", "_law_meet_here", "_law_sides", "_law_other", "_law_value"]
theorem scLJoin : FnScope nLJoin ["_law_first", "_law_second", "_law_name"] (defScope sLJoin) := ⟨rfl, rfl, rfl, by decide +kernel, rfl, by decide +kernel, by decide +kernel⟩
theorem ok_ljoin {f fM : Addr} {fd fdM : FuncData} (F : Fun K "_law_join" "_law_join" sLJoin f fd) (B : Bt mg) (Me : Call P w K mg base 2 "_law_meet" fM fdM ["_law_first", "_law_second"] spLMeet) :
    FnOk P w K mg base CX0 3 f fd ["_law_first", "_law_second", "_law_name"] spJoin := by
  refine F.ok scLJoin (fun vs H Q E h => ?_) (fun cdv A outer s H vs Q E hr h => ?_)
  · obtain ⟨a, b, n, L1, L2', rfl, _⟩ := h
    rfl
  · obtain ⟨a, b, n, L1, L2', rfl, b1, b2, z1, z2, few, q⟩ := h
    have hu := hu_of hr
    have nd := scLJoin.nd
    refine ⟨_, pss_cons (ps_set (i := 3) nd rfl (.inl rfl) (pe_call Me.ok hr (by rfl) Me.at_ Me.kp Me.bd .nil pass0 (pa_cons (pv 0) (pa_cons (pv 1) pa_nil))))
      (pss_cons (ps_set (i := 4) nd rfl (.inl rfl) pe_dnewK)
      (pss_cons (ps_lock (ps_for PassesOwn.never rfl (pi_keys (pv 3)) (pg_name (i := 5) nd rfl (.inl rfl))
        (pss_one (ps_if (pt_cmpR op_ne (pv 5) (pv 2) rfl) (pss_one (ps_dput hu (pv 4) (pv 5) (pe_dget hu (pv 3) (pv 5) (fun _ _ => rfl)) rfl)) pss_nil))))
      (pss_cons (ps_if (PW.pt (pw_and (pt_cmp (pc_din hu (pv 2) (pv 0))) (pw_and1 (pt_cmp (pc_din hu (pv 2) (pv 1))))))
        (pss_one (ps_dput hu (pv 4) (pv 2) (pe_callB cr_sortedI (by rfl) B.sorted PyProof.Rows.boot_sorted (pa_cons (pe_op op_cat (pe_dget hu (pv 0) (pv 2) (fun _ _ => rfl))
          (pe_lc (own := [("_law_value", 6)]) (g := gName 6) (te := tVar 6) rfl nd (pi_list (pe_dget hu (pv 1) (pv 2) (fun _ _ => rfl))) (blkOk_by (N := nLJoin) (sc := defScope sLJoin) (by decide +kernel)) (fun _ _ _ _ _ => pg_name (i := 6) nd rfl (Or.inl rfl))
              (fun _ _ _ _ _ => pts_one (pt_cmpR (r := rIn K true) op_notIn_seq (pv 6) (pe_dget hu (pv 0) (pv 2) (fun _ _ => rfl)) rfl)) (fun _ _ _ _ _ => pv 6))) pa_nil)) rfl)) pss_nil)
      (pss_one (ps_ret (pv 4)))))), ?_⟩
    refine ⟨.ref a, rfl, .ref b, rfl, a, b, L1, L2', rfl, b1, b2, z1, z2, by omega, fun H1 d M s1 nb lk ln D nD => ?_⟩
    have sD := same_new (o := HO.dK []) nD
    have nbD := nb.push sD
    refine ⟨d, _, nbD.un, trivial, fun od => ?_⟩
    have nDd : D ≠ d := fun z => by rw [z, nb.un] at nD; cases nD
    refine ⟨.ref d, rfl, d, od, rfl, .inl ⟨entK M, upd_same, for_it walk_keys (fun i σ H' => ∃ (y : Option V), σ = [some (.ref a), some (.ref b), some (.str n), some (.ref d), some (.ref D), y, none] ∧ Same (upd H1 d (.frz od (.dK (entK M)))) H' ∧ Nb H H' D (dropE (M.take i) n))
      ⟨none, rfl, ?_, ?_⟩ (fun i σ H' _ h => by obtain ⟨y, _, e, _⟩ := h; exact e _ _ upd_same) ?_ ?_⟩⟩
    · intro b o e
      by_cases z : b = d
      · rw [z, upd_same] at e ⊢; exact e
      · rw [upd_ne z] at e ⊢
        exact sD _ _ e
    · exact Nb.nil (s1.free nD) (by rw [upd_ne nDd]; exact upd_same)
    · rintro i x σ Hz H' hi ⟨y, rfl, sm, nn⟩ ⟨rfl, k1, v1, hk, rfl⟩
      obtain ⟨e, he, rfl, rfl⟩ := keys_at hk
      have em := List.mem_of_getElem? he
      have bM := (nb.toBx.lock (od := od) nb.un).same sm
      have gv := bM.get e.1
      rw [getE_of nb.nd em] at gv
      have ds := drop_snoc n he
      refine ⟨.str e.1, rfl, .str n, rfl, rfl, ?_⟩
      by_cases c : e.1 = n
      · rw [decide_eq_true (congrArg V.str c)]
        refine ⟨false, rfl, iteF ⟨_, rfl, sm, ?_⟩⟩
        rw [ds, if_pos c]
        exact nn
      · rw [decide_eq_false (fun z => c (V.str.inj z))]
        refine ⟨true, rfl, iteT ?_⟩
        have e0 : H e.2.1 = none := nb.freshS e em
        have eS := bM.sides e em
        rw [if_neg c] at ds
        have few' := nb.few
        have lD := dropE_len (M.take i) n
        rw [List.length_take] at lD
        have nx : e.1 ∉ (dropE (M.take i) n).map (·.1) := fun z => by
          obtain ⟨g, hg, eg⟩ := List.mem_map.mp z
          exact take_keys nb.nd he (eg ▸ List.mem_map_of_mem (dropE_mem hg))
        have nl : e.2.1 ∉ (dropE (M.take i) n).map (·.2.1) := fun z => by
          obtain ⟨g, hg, eg⟩ := List.mem_map.mp z
          obtain ⟨j, hj⟩ := List.mem_iff_getElem?.mp (dropE_mem hg)
          rw [List.getElem?_take] at hj
          split at hj
          · rename_i hji
            have a1 : (M.map (·.2.1))[j]? = some e.2.1 := by rw [List.getElem?_map, hj]; exact congrArg some eg
            have a2 : (M.map (·.2.1))[i]? = some e.2.1 := by rw [List.getElem?_map, he]; rfl
            have := nd_ix nb.inj a1 a2
            omega
          · cases hj
        refine ⟨.ref d, rfl, .str e.1, rfl, d, .ref e.2.1, rfl, gv, .ref D, rfl, .str e.1, rfl, D, _, rfl, DPut.k (k := .inr e.1) nn.un ?_, ?_⟩
        · rw [entK_len]
          exact small1000 (by omega)
        · refine ⟨_, rfl, same_at sm ?_, ?_⟩
          · rw [upd_ne nDd]; exact nD
          · rw [putK_ent (s := e.2.2), putE_new nx, ds]
            exact nn.alias e0 eS nx nl (by omega)
    · rintro σ H' ⟨y, rfl, sm, nn⟩
      rw [entK_len, List.take_length] at nn
      have eF := sm _ _ (upd_same (H := H1) (a := d) (o := HO.frz od (.dK (entK M))))
      refine ⟨eF, ?_⟩
      have s2 : Same H1 (upd H' d (.dK (entK M))) := unlock nb.un sm
      have nn2 := nn.unl' eF
      generalize upd H' d (.dK (entK M)) = H2 at s2 nn2 ⊢
      clear sm nn eF H'
      have s3 := s1.trans s2
      have b1' := b1.same' s3
      have b2' := b2.same' s3
      have g1 := b1'.toBx.get n
      have g2 := b2'.toBx.get n
      have lkD : ∀ x, look (dropE M n) x = if x = n then none else mt L1 L2' x := fun x => by
        rw [look_drop]
        by_cases h : x = n
        · rw [if_pos h, if_pos h]
        · rw [if_neg h, if_neg h]; exact lk x
      have lenD := dropE_len M n
      have fin : jo (look L1 n) (look L2' n) = none → Q (.ref D) H2 := fun hj => q H2 D (dropE M n) s3 nn2 (fun x => by
        rw [lkD]
        unfold jn
        by_cases h : x = n
        · rw [if_pos h, if_pos h, hj]
        · rw [if_neg h, if_neg h]) (by omega)
      refine ⟨.str n, rfl, .ref a, rfl, a, _, rfl, g1, ?_⟩
      cases c1 : getE L1 n with
      | none =>
        have hl : look L1 n = none := by unfold look; rw [c1]; rfl
        exact ⟨false, rfl, iteF ⟨_, rfl, fin (by rw [hl]; rfl)⟩⟩
      | some m1 =>
        have hl : look L1 n = some m1.2.2 := by unfold look; rw [c1]; rfl
        obtain ⟨mm1, me1⟩ := getE_mem c1
        refine ⟨true, rfl, iteT ?_⟩
        refine ⟨.str n, rfl, .ref b, rfl, b, _, rfl, g2, ?_⟩
        cases c2 : getE L2' n with
        | none =>
          have hl2 : look L2' n = none := by unfold look; rw [c2]; rfl
          exact ⟨false, rfl, iteF ⟨_, rfl, fin (by rw [hl, hl2]; rfl)⟩⟩
        | some m2 =>
          have hl2 : look L2' n = some m2.2.2 := by unfold look; rw [c2]; rfl
          obtain ⟨mm2, me2⟩ := getE_mem c2
          rw [c1] at g1
          rw [c2] at g2
          have sd1 := b1'.sides m1 mm1
          have sd2 := b2'.sides m2 mm2
          have z1' := z1.len m1 mm1
          have z2' := z2.len m2 mm2
          refine ⟨true, rfl, iteT ?_⟩
          refine ⟨.ref a, rfl, .str n, rfl, a, .ref m1.2.1, rfl, g1, .ref b, rfl, .str n, rfl, b, .ref m2.2.1, rfl, g2, m2.2.1, rfl, ⟨_, sl_map sd2⟩, fun R nR => lc_list (xs := m2.2.2.map V.int) (fun j H3 => Same H2 H3 ∧ H3 R = some (.lst (((m2.2.2.take j).filter (fun k => !decide (k ∈ m1.2.2))).map V.int))) ⟨same_new nR, upd_same⟩ (fun j H3 _ h => h.1.seq (sl_map sd2)) ?_ ?_⟩
          · rintro j x H3 hx ⟨sm, eR⟩
            rw [List.getElem?_map] at hx
            obtain ⟨v, hv, rfl⟩ := Option.map_eq_some_iff.mp hx
            have g3 := (b1'.toBx.same sm).get n
            rw [c1] at g3
            refine ⟨rfl, .int v, rfl, .ref a, rfl, .str n, rfl, a, .ref m1.2.1, rfl, g3, m1.2.1, _, rfl, .inl (sl_map (sm _ _ sd1)), rfl, flat_ints _, _, rfl, ?_⟩
            rw [in_ints]
            have fs := filt_snoc (fun k => !decide (k ∈ m1.2.2)) hv
            by_cases q1 : v ∈ m1.2.2
            · rw [decide_eq_true q1]
              refine iteF ⟨sm, ?_⟩
              rw [fs, if_neg (by simp [q1])]
              exact eR
            · rw [decide_eq_false q1]
              refine iteT ⟨.int v, rfl, _, eR, ?_, same_at sm nR, ?_⟩
              · rw [List.length_map]
                have h1 := List.length_filter_le (fun k => !decide (k ∈ m1.2.2)) (m2.2.2.take j)
                rw [List.length_take] at h1
                exact small1000 (by omega)
              · rw [upd_same, fs, if_pos (by simp [q1]), List.map_append]
                rfl
          · rintro H3 ⟨sm, eR⟩
            rw [List.length_map, List.take_length] at eR
            have fl := List.length_filter_le (fun k => !decide (k ∈ m1.2.2)) m2.2.2
            refine ⟨m1.2.1, R, _, _, rfl, rfl, sm _ _ sd1, eR, ?_, fun p np => ?_⟩
            · rw [List.length_map, List.length_map]
              exact Nat.le_of_lt (small1000 (by omega))
            · have sp := same_new (o := HO.lst (m1.2.2.map V.int ++ (m2.2.2.filter (fun k => !decide (k ∈ m1.2.2))).map V.int)) np
              refine ⟨p, m1.2.2 ++ m2.2.2.filter (fun k => !decide (k ∈ m1.2.2)), rfl, sl_map (by rw [upd_same, List.map_append]), fun ms l pm so nl => ?_⟩
              have ems := perm_uni (z1.srt m1 mm1) (z2.srt m2 mm2) pm so
              have s4 := (sm.trans sp).trans (same_new (o := HO.lst (ms.map V.int)) nl)
              have nlH2 : H2 l = none := (sm.trans sp).free nl
              have few' := nb.few
              refine ⟨.ref D, rfl, .str n, rfl, D, _, rfl, DPut.k (k := .inr n) (s4 _ _ nn2.un) ?_, _, rfl, ?_⟩
              · rw [entK_len]
                exact small1000 (by omega)
              · rw [putK_ent (s := ms)]
                refine q _ D (putE (dropE M n) n l ms) (same_at (s3.trans s4) (s1.free nD)) (nn2.put (s3.free nlH2) nlH2 s4 upd_same (by omega)) (fun x => ?_) ?_
                · rw [look_put, lkD]
                  unfold jn
                  by_cases h : x = n
                  · rw [if_pos h, if_pos h, hl, hl2, ems]
                    rfl
                  · rw [if_neg h, if_neg h, if_neg h]
                · have := putE_len (dropE M n) n l ms
                  omega
end
end K4

set_option Elab.async false
set_option linter.all false
set_option maxRecDepth 100000
set_option maxHeartbeats 4000000
namespace K4
open PySem PySem.Spec PyProof.Rows L2 Cs
/-- all that was there, but what stands at one of these -/
def KeepL (as : List Addr) (H H' : Hp) : Prop := ∀ b o, b ∉ as → H b = some o → H' b = some o
theorem KeepL.refl (as : List Addr) (H : Hp) : KeepL as H H := fun _ _ _ e => e
theorem KeepL.same {as : List Addr} {H H1 H2 : Hp} (k : KeepL as H H1) (s : Same H1 H2) : KeepL as H H2 := fun b o h e => s _ _ (k b o h e)
theorem KeepL.trans {as : List Addr} {H H1 H2 : Hp} (k : KeepL as H H1) (s : KeepL as H1 H2) : KeepL as H H2 := fun b o h e => s b o h (k b o h e)
abbrev big : Int := 10 ^ (13 : Int).toNat
def grown (ks : List Str) (e : Ent) : List Int := if e.1 ∈ ks then e.2.2 ++ [big] else e.2.2
theorem SameB.get {L M : List Ent} (s : SameB L M) {e : Ent} (nd : (M.map (·.1)).Nodup) (h : e ∈ M) : ∃ t ∈ L, t.1 = e.1 ∧ t.2.2 = e.2.2 ∧ getE L e.1 = some t := by
  have q := s e.1
  rw [look_mem nd h] at q
  unfold look at q
  obtain ⟨t, ht, eq⟩ := Option.map_eq_some_iff.mp q
  obtain ⟨m1, m2⟩ := getE_mem ht
  exact ⟨t, m1, m2, eq, ht⟩
theorem inj_eq {L : List Ent} (nd : (L.map (·.2.1)).Nodup) {e g : Ent} (he : e ∈ L) (hg : g ∈ L) (h : e.2.1 = g.2.1) : e = g := by
  obtain ⟨i, hi⟩ := List.mem_iff_getElem?.mp he
  obtain ⟨j, hj⟩ := List.mem_iff_getElem?.mp hg
  have a1 : (L.map (·.2.1))[i]? = some e.2.1 := by rw [List.getElem?_map, hi]; rfl
  have a2 : (L.map (·.2.1))[j]? = some e.2.1 := by rw [List.getElem?_map, hj, h]; rfl
  have := nd_ix nd a1 a2
  subst this
  exact Option.some.inj (hi.symm.trans hj)
theorem key_eq {L : List Ent} (nd : (L.map (·.1)).Nodup) {e g : Ent} (he : e ∈ L) (hg : g ∈ L) (h : e.1 = g.1) : e = g := by
  have a := getE_of nd he
  rw [h, getE_of nd hg] at a
  exact (Option.some.inj a).symm
section
variable {P : Program} {w : World} {K : PySem.W.Frag} {mg : Str → Option Value} {base : Heap}
abbrev sLNew : Stmt := topS 24
abbrev nLNew : List Str := ["_law_told", "_law_expected", "_law_name"]
theorem scLNew : FnScope nLNew ["_law_told", "_law_expected"] (defScope sLNew) := ⟨rfl, rfl, rfl, by decide +kernel, rfl, by decide +kernel, by decide +kernel⟩
def spLNew : Sp := fun vs H Q _ => ∃ (t e : Addr) (T E : List Ent), vs = [.ref t, .ref e] ∧ Bu H t T ∧ (T.map (·.2.1)).Nodup ∧ Bu H e E ∧ SameB T E ∧ (∀ x ∈ E, x.2.1 ∉ T.map (·.2.1)) ∧ t ≠ e ∧ (∀ x ∈ E, x.2.2.length ≤ 100) ∧
  ∀ H', KeepL (T.map (·.2.1)) H H' → Q (.bl true) H'
theorem ok_lnew {f : Addr} {fd : FuncData} {k : Nat} (F : Fun K "_law_new" "_law_new" sLNew f fd) (B : Bt mg) : FnOk P w K mg base CX0 (k + 1) f fd ["_law_told", "_law_expected"] spLNew := by
  refine F.ok scLNew (fun vs H Q E h => ?_) (fun cdv A outer s H vs Q E hr h => ?_)
  · obtain ⟨t, e, T, E', rfl, _⟩ := h
    rfl
  · obtain ⟨t, e, T, X, rfl, bt, inj, be, same, away, te, len, q⟩ := h
    have hu : (A.deeper (envOfC "_law_new" (defScope sLNew) s.heap.objs.size f cdv)).units + 64 < cLine := by have := hr.un; omega
    have hu1 := hu_of hr
    have nd := scLNew.nd
    refine ⟨_, pss_cons (ps_lock (ps_for PassesOwn.never rfl (pi_keys (pv 1)) (pg_name (i := 2) nd rfl (.inl rfl))
        (pss_one (ps_expr (pe_bm PySem.F.plainAttrs_list PySem.F.slot_list_append PySem.F.type_list_append mt_append (pe_dget hu1 (pv 0) (pv 2) (fun _ _ => rfl)) (pa_cons (pe_op op_pow pe_int pe_int) pa_nil))))))
      (pss_cons (ps_lock (ps_for PassesOwn.never rfl (pi_keys (pv 1)) (pg_name (i := 2) nd rfl (.inl rfl))
        (pss_one (ps_if (pt_cmpR (op_neD hu) (pe_dget hu1 (pv 0) (pv 2) (fun _ _ => rfl)) (pe_op op_cat (pe_dget hu1 (pv 1) (pv 2) (fun _ _ => rfl)) (pe_lst (pa_cons (pe_op op_pow pe_int pe_int) pa_nil))) rfl) (pss_one (ps_ret pe_bl)) pss_nil))))
      (pss_one (ps_ret pe_bl))), ?_⟩
    refine ⟨e, _, be.un, trivial, fun od => ?_⟩
    have sideT : ∀ x ∈ T, H x.2.1 = some (.lst (x.2.2.map V.int)) := bt.sides
    have nt : ∀ {c : Addr} {kvs : List (Key × V)}, H c = some (.dK kvs) → c ∉ T.map (·.2.1) := fun {c kvs} h z => by
      obtain ⟨g, hg, eg⟩ := List.mem_map.mp z
      have eg' : g.2.1 = c := eg
      have := sideT g hg
      rw [eg', h] at this
      cases this
    refine ⟨.ref e, rfl, e, od, rfl, .inl ⟨entK X, upd_same, for_it walk_keys (fun i σ H' => ∃ (y : Option V), σ = [some (.ref t), some (.ref e), y] ∧ KeepL (T.map (·.2.1)) (upd H e (.frz od (.dK (entK X)))) H' ∧ ∀ g ∈ T, H' g.2.1 = some (.lst ((grown ((X.take i).map (·.1)) g).map V.int)))
      ⟨none, rfl, KeepL.refl _ _, ?_⟩ (fun i σ H' _ h => by obtain ⟨y, _, kk, _⟩ := h; exact kk _ _ (nt be.un) upd_same) ?_ ?_⟩⟩
    · intro g hg
      have h1 := sideT g hg
      have h2 : g.2.1 ≠ e := fun z => by rw [z, be.un] at h1; cases h1
      rw [upd_ne h2, List.take_zero]
      exact h1
    · rintro i x σ Hz H' hi ⟨y, rfl, kk, gs⟩ ⟨rfl, k1, v1, hk, rfl⟩
      obtain ⟨x, hx, rfl, rfl⟩ := keys_at hk
      have xm := List.mem_of_getElem? hx
      obtain ⟨g, gm, g1, g2, g3⟩ := same.get be.nd xm
      have ut : H' t = some (.dK (entK T)) := kk _ _ (nt bt.un) (by rw [upd_ne te]; exact bt.un)
      have gv : DGet H' t (.str x.1) (some (.ref g.2.1)) := .inl ⟨entK T, .inr x.1, .inl ut, rfl, by rw [valV_ent, g3]; rfl⟩
      have eg := gs g gm
      have ng : g.1 ∉ (X.take i).map (·.1) := by rw [g1]; exact take_keys be.nd hx
      have gr : grown ((X.take i).map (·.1)) g = g.2.2 := if_neg ng
      rw [gr] at eg
      refine ⟨.ref t, rfl, .str x.1, rfl, t, .ref g.2.1, rfl, gv, .inl ⟨rfl, _, sl_map eg⟩, 10, 13, rfl, rfl, ⟨by decide, by decide, by decide⟩, g.2.1, _, _, rfl, rfl, eg, ?_, _, rfl, ?_, ?_⟩
      · rw [List.length_map, g2]
        have := len x xm
        exact small1000 (by omega)
      · intro b o hb e1
        have : b ≠ g.2.1 := fun z => hb (z ▸ List.mem_map_of_mem gm)
        rw [upd_ne this]
        exact kk b o hb e1
      · intro a am
        have ks : (X.take (i + 1)).map (·.1) = (X.take i).map (·.1) ++ [x.1] := by rw [List.take_add_one, hx, List.map_append]; rfl
        rw [ks]
        by_cases c : a = g
        · subst c
          rw [upd_same]
          unfold grown
          rw [if_pos (by rw [g1]; simp), List.map_append]
          rfl
        · have c1 : a.2.1 ≠ g.2.1 := fun z => c (inj_eq inj am gm z)
          have c2 : a.1 ≠ x.1 := fun z => c (key_eq bt.nd am gm (z.trans g1.symm))
          rw [upd_ne c1, gs a am]
          unfold grown
          congr 4
          simp [c2]
    · rintro σ H' ⟨y, rfl, kk, gs⟩
      rw [entK_len, List.take_length] at gs
      have eF : H' e = some (.frz od (.dK (entK X))) := kk _ _ (nt be.un) upd_same
      refine ⟨eF, ?_⟩
      have ene : e ∉ T.map (·.2.1) := nt be.un
      have kk2 : KeepL (T.map (·.2.1)) H (upd H' e (.dK (entK X))) := fun b o hb e1 => by
        by_cases z : b = e
        · rw [z, upd_same]; rw [z, be.un] at e1; exact e1
        · rw [upd_ne z]; exact kk b o hb (by rw [upd_ne z]; exact e1)
      have gs2 : ∀ g ∈ T, (upd H' e (.dK (entK X))) g.2.1 = some (.lst ((grown (X.map (·.1)) g).map V.int)) := fun g hg => by
        have : g.2.1 ≠ e := fun z => ene (z ▸ List.mem_map_of_mem hg)
        rw [upd_ne this]; exact gs g hg
      generalize upd H' e (.dK (entK X)) = H2 at kk2 gs2 ⊢
      clear kk gs eF H'
      have u2 := kk2 _ _ ene be.un
      refine ⟨e, _, u2, trivial, fun od2 => ?_⟩
      refine ⟨.ref e, rfl, e, od2, rfl, .inl ⟨entK X, upd_same, for_it walk_keys (fun i σ H' => ∃ (y : Option V), σ = [some (.ref t), some (.ref e), y] ∧ Same (upd H2 e (.frz od2 (.dK (entK X)))) H')
        ⟨y, rfl, Same.refl _⟩ (fun i σ H' _ h => by obtain ⟨y, _, kk⟩ := h; exact kk _ _ upd_same) ?_ ?_⟩⟩
      · rintro i x σ Hz H' hi ⟨y, rfl, sm⟩ ⟨rfl, k1, v1, hk, rfl⟩
        obtain ⟨x, hx, rfl, rfl⟩ := keys_at hk
        have xm := List.mem_of_getElem? hx
        obtain ⟨g, gm, g1, g2, g3⟩ := same.get be.nd xm
        have ut : H' t = some (.dK (entK T)) := sm _ _ (by rw [upd_ne te]; exact kk2 _ _ (nt bt.un) bt.un)
        have gv : DGet H' t (.str x.1) (some (.ref g.2.1)) := .inl ⟨entK T, .inr x.1, .inl ut, rfl, by rw [valV_ent, g3]; rfl⟩
        have ve : DGet H' e (.str x.1) (some (.ref x.2.1)) := .inl ⟨entK X, .inr x.1, .inr ⟨od2, sm _ _ upd_same⟩, rfl, by rw [valV_ent, getE_of be.nd xm]; rfl⟩
        have eg : H' g.2.1 = some (.lst ((x.2.2 ++ [big]).map V.int)) := by
          have h1 := gs2 g gm
          have h2 : g.2.1 ≠ e := fun z => ene (z ▸ List.mem_map_of_mem gm)
          have h3 : grown (X.map (·.1)) g = x.2.2 ++ [big] := by
            unfold grown
            rw [if_pos (by rw [g1]; exact List.mem_map_of_mem xm), g2]
          rw [h3] at h1
          exact sm _ _ (by rw [upd_ne h2]; exact h1)
        have ex : H' x.2.1 = some (.lst (x.2.2.map V.int)) := by
          have h1 := be.sides x xm
          have h2 : x.2.1 ≠ e := fun z => by rw [z, be.un] at h1; cases h1
          exact sm _ _ (by rw [upd_ne h2]; exact kk2 _ _ (away x xm) h1)
        refine ⟨.ref t, rfl, .str x.1, rfl, t, .ref g.2.1, rfl, gv, .ref e, rfl, .str x.1, rfl, e, .ref x.2.1, rfl, ve, 10, 13, rfl, rfl, ⟨by decide, by decide, by decide⟩, by show 1 ≤ sizeLine; decide, fun p np => ?_⟩
        have s1 := same_new (o := HO.lst [V.int big]) np
        refine ⟨x.2.1, p, _, _, rfl, rfl, s1 _ _ ex, upd_same, ?_, fun r nr => ?_⟩
        · rw [List.length_map]
          have := len x xm
          exact Nat.le_of_lt (small1000 (by show x.2.2.length + 1 ≤ 1000; omega))
        · have s2 := s1.trans (same_new (o := HO.lst (x.2.2.map V.int ++ [V.int big])) nr)
          refine ⟨dI (x.2.2 ++ [big]), dI (x.2.2 ++ [big]), dpI (sl_map (s2 _ _ eg)), dpI (sl_map (by rw [upd_same, List.map_append]; rfl)), shI _, shI _, ?_⟩
          rw [eqI]
          exact ⟨_, rfl, iteF ⟨_, rfl, sm.trans s2⟩⟩
      · rintro σ H' ⟨y, rfl, sm⟩
        refine ⟨sm _ _ upd_same, q _ (kk2.same (unlock u2 sm))⟩
end
end K4

set_option Elab.async false
set_option linter.all false
set_option maxRecDepth 100000
set_option maxHeartbeats 4000000
namespace K4
open PySem PySem.Spec PyProof.Rows L2 Cs
section
variable {P : Program} {w : World} {K : PySem.W.Frag} {mg : Str → Option Value} {base : Heap}
abbrev sSame : Stmt := topS 20
abbrev nSame : List Str := ["_law_actual", "_law_expected", "_law_found", "_law_name"]
theorem scSame : FnScope nSame ["_law_actual", "_law_expected"] (defScope sSame) := ⟨rfl, rfl, rfl, by decide +kernel, rfl, by decide +kernel, by decide +kernel⟩
def spSame : Sp := fun vs H Q _ => ∃ (a e : Addr) (M E : List Ent), vs = [.ref a, .ref e] ∧ Bu H a M ∧ Bu H e E ∧ SameB M E ∧ (∀ g ∈ M, Srt g.2.2 ∧ g.2.2.length ≤ 1000) ∧ ∀ H', Same H H' → Q (.bl true) H'
theorem ok_same {f fI : Addr} {fd fdI : FuncData} (F : Fun K "_law_same_sides" "_law_same_sides" sSame f fd) (B : Bt mg) (I : Call P w K mg base 2 "_law_is_side" fI fdI ["_law_actual"] spIsSide) :
    FnOk P w K mg base CX0 3 f fd ["_law_actual", "_law_expected"] spSame := by
  refine F.ok scSame (fun vs H Q E h => ?_) (fun cdv A outer s H vs Q E hr h => ?_)
  · obtain ⟨a, e, M, E, rfl, _⟩ := h
    rfl
  · obtain ⟨a, e, M, X, rfl, bm, be, same, ok, q⟩ := h
    have hu := hu_of hr
    have hu64 : (A.deeper (envOfC "_law_same_sides" (defScope sSame) s.heap.objs.size f cdv)).units + 64 < cLine := by have := hr.un; omega
    have nd := scSame.nd
    refine ⟨_, pss_cons (ps_if (PW.pt (pw_or (pt_not (pt_val (pe_callB call_isi (by rfl) B.isi PyProof.Rows.boot_isinstance (pa_cons (pv 0) (pa_cons (pe_bltn (by rfl) B.dict PyProof.Rows.boot_dict (v := .ty "dict") rfl) pa_nil)))))
        (pw_or1 (pt_cmpR op_ne (pe_callB call_lenD (by rfl) B.len PySem.boot_len (pa_cons (pv 0) pa_nil)) (pe_callB call_lenD (by rfl) B.len PySem.boot_len (pa_cons (pv 1) pa_nil)) rfl)))) (pss_one (ps_ret pe_bl)) pss_nil)
      (pss_cons (ps_lock (ps_setLc (i := 2) (own := [("_law_name", 3)]) (g := gName 3) (te := tVar 3) rfl nd rfl rfl (by rfl) (pi_keys (pv 1)) (blkOk_by (N := nSame) (sc := defScope sSame) (by decide +kernel)) (fun _ _ _ _ _ => pg_name (i := 3) nd rfl (Or.inl rfl))
          (fun _ _ _ _ _ => pts_one (PW.pt (pw_and (pt_cmp (pc_din hu (pv 3) (pv 0))) (pw_and1 (pt_val (pe_call I.ok hr (by rfl) I.at_ I.kp I.bd .nil pass0 (pa_cons (pe_dget hu (pv 0) (pv 3) (fun _ _ => rfl)) pa_nil))))))) (fun _ _ _ _ _ => pv 3)))
      (pss_one (ps_ret (pe_and (pe_cmpR op_eq (pe_callB call_len_seq (by rfl) B.len PySem.boot_len (pa_cons (pv 2) pa_nil)) (pe_callB call_lenD (by rfl) B.len PySem.boot_len (pa_cons (pv 1) pa_nil)) rfl)
        (pe_one (pe_callB (cr_all rfl) (by rfl) B.all PyProof.Rows.boot_all (pa_cons
          (pe_lc (own := [("_law_name", 3)]) (g := gName 3) (tt := tYes) rfl nd (pi_list (pv 2)) (blkOk_by (N := nSame) (sc := defScope sSame) (by decide +kernel)) (fun _ _ _ _ _ => pg_name (i := 3) nd rfl (Or.inl rfl)) (fun _ _ _ _ _ => pts_nil)
            (fun _ _ _ _ _ => pe_cmpR (r := rEqD K) (op_eqD hu64) (pe_dget hu (pv 0) (pv 3) (fun _ _ => rfl)) (pe_dget hu (pv 1) (pv 3) (fun _ _ => rfl)) rfl)) pa_nil))))))), ?_⟩
    have lens : M.length = X.length := same.len bm.nd be.nd
    refine ⟨.ref a, rfl, .ref a, .ty "dict", .type "dict", .type "dict", true, rfl, .ty _, .base (.dK bm.un), kit_ty (by decide +kernel), true, rfl, iteF ?_⟩
    refine ⟨.ref a, rfl, a, _, rfl, bm.un, .ref e, rfl, e, _, rfl, be.un, rfl, ?_⟩
    rw [entK_len, entK_len, lens, decide_eq_true rfl]
    refine ⟨false, rfl, iteF ?_⟩
    refine ⟨e, _, be.un, trivial, fun od => ?_⟩
    have bel := be.toBx.lock (od := od) be.un
    have bml := bm.toBx.lock (od := od) be.un
    refine ⟨.ref e, rfl, e, od, rfl, .inl ⟨entK X, upd_same, fun D nD => lc_it walk_keys (fun i H' => Same (upd H e (.frz od (.dK (entK X)))) H' ∧ H' D = some (.lst (((X.take i).map (·.1)).map V.str))) ⟨same_new nD, upd_same⟩ (fun i H' _ h => h.1 _ _ upd_same) ?_ ?_⟩⟩
    · rintro i x Hz H' hi ⟨sm, eD⟩ ⟨rfl, k1, v1, hk, rfl⟩
      obtain ⟨x, hx, rfl, rfl⟩ := keys_at hk
      have xm := List.mem_of_getElem? hx
      obtain ⟨g, gm, g1, g2, g3⟩ := same.get be.nd xm
      have gv := (bml.same sm).get x.1
      rw [g3] at gv
      obtain ⟨so, ln⟩ := ok g gm
      have isu : H' a = some (.dK (entK M)) ∨ H' a = some (.frz od (.dK (entK X))) := by
        by_cases z : a = e
        · right; rw [z]; exact sm _ _ upd_same
        · left; exact sm _ _ (by rw [upd_ne z]; exact bm.un)
      refine ⟨rfl, .str x.1, rfl, .ref a, rfl, a, _, rfl, gv, true, rfl, iteT ?_⟩
      refine ⟨.ref a, rfl, .str x.1, rfl, a, .ref g.2.1, rfl, gv, g.2.1, g.2.2, rfl, sm _ _ (bml.sides g gm), so, ln, fun H4 s4 => ⟨true, rfl, iteT ⟨.str x.1, rfl, _, s4 _ _ eD, ?_, same_at (sm.trans s4) nD, ?_⟩⟩⟩
      · rw [List.length_map, List.length_map, List.length_take]
        have := be.few
        exact small1000 (by omega)
      · rw [upd_same, List.take_add_one, hx, List.map_append, List.map_append]
        rfl
    · rintro H' ⟨sm, eD⟩
      rw [entK_len, List.take_length] at eD
      have eF := sm _ _ (upd_same (H := H) (a := e) (o := HO.frz od (.dK (entK X))))
      have nDe : D ≠ e := fun z => by rw [z, eF] at eD; cases eD
      refine ⟨eF, ?_⟩
      have s2 : Same H (upd H' e (.dK (entK X))) := unlock be.un sm
      have eD2 : (upd H' e (.dK (entK X))) D = some (.lst ((X.map (·.1)).map V.str)) := by rw [upd_ne nDe]; exact eD
      generalize upd H' e (.dK (entK X)) = H2 at s2 eD2 ⊢
      clear sm eD eF H'
      refine ⟨.ref D, rfl, D, _, rfl, .inl (sl_map eD2), .ref e, rfl, e, _, rfl, s2 _ _ be.un, rfl, ?_⟩
      rw [entK_len, List.length_map, List.length_map, decide_eq_true rfl]
      refine ⟨true, rfl, iteT ?_⟩
      refine ⟨.ref D, rfl, D, rfl, ⟨_, sl_map eD2⟩, fun R nR => lc_list (xs := (X.map (·.1)).map V.str) (fun i H' => Same H2 H' ∧ H' R = some (.lst ((List.replicate i true).map V.bl))) ⟨same_new nR, upd_same⟩ (fun i H' _ h => h.1.seq (sl_map eD2)) ?_ ?_⟩
      · rintro i z H' hz ⟨sm, hd⟩
        rw [List.getElem?_map, List.getElem?_map] at hz
        obtain ⟨v, hv, rfl⟩ := Option.map_eq_some_iff.mp hz
        obtain ⟨x, hx, rfl⟩ := Option.map_eq_some_iff.mp hv
        have xm := List.mem_of_getElem? hx
        obtain ⟨g, gm, g1, g2, g3⟩ := same.get be.nd xm
        have s3 := s2.trans sm
        have gv := (bm.toBx.same s3).get x.1
        rw [g3] at gv
        have ev := (be.toBx.same s3).get x.1
        rw [getE_of be.nd xm] at ev
        have few := be.few
        have hi := (List.getElem?_eq_some_iff.mp hx).1
        have e1 := s3 _ _ (bm.sides g gm)
        rw [g2] at e1
        refine ⟨rfl, .ref a, rfl, .str x.1, rfl, a, .ref g.2.1, rfl, gv, .ref e, rfl, .str x.1, rfl, e, .ref x.2.1, rfl, ev, dI x.2.2, dI x.2.2, dpI (sl_map e1), dpI (sl_map (s3 _ _ (be.sides x xm))), shI _, shI _, ?_⟩
        rw [eqI]
        refine ⟨_, hd, ?_, same_at sm nR, ?_⟩
        · rw [List.length_map, List.length_replicate]
          exact small1000 (by omega)
        · rw [upd_same, List.replicate_succ', List.map_append]
          rfl
      · rintro H' ⟨sm, hd⟩
        refine ⟨R, _, rfl, sl_map hd, ?_⟩
        rw [all_rep]
        exact q _ (s2.trans sm)
end
end K4

set_option Elab.async false
set_option linter.all false
set_option maxRecDepth 100000
set_option maxHeartbeats 4000000
namespace K4
open PySem PySem.Spec PyProof.Rows L2 Cs
/-- a list of boxes -/
structure Bxs (H : Hp) (v : Addr) (ds : List (Addr × List Ent)) : Prop where
  lst : H v = some (.lst (ds.map fun p => V.ref p.1))
  box : ∀ p ∈ ds, Bu H p.1 p.2
  sz : ∀ p ∈ ds, ∀ e ∈ p.2, e.2.2.length ≤ 31
theorem Bxs.same {H H' : Hp} {v : Addr} {ds : List (Addr × List Ent)} (B : Bxs H v ds) (s : Same H H') : Bxs H' v ds := ⟨s _ _ B.lst, fun p h => (B.box p h).same' s, B.sz⟩
section
variable {P : Program} {w : World} {K : PySem.W.Frag} {mg : Str → Option Value} {base : Heap}
abbrev sRooms : Stmt := topS 30
abbrev sPairs : Stmt := topS 31
abbrev nRooms : List Str := ["_law_every", "_law_sides", "_law_due", "_law_name", "_law_told"]
abbrev nPairs : List Str := ["_law_every", "_law_inner", "_law_outer"]
theorem scRooms : FnScope nRooms ["_law_every"] (defScope sRooms) := ⟨rfl, rfl, rfl, by decide +kernel, rfl, by decide +kernel, by decide +kernel⟩
theorem scPairs : FnScope nPairs ["_law_every"] (defScope sPairs) := ⟨rfl, rfl, rfl, by decide +kernel, rfl, by decide +kernel, by decide +kernel⟩
def spEvery : Sp := fun vs H Q _ => ∃ (v : Addr) (ds : List (Addr × List Ent)), vs = [.ref v] ∧ Bxs H v ds ∧ ∀ H', Same H H' → Q (.bl true) H'
theorem ok_rooms {f fR fI : Addr} {fd fdR fdI : FuncData} (F : Fun K "_law_rooms" "_law_rooms" sRooms f fd) (B : Bt mg) (R : Call P w K mg base 1 "room" fR fdR ["box"] spRoom) (I : Call P w K mg base 1 "_law_is_integer" fI fdI ["_law_actual"] spIsInt) :
    FnOk P w K mg base CX0 2 f fd ["_law_every"] spEvery := by
  refine F.ok scRooms (fun vs H Q E h => ?_) (fun cdv A outer s H vs Q E hr h => ?_)
  · obtain ⟨v, ds, rfl, _⟩ := h
    rfl
  · obtain ⟨v, ds, rfl, bs, q⟩ := h
    have hu := hu_of hr
    have nd := scRooms.nd
    refine ⟨_, pss_cons (ps_for PassesOwn.never rfl (pi_list (pv 0)) (pg_name (i := 1) nd rfl (.inl rfl))
        (pss_cons (ps_set (i := 2) nd rfl (.inl rfl) pe_int)
        (pss_cons (ps_lock (ps_for PassesOwn.never rfl (pi_keys (pv 1)) (pg_name (i := 3) nd rfl (.inl rfl))
          (pss_one (ps_set (i := 2) nd rfl (.inl rfl) (pe_op op_mul (pv 2) (pe_callB call_len_seq (by rfl) B.len PySem.boot_len (pa_cons (pe_dget hu (pv 1) (pv 3) (fun _ _ => rfl)) pa_nil)))))))
        (pss_cons (ps_set (i := 4) nd rfl (.inl rfl) (pe_call R.ok hr (by rfl) R.at_ R.kp R.bd .nil pass0 (pa_cons (pv 1) pa_nil)))
        (pss_one (ps_if (PW.pt (pw_or (pt_not (pt_val (pe_call I.ok hr (by rfl) I.at_ I.kp I.bd .nil pass0 (pa_cons (pv 4) pa_nil)))) (pw_or1 (pt_cmpR op_ne (pv 4) (pv 2) rfl)))) (pss_one (ps_ret pe_bl)) pss_nil))))))
      (pss_one (ps_ret pe_bl)), ?_⟩
    refine ⟨.ref v, rfl, v, rfl, ⟨_, sl_map bs.lst⟩, for_list (xs := ds.map fun p => V.ref p.1) (fun i σ H' => H' = H ∧ ∃ y1 y2 y3 y4, σ = [some (.ref v), y1, y2, y3, y4]) ⟨rfl, none, none, none, none, rfl⟩ (fun i σ H' _ h => by rw [h.1]; exact sl_map bs.lst) ?_ ?_⟩
    · rintro i x σ H' hx ⟨rfl, y1, y2, y3, y4, rfl⟩
      rw [List.getElem?_map] at hx
      obtain ⟨⟨d, L⟩, hv, rfl⟩ := Option.map_eq_some_iff.mp hx
      have dm := List.mem_of_getElem? hv
      have bx : Bu H' d L := bs.box _ dm
      have sz : ∀ e ∈ L, e.2.2.length ≤ 31 := bs.sz _ dm
      refine ⟨d, _, bx.un, trivial, fun od => ?_⟩
      have bl := bx.toBx.lock (od := od) bx.un
      refine ⟨.ref d, rfl, d, od, rfl, .inl ⟨entK L, upd_same, for_it walk_keys (fun i σ H2 => H2 = upd H' d (.frz od (.dK (entK L))) ∧ ∃ y, σ = [some (.ref v), some (.ref d), some (.int (roomE (L.take i))), y, y4]) ⟨rfl, y3, rfl⟩ (fun i σ H2 _ h => by rw [h.1]; exact upd_same) ?_ ?_⟩⟩
      · rintro j x σ Hz H2 hi ⟨rfl, y, rfl⟩ ⟨rfl, k1, v1, hk, rfl⟩
        obtain ⟨e, he, rfl, rfl⟩ := keys_at hk
        have em := List.mem_of_getElem? he
        have gs := bl.get e.1
        rw [getE_of bx.nd em] at gs
        have z := sz e em
        refine ⟨_, rfl, .ref d, rfl, .str e.1, rfl, d, .ref e.2.1, rfl, gs, e.2.1, _, rfl, .inl (sl_map (bl.sides e em)), _, _, rfl, rfl, .inr ⟨?_, ?_⟩, rfl, some (.str e.1), ?_⟩
        · rw [List.length_map]; omega
        · rw [List.length_map]; omega
        · rw [room_snoc he, List.length_map]
          rfl
      · rintro σ H2 ⟨rfl, y, rfl⟩
        refine ⟨upd_same, ?_⟩
        rw [upd_back bx.un, entK_len, List.take_length]
        refine ⟨.ref d, rfl, d, L, rfl, bx, (fun e he => by have := sz e he; omega), .int (roomE L), rfl, roomE L, rfl, true, rfl, iteF ?_⟩
        refine ⟨.int (roomE L), rfl, .int (roomE L), rfl, rfl, ?_⟩
        rw [decide_eq_true rfl]
        exact ⟨false, rfl, iteF ⟨rfl, _, _, _, _, rfl⟩⟩
    · rintro σ H' ⟨rfl, y1, y2, y3, y4, rfl⟩
      exact q _ (Same.refl _)
theorem ok_pairs {f fB fW fI : Addr} {fd fdB fdW fdI : FuncData} (F : Fun K "_law_pairs_within" "_law_pairs_within" sPairs f fd) (B : Bt mg) (BW : Call P w K mg base 2 "box_within" fB fdB ["inner", "outer"] spBoxIn)
    (W : Call P w K mg base 1 "_law_within" fW fdW ["_law_inner", "_law_outer"] spLWithin) (I : Call P w K mg base 1 "_law_is" fI fdI ["_law_told", "_law_expected"] spLIs) :
    FnOk P w K mg base CX0 3 f fd ["_law_every"] spEvery := by
  refine F.ok scPairs (fun vs H Q E h => ?_) (fun cdv A outer s H vs Q E hr h => ?_)
  · obtain ⟨v, ds, rfl, _⟩ := h
    rfl
  · obtain ⟨v, ds, rfl, bs, q⟩ := h
    have nd := scPairs.nd
    have hr1 : Room 1 (A.deeper (envOfC "_law_pairs_within" (defScope sPairs) s.heap.objs.size f cdv)) := hr.mono (by decide)
    refine ⟨_, pss_cons (ps_for PassesOwn.never rfl (pi_list (pv 0)) (pg_name (i := 1) nd rfl (.inl rfl))
        (pss_one (ps_for PassesOwn.never rfl (pi_list (pv 0)) (pg_name (i := 2) nd rfl (.inl rfl))
          (pss_one (ps_if (pt_not (pt_val (pe_call I.ok hr1 (by rfl) I.at_ I.kp I.bd .nil pass0 (pa_cons (pe_call BW.ok hr (by rfl) BW.at_ BW.kp BW.bd .nil pass0 (pa_cons (pv 1) (pa_cons (pv 2) pa_nil)))
            (pa_cons (pe_call W.ok hr1 (by rfl) W.at_ W.kp W.bd .nil pass0 (pa_cons (pv 1) (pa_cons (pv 2) pa_nil))) pa_nil))))) (pss_one (ps_ret pe_bl)) pss_nil)))))
      (pss_one (ps_ret pe_bl)), ?_⟩
    refine ⟨.ref v, rfl, v, rfl, ⟨_, sl_map bs.lst⟩, for_list (xs := ds.map fun p => V.ref p.1) (fun i σ H' => Same H H' ∧ ∃ y1 y2, σ = [some (.ref v), y1, y2]) ⟨Same.refl _, none, none, rfl⟩ (fun i σ H' _ h => h.1.seq (sl_map bs.lst)) ?_ ?_⟩
    · rintro i x σ H' hx ⟨sm, y1, y2, rfl⟩
      rw [List.getElem?_map] at hx
      obtain ⟨⟨d, L⟩, hv, rfl⟩ := Option.map_eq_some_iff.mp hx
      have dm := List.mem_of_getElem? hv
      refine ⟨.ref v, rfl, v, rfl, ⟨_, sl_map (sm _ _ bs.lst)⟩, for_list (xs := ds.map fun p => V.ref p.1) (fun i σ H' => Same H H' ∧ ∃ y2, σ = [some (.ref v), some (.ref d), y2]) ⟨sm, y2, rfl⟩ (fun i σ H' _ h => h.1.seq (sl_map bs.lst)) ?_ ?_⟩
      · rintro j x σ H2 hy ⟨sm2, y2, rfl⟩
        rw [List.getElem?_map] at hy
        obtain ⟨⟨d2, L2⟩, hv2, rfl⟩ := Option.map_eq_some_iff.mp hy
        have dm2 := List.mem_of_getElem? hv2
        have b2 := bs.same sm2
        refine ⟨.ref d, rfl, .ref d2, rfl, d, d2, L, L2, rfl, (b2.box _ dm).toBx, b2.box _ dm2, b2.sz _ dm, b2.sz _ dm2, fun H3 s3 => ?_⟩
        have b3 := b2.same s3
        refine ⟨.ref d, rfl, .ref d2, rfl, d, d2, L, L2, rfl, (b3.box _ dm).toBx, b3.box _ dm2, fun H4 s4 => ⟨withinE L L2, rfl, true, rfl, iteF ⟨(sm2.trans s3).trans s4, _, rfl⟩⟩⟩
      · rintro σ H2 ⟨sm2, y2, rfl⟩
        exact ⟨sm2, _, _, rfl⟩
    · rintro σ H' ⟨sm, y1, y2, rfl⟩
      exact q _ sm
end
end K4

set_option Elab.async false
set_option linter.all false
set_option maxRecDepth 100000
set_option maxHeartbeats 4000000
namespace K4
open PySem PySem.Spec PyProof.Rows L2 Cs
theorem cutV_to (xs : List V) (j : Nat) : cutV xs none (some (j : Int)) = xs.take j := by
  unfold cutV
  rw [HT.sIx_none, HT.sIx_nat, List.drop_zero, Nat.sub_zero]
  by_cases h : j ≤ xs.length
  · rw [Nat.min_eq_left h]
  · rw [Nat.min_eq_right (by omega), List.take_of_length_le (Nat.le_refl _), List.take_of_length_le (by omega)]
theorem cutV_from (xs : List V) (j : Nat) : cutV xs (some (j : Int)) none = xs.drop j := by
  unfold cutV
  rw [HT.sIx_none, HT.sIx_nat]
  by_cases h : j ≤ xs.length
  · rw [Nat.min_eq_left h, List.take_of_length_le (by rw [List.length_drop]; exact Nat.le_refl _)]
  · rw [Nat.min_eq_right (by omega), List.drop_length, List.drop_of_length_le (by omega)]
    simp
theorem Nb.keep {H0 H H' : Hp} {p d : Addr} {M : List Ent} (N : Nb H0 H d M) (hp : H0 p ≠ none) (k : Keep p H H') : Nb H0 H' d M := by
  have pd : d ≠ p := fun z => hp (z ▸ N.fresh)
  have away : ∀ g ∈ M, g.2.1 ≠ p := fun g hg z => hp (z ▸ N.freshS g hg)
  exact ⟨⟨⟨.inl (k _ _ pd N.un), fun g hg => k _ _ (away g hg) (N.sides g hg), N.nd, N.few⟩, k _ _ pd N.un⟩, N.fresh, N.freshS, N.inj⟩
theorem Bu.keep {H H' : Hp} {p d : Addr} {M : List Ent} (N : Bu H d M) (s : Strm H p) (k : Keep p H H') (away : ∀ g ∈ M, g.2.1 ≠ p) : Bu H' d M := by
  have pd : d ≠ p := fun z => by
    obtain ⟨x, y, w, e⟩ := s
    have := N.un
    rw [z, e] at this
    cases this
  exact ⟨⟨.inl (k _ _ pd N.un), fun g hg => k _ _ (away g hg) (N.sides g hg), N.nd, N.few⟩, k _ _ pd N.un⟩
theorem with_rest2 {R : Hp → Prop} {G : Prop} (C : Hp → Prop) (r : ∀ H, C H → R H) (g : (∀ H, C H → R H) → G) : G := g r
section
variable {P : Program} {w : World} {K : PySem.W.Frag} {mg : Str → Option Value} {base : Heap}
abbrev sDSide : Stmt := topS 21
abbrev nDSide : List Str := ["_law_stream_here", "_law_name", "_law_other", "_law_pool_here", "_law_way"]
theorem scDSide : FnScope nDSide ["_law_stream_here", "_law_name", "_law_other", "_law_pool_here"] (defScope sDSide) := ⟨rfl, rfl, rfl, by decide +kernel, rfl, by decide +kernel, by decide +kernel⟩
def spDSide : Sp := fun vs H Q _ => ∃ (p o pl : Addr) (n : Str) (O : List Ent) (ns : List Int), vs = [.ref p, .str n, .ref o, .ref pl] ∧ Strm H p ∧ Bu H o O ∧ H pl = some (.lst (ns.map V.int)) ∧ p ≠ pl ∧ (∀ e ∈ O, e.2.1 ≠ p) ∧ Srt ns ∧ ns.length ≤ 100 ∧ Sz O ns.length ∧
  ∀ (H' : Hp) (l : Addr) (ms : List Int), Keep p H H' → H l = none → Strm H' p → H' l = some (.lst (ms.map V.int)) → Srt ms → ms.length ≤ ns.length → Q (.ref l) H'
theorem ok_dside {f fD fP : Addr} {fd fdD fdP : FuncData} (F : Fun K "_law_drawn_side" "_law_drawn_side" sDSide f fd) (B : Bt mg) (D : Call P w K mg base 1 "_law_next" fD fdD ["_law_stream_here", "_law_size"] spDraw)
    (Pa : Call P w K mg base 2 "_law_part" fP fdP ["_law_stream_here", "_law_side"] (spPart K)) :
    FnOk P w K mg base CX0 3 f fd ["_law_stream_here", "_law_name", "_law_other", "_law_pool_here"] spDSide := by
  refine F.ok scDSide (fun vs H Q E h => ?_) (fun cdv A outer s H vs Q E hr h => ?_)
  · obtain ⟨p, o, pl, n, O, ns, rfl, _⟩ := h
    rfl
  · obtain ⟨p, o, pl, n, O, ns, rfl, hp, bo, epl, npl, away, so, hl, sz, q⟩ := h
    have hu := hu_of hr
    have nd := scDSide.nd
    have hr1 : Room 1 (A.deeper (envOfC "_law_drawn_side" (defScope sDSide) s.heap.objs.size f cdv)) := hr.mono (by decide)
    refine ⟨_, pss_cons (ps_set (i := 4) nd rfl (.inl rfl) (pe_call D.ok hr1 (by rfl) D.at_ D.kp D.bd .nil pass0 (pa_cons (pv 0) (pa_cons pe_int pa_nil))))
      (pss_cons (ps_if (pt_cmpR op_eq (pv 4) pe_int rfl) (pss_one (ps_ret (pe_lst pa_nil))) pss_nil)
      (pss_cons (ps_if (pt_cmpR op_eq (pv 4) pe_int rfl) (pss_one (ps_ret (pe_callTy call_list_of (by rfl) B.list PyProof.Rows.boot_list (pa_cons (pv 3) pa_nil)))) pss_nil)
      (pss_cons (ps_if (PW.pt (pw_and (pt_cmpR op_lt (pv 4) pe_int rfl) (pw_and1 (pt_cmp (pc_din hu (pv 1) (pv 2)))))) (pss_one (ps_ret (pe_callTy call_list_of (by rfl) B.list PyProof.Rows.boot_list (pa_cons (pe_dget hu (pv 2) (pv 1) (fun _ _ => rfl)) pa_nil)))) pss_nil)
      (pss_one (ps_ret (pe_call Pa.ok hr (by rfl) Pa.at_ Pa.kp Pa.bd .nil pass0 (pa_cons (pv 0) (pa_cons (pv 3) pa_nil)))))))), ?_⟩
    refine ⟨.ref p, rfl, p, 8, rfl, hp, by decide, by decide, fun H1 d o1 st1 d0 d1 => ?_⟩
    have k1 : Keep p H H1 := (Keep.refl p H).oth o1
    have epl1 : H1 pl = some (.lst (ns.map V.int)) := k1 _ _ npl.symm epl
    have bo1 : Bu H1 o O := bo.keep hp k1 away
    have part : Pa = Pa → ∃ (p' a : Addr) (ns : List Int), [V.ref p, V.ref pl] = [.ref p', .ref a] ∧ Strm H1 p' ∧ H1 a = some (.lst (ns.map V.int)) ∧ p' ≠ a ∧ ns.length ≤ 1000 ∧
      ∀ (H' : Hp) (l : Addr) (ms : List Int), Keep p' H1 H' → H1 l = none → Strm H' p' → H' l = some (.lst (ms.map V.int)) → ms.Sublist ns → Q (.ref l) H' := fun _ =>
      ⟨p, pl, ns, rfl, st1, epl1, npl, by omega, fun H2 l ms k2 nl st2 el sub => q H2 l ms (k1.trans k2) (k1.free st1 nl) st2 el (List.Pairwise.sublist sub so) sub.length_le⟩
    refine ⟨_, rfl, rfl, _, rfl, ite2 (fun c => ?_) (fun c => ?_)⟩
    · refine ⟨by show 0 ≤ sizeLine; decide, fun l nl => q _ l [] (k1.at_ (k1.free st1 nl)) (k1.free st1 nl) (st1.upd fun z => st1.some (z ▸ nl)) upd_same List.Pairwise.nil (Nat.zero_le _)⟩
    refine ⟨_, rfl, rfl, _, rfl, ite2 (fun c => ?_) (fun c => ?_)⟩
    · exact ⟨_, rfl, pl, _, rfl, .inl (sl_map epl1), fun l nl => q _ l ns (k1.at_ (k1.free st1 nl)) (k1.free st1 nl) (st1.upd fun z => st1.some (z ▸ nl)) upd_same so (Nat.le_refl _)⟩
    refine ⟨_, rfl, d, 4, rfl, rfl, _, rfl, ?_⟩
    refine ite2 (fun c => ?_) (fun c => ?_)
    · have gv := bo1.toBx.get n
      refine ⟨_, rfl, _, rfl, o, _, rfl, gv, ?_⟩
      cases c1 : getE O n with
      | none => exact ⟨false, rfl, iteF ⟨_, rfl, _, rfl, part rfl⟩⟩
      | some m =>
        rw [c1] at gv
        obtain ⟨mm, me⟩ := getE_mem c1
        exact ⟨true, rfl, iteT ⟨_, rfl, _, rfl, o, .ref m.2.1, rfl, gv, m.2.1, _, rfl, .inl (sl_map (bo1.sides m mm)), fun l nl => q _ l m.2.2 (k1.at_ (k1.free st1 nl)) (k1.free st1 nl) (st1.upd fun z => st1.some (z ▸ nl)) upd_same (sz.srt m mm) (sz.len m mm)⟩⟩
    · exact ⟨_, rfl, _, rfl, part rfl⟩
abbrev sDSides : Stmt := topS 22
abbrev nDSides : List Str := ["_law_stream_here", "_law_names_here", "_law_pool_here", "_law_other", "_law_rest", "_law_sides", "_law_k", "_law_at"]
theorem scDSides : FnScope nDSides ["_law_stream_here", "_law_names_here", "_law_pool_here", "_law_other"] (defScope sDSides) := ⟨rfl, rfl, rfl, by decide +kernel, rfl, by decide +kernel, by decide +kernel⟩
def spDSides : Sp := fun vs H Q _ => ∃ (p nm o pl : Addr) (xs : List Str) (O : List Ent) (ns : List Int), vs = [.ref p, .ref nm, .ref pl, .ref o] ∧ Strm H p ∧ Bu H o O ∧ H pl = some (.lst (ns.map V.int)) ∧ p ≠ pl ∧ (∀ e ∈ O, e.2.1 ≠ p) ∧ Srt ns ∧ ns.length ≤ 100 ∧ Sz O ns.length ∧
  H nm = some (.lst (xs.map V.str)) ∧ xs.Nodup ∧ xs.length ≤ 30 ∧ p ≠ nm ∧
  ∀ (H' : Hp) (d : Addr) (M : List Ent), Keep p H H' → Nb H H' d M → Strm H' p → Sz M ns.length → (∀ e ∈ M, e.1 ∈ xs) → M.length ≤ xs.length → Q (.ref d) H'
theorem ok_dsides {f fD fS : Addr} {fd fdD fdS : FuncData} (F : Fun K "_law_drawn_sides" "_law_drawn_sides" sDSides f fd) (B : Bt mg) (D : Call P w K mg base 1 "_law_next" fD fdD ["_law_stream_here", "_law_size"] spDraw)
    (S : Call P w K mg base 3 "_law_drawn_side" fS fdS ["_law_stream_here", "_law_name", "_law_other", "_law_pool_here"] spDSide) :
    FnOk P w K mg base CX0 4 f fd ["_law_stream_here", "_law_names_here", "_law_pool_here", "_law_other"] spDSides := by
  refine F.ok scDSides (fun vs H Q E h => ?_) (fun cdv A outer s H vs Q E hr h => ?_)
  · obtain ⟨p, nm, o, pl, xs, O, ns, rfl, _⟩ := h
    rfl
  · obtain ⟨p, nm, o, pl, xs, O, ns, rfl, hp, bo, epl, npl, away, so, hl, sz, enm, xnd, xlen, pnm, q⟩ := h
    have hu := hu_of hr
    have nd := scDSides.nd
    have hr1 : Room 1 (A.deeper (envOfC "_law_drawn_sides" (defScope sDSides) s.heap.objs.size f cdv)) := hr.mono (by decide)
    refine ⟨_, pss_cons (ps_set (i := 4) nd rfl (.inl rfl) (pe_callTy call_list_of (by rfl) B.list PyProof.Rows.boot_list (pa_cons (pv 1) pa_nil)))
      (pss_cons (ps_set (i := 5) nd rfl (.inl rfl) pe_dnewK)
      (pss_cons (ps_for PassesOwn.never rfl (pi_range1 (by rfl) B.range (pa_cons (pe_callB call_len_seq (by rfl) B.len PySem.boot_len (pa_cons (pv 1) pa_nil)) pa_nil)) (pg_name (i := 6) nd rfl (.inl rfl))
        (pss_cons (ps_set (i := 7) nd rfl (.inl rfl) (pe_call D.ok hr1 (by rfl) D.at_ D.kp D.bd .nil pass0 (pa_cons (pv 0) (pa_cons (pe_callB call_len_seq (by rfl) B.len PySem.boot_len (pa_cons (pv 4) pa_nil)) pa_nil))))
        (pss_cons (ps_if (pt_cmpR op_gt (pe_call D.ok hr1 (by rfl) D.at_ D.kp D.bd .nil pass0 (pa_cons (pv 0) (pa_cons pe_int pa_nil))) pe_int rfl)
          (pss_one (ps_dput hu (pv 5) (pe_ix ix_list (pv 4) (pv 7) (fun _ _ => rfl)) (pe_call S.ok hr (by rfl) S.at_ S.kp S.bd .nil pass0 (pa_cons (pv 0) (pa_cons (pe_ix ix_list (pv 4) (pv 7) (fun _ _ => rfl)) (pa_cons (pv 3) (pa_cons (pv 2) pa_nil))))) rfl)) pss_nil)
        (pss_one (ps_set (i := 4) nd rfl (.inl rfl) (pe_op op_cat (pe_slice sl_list (pv 4) po_none (po_some (pv 7))) (pe_slice sl_list (pv 4) (po_some (pe_op op_add (pv 7) pe_int)) po_none)))))))
      (pss_one (ps_ret (pv 5))))), ?_⟩
    refine ⟨.ref nm, rfl, nm, _, rfl, .inl (sl_map enm), fun r nr dd nd0 => ?_⟩
    have npr : p ≠ r := fun z => hp.some (z ▸ nr)
    have ndr : dd ≠ r := fun z => by rw [z, upd_same] at nd0; cases nd0
    have nd1 : H dd = none := by rw [upd_ne ndr] at nd0; exact nd0
    have npd : p ≠ dd := fun z => hp.some (z ▸ nd1)
    have k0 : Keep p H (upd (upd H r (.lst (xs.map V.str))) dd (.dK [])) := ((Keep.refl p H).at_ nr).at_ nd1
    have hpn : H p ≠ none := hp.some
    refine ⟨.ref nm, rfl, nm, _, rfl, .inl (sl_map (k0 _ _ pnm.symm enm)), _, rfl, ?_, ?_, for_range (lo := 0) (n := ((xs.map V.str).length : Int).toNat) (fun i σ H' => ∃ (r' : Addr) (ys : List Str) (M : List Ent) (y6 y7 : Option V), σ = [some (.ref p), some (.ref nm), some (.ref pl), some (.ref o), some (.ref r'), some (.ref dd), y6, y7] ∧ Keep p H H' ∧ Strm H' p ∧ H' r' = some (.lst (ys.map V.str)) ∧ H r' = none ∧ ys.Nodup ∧ ys.length + i = xs.length ∧ (∀ y ∈ ys, y ∈ xs) ∧ Nb H H' dd M ∧ (∀ e ∈ M, e.1 ∈ xs ∧ e.1 ∉ ys) ∧ Sz M ns.length ∧ M.length ≤ i)
      ⟨r, xs, [], none, none, rfl, k0, (hp.upd npr).upd npd, by rw [upd_ne ndr.symm, upd_same], nr, xnd, rfl, fun y h => h, Nb.nil nd1 upd_same, (fun _ he => nomatch he), ⟨(fun _ he => nomatch he), (fun _ he => nomatch he)⟩, Nat.zero_le _⟩ ?_ ?_⟩
    · rw [List.length_map]; omega
    · rw [List.length_map]; omega
    · rintro i σ H' hi ⟨r', ys, M, y6, y7, rfl, kp, st, er, nr', ynd, ylen, ysub, nb, mk, szM, lM⟩
      rw [List.length_map] at hi
      have hi' : i < xs.length := by omega
      have npr' : p ≠ r' := fun z => hp.some (z ▸ nr')
      refine ⟨.ref p, rfl, .ref r', rfl, r', _, rfl, .inl (sl_map er), p, _, rfl, st, ?_, ?_, fun H2 a o2 st2 a0 a1 => ?_⟩
      · rw [List.length_map]; omega
      · rw [List.length_map]; omega
      rw [List.length_map] at a1
      obtain ⟨j, rfl⟩ : ∃ j : Nat, a = (j : Int) := ⟨a.toNat, by omega⟩
      have hj : j < ys.length := by omega
      have gj : (ys.map V.str)[j]? = some (.str ys[j]) := by rw [List.getElem?_map, List.getElem?_eq_getElem hj]; rfl
      have k2 := kp.oth o2
      have er2 : H2 r' = some (.lst (ys.map V.str)) := (o2 r' npr'.symm).trans er
      have nb2 := nb.keep hpn (Keep.oth (Keep.refl p H') o2)
      have era : ∀ y, y ∈ ys.eraseIdx j → y ∈ ys := fun y h => (List.eraseIdx_sublist ys j).subset h
      refine' with_rest2 (fun H4 => ∃ M4, Keep p H H4 ∧ Strm H4 p ∧ H4 r' = some (.lst (ys.map V.str)) ∧ Nb H H4 dd M4 ∧ (∀ e ∈ M4, e.1 ∈ xs ∧ e.1 ∉ ys.eraseIdx j) ∧ Sz M4 ns.length ∧ M4.length ≤ i + 1) ?r (fun rest => ⟨.ref p, rfl, p, 5, rfl, st2, by decide, by decide, fun H3 b o3 st3 b0 b1 => ⟨b, 0, rfl, rfl, _, rfl, ite2 (fun c => ?g) (fun c => rest H3 ?h)⟩⟩)
      case r =>
        rintro H4 ⟨M4, k4, st4, er4, nb4, mk4, sz4, l4⟩
        refine ⟨.ref r', rfl, _, rfl, _, rfl, r', _, rfl, sl_map er4, fun s1 ns1 => ?_⟩
        have t1 := same_new (o := HO.lst (cutV (ys.map V.str) none (some (j : Int)))) ns1
        refine ⟨.ref r', rfl, _, rfl, (j : Int), 1, rfl, rfl, _, rfl, r', _, rfl, sl_map (t1 _ _ er4), fun s2 ns2 => ?_⟩
        have n12 : s1 ≠ s2 := fun z => by rw [← z, upd_same] at ns2; cases ns2
        have c1 : cutV (ys.map V.str) none (some (j : Int)) = (ys.take j).map V.str := by rw [cutV_to, List.map_take]
        have c2 : cutV (ys.map V.str) (some ((j : Int) + 1)) none = (ys.drop (j + 1)).map V.str := by rw [show (j : Int) + 1 = ((j + 1 : Nat) : Int) by omega, cutV_from, List.map_drop]
        have t2 := t1.trans (same_new (o := HO.lst (cutV (ys.map V.str) (some ((j : Int) + 1)) none)) ns2)
        refine ⟨s1, s2, _, _, rfl, rfl, by rw [upd_ne n12]; exact upd_same, upd_same, ?_, fun r2 nr2 => ?_⟩
        · have a := cutV_length (ys.map V.str) none (some (j : Int))
          have b := cutV_length (ys.map V.str) (some ((j : Int) + 1)) none
          rw [List.length_map] at a b
          exact Nat.le_of_lt (small1000 (by show _ + (cutV (ys.map V.str) (some ((j : Int) + 1)) none).length ≤ 1000; omega))
        · have t3 := t2.trans (same_new (o := HO.lst (cutV (ys.map V.str) none (some (j : Int)) ++ cutV (ys.map V.str) (some ((j : Int) + 1)) none)) nr2)
          have st5 : Strm _ p := st4.keep (Keep.same (p := r2) t3) (fun z => by
            have := t2.free nr2
            exact st4.some (z ▸ this))
          have k5 : Keep p H _ := k4.trans (Keep.same t3)
          refine ⟨r2, ys.eraseIdx j, M4, _, _, rfl, k5, st5, ?_, k4.free st4 (t2.free nr2), List.Pairwise.sublist (List.eraseIdx_sublist ys j) ynd, ?_, fun y h => ysub y (era y h), nb4.push t3, mk4, sz4, l4⟩
          · have e5 : (ys.eraseIdx j).map V.str = cutV (ys.map V.str) none (some (j : Int)) ++ cutV (ys.map V.str) (some ((j : Int) + 1)) none := by
              rw [c1, c2, ← List.map_append, List.eraseIdx_eq_take_drop_succ]
            rw [e5]
            exact upd_same
          · rw [List.length_eraseIdx_of_lt hj]
            omega
      case h =>
        exact ⟨M, k2.oth o3, st3, (o3 r' npr'.symm).trans er2, nb2.keep hpn (Keep.oth (Keep.refl p H2) o3), fun e he => ⟨(mk e he).1, fun z => (mk e he).2 (era _ z)⟩, szM, by omega⟩
      case g =>
        have k3 := k2.oth o3
        have er3 := (o3 r' npr'.symm).trans er2
        have nb3 := nb2.keep hpn (Keep.oth (Keep.refl p H2) o3)
        have few := lM
        refine ⟨.ref p, rfl, .ref r', rfl, .int j, rfl, r', _, j, .str ys[j], rfl, rfl, sl_map er3, at_of (j := j) rfl gj, .ref o, rfl, .ref pl, rfl, p, o, pl, ys[j], O, ns, rfl, st3, bo.keep hp k3 away, k3 _ _ npl.symm epl, npl, away, so, hl, sz, fun H4 l ms k4 nl st4 el so4 len4 => ?_⟩
        have er4 := k4 _ _ npr'.symm er3
        have nb4 := nb3.keep hpn k4
        refine ⟨.ref dd, rfl, .ref r', rfl, .int j, rfl, r', _, j, .str ys[j], rfl, rfl, sl_map er4, at_of (j := j) rfl gj, dd, _, rfl, DPut.k (k := .inr ys[j]) nb4.un ?_, ?_⟩
        · rw [entK_len]
          exact small1000 (by omega)
        · have yj : ys[j] ∈ ys := List.getElem_mem hj
          have nx : ys[j] ∉ M.map (·.1) := fun z => by
            obtain ⟨g, hg, eg⟩ := List.mem_map.mp z
            have eg' : g.1 = ys[j] := eg
            exact (mk g hg).2 (eg' ▸ yj)
          have nlM : l ∉ M.map (·.2.1) := fun z => by
            obtain ⟨g, hg, eg⟩ := List.mem_map.mp z
            have eg' : g.2.1 = l := eg
            have := nb3.sides g hg
            rw [eg', nl] at this
            cases this
          have l0 : H l = none := k3.free st3 nl
          have na := nb4.alias (x := ys[j]) l0 el nx nlM (by omega)
          rw [putK_ent (s := ms), putE_new nx]
          have ddr : r' ≠ dd := fun z => by have := nb4.un; rw [← z, er4] at this; cases this
          refine rest _ ⟨M ++ [(ys[j], l, ms)], (k3.trans k4).at_ nd1, st4.upd npd, by rw [upd_ne ddr]; exact er4, na, fun e he => ?_, ⟨fun e he => ?_, fun e he => ?_⟩, ?_⟩
          · rcases List.mem_append.mp he with z | z
            · exact ⟨(mk e z).1, fun q => (mk e z).2 (era _ q)⟩
            · rw [List.mem_singleton.mp z]
              refine ⟨ysub _ yj, fun q => ?_⟩
              obtain ⟨i2, h2, ne, e2⟩ := List.mem_eraseIdx_iff_getElem.mp q
              exact ne (nd_ix ynd (by rw [List.getElem?_eq_getElem h2, e2]) (List.getElem?_eq_getElem hj))
          · rcases List.mem_append.mp he with z | z
            · exact szM.srt e z
            · rw [List.mem_singleton.mp z]; exact so4
          · rcases List.mem_append.mp he with z | z
            · exact szM.len e z
            · rw [List.mem_singleton.mp z]; exact len4
          · rw [List.length_append]
            show M.length + 1 ≤ i + 1
            omega
    · rintro σ H' ⟨r', ys, M, y6, y7, rfl, kp, st, er, nr', ynd, ylen, ysub, nb, mk, szM, lM⟩
      rw [List.length_map] at lM
      exact ⟨_, rfl, q H' dd M kp nb st szM (fun e he => (mk e he).1) (by omega)⟩
end
end K4

set_option Elab.async false
set_option linter.all false
set_option maxRecDepth 100000
set_option maxHeartbeats 4000000
namespace K4
open PySem PySem.Spec PyProof.Rows L2 Cs
theorem small10k {n : Nat} (h : n ≤ 10000) : n < sizeLine := Nat.lt_of_le_of_lt h (by decide)
abbrev Asg := List (Str × Int)
structure As (H : Hp) (ds : List (Addr × Asg)) (ks : List Str) : Prop where
  at_ : ∀ p ∈ ds, H p.1 = some (.dK (intK p.2))
  keys : ∀ p ∈ ds, p.2.map (·.1) = ks
theorem As.mono {H H' : Hp} {ds : List (Addr × Asg)} {ks : List Str} (A : As H ds ks) (h : ∀ b kvs, H b = some (.dK kvs) → H' b = some (.dK kvs)) : As H' ds ks := ⟨fun p hp => h _ _ (A.at_ p hp), A.keys⟩
theorem putK_int (A : Asg) (x : Str) (v : Int) (h : x ∉ A.map (·.1)) : putK (intK A) (.inr x) (V.int v) = intK (A ++ [(x, v)]) := by
  have : ¬ ((intK A).any fun kv => decide (kv.1 = Sum.inr x)) = true := by
    intro z
    obtain ⟨kv, hk, e⟩ := List.any_eq_true.mp z
    unfold intK at hk
    obtain ⟨q, hq, rfl⟩ := List.mem_map.mp hk
    have : (Sum.inr q.1 : Key) = Sum.inr x := of_decide_eq_true e
    exact h (Sum.inr.inj this ▸ List.mem_map_of_mem hq)
  unfold putK
  rw [if_neg this]
  unfold intK
  rw [List.map_append]
  rfl
section
variable {P : Program} {w : World} {K : PySem.W.Frag} {mg : Str → Option Value} {base : Heap}
abbrev sAssign : Stmt := topS 18
abbrev nAssign : List Str := ["_law_names_here", "_law_sides", "_law_found", "_law_name", "_law_grown", "_law_values", "_law_value", "_law_more"]
theorem scAssign : FnScope nAssign ["_law_names_here", "_law_sides"] (defScope sAssign) := ⟨rfl, rfl, rfl, by decide +kernel, rfl, by decide +kernel, by decide +kernel⟩
def spAssign : Sp := fun vs H Q _ => ∃ (nm sd : Addr) (xs : List Str) (W : List Ent), vs = [.ref nm, .ref sd] ∧ H nm = some (.lst (xs.map V.str)) ∧ Bu H sd W ∧ xs.Nodup ∧ xs.length ≤ 5 ∧ (∀ x ∈ xs, ∃ s, look W x = some s ∧ s.length ≤ 5) ∧
  ∀ (H' : Hp) (l : Addr) (ds : List (Addr × Asg)), Same H H' → H' l = some (.lst (ds.map fun p => V.ref p.1)) → As H' ds xs → ds.length ≤ 10000 → Q (.ref l) H'
theorem ok_assign {f : Addr} {fd : FuncData} {k : Nat} (F : Fun K "_law_assignments" "_law_assignments" sAssign f fd) (B : Bt mg) : FnOk P w K mg base CX0 (k + 1) f fd ["_law_names_here", "_law_sides"] spAssign := by
  refine F.ok scAssign (fun vs H Q E h => ?_) (fun cdv A outer s H vs Q E hr h => ?_)
  · obtain ⟨nm, sd, xs, W, rfl, _⟩ := h
    rfl
  · obtain ⟨nm, sd, xs, W, rfl, enm, bw, xnd, xl, cov, q⟩ := h
    have hu := hu_of hr
    have nd := scAssign.nd
    refine ⟨_, pss_cons (ps_set (i := 2) nd rfl (.inl rfl) (pe_lst (pa_cons pe_dnewK pa_nil)))
      (pss_cons (ps_for PassesOwn.never rfl (pi_list (pv 0)) (pg_name (i := 3) nd rfl (.inl rfl))
        (pss_cons (ps_set (i := 4) nd rfl (.inl rfl) (pe_lst pa_nil))
        (pss_cons (ps_for PassesOwn.never rfl (pi_list (pe_callTy call_list_of (by rfl) B.list PyProof.Rows.boot_list (pa_cons (pv 2) pa_nil))) (pg_name (i := 5) nd rfl (.inl rfl))
          (pss_one (ps_for PassesOwn.never rfl (pi_list (pe_dget hu (pv 1) (pv 3) (fun _ _ => rfl))) (pg_name (i := 6) nd rfl (.inl rfl))
            (pss_cons (ps_set (i := 7) nd rfl (.inl rfl) (pe_callTy call_dictD (by rfl) B.dict PyProof.Rows.boot_dict (pa_cons (pv 5) pa_nil)))
            (pss_cons (ps_dput hu (pv 7) (pv 3) (pv 6) rfl)
            (pss_one (ps_expr (pe_bm PySem.F.plainAttrs_list PySem.F.slot_list_append PySem.F.type_list_append mt_append (pv 4) (pa_cons (pv 7) pa_nil)))))))))
        (pss_one (ps_set (i := 2) nd rfl (.inl rfl) (pv 4))))))
      (pss_one (ps_ret (pv 2)))), ?_⟩
    intro d0 n0
    refine ⟨by show 1 ≤ sizeLine; decide, fun f0 nf0 => ?_⟩
    have t1 := same_new (o := HO.dK []) n0
    have t2 := t1.trans (same_new (o := HO.lst [V.ref d0]) nf0)
    have n12 : d0 ≠ f0 := fun z => by rw [← z, upd_same] at nf0; cases nf0
    refine ⟨.ref nm, rfl, nm, rfl, ⟨_, sl_map (t2 _ _ enm)⟩, for_list (xs := xs.map V.str) (fun i σ H' => ∃ (f : Addr) (ds : List (Addr × Asg)) (y3 y4 y5 y6 y7 : Option V), σ = [some (.ref nm), some (.ref sd), some (.ref f), y3, y4, y5, y6, y7] ∧ Same H H' ∧ H' f = some (.lst (ds.map fun p => V.ref p.1)) ∧ As H' ds (xs.take i) ∧ ds.length ≤ 5 ^ i)
      ⟨f0, [(d0, [])], none, none, none, none, none, rfl, t2, upd_same, ⟨fun p hp => ?_, fun p hp => ?_⟩, Nat.le_refl _⟩ (fun i σ H' _ h => by obtain ⟨f, ds, y3, y4, y5, y6, y7, _, s, _⟩ := h; exact sl_map (s _ _ enm)) ?_ ?_⟩
    · rw [List.mem_singleton.mp hp, upd_ne n12]; exact upd_same
    · rw [List.mem_singleton.mp hp]; rfl
    · rintro i x σ H' hx ⟨f, ds, y3, y4, y5, y6, y7, rfl, sm, ef, as, len⟩
      rw [List.getElem?_map] at hx
      obtain ⟨x, hv, rfl⟩ := Option.map_eq_some_iff.mp hx
      have xm := List.mem_of_getElem? hv
      have hi := (List.getElem?_eq_some_iff.mp hv).1
      obtain ⟨sv, lk, sl⟩ := cov x xm
      obtain ⟨e, em, e1, e2⟩ := look_of lk
      subst e1 e2
      have p5 : 5 ^ i ≤ 625 := Nat.pow_le_pow_right (n := 5) (j := 4) (by decide) (by omega)
      have xnew : e.1 ∉ xs.take i := fun z => by
        obtain ⟨j, hj⟩ := List.mem_iff_getElem?.mp z
        rw [List.getElem?_take] at hj
        split at hj
        · have := nd_ix xnd hj hv
          omega
        · cases hj
      refine ⟨by show 0 ≤ sizeLine; decide, fun g ng => ?_⟩
      have ng0 : H g = none := sm.free ng
      have sg := same_new (o := HO.lst ([] : List V)) ng
      refine ⟨.ref f, rfl, f, _, rfl, .inl (sl_map (sg _ _ ef)), fun c nc => ?_⟩
      have ncg : c ≠ g := fun z => by rw [z, upd_same] at nc; cases nc
      have sc := sg.trans (same_new (o := HO.lst (ds.map fun p => V.ref p.1)) nc)
      refine ⟨c, rfl, ⟨_, sl_map upd_same⟩, for_list (xs := ds.map fun p => V.ref p.1) (fun j σ H2 => ∃ (gs : List (Addr × Asg)) (y5 y6 y7 : Option V), σ = [some (.ref nm), some (.ref sd), some (.ref f), some (.str e.1), some (.ref g), y5, y6, y7] ∧ Same H H2 ∧ H2 c = some (.lst (ds.map fun p => V.ref p.1)) ∧ As H2 ds (xs.take i) ∧ H2 g = some (.lst (gs.map fun p => V.ref p.1)) ∧ As H2 gs (xs.take (i + 1)) ∧ gs.length ≤ j * 5)
        ⟨[], y5, y6, y7, rfl, sm.trans sc, upd_same, as.mono fun b kvs h => sc _ _ h, by rw [upd_ne ncg.symm]; exact upd_same, ⟨(fun _ h => nomatch h), (fun _ h => nomatch h)⟩, Nat.zero_le _⟩ (fun j σ H2 _ h => by obtain ⟨gs, y5, y6, y7, _, _, h, _⟩ := h; exact sl_map h) ?_ ?_⟩
      · rintro j x σ H2 hx2 ⟨gs, y5, y6, y7, rfl, sm2, ec, as2, eg, ag, lg⟩
        rw [List.getElem?_map] at hx2
        obtain ⟨⟨a, A0⟩, hv2, rfl⟩ := Option.map_eq_some_iff.mp hx2
        have am := List.mem_of_getElem? hv2
        have hj := (List.getElem?_eq_some_iff.mp hv2).1
        have b2 := bw.same' sm2
        have gv := b2.toBx.get e.1
        rw [getE_of bw.nd em] at gv
        refine ⟨.ref sd, rfl, .str e.1, rfl, sd, .ref e.2.1, rfl, gv, e.2.1, rfl, ⟨_, sl_map (b2.sides e em)⟩, for_list (xs := e.2.2.map V.int) (fun t σ H3 => ∃ (gs : List (Addr × Asg)) (y6 y7 : Option V), σ = [some (.ref nm), some (.ref sd), some (.ref f), some (.str e.1), some (.ref g), some (.ref a), y6, y7] ∧ Same H H3 ∧ H3 c = some (.lst (ds.map fun p => V.ref p.1)) ∧ As H3 ds (xs.take i) ∧ H3 g = some (.lst (gs.map fun p => V.ref p.1)) ∧ As H3 gs (xs.take (i + 1)) ∧ gs.length ≤ j * 5 + t)
          ⟨gs, y6, y7, rfl, sm2, ec, as2, eg, ag, lg⟩ (fun t σ H3 _ h => by obtain ⟨gs, y6, y7, _, s, _⟩ := h; exact sl_map ((bw.same' s).sides e em)) ?_ ?_⟩
        · rintro t x σ H3 hx3 ⟨gs, y6, y7, rfl, sm3, ec, as3, eg, ag, lg⟩
          rw [List.getElem?_map] at hx3
          obtain ⟨v, hv3, rfl⟩ := Option.map_eq_some_iff.mp hx3
          have ht := (List.getElem?_eq_some_iff.mp hv3).1
          have ea : H3 a = some (.dK (intK A0)) := as3.at_ _ am
          have ka : A0.map (·.1) = xs.take i := as3.keys _ am
          refine ⟨.ref a, rfl, a, _, rfl, .inl ea, fun D nD => ?_⟩
          have nDg : g ≠ D := fun z => by rw [← z, eg] at nD; cases nD
          have nDc : c ≠ D := fun z => by rw [← z, ec] at nD; cases nD
          have sD := same_new (o := HO.dK (intK A0)) nD
          have lA : (intK A0).length ≤ 5 := by
            have h1 := congrArg List.length ka
            rw [List.length_map, List.length_take] at h1
            unfold intK
            rw [List.length_map]
            omega
          refine ⟨.int v, rfl, .ref D, rfl, .str e.1, rfl, D, _, rfl, DPut.k (k := .inr e.1) upd_same (small1000 (by omega)), ?_⟩
          have x0 : e.1 ∉ A0.map (·.1) := by rw [ka]; exact xnew
          rw [putK_int A0 e.1 v x0]
          have sD2 : Same H3 (upd (upd H3 D (.dK (intK A0))) D (.dK (intK (A0 ++ [(e.1, v)])))) := same_at sD nD
          have eg2 := sD2 _ _ eg
          refine ⟨.ref g, rfl, .inl ⟨rfl, _, sl_map eg2⟩, .ref D, rfl, g, _, _, rfl, rfl, eg2, ?_, ?_⟩
          · rw [List.length_map]
            exact small10k (by omega)
          · have mono : ∀ b kvs, H3 b = some (.dK kvs) → (upd (upd (upd H3 D (.dK (intK A0))) D (.dK (intK (A0 ++ [(e.1, v)])))) g (.lst ((gs.map fun p => V.ref p.1) ++ [V.ref D]))) b = some (.dK kvs) := fun b kvs h => by
              have h1 : b ≠ g := fun z => by rw [z, eg] at h; cases h
              rw [upd_ne h1]
              exact sD2 _ _ h
            refine ⟨gs ++ [(D, A0 ++ [(e.1, v)])], _, _, rfl, same_at (sm3.trans sD2) ng0, ?_, as3.mono mono, ?_, ⟨fun p hp => ?_, fun p hp => ?_⟩, ?_⟩
            · rw [upd_ne ncg]
              exact sD2 _ _ ec
            · rw [upd_same, List.map_append]
              rfl
            · rcases List.mem_append.mp hp with z | z
              · exact mono _ _ (ag.at_ p z)
              · rw [List.mem_singleton.mp z, upd_ne nDg.symm]
                exact upd_same
            · rcases List.mem_append.mp hp with z | z
              · exact ag.keys p z
              · rw [List.mem_singleton.mp z, List.map_append, ka, List.take_add_one, hv]
                rfl
            · rw [List.length_append]
              show gs.length + 1 ≤ j * 5 + (t + 1)
              omega
        · rintro σ H3 ⟨gs, y6, y7, rfl, sm3, ec, as3, eg, ag, lg⟩
          rw [List.length_map] at lg
          exact ⟨gs, _, _, _, rfl, sm3, ec, as3, eg, ag, by omega⟩
      · rintro σ H2 ⟨gs, y5, y6, y7, rfl, sm2, ec, as2, eg, ag, lg⟩
        rw [List.length_map] at lg
        refine ⟨_, rfl, g, gs, _, _, _, _, _, rfl, sm2, eg, ag, ?_⟩
        rw [Nat.pow_succ]
        omega
    · rintro σ H' ⟨f, ds, y3, y4, y5, y6, y7, rfl, sm, ef, as, len⟩
      rw [List.length_map] at as len
      rw [List.take_length] at as
      have p5 : 5 ^ xs.length ≤ 3125 := Nat.pow_le_pow_right (n := 5) (j := 5) (by decide) xl
      exact ⟨_, rfl, q H' f ds sm ef as (by omega)⟩
end
end K4

set_option Elab.async false
set_option linter.all false
set_option maxRecDepth 100000
set_option maxHeartbeats 4000000
namespace K4
open PySem PySem.Spec PyProof.Rows L2 Cs
theorem with_rest {R G : Prop} (r : R) (g : R → G) : G := g r
theorem aget_cons_pos {e : Str × Int} {A : Asg} {x : Str} (h : e.1 = x) : aget (e :: A) x = some e.2 := by simp [aget, List.find?_cons, h]
theorem aget_cons_neg {e : Str × Int} {A : Asg} {x : Str} (h : ¬ e.1 = x) : aget (e :: A) x = aget A x := by simp [aget, List.find?_cons, h]
theorem aget_some : ∀ {A : Asg} {x : Str}, x ∈ A.map (·.1) → ∃ z, aget A x = some z
  | e :: A, x, h => by
    by_cases c : e.1 = x
    · exact ⟨_, aget_cons_pos c⟩
    · rw [aget_cons_neg c]
      rw [List.map_cons] at h
      exact aget_some ((List.mem_cons.mp h).elim (fun z => absurd z.symm c) id)
theorem aget_mem : ∀ {A : Asg} {e : Str × Int}, (A.map (·.1)).Nodup → e ∈ A → aget A e.1 = some e.2
  | a :: A, e, nd, h => by
    rw [List.map_cons, List.nodup_cons] at nd
    rcases List.mem_cons.mp h with z | z
    · rw [z]; exact aget_cons_pos rfl
    · have ne : ¬ a.1 = e.1 := fun q => nd.1 (q ▸ List.mem_map_of_mem z)
      rw [aget_cons_neg ne]
      exact aget_mem nd.2 z
theorem eq_int (A : Asg) (nd : (A.map (·.1)).Nodup) : ∀ p ∈ intK A, valV (intK A) p.1 = some p.2 ∧ flatB p.2 = true := fun p hp => by
  obtain ⟨q, hq, rfl⟩ := List.mem_map.mp hp
  refine ⟨?_, rfl⟩
  show valV (intK A) (Sum.inr q.1) = some (V.int q.2)
  rw [valV_int, aget_mem nd hq]
  rfl
theorem Bu.aput {H : Hp} {d l : Addr} {M : List Ent} {x : Str} {s : List Int} (B : Bu H d M) (el : H l = some (.lst (s.map V.int))) (few : M.length + 1 ≤ 40) : Bu (upd H d (.dK (entK (putE M x l s)))) d (putE M x l s) := by
  have ld : ∀ {c : Addr} {ys : List V}, H c = some (.lst ys) → c ≠ d := fun h z => by rw [z, B.un] at h; cases h
  refine ⟨⟨.inl upd_same, fun e he => ?_, putE_nd B.nd, by have := putE_len M x l s; omega⟩, upd_same⟩
  rcases putE_mem he with z | ⟨z, _⟩
  · rw [z, upd_ne (ld el)]
    exact el
  · have h1 := B.sides e z
    rw [upd_ne (ld h1)]
    exact h1
theorem ent_int {L : List Ent} {A : Asg} (h : entK L = intK A) : A = [] := by
  cases A with
  | nil => rfl
  | cons a A =>
    cases L with
    | nil => cases h
    | cons e L =>
      unfold entK intK at h
      rw [List.map_cons, List.map_cons] at h
      have := congrArg Prod.snd (List.cons.inj h).1
      cases this
section
variable {P : Program} {w : World} {K : PySem.W.Frag} {mg : Str → Option Value} {base : Heap}
abbrev sHeld : Stmt := topS 32
abbrev nHeld : List Str := ["_law_every", "_law_names_here", "_law_pool_here", "_law_whole", "_law_name", "_law_values", "_law_told", "_law_asked", "_law_sides"]
theorem scHeld : FnScope nHeld ["_law_every", "_law_names_here", "_law_pool_here"] (defScope sHeld) := ⟨rfl, rfl, rfl, by decide +kernel, rfl, by decide +kernel, by decide +kernel⟩
def spHeld : Sp := fun vs H Q _ => ∃ (v nm pl d0 d1 d2 d3 : Addr) (L0 L1 L2' L3 : List Ent) (xs : List Str) (ns : List Int), vs = [.ref v, .ref nm, .ref pl] ∧ Bxs H v [(d0, L0), (d1, L1), (d2, L2'), (d3, L3)] ∧ H nm = some (.lst (xs.map V.str)) ∧ xs.Nodup ∧ 1 ≤ xs.length ∧ xs.length ≤ 5 ∧
  H pl = some (.lst (ns.map V.int)) ∧ ns.length ≤ 5 ∧ (∀ p ∈ [(d0, L0), (d1, L1), (d2, L2'), (d3, L3)], ∀ e ∈ p.2, e.1 ∈ xs) ∧
  (∀ A : Asg, A.map (·.1) = xs → holdsE L2' A = (holdsE L0 A && holdsE L1 A) ∧ (holdsE L3 A = true → holdsE L0 A = true ∨ holdsE L1 A = true)) ∧
  ∀ H', Same H H' → Q (.bl true) H'
theorem ok_held {f fA fH fJ fI : Addr} {fd fdA fdH fdJ fdI : FuncData} (F : Fun K "_law_all_held" "_law_all_held" sHeld f fd) (B : Bt mg) (As' : Call P w K mg base 1 "_law_assignments" fA fdA ["_law_names_here", "_law_sides"] spAssign)
    (Ho : Call P w K mg base 1 "holds" fH fdH ["box", "values"] spHolds) (LH : Call P w K mg base 1 "_law_holds" fJ fdJ ["_law_sides", "_law_values"] spHolds) (I : Call P w K mg base 1 "_law_is" fI fdI ["_law_told", "_law_expected"] spLIs) :
    FnOk P w K mg base CX0 2 f fd ["_law_every", "_law_names_here", "_law_pool_here"] spHeld := by
  refine F.ok scHeld (fun vs H Q E h => ?_) (fun cdv A outer s H vs Q E hr h => ?_)
  · obtain ⟨v, nm, pl, d0, d1, d2, d3, L0, L1, L2', L3, xs, ns, rfl, _⟩ := h
    rfl
  · obtain ⟨v, nm, pl, d0, d1, d2, d3, L0, L1, L2', L3, xs, ns, rfl, bs, enm, xnd, x1, x5, epl, n5, keys, sem, q⟩ := h
    have hu := hu_of hr
    have nd := scHeld.nd
    have hu0 : (A.deeper (envOfC "_law_all_held" (defScope sHeld) s.heap.objs.size f cdv)).units < cLine := by have := hr.un; omega
    refine ⟨_, pss_cons (ps_set (i := 3) nd rfl (.inl rfl) pe_dnewK)
      (pss_cons (ps_for PassesOwn.never rfl (pi_list (pv 1)) (pg_name (i := 4) nd rfl (.inl rfl))
        (pss_one (ps_dput hu (pv 3) (pv 4) (pv 2) rfl)))
      (pss_cons (ps_dput hu (pv 3) (pe_ix ix_list (pv 1) pe_int (fun _ _ => rfl)) (pe_slice sl_list (pv 2) po_none (po_some pe_int)) rfl)
      (pss_cons (ps_for PassesOwn.never rfl (pi_list (pe_call As'.ok hr (by rfl) As'.at_ As'.kp As'.bd .nil pass0 (pa_cons (pv 1) (pa_cons (pv 3) pa_nil)))) (pg_name (i := 5) nd rfl (.inl rfl))
        (pss_cons (ps_set (i := 6) nd rfl (.inl rfl) (pe_lst pa_nil))
        (pss_cons (ps_set (i := 7) nd rfl (.inl rfl) (pe_callTy call_dictD (by rfl) B.dict PyProof.Rows.boot_dict (pa_cons (pv 5) pa_nil)))
        (pss_cons (ps_for PassesOwn.never rfl (pi_list (pv 0)) (pg_name (i := 8) nd rfl (.inl rfl))
          (pss_cons (ps_expr (pe_bm PySem.F.plainAttrs_list PySem.F.slot_list_append PySem.F.type_list_append mt_append (pv 6) (pa_cons (pe_call Ho.ok hr (by rfl) Ho.at_ Ho.kp Ho.bd .nil pass0 (pa_cons (pv 8) (pa_cons (pv 7) pa_nil))) pa_nil)))
          (pss_one (ps_if (pt_not (pt_val (pe_call I.ok hr (by rfl) I.at_ I.kp I.bd .nil pass0 (pa_cons (pe_ix ix_list (pv 6) (pe_un un_neg pe_int) (fun _ _ => rfl)) (pa_cons (pe_call LH.ok hr (by rfl) LH.at_ LH.kp LH.bd .nil pass0 (pa_cons (pv 8) (pa_cons (pv 5) pa_nil))) pa_nil))))) (pss_one (ps_ret pe_bl)) pss_nil))))
        (pss_cons (ps_if (PW.pt (pw_and (pt_val (pe_ix ix_list (pv 6) pe_int (fun _ _ => rfl))) (pw_and (pt_not (pt_val (pe_ix ix_list (pv 6) pe_int (fun _ _ => rfl)))) (pw_and1 (pt_not (pt_val (pe_ix ix_list (pv 6) pe_int (fun _ _ => rfl)))))))) (pss_one (ps_ret pe_bl)) pss_nil)
        (pss_one (ps_if (PW.pt (pw_or (pt_cmpR op_ne (pe_ix ix_list (pv 6) pe_int (fun _ _ => rfl)) (pe_and (pe_ix ix_list (pv 6) pe_int (fun _ _ => rfl)) (pe_one (pe_ix ix_list (pv 6) pe_int (fun _ _ => rfl)))) rfl)
            (pw_or1 (pt_cmpR (op_ne_dictA hu0) (pv 7) (pv 5) rfl)))) (pss_one (ps_ret pe_bl)) pss_nil)))))))
      (pss_one (ps_ret pe_bl))))), ?_⟩
    intro wd nw
    have t1 := same_new (o := HO.dK []) nw
    refine ⟨.ref nm, rfl, nm, rfl, ⟨_, sl_map (t1 _ _ enm)⟩, for_list (xs := xs.map V.str) (fun i σ H' => ∃ (W : List Ent) (y4 : Option V), σ = [some (.ref v), some (.ref nm), some (.ref pl), some (.ref wd), y4, none, none, none, none] ∧ Same H H' ∧ Bu H' wd W ∧ W.length ≤ i ∧ ∀ x ∈ xs.take i, look W x = some ns)
      ⟨[], none, rfl, t1, ⟨⟨.inl upd_same, (fun _ h => nomatch h), .nil, Nat.zero_le _⟩, upd_same⟩, Nat.zero_le _, fun x h => by rw [List.take_zero] at h; cases h⟩ (fun i σ H' _ h => by obtain ⟨W, y4, _, s, _⟩ := h; exact sl_map (s _ _ enm)) ?_ ?_⟩
    · rintro i x σ H' hx ⟨W, y4, rfl, sm, bw, lW, lk⟩
      rw [List.getElem?_map] at hx
      obtain ⟨x, hv, rfl⟩ := Option.map_eq_some_iff.mp hx
      have hi := (List.getElem?_eq_some_iff.mp hv).1
      refine ⟨.ref pl, rfl, .ref wd, rfl, .str x, rfl, wd, _, rfl, DPut.k (k := .inr x) bw.un (by rw [entK_len]; exact small1000 (by omega)), ?_⟩
      rw [putK_ent (s := ns)]
      have := putE_len W x pl ns
      refine ⟨_, _, rfl, same_at sm nw, bw.aput (sm _ _ epl) (by omega), by omega, fun y hy => ?_⟩
      rw [look_put]
      by_cases c : y = x
      · rw [if_pos c]
      · rw [if_neg c]
        rw [List.take_add_one, hv] at hy
        rcases List.mem_append.mp hy with z | z
        · exact lk y z
        · exact absurd (List.mem_singleton.mp z) c
    · rintro σ H1 ⟨W, y4, rfl, sm, bw, lW, lk⟩
      rw [List.length_map] at lk lW
      rw [List.take_length] at lk
      have x0 : 0 < xs.length := x1
      have g0 : (xs.map V.str)[0]? = some (.str xs[0]) := by rw [List.getElem?_map, List.getElem?_eq_getElem x0]; rfl
      refine ⟨.ref pl, rfl, _, rfl, pl, _, rfl, sl_map (sm _ _ epl), fun c nc => ?_⟩
      have sc := sm.trans (same_new (o := HO.lst (cutV (ns.map V.int) none (some (1 : Int)))) nc)
      have ec : cutV (ns.map V.int) none (some (1 : Int)) = (ns.take 1).map V.int := by
        rw [show (1 : Int) = ((1 : Nat) : Int) from rfl, cutV_to, List.map_take]
      have bw1 : Bu (upd H1 c (.lst (cutV (ns.map V.int) none (some (1 : Int))))) wd W := bw.same' (same_new nc)
      refine ⟨.ref wd, rfl, .ref nm, rfl, nm, _, _, .str xs[0], rfl, rfl, sl_map (sc _ _ enm), at_of (j := 0) rfl g0, wd, _, rfl, DPut.k (k := .inr xs[0]) bw1.un (by rw [entK_len]; exact small1000 (by omega)), ?_⟩
      rw [putK_ent (s := ns.take 1)]
      have lp := putE_len W xs[0] c (ns.take 1)
      have bw2 := bw1.aput (x := xs[0]) (s := ns.take 1) (l := c) (by rw [upd_same, ec]) (by omega)
      have s2 : Same H (upd (upd H1 c (.lst (cutV (ns.map V.int) none (some (1 : Int))))) wd (.dK (entK (putE W xs[0] c (ns.take 1))))) := same_at sc nw
      generalize upd (upd H1 c (.lst (cutV (ns.map V.int) none (some (1 : Int))))) wd (.dK (entK (putE W xs[0] c (ns.take 1)))) = H2 at bw2 s2 ⊢
      refine ⟨.ref nm, rfl, .ref wd, rfl, nm, wd, xs, _, rfl, s2 _ _ enm, bw2, xnd, x5, fun x hx => ?_, fun H3 l ds s3 el as ld => ?_⟩
      · rw [look_put]
        by_cases c : x = xs[0]
        · rw [if_pos c]
          exact ⟨_, rfl, by rw [List.length_take]; omega⟩
        · rw [if_neg c]
          exact ⟨_, lk x hx, n5⟩
      have s03 := s2.trans s3
      refine ⟨l, rfl, ⟨_, sl_map el⟩, for_list (xs := ds.map fun p => V.ref p.1) (fun i σ H' => ∃ (y5 y6 y7 y8 : Option V), σ = [some (.ref v), some (.ref nm), some (.ref pl), some (.ref wd), y4, y5, y6, y7, y8] ∧ Same H3 H')
        ⟨none, none, none, none, rfl, Same.refl _⟩ (fun i σ H' _ h => by obtain ⟨_, _, _, _, _, s⟩ := h; exact sl_map (s _ _ el)) ?_ ?_⟩
      · rintro i x σ H4 hx ⟨y5, y6, y7, y8, rfl, s4⟩
        rw [List.getElem?_map] at hx
        obtain ⟨⟨a, A0⟩, hv, rfl⟩ := Option.map_eq_some_iff.mp hx
        have am := List.mem_of_getElem? hv
        have ea : H4 a = some (.dK (intK A0)) := s4 _ _ (as.at_ _ am)
        have ka : A0.map (·.1) = xs := as.keys _ am
        have s04 := s03.trans s4
        have bs4 := bs.same s04
        refine ⟨by show 0 ≤ sizeLine; decide, fun T nT => ?_⟩
        have sT := same_new (o := HO.lst ([] : List V)) nT
        refine ⟨.ref a, rfl, a, _, rfl, .inl (sT _ _ ea), fun D nD => ?_⟩
        have nTD : T ≠ D := fun z => by rw [← z, upd_same] at nD; cases nD
        have sD := sT.trans (same_new (o := HO.dK (intK A0)) nD)
        have nD4 : H4 D = none := sT.free nD
        refine ⟨.ref v, rfl, v, rfl, ⟨_, sl_map (sD _ _ bs4.lst)⟩, for_list (xs := [(d0, L0), (d1, L1), (d2, L2'), (d3, L3)].map fun p => V.ref p.1) (fun j σ H5 => ∃ (y8 : Option V), σ = [some (.ref v), some (.ref nm), some (.ref pl), some (.ref wd), y4, some (.ref a), some (.ref T), some (.ref D), y8] ∧ Same H4 H5 ∧ H5 D = some (.dK (intK A0)) ∧ H5 T = some (.lst (([(d0, L0), (d1, L1), (d2, L2'), (d3, L3)].take j).map fun p => V.bl (holdsE p.2 A0))))
          ⟨y8, rfl, sD, upd_same, by rw [upd_ne nTD]; exact upd_same⟩ (fun j σ H5 _ h => by obtain ⟨_, _, s, _⟩ := h; exact sl_map (s _ _ bs4.lst)) ?_ ?_⟩
        · rintro j x σ H5 hx5 ⟨y8, rfl, s5, eD, eT⟩
          rw [List.getElem?_map] at hx5
          obtain ⟨⟨d, L⟩, hv5, rfl⟩ := Option.map_eq_some_iff.mp hx5
          have dm := List.mem_of_getElem? hv5
          have hj := (List.getElem?_eq_some_iff.mp hv5).1
          have bx4 : Bu H4 d L := bs4.box _ dm
          have dD : d ≠ D := fun z => by have := bx4.un; rw [z, nD4] at this; cases this
          have da : d ≠ a := fun z => by
            have := bx4.un
            rw [z, ea] at this
            have := ent_int (HO.dK.inj (Option.some.inj this)).symm
            rw [this] at ka
            rw [← ka] at x1
            exact absurd x1 (by decide)
          have cov : ∀ e ∈ L, ∃ z, aget A0 e.1 = some z := fun e he => aget_some (by rw [ka]; exact keys _ dm e he)
          refine ⟨.ref T, rfl, .inl ⟨rfl, _, sl_map eT⟩, .ref d, rfl, .ref D, rfl, d, D, L, A0, rfl, bx4.same' s5, ⟨.inl eD⟩, dD, cov, fun H6 s6 => ?_⟩
          refine ⟨T, _, _, rfl, rfl, s6 _ _ eT, ?_, ?_⟩
          · rw [List.length_map, List.length_take]
            exact small1000 (by have : [(d0, L0), (d1, L1), (d2, L2'), (d3, L3)].length = 4 := rfl; omega)
          have s7 : Same H4 (upd H6 T (.lst ((([(d0, L0), (d1, L1), (d2, L2'), (d3, L3)].take j).map fun p => V.bl (holdsE p.2 A0)) ++ [V.bl (holdsE L A0)]))) := same_at (s5.trans s6) nT
          refine ⟨.ref T, rfl, 1, rfl, T, _, _, _, rfl, rfl, sl_map upd_same, atI_last _ _, .ref d, rfl, .ref a, rfl, d, a, L, A0, rfl, bx4.same' s7, ⟨.inl (s7 _ _ ea)⟩, da, cov, fun H8 s8 => ⟨holdsE L A0, rfl, true, rfl, iteF ⟨_, rfl, s7.trans s8, s8 _ _ ?_, s8 _ _ ?_⟩⟩⟩
          · rw [upd_ne nTD.symm]
            exact s6 _ _ eD
          · rw [upd_same, List.take_add_one, hv5, List.map_append]
            rfl
        · rintro σ H5 ⟨y8, rfl, s5, eD, eT⟩
          have eT' : H5 T = some (.lst [.bl (holdsE L0 A0), .bl (holdsE L1 A0), .bl (holdsE L2' A0), .bl (holdsE L3 A0)]) := eT
          obtain ⟨h2, h3⟩ := sem A0 ka
          have ea5 := s5 _ _ ea
          have nodA : (A0.map (·.1)).Nodup := by rw [ka]; exact xnd
          generalize holdsE L0 A0 = b0 at eT' h2 h3
          generalize holdsE L1 A0 = b1 at eT' h2 h3
          generalize holdsE L2' A0 = b2 at eT' h2 h3
          generalize holdsE L3 A0 = b3 at eT' h2 h3
          subst h2
          refine' with_rest ?r (fun rest => ⟨.ref T, rfl, T, _, _, .bl b3, rfl, rfl, sl_map eT', atI_nat (j := 3) rfl, b3, rfl, ite2 (fun c3 => ?g) (fun c3 => rest)⟩)
          case r =>
            cases b0 with
            | false =>
              refine iteF ⟨.ref T, rfl, T, _, _, .bl (false && b1), rfl, rfl, sl_map eT', atI_nat (j := 2) rfl, .ref T, rfl, T, _, _, .bl false, rfl, rfl, sl_map eT', atI_nat (j := 0) rfl, false, rfl, iteF ⟨rfl, ?_⟩⟩
              rw [decide_eq_true (show V.bl (false && b1) = V.bl false from rfl)]
              refine ⟨false, rfl, iteF ⟨.ref D, rfl, .ref a, rfl, D, a, _, _, rfl, rfl, eD, ea5, rfl, eq_int A0 nodA, ?_⟩⟩
              exact ⟨false, rfl, iteF ⟨_, _, _, _, rfl, s4.trans s5⟩⟩
            | true =>
              refine iteF ⟨.ref T, rfl, T, _, _, .bl (true && b1), rfl, rfl, sl_map eT', atI_nat (j := 2) rfl, .ref T, rfl, T, _, _, .bl true, rfl, rfl, sl_map eT', atI_nat (j := 0) rfl, true, rfl, iteT ⟨.ref T, rfl, T, _, _, .bl b1, rfl, rfl, sl_map eT', atI_nat (j := 1) rfl, rfl, ?_⟩⟩
              rw [decide_eq_true (show V.bl (true && b1) = V.bl b1 from rfl)]
              refine ⟨false, rfl, iteF ⟨.ref D, rfl, .ref a, rfl, D, a, _, _, rfl, rfl, eD, ea5, rfl, eq_int A0 nodA, ?_⟩⟩
              exact ⟨false, rfl, iteF ⟨_, _, _, _, rfl, s4.trans s5⟩⟩
          case g =>
            refine ⟨.ref T, rfl, T, _, _, .bl b0, rfl, rfl, sl_map eT', atI_nat (j := 0) rfl, b0, rfl, ite2 (fun c0 => ?_) (fun c0 => rest)⟩
            refine ⟨.ref T, rfl, T, _, _, .bl b1, rfl, rfl, sl_map eT', atI_nat (j := 1) rfl, b1, rfl, ?_⟩
            have e1 : b1 = true := by
              rcases h3 c3 with z | z
              · rw [z] at c0; exact absurd c0 (by decide)
              · exact z
            subst e1
            exact rest
      · rintro σ H' ⟨y5, y6, y7, y8, rfl, s4⟩
        exact q _ (s03.trans s4)
end
end K4

set_option Elab.async false
set_option linter.all false
set_option maxRecDepth 100000
set_option maxHeartbeats 4000000
namespace K4
open PySem PySem.Spec PyProof.Rows L2 Cs
/-! ### equal boxes, deep -/
theorem paired_flat {K : PySem.W.Frag} {H : Hp} {n : Nat} : ∀ xs : List V, (∀ x ∈ xs, flatB x = true) → Paired (EqV K H (n + 1)) xs xs
  | [], _ => .nil
  | x :: xs, h => .cons (.inl ⟨rfl, h x List.mem_cons_self⟩) (paired_flat xs fun y hy => h y (List.mem_cons_of_mem _ hy))
theorem eqL {K : PySem.W.Frag} {H : Hp} {a b : Addr} {ns : List Int} (ha : H a = some (.lst (ns.map V.int))) (hb : H b = some (.lst (ns.map V.int))) : EqV K H 2 (.ref a) (.ref b) :=
  .inr (.inr (.inl ⟨a, b, _, _, rfl, rfl, sl_map ha, sl_map hb, paired_flat _ fun x hx => by obtain ⟨k, _, rfl⟩ := List.mem_map.mp hx; rfl⟩))
theorem eqB {K : PySem.W.Frag} {H : Hp} {d e : Addr} {M X : List Ent} (bd : Bu H d M) (be : Bu H e X) (s : SameB M X) : EqR K H (EqV K H 2) (.ref d) (.ref e) := by
  refine .inr ⟨d, e, _, _, rfl, rfl, bd.un, be.un, by rw [entK_len, entK_len]; exact s.len bd.nd be.nd, fun p hp => ?_⟩
  unfold entK at hp
  obtain ⟨g, hg, rfl⟩ := List.mem_map.mp hp
  have s' : SameB X M := fun x => (s x).symm
  obtain ⟨t, tm, t1, t2, t3⟩ := s'.get bd.nd hg
  refine ⟨.ref t.2.1, ?_, ?_⟩
  · show valV (entK X) (Sum.inr g.1) = _
    rw [valV_ent, t3]
    rfl
  · have h1 := be.sides t tm
    rw [t2] at h1
    exact eqL (bd.sides g hg) h1
theorem shape_same {L M : List Ent} (h : shape L = shape M) : SameB L M := look_shape h
theorem mt_congr {L M L' M' : List Ent} (h1 : SameB L L') (h2 : SameB M M') (x : Str) : mt L M x = mt L' M' x := by unfold mt; rw [h1 x, h2 x]
theorem jn_congr {L M L' M' : List Ent} {n : Str} (h1 : SameB L L') (h2 : SameB M M') (x : Str) : jn L M n x = jn L' M' n x := by unfold jn; rw [h1 n, h2 n, mt_congr h1 h2]
theorem Sz.look {L : List Ent} {n : Nat} (z : Sz L n) {x : Str} {s : List Int} (h : look L x = some s) : Srt s ∧ s.length ≤ n := by
  obtain ⟨e, em, _, rfl⟩ := look_of h
  exact ⟨z.srt e em, z.len e em⟩
theorem mt_ok {L M : List Ent} {n : Nat} (z1 : Sz L n) (z2 : Sz M n) {x : Str} {s : List Int} (h : mt L M x = some s) : Srt s ∧ s.length ≤ n := by
  unfold mt at h
  cases c2 : look M x with
  | none => rw [c2] at h; exact z1.look h
  | some b =>
    rw [c2] at h
    cases c1 : look L x with
    | none => rw [c1] at h; obtain rfl := Option.some.inj h; exact z2.look c2
    | some a =>
      rw [c1] at h
      obtain rfl := Option.some.inj h
      have := z1.look c1
      exact ⟨both_srt this.1, Nat.le_trans (List.length_filter_le _ _) this.2⟩
theorem jn_ok {L M : List Ent} {n : Nat} {y : Str} (z1 : Sz L n) (z2 : Sz M n) {x : Str} {s : List Int} (h : jn L M y x = some s) : Srt s ∧ s.length ≤ n + n := by
  unfold jn at h
  split at h
  · cases c1 : look L y with
    | none => rw [c1] at h; cases h
    | some a =>
      cases c2 : look M y with
      | none => rw [c1, c2] at h; cases h
      | some b =>
        rw [c1, c2] at h
        have e : uni a b = s := Option.some.inj h
        have q1 := z1.look c1
        have q2 := z2.look c2
        have := uni_len a b
        rw [← e]
        exact ⟨uni_srt q1.1 b, by omega⟩
  · have := mt_ok z1 z2 h
    exact ⟨this.1, by omega⟩
theorem sides_ok {M : List Ent} {n : Nat} (nd : (M.map (·.1)).Nodup) (f : Str → Option (List Int)) (h : ∀ x, look M x = f x) (ok : ∀ x s, f x = some s → Srt s ∧ s.length ≤ n) : Sz M n :=
  ⟨fun e he => (ok e.1 _ ((h e.1).symm.trans (look_mem nd he))).1, fun e he => (ok e.1 _ ((h e.1).symm.trans (look_mem nd he))).2⟩
theorem Sz.shape {L M : List Ent} {n : Nat} (z : Sz L n) (h : shape M = shape L) : Sz M n := by
  have q : ∀ e ∈ M, ∃ g ∈ L, g.2.2 = e.2.2 := fun e he => by
    have : (e.1, e.2.2) ∈ K4.shape L := h ▸ List.mem_map_of_mem (f := fun e : Ent => (e.1, e.2.2)) he
    obtain ⟨g, hg, eq⟩ := List.mem_map.mp this
    exact ⟨g, hg, (Prod.mk.inj eq).2⟩
  refine ⟨fun e he => ?_, fun e he => ?_⟩
  · obtain ⟨g, hg, eq⟩ := q e he
    exact eq ▸ z.srt g hg
  · obtain ⟨g, hg, eq⟩ := q e he
    exact eq ▸ z.len g hg
/-- what a change of fresh sides leaves -/
theorem keepL_same {H0 H1 H2 : Hp} {as : List Addr} (s : Same H0 H1) (k : KeepL as H1 H2) (f : ∀ a ∈ as, H0 a = none) : Same H0 H2 := fun b o e => k b o (fun z => by rw [f b z] at e; cases e) (s _ _ e)
theorem Bu.keepL {H H' : Hp} {d : Addr} {M : List Ent} {as : List Addr} (B : Bu H d M) (k : KeepL as H H') (h1 : d ∉ as) (h2 : ∀ e ∈ M, e.2.1 ∉ as) : Bu H' d M :=
  ⟨⟨.inl (k _ _ h1 B.un), fun e he => k _ _ (h2 e he) (B.sides e he), B.nd, B.few⟩, k _ _ h1 B.un⟩
theorem not_side {H : Hp} {d : Addr} {as : List Addr} (n : H d = none) (sd : ∀ a ∈ as, H a ≠ none) : d ∉ as := fun z => sd d z n
theorem side_some {H : Hp} {M : List Ent} (sd : ∀ e ∈ M, H e.2.1 = some (.lst (e.2.2.map V.int))) : ∀ a ∈ M.map (·.2.1), H a ≠ none := fun a ha z => by
  obtain ⟨e, he, rfl⟩ := List.mem_map.mp ha
  have := sd e he
  rw [z] at this
  cases this
section
variable {P : Program} {w : World} {K : PySem.W.Frag} {mg : Str → Option Value} {base : Heap}
abbrev sTwo : Stmt := topS 33
abbrev nTwo : List Str := ["_law_first", "_law_second", "_law_name", "_law_passed", "_law_turn", "_law_meet_here", "_law_join_here"]
theorem scTwo : FnScope nTwo ["_law_first", "_law_second", "_law_name"] (defScope sTwo) := ⟨rfl, rfl, rfl, by decide +kernel, rfl, by decide +kernel, by decide +kernel⟩
def spTwoL : Sp := fun vs H Q _ => ∃ (a b : Addr) (n : Str) (L1 L2' : List Ent), vs = [.ref a, .ref b, .str n] ∧ Bu H a L1 ∧ Bu H b L2' ∧ Sz L1 31 ∧ Sz L2' 31 ∧ L1.length + L2'.length ≤ 30 ∧ ∀ H', Same H H' → Q (.bl true) H'
theorem ok_two {f fC fM fJ fS fm fj fN : Addr} {fd fdC fdM fdJ fdS fdm fdj fdN : FuncData} (F : Fun K "_law_two" "_law_two" sTwo f fd) (B : Bt mg) (C : Call P w K mg base 1 "_law_copied" fC fdC ["_law_sides"] spCopy)
    (Me : Call P w K mg base 2 "meet_boxes" fM fdM ["first", "second"] spMeet) (Jo : Call P w K mg base 3 "join_boxes" fJ fdJ ["first", "second", "name"] spJoin)
    (S : Call P w K mg base 3 "_law_same_sides" fS fdS ["_law_actual", "_law_expected"] spSame) (LM : Call P w K mg base 2 "_law_meet" fm fdm ["_law_first", "_law_second"] spLMeet)
    (LJ : Call P w K mg base 3 "_law_join" fj fdj ["_law_first", "_law_second", "_law_name"] spJoin) (N : Call P w K mg base 1 "_law_new" fN fdN ["_law_told", "_law_expected"] spLNew) :
    FnOk P w K mg base CX0 4 f fd ["_law_first", "_law_second", "_law_name"] spTwoL := by
  refine F.ok scTwo (fun vs H Q E h => ?_) (fun cdv A outer s H vs Q E hr h => ?_)
  · obtain ⟨a, b, n, L1, L2', rfl, _⟩ := h
    rfl
  · obtain ⟨a, b, n, L1, L2', rfl, b1, b2, z1, z2, few, q⟩ := h
    have hu := hu_of hr
    have nd := scTwo.nd
    have hu64 : (A.deeper (envOfC "_law_two" (defScope sTwo) s.heap.objs.size f cdv)).units + 64 < cLine := by have := hr.un; omega
    have hr1 : Room 1 (A.deeper (envOfC "_law_two" (defScope sTwo) s.heap.objs.size f cdv)) := hr.mono (by decide)
    have hr2 : Room 2 (A.deeper (envOfC "_law_two" (defScope sTwo) s.heap.objs.size f cdv)) := hr.mono (by decide)
    refine ⟨_, pss_cons (ps_set (i := 3) nd rfl (.inl rfl) (pe_lst (pa_cons (pe_call C.ok hr1 (by rfl) C.at_ C.kp C.bd .nil pass0 (pa_cons (pv 0) pa_nil)) (pa_cons (pe_call C.ok hr1 (by rfl) C.at_ C.kp C.bd .nil pass0 (pa_cons (pv 1) pa_nil)) pa_nil))))
      (pss_cons (ps_for PassesOwn.never rfl (pi_range1 (by rfl) B.range (pa_cons pe_int pa_nil)) (pg_name (i := 4) nd rfl (.inl rfl))
        (pss_cons (ps_set (i := 5) nd rfl (.inl rfl) (pe_call Me.ok hr2 (by rfl) Me.at_ Me.kp Me.bd .nil pass0 (pa_cons (pe_ix ix_list (pv 3) pe_int (fun _ _ => rfl)) (pa_cons (pe_ix ix_list (pv 3) pe_int (fun _ _ => rfl)) pa_nil))))
        (pss_cons (ps_set (i := 6) nd rfl (.inl rfl) (pe_call Jo.ok hr (by rfl) Jo.at_ Jo.kp Jo.bd .nil pass0 (pa_cons (pe_ix ix_list (pv 3) pe_int (fun _ _ => rfl)) (pa_cons (pe_ix ix_list (pv 3) pe_int (fun _ _ => rfl)) (pa_cons (pv 2) pa_nil)))))
        (pss_cons (ps_if (pt_not (pt_val (pe_call S.ok hr (by rfl) S.at_ S.kp S.bd .nil pass0 (pa_cons (pv 5) (pa_cons (pe_call LM.ok hr2 (by rfl) LM.at_ LM.kp LM.bd .nil pass0 (pa_cons (pv 0) (pa_cons (pv 1) pa_nil))) pa_nil))))) (pss_one (ps_ret pe_bl)) pss_nil)
        (pss_cons (ps_if (pt_not (pt_val (pe_call S.ok hr (by rfl) S.at_ S.kp S.bd .nil pass0 (pa_cons (pv 6) (pa_cons (pe_call LJ.ok hr (by rfl) LJ.at_ LJ.kp LJ.bd .nil pass0 (pa_cons (pv 0) (pa_cons (pv 1) (pa_cons (pv 2) pa_nil)))) pa_nil))))) (pss_one (ps_ret pe_bl)) pss_nil)
        (pss_cons (ps_if (PW.pt (pw_or (pt_not (pt_val (pe_call N.ok hr1 (by rfl) N.at_ N.kp N.bd .nil pass0 (pa_cons (pv 5) (pa_cons (pe_call LM.ok hr2 (by rfl) LM.at_ LM.kp LM.bd .nil pass0 (pa_cons (pv 0) (pa_cons (pv 1) pa_nil))) pa_nil)))))
            (pw_or1 (pt_not (pt_val (pe_call N.ok hr1 (by rfl) N.at_ N.kp N.bd .nil pass0 (pa_cons (pv 6) (pa_cons (pe_call LJ.ok hr (by rfl) LJ.at_ LJ.kp LJ.bd .nil pass0 (pa_cons (pv 0) (pa_cons (pv 1) (pa_cons (pv 2) pa_nil)))) pa_nil)))))))) (pss_one (ps_ret pe_bl)) pss_nil)
        (pss_one (ps_if (pt_cmpR (op_neV hu64) (pv 3) (pe_lst (pa_cons (pv 0) (pa_cons (pv 1) pa_nil))) rfl) (pss_one (ps_ret pe_bl)) pss_nil))))))))
      (pss_one (ps_ret (pe_and (pe_cmpR (op_eqV hu64) (pe_callTy (call_listD rfl) (by rfl) B.list PyProof.Rows.boot_list (pa_cons (pe_ix ix_list (pv 3) pe_int (fun _ _ => rfl)) pa_nil)) (pe_callTy (call_listD rfl) (by rfl) B.list PyProof.Rows.boot_list (pa_cons (pv 0) pa_nil)) rfl)
        (pe_one (pe_cmpR (op_eqV hu64) (pe_callTy (call_listD rfl) (by rfl) B.list PyProof.Rows.boot_list (pa_cons (pe_ix ix_list (pv 3) pe_int (fun _ _ => rfl)) pa_nil)) (pe_callTy (call_listD rfl) (by rfl) B.list PyProof.Rows.boot_list (pa_cons (pv 1) pa_nil)) rfl)))))), ?_⟩
    refine ⟨.ref a, rfl, a, L1, rfl, b1, fun H1 p0 P0 s1 n0 sh0 => ?_⟩
    refine ⟨.ref b, rfl, b, L2', rfl, b2.same' s1, fun H2 p1 P1 s2 n1 sh1 => ⟨by show 2 ≤ sizeLine; decide, fun v nv => ?_⟩⟩
    have s3 := same_new (o := HO.lst [V.ref p0, V.ref p1]) nv
    have s03 := s1.trans (s2.trans s3)
    have bp0 := (n0.toBu.same' s2).same' s3
    have bp1 := n1.toBu.same' s3
    have ba := b1.same' s03
    have bb := b2.same' s03
    have ev : (upd H2 v (.lst [V.ref p0, V.ref p1])) v = some (.lst [V.ref p0, V.ref p1]) := upd_same
    have same0 := look_shape sh0
    have same1 := look_shape sh1
    have zP0 := z1.shape sh0
    have zP1 := z2.shape sh1
    have l0 := shape_len sh0
    have l1 := shape_len sh1
    generalize upd H2 v (.lst [V.ref p0, V.ref p1]) = H3 at s03 bp0 bp1 ba bb ev ⊢
    clear s3 nv n0 n1 s1 s2
    refine ⟨2, rfl, by decide, by decide, for_range (lo := 0) (n := (2 : Int).toNat) (fun i σ H' => ∃ (y4 y5 y6 : Option V), σ = [some (.ref a), some (.ref b), some (.str n), some (.ref v), y4, y5, y6] ∧ Same H3 H')
      ⟨none, none, none, rfl, Same.refl _⟩ ?_ ?_⟩
    · rintro i σ H' hi ⟨y4, y5, y6, rfl, sm⟩
      refine ⟨.ref v, rfl, v, _, _, .ref p0, rfl, rfl, sl_map (sm _ _ ev), atI_nat (j := 0) rfl, .ref v, rfl, v, _, _, .ref p1, rfl, rfl, sl_map (sm _ _ ev), atI_nat (j := 1) rfl, p0, p1, P0, P1, rfl, bp0.same' sm, bp1.same' sm, zP0, zP1, by omega, fun H4 d M s4 nM lkM lnM => ?_⟩
      have m4 := sm.trans s4
      refine ⟨.ref v, rfl, v, _, _, .ref p0, rfl, rfl, sl_map (m4 _ _ ev), atI_nat (j := 0) rfl, .ref v, rfl, v, _, _, .ref p1, rfl, rfl, sl_map (m4 _ _ ev), atI_nat (j := 1) rfl, .str n, rfl, p0, p1, n, P0, P1, rfl, bp0.same' m4, bp1.same' m4, zP0, zP1, by omega, fun H5 e J s5 nJ lkJ lnJ => ?_⟩
      have m5 := m4.trans s5
      have lkM' : ∀ x, look M x = mt L1 L2' x := fun x => (lkM x).trans (mt_congr same0 same1 x)
      have lkJ' : ∀ x, look J x = jn L1 L2' n x := fun x => (lkJ x).trans (jn_congr same0 same1 x)
      have zM : Sz M 31 := sides_ok nM.nd _ lkM' fun x s h => mt_ok z1 z2 h
      have zJ : Sz J 62 := sides_ok nJ.nd _ lkJ' fun x s h => jn_ok z1 z2 h
      -- the meet is the meet
      refine ⟨.ref d, rfl, .ref a, rfl, .ref b, rfl, a, b, L1, L2', rfl, ba.same' m5, bb.same' m5, z1, z2, by omega, fun H6 m1 M1 s6 nM1 lk1 ln1 => ?_⟩
      refine ⟨d, m1, M, M1, rfl, (nM.toBu.same' s5).same' s6, nM1.toBu, fun x => (lkM' x).trans (lk1 x).symm, fun g hg => ⟨zM.srt g hg, by have := zM.len g hg; omega⟩, fun H7 s7 => ⟨true, rfl, iteF ?_⟩⟩
      have m7 := (m5.trans s6).trans s7
      -- the join is the join
      refine ⟨.ref e, rfl, .ref a, rfl, .ref b, rfl, .str n, rfl, a, b, n, L1, L2', rfl, ba.same' m7, bb.same' m7, z1, z2, by omega, fun H8 j1 J1 s8 nJ1 lk2 ln2 => ?_⟩
      refine ⟨e, j1, J, J1, rfl, ((nJ.toBu.same' s6).same' s7).same' s8, nJ1.toBu, fun x => (lkJ' x).trans (lk2 x).symm, fun g hg => ⟨zJ.srt g hg, by have := zJ.len g hg; omega⟩, fun H9 s9 => ⟨true, rfl, iteF ?_⟩⟩
      have m9 := (m7.trans s8).trans s9
      have t59 := ((s6.trans s7).trans s8).trans s9
      have M9 : Bu H9 d M := (nM.toBu.same' s5).same' t59
      have J9 : Bu H9 e J := nJ.toBu.same' t59
      -- the meet's sides are new
      refine ⟨.ref d, rfl, .ref a, rfl, .ref b, rfl, a, b, L1, L2', rfl, ba.same' m9, bb.same' m9, z1, z2, by omega, fun H10 m2 M2 s10 nM2 lk3 ln3 => ?_⟩
      have zM2 : Sz M2 31 := sides_ok nM2.nd _ lk3 fun x s h => mt_ok z1 z2 h
      have some9 := side_some M9.sides
      refine ⟨d, m2, M, M2, rfl, M9.same' s10, nM.inj, nM2.toBu, fun x => (lkM' x).trans (lk3 x).symm, fun x hx => not_side (nM2.freshS x hx) some9, (fun z => by have := M9.un; rw [z, nM2.fresh] at this; cases this), (fun x hx => by have := zM2.len x hx; omega), fun H11 k11 => ⟨true, rfl, iteF ?_⟩⟩
      have t4 : Same H' H9 := (s4.trans s5).trans t59
      have fM : ∀ a ∈ M.map (·.2.1), H' a = none := fun a ha => by obtain ⟨g, hg, rfl⟩ := List.mem_map.mp ha; exact nM.freshS g hg
      have m11 : Same H' H11 := keepL_same (t4.trans s10) k11 fM
      have some4 := side_some nM.sides
      have J11 : Bu H11 e J := (J9.same' s10).keepL k11 (not_side nJ.fresh some4) fun g hg => not_side (nJ.freshS g hg) some4
      have m3 := sm.trans m11
      -- the join's sides are new
      refine ⟨.ref e, rfl, .ref a, rfl, .ref b, rfl, .str n, rfl, a, b, n, L1, L2', rfl, ba.same' m3, bb.same' m3, z1, z2, by omega, fun H12 j2 J2 s12 nJ2 lk4 ln4 => ?_⟩
      have zJ2 : Sz J2 62 := sides_ok nJ2.nd _ lk4 fun x s h => jn_ok z1 z2 h
      have some11 := side_some J11.sides
      refine ⟨e, j2, J, J2, rfl, J11.same' s12, nJ.inj, nJ2.toBu, fun x => (lkJ' x).trans (lk4 x).symm, fun x hx => not_side (nJ2.freshS x hx) some11, (fun z => by have := J11.un; rw [z, nJ2.fresh] at this; cases this), (fun x hx => by have := zJ2.len x hx; omega), fun H13 k13 => ⟨true, rfl, iteF ?_⟩⟩
      have fJ : ∀ a ∈ J.map (·.2.1), H' a = none := fun a ha => by obtain ⟨g, hg, rfl⟩ := List.mem_map.mp ha; exact s4.free (nJ.freshS g hg)
      have m13 : Same H' H13 := keepL_same (m11.trans s12) k13 fJ
      have m30 := sm.trans m13
      -- the boxes that were passed stay
      refine ⟨.ref v, rfl, .ref a, rfl, .ref b, rfl, by show 2 ≤ sizeLine; decide, fun u nu => ?_⟩
      have su := same_new (o := HO.lst [V.ref a, V.ref b]) nu
      have mu := m30.trans su
      refine ⟨v, u, _, _, rfl, rfl, sl_map (mu _ _ ev), sl_map upd_same, ⟨3, by decide, .cons (.inr (.inr (eqB (bp0.same' mu) (ba.same' mu) same0))) (.cons (.inr (.inr (eqB (bp1.same' mu) (bb.same' mu) same1))) .nil)⟩, ?_⟩
      exact ⟨false, rfl, iteF ⟨_, _, _, rfl, mu⟩⟩
    · rintro σ H' ⟨y4, y5, y6, rfl, sm⟩
      have keysV : ∀ {L M : List Ent}, shape L = shape M → ((entK L).map fun kv => kV kv.1) = ((entK M).map fun kv => kV kv.1) := fun {L M} h => by
        have := congrArg (List.map V.str) (shape_keys h)
        unfold entK
        rw [List.map_map, List.map_map]
        rw [List.map_map, List.map_map] at this
        exact this
      have flats : ∀ L : List Ent, ∀ x ∈ ((entK L).map fun kv => kV kv.1), flatB x = true := fun L x hx => by
        unfold entK at hx
        rw [List.map_map] at hx
        obtain ⟨g, _, rfl⟩ := List.mem_map.mp hx
        rfl
      refine ⟨.ref v, rfl, v, _, _, .ref p0, rfl, rfl, sl_map (sm _ _ ev), atI_nat (j := 0) rfl, p0, _, rfl, .inl (sm _ _ bp0.un), fun k1 nk1 => ?_⟩
      have t1 := sm.trans (same_new (o := HO.lst ((entK P0).map fun kv => kV kv.1)) nk1)
      refine ⟨.ref a, rfl, a, _, rfl, .inl (t1 _ _ ba.un), fun k2 nk2 => ?_⟩
      have n12 : k1 ≠ k2 := fun z => by rw [← z, upd_same] at nk2; cases nk2
      have t2 := t1.trans (same_new (o := HO.lst ((entK L1).map fun kv => kV kv.1)) nk2)
      refine ⟨1, by decide, .inl ⟨k1, k2, _, _, rfl, rfl, sl_map (by rw [upd_ne n12]; exact upd_same), sl_map (by rw [upd_same, keysV sh0]), paired_flat _ (flats P0)⟩, true, rfl, iteT ?_⟩
      refine ⟨.ref v, rfl, v, _, _, .ref p1, rfl, rfl, sl_map (t2 _ _ ev), atI_nat (j := 1) rfl, p1, _, rfl, .inl (t2 _ _ bp1.un), fun k3 nk3 => ?_⟩
      have t3 := t2.trans (same_new (o := HO.lst ((entK P1).map fun kv => kV kv.1)) nk3)
      refine ⟨.ref b, rfl, b, _, rfl, .inl (t3 _ _ bb.un), fun k4 nk4 => ?_⟩
      have n34 : k3 ≠ k4 := fun z => by rw [← z, upd_same] at nk4; cases nk4
      have t4 := t3.trans (same_new (o := HO.lst ((entK L2').map fun kv => kV kv.1)) nk4)
      exact ⟨1, by decide, .inl ⟨k3, k4, _, _, rfl, rfl, sl_map (by rw [upd_ne n34]; exact upd_same), sl_map (by rw [upd_same, keysV sh1]), paired_flat _ (flats P1)⟩, q _ (s03.trans t4)⟩
end
end K4

set_option Elab.async false
set_option linter.all false
set_option maxRecDepth 100000
set_option maxHeartbeats 4000000
namespace K4
open PySem PySem.Spec PyProof.Rows L2 Cs
/-! ### what the meet and the join hold -/
theorem holds_iff {L : List Ent} {A : Asg} (nd : (L.map (·.1)).Nodup) : holdsE L A = true ↔ ∀ x s v, look L x = some s → aget A x = some v → v ∈ s := by
  unfold holdsE
  rw [List.all_eq_true]
  constructor
  · intro h x s v hl ha
    obtain ⟨e, em, e1, e2⟩ := look_of hl
    have q := h e em
    unfold inSide at q
    rw [e1, ha] at q
    rw [← e2]
    exact of_decide_eq_true q
  · intro h e em
    unfold inSide
    cases c : aget A e.1 with
    | none => rfl
    | some v => exact decide_eq_true (h e.1 _ v (look_mem nd em) c)
theorem mt_left {L M : List Ent} {x : Str} {a : List Int} {A : Asg} {v : Int} (h : look L x = some a) (q : ∀ s, mt L M x = some s → v ∈ s) : v ∈ a := by
  unfold mt at q
  cases c : look M x with
  | none => rw [c] at q; exact q a h
  | some s => rw [c, h] at q; exact ((both_mem a s v).1 (q _ rfl)).1
theorem mt_right {L M : List Ent} {x : Str} {s : List Int} {A : Asg} {v : Int} (h : look M x = some s) (q : ∀ s, mt L M x = some s → v ∈ s) : v ∈ s := by
  unfold mt at q
  rw [h] at q
  cases c : look L x with
  | none => rw [c] at q; exact q s rfl
  | some a => rw [c] at q; exact ((both_mem a s v).1 (q _ rfl)).2
theorem meet_sem {L M X : List Ent} {A : Asg} (n1 : (L.map (·.1)).Nodup) (n2 : (M.map (·.1)).Nodup) (n3 : (X.map (·.1)).Nodup) (h : ∀ x, look X x = mt L M x) : holdsE X A = (holdsE L A && holdsE M A) := by
  rw [Bool.eq_iff_iff, Bool.and_eq_true, holds_iff n1, holds_iff n2, holds_iff n3]
  constructor
  · intro q
    exact ⟨fun x a v hl ha => mt_left (A := A) hl fun s hs => q x s v ((h x).trans hs) ha, fun x a v hl ha => mt_right (A := A) hl fun s hs => q x s v ((h x).trans hs) ha⟩
  · rintro ⟨q1, q2⟩ x s v hl ha
    rw [h x] at hl
    unfold mt at hl
    cases c2 : look M x with
    | none => rw [c2] at hl; exact q1 x s v hl ha
    | some t =>
      rw [c2] at hl
      cases c1 : look L x with
      | none => rw [c1] at hl; obtain rfl := Option.some.inj hl; exact q2 x _ v c2 ha
      | some a =>
        rw [c1] at hl
        obtain rfl := Option.some.inj hl
        exact (both_mem a t v).2 ⟨q1 x a v c1 ha, q2 x t v c2 ha⟩
theorem join_sem {L M X : List Ent} {A : Asg} {n : Str} (n1 : (L.map (·.1)).Nodup) (n2 : (M.map (·.1)).Nodup) (n3 : (X.map (·.1)).Nodup) (h : ∀ x, look X x = jn L M n x) (q : holdsE X A = true) : holdsE L A = true ∨ holdsE M A = true := by
  rw [holds_iff n1, holds_iff n2]
  rw [holds_iff n3] at q
  have ne : ∀ x, x ≠ n → ∀ s v, mt L M x = some s → aget A x = some v → v ∈ s := fun x hx s v hs ha => q x s v (by rw [h x]; unfold jn; rw [if_neg hx]; exact hs) ha
  have left : (∀ a v, look L n = some a → aget A n = some v → v ∈ a) → ∀ x s v, look L x = some s → aget A x = some v → v ∈ s := fun g x s v hl ha => by
    by_cases c : x = n
    · rw [c] at hl ha; exact g s v hl ha
    · exact mt_left (A := A) hl fun t ht => ne x c t v ht ha
  have right : (∀ a v, look M n = some a → aget A n = some v → v ∈ a) → ∀ x s v, look M x = some s → aget A x = some v → v ∈ s := fun g x s v hl ha => by
    by_cases c : x = n
    · rw [c] at hl ha; exact g s v hl ha
    · exact mt_right (A := A) hl fun t ht => ne x c t v ht ha
  cases c1 : look L n with
  | none => exact .inl (left fun a v z => by rw [c1] at z; cases z)
  | some a =>
    cases c2 : look M n with
    | none => exact .inr (right fun a v z => by rw [c2] at z; cases z)
    | some s =>
      cases c3 : aget A n with
      | none => exact .inl (left fun a v _ z => by rw [c3] at z; cases z)
      | some v =>
        have : v ∈ uni a s := q n _ v (by rw [h n]; unfold jn; rw [if_pos rfl, c1, c2]; rfl) c3
        rcases (uni_mem a v s).1 this with z | z
        · exact .inl (left fun a' v' z1 z2 => by rw [c1] at z1; rw [c3] at z2; obtain rfl := Option.some.inj z1; obtain rfl := Option.some.inj z2; exact z)
        · exact .inr (right fun a' v' z1 z2 => by rw [c2] at z1; rw [c3] at z2; obtain rfl := Option.some.inj z1; obtain rfl := Option.some.inj z2; exact z)
theorem Sz.mono {L : List Ent} {n m : Nat} (z : Sz L n) (h : n ≤ m) : Sz L m := ⟨z.srt, fun e he => Nat.le_trans (z.len e he) h⟩
theorem jn_keys {L M X : List Ent} {n : Str} {ks : List Str} (h : ∀ x, look X x = jn L M n x) (nd : (X.map (·.1)).Nodup) (k1 : ∀ e ∈ L, e.1 ∈ ks) (k2 : ∀ e ∈ M, e.1 ∈ ks) : ∀ e ∈ X, e.1 ∈ ks := fun e he => by
  have q := (h e.1).symm.trans (look_mem nd he)
  have l1 : ∀ {x s}, look L x = some s → x ∈ ks := fun {x s} hl => by obtain ⟨g, gm, g1, _⟩ := look_of hl; exact g1 ▸ k1 g gm
  have l2 : ∀ {x s}, look M x = some s → x ∈ ks := fun {x s} hl => by obtain ⟨g, gm, g1, _⟩ := look_of hl; exact g1 ▸ k2 g gm
  unfold jn at q
  split at q
  · rename_i hx
    cases c1 : look L n with
    | none => rw [c1] at q; cases q
    | some a => rw [hx]; exact l1 c1
  · unfold mt at q
    cases c2 : look M e.1 with
    | none => rw [c2] at q; exact l1 q
    | some t => exact l2 c2
theorem mt_keys {L M X : List Ent} {ks : List Str} (h : ∀ x, look X x = mt L M x) (nd : (X.map (·.1)).Nodup) (k1 : ∀ e ∈ L, e.1 ∈ ks) (k2 : ∀ e ∈ M, e.1 ∈ ks) : ∀ e ∈ X, e.1 ∈ ks := fun e he => by
  have q := (h e.1).symm.trans (look_mem nd he)
  unfold mt at q
  cases c2 : look M e.1 with
  | none =>
    rw [c2] at q
    obtain ⟨g, gm, g1, _⟩ := look_of q
    exact g1 ▸ k1 g gm
  | some t =>
    obtain ⟨g, gm, g1, _⟩ := look_of c2
    exact g1 ▸ k2 g gm
theorem sq_keep {K : PySem.W.Frag} {H H' : Hp} {a p : Addr} {xs : List V} (h : SqL K H a xs) (np : H p = none) (k : Keep p H H') : SqL K H' a xs := by
  have ap : ∀ o, H a = some o → a ≠ p := fun o e z => by rw [z, np] at e; cases e
  rcases h with (h | ⟨o, h⟩) | h
  · exact .inl (.inl (k _ _ (ap _ h) h))
  · exact .inl (.inr ⟨o, k _ _ (ap _ h) h⟩)
  · exact .inr h
end K4

set_option Elab.async false
set_option linter.all false
set_option maxRecDepth 100000
set_option maxHeartbeats 8000000
namespace K4
open PySem PySem.Spec PyProof.Rows L2 Cs
theorem Bu.upd_at {H : Hp} {d D : Addr} {M : List Ent} {u : HO} (B : Bu H d M) (h1 : d ≠ D) (h2 : ∀ e ∈ M, e.2.1 ≠ D) : Bu (upd H D u) d M :=
  ⟨⟨.inl (by rw [upd_ne h1]; exact B.un), fun e he => by rw [upd_ne (h2 e he)]; exact B.sides e he, B.nd, B.few⟩, by rw [upd_ne h1]; exact B.un⟩
section
variable {P : Program} {w : World} {K : PySem.W.Frag} {mg : Str → Option Value} {base : Heap}
abbrev sLaw : Stmt := topS 34
abbrev nLaw : List Str := ["_law_script", "_law_stream_here", "_law_names_here", "_law_pool_here", "_law_first", "_law_second", "_law_name", "_law_pair", "_law_every", "_law_due", "_law_sides"]
theorem scLaw : FnScope nLaw ["_law_script"] (defScope sLaw) := ⟨rfl, rfl, rfl, by decide +kernel, rfl, by decide +kernel, by decide +kernel⟩
def spLaw (K : PySem.W.Frag) : Sp := fun vs H Q _ => ∃ (a : Addr) (ns : List Int), vs = [.ref a] ∧ SqL K H a (ns.map V.int) ∧ ns.length ≤ 63 ∧ ∀ H', Q (.bl true) H'
theorem ok_law {f fT fD fN fP fS fW fM fJ fC fR fV fH fm fj : Addr} {fd fdT fdD fdN fdP fdS fdW fdM fdJ fdC fdR fdV fdH fdm fdj : FuncData} (F : Fun K "law" "law" sLaw f fd) (B : Bt mg)
    (T : Call P w K mg base 1 "_law_stream" fT fdT ["_law_script", "_law_k"] (spStream K)) (D : Call P w K mg base 1 "_law_next" fD fdD ["_law_stream_here", "_law_size"] spDraw)
    (Na : Call P w K mg base 2 "_law_names" fN fdN ["_law_stream_here", "_law_count"] spNames) (Po : Call P w K mg base 2 "_law_pool" fP fdP ["_law_stream_here", "_law_count"] spPool)
    (S : Call P w K mg base 4 "_law_drawn_sides" fS fdS ["_law_stream_here", "_law_names_here", "_law_pool_here", "_law_other"] spDSides) (Tw : Call P w K mg base 4 "_law_two" fW fdW ["_law_first", "_law_second", "_law_name"] spTwoL)
    (Me : Call P w K mg base 2 "meet_boxes" fM fdM ["first", "second"] spMeet) (Jo : Call P w K mg base 3 "join_boxes" fJ fdJ ["first", "second", "name"] spJoin) (C : Call P w K mg base 1 "_law_copied" fC fdC ["_law_sides"] spCopy)
    (R : Call P w K mg base 2 "_law_rooms" fR fdR ["_law_every"] spEvery) (Pw : Call P w K mg base 3 "_law_pairs_within" fV fdV ["_law_every"] spEvery) (Hd : Call P w K mg base 2 "_law_all_held" fH fdH ["_law_every", "_law_names_here", "_law_pool_here"] spHeld)
    (LM : Call P w K mg base 2 "_law_meet" fm fdm ["_law_first", "_law_second"] spLMeet) (LJ : Call P w K mg base 3 "_law_join" fj fdj ["_law_first", "_law_second", "_law_name"] spJoin) :
    FnOk P w K mg base CX0 5 f fd ["_law_script"] (spLaw K) := by
  refine F.ok scLaw (fun vs H Q E h => ?_) (fun cdv A outer s H vs Q E hr h => ?_)
  · obtain ⟨a, ns, rfl, _⟩ := h
    rfl
  · obtain ⟨a, sc, rfl, ha, ln, q⟩ := h
    have hr1 : Room 1 (A.deeper (envOfC "law" (defScope sLaw) s.heap.objs.size f cdv)) := hr.mono (by decide)
    have hr2 : Room 2 (A.deeper (envOfC "law" (defScope sLaw) s.heap.objs.size f cdv)) := hr.mono (by decide)
    have hr3 : Room 3 (A.deeper (envOfC "law" (defScope sLaw) s.heap.objs.size f cdv)) := hr.mono (by decide)
    have hu64 : (A.deeper (envOfC "law" (defScope sLaw) s.heap.objs.size f cdv)).units + 64 < cLine := by have := hr.un; omega
    have nd := scLaw.nd
    refine ⟨_, pss_cons (ps_set (i := 1) nd rfl (.inl rfl) (pe_call T.ok hr1 (by rfl) T.at_ T.kp T.bd .nil pass0 (pa_cons (pv 0) (pa_cons pe_int pa_nil))))
      (pss_cons (ps_set (i := 2) nd rfl (.inl rfl) (pe_call Na.ok hr2 (by rfl) Na.at_ Na.kp Na.bd .nil pass0 (pa_cons (pv 1) (pa_cons (pe_op op_add pe_int (pe_call D.ok hr1 (by rfl) D.at_ D.kp D.bd .nil pass0 (pa_cons (pv 1) (pa_cons pe_int pa_nil)))) pa_nil))))
      (pss_cons (ps_set (i := 3) nd rfl (.inl rfl) (pe_call Po.ok hr2 (by rfl) Po.at_ Po.kp Po.bd .nil pass0 (pa_cons (pv 1) (pa_cons (pe_op op_add pe_int (pe_call D.ok hr1 (by rfl) D.at_ D.kp D.bd .nil pass0 (pa_cons (pv 1) (pa_cons
        (pe_ix ix_list (pe_lst (pa_cons pe_int (pa_cons pe_int (pa_cons pe_int (pa_cons pe_int pa_nil))))) (pe_op op_sub (pe_callB call_len_seq (by rfl) B.len PySem.boot_len (pa_cons (pv 2) pa_nil)) pe_int) (fun _ _ => rfl)) pa_nil)))) pa_nil))))
      (pss_cons (ps_set (i := 4) nd rfl (.inl rfl) (pe_call S.ok hr (by rfl) S.at_ S.kp S.bd .nil pass0 (pa_cons (pe_call T.ok hr1 (by rfl) T.at_ T.kp T.bd .nil pass0 (pa_cons (pv 0) (pa_cons pe_int pa_nil))) (pa_cons (pe_slice sl_list (pv 2) (po_some pe_int) po_none) (pa_cons (pv 3) (pa_cons pe_dnewK pa_nil))))))
      (pss_cons (ps_set (i := 5) nd rfl (.inl rfl) (pe_call S.ok hr (by rfl) S.at_ S.kp S.bd .nil pass0 (pa_cons (pe_call T.ok hr1 (by rfl) T.at_ T.kp T.bd .nil pass0 (pa_cons (pv 0) (pa_cons pe_int pa_nil))) (pa_cons (pe_slice sl_list (pv 2) (po_some pe_int) po_none) (pa_cons (pv 3) (pa_cons (pv 4) pa_nil))))))
      (pss_cons (ps_set (i := 6) nd rfl (.inl rfl) (pe_ix ix_list (pv 2) (pe_call D.ok hr1 (by rfl) D.at_ D.kp D.bd .nil pass0 (pa_cons (pv 1) (pa_cons (pe_callB call_len_seq (by rfl) B.len PySem.boot_len (pa_cons (pv 2) pa_nil)) pa_nil))) (fun _ _ => rfl)))
      (pss_cons (ps_for PassesOwn.never rfl (pi_list (pe_lst (pa_cons (pe_tup (pa_cons (pv 4) (pa_cons (pv 5) pa_nil))) (pa_cons (pe_tup (pa_cons (pv 5) (pa_cons (pv 4) pa_nil))) (pa_cons (pe_tup (pa_cons (pv 4) (pa_cons (pv 4) pa_nil))) pa_nil))))) (pg_name (i := 7) nd rfl (.inl rfl))
        (pss_one (ps_if (pt_not (pt_val (pe_call Tw.ok hr (by rfl) Tw.at_ Tw.kp Tw.bd .nil pass0 (pa_cons (pe_ix ix_tup (pv 7) pe_int (fun _ _ => rfl)) (pa_cons (pe_ix ix_tup (pv 7) pe_int (fun _ _ => rfl)) (pa_cons (pv 6) pa_nil)))))) (pss_one (ps_ret pe_bl)) pss_nil)))
      (pss_cons (ps_set (i := 8) nd rfl (.inl rfl) (pe_lst (pa_cons (pv 4) (pa_cons (pv 5) (pa_cons (pe_call Me.ok hr2 (by rfl) Me.at_ Me.kp Me.bd .nil pass0 (pa_cons (pv 4) (pa_cons (pv 5) pa_nil))) (pa_cons (pe_call Jo.ok hr3 (by rfl) Jo.at_ Jo.kp Jo.bd .nil pass0 (pa_cons (pv 4) (pa_cons (pv 5) (pa_cons (pv 6) pa_nil)))) pa_nil))))))
      (pss_cons (ps_setLc (i := 9) (own := [("_law_sides", 10)]) (g := gName 10) (tt := tYes) rfl nd rfl rfl (by rfl) (pi_list (pv 8)) (blkOk_by (N := nLaw) (sc := defScope sLaw) (by decide +kernel)) (fun _ _ _ _ _ => pg_name (i := 10) nd rfl (Or.inl rfl)) (fun _ _ _ _ _ => pts_nil)
          (fun _ _ _ _ _ => pe_call C.ok hr1 (by rfl) C.at_ C.kp C.bd .nil pass0 (pa_cons (pv 10) pa_nil)))
      (pss_cons (ps_if (PW.pt (pw_or (pt_not (pt_val (pe_call R.ok hr2 (by rfl) R.at_ R.kp R.bd .nil pass0 (pa_cons (pv 8) pa_nil)))) (pw_or (pt_not (pt_val (pe_call Pw.ok hr3 (by rfl) Pw.at_ Pw.kp Pw.bd .nil pass0 (pa_cons (pv 8) pa_nil))))
          (pw_or1 (pt_not (pt_val (pe_call Hd.ok hr2 (by rfl) Hd.at_ Hd.kp Hd.bd .nil pass0 (pa_cons (pv 8) (pa_cons (pv 2) (pa_cons (pv 3) pa_nil)))))))))) (pss_one (ps_ret pe_bl)) pss_nil)
      (pss_one (ps_ret (pe_and (pe_cmpR (op_eqV hu64) (pv 8) (pv 9) rfl) (pe_one (pe_cmpR (op_eqV hu64) (pe_slice sl_list (pv 9) (po_some pe_int) po_none)
          (pe_lst (pa_cons (pe_call LM.ok hr2 (by rfl) LM.at_ LM.kp LM.bd .nil pass0 (pa_cons (pv 4) (pa_cons (pv 5) pa_nil))) (pa_cons (pe_call LJ.ok hr3 (by rfl) LJ.at_ LJ.kp LJ.bd .nil pass0 (pa_cons (pv 4) (pa_cons (pv 5) (pa_cons (pv 6) pa_nil)))) pa_nil))) rfl)))))))))))))), ?_⟩
    -- the first stream, the names
    refine ⟨.ref a, rfl, a, sc, 0, rfl, ha, fun H1 p s1 np st1 => ?_⟩
    refine ⟨.ref p, rfl, .ref p, rfl, p, 4, rfl, st1, by decide, by decide, fun H2 c o2 st2 c0 c1 => ?_⟩
    obtain ⟨c, rfl⟩ : ∃ n : Nat, c = (n : Int) := ⟨c.toNat, by omega⟩
    refine ⟨2, (c : Int), rfl, rfl, p, 2 + c, ?_, st2, by omega, fun H3 nm xs k3 nnm st3 enm xnd xlen => ?_⟩
    · show [V.ref p, V.int (2 + (c : Int))] = [V.ref p, V.int ((2 + c : Nat) : Int)]
      rw [show (2 : Int) + (c : Int) = ((2 + c : Nat) : Int) by omega]
    -- the pool
    have nnp : nm ≠ p := fun z => st2.some (z ▸ nnm)
    refine ⟨.ref p, rfl, .ref p, rfl, by show 4 ≤ sizeLine; decide, fun t nt => ?_⟩
    have npt : p ≠ t := fun z => st3.some (z ▸ nt)
    have g1 := same_new (o := HO.lst [V.int 4, V.int 4, V.int 3, V.int 2]) nt
    obtain ⟨cv, hcv, cv1, cv2⟩ : ∃ cv : Int, atI [V.int 4, V.int 4, V.int 3, V.int 2] (((xs.map V.str).length : Int) - 2) = some (.int cv) ∧ 0 < cv ∧ cv ≤ 4 := by
      rw [List.length_map, xlen, show ((2 + c : Nat) : Int) - 2 = (c : Int) by omega]
      have : c = 0 ∨ c = 1 ∨ c = 2 ∨ c = 3 := by omega
      rcases this with e | e | e | e
      · exact ⟨4, by rw [e]; exact atI_nat (j := 0) rfl, by decide, by decide⟩
      · exact ⟨4, by rw [e]; exact atI_nat (j := 1) rfl, by decide, by decide⟩
      · exact ⟨3, by rw [e]; exact atI_nat (j := 2) rfl, by decide, by decide⟩
      · exact ⟨2, by rw [e]; exact atI_nat (j := 3) rfl, by decide, by decide⟩
    refine ⟨.ref nm, rfl, nm, _, rfl, .inl (sl_map (g1 _ _ enm)), _, 2, rfl, rfl, t, _, _, .int cv, rfl, rfl, sl_map upd_same, hcv, p, cv, rfl, st3.upd npt, cv1, by omega, fun H4 b o4 st4 b0 b1 => ?_⟩
    obtain ⟨b, rfl⟩ : ∃ n : Nat, b = (n : Int) := ⟨b.toNat, by omega⟩
    have k4 : Keep p H3 H4 := ((Keep.refl p H3).at_ nt).oth o4
    refine ⟨2, (b : Int), rfl, rfl, p, 2 + b, ?_, st4, by omega, by omega, fun H5 pl ns k5 npl st5 epl srt nlen => ?_⟩
    · show [V.ref p, V.int (2 + (b : Int))] = [V.ref p, V.int ((2 + b : Nat) : Int)]
      rw [show (2 : Int) + (b : Int) = ((2 + b : Nat) : Int) by omega]
    have n5 : ns.length ≤ 5 := by omega
    have nlp : pl ≠ p := fun z => st4.some (z ▸ npl)
    have enm5 : H5 nm = some (.lst (xs.map V.str)) := k5 _ _ nnp (k4 _ _ nnp enm)
    have k05 : Keep p H H5 := ((((Keep.same (p := p) s1).oth o2).trans k3).trans k4).trans k5
    have ha5 : SqL K H5 a (sc.map V.int) := sq_keep ha np k05
    clear enm k3 k4 k5 k05 o2 o4 s1 g1 nt st1 st2 st3 st4
    -- the first box
    refine ⟨.ref a, rfl, a, sc, 1, rfl, ha5, fun H6 p2 s6 np2 st6 => ?_⟩
    have enm6 := s6 _ _ enm5
    have epl6 := s6 _ _ epl
    refine ⟨.ref nm, rfl, _, rfl, nm, _, rfl, sl_map enm6, fun u nu => ?_⟩
    have ec : cutV (xs.map V.str) (some (1 : Int)) none = (xs.drop 1).map V.str := by
      rw [show (1 : Int) = ((1 : Nat) : Int) from rfl, cutV_from, List.map_drop]
    rw [ec]
    have h7 := same_new (o := HO.lst ((xs.drop 1).map V.str)) nu
    refine ⟨.ref pl, rfl, fun o no => ?_⟩
    have h8 := h7.trans (same_new (o := HO.dK []) no)
    have n2u : p2 ≠ u := fun z => st6.some (z ▸ nu)
    have n2o : p2 ≠ o := fun z => st6.some (z ▸ h7.free no)
    have nuo : u ≠ o := fun z => by rw [← z, upd_same] at no; cases no
    have n2l : p2 ≠ pl := fun z => by rw [z, epl] at np2; cases np2
    have n2m : p2 ≠ nm := fun z => by rw [z, enm5] at np2; cases np2
    have n2p : p2 ≠ p := fun z => by obtain ⟨_, _, _, e⟩ := st5; rw [z, e] at np2; cases np2
    have xd : (xs.drop 1).Nodup := List.Pairwise.sublist (List.drop_sublist 1 xs) xnd
    have xdl : (xs.drop 1).length ≤ 4 := by rw [List.length_drop]; omega
    refine ⟨p2, u, o, pl, xs.drop 1, [], ns, rfl, (st6.upd n2u).upd n2o, ⟨⟨.inl upd_same, (fun _ h => nomatch h), .nil, Nat.zero_le _⟩, upd_same⟩, h8 _ _ epl6, n2l, (fun _ h => nomatch h), srt, by omega, ⟨(fun _ h => nomatch h), (fun _ h => nomatch h)⟩, by rw [upd_ne nuo]; exact upd_same, xd, by omega, n2u, fun H9 d1 M1 k9 nb1 st9 z1 mk1 lm1 => ?_⟩
    have K9 : Keep p2 H5 H9 := (Keep.same (s6.trans h8)).trans k9
    have enm9 := K9 _ _ n2m.symm enm5
    have epl9 := K9 _ _ n2l.symm epl
    have st9p : Strm H9 p := st5.keep K9 n2p.symm
    have ha9 : SqL K H9 a (sc.map V.int) := sq_keep ha5 np2 K9
    have b9 : Bu H9 d1 M1 := nb1.toBu
    have aw1 : ∀ e ∈ M1, e.2.1 ≠ p := fun e he z => (st5.keep (Keep.same (p := p2) (s6.trans h8)) n2p.symm).some (z ▸ nb1.freshS e he)
    clear k9 K9 h7 h8 nu no st6 s6 enm6 epl6 nb1 st9 np2 ha5 enm5 epl n2u n2o n2l n2m n2p st5
    -- the second box
    refine ⟨.ref a, rfl, a, sc, 2, rfl, ha9, fun H10 p3 s10 np3 st10 => ?_⟩
    have enm10 := s10 _ _ enm9
    refine ⟨.ref nm, rfl, _, rfl, nm, _, rfl, sl_map enm10, fun u3 nu3 => ?_⟩
    rw [ec]
    have h11 := same_new (o := HO.lst ((xs.drop 1).map V.str)) nu3
    have n3u : p3 ≠ u3 := fun z => st10.some (z ▸ nu3)
    have n3l : p3 ≠ pl := fun z => by rw [z, epl9] at np3; cases np3
    have n3m : p3 ≠ nm := fun z => by rw [z, enm9] at np3; cases np3
    have n3p : p3 ≠ p := fun z => by obtain ⟨_, _, _, e⟩ := st9p; rw [z, e] at np3; cases np3
    have s11 := s10.trans h11
    have aw : ∀ e ∈ M1, e.2.1 ≠ p3 := fun e he z => by have := b9.sides e he; rw [z, np3] at this; cases this
    have b11 := b9.same' s11
    refine ⟨.ref pl, rfl, .ref d1, rfl, p3, u3, d1, pl, xs.drop 1, M1, ns, rfl, st10.upd n3u, b11, s11 _ _ epl9, n3l, aw, srt, by omega, z1, upd_same, xd, by omega, n3u, fun H12 d2 M2 k12 nb2 st12 z2 mk2 lm2 => ?_⟩
    have K12 : Keep p3 H9 H12 := (Keep.same s11).trans k12
    have enm12 := K12 _ _ n3m.symm enm9
    have epl12 := K12 _ _ n3l.symm epl9
    have st12p : Strm H12 p := st9p.keep K12 n3p.symm
    have b12 : Bu H12 d1 M1 := b11.keep (st10.upd n3u) k12 aw
    have c12 : Bu H12 d2 M2 := nb2.toBu
    have aw2 : ∀ e ∈ M2, e.2.1 ≠ p := fun e he z => (st9p.keep (Keep.same (p := p3) s11) n3p.symm).some (z ▸ nb2.freshS e he)
    clear k12 K12 h11 s11 nu3 st10 s10 enm10 nb2 st12 np3 ha9 enm9 epl9 n3u n3l n3m n3p st9p b9 b11 aw
    -- the name
    have xl2 : xs.length ≤ 5 := by omega
    refine ⟨.ref nm, rfl, .ref p, rfl, .ref nm, rfl, nm, _, rfl, .inl (sl_map enm12), p, _, rfl, st12p, ?_, ?_, fun H13 j o13 st13 j0 j1 => ?_⟩
    · rw [List.length_map]; omega
    · rw [List.length_map]; omega
    rw [List.length_map] at j1
    obtain ⟨j, rfl⟩ : ∃ n : Nat, j = (n : Int) := ⟨j.toNat, by omega⟩
    have hj : j < xs.length := by omega
    have gj : (xs.map V.str)[j]? = some (.str xs[j]) := by rw [List.getElem?_map, List.getElem?_eq_getElem hj]; rfl
    have K13 : Keep p H12 H13 := (Keep.refl p H12).oth o13
    have enm13 := K13 _ _ nnp enm12
    have epl13 := K13 _ _ nlp epl12
    have b13 := b12.keep st12p K13 aw1
    have c13 := c12.keep st12p K13 aw2
    refine ⟨nm, _, _, .str xs[j], rfl, rfl, sl_map enm13, atI_nat (j := j) gj, ?_⟩
    clear K13 o13 b12 c12 enm12 epl12 st12p st13 aw1 aw2
    generalize xs[j] = n
    have x1 : Sz M1 31 := z1.mono (by omega)
    have x2 : Sz M2 31 := z2.mono (by omega)
    have few : M1.length + M2.length ≤ 8 := by omega
    -- the three pairs
    refine ⟨.ref d1, rfl, .ref d2, rfl, by show 2 ≤ sizeLine; decide, fun t1 nt1 => ?_⟩
    have g1 := same_new (o := HO.tup [V.ref d1, V.ref d2]) nt1
    refine ⟨.ref d2, rfl, .ref d1, rfl, by show 2 ≤ sizeLine; decide, fun t2 nt2 => ?_⟩
    have g2 := same_new (o := HO.tup [V.ref d2, V.ref d1]) nt2
    refine ⟨.ref d1, rfl, .ref d1, rfl, by show 2 ≤ sizeLine; decide, fun t3 nt3 => ?_⟩
    have g3 := same_new (o := HO.tup [V.ref d1, V.ref d1]) nt3
    refine ⟨by show 3 ≤ sizeLine; decide, fun pr npr => ?_⟩
    have g4 := same_new (o := HO.lst [V.ref t1, V.ref t2, V.ref t3]) npr
    have gAll := g1.trans (g2.trans (g3.trans g4))
    have j1 := (g2.trans (g3.trans g4)) _ _ (upd_same (H := H13) (a := t1) (o := HO.tup [V.ref d1, V.ref d2]))
    have j2 := (g3.trans g4) _ _ (upd_same (H := upd H13 t1 (HO.tup [V.ref d1, V.ref d2])) (a := t2) (o := HO.tup [V.ref d2, V.ref d1]))
    have j3 := g4 _ _ (upd_same (H := upd (upd H13 t1 (HO.tup [V.ref d1, V.ref d2])) t2 (HO.tup [V.ref d2, V.ref d1])) (a := t3) (o := HO.tup [V.ref d1, V.ref d1]))
    have j4 := upd_same (H := upd (upd (upd H13 t1 (HO.tup [V.ref d1, V.ref d2])) t2 (HO.tup [V.ref d2, V.ref d1])) t3 (HO.tup [V.ref d1, V.ref d1])) (a := pr) (o := HO.lst [V.ref t1, V.ref t2, V.ref t3])
    have h1 := b13.same' gAll
    have h2 := c13.same' gAll
    have h3 := gAll _ _ enm13
    have h4 := gAll _ _ epl13
    clear b13 c13 enm13 epl13
    revert j1 j2 j3 j4 h1 h2 h3 h4
    clear g4 gAll
    generalize upd (upd (upd (upd H13 t1 (HO.tup [V.ref d1, V.ref d2])) t2 (HO.tup [V.ref d2, V.ref d1])) t3 (HO.tup [V.ref d1, V.ref d1])) pr (HO.lst [V.ref t1, V.ref t2, V.ref t3]) = G
    intro j1 j2 j3 j4 h1 h2 h3 h4
    refine ⟨pr, rfl, ⟨_, sl_map j4⟩, for_list (xs := [V.ref t1, V.ref t2, V.ref t3]) (fun i σ H' => ∃ y7, σ = [some (.ref a), some (.ref p), some (.ref nm), some (.ref pl), some (.ref d1), some (.ref d2), some (.str n), y7, none, none, none] ∧ Same G H') ⟨none, rfl, Same.refl _⟩ ?_ ?_ ?_⟩
    · rintro i σ H' _ ⟨y8, rfl, sm⟩
      exact sl_map (sm _ _ j4)
    · rintro i x σ H' hx ⟨y8, rfl, sm⟩
      have key : ∃ (t u v : Addr) (us vs : List Ent), x = .ref t ∧ G t = some (.tup [V.ref u, V.ref v]) ∧ Bu G u us ∧ Bu G v vs ∧ Sz us 31 ∧ Sz vs 31 ∧ us.length + vs.length ≤ 30 := by
        have hi := (List.getElem?_eq_some_iff.mp hx).1
        match i, hi with
        | 0, _ => exact ⟨t1, d1, d2, M1, M2, (Option.some.inj hx).symm, j1, h1, h2, x1, x2, by omega⟩
        | 1, _ => exact ⟨t2, d2, d1, M2, M1, (Option.some.inj hx).symm, j2, h2, h1, x2, x1, by omega⟩
        | 2, _ => exact ⟨t3, d1, d1, M1, M1, (Option.some.inj hx).symm, j3, h1, h1, x1, x1, by omega⟩
      obtain ⟨t, u, v, us, vs, rfl, et, eu, ev, su, sv, lu⟩ := key
      have tt : SqT K H' t [V.ref u, V.ref v] := .inl (.inl (sm _ _ et))
      refine ⟨.ref t, rfl, t, _, 0, .ref u, rfl, rfl, tt, atI_nat (j := 0) rfl, .ref t, rfl, t, _, 1, .ref v, rfl, rfl, tt, atI_nat (j := 1) rfl, .str n, rfl, u, v, n, us, vs, rfl, eu.same' sm, ev.same' sm, su, sv, lu, fun H'' s'' => ⟨true, rfl, iteF ?_⟩⟩
      exact ⟨_, rfl, sm.trans s''⟩
    · rintro σ H14 ⟨y7, rfl, sm⟩
      have h1 := h1.same' sm
      have h2 := h2.same' sm
      have h3 := sm _ _ h3
      have h4 := sm _ _ h4
      clear sm j1 j2 j3 j4 g1 g2 g3 npr nt1 nt2 nt3
      -- every box
      refine ⟨.ref d1, rfl, .ref d2, rfl, .ref d1, rfl, .ref d2, rfl, d1, d2, M1, M2, rfl, h1, h2, x1, x2, by omega, fun H15 d3 M3 s15 nb3 lk3 ln3 => ?_⟩
      refine ⟨.ref d1, rfl, .ref d2, rfl, .str n, rfl, d1, d2, n, M1, M2, rfl, h1.same' s15, h2.same' s15, x1, x2, by omega, fun H16 d4 M4 s16 nb4 lk4 ln4 => ⟨by show 4 ≤ sizeLine; decide, fun v nv => ?_⟩⟩
      have sv := same_new (o := HO.lst [V.ref d1, V.ref d2, V.ref d3, V.ref d4]) nv
      have sA := s15.trans (s16.trans sv)
      have w1 := h1.same' sA
      have w2 := h2.same' sA
      have w3 : Bu _ d3 M3 := nb3.toBu.same' (s16.trans sv)
      have w4 : Bu _ d4 M4 := nb4.toBu.same' sv
      have wm := sA _ _ h3
      have wp := sA _ _ h4
      have wv : (upd H16 v (.lst [V.ref d1, V.ref d2, V.ref d3, V.ref d4])) v = some (.lst [V.ref d1, V.ref d2, V.ref d3, V.ref d4]) := upd_same
      have q3 : Sz M3 31 := sides_ok nb3.nd _ lk3 fun x s h => mt_ok x1 x2 h
      have q4 : Sz M4 10 := sides_ok nb4.nd _ lk4 fun x s h => by have := jn_ok z1 z2 h; exact ⟨this.1, by omega⟩
      generalize upd H16 v (.lst [V.ref d1, V.ref d2, V.ref d3, V.ref d4]) = G1 at w1 w2 w3 w4 wm wp wv ⊢
      have bxs : Bxs G1 v [(d1, M1), (d2, M2), (d3, M3), (d4, M4)] := by
        refine ⟨wv, fun p hp => ?_, fun p hp => ?_⟩
        · simp only [List.mem_cons, List.not_mem_nil, or_false] at hp
          rcases hp with rfl | rfl | rfl | rfl
          · exact w1
          · exact w2
          · exact w3
          · exact w4
        · simp only [List.mem_cons, List.not_mem_nil, or_false] at hp
          rcases hp with rfl | rfl | rfl | rfl
          · exact x1.len
          · exact x2.len
          · exact q3.len
          · exact fun e he => by have := q4.len e he; omega
      clear sv sA nv s15 s16 h1 h2 h3 h4
      -- the copies
      refine ⟨.ref v, rfl, v, rfl, ⟨_, sl_map wv⟩, fun D nD => lc_list (xs := [(d1, M1), (d2, M2), (d3, M3), (d4, M4)].map fun p : Addr × List Ent => V.ref p.1) (fun i H' => Same G1 H' ∧ ∃ cs : List (Addr × List Ent), H' D = some (.lst (cs.map fun p => V.ref p.1)) ∧ cs.length = i ∧ ∀ (i : Nat) (c : Addr × List Ent), cs[i]? = some c → ∃ q : Addr × List Ent, [(d1, M1), (d2, M2), (d3, M3), (d4, M4)][i]? = some q ∧ Bu H' c.1 c.2 ∧ SameB q.2 c.2 ∧ ∀ e ∈ c.2, e.2.1 ≠ D)
        ⟨same_new nD, [], upd_same, rfl, fun i c h => by rw [List.getElem?_nil] at h; cases h⟩ (fun i H' _ h => h.1.seq (sl_map wv)) ?_ ?_⟩
      · rintro i x H' hx ⟨sm, cs, eD, lc, ok⟩
        rw [List.getElem?_map] at hx
        obtain ⟨⟨d, L⟩, hv, rfl⟩ := Option.map_eq_some_iff.mp hx
        have dm := List.mem_of_getElem? hv
        have hi : i < 4 := (List.getElem?_eq_some_iff.mp hv).1
        have bd : Bu H' d L := (bxs.same sm).box _ dm
        refine ⟨rfl, .ref d, rfl, d, L, rfl, bd, fun H3 c' M' s3 nb sh => ?_⟩
        have eD3 := s3 _ _ eD
        have nc : c' ≠ D := fun z => by have := nb.un; rw [z, eD3] at this; cases this
        have ncs : ∀ e ∈ M', e.2.1 ≠ D := fun e he z => by have := nb.freshS e he; rw [z, eD] at this; cases this
        refine ⟨_, eD3, ?_, same_at (sm.trans s3) nD, cs ++ [(c', M')], ?_, ?_, fun j c hc => ?_⟩
        · rw [List.length_map]
          exact small1000 (by omega)
        · rw [upd_same, List.map_append]
          rfl
        · rw [List.length_append, lc]
          rfl
        · rcases Nat.lt_or_ge j cs.length with h | h
          · rw [List.getElem?_append_left h] at hc
            obtain ⟨q, hq, bq, sq, aq⟩ := ok j c hc
            have b3 := bq.same' s3
            refine ⟨q, hq, b3.upd_at (fun z => by have := b3.un; rw [z, eD3] at this; cases this) aq, sq, aq⟩
          · rw [List.getElem?_append_right h] at hc
            have ej : j = i := by
              have := (List.getElem?_eq_some_iff.mp hc).1
              rw [List.length_singleton] at this
              omega
            subst ej
            rw [show j - cs.length = 0 by omega] at hc
            obtain rfl : (c', M') = c := Option.some.inj hc
            exact ⟨_, hv, nb.toBu.upd_at nc ncs, fun x => (look_shape sh x).symm, ncs⟩
      · rintro H' ⟨sm, cs, eD, lc, ok⟩
        obtain ⟨e1, e2, e3, e4, rfl⟩ : ∃ e1 e2 e3 e4, cs = [e1, e2, e3, e4] := by
          have lc' : cs.length = 4 := lc
          match cs, lc' with
          | [a, b, c, d], _ => exact ⟨a, b, c, d, rfl⟩
        obtain ⟨_, r1, be1, se1, _⟩ := ok 0 e1 rfl
        obtain rfl := (Option.some.inj r1).symm
        obtain ⟨_, r2, be2, se2, _⟩ := ok 1 e2 rfl
        obtain rfl := (Option.some.inj r2).symm
        obtain ⟨_, r3, be3, se3, _⟩ := ok 2 e3 rfl
        obtain rfl := (Option.some.inj r3).symm
        obtain ⟨_, r4, be4, se4, _⟩ := ok 3 e4 rfl
        obtain rfl := (Option.some.inj r4).symm
        have eD' : H' D = some (.lst [.ref e1.1, .ref e2.1, .ref e3.1, .ref e4.1]) := eD
        clear ok r1 r2 r3 r4 eD lc
        have bx := bxs.same sm
        refine ⟨.ref v, rfl, v, _, rfl, bx, fun H20 s20 => ⟨true, rfl, iteF ?_⟩⟩
        refine ⟨.ref v, rfl, v, _, rfl, bx.same s20, fun H21 s21 => ⟨true, rfl, iteF ?_⟩⟩
        have t21 := sm.trans (s20.trans s21)
        have xm1 : ∀ e ∈ M1, e.1 ∈ xs := fun e he => List.mem_of_mem_drop (mk1 e he)
        have xm2 : ∀ e ∈ M2, e.1 ∈ xs := fun e he => List.mem_of_mem_drop (mk2 e he)
        refine ⟨.ref v, rfl, .ref nm, rfl, .ref pl, rfl, v, nm, pl, d1, d2, d3, d4, M1, M2, M3, M4, xs, ns, rfl, bxs.same t21, t21 _ _ wm, xnd, by omega, xl2, t21 _ _ wp, n5, fun p hp => ?_, fun A0 _ => ⟨meet_sem w1.nd w2.nd w3.nd lk3, join_sem w1.nd w2.nd w4.nd lk4⟩, fun H22 s22 => ⟨true, rfl, iteF ?_⟩⟩
        · simp only [List.mem_cons, List.not_mem_nil, or_false] at hp
          rcases hp with rfl | rfl | rfl | rfl
          · exact xm1
          · exact xm2
          · exact mt_keys lk3 w3.nd xm1 xm2
          · exact jn_keys lk4 w4.nd xm1 xm2
        have u22 := s20.trans (s21.trans s22)
        have t22 := sm.trans u22
        refine ⟨.ref v, rfl, .ref D, rfl, 3, by decide, .inl ⟨v, D, _, _, rfl, rfl, sl_map (t22 _ _ wv), sl_map (u22 _ _ eD'), .cons (.inr (.inr (eqB (w1.same' t22) (be1.same' u22) se1))) (.cons (.inr (.inr (eqB (w2.same' t22) (be2.same' u22) se2))) (.cons (.inr (.inr (eqB (w3.same' t22) (be3.same' u22) se3))) (.cons (.inr (.inr (eqB (w4.same' t22) (be4.same' u22) se4))) .nil)))⟩, true, rfl, iteT ?_⟩
        refine ⟨.ref D, rfl, _, rfl, D, _, rfl, sl_map (u22 _ _ eD'), fun r nr => ?_⟩
        have er : cutV [V.ref e1.1, V.ref e2.1, V.ref e3.1, V.ref e4.1] (some (2 : Int)) none = [V.ref e3.1, V.ref e4.1] := by
          rw [show (2 : Int) = ((2 : Nat) : Int) from rfl, cutV_from]
          rfl
        rw [er]
        have sr := same_new (o := HO.lst [V.ref e3.1, V.ref e4.1]) nr
        have t23 := t22.trans sr
        refine ⟨.ref d1, rfl, .ref d2, rfl, d1, d2, M1, M2, rfl, w1.same' t23, w2.same' t23, x1, x2, by omega, fun H24 m3 X3 s24 nx3 lx3 _ => ?_⟩
        have t24 := t23.trans s24
        refine ⟨.ref d1, rfl, .ref d2, rfl, .str n, rfl, d1, d2, n, M1, M2, rfl, w1.same' t24, w2.same' t24, x1, x2, by omega, fun H25 m4 X4 s25 nx4 lx4 _ => ⟨by show 2 ≤ sizeLine; decide, fun r2 nr2 => ?_⟩⟩
        have sr2 := same_new (o := HO.lst [V.ref m3, V.ref m4]) nr2
        have u25 := sr.trans (s24.trans (s25.trans sr2))
        have ur := (s24.trans (s25.trans sr2)) _ _ (upd_same (H := H22) (a := r) (o := HO.lst [V.ref e3.1, V.ref e4.1]))
        refine ⟨3, by decide, .inl ⟨r, r2, _, _, rfl, rfl, sl_map ur, sl_map upd_same, .cons (.inr (.inr (eqB (be3.same' (u22.trans u25)) (nx3.toBu.same' (s25.trans sr2)) fun x => (se3 x).symm.trans ((lk3 x).trans (lx3 x).symm)))) (.cons (.inr (.inr (eqB (be4.same' (u22.trans u25)) (nx4.toBu.same' sr2) fun x => (se4 x).symm.trans ((lk4 x).trans (lx4 x).symm)))) .nil)⟩, q _⟩
end
end K4

set_option Elab.async false
set_option linter.all false
set_option maxRecDepth 100000
set_option maxHeartbeats 4000000
namespace K4
open PySem PySem.Spec PyProof.Rows L2 Cs
/-! ### what the top has written -/
theorem all_mk {l : PySem.W.OpenLaw} {w : World} {K : PySem.W.Frag} {h : Heap} {mg : Str → Option Value} {fa f1 f2 f3 f4 f5 f6 f7 f8 f9 f10 f11 f12 f13 f14 f15 f16 f17 f18 f19 f20 f21 f22 f23 f24 f25 f26 f27 f28 f29 f30 f31 f32 : Addr} (X : K.In h) (G : h.Ns mainGlobals mg) (hfa : mg "law" = some (.ref fa))
    {od1 an1 od2 an2 od3 an3 od4 an4 od5 an5 od6 an6 od7 an7 od8 an8 od9 an9 od10 an10 od11 an11 od12 an12 od13 an13 od14 an14 od15 an15 od16 an16 od17 an17 od18 an18 od19 an19 od20 an20 od21 an21 od22 an22 od23 an23 od24 an24 od25 an25 od26 an26 od27 an27 od28 an28 od29 an29 od30 an30 od31 an31 od32 an32 : Option Addr} {sl1 sl2 sl3 sl4 sl5 sl6 sl7 sl8 sl9 sl10 sl11 sl12 sl13 sl14 sl15 sl16 sl17 sl18 sl19 sl20 sl21 sl22 sl23 sl24 sl25 sl26 sl27 sl28 sl29 sl30 sl31 sl32 : Array (Option Value)}
    {oc1 kV1 dc1 pm1 cd1 ct1 oc2 kV2 dc2 pm2 cd2 ct2 oc3 kV3 dc3 pm3 cd3 ct3 oc4 kV4 dc4 pm4 cd4 ct4 oc5 kV5 dc5 pm5 cd5 ct5 oc6 kV6 dc6 pm6 cd6 ct6 oc7 kV7 dc7 pm7 cd7 ct7 oc8 kV8 dc8 pm8 cd8 ct8 oc9 kV9 dc9 pm9 cd9 ct9 oc10 kV10 dc10 pm10 cd10 ct10 oc11 kV11 dc11 pm11 cd11 ct11 oc12 kV12 dc12 pm12 cd12 ct12 oc13 kV13 dc13 pm13 cd13 ct13 oc14 kV14 dc14 pm14 cd14 ct14 oc15 kV15 dc15 pm15 cd15 ct15 oc16 kV16 dc16 pm16 cd16 ct16 oc17 kV17 dc17 pm17 cd17 ct17 oc18 kV18 dc18 pm18 cd18 ct18 oc19 kV19 dc19 pm19 cd19 ct19 oc20 kV20 dc20 pm20 cd20 ct20 oc21 kV21 dc21 pm21 cd21 ct21 oc22 kV22 dc22 pm22 cd22 ct22 oc23 kV23 dc23 pm23 cd23 ct23 oc24 kV24 dc24 pm24 cd24 ct24 oc25 kV25 dc25 pm25 cd25 ct25 oc26 kV26 dc26 pm26 cd26 ct26 oc27 kV27 dc27 pm27 cd27 ct27 oc28 kV28 dc28 pm28 cd28 ct28 oc29 kV29 dc29 pm29 cd29 ct29 oc30 kV30 dc30 pm30 cd30 ct30 oc31 kV31 dc31 pm31 cd31 ct31 oc32 kV32 dc32 pm32 cd32 ct32 : Value}
    (a1 : PySem.W.nsIn K mainGlobals "common" = some (some (.ref f1))) (l1 : K.lookup f1 = some ⟨oc1, od1, .func (PySem.W.fnOf "common" "common" (defArgs sCommon) (defBody sCommon) (defScope sCommon) .none kV1 dc1 pm1 an1 cd1 ct1), sl1⟩) (c1 : PySem.W.codeIn K cd1 "common" = true) (k1 : PySem.W.keepIn K (.ref f1) = true)
    (a2 : PySem.W.nsIn K mainGlobals "united" = some (some (.ref f2))) (l2 : K.lookup f2 = some ⟨oc2, od2, .func (PySem.W.fnOf "united" "united" (defArgs sUnited) (defBody sUnited) (defScope sUnited) .none kV2 dc2 pm2 an2 cd2 ct2), sl2⟩) (c2 : PySem.W.codeIn K cd2 "united" = true) (k2 : PySem.W.keepIn K (.ref f2) = true)
    (a3 : PySem.W.nsIn K mainGlobals "is_within" = some (some (.ref f3))) (l3 : K.lookup f3 = some ⟨oc3, od3, .func (PySem.W.fnOf "is_within" "is_within" (defArgs sWithin) (defBody sWithin) (defScope sWithin) .none kV3 dc3 pm3 an3 cd3 ct3), sl3⟩) (c3 : PySem.W.codeIn K cd3 "is_within" = true) (k3 : PySem.W.keepIn K (.ref f3) = true)
    (a4 : PySem.W.nsIn K mainGlobals "room" = some (some (.ref f4))) (l4 : K.lookup f4 = some ⟨oc4, od4, .func (PySem.W.fnOf "room" "room" (defArgs sRoom) (defBody sRoom) (defScope sRoom) .none kV4 dc4 pm4 an4 cd4 ct4), sl4⟩) (c4 : PySem.W.codeIn K cd4 "room" = true) (k4 : PySem.W.keepIn K (.ref f4) = true)
    (a5 : PySem.W.nsIn K mainGlobals "holds" = some (some (.ref f5))) (l5 : K.lookup f5 = some ⟨oc5, od5, .func (PySem.W.fnOf "holds" "holds" (defArgs sHolds) (defBody sHolds) (defScope sHolds) .none kV5 dc5 pm5 an5 cd5 ct5), sl5⟩) (c5 : PySem.W.codeIn K cd5 "holds" = true) (k5 : PySem.W.keepIn K (.ref f5) = true)
    (a6 : PySem.W.nsIn K mainGlobals "box_within" = some (some (.ref f6))) (l6 : K.lookup f6 = some ⟨oc6, od6, .func (PySem.W.fnOf "box_within" "box_within" (defArgs sBoxIn) (defBody sBoxIn) (defScope sBoxIn) .none kV6 dc6 pm6 an6 cd6 ct6), sl6⟩) (c6 : PySem.W.codeIn K cd6 "box_within" = true) (k6 : PySem.W.keepIn K (.ref f6) = true)
    (a7 : PySem.W.nsIn K mainGlobals "copied_box" = some (some (.ref f7))) (l7 : K.lookup f7 = some ⟨oc7, od7, .func (PySem.W.fnOf "copied_box" "copied_box" (defArgs sCopy) (defBody sCopy) (defScope sCopy) .none kV7 dc7 pm7 an7 cd7 ct7), sl7⟩) (c7 : PySem.W.codeIn K cd7 "copied_box" = true) (k7 : PySem.W.keepIn K (.ref f7) = true)
    (a8 : PySem.W.nsIn K mainGlobals "meet_boxes" = some (some (.ref f8))) (l8 : K.lookup f8 = some ⟨oc8, od8, .func (PySem.W.fnOf "meet_boxes" "meet_boxes" (defArgs sMeet) (defBody sMeet) (defScope sMeet) .none kV8 dc8 pm8 an8 cd8 ct8), sl8⟩) (c8 : PySem.W.codeIn K cd8 "meet_boxes" = true) (k8 : PySem.W.keepIn K (.ref f8) = true)
    (a9 : PySem.W.nsIn K mainGlobals "join_boxes" = some (some (.ref f9))) (l9 : K.lookup f9 = some ⟨oc9, od9, .func (PySem.W.fnOf "join_boxes" "join_boxes" (defArgs sJoin) (defBody sJoin) (defScope sJoin) .none kV9 dc9 pm9 an9 cd9 ct9), sl9⟩) (c9 : PySem.W.codeIn K cd9 "join_boxes" = true) (k9 : PySem.W.keepIn K (.ref f9) = true)
    (a10 : PySem.W.nsIn K mainGlobals "_law_is_integer" = some (some (.ref f10))) (l10 : K.lookup f10 = some ⟨oc10, od10, .func (PySem.W.fnOf "_law_is_integer" "_law_is_integer" (defArgs sIsInt) (defBody sIsInt) (defScope sIsInt) .none kV10 dc10 pm10 an10 cd10 ct10), sl10⟩) (c10 : PySem.W.codeIn K cd10 "_law_is_integer" = true) (k10 : PySem.W.keepIn K (.ref f10) = true)
    (a11 : PySem.W.nsIn K mainGlobals "_law_stream" = some (some (.ref f11))) (l11 : K.lookup f11 = some ⟨oc11, od11, .func (PySem.W.fnOf "_law_stream" "_law_stream" (defArgs sStream) (defBody sStream) (defScope sStream) .none kV11 dc11 pm11 an11 cd11 ct11), sl11⟩) (c11 : PySem.W.codeIn K cd11 "_law_stream" = true) (k11 : PySem.W.keepIn K (.ref f11) = true)
    (a12 : PySem.W.nsIn K mainGlobals "_law_next" = some (some (.ref f12))) (l12 : K.lookup f12 = some ⟨oc12, od12, .func (PySem.W.fnOf "_law_next" "_law_next" (defArgs sDraw) (defBody sDraw) (defScope sDraw) .none kV12 dc12 pm12 an12 cd12 ct12), sl12⟩) (c12 : PySem.W.codeIn K cd12 "_law_next" = true) (k12 : PySem.W.keepIn K (.ref f12) = true)
    (a13 : PySem.W.nsIn K mainGlobals "_law_names" = some (some (.ref f13))) (l13 : K.lookup f13 = some ⟨oc13, od13, .func (PySem.W.fnOf "_law_names" "_law_names" (defArgs sNames) (defBody sNames) (defScope sNames) .none kV13 dc13 pm13 an13 cd13 ct13), sl13⟩) (c13 : PySem.W.codeIn K cd13 "_law_names" = true) (k13 : PySem.W.keepIn K (.ref f13) = true)
    (a14 : PySem.W.nsIn K mainGlobals "_law_pool" = some (some (.ref f14))) (l14 : K.lookup f14 = some ⟨oc14, od14, .func (PySem.W.fnOf "_law_pool" "_law_pool" (defArgs sPool) (defBody sPool) (defScope sPool) .none kV14 dc14 pm14 an14 cd14 ct14), sl14⟩) (c14 : PySem.W.codeIn K cd14 "_law_pool" = true) (k14 : PySem.W.keepIn K (.ref f14) = true)
    (a15 : PySem.W.nsIn K mainGlobals "_law_part" = some (some (.ref f15))) (l15 : K.lookup f15 = some ⟨oc15, od15, .func (PySem.W.fnOf "_law_part" "_law_part" (defArgs sPart) (defBody sPart) (defScope sPart) .none kV15 dc15 pm15 an15 cd15 ct15), sl15⟩) (c15 : PySem.W.codeIn K cd15 "_law_part" = true) (k15 : PySem.W.keepIn K (.ref f15) = true)
    (a16 : PySem.W.nsIn K mainGlobals "_law_assignments" = some (some (.ref f16))) (l16 : K.lookup f16 = some ⟨oc16, od16, .func (PySem.W.fnOf "_law_assignments" "_law_assignments" (defArgs sAssign) (defBody sAssign) (defScope sAssign) .none kV16 dc16 pm16 an16 cd16 ct16), sl16⟩) (c16 : PySem.W.codeIn K cd16 "_law_assignments" = true) (k16 : PySem.W.keepIn K (.ref f16) = true)
    (a17 : PySem.W.nsIn K mainGlobals "_law_is_side" = some (some (.ref f17))) (l17 : K.lookup f17 = some ⟨oc17, od17, .func (PySem.W.fnOf "_law_is_side" "_law_is_side" (defArgs sIsSide) (defBody sIsSide) (defScope sIsSide) .none kV17 dc17 pm17 an17 cd17 ct17), sl17⟩) (c17 : PySem.W.codeIn K cd17 "_law_is_side" = true) (k17 : PySem.W.keepIn K (.ref f17) = true)
    (a18 : PySem.W.nsIn K mainGlobals "_law_same_sides" = some (some (.ref f18))) (l18 : K.lookup f18 = some ⟨oc18, od18, .func (PySem.W.fnOf "_law_same_sides" "_law_same_sides" (defArgs sSame) (defBody sSame) (defScope sSame) .none kV18 dc18 pm18 an18 cd18 ct18), sl18⟩) (c18 : PySem.W.codeIn K cd18 "_law_same_sides" = true) (k18 : PySem.W.keepIn K (.ref f18) = true)
    (a19 : PySem.W.nsIn K mainGlobals "_law_drawn_side" = some (some (.ref f19))) (l19 : K.lookup f19 = some ⟨oc19, od19, .func (PySem.W.fnOf "_law_drawn_side" "_law_drawn_side" (defArgs sDSide) (defBody sDSide) (defScope sDSide) .none kV19 dc19 pm19 an19 cd19 ct19), sl19⟩) (c19 : PySem.W.codeIn K cd19 "_law_drawn_side" = true) (k19 : PySem.W.keepIn K (.ref f19) = true)
    (a20 : PySem.W.nsIn K mainGlobals "_law_drawn_sides" = some (some (.ref f20))) (l20 : K.lookup f20 = some ⟨oc20, od20, .func (PySem.W.fnOf "_law_drawn_sides" "_law_drawn_sides" (defArgs sDSides) (defBody sDSides) (defScope sDSides) .none kV20 dc20 pm20 an20 cd20 ct20), sl20⟩) (c20 : PySem.W.codeIn K cd20 "_law_drawn_sides" = true) (k20 : PySem.W.keepIn K (.ref f20) = true)
    (a21 : PySem.W.nsIn K mainGlobals "_law_copied" = some (some (.ref f21))) (l21 : K.lookup f21 = some ⟨oc21, od21, .func (PySem.W.fnOf "_law_copied" "_law_copied" (defArgs sCopied) (defBody sCopied) (defScope sCopied) .none kV21 dc21 pm21 an21 cd21 ct21), sl21⟩) (c21 : PySem.W.codeIn K cd21 "_law_copied" = true) (k21 : PySem.W.keepIn K (.ref f21) = true)
    (a22 : PySem.W.nsIn K mainGlobals "_law_new" = some (some (.ref f22))) (l22 : K.lookup f22 = some ⟨oc22, od22, .func (PySem.W.fnOf "_law_new" "_law_new" (defArgs sLNew) (defBody sLNew) (defScope sLNew) .none kV22 dc22 pm22 an22 cd22 ct22), sl22⟩) (c22 : PySem.W.codeIn K cd22 "_law_new" = true) (k22 : PySem.W.keepIn K (.ref f22) = true)
    (a23 : PySem.W.nsIn K mainGlobals "_law_meet" = some (some (.ref f23))) (l23 : K.lookup f23 = some ⟨oc23, od23, .func (PySem.W.fnOf "_law_meet" "_law_meet" (defArgs sLMeet) (defBody sLMeet) (defScope sLMeet) .none kV23 dc23 pm23 an23 cd23 ct23), sl23⟩) (c23 : PySem.W.codeIn K cd23 "_law_meet" = true) (k23 : PySem.W.keepIn K (.ref f23) = true)
    (a24 : PySem.W.nsIn K mainGlobals "_law_join" = some (some (.ref f24))) (l24 : K.lookup f24 = some ⟨oc24, od24, .func (PySem.W.fnOf "_law_join" "_law_join" (defArgs sLJoin) (defBody sLJoin) (defScope sLJoin) .none kV24 dc24 pm24 an24 cd24 ct24), sl24⟩) (c24 : PySem.W.codeIn K cd24 "_law_join" = true) (k24 : PySem.W.keepIn K (.ref f24) = true)
    (a25 : PySem.W.nsIn K mainGlobals "_law_holds" = some (some (.ref f25))) (l25 : K.lookup f25 = some ⟨oc25, od25, .func (PySem.W.fnOf "_law_holds" "_law_holds" (defArgs sLHolds) (defBody sLHolds) (defScope sLHolds) .none kV25 dc25 pm25 an25 cd25 ct25), sl25⟩) (c25 : PySem.W.codeIn K cd25 "_law_holds" = true) (k25 : PySem.W.keepIn K (.ref f25) = true)
    (a26 : PySem.W.nsIn K mainGlobals "_law_within" = some (some (.ref f26))) (l26 : K.lookup f26 = some ⟨oc26, od26, .func (PySem.W.fnOf "_law_within" "_law_within" (defArgs sLWithin) (defBody sLWithin) (defScope sLWithin) .none kV26 dc26 pm26 an26 cd26 ct26), sl26⟩) (c26 : PySem.W.codeIn K cd26 "_law_within" = true) (k26 : PySem.W.keepIn K (.ref f26) = true)
    (a27 : PySem.W.nsIn K mainGlobals "_law_is" = some (some (.ref f27))) (l27 : K.lookup f27 = some ⟨oc27, od27, .func (PySem.W.fnOf "_law_is" "_law_is" (defArgs sLIs) (defBody sLIs) (defScope sLIs) .none kV27 dc27 pm27 an27 cd27 ct27), sl27⟩) (c27 : PySem.W.codeIn K cd27 "_law_is" = true) (k27 : PySem.W.keepIn K (.ref f27) = true)
    (a28 : PySem.W.nsIn K mainGlobals "_law_rooms" = some (some (.ref f28))) (l28 : K.lookup f28 = some ⟨oc28, od28, .func (PySem.W.fnOf "_law_rooms" "_law_rooms" (defArgs sRooms) (defBody sRooms) (defScope sRooms) .none kV28 dc28 pm28 an28 cd28 ct28), sl28⟩) (c28 : PySem.W.codeIn K cd28 "_law_rooms" = true) (k28 : PySem.W.keepIn K (.ref f28) = true)
    (a29 : PySem.W.nsIn K mainGlobals "_law_pairs_within" = some (some (.ref f29))) (l29 : K.lookup f29 = some ⟨oc29, od29, .func (PySem.W.fnOf "_law_pairs_within" "_law_pairs_within" (defArgs sPairs) (defBody sPairs) (defScope sPairs) .none kV29 dc29 pm29 an29 cd29 ct29), sl29⟩) (c29 : PySem.W.codeIn K cd29 "_law_pairs_within" = true) (k29 : PySem.W.keepIn K (.ref f29) = true)
    (a30 : PySem.W.nsIn K mainGlobals "_law_all_held" = some (some (.ref f30))) (l30 : K.lookup f30 = some ⟨oc30, od30, .func (PySem.W.fnOf "_law_all_held" "_law_all_held" (defArgs sHeld) (defBody sHeld) (defScope sHeld) .none kV30 dc30 pm30 an30 cd30 ct30), sl30⟩) (c30 : PySem.W.codeIn K cd30 "_law_all_held" = true) (k30 : PySem.W.keepIn K (.ref f30) = true)
    (a31 : PySem.W.nsIn K mainGlobals "_law_two" = some (some (.ref f31))) (l31 : K.lookup f31 = some ⟨oc31, od31, .func (PySem.W.fnOf "_law_two" "_law_two" (defArgs sTwo) (defBody sTwo) (defScope sTwo) .none kV31 dc31 pm31 an31 cd31 ct31), sl31⟩) (c31 : PySem.W.codeIn K cd31 "_law_two" = true) (k31 : PySem.W.keepIn K (.ref f31) = true)
    (a32 : PySem.W.nsIn K mainGlobals "law" = some (some (.ref f32))) (l32 : K.lookup f32 = some ⟨oc32, od32, .func (PySem.W.fnOf "law" "law" (defArgs sLaw) (defBody sLaw) (defScope sLaw) .none kV32 dc32 pm32 an32 cd32 ct32), sl32⟩) (c32 : PySem.W.codeIn K cd32 "law" = true) (k32 : PySem.W.keepIn K (.ref f32) = true)
    (z1 : PySem.W.nsIn K mainGlobals "sorted" = some none) (z2 : PySem.W.nsIn K mainGlobals "set" = some none) (z3 : PySem.W.nsIn K mainGlobals "len" = some none) (z4 : PySem.W.nsIn K mainGlobals "isinstance" = some none) (z5 : PySem.W.nsIn K mainGlobals "int" = some none) (z6 : PySem.W.nsIn K mainGlobals "bool" = some none) (z7 : PySem.W.nsIn K mainGlobals "list" = some none) (z8 : PySem.W.nsIn K mainGlobals "all" = some none) (z9 : PySem.W.nsIn K mainGlobals "range" = some none) (z10 : PySem.W.nsIn K mainGlobals "dict" = some none) :
    ∃ fd : FuncData, (∀ (s : Shared) (v : Value), BindsTo s fd ⟨[v], []⟩ [("_law_script", v)]) ∧ ∀ base : Heap, K.In base → base.Ns mainGlobals mg → FnOk l.prog w K mg base CX0 5 fa fd ["_law_script"] (spLaw K) := by
  have e := hfa.symm.trans (PySem.W.mg_of X G a32)
  cases e
  have B : Bt mg := ⟨PySem.W.mg_none_of X G z1, PySem.W.mg_none_of X G z2, PySem.W.mg_none_of X G z3, PySem.W.mg_none_of X G z4, PySem.W.mg_none_of X G z5, PySem.W.mg_none_of X G z6, PySem.W.mg_none_of X G z7, PySem.W.mg_none_of X G z8, PySem.W.mg_none_of X G z9, PySem.W.mg_none_of X G z10⟩
  have F1 := fun_mk (st := sCommon) l1 c1 k1
  have b1 := F1.binds (ps := ["first", "second"]) fun _ _ _ _ _ _ us hl => match us, hl with | [_, _], _ => rfl
  have F2 := fun_mk (st := sUnited) l2 c2 k2
  have b2 := F2.binds (ps := ["first", "second"]) fun _ _ _ _ _ _ us hl => match us, hl with | [_, _], _ => rfl
  have F3 := fun_mk (st := sWithin) l3 c3 k3
  have b3 := F3.binds (ps := ["first", "second"]) fun _ _ _ _ _ _ us hl => match us, hl with | [_, _], _ => rfl
  have F4 := fun_mk (st := sRoom) l4 c4 k4
  have b4 := F4.binds (ps := ["box"]) fun _ _ _ _ _ _ us hl => match us, hl with | [_], _ => rfl
  have F5 := fun_mk (st := sHolds) l5 c5 k5
  have b5 := F5.binds (ps := ["box", "values"]) fun _ _ _ _ _ _ us hl => match us, hl with | [_, _], _ => rfl
  have F6 := fun_mk (st := sBoxIn) l6 c6 k6
  have b6 := F6.binds (ps := ["inner", "outer"]) fun _ _ _ _ _ _ us hl => match us, hl with | [_, _], _ => rfl
  have F7 := fun_mk (st := sCopy) l7 c7 k7
  have b7 := F7.binds (ps := ["box"]) fun _ _ _ _ _ _ us hl => match us, hl with | [_], _ => rfl
  have F8 := fun_mk (st := sMeet) l8 c8 k8
  have b8 := F8.binds (ps := ["first", "second"]) fun _ _ _ _ _ _ us hl => match us, hl with | [_, _], _ => rfl
  have F9 := fun_mk (st := sJoin) l9 c9 k9
  have b9 := F9.binds (ps := ["first", "second", "name"]) fun _ _ _ _ _ _ us hl => match us, hl with | [_, _, _], _ => rfl
  have F10 := fun_mk (st := sIsInt) l10 c10 k10
  have b10 := F10.binds (ps := ["_law_actual"]) fun _ _ _ _ _ _ us hl => match us, hl with | [_], _ => rfl
  have F11 := fun_mk (st := sStream) l11 c11 k11
  have b11 := F11.binds (ps := ["_law_script", "_law_k"]) fun _ _ _ _ _ _ us hl => match us, hl with | [_, _], _ => rfl
  have F12 := fun_mk (st := sDraw) l12 c12 k12
  have b12 := F12.binds (ps := ["_law_stream_here", "_law_size"]) fun _ _ _ _ _ _ us hl => match us, hl with | [_, _], _ => rfl
  have F13 := fun_mk (st := sNames) l13 c13 k13
  have b13 := F13.binds (ps := ["_law_stream_here", "_law_count"]) fun _ _ _ _ _ _ us hl => match us, hl with | [_, _], _ => rfl
  have F14 := fun_mk (st := sPool) l14 c14 k14
  have b14 := F14.binds (ps := ["_law_stream_here", "_law_count"]) fun _ _ _ _ _ _ us hl => match us, hl with | [_, _], _ => rfl
  have F15 := fun_mk (st := sPart) l15 c15 k15
  have b15 := F15.binds (ps := ["_law_stream_here", "_law_side"]) fun _ _ _ _ _ _ us hl => match us, hl with | [_, _], _ => rfl
  have F16 := fun_mk (st := sAssign) l16 c16 k16
  have b16 := F16.binds (ps := ["_law_names_here", "_law_sides"]) fun _ _ _ _ _ _ us hl => match us, hl with | [_, _], _ => rfl
  have F17 := fun_mk (st := sIsSide) l17 c17 k17
  have b17 := F17.binds (ps := ["_law_actual"]) fun _ _ _ _ _ _ us hl => match us, hl with | [_], _ => rfl
  have F18 := fun_mk (st := sSame) l18 c18 k18
  have b18 := F18.binds (ps := ["_law_actual", "_law_expected"]) fun _ _ _ _ _ _ us hl => match us, hl with | [_, _], _ => rfl
  have F19 := fun_mk (st := sDSide) l19 c19 k19
  have b19 := F19.binds (ps := ["_law_stream_here", "_law_name", "_law_other", "_law_pool_here"]) fun _ _ _ _ _ _ us hl => match us, hl with | [_, _, _, _], _ => rfl
  have F20 := fun_mk (st := sDSides) l20 c20 k20
  have b20 := F20.binds (ps := ["_law_stream_here", "_law_names_here", "_law_pool_here", "_law_other"]) fun _ _ _ _ _ _ us hl => match us, hl with | [_, _, _, _], _ => rfl
  have F21 := fun_mk (st := sCopied) l21 c21 k21
  have b21 := F21.binds (ps := ["_law_sides"]) fun _ _ _ _ _ _ us hl => match us, hl with | [_], _ => rfl
  have F22 := fun_mk (st := sLNew) l22 c22 k22
  have b22 := F22.binds (ps := ["_law_told", "_law_expected"]) fun _ _ _ _ _ _ us hl => match us, hl with | [_, _], _ => rfl
  have F23 := fun_mk (st := sLMeet) l23 c23 k23
  have b23 := F23.binds (ps := ["_law_first", "_law_second"]) fun _ _ _ _ _ _ us hl => match us, hl with | [_, _], _ => rfl
  have F24 := fun_mk (st := sLJoin) l24 c24 k24
  have b24 := F24.binds (ps := ["_law_first", "_law_second", "_law_name"]) fun _ _ _ _ _ _ us hl => match us, hl with | [_, _, _], _ => rfl
  have F25 := fun_mk (st := sLHolds) l25 c25 k25
  have b25 := F25.binds (ps := ["_law_sides", "_law_values"]) fun _ _ _ _ _ _ us hl => match us, hl with | [_, _], _ => rfl
  have F26 := fun_mk (st := sLWithin) l26 c26 k26
  have b26 := F26.binds (ps := ["_law_inner", "_law_outer"]) fun _ _ _ _ _ _ us hl => match us, hl with | [_, _], _ => rfl
  have F27 := fun_mk (st := sLIs) l27 c27 k27
  have b27 := F27.binds (ps := ["_law_told", "_law_expected"]) fun _ _ _ _ _ _ us hl => match us, hl with | [_, _], _ => rfl
  have F28 := fun_mk (st := sRooms) l28 c28 k28
  have b28 := F28.binds (ps := ["_law_every"]) fun _ _ _ _ _ _ us hl => match us, hl with | [_], _ => rfl
  have F29 := fun_mk (st := sPairs) l29 c29 k29
  have b29 := F29.binds (ps := ["_law_every"]) fun _ _ _ _ _ _ us hl => match us, hl with | [_], _ => rfl
  have F30 := fun_mk (st := sHeld) l30 c30 k30
  have b30 := F30.binds (ps := ["_law_every", "_law_names_here", "_law_pool_here"]) fun _ _ _ _ _ _ us hl => match us, hl with | [_, _, _], _ => rfl
  have F31 := fun_mk (st := sTwo) l31 c31 k31
  have b31 := F31.binds (ps := ["_law_first", "_law_second", "_law_name"]) fun _ _ _ _ _ _ us hl => match us, hl with | [_, _, _], _ => rfl
  have F32 := fun_mk (st := sLaw) l32 c32 k32
  refine ⟨PySem.W.fnOf "law" "law" (defArgs sLaw) (defBody sLaw) (defScope sLaw) .none kV32 dc32 pm32 an32 cd32 ct32, fun s v => .of_eq rfl, fun base _ _ => ?_⟩
  have C1 : Call l.prog w K mg base 1 "common" f1 _ ["first", "second"] (spTwo K fun ns ks k => k ∈ ns ∧ k ∈ ks) := ⟨ok_common F1 B, PySem.W.mg_of X G a1, k1, b1⟩
  have C2 : Call l.prog w K mg base 1 "united" f2 _ ["first", "second"] (spTwo K fun ns ks k => k ∈ ns ∨ k ∈ ks) := ⟨ok_united F2 B, PySem.W.mg_of X G a2, k2, b2⟩
  have C3 : Call l.prog w K mg base 1 "is_within" f3 _ ["first", "second"] (spWithin K) := ⟨ok_within F3 B, PySem.W.mg_of X G a3, k3, b3⟩
  have C4 : Call l.prog w K mg base 1 "room" f4 _ ["box"] spRoom := ⟨ok_room F4 B, PySem.W.mg_of X G a4, k4, b4⟩
  have C5 : Call l.prog w K mg base 1 "holds" f5 _ ["box", "values"] spHolds := ⟨ok_holds F5 B, PySem.W.mg_of X G a5, k5, b5⟩
  have C6 : Call l.prog w K mg base 2 "box_within" f6 _ ["inner", "outer"] spBoxIn := ⟨ok_boxIn F6 B C3, PySem.W.mg_of X G a6, k6, b6⟩
  have C7 : Call l.prog w K mg base 1 "copied_box" f7 _ ["box"] spCopy := ⟨ok_copy F7 B, PySem.W.mg_of X G a7, k7, b7⟩
  have C8 : Call l.prog w K mg base 2 "meet_boxes" f8 _ ["first", "second"] spMeet := ⟨ok_meet F8 B C7 C1, PySem.W.mg_of X G a8, k8, b8⟩
  have C9 : Call l.prog w K mg base 3 "join_boxes" f9 _ ["first", "second", "name"] spJoin := ⟨ok_join F9 B C8 C2, PySem.W.mg_of X G a9, k9, b9⟩
  have C10 : Call l.prog w K mg base 1 "_law_is_integer" f10 _ ["_law_actual"] spIsInt := ⟨ok_isInt F10 B, PySem.W.mg_of X G a10, k10, b10⟩
  have C11 : Call l.prog w K mg base 1 "_law_stream" f11 _ ["_law_script", "_law_k"] (spStream K) := ⟨ok_stream F11 B, PySem.W.mg_of X G a11, k11, b11⟩
  have C12 : Call l.prog w K mg base 1 "_law_next" f12 _ ["_law_stream_here", "_law_size"] spDraw := ⟨ok_draw F12 B, PySem.W.mg_of X G a12, k12, b12⟩
  have C13 : Call l.prog w K mg base 2 "_law_names" f13 _ ["_law_stream_here", "_law_count"] spNames := ⟨ok_names F13 B C12, PySem.W.mg_of X G a13, k13, b13⟩
  have C14 : Call l.prog w K mg base 2 "_law_pool" f14 _ ["_law_stream_here", "_law_count"] spPool := ⟨ok_pool F14 B C12, PySem.W.mg_of X G a14, k14, b14⟩
  have C15 : Call l.prog w K mg base 2 "_law_part" f15 _ ["_law_stream_here", "_law_side"] (spPart K) := ⟨ok_part F15 B C12, PySem.W.mg_of X G a15, k15, b15⟩
  have C16 : Call l.prog w K mg base 1 "_law_assignments" f16 _ ["_law_names_here", "_law_sides"] spAssign := ⟨ok_assign F16 B, PySem.W.mg_of X G a16, k16, b16⟩
  have C17 : Call l.prog w K mg base 2 "_law_is_side" f17 _ ["_law_actual"] spIsSide := ⟨ok_isSide F17 B C10, PySem.W.mg_of X G a17, k17, b17⟩
  have C18 : Call l.prog w K mg base 3 "_law_same_sides" f18 _ ["_law_actual", "_law_expected"] spSame := ⟨ok_same F18 B C17, PySem.W.mg_of X G a18, k18, b18⟩
  have C19 : Call l.prog w K mg base 3 "_law_drawn_side" f19 _ ["_law_stream_here", "_law_name", "_law_other", "_law_pool_here"] spDSide := ⟨ok_dside F19 B C12 C15, PySem.W.mg_of X G a19, k19, b19⟩
  have C20 : Call l.prog w K mg base 4 "_law_drawn_sides" f20 _ ["_law_stream_here", "_law_names_here", "_law_pool_here", "_law_other"] spDSides := ⟨ok_dsides F20 B C12 C19, PySem.W.mg_of X G a20, k20, b20⟩
  have C21 : Call l.prog w K mg base 1 "_law_copied" f21 _ ["_law_sides"] spCopy := ⟨ok_copied F21 B, PySem.W.mg_of X G a21, k21, b21⟩
  have C22 : Call l.prog w K mg base 1 "_law_new" f22 _ ["_law_told", "_law_expected"] spLNew := ⟨ok_lnew F22 B, PySem.W.mg_of X G a22, k22, b22⟩
  have C23 : Call l.prog w K mg base 2 "_law_meet" f23 _ ["_law_first", "_law_second"] spLMeet := ⟨ok_lmeet F23 B C21, PySem.W.mg_of X G a23, k23, b23⟩
  have C24 : Call l.prog w K mg base 3 "_law_join" f24 _ ["_law_first", "_law_second", "_law_name"] spJoin := ⟨ok_ljoin F24 B C23, PySem.W.mg_of X G a24, k24, b24⟩
  have C25 : Call l.prog w K mg base 1 "_law_holds" f25 _ ["_law_sides", "_law_values"] spHolds := ⟨ok_lholds F25 B, PySem.W.mg_of X G a25, k25, b25⟩
  have C26 : Call l.prog w K mg base 1 "_law_within" f26 _ ["_law_inner", "_law_outer"] spLWithin := ⟨ok_lwithin F26 B, PySem.W.mg_of X G a26, k26, b26⟩
  have C27 : Call l.prog w K mg base 1 "_law_is" f27 _ ["_law_told", "_law_expected"] spLIs := ⟨ok_lis F27 B, PySem.W.mg_of X G a27, k27, b27⟩
  have C28 : Call l.prog w K mg base 2 "_law_rooms" f28 _ ["_law_every"] spEvery := ⟨ok_rooms F28 B C4 C10, PySem.W.mg_of X G a28, k28, b28⟩
  have C29 : Call l.prog w K mg base 3 "_law_pairs_within" f29 _ ["_law_every"] spEvery := ⟨ok_pairs F29 B C6 C26 C27, PySem.W.mg_of X G a29, k29, b29⟩
  have C30 : Call l.prog w K mg base 2 "_law_all_held" f30 _ ["_law_every", "_law_names_here", "_law_pool_here"] spHeld := ⟨ok_held F30 B C16 C5 C25 C27, PySem.W.mg_of X G a30, k30, b30⟩
  have C31 : Call l.prog w K mg base 4 "_law_two" f31 _ ["_law_first", "_law_second", "_law_name"] spTwoL := ⟨ok_two F31 B C21 C8 C9 C18 C23 C24 C22, PySem.W.mg_of X G a31, k31, b31⟩
  exact ok_law F32 B C11 C12 C13 C14 C20 C31 C8 C9 C21 C28 C29 C30 C23 C24
theorem walk {l : PySem.W.OpenLaw} {q : Program} {loose : List Str} {XP : (Str → Option Value) → Heap → Prop} {YP : World → Heap → Prop} {d : DefRec} {K : Params → PySem.W.Frag} (hn : l.most = some 63) (hdf : d.params.defaults = [])
    (hY : ∀ (w : World) (h : Heap), YP w h → (K w.params).In h)
    (F : ∀ (w : World) (mg : Str → Option Value) (fa : Addr) (h : Heap), (K w.params).In h → h.Ns mainGlobals mg → mg d.name = some (.ref fa) →
      ∃ fd : FuncData, (∀ (s : Shared) (u : Value), BindsTo s fd ⟨[u], []⟩ [("_law_script", u)]) ∧ ∀ base : Heap, (K w.params).In base → base.Ns mainGlobals mg → FnOk l.prog w (K w.params) mg base CX0 5 fa fd ["_law_script"] (spLaw (K w.params))) :
    PySem.W.WalkO q loose XP YP l.row.toRowW d [] (fun f vs => PySem.call f vs) :=
  L2.walk_of (n := 63) (k := 5) (x := "_law_script") (CX := fun _ => CX0) (sp := fun w => spLaw (K w.params)) hn (by decide) hdf ⟨rfl, by decide, by decide⟩ hY F (fun _ _ a ns hl _ hS => ⟨a, ns, rfl, hS, hl, fun _ => rfl⟩) fun _ _ _ _ _ z => z
end K4
open PySem PySem.W PyProof.Rows
set_option maxRecDepth 100000 in
set_option maxHeartbeats 0 in
theorem PySem.Challenge.cw_curbdesk_k04_meet_and_join_of_boxes_holds : PySem.Challenge.rw_curbdesk_k04_meet_and_join_of_boxes.Holds := by
  w_on; o_law; k_head; (case hw => w_witness2)
  k_fill
  refine K4.walk (l := PySem.Challenge.rw_curbdesk_k04_meet_and_join_of_boxes) rfl rfl (fun w h Y => PySem.W.kIn_of Y) ?F
  case F =>
    intro w mg fa h KX G hmg
    refine' K4.all_mk KX G hmg ?a1 ?l1 ?c1 ?k1 ?a2 ?l2 ?c2 ?k2 ?a3 ?l3 ?c3 ?k3 ?a4 ?l4 ?c4 ?k4 ?a5 ?l5 ?c5 ?k5 ?a6 ?l6 ?c6 ?k6 ?a7 ?l7 ?c7 ?k7 ?a8 ?l8 ?c8 ?k8 ?a9 ?l9 ?c9 ?k9 ?a10 ?l10 ?c10 ?k10 ?a11 ?l11 ?c11 ?k11 ?a12 ?l12 ?c12 ?k12 ?a13 ?l13 ?c13 ?k13 ?a14 ?l14 ?c14 ?k14 ?a15 ?l15 ?c15 ?k15 ?a16 ?l16 ?c16 ?k16 ?a17 ?l17 ?c17 ?k17 ?a18 ?l18 ?c18 ?k18 ?a19 ?l19 ?c19 ?k19 ?a20 ?l20 ?c20 ?k20 ?a21 ?l21 ?c21 ?k21 ?a22 ?l22 ?c22 ?k22 ?a23 ?l23 ?c23 ?k23 ?a24 ?l24 ?c24 ?k24 ?a25 ?l25 ?c25 ?k25 ?a26 ?l26 ?c26 ?k26 ?a27 ?l27 ?c27 ?k27 ?a28 ?l28 ?c28 ?k28 ?a29 ?l29 ?c29 ?k29 ?a30 ?l30 ?c30 ?k30 ?a31 ?l31 ?c31 ?k31 ?a32 ?l32 ?c32 ?k32 ?z1 ?z2 ?z3 ?z4 ?z5 ?z6 ?z7 ?z8 ?z9 ?z10
    (case a1 => k_is)
    (case l1 => k_is)
    (case c1 => k_is)
    (case k1 => k_is)
    (case a2 => k_is)
    (case l2 => k_is)
    (case c2 => k_is)
    (case k2 => k_is)
    (case a3 => k_is)
    (case l3 => k_is)
    (case c3 => k_is)
    (case k3 => k_is)
    (case a4 => k_is)
    (case l4 => k_is)
    (case c4 => k_is)
    (case k4 => k_is)
    (case a5 => k_is)
    (case l5 => k_is)
    (case c5 => k_is)
    (case k5 => k_is)
    (case a6 => k_is)
    (case l6 => k_is)
    (case c6 => k_is)
    (case k6 => k_is)
    (case a7 => k_is)
    (case l7 => k_is)
    (case c7 => k_is)
    (case k7 => k_is)
    (case a8 => k_is)
    (case l8 => k_is)
    (case c8 => k_is)
    (case k8 => k_is)
    (case a9 => k_is)
    (case l9 => k_is)
    (case c9 => k_is)
    (case k9 => k_is)
    (case a10 => k_is)
    (case l10 => k_is)
    (case c10 => k_is)
    (case k10 => k_is)
    (case a11 => k_is)
    (case l11 => k_is)
    (case c11 => k_is)
    (case k11 => k_is)
    (case a12 => k_is)
    (case l12 => k_is)
    (case c12 => k_is)
    (case k12 => k_is)
    (case a13 => k_is)
    (case l13 => k_is)
    (case c13 => k_is)
    (case k13 => k_is)
    (case a14 => k_is)
    (case l14 => k_is)
    (case c14 => k_is)
    (case k14 => k_is)
    (case a15 => k_is)
    (case l15 => k_is)
    (case c15 => k_is)
    (case k15 => k_is)
    (case a16 => k_is)
    (case l16 => k_is)
    (case c16 => k_is)
    (case k16 => k_is)
    (case a17 => k_is)
    (case l17 => k_is)
    (case c17 => k_is)
    (case k17 => k_is)
    (case a18 => k_is)
    (case l18 => k_is)
    (case c18 => k_is)
    (case k18 => k_is)
    (case a19 => k_is)
    (case l19 => k_is)
    (case c19 => k_is)
    (case k19 => k_is)
    (case a20 => k_is)
    (case l20 => k_is)
    (case c20 => k_is)
    (case k20 => k_is)
    (case a21 => k_is)
    (case l21 => k_is)
    (case c21 => k_is)
    (case k21 => k_is)
    (case a22 => k_is)
    (case l22 => k_is)
    (case c22 => k_is)
    (case k22 => k_is)
    (case a23 => k_is)
    (case l23 => k_is)
    (case c23 => k_is)
    (case k23 => k_is)
    (case a24 => k_is)
    (case l24 => k_is)
    (case c24 => k_is)
    (case k24 => k_is)
    (case a25 => k_is)
    (case l25 => k_is)
    (case c25 => k_is)
    (case k25 => k_is)
    (case a26 => k_is)
    (case l26 => k_is)
    (case c26 => k_is)
    (case k26 => k_is)
    (case a27 => k_is)
    (case l27 => k_is)
    (case c27 => k_is)
    (case k27 => k_is)
    (case a28 => k_is)
    (case l28 => k_is)
    (case c28 => k_is)
    (case k28 => k_is)
    (case a29 => k_is)
    (case l29 => k_is)
    (case c29 => k_is)
    (case k29 => k_is)
    (case a30 => k_is)
    (case l30 => k_is)
    (case c30 => k_is)
    (case k30 => k_is)
    (case a31 => k_is)
    (case l31 => k_is)
    (case c31 => k_is)
    (case k31 => k_is)
    (case a32 => k_is)
    (case l32 => k_is)
    (case c32 => k_is)
    (case k32 => k_is)
    (case z1 => k_is)
    (case z2 => k_is)
    (case z3 => k_is)
    (case z4 => k_is)
    (case z5 => k_is)
    (case z6 => k_is)
    (case z7 => k_is)
    (case z8 => k_is)
    (case z9 => k_is)
    (case z10 => k_is)
