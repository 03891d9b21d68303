import PyProof.Rows.All
import Wide.All
import OpenK.AllK
import Wide.FinOn
import HandS.ForMost
import HandS.Strs
import HandS.Set
import HandS.SetFor
import HandS.TupSets
import HandS.IsInst
import HandS.Flow
import HandS.Style
import HandS.Zip
import HandS.SortInts
import HandS.DeepEq
import HandS.SetBool
import HandS.SetKeys
import HandS.ExcInit
import HandS.ExcField
import HandS.ExcOwn
import HandS.WordsExc
import HandS.ExcIs
import KE.KExcIs
import HandS.DictComp
import HandS.OwnEq
import HandS.Walk
import PyProof.DictUpdate
import HandS.Deep
import PySem.Challenge.RW_curbdesk_k05_covered_by_two
set_option Elab.async false
set_option linter.all false
set_option maxRecDepth 100000
/-! Tables of sets that are laid anew, for the masks that merging asks for. -/
namespace Cs
open PySem PySem.Spec PyProof.Rows

def hop (m : Nat) (q : Nat × Nat) : Nat × Nat := SetTable.leap m q.1 q.2
def hops (m : Nat) : Nat → Nat × Nat → Nat × Nat
  | 0, q => q
  | n + 1, q => hops m n (hop m q)
abbrev own (ow : Array (Option Nat)) (j : Nat) : Option Nat := ow.getD j (some 0)

theorem free_step (m : Nat) (ow : Array (Option Nat)) (f : Nat) (q : Nat × Nat) : SetTable.layClean.free m ow (f + 1) q.1 q.2 =
    (match (List.range (SetTable.runEnd m q.1 + 1 - q.1)).find? (fun k => (own ow (q.1 + k)).isNone) with
      | some k => some (q.1 + k)
      | none => SetTable.layClean.free m ow f (hop m q).1 (hop m q).2) := rfl
theorem run_ge (m i : Nat) : i ≤ SetTable.runEnd m i := by
  unfold SetTable.runEnd
  split <;> omega
theorem run_le {m i : Nat} (h : i ≤ m) : SetTable.runEnd m i ≤ m := by
  unfold SetTable.runEnd
  split <;> omega
theorem hop_le (m : Nat) (q : Nat × Nat) : (hop m q).1 ≤ m := Nat.le_of_lt_succ (Nat.mod_lt _ (Nat.succ_pos m))

theorem free_none (m : Nat) (ow : Array (Option Nat)) : ∀ (f : Nat) (q : Nat × Nat), SetTable.layClean.free m ow f q.1 q.2 = none → ∀ n, n < f → (own ow (hops m n q).1).isNone = false
  | 0, _, _, n, h => absurd h (Nat.not_lt_zero n)
  | f + 1, q, e, n, h => by
    rw [free_step] at e
    cases c : (List.range (SetTable.runEnd m q.1 + 1 - q.1)).find? (fun k => (own ow (q.1 + k)).isNone) with
    | some k => rw [c] at e; exact nomatch e
    | none =>
      rw [c] at e
      cases n with
      | zero =>
        have z := List.find?_eq_none.mp c 0 (List.mem_range.mpr (by have := run_ge m q.1; omega))
        have z2 : ¬ ((own ow q.1).isNone = true) := z
        exact Bool.eq_false_iff.mpr z2
      | succ n => exact free_none m ow f (hop m q) e n (by omega)

theorem free_some (m : Nat) (ow : Array (Option Nat)) : ∀ (f : Nat) (q : Nat × Nat) (j : Nat), SetTable.layClean.free m ow f q.1 q.2 = some j → q.1 ≤ m → j ≤ m ∧ (own ow j).isNone = true
  | 0, _, _, e, _ => nomatch e
  | f + 1, q, j, e, hq => by
    rw [free_step] at e
    cases c : (List.range (SetTable.runEnd m q.1 + 1 - q.1)).find? (fun k => (own ow (q.1 + k)).isNone) with
    | some k =>
      rw [c] at e
      have ej : q.1 + k = j := Option.some.inj e
      have h1 := List.mem_of_find?_eq_some c
      have h2 := List.find?_some c
      have h3 := List.mem_range.mp h1
      have h4 := run_le hq
      rw [← ej]
      exact ⟨by omega, h2⟩
    | none =>
      rw [c] at e
      exact free_some m ow f (hop m q) j e (hop_le m q)

theorem hops_back (m : Nat) : ∀ (n : Nat) (q : Nat × Nat), hops m (n + 1) q = hop m (hops m n q)
  | 0, _ => rfl
  | n + 1, q => hops_back m n (hop m q)
theorem hops_add (m : Nat) (a : Nat) : ∀ (k : Nat) (q : Nat × Nat), hops m (a + k) q = hops m k (hops m a q)
  | 0, _ => rfl
  | k + 1, q => by
    rw [show a + (k + 1) = (a + k) + 1 from rfl, hops_back, hops_back, hops_add m a k q]
theorem hops_snd (m : Nat) : ∀ (n : Nat) (q : Nat × Nat), (hops m n q).2 = q.2 / 32 ^ n
  | 0, q => (Nat.div_one q.2).symm
  | n + 1, q => by
    rw [hops_back]
    show (hops m n q).2 / 32 = _
    rw [hops_snd m n q, Nat.div_div_eq_div_mul, Nat.pow_succ]
theorem hops_fst_le (m : Nat) {q : Nat × Nat} (hq : q.1 ≤ m) : ∀ n, (hops m n q).1 ≤ m
  | 0 => hq
  | n + 1 => by rw [hops_back]; exact hop_le m _
theorem hops_zero (m i : Nat) : ∀ k, hops m k (i, 0) = (L2.lcgI m i k, 0)
  | 0 => rfl
  | k + 1 => by
    rw [hops_back, hops_zero m i k]
    show ((L2.lcgI m i k * 5 + 1 + 0 / 32) % (m + 1), 0 / 32) = _
    rw [Nat.zero_div, Nat.add_zero] <;> rfl

def Msk (m : Nat) : Prop := m = 7 ∨ m = 15 ∨ m = 31 ∨ m = 63 ∨ m = 127
def meetsAll (m : Nat) : Bool := (List.range (m + 1)).all fun i => (List.range (m + 1)).all fun j => (List.range (m + 1)).any fun k => L2.lcgI m i k == j
theorem lcg_of {m : Nat} (h : meetsAll m = true) {i j : Nat} (hi : i ≤ m) (hj : j ≤ m) : ∃ k, k ≤ m ∧ L2.lcgI m i k = j := by
  have h1 := List.all_eq_true.mp (List.all_eq_true.mp h i (List.mem_range.mpr (by omega))) j (List.mem_range.mpr (by omega))
  obtain ⟨k, hk, e⟩ := List.any_eq_true.mp h1
  exact ⟨k, Nat.le_of_lt_succ (List.mem_range.mp hk), eq_of_beq e⟩
/- one round from 0, then the shift -/
theorem all15 : ((List.range 16).all fun j => (List.range 16).any fun b => L2.lcgN 15 b == j) = true := by decide +kernel
theorem all63 : ((List.range 64).all fun j => (List.range 64).any fun b => L2.lcgN 63 b == j) = true := by decide +kernel
theorem round15 : L2.lcgN 15 16 = 0 := by decide +kernel
theorem round63 : L2.lcgN 63 64 = 0 := by decide +kernel
theorem turn_mod {m : Nat} (h : L2.lcgN m (m + 1) = 0) : ∀ k, L2.lcgN m (m + 1 + k) = L2.lcgN m k
  | 0 => h
  | k + 1 => by
    show (L2.lcgN m (m + 1 + k) * 5 + 1) % (m + 1) = (L2.lcgN m k * 5 + 1) % (m + 1)
    rw [turn_mod h k]
theorem lcg_by {m : Nat} (hr : L2.lcgN m (m + 1) = 0) (ha : ((List.range (m + 1)).all fun j => (List.range (m + 1)).any fun b => L2.lcgN m b == j) = true) {i j : Nat} (hi : i ≤ m) (hj : j ≤ m) :
    ∃ k, k ≤ m ∧ L2.lcgI m i k = j := by
  have at0 : ∀ x, x ≤ m → ∃ b, b ≤ m ∧ L2.lcgN m b = x := fun x hx => by
    obtain ⟨b, hb, e⟩ := List.any_eq_true.mp (List.all_eq_true.mp ha x (List.mem_range.mpr (by omega)))
    exact ⟨b, Nat.le_of_lt_succ (List.mem_range.mp hb), eq_of_beq e⟩
  obtain ⟨a, la, ea⟩ := at0 i hi
  obtain ⟨b, lb, eb⟩ := at0 j hj
  subst ea
  by_cases c : a ≤ b
  · exact ⟨b - a, by omega, by rw [L2.lcgN_add, Nat.add_sub_cancel' c]; exact eb⟩
  · refine ⟨m + 1 + b - a, by omega, ?_⟩
    rw [L2.lcgN_add, Nat.add_sub_cancel' (by omega), turn_mod hr]
    exact eb
theorem lcg_meets {m : Nat} (hm : Msk m) {i j : Nat} (hi : i ≤ m) (hj : j ≤ m) : ∃ k, k ≤ m ∧ L2.lcgI m i k = j := by
  rcases hm with e | e | e | e | e
  · exact L2.lcgI_all (.inl e) hi hj
  · subst e; exact lcg_by round15 all15 hi hj
  · exact L2.lcgI_all (.inr (.inl e)) hi hj
  · subst e; exact lcg_by round63 all63 hi hj
  · exact L2.lcgI_all (.inr (.inr e)) hi hj

theorem free_there {m : Nat} (hm : Msk m) (ow : Array (Option Nat)) (h : Int) {j0 : Nat} (hj : j0 ≤ m) (hf : (own ow j0).isNone = true) :
    ∃ j, SetTable.layClean.free m ow (SetTable.turns m) (SetTable.bits h % (m + 1)) (SetTable.bits h) = some j ∧ j ≤ m ∧ (own ow j).isNone = true := by
  have hq : SetTable.bits h % (m + 1) ≤ m := Nat.le_of_lt_succ (Nat.mod_lt _ (Nat.succ_pos m))
  cases e : SetTable.layClean.free m ow (SetTable.turns m) (SetTable.bits h % (m + 1)) (SetTable.bits h) with
  | some j => exact ⟨j, rfl, free_some m ow _ (SetTable.bits h % (m + 1), SetTable.bits h) j e hq⟩
  | none =>
    exfalso
    have all := free_none m ow _ (SetTable.bits h % (m + 1), SetTable.bits h) e
    have z : (hops m 13 (SetTable.bits h % (m + 1), SetTable.bits h)).2 = 0 := by
      rw [hops_snd]
      refine Nat.div_eq_of_lt (Nat.lt_trans (L2.bits_lt h) ?_)
      decide
    have le := hops_fst_le m (q := (SetTable.bits h % (m + 1), SetTable.bits h)) hq 13
    obtain ⟨k, hk, ek⟩ := lcg_meets hm le hj
    have q := all (13 + k) (by show 13 + k < m + 15; omega)
    have e2 : hops m 13 (SetTable.bits h % (m + 1), SetTable.bits h) = ((hops m 13 (SetTable.bits h % (m + 1), SetTable.bits h)).1, 0) := by
      rw [← z]
    rw [hops_add, e2, hops_zero] at q
    rw [ek] at q
    rw [hf] at q
    cases q

/-! ### who sits where -/
theorem put_perm : ∀ (l : List (Option Nat)) (j k : Nat), l[j]? = some none → ((l.set j (some k)).filterMap id).Perm (k :: l.filterMap id)
  | [], j, k, h => by simp at h
  | x :: l, 0, k, h => by
    have e : x = none := by simpa using h
    subst e
    simp
  | x :: l, j + 1, k, h => by
    have ih := put_perm l j k (by simpa using h)
    cases x with
    | none => simpa using ih
    | some y =>
      simp only [List.set_cons_succ, List.filterMap_cons, id]
      exact (ih.cons y).trans (List.Perm.swap k y _)
theorem gap : ∀ l : List (Option Nat), (l.filterMap id).length < l.length → ∃ j : Nat, j < l.length ∧ l[j]? = some none
  | [], h => by simp at h
  | none :: l, h => ⟨0, by simp, rfl⟩
  | some y :: l, h => by
    obtain ⟨j, hj, e⟩ := gap l (by simpa using h)
    exact ⟨j + 1, by simpa using hj, by simpa using e⟩
structure Sit (m k : Nat) (ow : Array (Option Nat)) : Prop where
  sz : ow.size = m + 1
  pm : (ow.toList.filterMap id).Perm (List.range k)
theorem Sit.start (m : Nat) : Sit m 0 (Array.replicate (m + 1) none) := ⟨by simp, by simp⟩
theorem Sit.next {m k : Nat} {ow : Array (Option Nat)} (S : Sit m k ow) (hm : Msk m) (hk : k ≤ m) (h : Int) :
    ∃ j, SetTable.layClean.free m ow (SetTable.turns m) (SetTable.bits h % (m + 1)) (SetTable.bits h) = some j ∧ Sit m (k + 1) (ow.setIfInBounds j (some k)) := by
  have l1 := S.pm.length_eq
  rw [List.length_range] at l1
  obtain ⟨j0, h0, e0⟩ := gap ow.toList (by rw [l1, Array.length_toList, S.sz]; omega)
  rw [Array.length_toList, S.sz] at h0
  have f0 : (own ow j0).isNone = true := by
    have : ow[j0]? = some none := by rw [← Array.getElem?_toList]; exact e0
    simp [own, Array.getD_eq_getD_getElem?, this]
  obtain ⟨j, ej, hj, hn⟩ := free_there hm ow h (by omega) f0
  have hjs : j < ow.size := by rw [S.sz]; omega
  have en : ow.toList[j]? = some none := by
    have : own ow j = none := by simpa using hn
    rw [Array.getElem?_toList]
    simp only [own, Array.getD_eq_getD_getElem?, Array.getElem?_eq_getElem hjs, Option.getD_some] at this
    rw [Array.getElem?_eq_getElem hjs, this]
  refine ⟨j, ej, by rw [Array.size_setIfInBounds]; exact S.sz, ?_⟩
  rw [Array.toList_setIfInBounds]
  refine (put_perm ow.toList j k en).trans ?_
  rw [List.range_succ]
  exact (S.pm.cons k).trans (List.perm_append_singleton k _).symm
theorem sit_all {m : Nat} (hm : Msk m) : ∀ (hs : List Int) (k : Nat) (ow : Array (Option Nat)), Sit m k ow → k + hs.length ≤ m →
    ∃ ow', hs.foldl (L2.stepF m) (some (ow, k)) = some (ow', k + hs.length) ∧ Sit m (k + hs.length) ow'
  | [], k, ow, S, _ => ⟨ow, rfl, S⟩
  | h :: hs, k, ow, S, hl => by
    rw [List.length_cons] at hl
    obtain ⟨j, ej, S2⟩ := S.next hm (by omega) h
    obtain ⟨ow', e, S3⟩ := sit_all hm hs (k + 1) _ S2 (by omega)
    refine ⟨ow', ?_, ?_⟩
    · rw [List.foldl_cons, L2.stepF_some ej, e, List.length_cons]
      exact congrArg (fun n => some (ow', n)) (by omega)
    · rw [List.length_cons, show k + (hs.length + 1) = k + 1 + hs.length by omega]
      exact S3
theorem lay_ok {m : Nat} (hm : Msk m) {hs : Array Int} (hn : hs.size ≤ m) : ∃ ow, SetTable.layClean m hs = some ow ∧ Sit m hs.size ow := by
  obtain ⟨ow, e, S⟩ := sit_all hm hs.toList 0 _ (Sit.start m) (by rw [Array.length_toList]; omega)
  rw [Nat.zero_add, Array.length_toList] at S
  refine ⟨ow, ?_, S⟩
  rw [L2.layClean_eq, e] <;> rfl

def liveAt (m : Nat) (ow : Array (Option Nat)) : List (Nat × Nat) := (List.range (m + 1)).filterMap fun j => (ow.getD j none).map (j, ·)
theorem live_snd {m : Nat} {ow : Array (Option Nat)} (hz : ow.size = m + 1) : (liveAt m ow).map (·.2) = ow.toList.filterMap id := by
  unfold liveAt
  rw [List.map_filterMap, ← hz]
  have e1 : (fun j => ((ow.getD j none).map (j, ·)).map (·.2)) = fun j => (ow[j]?).bind id := by
    funext j
    rw [Array.getD_eq_getD_getElem?]
    cases ow[j]? with
    | none => rfl
    | some y => cases y <;> rfl
  have e2 := filterMap_getElem?_range ow
  rw [e1, ← e2, List.filterMap_filterMap]
theorem laid_ok {m : Nat} (hm : Msk m) {hs : Array Int} (hn : hs.size ≤ m) (fi mv : Nat) (ld pl : Bool) :
    ∃ t order, SetTable.laid m fi mv ld pl hs = some (t, order) ∧ order.toList.Perm (List.range hs.size) ∧ t.mask = m ∧ t.dummies = #[] ∧ t.led = ld ∧ L2.Ris t.place.toList ∧ t.place.size = hs.size := by
  obtain ⟨ow, e, S⟩ := lay_ok hm hn
  have p : ((liveAt m ow).map (·.2)).Perm (List.range hs.size) := by
    rw [live_snd S.sz]
    exact S.pm
  refine ⟨_, _, by unfold SetTable.laid; rw [e]; rfl, p, rfl, rfl, rfl, ?_, ?_⟩
  · refine (L2.ris_live (fun j => ow.getD j none) (List.range (m + 1)) ?_).1
    unfold L2.Ris
    first | exact List.pairwise_lt_range | exact List.pairwise_lt_range _
  · have l := p.length_eq
    rw [List.length_map, List.length_range] at l
    show ((liveAt m ow).map (·.1)).toArray.size = hs.size
    rw [List.size_toArray, List.length_map]
    exact l
theorem above_msk : ((List.range 128).all fun n => (SetTable.sizeAbove n == 8 || SetTable.sizeAbove n == 16 || SetTable.sizeAbove n == 32 || SetTable.sizeAbove n == 64 || SetTable.sizeAbove n == 128) && decide (n < SetTable.sizeAbove n)) = true := by
  decide +kernel
theorem above_ok {n : Nat} (h : n < 128) : Msk (SetTable.sizeAbove n - 1) ∧ n ≤ SetTable.sizeAbove n - 1 ∧ SetTable.sizeAbove n ≤ 128 := by
  have q := List.all_eq_true.mp above_msk n (List.mem_range.mpr h)
  simp only [Bool.and_eq_true, Bool.or_eq_true, beq_iff_eq, decide_eq_true_eq] at q
  obtain ⟨q1, q2⟩ := q
  refine ⟨?_, by omega, by omega⟩
  unfold Msk
  omega
end Cs

set_option Elab.async false
set_option linter.all false
set_option maxRecDepth 100000
set_option maxHeartbeats 1000000
namespace Cs
open PySem PySem.Spec PyProof.Rows L2

/-- a set of ints, written out -/
structure SetX (w : World) (h : Heap) (a : Addr) (es : Array (Int × Value)) (ep : Nat) (t : SetTable) : Prop where
  obj : h.get? a = some { cls := .type "set", dict := none, data := .set es ep t, slots := #[] }
  good : ∀ e ∈ es.toList, GoodE e
  nd : (es.toList.map keyOf).Nodup
  few : es.size < scanBound
  fits : t.fits es.size = true
  ris : Ris t.place.toList
  led : w.params.followText "set-order" = true ∨ t.led = true
section
variable {w : World} {h h' : Heap} {a : Addr} {S : Int → Bool} {n : Nat} {es : Array (Int × Value)} {ep : Nat} {t : SetTable}
theorem SetX.toR (R : SetX w h a es ep t) (hS : ∀ k, S k = true ↔ k ∈ es.toList.map keyOf) (hn : es.size = n) : SetR w h a S n :=
  ⟨_, es, ep, t, R.obj, ⟨rfl, rfl, rfl⟩, rfl, R.good, R.nd, hS, R.few, R.fits, hn, R.ris, R.led⟩
theorem xOf (R : SetR w h a S n) : ∃ es ep t, SetX w h a es ep t ∧ (∀ k, S k = true ↔ k ∈ es.toList.map keyOf) ∧ es.size = n := by
  obtain ⟨⟨c, d, dt, sl⟩, es, ep, t, ho, ⟨e1, e2, e3⟩, hd, g, nd, m, fw, ft, hn, r, l⟩ := R
  simp only at e1 e2 e3 hd
  subst e1 e2 e3 hd
  exact ⟨es, ep, t, ⟨ho, g, nd, fw, ft, r, l⟩, m, hn⟩
theorem SetX.move (R : SetX w h a es ep t) (k : ∀ o, h.get? a = some o → h'.get? a = some o) : SetX w h' a es ep t :=
  ⟨k _ R.obj, R.good, R.nd, R.few, R.fits, R.ris, R.led⟩
theorem SetX.perm {es' : Array (Int × Value)} {t' : SetTable} {ep' : Nat} (R : SetX w h a es ep t) (p : es'.toList.Perm es.toList)
    (o : h'.get? a = some { cls := .type "set", dict := none, data := .set es' ep' t', slots := #[] }) (f : t'.fits es'.size = true) (r : Ris t'.place.toList) (l : w.params.followText "set-order" = true ∨ t'.led = true) : SetX w h' a es' ep' t' :=
  ⟨o, fun e he => R.good e (p.mem_iff.mp he), (p.map keyOf).nodup_iff.mpr R.nd, by
    have q := p.length_eq
    rw [Array.length_toList, Array.length_toList] at q
    rw [q]; exact R.few, f, r, l⟩
end
theorem order_perm {es : Array (Int × Value)} {order : Array Nat} (p : order.toList.Perm (List.range es.size)) : (order.filterMap (es[·]?)).toList.Perm es.toList := by
  have q := p.filterMap (fun i => es[i]?)
  rw [filterMap_getElem?_range] at q
  rw [Array.toList_filterMap]
  exact q
theorem perm_size {α : Type} {x y : Array α} (p : x.toList.Perm y.toList) : x.size = y.size := by
  have q := p.length_eq
  rw [Array.length_toList, Array.length_toList] at q
  exact q
section
variable {P : Program} {w : World} {A : Around} {E : Value → Shared → Prop} {s : Shared} {a : Addr} {es : Array (Int × Value)} {ep : Nat} {t : SetTable}

theorem relay_x {wanted : Nat} {Q : Unit → Shared → Prop} (R : SetX w s.heap a es ep t) (hw : wanted < 128) (hn : es.size ≤ wanted)
    (hQ : ∀ h' es' t', Heap.SameBut a s.heap h' → SetX w h' a es' (ep + 1) t' → es'.toList.Perm es.toList → t'.mask = SetTable.sizeAbove wanted - 1 → t'.dummies = #[] → t'.place.size = es.size → Q () { s with heap := h' }) :
    wpAny (model P w) A (setRelay a wanted) Q E s := by
  obtain ⟨hM, hMn, h128⟩ := above_ok hw
  obtain ⟨t', order, e, hp, em, ed, el, er, ez⟩ := laid_ok hM (hs := es.map (·.1)) (by rw [Array.size_map]; omega) t.finger (t.movedTo (SetTable.sizeAbove wanted - 1)) t.led t.plain
  rw [Array.size_map] at hp ez
  have p2 := order_perm hp
  have z2 := perm_size p2
  have fit : t'.fits (order.filterMap (es[·]?)).size = true := by
    unfold SetTable.fits SetTable.fill
    rw [ed, z2, ez, em, Bool.and_eq_true, beq_iff_eq, decide_eq_true_eq]
    exact ⟨rfl, by show es.size + 0 ≤ _; omega⟩
  have e' : t.relaid (es.map (·.1)) wanted = some (t', order) := e
  unfold setRelay
  refine wpAny_bind (wpAny_setState_of R.obj rfl R.fits ?_)
  dsimp only
  refine wp_if_neg (by rw [sizeLine_eq]; omega) ?_
  try refine wpAny_bind (wpAny_pure ?_)
  rw [e']
  refine wpAny_bind ?_
  refine wp_if_neg (c := ((order.filterMap (es[·]?)).size != es.size) = true) (by rw [z2]; simp) ?_
  try refine wpAny_bind (wpAny_pure ?_)
  refine wpAny_pure ?_
  dsimp only
  refine wpAny_storeSet_of R.obj rfl ?_ (fits_of_scanBound (by rw [z2]; exact R.few))
  have sb : Heap.SameBut a s.heap (s.heap.update a (Obj.putSet (order.filterMap (es[·]?)) t')) := Heap.SameBut.update ..
  exact hQ _ _ t' sb (R.perm p2 (store_at R.obj rfl) fit er (R.led.imp id fun z => el.trans z)) p2 em ed ez

/-! ### walking -/
theorem walk_x {Q : Array (Int × Value) → Shared → Prop} (R : SetX w s.heap a es ep t) (hQ : ∀ ys d, ys.toList.Perm es.toList → Q ys { s with drawn := d }) : wpAny (model P w) A (setWalk a) Q E s := by
  have rf : Q es s := hQ es s.drawn (List.Perm.refl _)
  unfold setWalk
  refine wpAny_bind (wpAny_setState_of R.obj rfl R.fits ?_)
  dsimp only
  refine wpAny_bind (wpAny_byText ?_)
  by_cases hb : w.params.followText "set-order" = true
  · refine wp_if_pos hb ?_
    refine wpAny_bind (wpAny_askSetting ?_)
    exact wpAny_pure (hQ _ s.drawn (pick_perm _ es))
  · refine wp_if_neg hb ?_
    by_cases hd : (!t.plain && decide (es.size > 1)) = true
    · refine wp_if_pos (c := (!t.plain && decide (es.size > 1)) = true) hd ?_
      refine wpAny_bind (drawOrder_at _ _ _ _ (Nat.le_of_eq Array.length_toList) fun ys d p => wpAny_pure (hQ _ d ?_))
      simpa using p
    · refine wp_if_neg (c := (!t.plain && decide (es.size > 1)) = true) hd ?_
      have hl : t.led = true := R.led.resolve_left hb
      refine wpAny_bind (m := (_ : Sem Unit)) ?_
      refine wp_if_neg (c := (!t.led && decide (es.size > 1)) = true) (by rw [hl]; simp) ?_
      exact wpAny_pure (wpAny_pure rf)
end
end Cs

set_option Elab.async false
set_option linter.all false
set_option maxRecDepth 100000
set_option maxHeartbeats 1000000
namespace Cs
open PySem PySem.Spec PyProof.Rows L2
section
variable {P : Program} {w : World} {A : Around} {E : Value → Shared → Prop} {s : Shared} {a : Addr} {es : Array (Int × Value)} {ep : Nat} {t : SetTable}

theorem quiet_x {Q : Bool → Shared → Prop} : ∀ (l : List Addr), (∀ b ∈ l, ∃ es ep t, SetX w s.heap b es ep t) → Q true s → wpAny (model P w) A (setsQuiet l) Q E s := by
  intro l hl hq
  unfold setsQuiet
  refine wpAny_bind (wpAny_forIn_list _ (fun rest b s' => b.1 = none ∧ s' = s ∧ ∀ x ∈ rest, ∃ es ep t, SetX w s.heap x es ep t) _ ?turn ?fin l _ ⟨rfl, rfl, hl⟩)
  case fin =>
    rintro ⟨b1, b2⟩ s' ⟨h1, rfl, _⟩
    cases h1
    exact wpAny_pure hq
  case turn =>
    rintro x rest ⟨b1, b2⟩ s' ⟨h1, rfl, h2⟩
    cases h1
    obtain ⟨es, ep, t, R⟩ := h2 x List.mem_cons_self
    unfold setEntries
    refine wpAny_bind (wpAny_bind (wpAny_setState_of R.obj rfl R.fits (wpAny_pure ?_)))
    refine wpAny_bind (MeetsSeq2.wpAny_forIn_array _ (fun rest' b s'' => b.1 = none ∧ s'' = s' ∧ ∀ e ∈ rest', GoodE e) _ ?t2 ?f2 es _ ⟨rfl, rfl, R.good⟩)
    case f2 =>
      rintro ⟨b1, b2⟩ s' ⟨h1, rfl, _⟩
      cases h1
      exact wpAny_pure ⟨rfl, rfl, fun y hy => h2 y (List.mem_cons_of_mem _ hy)⟩
    case t2 =>
      rintro ⟨hh, v⟩ rest' ⟨b1, b2⟩ s' ⟨h1, rfl, hg⟩
      cases h1
      obtain ⟨k, tk, e1, _⟩ := hg _ List.mem_cons_self
      have e2 : v = .int k tk := e1
      subst e2
      dsimp only
      refine wpAny_pure ⟨rfl, rfl, fun y hy => hg y (List.mem_cons_of_mem _ hy)⟩
end
end Cs

set_option Elab.async false
set_option linter.all false
set_option maxRecDepth 100000
set_option maxHeartbeats 1000000
namespace Cs
open PySem PySem.Spec PyProof.Rows L2
section
variable {P : Program} {w : World} {A : Around} {E : Value → Shared → Prop} {s : Shared} {a : Addr} {es : Array (Int × Value)} {ep : Nat} {t : SetTable}
theorem unseen_x {others : List Addr} {f : Addr} {ef : Array (Int × Value)} {pf : Nat} {tf : SetTable} {Q : Array (Int × Value) → Shared → Prop} (R : SetX w s.heap a es ep t)
    (ho : ∀ b ∈ others, ∃ es ep t, SetX w s.heap b es ep t) (F : SetX w s.heap f ef pf tf)
    (hQ : ∀ ys d h' pf' tf', ys.toList.Perm es.toList → Heap.SameBut f s.heap h' → SetX w h' f ef pf' tf' → Q ys { s with heap := h', drawn := d }) :
    wpAny (model P w) A (setWalkUnseen a others (some f)) Q E s := by
  have rf : ∀ ys d, ys.toList.Perm es.toList → Q ys { s with drawn := d } := fun ys d p => hQ ys d s.heap pf tf p (Heap.SameBut.refl f s.heap) F
  unfold setWalkUnseen
  refine wpAny_bind (wpAny_setState_of R.obj rfl R.fits ?_)
  dsimp only
  refine wpAny_bind (wpAny_byText ?_)
  by_cases hb : (w.params.followText "set-order" || (t.led && t.plain) || decide (es.size ≤ 1)) = true
  · refine wp_if_pos (c := (w.params.followText "set-order" || (t.led && t.plain) || decide (es.size ≤ 1)) = true) hb ?_
    exact walk_x R rf
  · refine wp_if_neg (c := (w.params.followText "set-order" || (t.led && t.plain) || decide (es.size ≤ 1)) = true) hb ?_
    have hnt : ¬ w.params.followText "set-order" = true := fun z => hb (by rw [z] <;> rfl)
    have hl : t.led = true := R.led.resolve_left hnt
    try refine wpAny_bind (wpAny_pure ?_)
    refine wpAny_bind (quiet_x _ (fun b hb' => (List.mem_cons.mp hb').elim (fun z => ⟨es, ep, t, z ▸ R⟩) (ho b)) ?_)
    refine wp_if_neg (c := (!true) = true) (by simp) ?_
    try refine wpAny_bind (wpAny_pure ?_)
    refine wpAny_bind (wpAny_rule ?_)
    try dsimp only
    refine wpAny_bind (wpAny_setState_of F.obj rfl F.fits ?_)
    dsimp only
    split
    · refine wpAny_bind (wpAny_storeSet_of F.obj rfl ?_ (fits_of_scanBound F.few))
      refine wpAny_pure ?_
      refine hQ es s.drawn _ _ _ (List.Perm.refl _) (Heap.SameBut.update s.heap f _) (F.perm (List.Perm.refl _) (store_at F.obj rfl) ?_ F.ris ?_)
      · exact F.fits
      · refine F.led.imp id fun z => ?_
        show (tf.led && t.led) = true
        rw [z, hl] <;> rfl
    · try refine wpAny_bind (wpAny_pure ?_)
      exact wpAny_pure (rf es s.drawn (List.Perm.refl _))
theorem unseen_n {others : List Addr} {Q : Array (Int × Value) → Shared → Prop} (R : SetX w s.heap a es ep t)
    (ho : ∀ b ∈ others, ∃ es ep t, SetX w s.heap b es ep t)
    (rf : ∀ ys d, ys.toList.Perm es.toList → Q ys { s with drawn := d }) :
    wpAny (model P w) A (setWalkUnseen a others none) Q E s := by
  unfold setWalkUnseen
  refine wpAny_bind (wpAny_setState_of R.obj rfl R.fits ?_)
  dsimp only
  refine wpAny_bind (wpAny_byText ?_)
  by_cases hb : (w.params.followText "set-order" || (t.led && t.plain) || decide (es.size ≤ 1)) = true
  · refine wp_if_pos (c := (w.params.followText "set-order" || (t.led && t.plain) || decide (es.size ≤ 1)) = true) hb ?_
    exact walk_x R rf
  · refine wp_if_neg (c := (w.params.followText "set-order" || (t.led && t.plain) || decide (es.size ≤ 1)) = true) hb ?_
    try refine wpAny_bind (wpAny_pure ?_)
    refine wpAny_bind (quiet_x _ (fun b hb' => (List.mem_cons.mp hb').elim (fun z => ⟨es, ep, t, z ▸ R⟩) (ho b)) ?_)
    refine wp_if_neg (c := (!true) = true) (by simp) ?_
    try refine wpAny_bind (wpAny_pure ?_)
    refine wpAny_bind (wpAny_rule ?_)
    try dsimp only
    try refine wpAny_bind (wpAny_pure ?_)
    exact wpAny_pure (rf es s.drawn (List.Perm.refl _))

theorem room_x {more : Nat} {Q : Unit → Shared → Prop} (R : SetX w s.heap a es ep t) (hm : (es.size + more) * 2 < 128)
    (hQ : ∀ h' es' ep' t', Heap.SameBut a s.heap h' → SetX w h' a es' ep' t' → es'.toList.Perm es.toList →
      ((t' = t ∧ (t.fill + more) * 5 < t.mask * 3) ∨ (t'.mask = SetTable.sizeAbove ((es.size + more) * 2) - 1 ∧ t'.dummies = #[])) → Q () { s with heap := h' }) :
    wpAny (model P w) A (setRoomFor a more) Q E s := by
  have hz : t.place.size = es.size := by
    have f := R.fits
    unfold SetTable.fits at f
    rw [Bool.and_eq_true, beq_iff_eq] at f
    exact f.1
  unfold setRoomFor
  refine wpAny_bind (wpAny_setState_of R.obj rfl R.fits ?_)
  dsimp only
  by_cases c : (t.fill + more) * 5 ≥ t.mask * 3
  · have e : t.roomFor more = some ((t.place.size + more) * 2) := if_pos c
    rw [e]
    dsimp only
    rw [hz]
    refine relay_x R hm (by omega) fun h' es' t' sb X p em ed _ => hQ h' es' _ t' sb X p (.inr ⟨em, ed⟩)
  · have e : t.roomFor more = none := if_neg c
    rw [e]
    dsimp only
    exact wpAny_pure (hQ s.heap es ep t (Heap.SameBut.refl a s.heap) R (List.Perm.refl _) (.inl ⟨rfl, by omega⟩))
end
end Cs

set_option Elab.async false
set_option linter.all false
set_option maxRecDepth 100000
set_option maxHeartbeats 1000000
namespace Cs
open PySem PySem.Spec PyProof.Rows L2
section
variable {P : Program} {w : World} {A : Around} {E : Value → Shared → Prop} {s : Shared}
abbrev keys (es : Array (Int × Value)) : List Int := es.toList.map keyOf
theorem keys_perm {x y : Array (Int × Value)} (p : x.toList.Perm y.toList) (k : Int) : k ∈ keys x ↔ k ∈ keys y := (p.map keyOf).mem_iff
theorem sb_trans {a : Addr} {h1 h2 h3 : Heap} (x : Heap.SameBut a h1 h2) (y : Heap.SameBut a h2 h3) : Heap.SameBut a h1 h3 := x.trans y
theorem sx_other {h h' : Heap} {a b : Addr} {es : Array (Int × Value)} {ep : Nat} {t : SetTable} (R : SetX w h b es ep t) (sb : Heap.SameBut a h h') (hne : b ≠ a) : SetX w h' b es ep t :=
  R.move fun o e => (sb.2 b hne).trans e
theorem sr_other {h h' : Heap} {a b : Addr} {S : Int → Bool} {n : Nat} (R : SetR w h b S n) (sb : Heap.SameBut a h h') (hne : b ≠ a) : SetR w h' b S n :=
  R.at fun o e => (sb.2 b hne).trans e

/-- adding the members of a walk, one by one -/
theorem add_all {r : Addr} (f : (Int × Value) → PUnit → Sem (ForInStep PUnit)) (K : Shared → Prop) (hK : ∀ s1 h', Heap.SameBut r s1.heap h' → K s1 → K { s1 with heap := h' })
    (hf : ∀ e k tk s1 Q', e = (hashInt k, Value.int k tk) → K s1 → (wpAny (model P w) A (setAddHashed r (.int k tk) (hashInt k)) (fun _ s2 => K s2 ∧ Q' (.yield ⟨⟩) s2) E s1) → wpAny (model P w) A (f e ⟨⟩) Q' E s1)
    (ys : Array (Int × Value)) (g : ∀ e ∈ ys.toList, GoodE e) {S : Int → Bool} {n : Nat} (R : SetR w s.heap r S n) (hn : n + ys.size + 1 < scanBound) (hs : K s) {Q : PUnit → Shared → Prop}
    (hQ : ∀ h' S' n', SetR w h' r S' n' → (∀ k, S' k = true ↔ S k = true ∨ k ∈ keys ys) → n' ≤ n + ys.size → Heap.SameBut r s.heap h' → K { s with heap := h' } → Q ⟨⟩ { s with heap := h' }) :
    wpAny (model P w) A (forIn ys ⟨⟩ f) Q E s := by
  refine MeetsSeq2.wpAny_forIn_array f (fun rest _ s' => ∃ h' S' n', s' = { s with heap := h' } ∧ SetR w h' r S' n' ∧ (∀ k, (S' k = true ∨ k ∈ rest.map keyOf) ↔ (S k = true ∨ k ∈ keys ys)) ∧ n' + rest.length ≤ n + ys.size ∧
    Heap.SameBut r s.heap h' ∧ K { s with heap := h' } ∧ ∀ e ∈ rest, GoodE e) Q ?turn ?fin ys ⟨⟩ ⟨s.heap, S, n, rfl, R, fun k => Iff.rfl, by rw [Array.length_toList]; exact Nat.le_refl _, Heap.SameBut.refl r s.heap, hs, g⟩
  case fin =>
    rintro ⟨⟩ s' ⟨h', S', n', rfl, R', m, l, sb, k, _⟩
    exact hQ h' S' n' R' (fun k => by simpa using m k) (by simpa using l) sb k
  case turn =>
    rintro e rest ⟨⟩ s' ⟨h', S', n', rfl, R', m, l, sb, kk, g'⟩
    obtain ⟨k, tk, e1, e2⟩ := g' e List.mem_cons_self
    obtain ⟨eh, ev⟩ := e
    simp only at e1 e2
    subst e1 e2
    rw [List.length_cons] at l
    refine hf _ k tk _ _ rfl kk ?_
    refine setR_add_hashed (s := { s with heap := h' }) R' (by omega) fun h2 sb2 R2 => ?_
    have k2 : K { s with heap := h2 } := hK { s with heap := h' } h2 sb2 kk
    refine ⟨k2, h2, _, _, rfl, R2, fun j => ?_, ?_, sb_trans sb sb2, k2, fun e he => g' e (List.mem_cons_of_mem _ he)⟩
    · rw [← m j, List.map_cons, List.mem_cons, Bool.or_eq_true, decide_eq_true_eq]
      show ((S' j = true ∨ j = k) ∨ _) ↔ (S' j = true ∨ (j = k ∨ _))
      exact or_assoc
    · have : (if S' k = true then n' else n' + 1) ≤ n' + 1 := by split <;> omega
      omega

/-- what is merged into a set with members -/
theorem merge_more {r o : Addr} {each : Sem Unit} {er eo : Array (Int × Value)} {pr po : Nat} {tr to : SetTable} {Q : Unit → Shared → Prop} (hro : o ≠ r) (R : SetX w s.heap r er pr tr) (O : SetX w s.heap o eo po to)
    (hne : er.size ≠ 0) (hroom : (er.size + eo.size) * 2 < 128)
    (heach : ∀ s' Q', SetX w s'.heap o eo po to → Q' () s' → wpAny (model P w) A each Q' E s')
    (hQ : ∀ h' d' S' n', SetR w h' r S' n' → (∀ k, S' k = true ↔ k ∈ keys er ∨ k ∈ keys eo) → n' ≤ er.size + eo.size → Heap.SameBut r s.heap h' → Q () { s with heap := h', drawn := d' }) :
    wpAny (model P w) A (setMerge r o each) Q E s := by
  unfold setMerge
  refine wp_if_neg (c := (r == o) = true) (by simpa using Ne.symm hro) ?_
  try refine wpAny_bind (wpAny_pure ?_)
  refine wpAny_bind (wpAny_setState_of O.obj rfl O.fits ?_)
  dsimp only
  by_cases he : eo.isEmpty = true
  · refine wp_if_pos (c := eo.isEmpty = true) he ?_
    refine wpAny_pure (hQ s.heap s.drawn _ _ (R.toR (S := fun k => decide (k ∈ keys er)) (fun k => decide_eq_true_iff) rfl) (fun k => ?_) (by omega) (Heap.SameBut.refl r s.heap))
    have : eo = #[] := by simpa using he
    subst this
    simp
  · refine wp_if_neg (c := eo.isEmpty = true) he ?_
    try refine wpAny_bind (wpAny_pure ?_)
    refine wpAny_bind (room_x R hroom fun h1 er1 pr1 tr1 sb1 R1 p1 _ => ?_)
    have O1 := sx_other O sb1 hro
    refine wpAny_bind (wpAny_setState_of R1.obj rfl R1.fits ?_)
    dsimp only
    have z1 := perm_size p1
    have hfill : (tr1.fill != 0) = true := by
      have f := R1.fits
      unfold SetTable.fits at f
      rw [Bool.and_eq_true, beq_iff_eq] at f
      have : tr1.fill ≠ 0 := by
        unfold SetTable.fill
        omega
      simpa using this
    have er' : tr1.road to = .oneByOne := if_pos hfill
    rw [er']
    dsimp only
    refine wpAny_bind (unseen_x (s := { s with heap := h1 }) O1 (fun b hb => by rw [List.mem_singleton.mp hb]; exact ⟨_, _, _, R1⟩) R1 fun ys d h2 pf tf py sb2 R2 => ?_)
    have O2 := sx_other O1 sb2 hro
    have zy := perm_size py
    refine wpAny_bind (add_all (s := { s with heap := h2, drawn := d }) (P := P) (A := A) (E := E) _ (fun s1 => SetX w s1.heap o eo po to) (fun s1 h' sb k => sx_other k sb hro) ?hf ys (fun e he => O.good e (py.mem_iff.mp he))
      (R2.toR (S := fun k => decide (k ∈ keys er1)) (fun k => decide_eq_true_iff) rfl) (by have : scanBound = 4096 := rfl; omega) O2 ?hQ)
    case hQ =>
      intro h3 S' n' R3 m3 l3 sb3 _
      refine wpAny_pure (hQ h3 d S' n' R3 (fun k => ?_) (by omega) (sb_trans sb1 (sb_trans sb2 sb3)))
      rw [m3 k, decide_eq_true_iff, keys_perm p1 k, keys_perm py k]
    case hf =>
      intro e k tk s1 Q' ee kk hwp
      subst ee
      dsimp only
      refine wpAny_bind (wpAny_holding (wpAny_mono hwp (fun b s2 hs2 => ?_) fun _ _ z => z))
      obtain ⟨k2, q2⟩ := hs2
      refine wpAny_bind (heach s2 _ k2 ?_)
      refine wpAny_bind (wpAny_setState_of k2.obj rfl k2.fits ?_)
      refine wp_if_neg (c := (po != po) = true) (by simp) ?_
      exact wpAny_pure q2
end
end Cs

set_option Elab.async false
set_option linter.all false
set_option maxRecDepth 100000
set_option maxHeartbeats 1000000
namespace Cs
open PySem PySem.Spec PyProof.Rows L2
section
variable {P : Program} {w : World} {A : Around} {E : Value → Shared → Prop} {s : Shared}
theorem SetX.permTo {h h' : Heap} {a b : Addr} {es es' : Array (Int × Value)} {t t' : SetTable} {ep ep' : Nat} (R : SetX w h a es ep t) (p : es'.toList.Perm es.toList)
    (o : h'.get? b = some { cls := .type "set", dict := none, data := .set es' ep' t', slots := #[] }) (f : t'.fits es'.size = true) (r : Ris t'.place.toList) (l : w.params.followText "set-order" = true ∨ t'.led = true) : SetX w h' b es' ep' t' :=
  ⟨o, fun e he => R.good e (p.mem_iff.mp he), (p.map keyOf).nodup_iff.mpr R.nd, by rw [perm_size p]; exact R.few, f, r, l⟩
theorem nil_of_perm {es : Array (Int × Value)} (p : es.toList.Perm (#[] : Array (Int × Value)).toList) : es = #[] := by
  have q := List.perm_nil.mp p
  simpa using q
theorem merge_fresh {r o : Addr} {each : Sem Unit} {eo : Array (Int × Value)} {pr po : Nat} {tr to : SetTable} {Q : Unit → Shared → Prop} (hro : o ≠ r) (R : SetX w s.heap r #[] pr tr)
    (hm : tr.mask = 7) (hdm : tr.dummies = #[]) (O : SetX w s.heap o eo po to) (h63 : eo.size ≤ 63)
    (hQ : ∀ h' es' ep' t', SetX w h' r es' ep' t' → es'.toList.Perm eo.toList → Heap.SameBut r s.heap h' → Q () { s with heap := h' }) :
    wpAny (model P w) A (setMerge r o each) Q E s := by
  unfold setMerge
  refine wp_if_neg (c := (r == o) = true) (by simpa using Ne.symm hro) ?_
  try refine wpAny_bind (wpAny_pure ?_)
  refine wpAny_bind (wpAny_setState_of O.obj rfl O.fits ?_)
  dsimp only
  by_cases he : eo.isEmpty = true
  · refine wp_if_pos (c := eo.isEmpty = true) he ?_
    have e0 : eo = #[] := by simpa using he
    subst e0
    exact wpAny_pure (hQ s.heap _ _ _ R (List.Perm.refl _) (Heap.SameBut.refl r s.heap))
  · refine wp_if_neg (c := eo.isEmpty = true) he ?_
    try refine wpAny_bind (wpAny_pure ?_)
    have fr : tr.fill = 0 := by
      have f := R.fits
      unfold SetTable.fits at f
      rw [Bool.and_eq_true, beq_iff_eq] at f
      have f1 : tr.place.size = 0 := f.1
      unfold SetTable.fill
      rw [hdm, f1]
      rfl
    refine wpAny_bind (room_x R (by show (0 + eo.size) * 2 < 128; omega) fun h1 er1 pr1 tr1 sb1 R1 p1 alt => ?_)
    have e1 := nil_of_perm p1
    subst e1
    have O1 := sx_other O sb1 hro
    have hM : Msk tr1.mask ∧ eo.size ≤ tr1.mask ∧ tr1.dummies = #[] := by
      rcases alt with ⟨et, hlt⟩ | ⟨em, ed⟩
      · subst et
        rw [fr, hm] at hlt
        exact ⟨.inl hm, by rw [hm]; omega, hdm⟩
      · have z : (#[] : Array (Int × Value)).size = 0 := rfl
        rw [z] at em
        obtain ⟨a1, a2, a3⟩ := above_ok (n := (0 + eo.size) * 2) (by omega)
        exact ⟨em ▸ a1, by omega, ed⟩
    obtain ⟨hM1, hM2, hM3⟩ := hM
    have fr1 : tr1.fill = 0 := by
      have f := R1.fits
      unfold SetTable.fits at f
      rw [Bool.and_eq_true, beq_iff_eq] at f
      have f1 : tr1.place.size = 0 := f.1
      unfold SetTable.fill
      rw [hM3, f1]
      rfl
    refine wpAny_bind (wpAny_setState_of R1.obj rfl R1.fits ?_)
    dsimp only
    have led : w.params.followText "set-order" = true ∨ (tr1.led && to.led) = true := by
      rcases R1.led with z | z
      · exact .inl z
      · rcases O1.led with y | y
        · exact .inl y
        · exact .inr (by rw [z, y] <;> rfl)
    have er : tr1.road to = if (tr1.mask == to.mask && to.dummies.isEmpty) = true then .slotForSlot else .clean := if_neg (by rw [fr1]; simp)
    by_cases c : (tr1.mask == to.mask && to.dummies.isEmpty) = true
    · rw [er, if_pos c]
      dsimp only
      refine wpAny_storeSet_of R1.obj rfl ?_ (fits_of_scanBound O.few)
      refine hQ _ _ _ _ (O1.permTo (List.Perm.refl _) (store_at R1.obj rfl) ?_ O1.ris led) (List.Perm.refl _) (sb_trans sb1 (Heap.SameBut.update h1 r _))
      exact O1.fits
    · rw [er, if_neg c]
      dsimp only
      obtain ⟨t', order, e, hp, em, ed, el, eR, ez⟩ := laid_ok hM1 (hs := eo.map (·.1)) (by rw [Array.size_map]; exact hM2) tr1.finger tr1.moves (tr1.led && to.led) (tr1.plain && to.plain)
      rw [Array.size_map] at hp ez
      have p2 := order_perm hp
      have z2 := perm_size p2
      rw [e]
      refine wpAny_bind ?_
      refine wp_if_neg (c := ((order.filterMap (eo[·]?)).size != eo.size) = true) (by rw [z2]; simp) ?_
      try refine wpAny_bind (wpAny_pure ?_)
      refine wpAny_pure ?_
      dsimp only
      refine wpAny_storeSet_of R1.obj rfl ?_ (fits_of_scanBound (by rw [z2]; exact O.few))
      refine hQ _ _ _ _ (O1.permTo p2 (store_at R1.obj rfl) ?_ eR (by rw [el]; exact led)) p2 (sb_trans sb1 (Heap.SameBut.update h1 r _))
      unfold SetTable.fits SetTable.fill
      rw [ed, z2, ez, em, Bool.and_eq_true, beq_iff_eq, decide_eq_true_eq]
      exact ⟨rfl, by show eo.size + 0 ≤ _; omega⟩

/-! ### the words of the class -/
abbrev newObjOf (w : World) : Obj := { cls := .type "set", dict := none, data := .set #[] 0 (.fresh 0 0 (!w.params.followText "set-order")) }
theorem fresh_x (h : Heap) : SetX w (h.push (newObjOf w)) h.objs.size #[] 0 (.fresh 0 0 (!w.params.followText "set-order")) :=
  ⟨Heap.get?_push_size _ rfl, fun e he => by simp at he, by simp, by decide, rfl, List.Pairwise.nil, by
    show _ ∨ (!w.params.followText "set-order") = true
    cases w.params.followText "set-order" <;> simp⟩
theorem SetX.ty {h : Heap} {a : Addr} {es : Array (Int × Value)} {ep : Nat} {t : SetTable} (R : SetX w h a es ep t) {s : Shared} (e : s.heap = h) : s.TypeIs (.ref a) "set" :=
  ⟨_, by rw [e]; exact R.obj, rfl⟩
theorem base_x {a : Addr} {Q : Value → Shared → Prop} (hT : s.TypeIs (.ref a) "set") (q : Q (.type "set") s) : wpAny (model P w) A (Builtin.Frozenset.baseOf a) Q E s := by
  unfold Builtin.Frozenset.baseOf
  refine wpAny_bind (wpAny_isInstance (b := true) hT sub_set_self ?_)
  exact wpAny_pure q
theorem any_x {a : Addr} {Q : Bool → Shared → Prop} (hT : s.TypeIs (.ref a) "set") (q : Q true s) : wpAny (model P w) A (Builtin.Frozenset.isAnySet (.ref a)) Q E s := by
  unfold Builtin.Frozenset.isAnySet
  refine wpAny_bind (wpAny_isInstance (b := true) hT sub_set_self ?_)
  exact wpAny_pure q
theorem new_x {Q : Value → Shared → Prop} (q : Q (.ref s.heap.objs.size) { s with heap := s.heap.push (newObjOf w) }) : wpAny (model P w) A (newSet (.type "set")) Q E s := by
  unfold newSet
  refine wpAny_bind (wpAny_byText ?_)
  dsimp only
  simp only [newObj]
  exact wpAny_bind (wpAny_alloc (wpAny_pure q))
theorem size_x {a : Addr} {es : Array (Int × Value)} {ep : Nat} {t : SetTable} {Q : Nat → Shared → Prop} (R : SetX w s.heap a es ep t) (q : Q es.size s) : wpAny (model P w) A (Builtin.Frozenset.sizeOf a) Q E s := by
  unfold Builtin.Frozenset.sizeOf setEntries
  exact wpAny_bind (wpAny_bind (wpAny_setState_of R.obj rfl R.fits (wpAny_pure (wpAny_pure q))))
theorem unchanged_x {id : String} {a : Addr} {es : Array (Int × Value)} {ep : Nat} {t : SetTable} {Q : Unit → Shared → Prop} (R : SetX w s.heap a es ep t) (q : Q () s) : wpAny (model P w) A (Builtin.Frozenset.unchanged id a ep) Q E s := by
  unfold Builtin.Frozenset.unchanged
  refine wpAny_bind (wpAny_setEpoch_of R.obj rfl R.fits ?_)
  exact wp_if_neg (c := (ep != ep) = true) (by simp) (wpAny_pure q)

/-- heaps in which all is as it was but what is new -/
def Old (h h' : Heap) : Prop := ∀ b o, h.get? b = some o → h'.get? b = some o
theorem old_push (h : Heap) (o : Obj) : Old h (h.push o) := fun _ _ e => Heap.get?_push_of_some o e
theorem old_but {h h' : Heap} {o : Obj} (sb : Heap.SameBut h.objs.size (h.push o) h') : Old h h' := fun b u e => by
  rw [sb.2 b (Nat.ne_of_lt (Heap.lt_size e))]
  exact Heap.get?_push_of_some o e
theorem copy_x {a : Addr} {es : Array (Int × Value)} {ep : Nat} {t : SetTable} {Q : Value → Shared → Prop} (R : SetX w s.heap a es ep t) (h63 : es.size ≤ 63)
    (hQ : ∀ h' es' ep' t', SetX w h' s.heap.objs.size es' ep' t' → es'.toList.Perm es.toList → Heap.SameBut s.heap.objs.size (s.heap.push (newObjOf w)) h' → Q (.ref s.heap.objs.size) { s with heap := h' }) :
    wpAny (model P w) A (Builtin.Frozenset.copyOf a) Q E s := by
  unfold Builtin.Frozenset.copyOf
  refine wpAny_bind (base_x (R.ty rfl) ?_)
  refine wpAny_bind (new_x ?_)
  refine wpAny_bind (wpAny_pure ?_)
  have hne : a ≠ s.heap.objs.size := Nat.ne_of_lt (Heap.lt_size R.obj)
  refine wpAny_bind (merge_fresh (s := { s with heap := s.heap.push (newObjOf w) }) hne (fresh_x s.heap) rfl rfl (R.move fun o e => old_push _ _ _ _ e) h63 fun h' es' ep' t' X p sb => ?_)
  exact wpAny_pure (hQ h' es' ep' t' X p sb)
end
end Cs

set_option Elab.async false
set_option linter.all false
set_option maxRecDepth 100000
set_option maxHeartbeats 1000000
namespace Cs
open PySem PySem.Spec PyProof.Rows L2
section
variable {P : Program} {w : World} {A : Around} {E : Value → Shared → Prop} {s : Shared}
/-- adding those of a walk that a test lets in -/
theorem add_some {r : Addr} (C : Int → Bool) (f : (Int × Value) → PUnit → Sem (ForInStep PUnit)) (K : Shared → Prop) (hK : ∀ s1 h', Heap.SameBut r s1.heap h' → K s1 → K { s1 with heap := h' })
    (hf : ∀ e k tk s1 Q', e = (hashInt k, Value.int k tk) → K s1 → (C k = true → wpAny (model P w) A (setAddHashed r (.int k tk) (hashInt k)) (fun _ s2 => K s2 ∧ Q' (.yield ⟨⟩) s2) E s1) → (C k = false → Q' (.yield ⟨⟩) s1) →
      wpAny (model P w) A (f e ⟨⟩) Q' E s1)
    (ys : Array (Int × Value)) (g : ∀ e ∈ ys.toList, GoodE e) {S : Int → Bool} {n : Nat} (R : SetR w s.heap r S n) (hn : n + ys.size + 1 < scanBound) (hs : K s) {Q : PUnit → Shared → Prop}
    (hQ : ∀ h' S' n', SetR w h' r S' n' → (∀ k, S' k = true ↔ S k = true ∨ (k ∈ keys ys ∧ C k = true)) → n' ≤ n + ys.size → Heap.SameBut r s.heap h' → K { s with heap := h' } → Q ⟨⟩ { s with heap := h' }) :
    wpAny (model P w) A (forIn ys ⟨⟩ f) Q E s := by
  refine MeetsSeq2.wpAny_forIn_array f (fun rest _ s' => ∃ h' S' n', s' = { s with heap := h' } ∧ SetR w h' r S' n' ∧ (∀ k, (S' k = true ∨ (k ∈ rest.map keyOf ∧ C k = true)) ↔ (S k = true ∨ (k ∈ keys ys ∧ C k = true))) ∧ n' + rest.length ≤ n + ys.size ∧
    Heap.SameBut r s.heap h' ∧ K { s with heap := h' } ∧ ∀ e ∈ rest, GoodE e) Q ?turn ?fin ys ⟨⟩ ⟨s.heap, S, n, rfl, R, fun k => Iff.rfl, by rw [Array.length_toList]; exact Nat.le_refl _, Heap.SameBut.refl r s.heap, hs, g⟩
  case fin =>
    rintro ⟨⟩ s' ⟨h', S', n', rfl, R', m, l, sb, k, _⟩
    exact hQ h' S' n' R' (fun k => by simpa using m k) (by simpa using l) sb k
  case turn =>
    rintro e rest ⟨⟩ s' ⟨h', S', n', rfl, R', m, l, sb, kk, g'⟩
    obtain ⟨k, tk, e1, e2⟩ := g' e List.mem_cons_self
    obtain ⟨eh, ev⟩ := e
    simp only at e1 e2
    subst e1 e2
    rw [List.length_cons] at l
    refine hf _ k tk _ _ rfl kk (fun hc => ?_) (fun hc => ?_)
    · refine setR_add_hashed (s := { s with heap := h' }) R' (by omega) fun h2 sb2 R2 => ?_
      have k2 : K { s with heap := h2 } := hK { s with heap := h' } h2 sb2 kk
      refine ⟨k2, h2, _, _, rfl, R2, fun j => ?_, ?_, sb_trans sb sb2, k2, fun e he => g' e (List.mem_cons_of_mem _ he)⟩
      · rw [← m j, List.map_cons, List.mem_cons, Bool.or_eq_true, decide_eq_true_eq]
        show ((S' j = true ∨ j = k) ∨ _) ↔ (S' j = true ∨ ((j = k ∨ _) ∧ _))
        constructor
        · rintro ((z | z) | ⟨z, z2⟩)
          · exact .inl z
          · exact .inr ⟨.inl z, z ▸ hc⟩
          · exact .inr ⟨.inr z, z2⟩
        · rintro (z | ⟨z | z, z2⟩)
          · exact .inl (.inl z)
          · exact .inl (.inr z)
          · exact .inr ⟨z, z2⟩
      · have : (if S' k = true then n' else n' + 1) ≤ n' + 1 := by split <;> omega
        omega
    · refine ⟨h', S', n', rfl, R', fun j => ?_, by omega, sb, kk, fun e he => g' e (List.mem_cons_of_mem _ he)⟩
      rw [← m j, List.map_cons, List.mem_cons]
      show (S' j = true ∨ _) ↔ (S' j = true ∨ ((j = k ∨ _) ∧ _))
      constructor
      · rintro (z | ⟨z, z2⟩)
        · exact .inl z
        · exact .inr ⟨.inr z, z2⟩
      · rintro (z | ⟨z | z, z2⟩)
        · exact .inl z
        · rw [z, hc] at z2
          cases z2
        · exact .inr ⟨z, z2⟩

theorem find_x {a : Addr} {es : Array (Int × Value)} {ep : Nat} {t : SetTable} {k : Int} {tk : Tok} {Q : Option Nat → Shared → Prop} (R : SetX w s.heap a es ep t)
    (h : ∀ i : Option Nat, (i = none ∧ k ∉ keys es ∨ ∃ j, i = some j ∧ (keys es)[j]? = some k) → Q i s) : wpAny (model P w) A (setFind a (.int k tk) (hashInt k)) Q E s := by
  have hkey : (intKind P w).is k (.int k tk) = true := intKind_is P w k tk
  have hel : ElemsOf (intKind P w) es.toList := good_elems R.good
  unfold setFind setFindIn
  refine wpAny_bind (wpAny_setState_of R.obj rfl R.fits ?_)
  dsimp only
  rw [byScan_of (x := .int k tk) rfl R.few hel]
  simp only [↓reduceIte]
  refine wpAny_bind (wpAny_rule ?_)
  refine wpAny_bind (wpAny_setScan_of (knd := intKind P w) hkey R.obj rfl R.fits hel ?_)
  cases hr : List.findIdx? (fun e => (intKind P w).is k e.2) es.toList with
  | none =>
    dsimp only
    refine wpAny_pure (h none (.inl ⟨rfl, fun z => ?_⟩))
    obtain ⟨e, he, q⟩ := (good_mem (P := P) (w := w) R.good k).1 z
    have c := List.findIdx?_eq_none_iff.mp hr e he
    rw [q] at c
    cases c
  | some j =>
    dsimp only
    obtain ⟨hj, pj, _⟩ := List.findIdx?_eq_some_iff_getElem.mp hr
    refine wpAny_pure (h (some (0 + j)) (.inr ⟨0 + j, rfl, ?_⟩))
    rw [Nat.zero_add, List.getElem?_map, List.getElem?_eq_getElem hj]
    have := (good_is (P := P) (w := w) (R.good _ (List.getElem_mem hj)) k).1 pj
    exact congrArg some this
theorem found_x {a : Addr} {es : Array (Int × Value)} {ep : Nat} {t : SetTable} {k : Int} {tk : Tok} {Q : Option Nat → Shared → Prop} (R : SetX w s.heap a es ep t)
    (h : ∀ i : Option Nat, i.isSome = decide (k ∈ keys es) → Q i s) : wpAny (model P w) A (setFind a (.int k tk) (hashInt k)) Q E s := by
  refine find_x R fun i hi => h i ?_
  rcases hi with ⟨rfl, z⟩ | ⟨j, rfl, z⟩
  · simp [z]
  · have : k ∈ keys es := List.mem_of_getElem? z
    simp [this]

/-- a & b -/
theorem and_x {id : String} {a b : Addr} {ea eb : Array (Int × Value)} {pa pb : Nat} {ta tb : SetTable} {Q : Value → Shared → Prop} (hne : b ≠ a) (RA : SetX w s.heap a ea pa ta) (RB : SetX w s.heap b eb pb tb)
    (hl : ea.size ≤ 63) (hl2 : eb.size ≤ 63)
    (hQ : ∀ h' d' S n, SetR w h' s.heap.objs.size S n → (∀ k, S k = true ↔ k ∈ keys ea ∧ k ∈ keys eb) → n ≤ 63 → Old s.heap h' → Q (.ref s.heap.objs.size) { s with heap := h', drawn := d' }) :
    wpAny (model P w) A (Builtin.Frozenset.intersection id a (.ref b)) Q E s := by
  have hsb : scanBound = 4096 := rfl
  have na : a ≠ s.heap.objs.size := Nat.ne_of_lt (Heap.lt_size RA.obj)
  have nb : b ≠ s.heap.objs.size := Nat.ne_of_lt (Heap.lt_size RB.obj)
  unfold Builtin.Frozenset.intersection
  refine wp_if_neg (c := ((Value.ref b == Value.ref a) = true)) (by simpa using hne) ?_
  try refine wpAny_bind (wpAny_pure ?_)
  refine wpAny_bind (base_x (RA.ty rfl) ?_)
  refine wpAny_bind (new_x ?_)
  refine wpAny_bind (wpAny_pure ?_)
  have RA1 : SetX w (s.heap.push (newObjOf w)) a ea pa ta := RA.move fun o e => old_push _ _ _ _ e
  have RB1 : SetX w (s.heap.push (newObjOf w)) b eb pb tb := RB.move fun o e => old_push _ _ _ _ e
  have R1 := fresh_x (w := w) s.heap
  refine wpAny_bind (wpAny_holding ?_)
  refine wpAny_bind (any_x (RB1.ty rfl) ?_)
  refine wp_if_pos (c := (true = true)) rfl ?_
  refine wpAny_bind (wpAny_pure ?_)
  refine wpAny_bind (size_x (s := { s with heap := s.heap.push (newObjOf w) }) RB1 ?_)
  refine wpAny_bind (size_x (s := { s with heap := s.heap.push (newObjOf w) }) RA1 ?_)
  have key : ∀ (q v : Addr) (eq ev : Array (Int × Value)) (pq pv : Nat) (tq tv : SetTable), SetX w (s.heap.push (newObjOf w)) q eq pq tq → SetX w (s.heap.push (newObjOf w)) v ev pv tv → ev.size ≤ 63 → q ≠ s.heap.objs.size → v ≠ s.heap.objs.size →
      (∀ k, k ∈ keys ev ∧ k ∈ keys eq ↔ k ∈ keys ea ∧ k ∈ keys eb) → wpAny (model P w) A (do
        let was ← setEpoch v
        for (h, x) in ← setWalkUnseen v [q, s.heap.objs.size] (some s.heap.objs.size) do
          holding [x] do
            if (← setFind q x h).isSome then
              let _ ← setAddHashed s.heap.objs.size x h
          Builtin.Frozenset.unchanged id v was) (fun _ s' => wpAny (model P w) A (pure (Value.ref s.heap.objs.size)) Q E s') E { s with heap := s.heap.push (newObjOf w) } := by
    intro q v eq ev pq pv tq tv RQ RV hv nq nv hk
    refine wpAny_bind (wpAny_setEpoch_of RV.obj rfl RV.fits ?_)
    refine wpAny_bind (unseen_x (s := { s with heap := s.heap.push (newObjOf w) }) RV (fun c hc => ?_) R1 fun ys d h2 pf tf py sb2 R2 => ?_)
    · rcases List.mem_cons.mp hc with z | z
      · exact ⟨_, _, _, z ▸ RQ⟩
      · rw [List.mem_singleton.mp z]
        exact ⟨_, _, _, R1⟩
    have RQ2 := sx_other RQ sb2 nq
    have RV2 := sx_other RV sb2 nv
    have zy := perm_size py
    refine wpAny_bind (add_some (P := P) (A := A) (E := E) (s := { s with heap := h2, drawn := d }) (r := s.heap.objs.size) (fun k => decide (k ∈ keys eq)) _ (fun s1 => SetX w s1.heap q eq pq tq ∧ SetX w s1.heap v ev pv tv) (fun s1 h' sb k => ⟨sx_other k.1 sb nq, sx_other k.2 sb nv⟩) ?hf ys
      (fun e he => RV.good e (py.mem_iff.mp he)) (R2.toR (S := fun _ => false) (fun k => by simp) rfl) (by show 0 + ys.size + 1 < scanBound; omega) ⟨RQ2, RV2⟩ ?hQ)
    case hQ =>
      intro h3 S' n' R3 m3 l3 sb3 _
      refine wpAny_pure (wpAny_pure (hQ h3 d S' n' R3 (fun k => ?_) ?_ ?_))
      · rw [m3 k, keys_perm py k, decide_eq_true_iff, ← hk k]
        simp
      · have : n' ≤ 0 + ys.size := l3
        omega
      · exact old_but (sb_trans sb2 sb3)
    case hf =>
      intro e k tk s1 Q' ee kk h1 h0
      subst ee
      dsimp only
      refine wpAny_bind (wpAny_holding ?_)
      refine wpAny_bind (found_x kk.1 fun i hi => ?_)
      by_cases c : k ∈ keys eq
      · refine wp_if_pos (by rw [hi]; exact decide_eq_true c) ?_
        refine wpAny_bind (wpAny_mono (h1 (decide_eq_true c)) (fun b s2 hs2 => ?_) fun _ _ z => z)
        refine wpAny_pure ?_
        refine wpAny_bind (unchanged_x hs2.1.2 ?_)
        exact wpAny_pure hs2.2
      · refine wp_if_neg (by rw [hi]; simpa using c) ?_
        refine wpAny_pure ?_
        refine wpAny_bind (unchanged_x kk.2 ?_)
        exact wpAny_pure (h0 (decide_eq_false c))
  by_cases c : eb.size > ea.size
  · rw [if_pos c]
    exact key b a eb ea pb pa tb ta RB1 RA1 hl nb na (fun k => Iff.rfl)
  · rw [if_neg c]
    exact key a b ea eb pa pb ta tb RA1 RB1 hl2 na nb (fun k => And.comm)
end
end Cs

set_option Elab.async false
set_option linter.all false
set_option maxRecDepth 100000
set_option maxHeartbeats 1000000
namespace Cs
open PySem PySem.Spec PyProof.Rows L2
section
variable {P : Program} {w : World} {A : Around} {E : Value → Shared → Prop} {s : Shared}
theorem map_out {α β : Type} (f : α → β) : ∀ (l : List α) (i : Nat), (l.map f).eraseIdx i = (l.eraseIdx i).map f
  | [], i => by simp
  | x :: l, 0 => by simp
  | x :: l, i + 1 => by simp [map_out f l i]
/-- a | b -/
theorem union_x {id : String} {a b : Addr} {ea eb : Array (Int × Value)} {pa pb : Nat} {ta tb : SetTable} {Q : Unit → Shared → Prop} (hne : b ≠ a) (RA : SetX w s.heap a ea pa ta) (RB : SetX w s.heap b eb pb tb)
    (ha : ea.size ≠ 0 ∨ (ea = #[] ∧ ta.mask = 7 ∧ ta.dummies = #[])) (hl : (ea.size + eb.size) * 2 < 128)
    (hQ : ∀ h' d' S n, SetR w h' a S n → (∀ k, S k = true ↔ k ∈ keys ea ∨ k ∈ keys eb) → n ≤ ea.size + eb.size → Heap.SameBut a s.heap h' → Q () { s with heap := h', drawn := d' }) :
    wpAny (model P w) A (Builtin.Frozenset.updateFrom id a (.ref b)) Q E s := by
  unfold Builtin.Frozenset.updateFrom
  refine wpAny_bind (any_x (RB.ty rfl) ?_)
  refine wp_if_pos (c := (true = true)) rfl ?_
  refine wpAny_bind (wpAny_pure ?_)
  refine wpAny_bind (wpAny_setEpoch_of RB.obj rfl RB.fits ?_)
  rcases ha with ha | ⟨e0, em, ed⟩
  · refine merge_more hne RA RB ha hl (fun s' Q' k q => unchanged_x k q) fun h' d' S' n' R m l sb => ?_
    exact hQ h' d' S' n' R m l sb
  · subst e0
    have z0 : (#[] : Array (Int × Value)).size = 0 := rfl
    refine merge_fresh hne RA em ed RB (by omega) fun h' es' ep' t' X p sb => ?_
    have z := perm_size p
    exact hQ h' s.drawn _ _ (X.toR (S := fun k => decide (k ∈ keys es')) (fun k => decide_eq_true_iff) rfl) (fun k => by rw [decide_eq_true_iff, keys_perm p k]; simp) (by omega) sb

/-- what is struck out -/
theorem discard_x {a : Addr} {es : Array (Int × Value)} {ep : Nat} {t : SetTable} {k : Int} {tk : Tok} {Q : Bool → Shared → Prop} (R : SetX w s.heap a es ep t)
    (hQ : ∀ b h' es' ep' t', SetX w h' a es' ep' t' → (∀ j, j ∈ keys es' ↔ j ∈ keys es ∧ j ≠ k) → es'.size ≤ es.size → Heap.SameBut a s.heap h' → Q b { s with heap := h' }) :
    wpAny (model P w) A (setDiscardHashed a (.int k tk) (hashInt k)) Q E s := by
  unfold setDiscardHashed
  refine wpAny_bind (find_x R fun i hi => ?_)
  rcases hi with ⟨rfl, z⟩ | ⟨i, rfl, z⟩
  · exact wpAny_pure (hQ false s.heap es ep t R (fun j => ⟨fun q => ⟨q, fun e => z (e ▸ q)⟩, fun q => q.1⟩) (Nat.le_refl _) (Heap.SameBut.refl a s.heap))
  · dsimp only
    refine wpAny_bind (wpAny_setState_of R.obj rfl R.fits ?_)
    dsimp only
    have hf := R.fits
    unfold SetTable.fits SetTable.fill at hf
    rw [Bool.and_eq_true, beq_iff_eq, decide_eq_true_eq] at hf
    have hi : i < es.toList.length := by
      have := (List.getElem?_eq_some_iff.mp z).1
      rw [List.length_map] at this
      exact this
    have hi2 : i < t.place.size := by rw [hf.1, ← Array.length_toList]; exact hi
    have er : ∀ {α : Type} (xs : Array α), (SetTable.eraseAt xs i).toList = xs.toList.eraseIdx i := fun xs => by
      unfold SetTable.eraseAt
      rw [List.eraseIdx_eq_take_drop_succ]
      simp [List.extract_eq_take_drop, List.take_of_length_le]
    have ed : t.drop i = { t with place := SetTable.eraseAt t.place i, dummies := SetTable.insertAt t.dummies (SetTable.below t.dummies t.place[i]) t.place[i] } := by
      unfold SetTable.drop
      rw [Array.getElem?_eq_getElem hi2]
    have l1 : (SetTable.eraseAt es i).size + 1 = es.size := by
      rw [← Array.length_toList, er, List.length_eraseIdx, if_pos hi, Array.length_toList]
      rw [Array.length_toList] at hi
      omega
    have l2 : (SetTable.eraseAt t.place i).size + 1 = t.place.size := by
      rw [← Array.length_toList, er, List.length_eraseIdx, Array.length_toList, if_pos hi2]
      omega
    have l3 : ∀ p x, (SetTable.insertAt t.dummies p x).size = t.dummies.size + 1 := fun p x => by
      have := (SetTable.insertAt_perm t.dummies p x).length_eq
      rw [Array.length_toList, Array.length_toList, Array.size_push] at this
      exact this
    refine wpAny_bind (wpAny_storeSet_of R.obj rfl ?_ (fits_of_scanBound (by have := R.few; omega)))
    refine wpAny_bind (wpAny_point ?_)
    have ek : keys (SetTable.eraseAt es i) = (keys es).eraseIdx i := by
      show (SetTable.eraseAt es i).toList.map keyOf = _
      rw [er]
      exact (map_out keyOf es.toList i).symm
    have pk : (k :: (keys es).eraseIdx i).Perm (keys es) := erase_perm (keys es) i k z
    have nd : (k :: (keys es).eraseIdx i).Nodup := pk.nodup_iff.mpr R.nd
    refine wpAny_pure (hQ true _ _ _ _ ⟨store_at R.obj rfl, fun e he => R.good e ?_, ?_, ?_, ?_, ?_, ?_⟩ (fun j => ?_) (by omega) (Heap.SameBut.update s.heap a _))
    · rw [er] at he
      exact List.mem_of_mem_eraseIdx he
    · show (keys (SetTable.eraseAt es i)).Nodup
      rw [ek]
      exact (List.nodup_cons.mp nd).2
    · have := R.few
      omega
    · rw [ed]
      unfold SetTable.fits SetTable.fill
      rw [Bool.and_eq_true, beq_iff_eq, decide_eq_true_eq]
      simp only
      rw [l3]
      exact ⟨by omega, by omega⟩
    · rw [ed]
      show Ris (SetTable.eraseAt t.place i).toList
      rw [er]
      exact List.Pairwise.sublist (List.eraseIdx_sublist _ _) R.ris
    · rw [ed]
      exact R.led
    · rw [ek, ← (pk.mem_iff (a := j)), List.mem_cons]
      constructor
      · intro q
        exact ⟨.inr q, fun e => (List.nodup_cons.mp nd).1 (e ▸ q)⟩
      · rintro ⟨q | q, q2⟩
        · exact absurd q q2
        · exact q

theorem strike_all {r : Addr} (f : (Int × Value) → PUnit → Sem (ForInStep PUnit)) (K : Shared → Prop) (hK : ∀ s1 h', Heap.SameBut r s1.heap h' → K s1 → K { s1 with heap := h' })
    (hf : ∀ e k tk s1 Q', e = (hashInt k, Value.int k tk) → K s1 → (wpAny (model P w) A (setDiscardHashed r (.int k tk) (hashInt k)) (fun _ s2 => K s2 ∧ Q' (.yield ⟨⟩) s2) E s1) → wpAny (model P w) A (f e ⟨⟩) Q' E s1)
    (ys : Array (Int × Value)) (g : ∀ e ∈ ys.toList, GoodE e) {es : Array (Int × Value)} {ep : Nat} {t : SetTable} (R : SetX w s.heap r es ep t) (hs : K s) {Q : PUnit → Shared → Prop}
    (hQ : ∀ h' es' ep' t', SetX w h' r es' ep' t' → (∀ k, k ∈ keys es' ↔ k ∈ keys es ∧ k ∉ keys ys) → es'.size ≤ es.size → Heap.SameBut r s.heap h' → K { s with heap := h' } → Q ⟨⟩ { s with heap := h' }) :
    wpAny (model P w) A (forIn ys ⟨⟩ f) Q E s := by
  refine MeetsSeq2.wpAny_forIn_array f (fun rest _ s' => ∃ h' es' ep' t', s' = { s with heap := h' } ∧ SetX w h' r es' ep' t' ∧ (∀ k, (k ∈ keys es' ∧ k ∉ rest.map keyOf) ↔ (k ∈ keys es ∧ k ∉ keys ys)) ∧ es'.size ≤ es.size ∧
    Heap.SameBut r s.heap h' ∧ K { s with heap := h' } ∧ ∀ e ∈ rest, GoodE e) Q ?turn ?fin ys ⟨⟩ ⟨s.heap, es, ep, t, rfl, R, fun k => Iff.rfl, Nat.le_refl _, Heap.SameBut.refl r s.heap, hs, g⟩
  case fin =>
    rintro ⟨⟩ s' ⟨h', es', ep', t', rfl, R', m, l, sb, k, _⟩
    exact hQ h' es' ep' t' R' (fun k => by simpa using m k) l sb k
  case turn =>
    rintro e rest ⟨⟩ s' ⟨h', es', ep', t', rfl, R', m, l, sb, kk, g'⟩
    obtain ⟨k, tk, e1, e2⟩ := g' e List.mem_cons_self
    obtain ⟨eh, ev⟩ := e
    simp only at e1 e2
    subst e1 e2
    refine hf _ k tk _ _ rfl kk ?_
    refine discard_x (s := { s with heap := h' }) R' fun b h2 es2 ep2 t2 R2 m2 l2 sb2 => ?_
    have k2 : K { s with heap := h2 } := hK { s with heap := h' } h2 sb2 kk
    refine ⟨k2, h2, _, _, _, rfl, R2, fun j => ?_, by omega, sb_trans sb sb2, k2, fun e he => g' e (List.mem_cons_of_mem _ he)⟩
    rw [← m j, List.map_cons, List.mem_cons, m2 j]
    show ((j ∈ keys es' ∧ j ≠ k) ∧ _) ↔ (j ∈ keys es' ∧ ¬ (j = k ∨ _))
    constructor
    · rintro ⟨⟨z1, z2⟩, z3⟩
      exact ⟨z1, fun z => z.elim z2 z3⟩
    · rintro ⟨z1, z2⟩
      exact ⟨⟨z1, fun z => z2 (.inl z)⟩, fun z => z2 (.inr z)⟩

theorem tidy_x {a : Addr} {es : Array (Int × Value)} {ep : Nat} {t : SetTable} {Q : Unit → Shared → Prop} (R : SetX w s.heap a es ep t) (hl : es.size ≤ 31)
    (hQ : ∀ h' es' ep' t', SetX w h' a es' ep' t' → es'.toList.Perm es.toList → Heap.SameBut a s.heap h' → Q () { s with heap := h' }) :
    wpAny (model P w) A (setTidy a) Q E s := by
  unfold setTidy
  refine wpAny_bind (wpAny_setState_of R.obj rfl R.fits ?_)
  dsimp only
  have eg : SetTable.grown es.size = es.size * 4 := if_neg (by omega)
  split
  · rw [eg]
    exact relay_x R (by omega) (by omega) fun h' es' t' sb X p _ _ _ => hQ h' es' _ t' X p sb
  · exact wpAny_pure (hQ s.heap es ep t R (List.Perm.refl _) (Heap.SameBut.refl a s.heap))
end
end Cs

set_option Elab.async false
set_option linter.all false
set_option maxRecDepth 100000
set_option maxHeartbeats 2000000
namespace Cs
open PySem PySem.Spec PyProof.Rows L2
section
variable {P : Program} {w : World} {A : Around} {E : Value → Shared → Prop} {s : Shared}
/-- a - b -/
theorem sub_x {id : String} {a b : Addr} {ea eb : Array (Int × Value)} {pa pb : Nat} {ta tb : SetTable} {Q : Value → Shared → Prop} (hne : b ≠ a) (RA : SetX w s.heap a ea pa ta) (RB : SetX w s.heap b eb pb tb)
    (hl : ea.size ≤ 31) (hl2 : eb.size ≤ 63)
    (hQ : ∀ h' d' S n, SetR w h' s.heap.objs.size S n → (∀ k, S k = true ↔ k ∈ keys ea ∧ k ∉ keys eb) → n ≤ 31 → Old s.heap h' → Q (.ref s.heap.objs.size) { s with heap := h', drawn := d' }) :
    wpAny (model P w) A (Builtin.Frozenset.difference id a (.ref b)) Q E s := by
  have hsb : scanBound = 4096 := rfl
  have na : a ≠ s.heap.objs.size := Nat.ne_of_lt (Heap.lt_size RA.obj)
  have nb : b ≠ s.heap.objs.size := Nat.ne_of_lt (Heap.lt_size RB.obj)
  unfold Builtin.Frozenset.difference
  dsimp only
  refine wpAny_bind (any_x (RB.ty rfl) ?_)
  refine wp_if_neg (c := ((!true) = true)) (by simp) ?_
  try refine wpAny_bind (wpAny_pure ?_)
  try refine wpAny_bind (wpAny_pure ?_)
  refine wp_if_neg (c := ((!true && b == sysModules) = true)) (by simp) ?_
  try refine wpAny_bind (wpAny_pure ?_)
  refine wp_if_pos (c := (true = true)) rfl ?_
  refine wpAny_bind (size_x RB ?_)
  refine wpAny_bind (size_x RA ?_)
  by_cases c : ea.size / 4 > eb.size
  · refine wp_if_pos c ?_
    refine wpAny_bind (wpAny_rule ?_)
    refine wpAny_bind (copy_x RA (by omega) fun h1 es1 ep1 t1 X1 p1 sb1 => ?_)
    have z1 := perm_size p1
    have RB1 : SetX w h1 b eb pb tb := RB.move fun o e => old_but sb1 _ _ e
    refine wpAny_bind (wpAny_pure ?_)
    refine wpAny_bind (wpAny_holding ?_)
    unfold Builtin.Frozenset.differenceUpdate
    refine wp_if_neg (c := ((Value.ref b == Value.ref s.heap.objs.size) = true)) (by simpa using nb) ?_
    try refine wpAny_bind (wpAny_pure ?_)
    refine wpAny_bind (any_x (RB1.ty rfl) ?_)
    refine wp_if_pos (c := (true = true)) rfl ?_
    refine wpAny_bind (wpAny_pure ?_)
    dsimp only
    refine wpAny_bind (size_x (s := { s with heap := h1 }) RB1 ?_)
    refine wpAny_bind (size_x (s := { s with heap := h1 }) X1 ?_)
    refine wp_if_neg (by omega) ?_
    try refine wpAny_bind (wpAny_pure ?_)
    refine wpAny_bind (wpAny_setEpoch_of RB1.obj rfl RB1.fits ?_)
    refine wpAny_bind (wpAny_holding ?_)
    refine wpAny_bind (unseen_n (s := { s with heap := h1 }) RB1 (fun x hx => by rw [List.mem_singleton.mp hx]; exact ⟨_, _, _, X1⟩) fun ys d py => ?_)
    refine wpAny_bind (strike_all (P := P) (A := A) (E := E) (s := { s with heap := h1, drawn := d }) (r := s.heap.objs.size) _ (fun s1 => SetX w s1.heap b eb pb tb) (fun s1 h' sb k => sx_other k sb nb) ?hf ys
      (fun e he => RB.good e (py.mem_iff.mp he)) X1 RB1 ?hQ)
    case hf =>
      intro e k tk s1 Q' ee kk hwp
      subst ee
      dsimp only
      refine wpAny_bind (wpAny_holding (wpAny_mono hwp (fun b s2 hs2 => ?_) fun _ _ z => z))
      obtain ⟨k2, q2⟩ := hs2
      refine wpAny_bind (unchanged_x k2 ?_)
      exact wpAny_pure q2
    case hQ =>
      intro h2 es2 ep2 t2 X2 m2 l2 sb2 _
      refine wpAny_pure ?_
      refine tidy_x (s := { s with heap := h2, drawn := d }) X2 (by omega) fun h3 es3 ep3 t3 X3 p3 sb3 => ?_
      have z3 := perm_size p3
      refine wpAny_pure (hQ h3 d _ _ (X3.toR (S := fun k => decide (k ∈ keys es3)) (fun k => decide_eq_true_iff) rfl) (fun k => ?_) (by omega) ?_)
      · rw [decide_eq_true_iff, keys_perm p3 k, m2 k, keys_perm p1 k, keys_perm py k]
      · exact old_but (sb_trans sb1 (sb_trans sb2 sb3))
  · refine wp_if_neg c ?_
    try refine wpAny_bind (wpAny_pure ?_)
    refine wpAny_bind (base_x (RA.ty rfl) ?_)
    refine wpAny_bind (new_x ?_)
    refine wpAny_bind (wpAny_pure ?_)
    have RA1 : SetX w (s.heap.push (newObjOf w)) a ea pa ta := RA.move fun o e => old_push _ _ _ _ e
    have RB1 : SetX w (s.heap.push (newObjOf w)) b eb pb tb := RB.move fun o e => old_push _ _ _ _ e
    have R1 := fresh_x (w := w) s.heap
    refine wpAny_bind (wpAny_setEpoch_of RA1.obj rfl RA1.fits ?_)
    refine wpAny_bind (wpAny_holding ?_)
    refine wpAny_bind (wp_if_pos (c := (true = true)) rfl ?_)
    refine unseen_x (s := { s with heap := s.heap.push (newObjOf w) }) RA1 (fun x hx => ?_) R1 fun ys d h2 pf tf py sb2 R2 => ?_
    · rcases List.mem_cons.mp hx with z | z
      · exact ⟨_, _, _, z ▸ RB1⟩
      · rw [List.mem_singleton.mp z]
        exact ⟨_, _, _, R1⟩
    have RA2 := sx_other RA1 sb2 na
    have RB2 := sx_other RB1 sb2 nb
    have zy := perm_size py
    refine wpAny_bind (add_some (P := P) (A := A) (E := E) (s := { s with heap := h2, drawn := d }) (r := s.heap.objs.size) (fun k => decide (k ∉ keys eb)) _ (fun s1 => SetX w s1.heap b eb pb tb ∧ SetX w s1.heap a ea pa ta)
      (fun s1 h' sb k => ⟨sx_other k.1 sb nb, sx_other k.2 sb na⟩) ?hf ys
      (fun e he => RA.good e (py.mem_iff.mp he)) (R2.toR (S := fun _ => false) (fun k => by simp) rfl) (by show 0 + ys.size + 1 < scanBound; omega) ⟨RB2, RA2⟩ ?hQ)
    case hQ =>
      intro h3 S' n' R3 m3 l3 sb3 _
      refine wpAny_pure (wpAny_pure (hQ h3 d S' n' R3 (fun k => ?_) ?_ ?_))
      · rw [m3 k, keys_perm py k, decide_eq_true_iff]
        simp
      · have : n' ≤ 0 + ys.size := l3
        omega
      · exact old_but (sb_trans sb2 sb3)
    case hf =>
      intro e k tk s1 Q' ee kk h1 h0
      subst ee
      dsimp only
      refine wpAny_bind (wpAny_holding ?_)
      refine wp_if_pos (c := (true = true)) rfl ?_
      refine wpAny_bind (found_x kk.1 fun i hi => ?_)
      refine wpAny_bind (wpAny_pure ?_)
      try refine wpAny_bind (wpAny_pure ?_)
      by_cases c : k ∈ keys eb
      · refine wp_if_neg (by rw [hi]; simp [c]) ?_
        refine wpAny_pure ?_
        refine wpAny_bind (unchanged_x kk.2 ?_)
        exact wpAny_pure (h0 (by simp [c]))
      · refine wp_if_pos (by rw [hi]; simp [c]) ?_
        refine wpAny_bind (wpAny_mono (h1 (decide_eq_true c)) (fun b s2 hs2 => ?_) fun _ _ z => z)
        refine wpAny_pure ?_
        refine wpAny_bind (unchanged_x hs2.1.2 ?_)
        exact wpAny_pure hs2.2
end
end Cs

set_option Elab.async false
set_option linter.all false
set_option maxRecDepth 100000
set_option maxHeartbeats 2000000
namespace Cs
open PySem PySem.Spec PyProof.Rows L2
theorem entry_and : entryFor table "set.__and__" = some Builtin.«frozenset.__and__» := entryFor_alias (id' := "frozenset.__and__") (by kernel_rfl) rfl (by decide +kernel) (by kernel_rfl)
theorem entry_or : entryFor table "set.__or__" = some Builtin.«frozenset.__or__» := entryFor_alias (id' := "frozenset.__or__") (by kernel_rfl) rfl (by decide +kernel) (by kernel_rfl)
theorem entry_sub : entryFor table "set.__sub__" = some Builtin.«frozenset.__sub__» := entryFor_alias (id' := "frozenset.__sub__") (by kernel_rfl) rfl (by decide +kernel) (by kernel_rfl)
end Cs

set_option Elab.async false
set_option linter.all false
set_option maxRecDepth 100000
set_option maxHeartbeats 2000000
namespace Cs
open PySem PySem.Spec PyProof.Rows L2
section
variable {P : Program} {w : World} {A : Around} {E : Value → Shared → Prop} {s : Shared}
theorem slot1_x {name : String} {v u : Value} {Q : Value × Value → Shared → Prop} (q : Q (v, u) s) : wpAny (model P w) A (Builtin.Frozenset.slot1 name ⟨[v, u], []⟩) Q E s := by
  unfold Builtin.Frozenset.slot1 slotArgs
  exact wpAny_pure q
theorem op_and_x {a b : Addr} {SA SB : Int → Bool} {na nb : Nat} {Q : Value → Shared → Prop} (hne : b ≠ a) (RA : SetR w s.heap a SA na) (RB : SetR w s.heap b SB nb) (hl : na ≤ 63) (hl2 : nb ≤ 63)
    (hQ : ∀ h' d' S n, SetR w h' s.heap.objs.size S n → (∀ k, S k = true ↔ SA k = true ∧ SB k = true) → n ≤ 63 → Old s.heap h' → Q (.ref s.heap.objs.size) { s with heap := h', drawn := d' }) :
    wpAny (model P w) A (binaryOp .BitAnd (.ref a) (.ref b)) Q E s := by
  obtain ⟨ea, pa, ta, XA, mA, zA⟩ := xOf RA
  obtain ⟨eb, pb, tb, XB, mB, zB⟩ := xOf RB
  have TA : s.TypeIs (.ref a) "set" := XA.ty rfl
  have TB : s.TypeIs (.ref b) "set" := XB.ty rfl
  refine wpAny_binaryOp_same (op := .BitAnd) TA TB F.fills_set_and F.slot_set_and ?_
  refine wpAny_call_entry F.slot_set_and TA entry_and ?_ (F.args_set_and_2 _ _)
  refine wpAny_bind (slot1_x ?_)
  dsimp only
  refine wpAny_bind (wpAny_bind (any_x TA ?_))
  show wpAny _ _ (Builtin.Frozenset.isAnySet (.ref b)) _ _ _
  refine any_x TB ?_
  refine wp_if_neg (c := ((!true) = true)) (by simp) ?_
  refine wpAny_bind (wpAny_pure ?_)
  refine wpAny_bind (and_x hne XA XB (by omega) (by omega) fun h' d' S n R m l o => ?_)
  refine wpAny_pure ⟨_, rfl, (fun z => nomatch z), hQ h' d' S n R (fun k => ?_) l o⟩
  rw [m k, mA k, mB k]
theorem op_or_x {a b : Addr} {SA SB : Int → Bool} {na nb : Nat} {Q : Value → Shared → Prop} (hne : b ≠ a) (RA : SetR w s.heap a SA na) (RB : SetR w s.heap b SB nb) (hl : na + nb ≤ 63)
    (hQ : ∀ h' d' S n, SetR w h' s.heap.objs.size S n → (∀ k, S k = true ↔ SA k = true ∨ SB k = true) → n ≤ na + nb → Old s.heap h' → Q (.ref s.heap.objs.size) { s with heap := h', drawn := d' }) :
    wpAny (model P w) A (binaryOp .BitOr (.ref a) (.ref b)) Q E s := by
  obtain ⟨ea, pa, ta, XA, mA, zA⟩ := xOf RA
  obtain ⟨eb, pb, tb, XB, mB, zB⟩ := xOf RB
  have TA : s.TypeIs (.ref a) "set" := XA.ty rfl
  have TB : s.TypeIs (.ref b) "set" := XB.ty rfl
  have hbs : b ≠ s.heap.objs.size := Nat.ne_of_lt (Heap.lt_size XB.obj)
  refine wpAny_binaryOp_same (op := .BitOr) TA TB F.fills_set_or F.slot_set_or ?_
  refine wpAny_call_entry F.slot_set_or TA entry_or ?_ (F.args_set_or_2 _ _)
  refine wpAny_bind (slot1_x ?_)
  dsimp only
  refine wpAny_bind (wpAny_bind (any_x TA ?_))
  show wpAny _ _ (Builtin.Frozenset.isAnySet (.ref b)) _ _ _
  refine any_x TB ?_
  refine wp_if_neg (c := ((!true) = true)) (by simp) ?_
  refine wpAny_bind (wpAny_pure ?_)
  refine wpAny_bind ?_
  by_cases he : ea = #[]
  · subst he
    refine wpAny_bind (m := Builtin.Frozenset.copyOf a) ?_
    unfold Builtin.Frozenset.copyOf
    refine wpAny_bind (base_x TA ?_)
    refine wpAny_bind (new_x ?_)
    refine wpAny_bind (wpAny_pure ?_)
    have hae : a ≠ s.heap.objs.size := Nat.ne_of_lt (Heap.lt_size XA.obj)
    have XA1 : SetX w (s.heap.push (newObjOf w)) a #[] pa ta := XA.move fun o e => old_push _ _ _ _ e
    have XB1 : SetX w (s.heap.push (newObjOf w)) b eb pb tb := XB.move fun o e => old_push _ _ _ _ e
    refine wpAny_bind ?_
    unfold setMerge
    refine wp_if_neg (c := (s.heap.objs.size == a) = true) (by simpa using hae.symm) ?_
    try refine wpAny_bind (wpAny_pure ?_)
    refine wpAny_bind (wpAny_setState_of XA1.obj rfl XA1.fits ?_)
    dsimp only
    refine wp_if_pos (c := (#[] : Array (Int × Value)).isEmpty = true) rfl ?_
    refine wpAny_pure (wpAny_pure ?_)
    refine wp_if_pos (c := ((Value.ref b != Value.ref a) = true)) (by simpa using hne) ?_
    refine wpAny_bind (wpAny_pure ?_)
    have z0 : (#[] : Array (Int × Value)).size = 0 := rfl
    refine wpAny_bind (wpAny_holding (union_x (s := { s with heap := s.heap.push (newObjOf w) }) hbs (fresh_x s.heap) XB1 (.inr ⟨rfl, rfl, rfl⟩) (by omega) fun h' d' S n R m l sb => ?_))
    refine wpAny_pure (wpAny_pure ⟨_, rfl, (fun z => nomatch z), hQ h' d' S n R (fun k => ?_) (by omega) (old_but sb)⟩)
    rw [m k, mA k, mB k]
  · have hz : ea.size ≠ 0 := fun z => he (by simpa using z)
    refine wpAny_bind (m := Builtin.Frozenset.copyOf a) (copy_x XA (by omega) fun h1 es1 ep1 t1 X1 p1 sb1 => ?_)
    have z1 := perm_size p1
    have XB1 : SetX w h1 b eb pb tb := XB.move fun o e => old_but sb1 _ _ e
    refine wp_if_pos (c := ((Value.ref b != Value.ref a) = true)) (by simpa using hne) ?_
    refine wpAny_bind (wpAny_pure ?_)
    refine wpAny_bind (wpAny_holding (union_x (s := { s with heap := h1 }) hbs X1 XB1 (.inl (by omega)) (by omega) fun h' d' S n R m l sb => ?_))
    refine wpAny_pure (wpAny_pure ⟨_, rfl, (fun z => nomatch z), hQ h' d' S n R (fun k => ?_) (by omega) (old_but (sb_trans sb1 sb))⟩)
    rw [m k, keys_perm p1 k, mA k, mB k]
theorem op_sub_x {a b : Addr} {SA SB : Int → Bool} {na nb : Nat} {Q : Value → Shared → Prop} (hne : b ≠ a) (RA : SetR w s.heap a SA na) (RB : SetR w s.heap b SB nb) (hl : na ≤ 31) (hl2 : nb ≤ 63)
    (hQ : ∀ h' d' S n, SetR w h' s.heap.objs.size S n → (∀ k, S k = true ↔ SA k = true ∧ SB k = false) → n ≤ 31 → Old s.heap h' → Q (.ref s.heap.objs.size) { s with heap := h', drawn := d' }) :
    wpAny (model P w) A (binaryOp .Sub (.ref a) (.ref b)) Q E s := by
  obtain ⟨ea, pa, ta, XA, mA, zA⟩ := xOf RA
  obtain ⟨eb, pb, tb, XB, mB, zB⟩ := xOf RB
  have TA : s.TypeIs (.ref a) "set" := XA.ty rfl
  have TB : s.TypeIs (.ref b) "set" := XB.ty rfl
  refine wpAny_binaryOp_same (op := .Sub) TA TB F.fills_set_sub F.slot_set_sub ?_
  refine wpAny_call_entry F.slot_set_sub TA entry_sub ?_ (F.args_set_sub_2 _ _)
  refine wpAny_bind (slot1_x ?_)
  dsimp only
  refine wpAny_bind (wpAny_bind (any_x TA ?_))
  show wpAny _ _ (Builtin.Frozenset.isAnySet (.ref b)) _ _ _
  refine any_x TB ?_
  refine wp_if_neg (c := ((!true) = true)) (by simp) ?_
  refine wpAny_bind (wpAny_pure ?_)
  refine wpAny_bind (sub_x hne XA XB (by omega) (by omega) fun h' d' S n R m l o => ?_)
  refine wpAny_pure ⟨_, rfl, (fun z => nomatch z), hQ h' d' S n R (fun k => ?_) l o⟩
  rw [m k, mA k, ← mB k]
  simp
end
end Cs

set_option Elab.async false
set_option linter.all false
set_option maxRecDepth 100000
set_option maxHeartbeats 3200000
namespace Cs
open PySem PySem.Spec PyProof.Rows L2
section
variable {P : Program} {w : World} {A : Around} {E : Value → Shared → Prop} {s : Shared}
/-- set(l), l a list of ints: made empty, then its items one by one -/
theorem set_of_list {l : Addr} {items : Array Value} (ns : List Int) {Q : Value → Shared → Prop} (quiet : A.handled = none) (isl : s.heap.IsList l items) (hints : IntsAre items.toList ns) (room : ns.length + 1 < scanBound)
    (fin : ∀ (h' : Heap) (tk c : Nat), SetR w h' s.heap.objs.size (fun j => decide (j ∈ ns)) c → c ≤ ns.length → Old s.heap h' → Q (.ref s.heap.objs.size) { s with heap := h', toks := tk }) :
    wpAny (model P w) A (call (.type "set") [.ref l]) Q E s := by
  have many : items.size = ns.length := (Array.length_toList (xs := items)).symm.trans (IntsAre.length hints)
  have cs := F.called_set
  obtain ⟨mc, mt, mro⟩ := cs.mro
  have made := cs.made
  have under := cs.sub
  refine wpAny_call (codeAny_of_tree ?_)
  show wpAny _ _ (callAny (.type "set") ⟨[.ref l], []⟩) _ _ _
  refine wpAny_pure ⟨Code.quiet_builtin _ (by decide +kernel), ?_⟩
  refine codeAny_builtin F.entry_type_call ?_
  rw [Around.under_plain (weight_type_call_type "set" [Value.ref l] []) rfl]
  have k1 := cs.notType
  have k2 := cs.canCreate
  have k3 := F.typeCall_set_1 (.ref l)
  repeat (any_goals (first | assumption | wp_step))
  refine codeAny_mono (code_set_led1 (.ref l) (E := E) (Q₁ := fun o z => o = .ref s.heap.objs.size ∧ z = { s with heap := s.heap.push (newObjOf w) }) ⟨rfl, rfl⟩) fun r z hz => ?_
  cases r with
  | error e => exact hz
  | ok fl =>
    cases fl with
    | ret o =>
      obtain ⟨rfl, rfl⟩ := hz
      have here : (s.heap.push (newObjOf w)).get? s.heap.objs.size = some (newObjOf w) := Heap.get?_push_size _ rfl
      have ty : Shared.TypeIs { s with heap := s.heap.push (newObjOf w) } (.ref s.heap.objs.size) "set" := ⟨_, here, rfl⟩
      have k4 := cs.init.lookup
      have k5 := cs.init.bind (.ref s.heap.objs.size)
      repeat (any_goals (first | assumption | wp_step))
      refine codeAny_mono (codeAny_call_builtin (R := wants (fun r y => r = .none ∧ ∃ h' tk c, y = { s with heap := h', toks := tk } ∧ SetR w h' s.heap.objs.size (fun j => decide (j ∈ ns)) c ∧ c ≤ ns.length ∧ Old s.heap h') E)
        cs.init.plain F.entry_set_init (check_set_init_1 ty ?_)) fun r2 y hy => ?_
      · obtain ⟨⟨oc, od, oda, osl⟩, lo, lc, ln, ld⟩ := isl
        simp only at lc ld
        subst lc ld
        have isl2 : (s.heap.push (newObjOf w)).IsList l items := ⟨_, Heap.get?_push_of_some _ lo, rfl, ln, rfl⟩
        have ll : l < s.heap.objs.size := Heap.lt_size lo
        have isl3 := Heap.get?_push_of_some (newObjOf w) lo
        have n1 := PySem.F.sub_list_set
        have n2 := PySem.F.sub_list_frozenset
        have n3 : (Value.type "list" == Value.type "dict") = false := by decide
        unfold Builtin.«set.__init__» noKeywords Builtin.Frozenset.updateFrom
        generalize hp : pyIter = iterOf
        wp_walk
        subst hp
        refine wpAny_pyIter_list isl2 ?_
        refine wpAny_bind (wpAny_runValue ?_)
        have q3 : A.in1.in1.in1.handled = none := by simp [quiet]
        have sz : (s.heap.push (newObjOf w)).objs.size = s.heap.objs.size + 1 := Heap.size_push ..
        have apart : l ≠ (s.heap.push (newObjOf w)).objs.size := by
          rw [sz]
          exact Nat.ne_of_lt (Nat.lt_succ_of_lt ll)
        have away : s.heap.objs.size ∉ [(s.heap.push (newObjOf w)).objs.size, l] := by
          rw [sz]
          simp only [List.mem_cons, List.not_mem_nil, or_false, not_or]
          exact ⟨Nat.ne_of_lt (Nat.lt_succ_self _), Nat.ne_of_gt ll⟩
        have val : ∀ (i : Nat) (v : Value), items[i]? = some v → ∃ k t, ns[i]? = some k ∧ v = .int k t := fun i v hv => by
          have hi : i < ns.length := by rw [← many]; exact (Array.getElem?_eq_some_iff.mp hv).1
          obtain ⟨t, e⟩ := IntsAre.int_at hints i v (by rw [Array.getElem?_toList]; exact hv)
          exact ⟨ns[i], t, List.getElem?_eq_getElem hi, by rw [e, List.getD_eq_getElem?_getD, List.getElem?_eq_getElem hi] <;> rfl⟩
        refine set_update_ints ((Walks.list q3 _ l apart items).toS) s.heap.objs.size away ns many room val (items.size - 0) 0 _ (by omega) (Nat.zero_le _) ⟨⟨_, Heap.get?_push_size _ rfl, rfl, rfl⟩, (isl2.push _)⟩ ?start ?stop
        case start => exact ⟨0, Nat.le_refl 0, setR_new_at (Heap.get?_push_of_some _ here)⟩
        case stop =>
          intro s2 c2 hm hc hS
          obtain ⟨h2, g2, d2, t2, o2⟩ := s2
          have eg : g2 = s.gens := hm.gens
          have ed : d2 = s.drawn := hm.drawn
          have eo : o2 = s.os := hm.os
          subst eg ed eo
          show wpAny _ _ _ _ _ _
          refine wpAny_pure ?_
          show wpAny _ _ (ret Value.none) _ _ _
          refine wpAny_pure ⟨rfl, h2, t2, c2, rfl, hS, by omega, fun b u e => ?_⟩
          have hb := Heap.lt_size e
          refine hm.heap b u ?_ (Heap.get?_push_of_some _ (Heap.get?_push_of_some _ e))
          rw [sz]
          simp only [List.mem_cons, List.not_mem_nil, or_false, not_or]
          exact ⟨Nat.ne_of_lt hb, Nat.ne_of_lt (Nat.lt_succ_of_lt hb)⟩
      · cases r2 with
        | error e => exact hy
        | ok f2 =>
          cases f2 with
          | ret r =>
            obtain ⟨rfl, h', tk, c, rfl, hS, hc, old⟩ := hy
            repeat (any_goals (first | assumption | wp_step))
            exact fin h' tk c hS hc old
          | _ => exact hy.elim
    | _ => exact hz.elim
end
end Cs

set_option Elab.async false
set_option linter.all false
set_option maxRecDepth 100000
set_option maxHeartbeats 2000000
namespace Cs
open PySem PySem.Spec PyProof.Rows L2
section
variable {X : Cx}
/-- set(l) -/
def rSetI (K : PySem.W.Frag) (w : World) : List V → Hp → VK → Prop := fun xs H Q => ∃ (l : Addr) (ns : List Int), xs = [V.ref l] ∧ SqL K H l (ns.map V.int) ∧ ns.length ≤ 4000 ∧
  ∀ (p : Addr) (c : Nat), H p = none → c ≤ ns.length → Q (.ref p) (upd H p (SetO w p (fun j => decide (j ∈ ns)) c))
theorem cr_setI (hc : X.calm = true) : CallR X (.type "set") (rSetI X.K X.w) := by
  intro pins s σ H xs us Q I r h
  obtain ⟨l, ns, rfl, hq, hl, q⟩ := h
  rw [Vals.ref1 r]
  obtain ⟨its, rv, pl, hz⟩ := I.list hq
  refine set_of_list ns (I.ok.hd hc) pl.isList (by simpa using ints_of_vals rv) (by have : scanBound = 4096 := rfl; omega) fun h' tk c hS hcn old => ?_
  exact ⟨.ref _, upd H s.heap.objs.size (SetO X.w s.heap.objs.size (fun j => decide (j ∈ ns)) c), I.laid (t' := tk) old (Nat.le_refl _) (setO_new hS), rfl, q _ c (I.hok.fresh (Nat.le_refl _)) hcn⟩
theorem laidD {pins : List (Addr × Obj)} {σ : L2.St} {H : Hp} {s : Shared} {h' : Heap} {d' : Drawn} {S : Int → Bool} {n : Nat} (I : Inv X pins σ H s) (old : Old s.heap h') (R : SetR X.w h' s.heap.objs.size S n) :
    Inv X pins σ (upd H s.heap.objs.size (SetO X.w s.heap.objs.size S n)) { s with heap := h', drawn := d' } :=
  I.call (ch := []) (g' := s.gens) (t' := s.toks) (Un.laid old (Nat.le_refl _) (I.hok.fresh (Nat.le_refl _))) (I.hok.laid old (Nat.le_refl _) (setO_new R)) I.bare (fun _ z => nomatch z)
/-- a & b, a | b, a - b of two sets of ints -/
def rSetOp (w : World) (most : Nat → Nat → Prop) (mem : (Int → Bool) → (Int → Bool) → Int → Prop) : V → V → Hp → VK → Prop := fun x y H Q => ∃ (a b : Addr) (SA SB : Int → Bool) (na nb : Nat), x = V.ref a ∧ y = V.ref b ∧ b ≠ a ∧
  H a = some (SetO w a SA na) ∧ H b = some (SetO w b SB nb) ∧ most na nb ∧
  ∀ (p : Addr) (S : Int → Bool) (n : Nat), H p = none → (∀ k, S k = true ↔ mem SA SB k) → n ≤ 63 → Q (.ref p) (upd H p (SetO w p S n))
abbrev mAnd : Nat → Nat → Prop := fun na nb => na ≤ 63 ∧ nb ≤ 63
abbrev mOr : Nat → Nat → Prop := fun na nb => na + nb ≤ 63
abbrev mSub : Nat → Nat → Prop := fun na nb => na ≤ 31 ∧ nb ≤ 63
abbrev eAnd : (Int → Bool) → (Int → Bool) → Int → Prop := fun A B k => A k = true ∧ B k = true
abbrev eOr : (Int → Bool) → (Int → Bool) → Int → Prop := fun A B k => A k = true ∨ B k = true
abbrev eSub : (Int → Bool) → (Int → Bool) → Int → Prop := fun A B k => A k = true ∧ B k = false
theorem op_sand : OpR X (binaryOp .BitAnd) (rSetOp X.w mAnd eAnd) := by
  intro pins s σ H x y v u Q I rx ry h
  obtain ⟨a, b, SA, SB, na, nb, rfl, rfl, hne, ha, hb, hm, q⟩ := h
  cases rx
  cases ry
  exact op_and_x hne (setO_get I ha) (setO_get I hb) hm.1 hm.2 fun h' d' S n R m l old => ⟨.ref _, _, laidD I old R, rfl, q _ S n (I.hok.fresh (Nat.le_refl _)) m l⟩
theorem op_sor : OpR X (binaryOp .BitOr) (rSetOp X.w mOr eOr) := by
  intro pins s σ H x y v u Q I rx ry h
  obtain ⟨a, b, SA, SB, na, nb, rfl, rfl, hne, ha, hb, hm, q⟩ := h
  cases rx
  cases ry
  have hm' : na + nb ≤ 63 := hm
  exact op_or_x hne (setO_get I ha) (setO_get I hb) hm fun h' d' S n R m l old => ⟨.ref _, _, laidD I old R, rfl, q _ S n (I.hok.fresh (Nat.le_refl _)) m (by omega)⟩
theorem op_ssub : OpR X (binaryOp .Sub) (rSetOp X.w mSub eSub) := by
  intro pins s σ H x y v u Q I rx ry h
  obtain ⟨a, b, SA, SB, na, nb, rfl, rfl, hne, ha, hb, hm, q⟩ := h
  cases rx
  cases ry
  exact op_sub_x hne (setO_get I ha) (setO_get I hb) hm.1 hm.2 fun h' d' S n R m l old => ⟨.ref _, _, laidD I old R, rfl, q _ S n (I.hok.fresh (Nat.le_refl _)) m (by omega)⟩
/-- len(s) of a set of ints: none where it has no members -/
def rLenSet (w : World) : List V → Hp → VK → Prop := fun xs H Q => ∃ (a : Addr) (S : Int → Bool) (n : Nat), xs = [V.ref a] ∧ H a = some (SetO w a S n) ∧ (∀ c : Nat, (c = 0 ↔ ∀ k, S k = false) → Q (.int (c : Int)) H)
theorem call_len_sI : CallR X (.builtin "len") (rLenSet X.w) := by
  intro pins s σ H xs us Q I r h
  obtain ⟨a, S, n, rfl, ha, q⟩ := h
  rw [Vals.ref1 r]
  obtain ⟨es, ep, t, R, m, hn⟩ := xOf (setO_get I ha)
  refine call_len_set R.obj ⟨rfl, rfl, rfl⟩ rfl R.fits (by have := R.few; have : scanBound = 4096 := rfl; omega) ⟨.int (es.size : Nat), H, I.tok _, ⟨_, rfl⟩, q _ ?_⟩
  constructor
  · intro z k
    have e : es = #[] := by simpa using z
    subst e
    cases c : S k with
    | false => rfl
    | true => exact absurd ((m k).1 c) (by simp)
  · intro z
    cases c : es.toList with
    | nil =>
      rw [← Array.length_toList, c]
      rfl
    | cons e r =>
      have : S (keyOf e) = true := (m _).2 (by rw [c]; simp)
      rw [z] at this
      cases this
end
end Cs

set_option Elab.async false
set_option linter.all false
set_option maxRecDepth 100000
set_option maxHeartbeats 2000000
/-! != of two lists whose items are equal, deep -/
namespace Cs
open PySem PySem.Spec PyProof.Rows L2
open AutoSeq1 (wpAny_loadPart')
open MeetsSeq MeetsSeq2 MeetsSeq3 SeqRoads2 SeqAt
section
variable {prog : Program} {w : World}
abbrev seqO (us : Array Value) (n : Nat) (dd : Option Addr) (sl : Array (Option Value)) : Obj := { cls := .type "list", dict := dd, data := .seq us n, slots := sl }
abbrev AllP (prog : Program) (w : World) (A : Around) (s : Shared) (us ws : Array Value) : Prop := ∀ j (h1 : j < us.size) (h2 : j < ws.size), EqP prog w A s us[j] ws[j] true
theorem ne_stepP (a c : Addr) (us ws : Array Value) (n m : Nat) (d1 d2 : Option Addr) (s1 s2 : Array (Option Value)) (eq : us.size = ws.size) :
    ∀ (k i : Nat), us.size - i = k → MeetsIn prog w (Builtin.«list.__eq__.loop» ⟨[.ref a, .ref c, rawInt i, rawInt 3], []⟩)
      (fun A R s => s.heap.get? a = some (seqO us n d1 s1) ∧ s.heap.get? c = some (seqO ws m d2 s2) ∧ AllP prog w A.in1 s us ws ∧ R (.ok (.ret (.bool false))) s) := by
  intro k
  induction k with
  | zero =>
    intro i le A R s h
    obtain ⟨hp, g, d, tk, os⟩ := s
    obtain ⟨ha, hc, _, q⟩ := h
    wp_walk using wpAny_loadPart' ha, wpAny_loadPart' hc
    rw [show us[((i : Nat) : Int).toNat]? = none by simp; omega, show ws[((i : Nat) : Int).toNat]? = none by simp; omega]
    wp_walk using wpAny_loadPart' ha, wpAny_loadPart' hc
    show R (.ok (.ret (.bool (us.size != ws.size)))) _
    rw [eq]
    simpa using q
  | succ k ih =>
    intro i le A R s h
    obtain ⟨hp, g, d, tk, os⟩ := s
    obtain ⟨ha, hc, al, q⟩ := h
    have i1 : i < us.size := by omega
    have i2 : i < ws.size := by omega
    wp_walk using wpAny_loadPart' ha, wpAny_loadPart' hc
    rw [show us[((i : Nat) : Int).toNat]? = some us[i] by simp [i1], show ws[((i : Nat) : Int).toNat]? = some ws[i] by simp [i2]]
    refine wpAny_bind (al i i1 i2 _ _ ?_)
    wp_walk
    rw [show ((i : Int) + 1) = ((i + 1 : Nat) : Int) by push_cast; rfl]
    refine ⟨plainId_quiet plain_eq_loop _, codeAny_builtin entry_eq_loop ?_⟩
    rw [Around.under_plainId plain_eq_loop _]
    exact ih (i + 1) (by omega) A R _ ⟨ha, hc, al, q⟩
theorem ne_listP (a c : Addr) (us ws : Array Value) (n m : Nat) (d1 d2 : Option Addr) (s1 s2 : Array (Option Value)) (eq : us.size = ws.size) :
    MeetsIn prog w (Builtin.«list.__ne__» ⟨[.ref a, .ref c], []⟩)
      (fun A R s => s.heap.get? a = some (seqO us n d1 s1) ∧ s.heap.get? c = some (seqO ws m d2 s2) ∧ AllP prog w A.in1 s us ws ∧ R (.ok (.ret (.bool false))) s) := by
  intro A R s h
  obtain ⟨hp, g, d, tk, os⟩ := s
  obtain ⟨ha, hc, al, q⟩ := h
  have sub := AutoSeq1.sub_list_list
  have same : ¬ (us.size != ws.size) = true := by simp [eq]
  wp_walk using wpAny_loadPart' ha, wpAny_loadPart' hc
  refine ⟨plainId_quiet plain_eq_loop _, codeAny_builtin entry_eq_loop ?_⟩
  rw [Around.under_plainId plain_eq_loop _]
  exact ne_stepP a c us ws n m d1 d2 s1 s2 eq _ 0 rfl A R _ ⟨ha, hc, al, q⟩
theorem rc_neP {A : Around} {s : Shared} {a c : Addr} {us ws : Array Value} (ha : s.heap.IsList a us) (hc : s.heap.IsList c ws) (eq : us.size = ws.size) (hu : A.units < cLine)
    (al : AllP prog w A.in1 s us ws) (E Q : Value → Shared → Prop) (q : Q (.bool false) s) : wpAny (model prog w) A (richCompare .NotEq (.ref a) (.ref c)) Q E s := by
  obtain ⟨⟨c1, d1, x1, s1⟩, o1, e1, n, f1⟩ := id ha
  obtain ⟨⟨c2, d2, x2, s2⟩, o2, e2, m, f2⟩ := id hc
  simp only at e1 f1 e2 f2
  subst e1 f1 e2 f2
  have ta : s.TypeIs (.ref a) "list" := ⟨_, o1, rfl⟩
  have tc : s.TypeIs (.ref c) "list" := ⟨_, o2, rfl⟩
  exact wpAny_richCompare_same_room (op := .NotEq) ta tc F.slot_list_ne (call_meetsIn F.slot_list_ne ta F.entry_list_ne (F.args_list_ne_2 _ _) (ne_listP a c us ws n m d1 d2 s1 s2 eq)
    ⟨o1, o2, al, show Value.bool false ≠ Value.notImplemented ∧ Q (.bool false) s from ⟨(fun x => nomatch x), q⟩⟩) hu
end
section
variable {X : Cx}
/-- a != b, two lists that are equal -/
def rNeV (K : PySem.W.Frag) : R2 := fun x y H Q => ∃ a b xs ys, x = .ref a ∧ y = .ref b ∧ SqL K H a xs ∧ SqL K H b ys ∧ (∃ n, n ≤ 60 ∧ Paired (EqV K H n) xs ys) ∧ Q (.bl false) H
theorem op_neV (hu : X.A.units + 64 < cLine) : OpR X (compareOp .NotEq) (rNeV X.K) := by
  intro pins s σ H x y v u Q I rx ry h
  obtain ⟨a, b, xs, ys, rfl, rfl, ha, hb, ⟨n, hn, hp⟩, q⟩ := h
  cases (show v = Value.ref a from rx)
  cases (show u = Value.ref b from ry)
  obtain ⟨us, r1, p1, _⟩ := I.list ha
  obtain ⟨ws, r2, p2, _⟩ := I.list hb
  have hsz : us.toArray.size = ws.toArray.size := by
    rw [List.size_toArray, List.size_toArray, ← r1.length, ← r2.length]
    exact Paired.length hp
  refine rc_neP p1.isList p2.isList hsz (by omega) (fun j h1 h2 => ?_) _ _ ⟨.bl false, H, I, rfl, q⟩
  have k := items_run (eqV_run I n X.A.in1 (by show X.A.units + 1 + n < cLine; omega)) hp r1 r2 j (by simpa using h1) (by simpa using h2)
  simpa using k
end
end Cs

set_option Elab.async false
set_option linter.all false
set_option maxRecDepth 100000
set_option maxHeartbeats 4000000
/-! Sets of keys by a comprehension: {x for .. in ..}, the members ints or texts. -/
namespace Cs
open PySem PySem.Spec PyProof.Rows L2 PpSet
section
variable {X : Cx}
abbrev noK : Key → Bool := fun _ => false
abbrev withK (S : Key → Bool) (k : Key) : Key → Bool := fun j => S j || decide (j = k)
/-- one member more -/
theorem addK {pins : List (Addr × Obj)} {σ : L2.St} {H : Hp} {s : Shared} {E : Value → Shared → Prop} {D : Addr} {S : Key → Bool} {n : Nat} {k : Key} {u : Value} {Q : Value → Shared → Prop} (I : Inv X pins σ H s) (at_ : H D = some (SetK X.prog X.w D S n)) (few : n + 1 < scanBound) (r : RelV (kV k) u)
    (q : ∀ s', Inv X pins σ (upd H D (SetK X.prog X.w D (withK S k) (if S k = true then n else n + 1))) s' → Q .none s') : wpAny (model X.prog X.w) X.A (call (.builtin "set.add") [.ref D, u]) Q E s :=
  call_set_add (kV_is r) (key_scan r) (setK_get I at_) few fun h' sb new => q _ (I.write (e := D) (t' := s.toks + 1) (by rw [at_]; trivial) (.inl rfl) (fun b o hb ho => (sb.2 b hb).trans ho) (let ⟨o, _, _, _, ho, _⟩ := new; ⟨o, ho⟩) (setK_new new))
/-- what a comprehension asks: its walk, and a set that grows -/
def tScK (P : Program) (w : World) (wi : TI) (g : TG) (tt : TT) (te : TE) (vs : List Nat) : TE := fun σ H Q => wi σ H fun J H1 => ∀ D, H1 D = none → ∃ W : Nat → Nat → Hp → Prop, (∃ m, W 0 m (upd H1 D (SetK P w D noK 0))) ∧ ∀ i m H, W i m H →
  (J.stop i H ∧ Q (.ref D) H) ∨ (J.go i H ∧ ∃ Nx : Hp → Prop, (∀ H', Nx H' → ∃ m', m' < m ∧ W (i + 1) m' H') ∧ ∀ x H', J.yld i H x H' → g x (wipe σ vs) H' fun σ2 H2 => wipe σ2 vs = wipe σ vs ∧ tt σ2 H2 fun b H3 =>
    if b = true then te σ2 H3 fun y H4 => ∃ (k : Key) (S : Key → Bool) (n : Nat), y = kV k ∧ H4 D = some (SetK P w D S n) ∧ n + 1 < scanBound ∧ Nx (upd H4 D (SetK P w D (withK S k) (if S k = true then n else n + 1))) else Nx H3)
theorem scK_core {pins : List (Addr × Obj)} {s : Shared} {σ : L2.St} {H : Hp} {Q : VK} {el tg it : Expr} {cs : List Expr} {scope : Scope} {own : List (PySem.Str × Nat)} {pos pos' : Pos} {wi : TI} {g : TG} {tt : TT} {te : TE} {use : Option (Value → Sem Unit)} {Qf : Value → Shared → Prop}
    (hc : X.calm = true) (hN : X.N.Nodup) (I : Inv X pins σ H s) (hi : PI X tg it wi) (ok : BlkOk X.N X.env.scope scope own)
    (hg : ∀ (s : Shared) (H : Hp) (C : Addr) (cl : List (PySem.Str × Addr)) (fp : List Addr), PG (X.blk s H scope (compEnvC scope cl C X.env) fp) tg g)
    (ht : ∀ (s : Shared) (H : Hp) (C : Addr) (cl : List (PySem.Str × Addr)) (fp : List Addr), PTs (X.blk s H scope (compEnvC scope cl C X.env) fp) cs tt)
    (he : ∀ (s : Shared) (H : Hp) (C : Addr) (cl : List (PySem.Str × Addr)) (fp : List Addr), PE (X.blk s H scope (compEnvC scope cl C X.env) fp) el te)
    (hs : ∀ x, foldedSetIterable it X.env x = pure x) (h : tScK X.prog X.w wi g tt te (own.map (·.2)) σ H Q)
    (done : ∀ D C s' m H', Inv X pins σ H' s' → Q (.ref D) H' → s'.heap.Ns C m → FpOk X pins H' C → compPost (model X.prog X.w) X.A X.xe use Qf (.ref D) C (.ok .next) s') :
    wpAny (model X.prog X.w) X.A (comprehension (.SetComp el [⟨tg, it, cs, 0⟩] scope pos) scope X.env pos' (newSet (.type "set")) false (eval it X.env) use) Qf X.xe s := by
  refine wpAny_comprehension_free (use := use) rfl hs (closure_ok fun y hy e => (ok.free y hy e).elim (fun k => I.ok.has _ (.inl k)) fun k => I.ok.has _ (.inr k)) ok.kind (fun y hy e => by rw [ok.uniq y hy, e])
    (thn (hi.run pins s σ H _ I h) fun xv s1 hx => thn hx fun itv s2 ⟨ia, fp, tn, J, H2, eq, I2, T, st2, f2, q⟩ => ?_)
  subst eq
  refine newSet_ok (newEnv_comp ?_)
  generalize eD : s2.heap.objs.size = D
  have free : H2 D = none := I2.hok.fresh (Nat.le_of_eq eD)
  obtain ⟨W, ⟨m0, w0⟩, turn⟩ := q D free
  generalize e3 : ({ s2 with heap := s2.heap.push { cls := .type "set", dict := none, data := .set #[] 0 (.fresh 0 0 (!X.w.params.followText "set-order")) } } : Shared) = s3
  have heap3 : s3.heap = s2.heap.push { cls := .type "set", dict := none, data := .set #[] 0 (.fresh 0 0 (!X.w.params.followText "set-order")) } := by rw [← e3]
  have I3 : Inv X pins σ (upd H2 D (SetK X.prog X.w D noK 0)) s3 := by
    rw [← e3, ← eD]
    exact I2.laid (t' := s2.toks) (fun b o e => Heap.get?_push_of_some _ e) (Nat.le_refl _) (setK_new ⟨_, #[], 0, _, Heap.get?_push_size _ rfl, ⟨rfl, rfl, rfl⟩, rfl, (fun e he => by simp at he), (fun k => by simp), (by decide), (by rfl), rfl⟩)
  have below : ∀ b ∈ fp, b < s2.heap.objs.size := fun b hb => let ⟨o, e, _⟩ := T.obj _ _ st2 b hb; Heap.lt_size e
  have f3 : ∀ b ∈ fp, FpOk X pins (upd H2 D (SetK X.prog X.w D noK 0)) b ∧ b < s3.heap.objs.size := fun b hb =>
    ⟨⟨by rw [upd_ne (by rw [← eD]; exact Nat.ne_of_lt (below b hb))]; exact (f2 b hb).1, (f2 b hb).2⟩, by rw [heap3, Heap.size_push]; exact Nat.lt_succ_of_lt (below b hb)⟩
  have I4 := block_start I3 ok hN f3
  have pg := hg s3 (upd H2 D (SetK X.prog X.w D noK 0)) s3.heap.objs.size (cellsFrom (s3.heap.objs.size + 1) scope.names (cloFrom X.env.cells scope.names [])) fp
  have pt := ht s3 (upd H2 D (SetK X.prog X.w D noK 0)) s3.heap.objs.size (cellsFrom (s3.heap.objs.size + 1) scope.names (cloFrom X.env.cells scope.names [])) fp
  have pe := he s3 (upd H2 D (SetK X.prog X.w D noK 0)) s3.heap.objs.size (cellsFrom (s3.heap.objs.size + 1) scope.names (cloFrom X.env.cells scope.names [])) fp
  show codeAny _ _ (.compStart (.SetComp el [⟨tg, it, cs, 0⟩] scope pos) 0 (.ref ia) (.ref D) (compEnvC scope (cellsFrom (s3.heap.objs.size + 1) scope.names (cloFrom X.env.cells scope.names [])) s3.heap.objs.size X.env)) (compPost (model X.prog X.w) X.A X.xe use Qf (.ref D) s3.heap.objs.size) { s3 with heap := pushCells (s3.heap.push { cls := .type "dict", data := .dict #[] }) scope.names }
  have none3 : ∀ b ∈ fp, (upd H2 D (SetK X.prog X.w D noK 0)) b = none := fun b hb => (f3 b hb).1.1
  generalize ec : compEnvC scope (cellsFrom (s3.heap.objs.size + 1) scope.names (cloFrom X.env.cells scope.names [])) s3.heap.objs.size X.env = ce at I4 pg pt pe ⊢
  have loc : ce.locals = s3.heap.objs.size := by subst ec; rfl
  generalize upd H2 D (SetK X.prog X.w D noK 0) = H3 at I3 I4 pg pt pe w0 none3 f3
  generalize e4 : ({ s3 with heap := pushCells (s3.heap.push { cls := .type "dict", data := .dict #[] }) scope.names } : Shared) = s4 at I4 ⊢
  have st3 : tn 0 s3.heap := T.keep _ _ _ st2 fun b _ o e => by rw [heap3]; exact Heap.get?_push_of_some _ e
  have st4 : tn 0 s4.heap := T.keep _ _ _ st3 fun b _ o e => by rw [← e4]; exact pushCells_keeps _ _ _ _ (Heap.get?_push_of_some _ e)
  have still : ∀ {σ' : L2.St} {H' : Hp} {s' : Shared}, Inv (X.blk s3 H3 scope ce fp) [] σ' H' s' → (∀ b ∈ fp, H' b = none) → ∀ b ∈ fp, FpOk (X.blk s3 H3 scope ce fp) [] H' b := fun I' hn b hb =>
    ⟨hn b hb, (I'.ok.exf b hb).1, I'.ok.exfs b hb, .inl hb, fun x c e => (I'.ok.exf b hb).2 x c e, fun p hp => absurd (show p ∈ ([] : List (Addr × Obj)) ++ [] from hp) (by simp)⟩
  have loop : codeAny (model X.prog X.w) X.A (.compLoop (.SetComp el [⟨tg, it, cs, 0⟩] scope pos) 0 (.ref ia) (.ref D) ce) (compPost (model X.prog X.w) X.A X.xe use Qf (.ref D) s3.heap.objs.size) s4 := by
    refine compLoopS_any (fun n s' => ∃ i H', Inv (X.blk s3 H3 scope ce fp) [] (wipe σ (own.map (·.2))) H' s' ∧ tn i s'.heap ∧ (∀ b ∈ fp, H' b = none) ∧ W i n H') ?_ m0 ⟨0, H3, I4, st4, none3, w0⟩
    rintro n s5 ⟨i, H5, I5, st5, n5, w5⟩
    rcases turn i n H5 w5 with ⟨stop, last⟩ | ⟨go, Nx, next, step⟩
    · refine thnF (T.done (X.blk s3 H3 scope ce fp) rfl rfl rfl hc i [] s5 _ H5 (fun _ _ => False) I5 (still I5 n5) st5 stop) fun r s6 ⟨er, I6⟩ => ?_
      subst er
      have unused : H5 ce.locals = none := I6.free
      obtain ⟨m, ns, _⟩ := I6.loc
      have ns : s6.heap.Ns ce.locals m := ns
      rw [loc] at ns unused
      exact done D s3.heap.objs.size s6 m H5 (I3.call' (ch := fp) I6.os I6.base I6.hok I6.bare fun b hb => ⟨(f3 b hb).1.2.2.2.1, (f3 b hb).1.2.1, (f3 b hb).1.2.2.2.2.1, (f3 b hb).1.2.2.2.2.2⟩) last ns (I3.fpOk (Nat.le_refl _) unused)
    · refine thnF (T.item (X.blk s3 H3 scope ce fp) rfl rfl rfl hc i [] s5 _ H5 (fun _ _ => False) I5 (still I5 n5) st5 go) fun r s6 ⟨u, er, h6⟩ => ?_
      subst er
      refine thnF h6 fun _ s7 ⟨x, H7, I7, r7, y7, st7, n7⟩ => ?_
      refine thnF (pg.run _ s7 _ H7 x u _ (I7.pinned (still I7 n7) (T.obj _ _ st7)) r7 (step x H7 y7)) fun _ s8 ⟨σ8, H8, I8, w8, q8⟩ => ?_
      refine thnF (pt.run _ s8 σ8 H8 _ I8 q8) fun b s9 ⟨H9, I9, q9⟩ => ?_
      have round : ∀ {s' : Shared} {H' : Hp}, Inv (X.blk s3 H3 scope ce fp) ([] ++ pinsAt fp s7.heap) σ8 H' s' → Nx H' → ∃ m, m < n ∧ ∃ i H', Inv (X.blk s3 H3 scope ce fp) [] (wipe σ (own.map (·.2))) H' s' ∧ tn i s'.heap ∧ (∀ b ∈ fp, H' b = none) ∧ W i m H' := fun {s' H'} I' nx => by
        obtain ⟨m', lt, w'⟩ := next H' nx
        have held : ∀ b ∈ fp, ∀ o, s7.heap.get? b = some o → s'.heap.get? b = some o ∧ H' b = none := fun b hb o e => let z := I'.pin (b, o) (List.mem_append_right _ (List.mem_append_right _ (mem_pinsAt hb e))); ⟨z.1, z.2.1⟩
        refine ⟨m', lt, i + 1, H', (I'.unpinned (pins := [])).weak (by rw [← w8, wipe_length]) (fun j v e => ?_), T.keep _ _ _ st7 fun b hb o e => (held b hb o e).1, fun b hb => ?_, w'⟩
        · rw [← w8] at e
          exact (wipe_some e).1
        · obtain ⟨o, e, _⟩ := T.obj _ _ st7 b hb
          exact (held b hb o e).2
      cases b with
      | false =>
        simp only [Bool.false_eq_true, if_false] at q9 ⊢
        exact round I9 q9
      | true =>
        simp only [if_true] at q9 ⊢
        refine thnF (pe.run _ s9 σ8 H9 _ I9 q9) fun z s10 ⟨y, H10, I10, r10, k, S, n0, ey, at10, few, nx⟩ => ?_
        subst ey
        exact addK (X := X.blk s3 H3 scope ce fp) I10 at10 few r10 fun s11 I11 => round I11 nx
  exact codeAny_compStart_set loop (T.self X.A 0 _ _ _ st4 loop)
/-- name = {..} on one line, the name a local -/
theorem ps_setScK {i : Nat} {y : Str} {py : Pos} {el tg it : Expr} {cs : List Expr} {scope : Scope} {own : List (PySem.Str × Nat)} {pos spos : Pos} {wi : TI} {g : TG} {tt : TT} {te : TE} (hc : X.calm = true) (hN : X.N.Nodup) (hy : X.N[i]? = some y) (hyl : X.env.scope.names.lookup y = some .local)
    (hsw : swapsWith (.SetComp el [⟨tg, it, cs, 0⟩] scope pos) (some (.Name y py)) spos.line X.env = pure true) (hi : PI X tg it wi) (ok : BlkOk X.N X.env.scope scope own)
    (hg : ∀ (s : Shared) (H : Hp) (C : Addr) (cl : List (PySem.Str × Addr)) (fp : List Addr), PG (X.blk s H scope (compEnvC scope cl C X.env) fp) tg g)
    (ht : ∀ (s : Shared) (H : Hp) (C : Addr) (cl : List (PySem.Str × Addr)) (fp : List Addr), PTs (X.blk s H scope (compEnvC scope cl C X.env) fp) cs tt)
    (he : ∀ (s : Shared) (H : Hp) (C : Addr) (cl : List (PySem.Str × Addr)) (fp : List Addr), PE (X.blk s H scope (compEnvC scope cl C X.env) fp) el te)
    (hs : ∀ x, foldedSetIterable it X.env x = pure x := by intro _; rfl) :
    PS X (.Assign [.Name y py] (.SetComp el [⟨tg, it, cs, 0⟩] scope pos) spos) (tAsg (tScK X.prog X.w wi g tt te (own.map (·.2))) (gName i)) := by
  refine ⟨fun pins s σ H D I h => ?_⟩
  rw [exec_Assign_Name_used _ _ _ _ hsw]
  refine wpAny_bind (wpAny_standAt (wpAny_bind ?_))
  show wpAny _ X.A (do let _ ← comprehension (.SetComp el [⟨tg, it, cs, 0⟩] scope pos) scope X.env (firstIterPos [⟨tg, it, cs, 0⟩] pos) (newSet (.type "set")) false (eval it X.env) (some (assign (.Name y py) X.env))) _ _ s
  have h : tScK X.prog X.w wi g tt te (own.map (·.2)) σ H (fun x H1 => gName i x σ H1 D.nx) := h
  refine wpAny_bind (thn (scK_core (Qf := fun _ s' => SP X pins D .next s') hc hN I hi ok hg ht he hs h fun L C s' m H' I' q hn f => ?_) fun _ s' hq => wpAny_pure (wpAny_pure hq))
  obtain ⟨f0, f1, f2, f3, f4, f5⟩ := f
  show wpAny _ _ (assign (.Name y py) X.env (.ref L)) _ _ _
  refine wpAny_assign_Name (store_ok2 (v := V.ref L) I' hN hy (.inl hyl) rfl (fun s2 I2 ⟨a, sb, ha⟩ => ?_) (.inr hyl))
  have apart : C ≠ a := ha.elim (fun z => z ▸ f1) fun z e => f4 y a z e.symm
  exact ⟨m, hn.sameBut sb apart, fun h3 sb3 => ⟨_, H', I2.turned (t' := s2.toks) (fun b o hb e => (sb3.2 b hb).trans e) f0 f1 f3 f4 f5, q⟩⟩
end
end Cs

set_option Elab.async false
set_option linter.all false
set_option maxRecDepth 100000
set_option maxHeartbeats 400000
/-! != of two dicts that are equal, deep -/
namespace Cs
open PySem PySem.Spec PyProof.Rows L2
section
variable {X : Cx}
def rNeDV (K : PySem.W.Frag) : R2 := fun x y H Q => ∃ a b ks ls, x = .ref a ∧ y = .ref b ∧ H a = some (.dK ks) ∧ H b = some (.dK ls) ∧ ks.length = ls.length ∧ (∃ n, n ≤ 60 ∧ ∀ p ∈ ks, ∃ u, valV ls p.1 = some u ∧ EqV K H n p.2 u) ∧ Q (.bl false) H
theorem op_neDV (hu : X.A.units + 64 < cLine) : OpR X (compareOp .NotEq) (rNeDV X.K) := by
  intro pins s σ H x y v u Q I rx ry h
  obtain ⟨a, b, ks, ls, rfl, rfl, ea, eb, len, ⟨n, hn, hp⟩, q⟩ := h
  cases (show v = Value.ref a from rx)
  cases (show u = Value.ref b from ry)
  obtain ⟨_, ya, va, ra, da⟩ := (show ObjOk X.prog X.w H s.heap a (.dK ks) from I.hok a _ ea)
  obtain ⟨_, yb, vb, rb, db⟩ := (show ObjOk X.prog X.w H s.heap b (.dK ls) from I.hok b _ eb)
  have e : va.length = vb.length := by rw [← ra.length, ← rb.length]; exact len
  have hits := hits_run (eqV_run I n X.A.in1 (by show X.A.units + 1 + n < cLine; omega)) rb ra hp
  refine wpAny_richCompare_same_room (op := .NotEq) da.typeIs db.typeIs PySem.F.slot_dict_ne (wpAny_call_entry PySem.F.slot_dict_ne da.typeIs PySem.F.entry_dict_ne ?_ (PySem.F.args_dict_ne_2 _ _)) (by omega)
  show wpAny _ _ (Builtin.Dict.dictSlotArgs "__ne__" ⟨[.ref a, .ref b], []⟩ >>= _) _ _ s
  unfold Builtin.Dict.dictSlotArgs
  refine wpAny_bind (wpAny_bind (wpAny_notOrdered_dict da.typeIs ?_))
  show wpAny _ _ (pure (Value.ref a, Value.ref b)) _ _ s
  refine wpAny_pure (wpAny_bind (wpAny_isInstance (T := "dict") db.typeIs PySem.F.sub_dict_dict ?_))
  simp only [Bool.not_true, Bool.false_eq_true, if_false]
  refine wpAny_bind (wpAny_pure (wpAny_bind (wpAny_pure ?_)))
  refine wpAny_bind (PySem.W.samePairsP (r := true) ya yb da db (fun _ => hits) ?_)
  have w0 : ((va.length == vb.length && true) == false) = false := by rw [e]; simp
  refine wpAny_pure ⟨_, rfl, ?_, ?_⟩
  · intro x
    cases x
  · have z : EP X pins σ Q (.bool false) s := ⟨.bl false, H, I, rfl, q⟩
    rw [← w0] at z
    exact z
end
end Cs

set_option Elab.async false
set_option linter.all false
set_option maxRecDepth 100000
set_option maxHeartbeats 4000000
/-! Exceptions of own classes with fields: made, raised while a dict is walked, caught, asked for their class. -/
namespace CsX
open PySem PySem.Spec PyProof.Rows L2
/-- a block that is not reached -/
theorem pss_any {X : Cx} {l : List Stmt} : PSs X l (fun _ _ _ => False) := ⟨fun _ _ _ _ _ _ h => h.elim⟩
/-- a raise while the thing at d is locked -/
theorem Takes.lock {X : Cx} {W : WX} {d : Addr} (tk : Takes X W) (hn : ∀ o' u', X.H_0 d ≠ some (.frz o' u')) : Takes X (fun cls dd σ H => ∃ od u, H d = some (.frz od u) ∧ W cls dd σ (upd H d u)) :=
  fun u s' ⟨a, B, sI, pins, σ, H, cls, dd, e, I, nb, up, sky, na, os, ag, od, uu, hd, w⟩ =>
    tk u s' ⟨a, B, sI, pins, σ, upd H d uu, cls, dd, e, I.unlock hd hn, nb, up, sky, (by rw [upd_ne (fun z => by rw [z, hd] at na; cases na)]; exact na), os, ag, w⟩
/-- __init__(self, f): self.f = f -/
def spIni (C : Addr) (f : Str) : Sp := fun vs H Q _ => ∃ (a : Addr) (v : V), vs = [.ref a, v] ∧ H a = some (exo a C none) ∧
  ∀ dx, H dx = none → dx ≠ a → Q .non (upd (upd H dx (exd dx [(f, v)])) a (exo a C (some dx)))
/-- __init__(self, f, g): self.f = f; self.g = g -/
def spIni2 (C : Addr) (f g : Str) : Sp := fun vs H Q _ => ∃ (a : Addr) (v u : V), vs = [.ref a, v, u] ∧ H a = some (exo a C none) ∧
  ∀ dx, H dx = none → dx ≠ a → Q .non (upd (upd (upd H dx (exd dx [(f, v)])) a (exo a C (some dx))) dx (exd dx [(g, u), (f, v)]))
/-- what the top has written of an own error with the fields fs, its __init__ at fI -/
structure Own (K : PySem.W.Frag) (mg : Str → Option Value) (x : Str) (C fI : Addr) (fs : List Str) : Prop where
  gC : mg x = some (.ref C)
  oex : OexC K C
  xf : XfC K C
  no : ∀ f ∈ fs, PySem.W.findIn K (.ref C) f = some none
  iC : PySem.W.findIn K (.ref C) "__init__" = some (some (.ref fI))
  tI : PySem.W.typeIn K (.ref fI) = some (.type "function")
  ex : ExcC K C
  te : PySem.W.exmOne K (.ref C) (.ref C) = some true
theorem same_upd {H : Hp} {p : Addr} {o : HO} (h : H p = none) : Same H (upd H p o) := fun b x e => by
  rw [upd_ne (ne_of_none e h)]
  exact e
/-- what is asked of C(v) -/
theorem mk_one {C : Addr} {f : Str} {H1 : Hp} {v : V} {Q : XK} (h : ∀ d H2, H1 d = none → Same H1 H2 → H2 d = some (.xd [(f, v)]) → Q (.ref C) (some d) H2) :
    [v].length ≤ 1000 ∧ ∀ a, H1 a = none → spIni C f (V.ref a :: ([v] ++ [])) (upd H1 a (exo a C none)) (fun x H2 => x = .non ∧ ∃ (d : Addr) (fs : List (Str × V)), H2 a = some (exo a C (some d)) ∧ H2 d = some (exd d fs) ∧ H1 d = none ∧ Q (.ref C) (some d) (upd (del H2 a) d (.xd fs))) (fun _ _ _ => False) := by
  refine ⟨by show 1 ≤ 1000; decide, fun a na => ⟨a, v, rfl, upd_same, fun dx n ne => ?_⟩⟩
  have n1 : H1 dx = none := by rw [upd_ne ne] at n; exact n
  refine ⟨rfl, dx, _, upd_same, by rw [upd_ne ne, upd_same], n1, h dx _ n1 (fun b o e => ?_) upd_same⟩
  have hb : b ≠ dx := ne_of_none e n1
  have ha : b ≠ a := ne_of_none e na
  rw [upd_ne hb, del_ne ha, upd_ne ha, upd_ne hb, upd_ne ha]
  exact e
/-- what is asked of C(v, u) -/
theorem mk_two {C : Addr} {f g : Str} {H1 : Hp} {v u : V} {Q : XK} (h : ∀ d H2, H1 d = none → Same H1 H2 → H2 d = some (.xd [(g, u), (f, v)]) → Q (.ref C) (some d) H2) :
    [v, u].length ≤ 1000 ∧ ∀ a, H1 a = none → spIni2 C f g (V.ref a :: ([v, u] ++ [])) (upd H1 a (exo a C none)) (fun x H2 => x = .non ∧ ∃ (d : Addr) (fs : List (Str × V)), H2 a = some (exo a C (some d)) ∧ H2 d = some (exd d fs) ∧ H1 d = none ∧ Q (.ref C) (some d) (upd (del H2 a) d (.xd fs))) (fun _ _ _ => False) := by
  refine ⟨by show 2 ≤ 1000; decide, fun a na => ⟨a, v, u, rfl, upd_same, fun dx n ne => ?_⟩⟩
  have n1 : H1 dx = none := by rw [upd_ne ne] at n; exact n
  refine ⟨rfl, dx, _, by rw [upd_ne (Ne.symm ne), upd_same], upd_same, n1, h dx _ n1 (fun b o e => ?_) upd_same⟩
  have hb : b ≠ dx := ne_of_none e n1
  have ha : b ≠ a := ne_of_none e na
  rw [upd_ne hb, del_ne ha, upd_ne hb, upd_ne ha, upd_ne hb, upd_ne ha]
  exact e
/-- isinstance(e, c), isinstance(e, (c, ..)): e the exception that the suite holds, with fields -/
def rIsED (K : PySem.W.Frag) (a : Addr) (cls : Value) (d : Option Addr) : List V → Hp → VK → Prop := fun xs H Q => ∃ (C dd : Addr) (fs : List (Str × V)) (c : V) (b : Bool), xs = [.ref a, c] ∧ cls = .ref C ∧ d = some dd ∧ H dd = some (.xd fs) ∧ ExcC K C ∧
  ((∃ cv, (∀ u, RelV c u → u = cv) ∧ PySem.W.kitOne K (.ref C) cv = some b) ∨ ∃ (t : Addr) (cs : List Addr), c = .ref t ∧ H t = some (.tup (cs.map V.ref)) ∧ PySem.W.kitAny K (.ref C) (cs.map Value.ref) = some b) ∧ Q (.bl b) H
theorem vals_refs : ∀ {cs : List Addr} {us : List Value}, Vals (cs.map V.ref) us → us = cs.map Value.ref
  | [], _, h => by cases h; rfl
  | c :: cs, _, h => by
    cases h with
    | cons a b =>
      cases a
      exact congrArg (Value.ref c :: ·) (vals_refs b)
theorem call_isED {X : Cx} {a : Addr} {cls : Value} {d : Option Addr} {oe : Obj} {pn : List (Addr × Obj)} (hz : Zc cls d oe) (hf : ∃ vs, oe.data = .fields vs) : CallR (X.suite a ((a, oe) :: pn)) (.builtin "isinstance") (rIsED X.K a cls d) := by
  intro pins s σ H xs us Q I r h
  obtain ⟨D, dd, fs, c, b, rfl, rfl, rfl, hdd, C, hc, q⟩ := h
  cases r with
  | cons rx rr =>
    cases rr with
    | cons rt rr =>
      cases rr
      cases rx
      obtain ⟨hget, _⟩ := I.pin (a, oe) (List.mem_append.mpr (.inl List.mem_cons_self))
      obtain ⟨vs, hv⟩ := hf
      have hx : ObjOk X.prog X.w H s.heap dd (.xd fs) := I.hok dd _ hdd
      obtain ⟨mA, hns, hr⟩ := hx
      obtain ⟨od, ho, hl⟩ := lookIn_ns hns
      have J : PySem.W.InstAt s.heap a oe D (some od) := ⟨hget, hz.1, by unfold PySem.W.notCls; rw [hv] <;> rfl, by rw [hz.2]; exact ho⟩
      have cl : (PySem.W.clsIn X.K D).isSome = true := by
        obtain ⟨cd, e, _⟩ := PySem.W.any_some C.hd
        rw [e]; rfl
      have Z := fun (od : Option Obj) => PySem.W.kitx_exc (x := a) (ox := oe) (od := od) cl C.hg C.hk C.hs C.ha C.hn C.ht C.hm
      rcases hc with ⟨cv, hcv, e⟩ | ⟨t, cs, rfl, ht, e⟩
      · have ec := hcv _ rt
        subst ec
        exact PySem.W.kia_one (Z _) I.kIn J e (fun z => nomatch z) fun tk => ⟨.bl b, H, I.kept (t' := tk) fun _ _ z => z, rfl, q⟩
      · cases rt
        obtain ⟨_, its, rv, o, ho2, hcls, n, hdat⟩ := (show ObjOk X.prog X.w H s.heap t (.tup (cs.map V.ref)) from I.hok t _ ht)
        obtain ⟨oc, oda, odt, osl⟩ := o
        dsimp only at hcls hdat
        subst hcls hdat
        rw [← vals_refs rv] at e
        exact PySem.W.kia_tup (Z _) I.kIn J ho2 e (fun z => nomatch z) fun tk => ⟨.bl b, H, I.kept (t' := tk) fun _ _ z => z, rfl, q⟩
end CsX

set_option Elab.async false
set_option linter.all false
set_option maxRecDepth 100000
set_option maxHeartbeats 4000000
/-! name = {k: v for ..} as a statement. -/
namespace Cs
open PySem PySem.Spec PyProof.Rows L2
section
variable {X : Cx}
theorem ps_setDc {i : Nat} {y : Str} {py : Pos} {kx vx tg it : Expr} {cs : List Expr} {scope : Scope} {own : List (PySem.Str × Nat)} {pos spos : Pos} {wi : TI} {g : TG} {tt : TT} {tk tv : TE} (hc : X.calm = true) (hN : X.N.Nodup) (hy : X.N[i]? = some y) (hyl : X.env.scope.names.lookup y = some .local)
    (hsw : swapsWith (.DictComp kx vx [⟨tg, it, cs, 0⟩] scope pos) (some (.Name y py)) spos.line X.env = pure true) (hi : PI X tg it wi) (ok : BlkOk X.N X.env.scope scope own)
    (hg : ∀ (s : Shared) (H : Hp) (C : Addr) (cl : List (PySem.Str × Addr)) (fp : List Addr), PG (X.blk s H scope (compEnvC scope cl C X.env) fp) tg g)
    (ht : ∀ (s : Shared) (H : Hp) (C : Addr) (cl : List (PySem.Str × Addr)) (fp : List Addr), PTs (X.blk s H scope (compEnvC scope cl C X.env) fp) cs tt)
    (hk : ∀ (s : Shared) (H : Hp) (C : Addr) (cl : List (PySem.Str × Addr)) (fp : List Addr), PE (X.blk s H scope (compEnvC scope cl C X.env) fp) kx tk)
    (he : ∀ (s : Shared) (H : Hp) (C : Addr) (cl : List (PySem.Str × Addr)) (fp : List Addr), PE (X.blk s H scope (compEnvC scope cl C X.env) fp) vx tv)
    (hs : ∀ x, foldedSetIterable it X.env x = pure x := by intro _; rfl) :
    PS X (.Assign [.Name y py] (.DictComp kx vx [⟨tg, it, cs, 0⟩] scope pos) spos) (tAsg (tDc wi g tt tk tv (own.map (·.2))) (gName i)) := by
  refine ⟨fun pins s σ H D I h => ?_⟩
  rw [exec_Assign_Name_used _ _ _ _ hsw]
  refine wpAny_bind (wpAny_standAt (wpAny_bind ?_))
  have h : tDc wi g tt tk tv (own.map (·.2)) σ H (fun x H1 => gName i x σ H1 D.nx) := h
  refine wpAny_bind (thn (dc_core (Qf := fun _ s' => SP X pins D .next s') hc hN I hi ok hg ht hk he hs h fun L C s' m H' I' q hn f => ?_) fun _ s' hq => wpAny_pure (wpAny_pure hq))
  obtain ⟨f0, f1, f2, f3, f4, f5⟩ := f
  show wpAny _ _ (assign (.Name y py) X.env (.ref L)) _ _ _
  refine wpAny_assign_Name (store_ok2 (v := V.ref L) I' hN hy (.inl hyl) rfl (fun s2 I2 ⟨a, sb, ha⟩ => ?_) (.inr hyl))
  have apart : C ≠ a := ha.elim (fun z => z ▸ f1) fun z e => f4 y a z e.symm
  exact ⟨m, hn.sameBut sb apart, fun h3 sb3 => ⟨_, H', I2.turned (t' := s2.toks) (fun b o hb e => (sb3.2 b hb).trans e) f0 f1 f3 f4 f5, q⟩⟩
end
end Cs

set_option Elab.async false
set_option linter.all false
set_option maxRecDepth 100000
set_option maxHeartbeats 4000000
/-! == of two tuples that are equal, deep. -/
namespace Cs
open PySem PySem.Spec PyProof.Rows L2
def rEqT (K : PySem.W.Frag) : R2 := fun x y H Q => ∃ a b xs ys, x = .ref a ∧ y = .ref b ∧ SqT K H a xs ∧ SqT K H b ys ∧ Paired (EqV K H 2) xs ys ∧ Q (.bl true) H
theorem op_eqT {X : Cx} (hu : X.A.units + 64 < cLine) : OpR X (compareOp .Eq) (rEqT X.K) := by
  intro pins s σ H x y v u Q I rx ry h
  obtain ⟨a, b, xs, ys, rfl, rfl, ha, hb, hp, q⟩ := h
  cases (show v = Value.ref a from rx)
  cases (show u = Value.ref b from ry)
  obtain ⟨its, r, e, z⟩ := I.tuple ha
  obtain ⟨its2, r2, e2, z2⟩ := I.tuple hb
  have hsz : its.toArray.size = its2.toArray.size := by rw [List.size_toArray, List.size_toArray, ← r.length, ← r2.length]; exact Paired.length hp
  refine GQ.rc_tupG hsz (by omega) (fun _ s' => s' = s) e e2 (fun i h1 h2 s' hs => ?_) (fun s' hs => ?_) rfl
  · subst hs
    have k := items_run (A := X.A.in1) (eqV_run I 2 X.A.in1 (by show X.A.units + 1 + 2 < cLine; omega)) hp r r2 i (by simpa using h1) (by simpa using h2)
    have k2 : SeqAt.EqP X.prog X.w X.A.in1 s' its.toArray[i] its2.toArray[i] true := by simpa using k
    exact k2 _ _ ⟨rfl, rfl⟩
  · subst hs
    exact ⟨.bl true, H, I, rfl, q⟩
end Cs

set_option Elab.async false
set_option linter.all false
set_option maxRecDepth 100000
set_option maxHeartbeats 4000000
namespace K5
open PySem PySem.Spec PyProof.Rows L2 Cs
def topS (i : Nat) : Stmt := PySem.Challenge.pw_curbdesk_k05_covered_by_two.main.body.getD i (.Pass ⟨0, 0, 0, 0⟩)
structure Bt (mg : Str → Option Value) : Prop where
  sorted : mg "sorted" = none
  set : mg "set" = none
  len : mg "len" = none
  isi : mg "isinstance" = none
  int : mg "int" = none
  bool : mg "bool" = none
  list : mg "list" = none
  all : mg "all" = none
  range : mg "range" = none
  dict : mg "dict" = none
abbrev Srt (ms : List Int) : Prop := ms.Pairwise (· < ·)
theorem same_new {H : Hp} {p : Addr} {o : HO} (h : H p = none) : Same H (upd H p o) := fun b x e => by
  rw [upd_ne (ne_of_none e h)]
  exact e
theorem same_at {H H' : Hp} {p : Addr} {o : HO} (s : Same H H') (h : H p = none) : Same H (upd H' p o) := fun b x e => by
  rw [upd_ne (ne_of_none e h)]
  exact s _ _ e
theorem sl_map {K : PySem.W.Frag} {H : Hp} {a : Addr} {xs : List V} (h : H a = some (.lst xs)) : SqL K H a xs := .inl (.inl h)
theorem and_iff (ns ks : List Int) (k : Int) : eAnd (fun j => decide (j ∈ ns)) (fun j => decide (j ∈ ks)) k ↔ k ∈ ns ∧ k ∈ ks := by
  show (decide (k ∈ ns) = true ∧ decide (k ∈ ks) = true) ↔ _
  simp
theorem or_iff' (ns ks : List Int) (k : Int) : eOr (fun j => decide (j ∈ ns)) (fun j => decide (j ∈ ks)) k ↔ k ∈ ns ∨ k ∈ ks := by
  show (decide (k ∈ ns) = true ∨ decide (k ∈ ks) = true) ↔ _
  simp
theorem sub_iff (ns ks : List Int) (k : Int) : eSub (fun j => decide (j ∈ ns)) (fun j => decide (j ∈ ks)) k ↔ k ∈ ns ∧ k ∉ ks := by
  show (decide (k ∈ ns) = true ∧ decide (k ∈ ks) = false) ↔ _
  simp
section
variable {P : Program} {w : World} {K : PySem.W.Frag} {mg : Str → Option Value} {base : Heap}
/-! ### the program: sides -/
abbrev sCommon : Stmt := topS 1
theorem scCommon : FnScope ["first", "second"] ["first", "second"] (defScope sCommon) := ⟨rfl, rfl, rfl, by decide +kernel, rfl, by decide +kernel, by decide +kernel⟩
/-- two lists, and what is said of the members -/
def spTwo (K : PySem.W.Frag) (mem : List Int → List Int → Int → Prop) : Sp := fun vs H Q _ => ∃ (a b : Addr) (ns ks : List Int), vs = [.ref a, .ref b] ∧ SqL K H a (ns.map V.int) ∧ SqL K H b (ks.map V.int) ∧ ns.length ≤ 31 ∧ ks.length ≤ 31 ∧
  ∀ H' p ms, Same H H' → H p = none → H' p = some (.lst (ms.map V.int)) → Srt ms → (∀ k, k ∈ ms ↔ mem ns ks k) → ms.length ≤ 63 → Q (.ref p) H'
theorem ok_common {f : Addr} {fd : FuncData} {k : Nat} (F : Fun K "common" "common" sCommon f fd) (B : Bt mg) : FnOk P w K mg base CX0 (k + 1) f fd ["first", "second"] (spTwo K fun ns ks k => k ∈ ns ∧ k ∈ ks) := by
  refine F.ok scCommon (fun vs H Q E h => ?_) (fun cdv A outer s H vs Q E hr h => ?_)
  · obtain ⟨a, b, ns, ks, rfl, _⟩ := h
    rfl
  · obtain ⟨a, b, ns, ks, rfl, hA, hB, la, lb, q⟩ := h
    refine ⟨_, pss_one (ps_ret (pe_callB (cr_sortedSet rfl) (by rfl) B.sorted boot_sorted (pa_cons (pe_op op_sand (pe_callTy (cr_setI rfl) (by rfl) B.set PyProof.Rows.boot_set (pa_cons (pv 0) pa_nil)) (pe_callTy (cr_setI rfl) (by rfl) B.set PyProof.Rows.boot_set (pa_cons (pv 1) pa_nil))) pa_nil))), ?_⟩
    refine ⟨.ref a, rfl, a, ns, rfl, hA, by omega, fun p c np hc => ?_⟩
    have s1 := same_new (o := SetO w p (fun j => decide (j ∈ ns)) c) np
    refine ⟨.ref b, rfl, b, ks, rfl, s1.seq hB, by omega, fun p2 c2 np2 hc2 => ?_⟩
    have ne : p2 ≠ p := fun e => by rw [e, upd_same] at np2; cases np2
    have s2 := s1.trans (same_new (o := SetO w p2 (fun j => decide (j ∈ ks)) c2) np2)
    refine ⟨p, p2, _, _, c, c2, rfl, rfl, ne, by rw [upd_ne ne.symm, upd_same], upd_same, ⟨by omega, by omega⟩, fun r S n nr hm hn => ?_⟩
    have s3 := s2.trans (same_new (o := SetO w r S n) nr)
    refine ⟨r, S, n, rfl, upd_same, by omega, fun ms z hs hk hl nz => ?_⟩
    exact q _ z ms (same_at s3 (s3.free nz)) (s3.free nz) upd_same hs (fun k => (hk k).trans ((hm k).trans (and_iff ns ks k))) (by omega)
end
section
variable {P : Program} {w : World} {K : PySem.W.Frag} {mg : Str → Option Value} {base : Heap}
abbrev sIsInt : Stmt := topS 10
abbrev sStream : Stmt := topS 11
abbrev sDraw : Stmt := topS 12
theorem scIsInt : FnScope ["_law_actual"] ["_law_actual"] (defScope sIsInt) := ⟨rfl, rfl, rfl, by decide +kernel, rfl, by decide +kernel, by decide +kernel⟩
theorem scStream : FnScope ["_law_script", "_law_k", "_law_cell"] ["_law_script", "_law_k"] (defScope sStream) := ⟨rfl, rfl, rfl, by decide +kernel, rfl, by decide +kernel, by decide +kernel⟩
theorem scDraw : FnScope ["_law_stream_here", "_law_size", "_law_digit", "_law_mixed"] ["_law_stream_here", "_law_size"] (defScope sDraw) := ⟨rfl, rfl, rfl, by decide +kernel, rfl, by decide +kernel, by decide +kernel⟩
def spIsInt : Sp := fun vs H Q _ => ∃ k : Int, vs = [.int k] ∧ Q (.bl true) H
theorem ok_isInt {f : Addr} {fd : FuncData} {k : Nat} (F : Fun K "_law_is_integer" "_law_is_integer" sIsInt f fd) (B : Bt mg) : FnOk P w K mg base CX0 (k + 1) f fd ["_law_actual"] spIsInt := by
  refine F.ok scIsInt (fun vs H Q E h => ?_) (fun cdv A outer s H vs Q E hr h => ?_)
  · obtain ⟨a, rfl, _⟩ := h
    rfl
  · obtain ⟨a, rfl, q⟩ := h
    refine ⟨_, pss_one (ps_ret (pe_and (pe_callB call_isi (by rfl) B.isi PyProof.Rows.boot_isinstance (pa_cons (pv 0) (pa_cons (pe_bltn (by rfl) B.int PyProof.Rows.boot_int (v := .ty "int") rfl) pa_nil)))
      (pe_one (pe_not (pe_callB call_isi (by rfl) B.isi PyProof.Rows.boot_isinstance (pa_cons (pv 0) (pa_cons (pe_bltn (by rfl) B.bool PyProof.Rows.boot_bool (v := .ty "bool") rfl) pa_nil))))))), ?_⟩
    refine ⟨.int a, rfl, .int a, .ty "int", .type "int", .type "int", true, rfl, .ty _, .base (.int a), kit_ty (by decide +kernel), true, rfl, iteT ?_⟩
    exact ⟨.int a, rfl, .int a, .ty "bool", .type "int", .type "bool", false, rfl, .ty _, .base (.int a), kit_ty (by decide +kernel), false, rfl, q⟩

/-- a stream: three ints -/
def Strm (H : Hp) (p : Addr) : Prop := ∃ x y z : Int, H p = some (.lst [.int x, .int y, .int z])
def spStream (K : PySem.W.Frag) : Sp := fun vs H Q _ => ∃ (a : Addr) (ns : List Int) (k : Nat), vs = [.ref a, .int (k : Int)] ∧ SqL K H a (ns.map V.int) ∧
  ∀ H' p, Same H H' → H p = none → Strm H' p → Q (.ref p) H'
theorem ok_stream {f : Addr} {fd : FuncData} {k : Nat} (F : Fun K "_law_stream" "_law_stream" sStream f fd) (B : Bt mg) : FnOk P w K mg base CX0 (k + 1) f fd ["_law_script", "_law_k"] (spStream K) := by
  refine F.ok scStream (fun vs H Q E h => ?_) (fun cdv A outer s H vs Q E hr h => ?_)
  · obtain ⟨a, ns, k, rfl, _⟩ := h
    rfl
  · obtain ⟨a, ns, k, rfl, hS, q⟩ := h
    refine ⟨_, pss_cons (ps_set (i := 2) scStream.nd rfl (.inl rfl) pe_int)
      (pss_cons (ps_if (pt_cmpR op_lt (pv 1) (pe_callB call_len_seq (by rfl) B.len PySem.boot_len (pa_cons (pv 0) pa_nil)) (nomark _))
        (pss_one (ps_set (i := 2) scStream.nd rfl (.inl rfl) (pe_ix ix_list (pv 0) (pv 1) (fun _ _ => rfl)))) pss_nil)
      (pss_one (ps_ret (pe_lst (pa_cons (pe_op op_mul (pv 2) (pe_callTy call_int1 (by rfl) B.int PyProof.Rows.boot_int (pa_cons (pe_cmpR op_ge (pv 2) (pe_op op_pow pe_int pe_int) (nomark _)) pa_nil))) (pa_cons pe_int (pa_cons (pv 2) pa_nil))))))), ?_⟩
    have tail : ∀ (c : Int) (b : Bool), -(2 ^ 64) < (if b = true then (1 : Int) else 0) ∧ (if b = true then (1 : Int) else 0) < 2 ^ 64 := fun c b => by cases b <;> decide
    refine ⟨.int k, rfl, .ref a, rfl, a, _, rfl, .inl hS, (k : Int), _, rfl, rfl, _, rfl, ite2 (fun c => ?_) (fun c => ?_)⟩
    · have hk : k < ns.length := by
        have := of_decide_eq_true c
        rw [List.length_map] at this
        omega
      have g : (ns.map V.int)[k]? = some (.int ns[k]) := by
        rw [List.getElem?_map, List.getElem?_eq_getElem hk]
        rfl
      refine ⟨.ref a, rfl, .int k, rfl, a, _, (k : Int), _, rfl, rfl, hS, atI_nat g, ?_⟩
      refine ⟨.int ns[k], rfl, .int ns[k], rfl, 10, 18, rfl, rfl, ⟨by decide, by decide, by decide⟩, ns[k], _, rfl, rfl, .inr ⟨_, rfl, ns[k], _, rfl, rfl, .inr (tail 0 _), .int ns[k], rfl, by show 3 ≤ sizeLine; decide, fun l hl => ?_⟩⟩
      exact q _ l (same_new hl) hl ⟨_, _, _, upd_same⟩
    · refine ⟨.int 0, rfl, .int 0, rfl, 10, 18, rfl, rfl, ⟨by decide, by decide, by decide⟩, 0, _, rfl, rfl, .inr ⟨_, rfl, 0, _, rfl, rfl, .inr (tail 0 _), .int 0, rfl, by show 3 ≤ sizeLine; decide, fun l hl => ?_⟩⟩
      exact q _ l (same_new hl) hl ⟨_, _, _, upd_same⟩
/-- all but the one at p is as it was -/
def Oth (p : Addr) (H H' : Hp) : Prop := ∀ b, b ≠ p → H' b = H b
def spDraw : Sp := fun vs H Q _ => ∃ (p : Addr) (m : Int), vs = [.ref p, .int m] ∧ Strm H p ∧ 0 < m ∧ m < 1073741824 ∧
  ∀ H' d, Oth p H H' → Strm H' p → 0 ≤ d → d < m → Q (.int d) H'
theorem at0 {x y z : V} : atI [x, y, z] (0 : Int) = some x := atI_nat (j := 0) rfl
theorem at1 {x y z : V} : atI [x, y, z] (1 : Int) = some y := atI_nat (j := 1) rfl
theorem at2 {x y z : V} : atI [x, y, z] (2 : Int) = some z := atI_nat (j := 2) rfl
theorem ok_draw {f : Addr} {fd : FuncData} {k : Nat} (F : Fun K "_law_next" "_law_next" sDraw f fd) (B : Bt mg) : FnOk P w K mg base CX0 (k + 1) f fd ["_law_stream_here", "_law_size"] spDraw := by
  refine F.ok scDraw (fun vs H Q E h => ?_) (fun cdv A outer s H vs Q E hr h => ?_)
  · obtain ⟨p, m, rfl, _⟩ := h
    rfl
  · obtain ⟨p, m, rfl, ⟨x, y, z, hp⟩, m0, m1, q⟩ := h
    refine ⟨_, pss_cons (ps_asg (pe_op op_add (pe_ix ix_list (pv 0) pe_int (fun _ _ => rfl)) pe_int) (pg_sub (pv 0) pe_int set_list))
      (pss_cons (ps_if (pt_cmpR op_gt (pe_ix ix_list (pv 0) pe_int (fun _ _ => rfl)) pe_int (nomark _))
        (pss_cons (ps_set (i := 2) scDraw.nd rfl (.inl rfl) (pe_op op_mod (pe_callTy call_int1 (by rfl) B.int PyProof.Rows.boot_int (pa_cons (pe_ix ix_list (pv 0) pe_int (fun _ _ => rfl)) pa_nil)) (pv 1)))
          (pss_cons (ps_asg (pe_op op_fdiv (pe_ix ix_list (pv 0) pe_int (fun _ _ => rfl)) (pv 1)) (pg_sub (pv 0) pe_int set_list))
          (pss_one (ps_ret (pv 2))))) pss_nil)
      (pss_cons (ps_set (i := 3) scDraw.nd rfl (.inl rfl) (pe_op op_mod (pe_callTy call_int1 (by rfl) B.int PyProof.Rows.boot_int (pa_cons
          (pe_op op_add (pe_op op_add (pe_ix ix_list (pv 0) pe_int (fun _ _ => rfl)) (pe_op op_mul pe_int (pe_ix ix_list (pv 0) pe_int (fun _ _ => rfl)))) pe_int) pa_nil)) pe_int))
      (pss_cons (ps_set (i := 3) scDraw.nd rfl (.inl rfl) (pe_op op_mod (pe_callTy call_int1 (by rfl) B.int PyProof.Rows.boot_int (pa_cons
          (pe_op op_mul (pv 3) (pe_op op_add (pv 3) pe_int)) pa_nil)) pe_int))
      (pss_cons (ps_set (i := 3) scDraw.nd rfl (.inl rfl) (pe_op op_mod (pe_callTy call_int1 (by rfl) B.int PyProof.Rows.boot_int (pa_cons
          (pe_op op_add (pe_op op_mul (pv 3) (pe_op op_add (pv 3) pe_int)) (pe_op op_mul pe_int (pe_ix ix_list (pv 0) pe_int (fun _ _ => rfl)))) pa_nil)) pe_int))
      (pss_one (ps_ret (pe_op op_mod (pe_callTy call_int1 (by rfl) B.int PyProof.Rows.boot_int (pa_cons (pe_op op_fdiv (pv 3) pe_int) pa_nil)) (pv 1)))))))), ?_⟩
    have pos1 : (0 : Int) < 2147483647 := by decide
    have pos2 : (0 : Int) < 2147483629 := by decide
    -- stream[1] = stream[1] + 1
    refine ⟨.ref p, rfl, p, _, 1, .int y, rfl, rfl, sl_map hp, at1, y, 1, rfl, rfl, .ref p, rfl, p, _, 1, 1, rfl, rfl, hp, rfl, ?_⟩
    have h1 : ∀ o, (upd H p o) p = some o := fun o => upd_same
    -- if stream[0] > 0
    refine ⟨.ref p, rfl, p, _, 0, .int x, rfl, rfl, sl_map upd_same, at0, x, 0, rfl, rfl, _, rfl, ite2 (fun c => ?_) (fun c => ?_)⟩
    · refine ⟨.ref p, rfl, p, _, 0, .int x, rfl, rfl, sl_map upd_same, at0, .inl ⟨x, rfl, .int m, rfl, x, m, rfl, rfl, m0, ?_⟩⟩
      refine ⟨.ref p, rfl, p, _, 0, .int x, rfl, rfl, sl_map upd_same, at0, .int m, rfl, x, m, rfl, rfl, ⟨m0, m1⟩, .ref p, rfl, p, _, 0, 0, rfl, rfl, upd_same, rfl, ?_⟩
      refine ⟨.int (x % m), rfl, q _ _ (fun b hb => by rw [upd_ne hb, upd_ne hb]) ⟨_, _, _, upd_same⟩ (Int.emod_nonneg _ (by omega)) (Int.emod_lt_of_pos _ m0)⟩
    · refine ⟨.ref p, rfl, p, _, 2, .int z, rfl, rfl, sl_map upd_same, at2, .ref p, rfl, p, _, 1, .int (y + 1), rfl, rfl, sl_map upd_same, at1, 7919, y + 1, rfl, rfl, .inl ⟨by decide, by decide⟩, z, _, rfl, rfl, _, 13, rfl, rfl,
        .inl ⟨_, rfl, _, 2147483647, rfl, rfl, pos1, ?_⟩⟩
      have r1 : ∀ u : Int, 0 ≤ u % 2147483647 ∧ u % 2147483647 < 2147483647 := fun u => ⟨Int.emod_nonneg _ (by decide), Int.emod_lt_of_pos _ (by decide)⟩
      have r2 : ∀ u : Int, 0 ≤ u % 2147483629 ∧ u % 2147483629 < 2147483629 := fun u => ⟨Int.emod_nonneg _ (by decide), Int.emod_lt_of_pos _ (by decide)⟩
      have big : (2147483647 : Int) < 2 ^ 64 := by decide
      have big2 : (-(2 ^ 64) : Int) < 0 := by decide
      have b1 := r1 (z + 7919 * (y + 1) + 13)
      refine ⟨_, rfl, _, rfl, (z + 7919 * (y + 1) + 13) % 2147483647, 48271, rfl, rfl, (z + 7919 * (y + 1) + 13) % 2147483647, _, rfl, rfl, .inl ⟨by omega, by omega⟩, .inl ⟨_, rfl, _, 2147483629, rfl, rfl, pos2, ?_⟩⟩
      have b2 := r2 ((z + 7919 * (y + 1) + 13) % 2147483647 * ((z + 7919 * (y + 1) + 13) % 2147483647 + 48271))
      refine ⟨_, rfl, _, rfl, _, 69621, rfl, rfl, (z + 7919 * (y + 1) + 13) % 2147483647 * ((z + 7919 * (y + 1) + 13) % 2147483647 + 48271) % 2147483629, _, rfl, rfl, .inl ⟨?_, ?_⟩, .ref p, rfl, p, _, 1, .int (y + 1), rfl, rfl, sl_map upd_same, at1, 31, y + 1, rfl, rfl, .inl ⟨by decide, by decide⟩, _, _, rfl, rfl,
        .inl ⟨_, rfl, _, 2147483647, rfl, rfl, pos1, ?_⟩⟩
      · generalize (z + 7919 * (y + 1) + 13) % 2147483647 * ((z + 7919 * (y + 1) + 13) % 2147483647 + 48271) % 2147483629 = v at b2
        omega
      · generalize (z + 7919 * (y + 1) + 13) % 2147483647 * ((z + 7919 * (y + 1) + 13) % 2147483647 + 48271) % 2147483629 = v at b2
        omega
      refine ⟨_, rfl, _, 9, rfl, rfl, ⟨by decide, by decide⟩, .inl ⟨_, rfl, .int m, rfl, _, m, rfl, rfl, m0, ?_⟩⟩
      exact q _ _ (fun b hb => by rw [upd_ne hb]) ⟨_, _, _, upd_same⟩ (Int.emod_nonneg _ (by omega)) (Int.emod_lt_of_pos _ m0)
/-- a def that stands, with its promise -/
structure Call (P : Program) (w : World) (K : PySem.W.Frag) (mg : Str → Option Value) (base : Heap) (k : Nat) (x : Str) (f : Addr) (fd : FuncData) (ps : List Str) (sp : Sp) : Prop where
  ok : FnOk P w K mg base CX0 k f fd ps sp
  at_ : mg x = some (.ref f)
  kp : PySem.W.keepIn K (.ref f) = true
  bd : Binds K fd ps []
abbrev nIsSide : List Str := ["_law_actual", "_law_value", "_law_k"]
def spIsSide : Sp := fun vs H Q _ => ∃ (a : Addr) (ns : List Int), vs = [.ref a] ∧ H a = some (.lst (ns.map V.int)) ∧ Srt ns ∧ ns.length ≤ 1000 ∧ ∀ H', Same H H' → Q (.bl true) H'
theorem all_rep (n : Nat) : (List.replicate n true).all id = true := by simp
/-- what was tracked, but for the one at p, is as it was -/
def Keep (p : Addr) (H H' : Hp) : Prop := ∀ b o, b ≠ p → H b = some o → H' b = some o
theorem Keep.refl (p : Addr) (H : Hp) : Keep p H H := fun _ _ _ e => e
theorem Keep.oth {p : Addr} {H H1 H2 : Hp} (k : Keep p H H1) (o : Oth p H1 H2) : Keep p H H2 := fun b u hb e => (o b hb).trans (k b u hb e)
theorem Keep.trans {p : Addr} {H H1 H2 : Hp} (k : Keep p H H1) (k2 : Keep p H1 H2) : Keep p H H2 := fun b u hb e => k2 b u hb (k b u hb e)
theorem Keep.at_ {p q : Addr} {o : HO} {H H1 : Hp} (k : Keep p H H1) (n : H q = none) : Keep p H (upd H1 q o) := fun b u hb e => by
  rw [upd_ne (ne_of_none e n)]
  exact k b u hb e
theorem Keep.same {p : Addr} {H H1 : Hp} (s : Same H H1) : Keep p H H1 := fun b u _ e => s b u e
theorem Strm.some {H : Hp} {p : Addr} (s : Strm H p) : H p ≠ none := fun z => by
  obtain ⟨x, y, z', e⟩ := s
  rw [z] at e
  cases e
theorem Strm.keep {H H' : Hp} {p q : Addr} (s : Strm H p) (k : Keep q H H') (h : p ≠ q) : Strm H' p := by
  obtain ⟨x, y, z, e⟩ := s
  exact ⟨x, y, z, k _ _ h e⟩
theorem Strm.upd {H : Hp} {p q : Addr} {o : HO} (s : Strm H p) (h : p ≠ q) : Strm (upd H q o) p := by
  obtain ⟨x, y, z, e⟩ := s
  exact ⟨x, y, z, by rw [upd_ne h]; exact e⟩
theorem Keep.free {p q : Addr} {H H1 : Hp} (k : Keep p H H1) (s : Strm H1 p) (n : H1 q = none) : H q = none := by
  have hp : q ≠ p := fun z => s.some (z ▸ n)
  cases c : H q with
  | none => rfl
  | some o =>
    rw [k q o hp c] at n
    cases n
end
theorem srt_ext : ∀ {xs ys : List Int}, Srt xs → Srt ys → (∀ k, k ∈ xs ↔ k ∈ ys) → xs = ys
  | [], [], _, _, _ => rfl
  | [], y :: ys, _, _, h => absurd ((h y).2 List.mem_cons_self) (by simp)
  | x :: xs, [], _, _, h => absurd ((h x).1 List.mem_cons_self) (by simp)
  | x :: xs, y :: ys, sx, sy, h => by
    obtain ⟨x1, x2⟩ := List.pairwise_cons.mp sx
    obtain ⟨y1, y2⟩ := List.pairwise_cons.mp sy
    have e : x = y := by
      rcases List.mem_cons.mp ((h x).1 List.mem_cons_self) with a | a
      · exact a
      · rcases List.mem_cons.mp ((h y).2 List.mem_cons_self) with b | b
        · exact b.symm
        · have := x1 y b
          have := y1 x a
          omega
    subst e
    have t : ∀ k, k ∈ xs ↔ k ∈ ys := fun k => by
      constructor
      · intro hk
        rcases List.mem_cons.mp ((h k).1 (List.mem_cons_of_mem _ hk)) with a | a
        · have := x1 k hk
          omega
        · exact a
      · intro hk
        rcases List.mem_cons.mp ((h k).2 (List.mem_cons_of_mem _ hk)) with a | a
        · have := y1 k hk
          omega
        · exact a
    rw [srt_ext x2 y2 t]
/-! ### lists of ints as data -/
abbrev dI (ns : List Int) : PyData := .list (ns.map PyData.int)
theorem dp_all {K : PySem.W.Frag} {H : Hp} : ∀ ns : List Int, DpAll K H (ns.map V.int) (ns.map PyData.int)
  | [] => .nil
  | n :: ns => .cons (.int n) (dp_all ns)
theorem dpI {K : PySem.W.Frag} {H : Hp} {a : Addr} {ns : List Int} (h : SqL K H a (ns.map V.int)) : Dp K H (.ref a) (dI ns) := .lst h (dp_all ns)
theorem lay_all : ∀ ns : List Int, PyData.canLayAll0 (ns.map PyData.int) = true
  | [] => rfl
  | n :: ns => by
    show (PyData.canLay0 (.int n) && PyData.canLayAll0 (ns.map PyData.int)) = true
    rw [lay_all ns] <;> rfl
theorem layI (ns : List Int) : (dI ns).canLay0 = true := lay_all ns
theorem deep_all : ∀ ns : List Int, PyData.depthAll (ns.map PyData.int) ≤ 1
  | [] => by simp [PyData.depthAll]
  | n :: ns => by
    have := deep_all ns
    simp only [List.map_cons, PyData.depthAll, PyData.depth]
    omega
theorem deepI (ns : List Int) : (dI ns).depth ≤ 2 := by
  have := deep_all ns
  simp only [dI, PyData.depth]
  omega
theorem shI (ns : List Int) : SeqAt.shaped (dI ns) = true := by
  unfold SeqAt.shaped
  rw [layI]
  have := deepI ns
  simp
  omega
theorem eqI (ns : List Int) : PyData.eqv (dI ns) (dI ns) = true := SeqAt.eqv_refl _ (layI ns)
theorem lay2 (ns ks : List Int) : (PyData.list [dI ns, dI ks]).canLay0 = true := by
  show (PyData.canLay0 (dI ns) && (PyData.canLay0 (dI ks) && true)) = true
  rw [layI, layI]
  rfl
theorem sh2 (ns ks : List Int) : SeqAt.shaped (.list [dI ns, dI ks]) = true := by
  unfold SeqAt.shaped
  rw [lay2]
  have h1 := deepI ns
  have h2 := deepI ks
  have : (PyData.list [dI ns, dI ks]).depth ≤ 3 := by
    simp only [PyData.depth, PyData.depthAll] at *
    omega
  simp
  omega
theorem eq2 (ns ks : List Int) : PyData.eqv (.list [dI ns, dI ks]) (.list [dI ns, dI ks]) = true := SeqAt.eqv_refl _ (lay2 ns ks)
/-! ### boxes: dicts from texts to lists of ints -/
abbrev Ent := Str × Addr × List Int
def entK (L : List Ent) : List (Key × V) := L.map fun e => (Sum.inr e.1, V.ref e.2.1)
def getE (L : List Ent) (x : Str) : Option Ent := L.find? fun e => decide (e.1 = x)
def look (L : List Ent) (x : Str) : Option (List Int) := (getE L x).map (·.2.2)
theorem getE_nil (x : Str) : getE [] x = none := rfl
theorem getE_pos {e : Ent} {L : List Ent} {x : Str} (h : e.1 = x) : getE (e :: L) x = some e := by simp [getE, List.find?_cons, h]
theorem getE_neg {e : Ent} {L : List Ent} {x : Str} (h : ¬ e.1 = x) : getE (e :: L) x = getE L x := by simp [getE, List.find?_cons, h]
theorem getE_mem {L : List Ent} {x : Str} {e : Ent} (h : getE L x = some e) : e ∈ L ∧ e.1 = x :=
  ⟨List.mem_of_find?_eq_some h, of_decide_eq_true (List.find?_some (p := fun e : Ent => decide (e.1 = x)) h)⟩
theorem getE_of : ∀ {L : List Ent} {e : Ent}, (L.map (·.1)).Nodup → e ∈ L → getE L e.1 = some e
  | [], _, _, h => by cases h
  | a :: L, e, nd, h => by
    rw [List.map_cons, List.nodup_cons] at nd
    rcases List.mem_cons.mp h with z | z
    · rw [z]; exact getE_pos rfl
    · have ne : ¬ a.1 = e.1 := fun q => nd.1 (q ▸ List.mem_map_of_mem z)
      rw [getE_neg ne]
      exact getE_of nd.2 z
theorem getE_none {L : List Ent} {x : Str} : getE L x = none ↔ x ∉ L.map (·.1) := by
  unfold getE
  rw [List.find?_eq_none]
  constructor
  · intro h hx
    obtain ⟨e, he, q⟩ := List.mem_map.mp hx
    exact h e he (decide_eq_true q)
  · intro h e he q
    exact h (of_decide_eq_true q ▸ List.mem_map_of_mem he)
theorem look_mem {L : List Ent} {e : Ent} (nd : (L.map (·.1)).Nodup) (h : e ∈ L) : look L e.1 = some e.2.2 := by
  unfold look
  rw [getE_of nd h]
  rfl
theorem valV_ent (x : Str) : ∀ L : List Ent, valV (entK L) (.inr x) = (getE L x).map fun e => V.ref e.2.1
  | [] => rfl
  | e :: L => by
    by_cases h : e.1 = x
    · rw [getE_pos h]
      exact valV_pos (congrArg Sum.inr h)
    · rw [getE_neg h]
      have : valV (entK (e :: L)) (.inr x) = valV (entK L) (.inr x) := valV_neg (fun z => h (Sum.inr.inj z))
      rw [this]
      exact valV_ent x L
structure Bx (H : Hp) (d : Addr) (L : List Ent) : Prop where
  rd : Rd H d (.dK (entK L))
  sides : ∀ e ∈ L, H e.2.1 = some (.lst (e.2.2.map V.int))
  nd : (L.map (·.1)).Nodup
  few : L.length ≤ 40
theorem Rd.same {H H' : Hp} {a : Addr} {u : HO} (s : Same H H') (r : Rd H a u) : Rd H' a u := r.elim (fun h => .inl (s _ _ h)) fun ⟨o, h⟩ => .inr ⟨o, s _ _ h⟩
theorem Bx.same {H H' : Hp} {d : Addr} {L : List Ent} (B : Bx H d L) (s : Same H H') : Bx H' d L := ⟨Rd.same s B.rd, fun e he => s _ _ (B.sides e he), B.nd, B.few⟩
theorem Bx.get {H : Hp} {d : Addr} {L : List Ent} (B : Bx H d L) (x : Str) : DGet H d (.str x) ((getE L x).map fun e => V.ref e.2.1) := .inl ⟨entK L, .inr x, B.rd, rfl, (valV_ent x L).symm⟩
/-- a locked dict is read as before -/
theorem Bx.lock {H : Hp} {d d' : Addr} {L L' : List Ent} {od : Obj} (B : Bx H d L) (h : H d' = some (.dK (entK L'))) : Bx (upd H d' (.frz od (.dK (entK L')))) d L := by
  refine ⟨?_, fun e he => ?_, B.nd, B.few⟩
  · by_cases z : d = d'
    · subst z
      have : entK L' = entK L := by
        rcases B.rd with q | ⟨o, q⟩
        · rw [h] at q
          exact HO.dK.inj (Option.some.inj q)
        · rw [h] at q; cases q
      rw [← this]
      exact .inr ⟨od, upd_same⟩
    · rcases B.rd with q | ⟨o, q⟩
      · exact .inl (by rw [upd_ne z]; exact q)
      · exact .inr ⟨o, by rw [upd_ne z]; exact q⟩
  · have : e.2.1 ≠ d' := fun z => by have q := B.sides e he; rw [z, h] at q; cases q
    rw [upd_ne this]
    exact B.sides e he
theorem unlock {H H' : Hp} {d : Addr} {u : HO} {od : Obj} (h : H d = some u) (s : Same (upd H d (.frz od u)) H') : Same H (upd H' d u) := fun b o e => by
  by_cases z : b = d
  · subst z
    rw [upd_same]
    exact h.symm.trans e
  · rw [upd_ne z]
    exact s b o (by rw [upd_ne z]; exact e)
/-- put -/
def putE (L : List Ent) (x : Str) (a : Addr) (s : List Int) : List Ent := if (L.any fun e => decide (e.1 = x)) = true then L.map (fun e => if e.1 = x then (x, a, s) else e) else L ++ [(x, a, s)]
theorem any_ent (L : List Ent) (x : Str) : ((entK L).any fun kv => decide (kv.1 = Sum.inr x)) = L.any fun e => decide (e.1 = x) := by
  unfold entK
  rw [List.any_map]
  congr 1
  funext e
  simp
theorem putK_ent (L : List Ent) (x : Str) (a : Addr) (s : List Int) : putK (entK L) (.inr x) (V.ref a) = entK (putE L x a s) := by
  unfold putK putE
  rw [any_ent]
  by_cases h : (L.any fun e => decide (e.1 = x)) = true
  · rw [if_pos h, if_pos h]
    unfold entK
    rw [List.map_map, List.map_map]
    congr 1
    funext e
    by_cases z : e.1 = x
    · simp [z]
    · simp [z]
  · rw [if_neg h, if_neg h]
    unfold entK
    rw [List.map_append]
    rfl
theorem any_iff {L : List Ent} {x : Str} : (L.any fun e => decide (e.1 = x)) = true ↔ x ∈ L.map (·.1) := by
  rw [List.any_eq_true, List.mem_map]
  constructor
  · rintro ⟨e, he, q⟩; exact ⟨e, he, of_decide_eq_true q⟩
  · rintro ⟨e, he, q⟩; exact ⟨e, he, decide_eq_true q⟩
theorem putE_keys (L : List Ent) (x : Str) (a : Addr) (s : List Int) : (putE L x a s).map (·.1) = if x ∈ L.map (·.1) then L.map (·.1) else L.map (·.1) ++ [x] := by
  unfold putE
  by_cases h : (L.any fun e => decide (e.1 = x)) = true
  · rw [if_pos h, if_pos (any_iff.mp h), List.map_map]
    congr 1
    funext e
    by_cases z : e.1 = x
    · simp [z]
    · simp [z]
  · rw [if_neg h, if_neg (fun z => h (any_iff.mpr z)), List.map_append]
    rfl
theorem putE_nd {L : List Ent} {x : Str} {a : Addr} {s : List Int} (nd : (L.map (·.1)).Nodup) : ((putE L x a s).map (·.1)).Nodup := by
  rw [putE_keys]
  split
  · exact nd
  · rename_i h
    rw [List.nodup_append]
    exact ⟨nd, by simp, fun y hy z hz => by rw [List.mem_singleton.mp hz]; exact fun e => h (e ▸ hy)⟩
theorem putE_len (L : List Ent) (x : Str) (a : Addr) (s : List Int) : (putE L x a s).length ≤ L.length + 1 := by
  unfold putE
  split
  · rw [List.length_map]; omega
  · rw [List.length_append]; exact Nat.le_refl _
theorem putE_mem {L : List Ent} {x : Str} {a : Addr} {s : List Int} {e : Ent} (h : e ∈ putE L x a s) : e = (x, a, s) ∨ (e ∈ L ∧ e.1 ≠ x) := by
  unfold putE at h
  split at h
  · obtain ⟨f, hf, q⟩ := List.mem_map.mp h
    by_cases z : f.1 = x
    · rw [if_pos z] at q; exact .inl q.symm
    · rw [if_neg z] at q; exact .inr (q ▸ ⟨hf, z⟩)
  · rename_i g
    rcases List.mem_append.mp h with q | q
    · exact .inr ⟨q, fun z => g (any_iff.mpr (z ▸ List.mem_map_of_mem q))⟩
    · exact .inl (List.mem_singleton.mp q)
theorem find_map_at {x y : Str} {a : Addr} {s : List Int} (h : ¬ x = y) : ∀ L : List Ent, getE (L.map (fun e => if e.1 = x then (x, a, s) else e)) y = getE L y
  | [] => rfl
  | e :: L => by
    rw [List.map_cons]
    by_cases z : e.1 = x
    · rw [if_pos z, getE_neg (show ¬ (x, a, s).1 = y from h), getE_neg (fun q => h (z.symm.trans q))]
      exact find_map_at h L
    · rw [if_neg z]
      by_cases q : e.1 = y
      · rw [getE_pos q, getE_pos q]
      · rw [getE_neg q, getE_neg q]
        exact find_map_at h L
theorem find_map_self {x : Str} {a : Addr} {s : List Int} : ∀ L : List Ent, x ∈ L.map (·.1) → getE (L.map (fun e => if e.1 = x then (x, a, s) else e)) x = some (x, a, s)
  | [], h => by cases h
  | e :: L, h => by
    rw [List.map_cons]
    by_cases z : e.1 = x
    · rw [if_pos z]; exact getE_pos rfl
    · rw [if_neg z, getE_neg z]
      rw [List.map_cons] at h
      exact find_map_self L ((List.mem_cons.mp h).elim (fun q => absurd q.symm z) id)
theorem getE_app (L M : List Ent) (y : Str) : getE (L ++ M) y = (getE L y).or (getE M y) := List.find?_append
theorem getE_put (L : List Ent) (x y : Str) (a : Addr) (s : List Int) : getE (putE L x a s) y = if y = x then some (x, a, s) else getE L y := by
  unfold putE
  by_cases h : (L.any fun e => decide (e.1 = x)) = true
  · rw [if_pos h]
    by_cases z : y = x
    · rw [if_pos z, z]
      exact find_map_self L (any_iff.mp h)
    · rw [if_neg z]
      exact find_map_at (fun q => z q.symm) L
  · rw [if_neg h, getE_app]
    by_cases z : y = x
    · rw [if_pos z, z, getE_none.mpr (fun q => h (any_iff.mpr q))]
      exact getE_pos rfl
    · rw [if_neg z, show getE [(x, a, s)] y = none from getE_neg (fun q => z q.symm)]
      cases getE L y <;> rfl
theorem look_put (L : List Ent) (x y : Str) (a : Addr) (s : List Int) : look (putE L x a s) y = if y = x then some s else look L y := by
  unfold look
  rw [getE_put]
  by_cases z : y = x
  · rw [if_pos z, if_pos z]; rfl
  · rw [if_neg z, if_neg z]
/-- drop -/
def dropE (L : List Ent) (x : Str) : List Ent := L.filter fun e => decide (e.1 ≠ x)
theorem dropK_ent (L : List Ent) (x : Str) : dropK (entK L) (.inr x) = entK (dropE L x) := by
  unfold dropK dropE entK
  rw [List.filter_map]
  congr 1
  apply List.filter_congr
  intro e _
  simp
theorem getE_drop (x y : Str) : ∀ L : List Ent, getE (dropE L x) y = if y = x then none else getE L y
  | [] => by unfold dropE; simp [getE]
  | e :: L => by
    have ih := getE_drop x y L
    unfold dropE at ih ⊢
    by_cases z : e.1 = x
    · rw [List.filter_cons_of_neg (by simp [z]), ih]
      by_cases q : y = x
      · rw [if_pos q, if_pos q]
      · rw [if_neg q, if_neg q, getE_neg (fun w => q (w.symm.trans z))]
    · rw [List.filter_cons_of_pos (by simp [z])]
      by_cases w : e.1 = y
      · rw [getE_pos w, getE_pos w, if_neg (fun q => z (w.trans q))]
      · rw [getE_neg w, getE_neg w, ih]
theorem look_drop (L : List Ent) (x y : Str) : look (dropE L x) y = if y = x then none else look L y := by
  unfold look
  rw [getE_drop]
  by_cases q : y = x
  · rw [if_pos q, if_pos q]; rfl
  · rw [if_neg q, if_neg q]
theorem dropE_nd {L : List Ent} {x : Str} (nd : (L.map (·.1)).Nodup) : ((dropE L x).map (·.1)).Nodup := List.Pairwise.sublist (List.Sublist.map _ List.filter_sublist) nd
theorem dropE_mem {L : List Ent} {x : Str} {e : Ent} (h : e ∈ dropE L x) : e ∈ L := (List.mem_filter.mp h).1
theorem dropE_len (L : List Ent) (x : Str) : (dropE L x).length ≤ L.length := List.length_filter_le _ _
/-- two boxes that say the same -/
def SameB (L M : List Ent) : Prop := ∀ x, look L x = look M x
theorem look_isSome {L : List Ent} {x : Str} : (look L x).isSome = true ↔ x ∈ L.map (·.1) := by
  unfold look
  rw [Option.isSome_map]
  cases h : getE L x with
  | none => simp [getE_none.mp h]
  | some e => simp only [Option.isSome_some, true_iff]; obtain ⟨a, b⟩ := getE_mem h; exact b ▸ List.mem_map_of_mem a
theorem len_le {α : Type} [DecidableEq α] : ∀ {l m : List α}, l.Nodup → (∀ x ∈ l, x ∈ m) → l.length ≤ m.length
  | [], _, _, _ => Nat.zero_le _
  | x :: l, m, nd, h => by
    rw [List.nodup_cons] at nd
    have hx := h x List.mem_cons_self
    have ih := len_le (m := m.erase x) nd.2 (fun y hy => (List.mem_erase_of_ne (fun (e : y = x) => nd.1 (by rw [← e]; exact hy))).2 (h y (List.mem_cons_of_mem _ hy)))
    rw [List.length_erase_of_mem hx] at ih
    have : 0 < m.length := List.length_pos_of_mem hx
    rw [List.length_cons]
    omega
theorem SameB.len {L M : List Ent} (s : SameB L M) (n1 : (L.map (·.1)).Nodup) (n2 : (M.map (·.1)).Nodup) : L.length = M.length := by
  have h1 := len_le n1 (fun x hx => look_isSome.mp (by rw [← s x]; exact look_isSome.mpr hx))
  have h2 := len_le n2 (fun x hx => look_isSome.mp (by rw [s x]; exact look_isSome.mpr hx))
  rw [List.length_map, List.length_map] at h1 h2
  omega
/-- v in ks, as the model asks it -/
theorem in_ints (ks : List Int) (v : Int) : inV (.int v) (ks.map V.int) = decide (v ∈ ks) := by
  unfold inV
  induction ks with
  | nil => simp
  | cons k ks ih =>
    rw [List.map_cons, List.any_cons, ih]
    have e : eqV (.int k) (.int v) = decide (k = v) := by
      by_cases c : k = v
      · subst c; simp [eqV]
      · simp [eqV, c]
    rw [e]
    by_cases c : k = v
    · subst c; simp
    · have c2 : ¬ v = k := fun z => c z.symm
      simp [c, c2]
theorem flat_ints (ks : List Int) : (ks.map V.int).all flatV = true := by
  rw [List.all_map]
  exact List.all_eq_true.mpr fun _ _ => rfl
section
variable {P : Program} {w : World} {K : PySem.W.Frag} {mg : Str → Option Value} {base : Heap}
/-! ### the program: boxes -/
/-- a box that no walk has locked -/
structure Bu (H : Hp) (d : Addr) (L : List Ent) : Prop extends Bx H d L where
  un : H d = some (.dK (entK L))
theorem Bu.same' {H H' : Hp} {d : Addr} {L : List Ent} (B : Bu H d L) (s : Same H H') : Bu H' d L := ⟨B.toBx.same s, s _ _ B.un⟩
theorem upd_back {H : Hp} {d : Addr} {u x : HO} (h : H d = some u) : upd (upd H d x) d u = H := by
  funext b
  by_cases z : b = d
  · rw [z, upd_same, h]
  · rw [upd_ne z, upd_ne z]
theorem entK_get {L : List Ent} {i : Nat} : (entK L)[i]? = (L[i]?).map fun e => (Sum.inr e.1, V.ref e.2.1) := by
  unfold entK
  rw [List.getElem?_map]
/-! ### holds -/
def intK (A : List (Str × Int)) : List (Key × V) := A.map fun e => (Sum.inr e.1, V.int e.2)
def aget (A : List (Str × Int)) (x : Str) : Option Int := (A.find? fun e => decide (e.1 = x)).map (·.2)
theorem valV_int (x : Str) : ∀ A : List (Str × Int), valV (intK A) (.inr x) = (aget A x).map V.int
  | [] => rfl
  | e :: A => by
    by_cases h : e.1 = x
    · have : aget (e :: A) x = some e.2 := by simp [aget, List.find?_cons, h]
      rw [this]
      exact valV_pos (congrArg Sum.inr h)
    · have : aget (e :: A) x = aget A x := by simp [aget, List.find?_cons, h]
      rw [this]
      have : valV (intK (e :: A)) (.inr x) = valV (intK A) (.inr x) := valV_neg (fun z => h (Sum.inr.inj z))
      rw [this]
      exact valV_int x A
/-- an assignment: a dict from texts to ints -/
structure Ax (H : Hp) (d : Addr) (A : List (Str × Int)) : Prop where
  rd : Rd H d (.dK (intK A))
theorem Ax.same {H H' : Hp} {d : Addr} {A : List (Str × Int)} (B : Ax H d A) (s : Same H H') : Ax H' d A := ⟨Rd.same s B.rd⟩
theorem Ax.get {H : Hp} {d : Addr} {A : List (Str × Int)} (B : Ax H d A) (x : Str) : DGet H d (.str x) ((aget A x).map V.int) := .inl ⟨intK A, .inr x, B.rd, rfl, (valV_int x A).symm⟩
def inSide (A : List (Str × Int)) (e : Ent) : Bool := match aget A e.1 with
  | some v => decide (v ∈ e.2.2)
  | none => true
def holdsE (L : List Ent) (A : List (Str × Int)) : Bool := L.all (inSide A)
theorem same_frz {H H' : Hp} {d : Addr} {u : HO} {od : Obj} (h : H d = some u) (s : Same H H') : Same (upd H d (.frz od u)) (upd H' d (.frz od u)) := fun b o e => by
  by_cases z : b = d
  · subst z
    rw [upd_same] at e ⊢
    exact e
  · rw [upd_ne z] at e ⊢
    exact s _ _ e
theorem take_all {α : Type} {L : List α} {i : Nat} {e : α} {p : α → Bool} (h : L[i]? = some e) : (L.take (i + 1)).all p = ((L.take i).all p && p e) := by
  rw [List.take_add_one, h, List.all_append]
  simp
theorem not_all {α : Type} {L : List α} {i : Nat} {e : α} {p : α → Bool} (h : L[i]? = some e) (q : p e = false) : L.all p = false := by
  rw [List.all_eq_false]
  exact ⟨e, List.mem_of_getElem? h, by simp [q]⟩
theorem Ax.frz {H : Hp} {v d : Addr} {A : List (Str × Int)} {u : HO} (B : Ax H v A) (h : v ≠ d) : Ax (upd H d u) v A := ⟨B.rd.elim (fun q => .inl (by rw [upd_ne h]; exact q)) fun ⟨o, q⟩ => .inr ⟨o, by rw [upd_ne h]; exact q⟩⟩
theorem entK_len (L : List Ent) : (entK L).length = L.length := by unfold entK; rw [List.length_map]
theorem items_at {L : List Ent} {i : Nat} {x1 x2 : V} (g1 : ((entK L)[i]?.map fun kv => kV kv.1) = some x1) (g2 : ((entK L)[i]?.map Prod.snd) = some x2) : ∃ e, L[i]? = some e ∧ x1 = .str e.1 ∧ x2 = .ref e.2.1 := by
  rw [entK_get] at g1 g2
  cases c : L[i]? with
  | none => rw [c] at g1; cases g1
  | some e => rw [c] at g1 g2; exact ⟨e, rfl, (Option.some.inj g1).symm, (Option.some.inj g2).symm⟩
theorem keys_at {L : List Ent} {i : Nat} {k : Key} {v : V} (h : (entK L)[i]? = some (k, v)) : ∃ e, L[i]? = some e ∧ k = .inr e.1 ∧ v = .ref e.2.1 := by
  rw [entK_get] at h
  obtain ⟨e, he, q⟩ := Option.map_eq_some_iff.mp h
  cases q
  exact ⟨e, he, rfl, rfl⟩
/-! ### box_within -/
end
/-- a new box with sides of its own -/
structure Nb (H0 H : Hp) (d : Addr) (L : List Ent) : Prop extends Bu H d L where
  fresh : H0 d = none
  freshS : ∀ e ∈ L, H0 e.2.1 = none
  inj : (L.map (·.2.1)).Nodup
theorem Nb.pull {H H0 H1 : Hp} {d : Addr} {L : List Ent} (N : Nb H0 H1 d L) (s : Same H H0) : Nb H H1 d L := ⟨N.toBu, s.free N.fresh, fun e he => s.free (N.freshS e he), N.inj⟩
theorem Nb.push {H0 H1 H2 : Hp} {d : Addr} {L : List Ent} (N : Nb H0 H1 d L) (s : Same H1 H2) : Nb H0 H2 d L := ⟨N.toBu.same' s, N.fresh, N.freshS, N.inj⟩
abbrev shape (L : List Ent) : List (Str × List Int) := L.map fun e => (e.1, e.2.2)
theorem look_shape : ∀ {L M : List Ent}, shape L = shape M → SameB L M
  | [], [], _, _ => rfl
  | [], _ :: _, h, _ => by cases h
  | _ :: _, [], h, _ => by cases h
  | e :: L, f :: M, h, x => by
    simp only [shape, List.map_cons, List.cons.injEq, Prod.mk.injEq] at h
    obtain ⟨⟨h1, h2⟩, h3⟩ := h
    have ih := look_shape (L := L) (M := M) h3 x
    unfold look at ih ⊢
    by_cases z : e.1 = x
    · rw [getE_pos z, getE_pos (h1 ▸ z)]
      exact congrArg some h2
    · rw [getE_neg z, getE_neg (fun q => z (h1.trans q))]
      exact ih
theorem shape_keys {L M : List Ent} (h : shape L = shape M) : L.map (·.1) = M.map (·.1) := by
  have q := congrArg (List.map Prod.fst) h
  unfold shape at q
  rw [List.map_map, List.map_map] at q
  exact q
theorem putE_new {L : List Ent} {x : Str} {a : Addr} {s : List Int} (h : x ∉ L.map (·.1)) : putE L x a s = L ++ [(x, a, s)] := if_neg fun z => h (any_iff.mp z)
theorem nd_snoc {α : Type} {l : List α} {x : α} (nd : l.Nodup) (h : x ∉ l) : (l ++ [x]).Nodup := by
  rw [List.nodup_append]
  exact ⟨nd, by simp, fun y hy z hz => by rw [List.mem_singleton.mp hz]; exact fun e => h (e ▸ hy)⟩
theorem dc_it {J : It} {n : Nat} {G : Hp → Prop} {Y : Nat → Hp → V → Hp → Prop} (w : Walk J n G Y) {g : TG} {tt : TT} {tk tv : TE} {vs : List Nat} {σ : L2.St} {H1 : Hp} {D : Addr} {Qd : Hp → Prop} (Pv : Nat → Hp → Prop) (start : Pv 0 (upd H1 D (.dK []))) (stays : ∀ i H, i ≤ n → Pv i H → G H)
    (turn : ∀ i x H H', i < n → Pv i H → Y i H x H' → g x (wipe σ vs) H' fun σ2 H2 => wipe σ2 vs = wipe σ vs ∧ tt σ2 H2 fun b H3 =>
      if b = true then tk σ2 H3 fun y H4 => tv σ2 H4 fun z H5 => ∃ kvs k, y = kV k ∧ H5 D = some (.dK kvs) ∧ kvs.length < sizeLine ∧ Pv (i + 1) (upd H5 D (.dK (putK kvs k z))) else Pv (i + 1) H3) (after : ∀ H, Pv n H → Qd H) :
    ∃ W : Nat → Nat → Hp → Prop, (∃ m, W 0 m (upd H1 D (.dK []))) ∧ ∀ i m H, W i m H →
      (J.stop i H ∧ Qd H) ∨ (J.go i H ∧ ∃ Nx : Hp → Prop, (∀ H', Nx H' → ∃ m', m' < m ∧ W (i + 1) m' H') ∧ ∀ x H', J.yld i H x H' → g x (wipe σ vs) H' fun σ2 H2 => wipe σ2 vs = wipe σ vs ∧ tt σ2 H2 fun b H3 =>
        if b = true then tk σ2 H3 fun y H4 => tv σ2 H4 fun z H5 => ∃ kvs k, y = kV k ∧ H5 D = some (.dK kvs) ∧ kvs.length < sizeLine ∧ Nx (upd H5 D (.dK (putK kvs k z))) else Nx H3) := by
  refine ⟨fun i m H => m = n - i ∧ i ≤ n ∧ Pv i H, ⟨n, rfl, Nat.zero_le _, start⟩, fun i m H h => ?_⟩
  obtain ⟨em, le, pv⟩ := h
  by_cases lt : i < n
  · exact .inr ⟨w.goes i H lt (stays i H le pv), Pv (i + 1), fun H' p => ⟨n - (i + 1), by omega, rfl, lt, p⟩, fun x H' y => turn i x H H' lt pv (w.yields i H x H' lt (stays i H le pv) y)⟩
  · obtain rfl : i = n := by omega
    exact .inl ⟨w.stops H (stays _ H le pv), after H pv⟩
section
variable {P : Program} {w : World} {K : PySem.W.Frag} {mg : Str → Option Value} {base : Heap}
abbrev rLst (K : PySem.W.Frag) : List V → Hp → VK → Prop := fun xs H Q => ∃ p ys, xs = [.ref p] ∧ (SqL K H p ys ∨ SqT K H p ys) ∧ ∀ l, H l = none → Q (.ref l) (upd H l (.lst ys))
def spCopy : Sp := fun vs H Q _ => ∃ (d : Addr) (L : List Ent), vs = [.ref d] ∧ Bu H d L ∧ ∀ (H' : Hp) (d' : Addr) (M : List Ent), Same H H' → Nb H H' d' M → shape M = shape L → Q (.ref d') H'
end
/-! ### what two sorted lists have together -/
def ins (k : Int) : List Int → List Int
  | [] => [k]
  | x :: l => if k < x then k :: x :: l else if k = x then x :: l else x :: ins k l
theorem ins_mem (k j : Int) : ∀ l : List Int, j ∈ ins k l ↔ j = k ∨ j ∈ l
  | [] => by simp [ins]
  | x :: l => by
    unfold ins
    by_cases a : k < x
    · rw [if_pos a]; simp
    · rw [if_neg a]
      by_cases b : k = x
      · rw [if_pos b, b]; simp
      · rw [if_neg b, List.mem_cons, ins_mem k j l, List.mem_cons]
        constructor
        · rintro (h | h | h)
          · exact .inr (.inl h)
          · exact .inl h
          · exact .inr (.inr h)
        · rintro (h | h | h)
          · exact .inr (.inl h)
          · exact .inl h
          · exact .inr (.inr h)
theorem ins_srt (k : Int) : ∀ l : List Int, Srt l → Srt (ins k l)
  | [], _ => List.pairwise_singleton _ _
  | x :: l, s => by
    obtain ⟨s1, s2⟩ := List.pairwise_cons.mp s
    unfold ins
    by_cases a : k < x
    · rw [if_pos a]
      refine List.pairwise_cons.mpr ⟨fun y hy => ?_, s⟩
      rcases List.mem_cons.mp hy with h | h
      · rw [h]; exact a
      · have := s1 y h; omega
    · rw [if_neg a]
      by_cases b : k = x
      · rw [if_pos b]; exact s
      · rw [if_neg b]
        refine List.pairwise_cons.mpr ⟨fun y hy => ?_, ins_srt k l s2⟩
        rcases (ins_mem k y l).mp hy with h | h
        · rw [h]; omega
        · exact s1 y h
theorem ins_len (k : Int) : ∀ l : List Int, (ins k l).length ≤ l.length + 1
  | [] => Nat.le_refl _
  | x :: l => by
    have := ins_len k l
    unfold ins
    split
    · simp
    · split
      · simp
      · simp only [List.length_cons]; omega
def uni (a b : List Int) : List Int := b.foldr ins a
theorem uni_mem (a : List Int) (j : Int) : ∀ b : List Int, j ∈ uni a b ↔ j ∈ a ∨ j ∈ b
  | [] => by simp [uni]
  | k :: b => by
    have ih := uni_mem a j b
    show j ∈ ins k (uni a b) ↔ _
    rw [ins_mem, ih, List.mem_cons]
    constructor
    · rintro (h | h | h)
      · exact .inr (.inl h)
      · exact .inl h
      · exact .inr (.inr h)
    · rintro (h | h | h)
      · exact .inr (.inl h)
      · exact .inl h
      · exact .inr (.inr h)
theorem uni_srt {a : List Int} (s : Srt a) : ∀ b : List Int, Srt (uni a b)
  | [] => s
  | k :: b => ins_srt k _ (uni_srt s b)
theorem uni_len (a : List Int) : ∀ b : List Int, (uni a b).length ≤ a.length + b.length
  | [] => Nat.le_refl _
  | k :: b => by
    have h1 := ins_len k (uni a b)
    have h2 := uni_len a b
    show (ins k (uni a b)).length ≤ a.length + (b.length + 1)
    omega
def both (a s : List Int) : List Int := a.filter fun k => decide (k ∈ s)
theorem both_srt {a s : List Int} (h : Srt a) : Srt (both a s) := List.Pairwise.filter _ h
theorem both_mem (a s : List Int) (k : Int) : k ∈ both a s ↔ k ∈ a ∧ k ∈ s := by
  unfold both
  rw [List.mem_filter, decide_eq_true_iff]
theorem look_snoc (L : List Ent) (e : Ent) (y : Str) (h : e.1 ∉ L.map (·.1)) : look (L ++ [e]) y = if y = e.1 then some e.2.2 else look L y := by
  unfold look
  rw [getE_app]
  by_cases z : y = e.1
  · rw [if_pos z, z, getE_none.mpr h, getE_pos rfl]
    rfl
  · rw [if_neg z, getE_neg (fun q => z q.symm), getE_nil]
    cases getE L y <;> rfl
theorem take_keys {L : List Ent} {i : Nat} {e : Ent} (nd : (L.map (·.1)).Nodup) (he : L[i]? = some e) : e.1 ∉ (L.take i).map (·.1) := by
  intro z
  obtain ⟨g, hg, eg⟩ := List.mem_map.mp z
  obtain ⟨j, hj⟩ := List.mem_iff_getElem?.mp hg
  rw [List.getElem?_take] at hj
  split at hj
  · rename_i hji
    have a1 : (L.map (·.1))[j]? = some e.1 := by rw [List.getElem?_map, hj]; exact congrArg some eg
    have a2 : (L.map (·.1))[i]? = some e.1 := by rw [List.getElem?_map, he]; rfl
    have := nd_ix nd a1 a2
    omega
  · cases hj
theorem look_take {L : List Ent} {i : Nat} {e : Ent} (nd : (L.map (·.1)).Nodup) (he : L[i]? = some e) (y : Str) : look (L.take (i + 1)) y = if y = e.1 then some e.2.2 else look (L.take i) y := by
  rw [List.take_add_one, he]
  exact look_snoc (L.take i) e y (take_keys nd he)
structure Sz (L : List Ent) (n : Nat) : Prop where
  srt : ∀ e ∈ L, Srt e.2.2
  len : ∀ e ∈ L, e.2.2.length ≤ n
theorem look_of {L : List Ent} {x : Str} {s : List Int} (h : look L x = some s) : ∃ e ∈ L, e.1 = x ∧ e.2.2 = s := by
  unfold look at h
  obtain ⟨e, he, q⟩ := Option.map_eq_some_iff.mp h
  obtain ⟨a, b⟩ := getE_mem he
  exact ⟨e, a, b, q⟩
/-- what a new box needs when one more side is put -/
theorem Nb.put {H0 H H3 : Hp} {d l : Addr} {M : List Ent} {x : Str} {s : List Int} (N : Nb H0 H d M) (n0 : H0 l = none) (nl : H l = none) (s3 : Same H H3) (el : H3 l = some (.lst (s.map V.int))) (few : M.length + 1 ≤ 40) :
    Nb H0 (upd H3 d (.dK (entK (putE M x l s)))) d (putE M x l s) := by
  have nld : l ≠ d := fun z => by rw [z, N.un] at nl; cases nl
  have sd : ∀ e ∈ putE M x l s, (upd H3 d (.dK (entK (putE M x l s)))) e.2.1 = some (.lst (e.2.2.map V.int)) := fun e he => by
    rcases putE_mem he with z | ⟨z, _⟩
    · rw [z, upd_ne nld]
      exact el
    · have h1 := N.sides e z
      have h2 : e.2.1 ≠ d := fun w => by rw [w, N.un] at h1; cases h1
      rw [upd_ne h2]
      exact s3 _ _ h1
  refine ⟨⟨⟨.inl upd_same, sd, putE_nd N.nd, by have := putE_len M x l s; omega⟩, upd_same⟩, N.fresh, fun e he => ?_, ?_⟩
  · rcases putE_mem he with z | ⟨z, _⟩
    · rw [z]; exact n0
    · exact N.freshS e z
  · have lM : l ∉ M.map (·.2.1) := fun w => by
      obtain ⟨g, hg, eg⟩ := List.mem_map.mp w
      have eg' : g.2.1 = l := eg
      have h1 := N.sides g hg
      rw [eg', nl] at h1
      cases h1
    unfold putE
    split
    · rw [List.map_map]
      have key : ∀ L : List Ent, (L.map (·.1)).Nodup → (L.map (·.2.1)).Nodup → l ∉ L.map (·.2.1) → (L.map ((fun e : Ent => e.2.1) ∘ fun e => if e.1 = x then (x, l, s) else e)).Nodup ∧ ∀ q ∈ L.map ((fun e : Ent => e.2.1) ∘ fun e => if e.1 = x then (x, l, s) else e), q ∈ L.map (·.2.1) ∨ (q = l ∧ x ∈ L.map (·.1)) := by
        intro L
        induction L with
        | nil => intro _ _ _; exact ⟨List.Pairwise.nil, fun q hq => by cases hq⟩
        | cons e L ih =>
          intro n1 n2 n3
          rw [List.map_cons, List.nodup_cons] at n1 n2
          rw [List.map_cons, List.mem_cons, not_or] at n3
          obtain ⟨i1, i2⟩ := ih n1.2 n2.2 n3.2
          rw [List.map_cons, List.nodup_cons]
          by_cases c : e.1 = x
          · have ef : ((fun e : Ent => e.2.1) ∘ fun e => if e.1 = x then (x, l, s) else e) e = l := by simp [c]
            rw [ef]
            refine ⟨⟨fun w => ?_, i1⟩, fun q hq => ?_⟩
            · rcases i2 l w with z | ⟨_, z⟩
              · exact n3.2 z
              · exact n1.1 (c ▸ z)
            · rcases List.mem_cons.mp hq with z | z
              · exact .inr ⟨z, by rw [List.map_cons, c]; exact List.mem_cons_self⟩
              · rcases i2 q z with y | ⟨y1, y2⟩
                · exact .inl (List.mem_cons_of_mem _ y)
                · exact .inr ⟨y1, List.mem_cons_of_mem _ y2⟩
          · have ef : ((fun e : Ent => e.2.1) ∘ fun e => if e.1 = x then (x, l, s) else e) e = e.2.1 := by simp [c]
            rw [ef]
            refine ⟨⟨fun w => ?_, i1⟩, fun q hq => ?_⟩
            · rcases i2 _ w with z | ⟨z, _⟩
              · exact n2.1 z
              · exact n3.1 z.symm
            · rcases List.mem_cons.mp hq with z | z
              · exact .inl (by rw [z]; exact List.mem_cons_self)
              · rcases i2 q z with y | ⟨y1, y2⟩
                · exact .inl (List.mem_cons_of_mem _ y)
                · exact .inr ⟨y1, List.mem_cons_of_mem _ y2⟩
      exact (key M N.nd N.inj lM).1
    · rw [List.map_append]
      exact nd_snoc N.inj lM
theorem Same.unl {H H' : Hp} {d : Addr} {u : HO} {od : Obj} (h : H d = some u) (s : Same (upd H d (.frz od u)) H') : Same H (upd H' d u) := unlock h s
/-- a new box behind a lock elsewhere -/
theorem Nb.unl {H0 H' : Hp} {b d : Addr} {u : HO} {M : List Ent} {od : Obj} (N : Nb H0 H' d M) (hb : H0 b = some u) (eF : H' b = some (.frz od u)) : Nb H0 (upd H' b u) d M := by
  have db : d ≠ b := fun z => by have := N.un; rw [z, eF] at this; cases this
  have away : ∀ g ∈ M, g.2.1 ≠ b := fun g hg z => by have := N.sides g hg; rw [z, eF] at this; cases this
  exact ⟨⟨⟨.inl (by rw [upd_ne db]; exact N.un), fun g hg => by rw [upd_ne (away g hg)]; exact N.sides g hg, N.nd, N.few⟩, by rw [upd_ne db]; exact N.un⟩, N.fresh, N.freshS, N.inj⟩
theorem Nb.lck {H0 H : Hp} {b d : Addr} {u : HO} {M : List Ent} {od : Obj} (N : Nb H0 H d M) (hb : H0 b ≠ none) : Nb H0 (upd H b (.frz od u)) d M := by
  have db : d ≠ b := fun z => hb (z ▸ N.fresh)
  have away : ∀ g ∈ M, g.2.1 ≠ b := fun g hg z => hb (z ▸ N.freshS g hg)
  exact ⟨⟨⟨.inl (by rw [upd_ne db]; exact N.un), fun g hg => by rw [upd_ne (away g hg)]; exact N.sides g hg, N.nd, N.few⟩, by rw [upd_ne db]; exact N.un⟩, N.fresh, N.freshS, N.inj⟩
section
variable {P : Program} {w : World} {K : PySem.W.Frag} {mg : Str → Option Value} {base : Heap}
end
theorem ne_some' {H : Hp} {p q : Addr} {o : HO} (h : H p = some o) (n : H q = none) : p ≠ q := fun e => by rw [e, n] at h; cases h
section
variable {P : Program} {w : World} {K : PySem.W.Frag} {mg : Str → Option Value} {base : Heap}
/-! ### the pool, a part of it -/
abbrev sPool : Stmt := topS 14
abbrev sPart : Stmt := topS 17
abbrev nPool : List Str := ["_law_stream_here", "_law_count", "_law_pool_here", "_law_k", "_law_scale", "_law_value"]
abbrev nPart : List Str := ["_law_stream_here", "_law_side", "_law_value"]
theorem scPool : FnScope nPool ["_law_stream_here", "_law_count"] (defScope sPool) := ⟨rfl, rfl, rfl, by decide +kernel, rfl, by decide +kernel, by decide +kernel⟩
theorem scPart : FnScope nPart ["_law_stream_here", "_law_side"] (defScope sPart) := ⟨rfl, rfl, rfl, by decide +kernel, rfl, by decide +kernel, by decide +kernel⟩
theorem srt_snoc {ss : List Int} {v : Int} (s : Srt ss) (h : ∀ k ∈ ss, k < v) : Srt (ss ++ [v]) :=
  List.pairwise_append.mpr ⟨s, List.pairwise_singleton _ _, fun a ha b hb => by rw [List.mem_singleton.mp hb]; exact h a ha⟩
def spPool : Sp := fun vs H Q _ => ∃ (p : Addr) (m : Nat), vs = [.ref p, .int (m : Int)] ∧ Strm H p ∧ 1 ≤ m ∧ m ≤ 100 ∧
  ∀ (H' : Hp) (l : Addr) (ns : List Int), Keep p H H' → H l = none → Strm H' p → H' l = some (.lst (ns.map V.int)) → Srt ns → ns.length = m → Q (.ref l) H'
theorem ok_pool {f fD : Addr} {fd fdD : FuncData} (F : Fun K "_law_pool" "_law_pool" sPool f fd) (B : Bt mg) (D : Call P w K mg base 1 "_law_next" fD fdD ["_law_stream_here", "_law_size"] spDraw) :
    FnOk P w K mg base CX0 2 f fd ["_law_stream_here", "_law_count"] spPool := by
  refine F.ok scPool (fun vs H Q E h => ?_) (fun cdv A outer s H vs Q E hr h => ?_)
  · obtain ⟨p, m, rfl, _⟩ := h
    rfl
  · obtain ⟨p, m, rfl, hp, m0, m1, q⟩ := h
    have nd := scPool.nd
    refine ⟨_, pss_cons (ps_set (i := 2) nd rfl (.inl rfl) (pe_lst (pa_cons (pe_op op_sub (pe_call D.ok hr (by rfl) D.at_ D.kp D.bd .nil pass0 (pa_cons (pv 0) (pa_cons pe_int pa_nil))) pe_int) pa_nil)))
      (pss_cons (ps_for PassesOwn.never rfl (pi_range1 (by rfl) B.range (pa_cons (pe_op op_sub (pv 1) pe_int) pa_nil)) (pg_name (i := 3) nd rfl (.inl rfl))
        (pss_one (ps_expr (pe_bm PySem.F.plainAttrs_list PySem.F.slot_list_append PySem.F.type_list_append mt_append (pv 2) (pa_cons
          (pe_op op_add (pe_op op_add (pe_ix ix_list (pv 2) (pv 3) (fun _ _ => rfl)) pe_int) (pe_op op_mul pe_int (pe_op op_fdiv (pe_call D.ok hr (by rfl) D.at_ D.kp D.bd .nil pass0 (pa_cons (pv 0) (pa_cons pe_int pa_nil))) pe_int))) pa_nil)))))
      (pss_cons (ps_set (i := 4) nd rfl (.inr rfl) (pe_ix ix_list (pe_lst (pa_cons pe_int (pa_cons pe_int (pa_cons pe_int (pa_cons pe_int (pa_cons pe_int (pa_cons pe_int (pa_cons pe_int (pa_cons (pe_op op_pow pe_int pe_int) pa_nil)))))))))
          (pe_call D.ok hr (by rfl) D.at_ D.kp D.bd .nil pass0 (pa_cons (pv 0) (pa_cons pe_int pa_nil))) (fun _ _ => rfl)))
      (pss_one (ps_ret (pe_lc (own := [("_law_value", 5)]) (g := gName 5) (tt := tYes) rfl nd (pi_list (pv 2)) (blkOk_by (N := nPool) (sc := defScope sPool) (by decide +kernel)) (fun _ _ _ _ _ => pg_name (i := 5) nd rfl (Or.inl rfl)) (fun _ _ _ _ _ => pts_nil)
        (fun _ _ _ _ _ => pe_op op_mul (pv 5) (pv 4))))))), ?_⟩
    refine ⟨.ref p, rfl, p, 9, rfl, hp, by decide, by decide, fun H1 d o1 st1 d0 d1 => ⟨d, 4, rfl, rfl, by show 1 ≤ sizeLine; decide, fun l nl1 => ?_⟩⟩
    have npl : p ≠ l := fun z => st1.some (z ▸ nl1)
    have nl : H l = none := by rw [← o1 l npl.symm]; exact nl1
    refine ⟨.int (m : Int), rfl, (m : Int), 1, rfl, rfl, (m : Int) - 1, rfl, by omega, by omega, for_range (lo := 0) (n := ((m : Int) - 1).toNat) (fun i σ H' => ∃ (y3 : Option V) (ns : List Int), σ = [some (.ref p), some (.int (m : Int)), some (.ref l), y3, none, none] ∧ Keep p H H' ∧ Strm H' p ∧ H' l = some (.lst (ns.map V.int)) ∧ Srt ns ∧ ns.length = i + 1 ∧ ∃ z, ns = ns.take i ++ [z])
      ⟨none, [d - 4], rfl, ((Keep.refl p H).oth o1).at_ nl, st1.upd npl, upd_same, List.pairwise_singleton _ _, rfl, d - 4, rfl⟩ ?_ ?_⟩
    · rintro i σ H' hi ⟨y3, ns, rfl, kp, st, el, so, len, z, ez⟩
      have gz : (ns.map V.int)[i]? = some (.int z) := by
        rw [ez, List.map_append, List.getElem?_append_right (by rw [List.length_map, List.length_take]; omega)]
        rw [List.length_map, List.length_take, show i - min i ns.length = 0 by omega]
        rfl
      refine ⟨.ref l, rfl, .inl ⟨rfl, _, sl_map el⟩, .ref l, rfl, .int (0 + (i : Int)), rfl, l, _, _, _, rfl, rfl, sl_map el, at_of (by omega) gz, z, 1, rfl, rfl, .ref p, rfl, p, 4, rfl, st, by decide, by decide, fun H2 e o2 st2 e0 e1 => ?_⟩
      refine ⟨e, 3, rfl, rfl, ⟨by decide, by decide⟩, 2, e / 3, rfl, rfl, .inl ⟨by decide, by decide⟩, z + 1, 2 * (e / 3), rfl, rfl, l, _, _, rfl, rfl, (o2 l npl.symm).trans el, ?_, ?_⟩
      · rw [List.length_map]
        exact small1000 (by omega)
      · have e3 : 0 ≤ e / 3 := Int.ediv_nonneg e0 (by decide)
        refine ⟨_, ns ++ [z + 1 + 2 * (e / 3)], rfl, (kp.oth o2).at_ nl, st2.upd npl, by rw [upd_same, List.map_append]; rfl, srt_snoc so fun k hk => ?_, by rw [List.length_append, len]; rfl, z + 1 + 2 * (e / 3), ?_⟩
        · rw [ez] at hk so
          rcases List.mem_append.mp hk with h | h
          · have := (List.pairwise_append.mp so).2.2 k h z (List.mem_singleton.mpr rfl)
            omega
          · have := List.mem_singleton.mp h
            omega
        · rw [List.take_append_of_le_length (by omega), List.take_of_length_le (by omega)]
    · rintro σ H' ⟨y3, ns, rfl, kp, st, el, so, len, z, ez⟩
      refine ⟨10, 9, rfl, rfl, ⟨by decide, by decide, by decide⟩, by show 8 ≤ sizeLine; decide, fun t nt => ?_⟩
      have npt : p ≠ t := fun e => st.some (e ▸ nt)
      have nlt : l ≠ t := ne_some' el nt
      refine ⟨.ref p, rfl, p, 8, rfl, st.upd npt, by decide, by decide, fun H2 e o2 st2 e0 e1 => ?_⟩
      have et : H2 t = some (.lst [V.int 1, V.int 1, V.int 1, V.int 1, V.int 1, V.int 1, V.int 7, V.int (10 ^ (9 : Int).toNat)]) := (o2 t npt.symm).trans upd_same
      obtain ⟨sc, hsc, sc0, sc1⟩ : ∃ sc : Int, atI [V.int 1, V.int 1, V.int 1, V.int 1, V.int 1, V.int 1, V.int 7, V.int (10 ^ (9 : Int).toNat)] e = some (.int sc) ∧ 0 < sc ∧ sc < 2 ^ 64 := by
        have : e = 0 ∨ e = 1 ∨ e = 2 ∨ e = 3 ∨ e = 4 ∨ e = 5 ∨ e = 6 ∨ e = 7 := by omega
        rcases this with h | h | h | h | h | h | h | h
        · exact ⟨_, by rw [h]; exact atI_nat (j := 0) rfl, by decide, by decide⟩
        · exact ⟨_, by rw [h]; exact atI_nat (j := 1) rfl, by decide, by decide⟩
        · exact ⟨_, by rw [h]; exact atI_nat (j := 2) rfl, by decide, by decide⟩
        · exact ⟨_, by rw [h]; exact atI_nat (j := 3) rfl, by decide, by decide⟩
        · exact ⟨_, by rw [h]; exact atI_nat (j := 4) rfl, by decide, by decide⟩
        · exact ⟨_, by rw [h]; exact atI_nat (j := 5) rfl, by decide, by decide⟩
        · exact ⟨_, by rw [h]; exact atI_nat (j := 6) rfl, by decide, by decide⟩
        · exact ⟨_, by rw [h]; exact atI_nat (j := 7) rfl, by decide, by decide⟩
      refine ⟨t, _, e, .int sc, rfl, rfl, sl_map et, hsc, ?_⟩
      have el2 : H2 l = some (.lst (ns.map V.int)) := by rw [o2 l npl.symm, upd_ne nlt]; exact el
      have kp2 : Keep p H H2 := (kp.at_ (kp.free st nt)).oth o2
      refine ⟨.ref l, rfl, l, rfl, ⟨_, sl_map el2⟩, fun R nR => lc_list (xs := ns.map V.int) (fun i H3 => Same H2 H3 ∧ H3 R = some (.lst (((ns.take i).map (· * sc)).map V.int))) ⟨same_new nR, upd_same⟩ (fun i H3 _ h => h.1.seq (sl_map el2)) ?_ ?_⟩
      · rintro i x H3 hx ⟨sm, eR⟩
        rw [List.getElem?_map] at hx
        obtain ⟨v, hv, rfl⟩ := Option.map_eq_some_iff.mp hx
        have hi := (List.getElem?_eq_some_iff.mp hv).1
        refine ⟨rfl, .int v, rfl, .int sc, rfl, v, sc, rfl, rfl, .inr ⟨by omega, by omega⟩, _, eR, ?_, same_at sm nR, ?_⟩
        · rw [List.length_map, List.length_map, List.length_take]
          exact small1000 (by omega)
        · rw [upd_same, List.take_add_one, hv, List.map_append, List.map_append]
          rfl
      · rintro H3 ⟨sm, eR⟩
        rw [List.length_map, List.take_length] at eR
        refine q H3 R _ (fun b u hb e => sm _ _ (kp2 b u hb e)) (kp2.free st2 nR) (st2.keep (Keep.same (p := R) sm) (fun z => st2.some (z ▸ nR))) eR ?_ ?_
        · unfold Srt
          rw [List.pairwise_map]
          exact so.imp fun h => Int.mul_lt_mul_of_pos_right h sc0
        · rw [List.length_map]
          omega
def spPart (K : PySem.W.Frag) : Sp := fun vs H Q _ => ∃ (p a : Addr) (ns : List Int), vs = [.ref p, .ref a] ∧ Strm H p ∧ H a = some (.lst (ns.map V.int)) ∧ p ≠ a ∧ ns.length ≤ 1000 ∧
  ∀ (H' : Hp) (l : Addr) (ms : List Int), Keep p H H' → H l = none → Strm H' p → H' l = some (.lst (ms.map V.int)) → ms.Sublist ns → Q (.ref l) H'
theorem ok_part {f fD : Addr} {fd fdD : FuncData} (F : Fun K "_law_part" "_law_part" sPart f fd) (B : Bt mg) (D : Call P w K mg base 1 "_law_next" fD fdD ["_law_stream_here", "_law_size"] spDraw) :
    FnOk P w K mg base CX0 2 f fd ["_law_stream_here", "_law_side"] (spPart K) := by
  refine F.ok scPart (fun vs H Q E h => ?_) (fun cdv A outer s H vs Q E hr h => ?_)
  · obtain ⟨p, a, ns, rfl, _⟩ := h
    rfl
  · obtain ⟨p, a, ns, rfl, hp, ha, pa, hl, q⟩ := h
    have nd := scPart.nd
    refine ⟨_, pss_one (ps_ret (pe_lc (own := [("_law_value", 2)]) (g := gName 2) (te := tVar 2) rfl nd (pi_list (pv 1)) (blkOk_by (N := nPart) (sc := defScope sPart) (by decide +kernel)) (fun _ _ _ _ _ => pg_name (i := 2) nd rfl (Or.inl rfl))
        (fun _ _ _ _ _ => pts_one (pt_cmpR op_gt (pe_call D.ok hr (by rfl) D.at_ D.kp D.bd .nil pass0 (pa_cons (pv 0) (pa_cons pe_int pa_nil))) pe_int (nomark _))) (fun _ _ _ _ _ => pv 2))), ?_⟩
    refine ⟨.ref a, rfl, a, rfl, ⟨_, sl_map ha⟩, fun D' nD => ?_⟩
    have npD : p ≠ D' := fun e => hp.some (e ▸ nD)
    have naD : a ≠ D' := ne_some' ha nD
    refine lc_list (xs := ns.map V.int) (fun i H' => Keep p H H' ∧ Strm H' p ∧ H' a = some (.lst (ns.map V.int)) ∧ ∃ ms : List Int, H' D' = some (.lst (ms.map V.int)) ∧ ms.Sublist (ns.take i)) ?_ ?_ ?_ ?_
    · exact ⟨(Keep.refl p H).at_ nD, hp.upd npD, by rw [upd_ne naD]; exact ha, [], upd_same, List.Sublist.refl _⟩
    · rintro i H' _ ⟨_, _, er, _⟩
      exact sl_map er
    · rintro i x H' hx ⟨kp, st, er, ms, eD, sub⟩
      rw [List.getElem?_map] at hx
      obtain ⟨v, hv, rfl⟩ := Option.map_eq_some_iff.mp hx
      have hi := (List.getElem?_eq_some_iff.mp hv).1
      have len := sub.length_le
      rw [List.length_take] at len
      refine ⟨rfl, .ref p, rfl, p, 3, rfl, st, by decide, by decide, fun H2 e o2 st2 e0 e1 => ?_⟩
      refine ⟨e, 0, rfl, rfl, _, rfl, ?_⟩
      have eD2 : H2 D' = some (.lst (ms.map V.int)) := (o2 D' npD.symm).trans eD
      have er2 : H2 a = some (.lst (ns.map V.int)) := (o2 a pa.symm).trans er
      have tk : ns.take (i + 1) = ns.take i ++ [v] := by
        rw [List.take_add_one, hv]
        rfl
      refine ite2 (fun _ => ?_) (fun _ => ?_)
      · refine ⟨.int v, rfl, _, eD2, ?_, (kp.oth o2).at_ nD, st2.upd npD, by rw [upd_ne naD]; exact er2, ms ++ [v], by rw [upd_same, List.map_append]; rfl, by rw [tk]; exact sub.append (List.Sublist.refl _)⟩
        rw [List.length_map]
        exact small1000 (by omega)
      · exact ⟨kp.oth o2, st2, er2, ms, eD2, by rw [tk]; exact sub.trans (List.sublist_append_left _ _)⟩
    · rintro H' ⟨kp, st, er, ms, eD, sub⟩
      rw [List.length_map, List.take_length] at sub
      exact q H' D' ms kp nD st eD sub
end
/-! ### names -/
def plainN : List Str := ["x", "yard", "z", "u", "wide_one", "q", "pp", "t"]
def lettersN : Str := "qwertyuiopasdfghjklzxcvbnm_zyx"
def digitsN : Str := "7305186429"
theorem plain_nodup : ((List.range 8).all fun s => decide (((List.range 8).map fun k => plainN.getD ((k * 3 + s) % 8) "x").Nodup)) = true := by decide +kernel
def isDig (c : Nat) : Bool := decide (48 ≤ c) && decide (c ≤ 57)
def mark (z : Str) : Option Nat := z.cps.toList.find? isDig
theorem letters_none : (lettersN.cps.toList.all fun c => !isDig c) = true := by decide +kernel
theorem digits_are : (digitsN.cps.toList.all isDig) = true := by decide +kernel
theorem digits_nodup : digitsN.cps.toList.Nodup := by decide +kernel
theorem digits_len : digitsN.cps.toList.length = 10 := by decide +kernel
theorem letters_len : lettersN.length = 30 := by decide +kernel
theorem cut_letters (lo hi : Option Int) : ∀ c ∈ (cutS lettersN lo hi).cps.toList, isDig c = false := fun c hc => by
  have h1 : c ∈ lettersN.cps.toList := by
    have : (cutS lettersN lo hi).cps.toList = (lettersN.cps.toList.drop (HT.sIx lettersN.length 0 lo)).take (HT.sIx lettersN.length lettersN.length hi - HT.sIx lettersN.length 0 lo) := by
      unfold cutS
      simp
    rw [this] at hc
    exact List.mem_of_mem_drop (List.mem_of_mem_take hc)
  have := List.all_eq_true.mp letters_none c h1
  simpa using this
theorem cut_len (lo hi : Option Int) : (cutS lettersN lo hi).length ≤ 30 := by
  have h : (cutS lettersN lo hi).cps.toList.length ≤ 30 := by
    unfold cutS
    simp only [List.toList_toArray]
    have l : lettersN.cps.toList.length = 30 := letters_len
    rw [List.length_take, List.length_drop]
    omega
  exact h
theorem mark_of (x t : Str) (c : Nat) (hx : ∀ d ∈ x.cps.toList, isDig d = false) (hc : isDig c = true) : mark (x ++ ⟨#[c]⟩ ++ t) = some c := by
  unfold mark
  have e : (x ++ ⟨#[c]⟩ ++ t).cps.toList = x.cps.toList ++ [c] ++ t.cps.toList := by
    show ((x.cps ++ #[c]) ++ t.cps).toList = _
    simp
  rw [e, List.append_assoc, List.find?_append]
  have : x.cps.toList.find? isDig = none := List.find?_eq_none.mpr fun d hd => by rw [hx d hd]; simp
  rw [this]
  show (([c] ++ t.cps.toList).find? isDig) = some c
  simp [hc]
theorem ok_of {x : Str} (h : ∀ c ∈ x.cps.toList, c < 0x110000) : PyData.strOk x = true := by
  unfold PyData.strOk
  rw [← Array.all_toList]
  exact List.all_eq_true.mpr fun c hc => decide_eq_true (h c hc)
theorem plain_ok : (plainN.all fun x => PyData.strOk x) = true := by decide +kernel
theorem letters_low : (lettersN.cps.toList.all fun c => decide (c < 0x110000)) = true := by decide +kernel
theorem digits_low : (digitsN.cps.toList.all fun c => decide (c < 0x110000)) = true := by decide +kernel
theorem cut_low (lo hi : Option Int) : ∀ c ∈ (cutS lettersN lo hi).cps.toList, c < 0x110000 := fun c hc => by
  have h1 : c ∈ lettersN.cps.toList := by
    have : (cutS lettersN lo hi).cps.toList = (lettersN.cps.toList.drop (HT.sIx lettersN.length 0 lo)).take (HT.sIx lettersN.length lettersN.length hi - HT.sIx lettersN.length 0 lo) := by
      unfold cutS
      simp
    rw [this] at hc
    exact List.mem_of_mem_drop (List.mem_of_mem_take hc)
  exact of_decide_eq_true (List.all_eq_true.mp letters_low c h1)
theorem name_ok (lo hi lo2 hi2 : Option Int) (c : Nat) (hc : c ∈ digitsN.cps.toList) : PyData.strOk (cutS lettersN lo hi ++ ⟨#[c]⟩ ++ cutS lettersN lo2 hi2) = true := ok_of fun d hd => by
  have e : (cutS lettersN lo hi ++ ⟨#[c]⟩ ++ cutS lettersN lo2 hi2).cps.toList = (cutS lettersN lo hi).cps.toList ++ [c] ++ (cutS lettersN lo2 hi2).cps.toList := by
    show (((cutS lettersN lo hi).cps ++ #[c]) ++ (cutS lettersN lo2 hi2).cps).toList = _
    simp
  rw [e] at hd
  rcases List.mem_append.mp hd with h | h
  · rcases List.mem_append.mp h with h | h
    · exact cut_low lo hi d h
    · rw [List.mem_singleton.mp h]
      exact of_decide_eq_true (List.all_eq_true.mp digits_low c hc)
  · exact cut_low lo2 hi2 d h
theorem str_one (c : Nat) : (⟨#[c]⟩ : Str).length = 1 := rfl
theorem len_app (x y : Str) : (x ++ y).length = x.length + y.length := by
  show (x.cps ++ y.cps).size = _
  exact Array.size_append
section
variable {P : Program} {w : World} {K : PySem.W.Frag} {mg : Str → Option Value} {base : Heap}
abbrev sNames : Stmt := topS 13
abbrev nNames : List Str := ["_law_stream_here", "_law_count", "_law_shift", "_law_plain", "_law_k", "_law_letters", "_law_names_here", "_law_at", "_law_size", "_law_tail"]
theorem scNames : FnScope nNames ["_law_stream_here", "_law_count"] (defScope sNames) := ⟨rfl, rfl, rfl, by decide +kernel, rfl, by decide +kernel, by decide +kernel⟩
def spNames : Sp := fun vs H Q _ => ∃ (p : Addr) (m : Nat), vs = [.ref p, .int (m : Int)] ∧ Strm H p ∧ m ≤ 8 ∧
  ∀ (H' : Hp) (l : Addr) (xs : List Str), Keep p H H' → H l = none → Strm H' p → H' l = some (.lst (xs.map V.str)) → xs.Nodup → xs.length = m → (∀ x ∈ xs, PyData.strOk x = true) → Q (.ref l) H'
theorem ok_names {f fD : Addr} {fd fdD : FuncData} (F : Fun K "_law_names" "_law_names" sNames f fd) (B : Bt mg) (D : Call P w K mg base 1 "_law_next" fD fdD ["_law_stream_here", "_law_size"] spDraw) :
    FnOk P w K mg base CX0 2 f fd ["_law_stream_here", "_law_count"] spNames := by
  refine F.ok scNames (fun vs H Q E h => ?_) (fun cdv A outer s H vs Q E hr h => ?_)
  · obtain ⟨p, m, rfl, _⟩ := h
    rfl
  · obtain ⟨p, m, rfl, hp, m8, q⟩ := h
    have nd := scNames.nd
    refine ⟨_, pss_cons (ps_if (pt_cmpR op_eq (pe_call D.ok hr (by rfl) D.at_ D.kp D.bd .nil pass0 (pa_cons (pv 0) (pa_cons pe_int pa_nil))) pe_int (nomark _))
        (pss_cons (ps_set (i := 2) nd rfl (.inr rfl) (pe_call D.ok hr (by rfl) D.at_ D.kp D.bd .nil pass0 (pa_cons (pv 0) (pa_cons pe_int pa_nil))))
        (pss_cons (ps_set (i := 3) nd rfl (.inr rfl) (pe_lst (pa_cons pe_str (pa_cons pe_str (pa_cons pe_str (pa_cons pe_str (pa_cons pe_str (pa_cons pe_str (pa_cons pe_str (pa_cons pe_str pa_nil))))))))))
        (pss_one (ps_ret (pe_lc (own := [("_law_k", 4)]) (g := gName 4) (tt := tYes) rfl nd (pi_range1 (by rfl) B.range (pa_cons (pv 1) pa_nil)) (blkOk_by (N := nNames) (sc := defScope sNames) (by decide +kernel)) (fun _ _ _ _ _ => pg_name (i := 4) nd rfl (Or.inl rfl)) (fun _ _ _ _ _ => pts_nil)
          (fun _ _ _ _ _ => pe_ix (r := rIxL K) ix_list (pv 3) (pe_op op_mod (pe_callTy call_int1 (by rfl) B.int PyProof.Rows.boot_int (pa_cons (pe_op op_add (pe_op op_mul (pv 4) pe_int) (pv 2)) pa_nil)) pe_int) (fun _ _ => rfl))))))) pss_nil)
      (pss_cons (ps_set (i := 5) nd rfl (.inl rfl) pe_str)
      (pss_cons (ps_set (i := 6) nd rfl (.inl rfl) (pe_lst pa_nil))
      (pss_cons (ps_for PassesOwn.never rfl (pi_range1 (by rfl) B.range (pa_cons (pv 1) pa_nil)) (pg_name (i := 4) nd rfl (.inl rfl))
        (pss_cons (ps_set (i := 7) nd rfl (.inl rfl) (pe_call D.ok hr (by rfl) D.at_ D.kp D.bd .nil pass0 (pa_cons (pv 0) (pa_cons pe_int pa_nil))))
        (pss_cons (ps_set (i := 8) nd rfl (.inl rfl) (pe_op op_add pe_int (pe_call D.ok hr (by rfl) D.at_ D.kp D.bd .nil pass0 (pa_cons (pv 0) (pa_cons pe_int pa_nil)))))
        (pss_cons (ps_set (i := 9) nd rfl (.inl rfl) (pe_slice sl_str (pv 5) (po_some (pe_op op_sub pe_int (pe_call D.ok hr (by rfl) D.at_ D.kp D.bd .nil pass0 (pa_cons (pv 0) (pa_cons pe_int pa_nil))))) (po_some pe_int)))
        (pss_one (ps_expr (pe_bm PySem.F.plainAttrs_list PySem.F.slot_list_append PySem.F.type_list_append mt_append (pv 6) (pa_cons
          (pe_op op_add_str (pe_op op_add_str (pe_slice sl_str (pv 5) (po_some (pv 7)) (po_some (pe_op op_add (pv 7) (pv 8)))) (pe_ix ix_str pe_str (pv 4) (fun _ _ => rfl))) (pv 9)) pa_nil))))))))
      (pss_one (ps_ret (pv 6)))))), ?_⟩
    refine ⟨.ref p, rfl, p, 3, rfl, hp, by decide, by decide, fun H1 d o1 st1 d0 d1 => ⟨rfl, _, rfl, ite2 (fun c => ?_) (fun c => ?_)⟩⟩
    · -- the plain names
      refine ⟨.ref p, rfl, p, 8, rfl, st1, by decide, by decide, fun H2 s o2 st2 s0 s1 => ?_⟩
      refine ⟨by show 8 ≤ sizeLine; decide, fun pl npl => ?_⟩
      have npp : p ≠ pl := fun z => st2.some (z ▸ npl)
      have epl : (upd H2 pl (.lst (plainN.map V.str))) pl = some (.lst (plainN.map V.str)) := upd_same
      refine ⟨.int (m : Int), rfl, (m : Int), rfl, by omega, by omega, fun R nR => ?_⟩
      have fin : ∀ k : Nat, k < m → (plainN.map V.str)[(k * 3 + s.toNat) % 8]? = some (.str (plainN.getD ((k * 3 + s.toNat) % 8) "x")) := fun k hk => by
        have : (k * 3 + s.toNat) % 8 < plainN.length := Nat.mod_lt _ (by decide)
        rw [List.getElem?_map, List.getD_eq_getElem?_getD, List.getElem?_eq_getElem this]
        rfl
      refine lc_range (lo := 0) (fun i H' => Same (upd H2 pl (.lst (plainN.map V.str))) H' ∧ H' R = some (.lst (((List.range i).map fun k => plainN.getD ((k * 3 + s.toNat) % 8) "x").map V.str))) ⟨same_new nR, upd_same⟩ ?_ ?_
      · rintro i H' hi ⟨sm, eR⟩
        have hi' : i < m := by omega
        refine ⟨rfl, .ref pl, rfl, .int (0 + (i : Int)), rfl, 0 + (i : Int), 3, rfl, rfl, .inr ⟨by decide, by decide⟩, .int s, rfl, (0 + (i : Int)) * 3, s, rfl, rfl, .inl ⟨_, rfl, (0 + (i : Int)) * 3 + s, 8, rfl, rfl, ?_, ?_⟩⟩
        · show (0 : Int) < 8
          decide
        · refine ⟨pl, _, _, _, rfl, rfl, sl_map (sm _ _ epl), at_of (j := (i * 3 + s.toNat) % 8) (by omega) (fin i hi'), _, eR, ?_, same_at sm nR, ?_⟩
          · rw [List.length_map, List.length_map, List.length_range]
            exact small1000 (by omega)
          · rw [upd_same, List.range_succ, List.map_append, List.map_append]
            rfl
      · rintro H' ⟨sm, eR⟩
        have smH : Keep p H2 H' := fun b u hb e => sm _ _ (by rw [upd_ne (ne_of_none e npl)]; exact e)
        have nR2 : H2 R = none := (same_new npl).free nR
        have st' : Strm H' p := by
          obtain ⟨x, y, z, e⟩ := st2
          exact ⟨x, y, z, sm _ _ (by rw [upd_ne npp]; exact e)⟩
        refine q H' R _ ((((Keep.refl p H).oth o1).oth o2).trans smH) ((((Keep.refl p H).oth o1).oth o2).free st2 nR2) st' eR ?_ ?_ ?_
        · have h8 := List.all_eq_true.mp plain_nodup s.toNat (List.mem_range.mpr (by omega))
          have h9 := of_decide_eq_true h8
          have e8 : (List.range (m : Int).toNat) = (List.range 8).take m := by
            rw [List.take_range, show min m 8 = (m : Int).toNat by omega]
          rw [e8, List.map_take]
          exact List.Pairwise.sublist (List.take_sublist _ _) h9
        · rw [List.length_map, List.length_range]
          omega
        · intro x hx
          obtain ⟨k, _, rfl⟩ := List.mem_map.mp hx
          have lt : (k * 3 + s.toNat) % 8 < plainN.length := Nat.mod_lt _ (by decide)
          rw [List.getD_eq_getElem?_getD, List.getElem?_eq_getElem lt]
          exact List.all_eq_true.mp plain_ok _ (List.getElem_mem lt)
    · -- letters, a digit, letters
      refine ⟨Nat.zero_le _, fun l nl1 => ?_⟩
      have npl : p ≠ l := fun z => st1.some (z ▸ nl1)
      have nl : H l = none := by rw [← o1 l npl.symm]; exact nl1
      refine ⟨.int (m : Int), rfl, (m : Int), rfl, by omega, by omega, for_range (lo := 0) (n := ((m : Int)).toNat) (fun i σ H' => ∃ (y4 y7 y8 y9 : Option V) (xs : List Str), σ = [some (.ref p), some (.int (m : Int)), none, none, y4, some (.str lettersN), some (.ref l), y7, y8, y9] ∧ Keep p H H' ∧ Strm H' p ∧ H' l = some (.lst (xs.map V.str)) ∧ xs.length = i ∧ (∀ x ∈ xs, PyData.strOk x = true) ∧ ∀ j x, xs[j]? = some x → mark x = digitsN.cps.toList[j]?)
        ⟨none, none, none, none, [], rfl, ((Keep.refl p H).oth o1).at_ nl, st1.upd npl, upd_same, rfl, (fun _ h => nomatch h), fun j x h => absurd ((List.getElem?_nil (α := Str) (i := j)).symm.trans h) (by simp)⟩ ?_ ?_⟩
      · rintro i σ H' hi ⟨y4, y7, y8, y9, xs, rfl, kp, st, el, len, sok, mk⟩
        have hi' : i < m := by omega
        refine ⟨.ref p, rfl, p, 26, rfl, st, by decide, by decide, fun H2 a o2 st2 a0 a1 => ?_⟩
        refine ⟨.ref p, rfl, p, 3, rfl, st2, by decide, by decide, fun H3 b o3 st3 b0 b1 => ⟨1, b, rfl, rfl, ?_⟩⟩
        refine ⟨_, rfl, .ref p, rfl, p, 3, rfl, st3, by decide, by decide, fun H4 t o4 st4 t0 t1 => ⟨26, t, rfl, rfl, _, rfl, 26, rfl, lettersN, rfl, by decide +kernel, ?_⟩⟩
        have el4 : H4 l = some (.lst (xs.map V.str)) := by rw [o4 l npl.symm, o3 l npl.symm, o2 l npl.symm]; exact el
        have hd : i < digitsN.cps.toList.length := by rw [digits_len]; omega
        have gd : digitsN.cps.toList[i]? = some digitsN.cps.toList[i] := List.getElem?_eq_getElem hd
        refine ⟨.ref l, rfl, .inl ⟨rfl, _, sl_map el4⟩, _, rfl, .int a, rfl, a, rfl, .int a, rfl, _, rfl, a, _, rfl, rfl, _, rfl, lettersN, rfl, by decide +kernel, .int (0 + (i : Int)), rfl, digitsN, _, digitsN.cps.toList[i], rfl, rfl, by decide +kernel, (by rw [show (0 : Int) + (i : Int) = ((i : Nat) : Int) by omega]; exact atI_nat gd), _, _, rfl, rfl, ?_, _, rfl, _, _, rfl, rfl, ?_, l, _, _, rfl, rfl, el4, ?_, ?_⟩
        · exact by have := cut_len (some a) (some (a + (1 + b))); rw [str_one]; exact Nat.le_trans (Nat.add_le_add_right this 1) (by decide)
        · exact by have := cut_len (some a) (some (a + (1 + b))); have h2 := cut_len (some (26 - t)) (some 26); rw [len_app, str_one]; exact Nat.le_trans (Nat.add_le_add (Nat.add_le_add_right this 1) h2) (by decide)
        · rw [List.length_map]
          exact small1000 (by omega)
        · have dg : isDig digitsN.cps.toList[i] = true := List.all_eq_true.mp digits_are _ (List.getElem_mem hd)
          refine ⟨_, _, _, _, xs ++ [cutS lettersN (some a) (some (a + (1 + b))) ++ ⟨#[digitsN.cps.toList[i]]⟩ ++ cutS lettersN (some (26 - t)) (some 26)], rfl, (((kp.oth o2).oth o3).oth o4).at_ nl, st4.upd npl, ?_, ?_, ?_, ?_⟩
          · rw [upd_same, List.map_append]
            rfl
          · rw [List.length_append, len]
            rfl
          · intro x hx
            rcases List.mem_append.mp hx with h | h
            · exact sok x h
            · rw [List.mem_singleton.mp h]
              exact name_ok _ _ _ _ _ (List.getElem_mem hd)
          · intro j x hj
            rcases Nat.lt_or_ge j i with c | c
            · rw [List.getElem?_append_left (by omega)] at hj
              exact mk j x hj
            · rw [List.getElem?_append_right (by omega)] at hj
              have ej : j = i := by
                have := (List.getElem?_eq_some_iff.mp hj).1
                rw [List.length_singleton] at this
                omega
              subst ej
              rw [show j - xs.length = 0 by omega] at hj
              have : _ = x := Option.some.inj hj
              rw [← this, gd]
              exact mark_of _ _ _ (cut_letters _ _) dg
      · rintro σ H' ⟨y4, y7, y8, y9, xs, rfl, kp, st, el, len, sok, mk⟩
        refine ⟨_, rfl, q H' l xs kp nl st el ?_ (by omega) sok⟩
        refine List.pairwise_iff_getElem.mpr fun j k hj hk hjk he => ?_
        have e1 := mk j _ (List.getElem?_eq_getElem hj)
        have e2 := mk k _ (List.getElem?_eq_getElem hk)
        rw [he] at e1
        have hk' : k < digitsN.cps.toList.length := by rw [digits_len]; omega
        have hj' : j < digitsN.cps.toList.length := by rw [digits_len]; omega
        have e3 := e1.symm.trans e2
        rw [List.getElem?_eq_getElem hj', List.getElem?_eq_getElem hk'] at e3
        exact List.pairwise_iff_getElem.mp digits_nodup j k hj' hk' hjk (Option.some.inj e3)
end
section
variable {P : Program} {w : World} {K : PySem.W.Frag} {mg : Str → Option Value} {base : Heap}
/-! ### a copy, by a loop -/
abbrev nCopied : List Str := ["_law_sides", "_law_copied_here", "_law_name"]
theorem Nb.nil {H H' : Hp} {D : Addr} (n : H D = none) (h : H' D = some (.dK [])) : Nb H H' D [] := ⟨⟨⟨.inl h, (fun _ he => nomatch he), .nil, Nat.zero_le _⟩, h⟩, n, (fun _ he => nomatch he), .nil⟩
theorem shape_len {L M : List Ent} (h : shape L = shape M) : L.length = M.length := by have := congrArg List.length h; simpa [shape] using this
theorem shape_take {L M : List Ent} {i : Nat} {e : Ent} {l : Addr} (h : shape M = shape (L.take i)) (he : L[i]? = some e) : shape (M ++ [(e.1, l, e.2.2)]) = shape (L.take (i + 1)) := by
  rw [List.take_add_one, he]
  unfold shape at h ⊢
  rw [List.map_append, List.map_append, h]
  rfl
/-! ### _law_holds, _law_within, _law_is -/
end
theorem Nb.alias {H0 H : Hp} {d l : Addr} {M : List Ent} {x : Str} {s : List Int} (N : Nb H0 H d M) (n0 : H0 l = none) (el : H l = some (.lst (s.map V.int))) (nx : x ∉ M.map (·.1)) (nl : l ∉ M.map (·.2.1)) (few : M.length + 1 ≤ 40) :
    Nb H0 (upd H d (.dK (entK (M ++ [(x, l, s)])))) d (M ++ [(x, l, s)]) := by
  have ld : ∀ {c : Addr} {ys : List V}, H c = some (.lst ys) → c ≠ d := fun h z => by rw [z, N.un] at h; cases h
  refine ⟨⟨⟨.inl upd_same, fun e he => ?_, ?_, by rw [List.length_append]; exact few⟩, upd_same⟩, N.fresh, fun e he => ?_, ?_⟩
  · rcases List.mem_append.mp he with z | z
    · have h1 := N.sides e z
      rw [upd_ne (ld h1)]
      exact h1
    · rw [List.mem_singleton.mp z, upd_ne (ld el)]
      exact el
  · rw [List.map_append]
    exact nd_snoc N.nd nx
  · rcases List.mem_append.mp he with z | z
    · exact N.freshS e z
    · rw [List.mem_singleton.mp z]; exact n0
  · rw [List.map_append]
    exact nd_snoc N.inj nl
theorem Nb.unl' {H0 H' : Hp} {b d : Addr} {u : HO} {M : List Ent} {od : Obj} (N : Nb H0 H' d M) (eF : H' b = some (.frz od u)) : Nb H0 (upd H' b u) d M := by
  have db : d ≠ b := fun z => by have := N.un; rw [z, eF] at this; cases this
  have away : ∀ g ∈ M, g.2.1 ≠ b := fun g hg z => by have := N.sides g hg; rw [z, eF] at this; cases this
  exact ⟨⟨⟨.inl (by rw [upd_ne db]; exact N.un), fun g hg => by rw [upd_ne (away g hg)]; exact N.sides g hg, N.nd, N.few⟩, by rw [upd_ne db]; exact N.un⟩, N.fresh, N.freshS, N.inj⟩
section
variable {P : Program} {w : World} {K : PySem.W.Frag} {mg : Str → Option Value} {base : Heap}
end
/-- all that was there, but what stands at one of these -/
def KeepL (as : List Addr) (H H' : Hp) : Prop := ∀ b o, b ∉ as → H b = some o → H' b = some o
theorem KeepL.refl (as : List Addr) (H : Hp) : KeepL as H H := fun _ _ _ e => e
theorem KeepL.same {as : List Addr} {H H1 H2 : Hp} (k : KeepL as H H1) (s : Same H1 H2) : KeepL as H H2 := fun b o h e => s _ _ (k b o h e)
theorem KeepL.trans {as : List Addr} {H H1 H2 : Hp} (k : KeepL as H H1) (s : KeepL as H1 H2) : KeepL as H H2 := fun b o h e => s b o h (k b o h e)
abbrev big : Int := 10 ^ (13 : Int).toNat
def grown (ks : List Str) (e : Ent) : List Int := if e.1 ∈ ks then e.2.2 ++ [big] else e.2.2
theorem SameB.get {L M : List Ent} (s : SameB L M) {e : Ent} (nd : (M.map (·.1)).Nodup) (h : e ∈ M) : ∃ t ∈ L, t.1 = e.1 ∧ t.2.2 = e.2.2 ∧ getE L e.1 = some t := by
  have q := s e.1
  rw [look_mem nd h] at q
  unfold look at q
  obtain ⟨t, ht, eq⟩ := Option.map_eq_some_iff.mp q
  obtain ⟨m1, m2⟩ := getE_mem ht
  exact ⟨t, m1, m2, eq, ht⟩
theorem inj_eq {L : List Ent} (nd : (L.map (·.2.1)).Nodup) {e g : Ent} (he : e ∈ L) (hg : g ∈ L) (h : e.2.1 = g.2.1) : e = g := by
  obtain ⟨i, hi⟩ := List.mem_iff_getElem?.mp he
  obtain ⟨j, hj⟩ := List.mem_iff_getElem?.mp hg
  have a1 : (L.map (·.2.1))[i]? = some e.2.1 := by rw [List.getElem?_map, hi]; rfl
  have a2 : (L.map (·.2.1))[j]? = some e.2.1 := by rw [List.getElem?_map, hj, h]; rfl
  have := nd_ix nd a1 a2
  subst this
  exact Option.some.inj (hi.symm.trans hj)
theorem key_eq {L : List Ent} (nd : (L.map (·.1)).Nodup) {e g : Ent} (he : e ∈ L) (hg : g ∈ L) (h : e.1 = g.1) : e = g := by
  have a := getE_of nd he
  rw [h, getE_of nd hg] at a
  exact (Option.some.inj a).symm
section
variable {P : Program} {w : World} {K : PySem.W.Frag} {mg : Str → Option Value} {base : Heap}
abbrev nLNew : List Str := ["_law_told", "_law_expected", "_law_name"]
def spLNew : Sp := fun vs H Q _ => ∃ (t e : Addr) (T E : List Ent), vs = [.ref t, .ref e] ∧ Bu H t T ∧ (T.map (·.2.1)).Nodup ∧ Bu H e E ∧ SameB T E ∧ (∀ x ∈ E, x.2.1 ∉ T.map (·.2.1)) ∧ t ≠ e ∧ (∀ x ∈ E, x.2.2.length ≤ 100) ∧
  ∀ H', KeepL (T.map (·.2.1)) H H' → Q (.bl true) H'
end
section
variable {P : Program} {w : World} {K : PySem.W.Frag} {mg : Str → Option Value} {base : Heap}
abbrev nSame : List Str := ["_law_actual", "_law_expected", "_law_found", "_law_name"]
def spSame : Sp := fun vs H Q _ => ∃ (a e : Addr) (M E : List Ent), vs = [.ref a, .ref e] ∧ Bu H a M ∧ Bu H e E ∧ SameB M E ∧ (∀ g ∈ M, Srt g.2.2 ∧ g.2.2.length ≤ 1000) ∧ ∀ H', Same H H' → Q (.bl true) H'
end
theorem cutV_to (xs : List V) (j : Nat) : cutV xs none (some (j : Int)) = xs.take j := by
  unfold cutV
  rw [HT.sIx_none, HT.sIx_nat, List.drop_zero, Nat.sub_zero]
  by_cases h : j ≤ xs.length
  · rw [Nat.min_eq_left h]
  · rw [Nat.min_eq_right (by omega), List.take_of_length_le (Nat.le_refl _), List.take_of_length_le (by omega)]
theorem cutV_from (xs : List V) (j : Nat) : cutV xs (some (j : Int)) none = xs.drop j := by
  unfold cutV
  rw [HT.sIx_none, HT.sIx_nat]
  by_cases h : j ≤ xs.length
  · rw [Nat.min_eq_left h, List.take_of_length_le (by rw [List.length_drop]; exact Nat.le_refl _)]
  · rw [Nat.min_eq_right (by omega), List.drop_length, List.drop_of_length_le (by omega)]
    simp
theorem Nb.keep {H0 H H' : Hp} {p d : Addr} {M : List Ent} (N : Nb H0 H d M) (hp : H0 p ≠ none) (k : Keep p H H') : Nb H0 H' d M := by
  have pd : d ≠ p := fun z => hp (z ▸ N.fresh)
  have away : ∀ g ∈ M, g.2.1 ≠ p := fun g hg z => hp (z ▸ N.freshS g hg)
  exact ⟨⟨⟨.inl (k _ _ pd N.un), fun g hg => k _ _ (away g hg) (N.sides g hg), N.nd, N.few⟩, k _ _ pd N.un⟩, N.fresh, N.freshS, N.inj⟩
theorem Bu.keep {H H' : Hp} {p d : Addr} {M : List Ent} (N : Bu H d M) (s : Strm H p) (k : Keep p H H') (away : ∀ g ∈ M, g.2.1 ≠ p) : Bu H' d M := by
  have pd : d ≠ p := fun z => by
    obtain ⟨x, y, w, e⟩ := s
    have := N.un
    rw [z, e] at this
    cases this
  exact ⟨⟨.inl (k _ _ pd N.un), fun g hg => k _ _ (away g hg) (N.sides g hg), N.nd, N.few⟩, k _ _ pd N.un⟩
theorem with_rest2 {R : Hp → Prop} {G : Prop} (C : Hp → Prop) (r : ∀ H, C H → R H) (g : (∀ H, C H → R H) → G) : G := g r
section
variable {P : Program} {w : World} {K : PySem.W.Frag} {mg : Str → Option Value} {base : Heap}
end
theorem with_rest {R G : Prop} (r : R) (g : R → G) : G := g r
theorem Bu.aput {H : Hp} {d l : Addr} {M : List Ent} {x : Str} {s : List Int} (B : Bu H d M) (el : H l = some (.lst (s.map V.int))) (few : M.length + 1 ≤ 40) : Bu (upd H d (.dK (entK (putE M x l s)))) d (putE M x l s) := by
  have ld : ∀ {c : Addr} {ys : List V}, H c = some (.lst ys) → c ≠ d := fun h z => by rw [z, B.un] at h; cases h
  refine ⟨⟨.inl upd_same, fun e he => ?_, putE_nd B.nd, by have := putE_len M x l s; omega⟩, upd_same⟩
  rcases putE_mem he with z | ⟨z, _⟩
  · rw [z, upd_ne (ld el)]
    exact el
  · have h1 := B.sides e z
    rw [upd_ne (ld h1)]
    exact h1
section
variable {P : Program} {w : World} {K : PySem.W.Frag} {mg : Str → Option Value} {base : Heap}
end
theorem small10k {n : Nat} (h : n ≤ 10000) : n < sizeLine := Nat.lt_of_le_of_lt h (by decide)
section
variable {P : Program} {w : World} {K : PySem.W.Frag} {mg : Str → Option Value} {base : Heap}
end
/-! ### equal boxes, deep -/
theorem paired_flat {K : PySem.W.Frag} {H : Hp} {n : Nat} : ∀ xs : List V, (∀ x ∈ xs, flatB x = true) → Paired (EqV K H (n + 1)) xs xs
  | [], _ => .nil
  | x :: xs, h => .cons (.inl ⟨rfl, h x List.mem_cons_self⟩) (paired_flat xs fun y hy => h y (List.mem_cons_of_mem _ hy))
theorem eqL {K : PySem.W.Frag} {H : Hp} {a b : Addr} {ns : List Int} (ha : H a = some (.lst (ns.map V.int))) (hb : H b = some (.lst (ns.map V.int))) : EqV K H 2 (.ref a) (.ref b) :=
  .inr (.inr (.inl ⟨a, b, _, _, rfl, rfl, sl_map ha, sl_map hb, paired_flat _ fun x hx => by obtain ⟨k, _, rfl⟩ := List.mem_map.mp hx; rfl⟩))
theorem eqB {K : PySem.W.Frag} {H : Hp} {d e : Addr} {M X : List Ent} (bd : Bu H d M) (be : Bu H e X) (s : SameB M X) : EqR K H (EqV K H 2) (.ref d) (.ref e) := by
  refine .inr ⟨d, e, _, _, rfl, rfl, bd.un, be.un, by rw [entK_len, entK_len]; exact s.len bd.nd be.nd, fun p hp => ?_⟩
  unfold entK at hp
  obtain ⟨g, hg, rfl⟩ := List.mem_map.mp hp
  have s' : SameB X M := fun x => (s x).symm
  obtain ⟨t, tm, t1, t2, t3⟩ := s'.get bd.nd hg
  refine ⟨.ref t.2.1, ?_, ?_⟩
  · show valV (entK X) (Sum.inr g.1) = _
    rw [valV_ent, t3]
    rfl
  · have h1 := be.sides t tm
    rw [t2] at h1
    exact eqL (bd.sides g hg) h1
theorem shape_same {L M : List Ent} (h : shape L = shape M) : SameB L M := look_shape h
theorem Sz.look {L : List Ent} {n : Nat} (z : Sz L n) {x : Str} {s : List Int} (h : look L x = some s) : Srt s ∧ s.length ≤ n := by
  obtain ⟨e, em, _, rfl⟩ := look_of h
  exact ⟨z.srt e em, z.len e em⟩
theorem sides_ok {M : List Ent} {n : Nat} (nd : (M.map (·.1)).Nodup) (f : Str → Option (List Int)) (h : ∀ x, look M x = f x) (ok : ∀ x s, f x = some s → Srt s ∧ s.length ≤ n) : Sz M n :=
  ⟨fun e he => (ok e.1 _ ((h e.1).symm.trans (look_mem nd he))).1, fun e he => (ok e.1 _ ((h e.1).symm.trans (look_mem nd he))).2⟩
theorem Sz.shape {L M : List Ent} {n : Nat} (z : Sz L n) (h : shape M = shape L) : Sz M n := by
  have q : ∀ e ∈ M, ∃ g ∈ L, g.2.2 = e.2.2 := fun e he => by
    have : (e.1, e.2.2) ∈ K5.shape L := h ▸ List.mem_map_of_mem (f := fun e : Ent => (e.1, e.2.2)) he
    obtain ⟨g, hg, eq⟩ := List.mem_map.mp this
    exact ⟨g, hg, (Prod.mk.inj eq).2⟩
  refine ⟨fun e he => ?_, fun e he => ?_⟩
  · obtain ⟨g, hg, eq⟩ := q e he
    exact eq ▸ z.srt g hg
  · obtain ⟨g, hg, eq⟩ := q e he
    exact eq ▸ z.len g hg
/-- what a change of fresh sides leaves -/
theorem keepL_same {H0 H1 H2 : Hp} {as : List Addr} (s : Same H0 H1) (k : KeepL as H1 H2) (f : ∀ a ∈ as, H0 a = none) : Same H0 H2 := fun b o e => k b o (fun z => by rw [f b z] at e; cases e) (s _ _ e)
theorem Bu.keepL {H H' : Hp} {d : Addr} {M : List Ent} {as : List Addr} (B : Bu H d M) (k : KeepL as H H') (h1 : d ∉ as) (h2 : ∀ e ∈ M, e.2.1 ∉ as) : Bu H' d M :=
  ⟨⟨.inl (k _ _ h1 B.un), fun e he => k _ _ (h2 e he) (B.sides e he), B.nd, B.few⟩, k _ _ h1 B.un⟩
theorem not_side {H : Hp} {d : Addr} {as : List Addr} (n : H d = none) (sd : ∀ a ∈ as, H a ≠ none) : d ∉ as := fun z => sd d z n
theorem side_some {H : Hp} {M : List Ent} (sd : ∀ e ∈ M, H e.2.1 = some (.lst (e.2.2.map V.int))) : ∀ a ∈ M.map (·.2.1), H a ≠ none := fun a ha z => by
  obtain ⟨e, he, rfl⟩ := List.mem_map.mp ha
  have := sd e he
  rw [z] at this
  cases this
section
variable {P : Program} {w : World} {K : PySem.W.Frag} {mg : Str → Option Value} {base : Heap}
end
/-! ### what the meet and the join hold -/
theorem Sz.mono {L : List Ent} {n m : Nat} (z : Sz L n) (h : n ≤ m) : Sz L m := ⟨z.srt, fun e he => Nat.le_trans (z.len e he) h⟩
theorem sq_keep {K : PySem.W.Frag} {H H' : Hp} {a p : Addr} {xs : List V} (h : SqL K H a xs) (np : H p = none) (k : Keep p H H') : SqL K H' a xs := by
  have ap : ∀ o, H a = some o → a ≠ p := fun o e z => by rw [z, np] at e; cases e
  rcases h with (h | ⟨o, h⟩) | h
  · exact .inl (.inl (k _ _ (ap _ h) h))
  · exact .inl (.inr ⟨o, k _ _ (ap _ h) h⟩)
  · exact .inr h
/-! ### domains: a list of pairs of a name and a side -/
abbrev DomE := Addr × Ent
structure Doms (H : Hp) (l : Addr) (ds : List DomE) : Prop where
  lst : H l = some (.lst (ds.map fun d => V.ref d.1))
  tup : ∀ d ∈ ds, H d.1 = some (.tup [V.str d.2.1, V.ref d.2.2.1])
  side : ∀ d ∈ ds, H d.2.2.1 = some (.lst (d.2.2.2.map V.int))
theorem Doms.same {H H' : Hp} {l : Addr} {ds : List DomE} (D : Doms H l ds) (s : Same H H') : Doms H' l ds := ⟨s _ _ D.lst, fun d h => s _ _ (D.tup d h), fun d h => s _ _ (D.side d h)⟩
theorem Srt.sub {a b : List Int} (s : Srt b) (h : a.Sublist b) : Srt a := List.Pairwise.sublist h s
theorem Doms.keep {H H' : Hp} {p l : Addr} {ds : List DomE} (D : Doms H l ds) (k : Keep p H H') (hl : l ≠ p) (h : ∀ d ∈ ds, d.1 ≠ p ∧ d.2.2.1 ≠ p) : Doms H' l ds :=
  ⟨k _ _ hl D.lst, fun d hd => k _ _ (h d hd).1 (D.tup d hd), fun d hd => k _ _ (h d hd).2 (D.side d hd)⟩
theorem refs_ints {ds : List DomE} {ns : List Int} (h : (ds.map fun d => V.ref d.1) = ns.map V.int) : ds = [] := by
  cases ds with
  | nil => rfl
  | cons d ds =>
    cases ns with
    | nil => cases h
    | cons n ns =>
      rw [List.map_cons, List.map_cons] at h
      cases (List.cons.inj h).1
/-- a pair more -/
theorem Doms.snoc {H : Hp} {l T Z : Addr} {ds : List DomE} {x : Str} {zs : List Int} (D : Doms H l ds) (hT : H T = some (.tup [V.str x, V.ref Z])) (hZ : H Z = some (.lst (zs.map V.int))) (nZ : Z ≠ l) :
    Doms (upd H l (.lst ((ds.map fun d => V.ref d.1) ++ [V.ref T]))) l (ds ++ [(T, x, Z, zs)]) := by
  have tl : ∀ {c : Addr} {vs : List V}, H c = some (.tup vs) → c ≠ l := fun h z => by rw [z, D.lst] at h; cases h
  refine ⟨by rw [upd_same, List.map_append]; rfl, fun d hd => ?_, fun d hd => ?_⟩
  · rcases List.mem_append.mp hd with h | h
    · rw [upd_ne (tl (D.tup d h))]
      exact D.tup d h
    · rw [List.mem_singleton.mp h, upd_ne (tl hT)]
      exact hT
  · rcases List.mem_append.mp hd with h | h
    · have q := D.side d h
      have : d.2.2.1 ≠ l := fun z => by
        rw [z, D.lst] at q
        have e := refs_ints (HO.lst.inj (Option.some.inj q))
        rw [e] at h
        cases h
      rw [upd_ne this]
      exact q
    · rw [List.mem_singleton.mp h, upd_ne nZ]
      exact hZ
theorem with_restA {α : Type} {R : α → Hp → Prop} {G : Prop} (C : α → Hp → Prop) (r : ∀ a H, C a H → R a H) (g : (∀ a H, C a H → R a H) → G) : G := g r
section
variable {P : Program} {w : World} {K : PySem.W.Frag} {mg : Str → Option Value} {base : Heap}
abbrev sDoms : Stmt := topS 15
abbrev nDoms : List Str := ["_law_stream_here", "_law_names_here", "_law_pool_here", "_law_most", "_law_domains_here", "_law_name", "_law_side", "_law_value"]
theorem scDoms : FnScope nDoms ["_law_stream_here", "_law_names_here", "_law_pool_here", "_law_most"] (defScope sDoms) := ⟨rfl, rfl, rfl, by decide +kernel, rfl, by decide +kernel, by decide +kernel⟩
def spDoms : Sp := fun vs H Q _ => ∃ (p nm pl : Addr) (xs : List Str) (ns : List Int) (m : Nat), vs = [.ref p, .ref nm, .ref pl, .int (m : Int)] ∧ Strm H p ∧ H nm = some (.lst (xs.map V.str)) ∧ H pl = some (.lst (ns.map V.int)) ∧ p ≠ nm ∧ p ≠ pl ∧ Srt ns ∧ 1 ≤ ns.length ∧ ns.length ≤ 100 ∧ xs.length ≤ 100 ∧
  ∀ (H' : Hp) (l : Addr) (ds : List DomE), Keep p H H' → H l = none → Strm H' p → Doms H' l ds → ds.map (·.2.1) = xs → (∀ d ∈ ds, Srt d.2.2.2 ∧ d.2.2.2.length ≤ max m 1 ∧ H d.1 = none ∧ H d.2.2.1 = none ∧ ∀ v ∈ d.2.2.2, v ∈ ns) → (ds.map (·.2.2.1)).Nodup → Q (.ref l) H'
theorem ok_doms {f fD : Addr} {fd fdD : FuncData} (F : Fun K "_law_domains" "_law_domains" sDoms f fd) (B : Bt mg) (D : Call P w K mg base 1 "_law_next" fD fdD ["_law_stream_here", "_law_size"] spDraw) :
    FnOk P w K mg base CX0 2 f fd ["_law_stream_here", "_law_names_here", "_law_pool_here", "_law_most"] spDoms := by
  refine F.ok scDoms (fun vs H Q E h => ?_) (fun cdv A outer s H vs Q E hr h => ?_)
  · obtain ⟨p, nm, pl, xs, ns, m, rfl, _⟩ := h
    rfl
  · obtain ⟨p, nm, pl, xs, ns, m, rfl, hp, enm, epl, pnm, ppl, so, n1, nl, xl, q⟩ := h
    have nd := scDoms.nd
    refine ⟨_, pss_cons (ps_set (i := 4) nd rfl (.inl rfl) (pe_lst pa_nil))
      (pss_cons (ps_for PassesOwn.never rfl (pi_list (pv 1)) (pg_name (i := 5) nd rfl (.inl rfl))
        (pss_cons (ps_set (i := 6) nd rfl (.inl rfl) (pe_slice sl_list (pe_lc (own := [("_law_value", 7)]) (g := gName 7) (te := tVar 7) rfl nd (pi_list (pv 2)) (blkOk_by (N := nDoms) (sc := defScope sDoms) (by decide +kernel)) (fun _ _ _ _ _ => pg_name (i := 7) nd rfl (Or.inl rfl))
            (fun _ _ _ _ _ => pts_one (pt_cmpR op_gt (pe_call D.ok hr (by rfl) D.at_ D.kp D.bd .nil pass0 (pa_cons (pv 0) (pa_cons pe_int pa_nil))) pe_int (nomark _))) (fun _ _ _ _ _ => pv 7)) po_none (po_some (pv 3))))
        (pss_cons (ps_if (pt_cmpR op_eq (pe_callB call_len_seq (by rfl) B.len PySem.boot_len (pa_cons (pv 6) pa_nil)) pe_int rfl)
          (pss_one (ps_set (i := 6) nd rfl (.inl rfl) (pe_lst (pa_cons (pe_ix ix_list (pv 2) (pe_call D.ok hr (by rfl) D.at_ D.kp D.bd .nil pass0 (pa_cons (pv 0) (pa_cons (pe_callB call_len_seq (by rfl) B.len PySem.boot_len (pa_cons (pv 2) pa_nil)) pa_nil))) (fun _ _ => rfl)) pa_nil)))) pss_nil)
        (pss_one (ps_expr (pe_bm PySem.F.plainAttrs_list PySem.F.slot_list_append PySem.F.type_list_append mt_append (pv 4) (pa_cons (pe_tup (pa_cons (pv 5) (pa_cons
          (pe_slice sl_list (pv 6) po_none (po_some (pe_op op_mul (pe_callB call_len_seq (by rfl) B.len PySem.boot_len (pa_cons (pv 6) pa_nil))
            (pe_callTy call_int1 (by rfl) B.int PyProof.Rows.boot_int (pa_cons (pe_cmpR op_ne (pe_call D.ok hr (by rfl) D.at_ D.kp D.bd .nil pass0 (pa_cons (pv 0) (pa_cons pe_int pa_nil))) pe_int (nomark _)) pa_nil))))) pa_nil))) pa_nil)))))))
      (pss_one (ps_ret (pv 4)))), ?_⟩
    refine ⟨by show 0 ≤ sizeLine; decide, fun l nl0 => ?_⟩
    have npl : p ≠ l := fun z => hp.some (z ▸ nl0)
    have hpn : H p ≠ none := hp.some
    refine ⟨.ref nm, rfl, nm, rfl, ⟨_, sl_map (same_new nl0 _ _ enm)⟩, for_list (xs := xs.map V.str) (fun i σ H' => ∃ (ds : List DomE) (y5 y6 : Option V), σ = [some (.ref p), some (.ref nm), some (.ref pl), some (.int (m : Int)), some (.ref l), y5, y6, none] ∧ Keep p H H' ∧ Strm H' p ∧ Doms H' l ds ∧ ds.map (·.2.1) = xs.take i ∧ (∀ d ∈ ds, Srt d.2.2.2 ∧ d.2.2.2.length ≤ max m 1 ∧ H d.1 = none ∧ H d.2.2.1 = none ∧ ∀ v ∈ d.2.2.2, v ∈ ns) ∧ (ds.map (·.2.2.1)).Nodup)
      ⟨[], none, none, rfl, (Keep.refl p H).at_ nl0, hp.upd npl, ⟨upd_same, (fun _ h => nomatch h), (fun _ h => nomatch h)⟩, rfl, (fun _ h => nomatch h), List.Pairwise.nil⟩ (fun i σ H' _ h => by obtain ⟨ds, y5, y6, _, k, _⟩ := h; exact sl_map (k _ _ pnm.symm enm)) ?_ ?_⟩
    · rintro i x σ H' hx ⟨ds, y5, y6, rfl, kp, st, dm, keys, ok, inj⟩
      rw [List.getElem?_map] at hx
      obtain ⟨x, hv, rfl⟩ := Option.map_eq_some_iff.mp hx
      have hi := (List.getElem?_eq_some_iff.mp hv).1
      have ld : ds.length = i := by
        have := congrArg List.length keys
        rw [List.length_map, List.length_take] at this
        omega
      have er : H' pl = some (.lst (ns.map V.int)) := kp _ _ ppl.symm epl
      refine ⟨.ref pl, rfl, pl, rfl, ⟨_, sl_map er⟩, fun R nR => ?_⟩
      have npR : p ≠ R := fun z => st.some (z ▸ nR)
      have apart : ∀ d ∈ ds, d.1 ≠ p ∧ d.2.2.1 ≠ p := fun d hd => ⟨fun z => hpn (z ▸ (ok d hd).2.2.1), fun z => hpn (z ▸ (ok d hd).2.2.2.1)⟩
      refine lc_list (xs := ns.map V.int) (fun j H1 => Keep p H' H1 ∧ Strm H1 p ∧ ∃ ms : List Int, H1 R = some (.lst (ms.map V.int)) ∧ ms.Sublist (ns.take j)) ?_ ?_ ?_ ?_
      · exact ⟨(Keep.refl p H').at_ nR, st.upd npR, [], upd_same, List.Sublist.refl _⟩
      · rintro j H1 _ ⟨k, _⟩
        exact sl_map (k _ _ ppl.symm er)
      · rintro j v H1 hv1 ⟨k1, st1, ms, eR, sub⟩
        rw [List.getElem?_map] at hv1
        obtain ⟨v, hv2, rfl⟩ := Option.map_eq_some_iff.mp hv1
        have hj := (List.getElem?_eq_some_iff.mp hv2).1
        have len := sub.length_le
        rw [List.length_take] at len
        refine ⟨rfl, .ref p, rfl, p, 4, rfl, st1, by decide, by decide, fun H2 e o2 st2 e0 e1 => ?_⟩
        refine ⟨e, 0, rfl, rfl, _, rfl, ?_⟩
        have eR2 : H2 R = some (.lst (ms.map V.int)) := (o2 R npR.symm).trans eR
        have tk : ns.take (j + 1) = ns.take j ++ [v] := by rw [List.take_add_one, hv2]; rfl
        refine ite2 (fun _ => ?_) (fun _ => ?_)
        · refine ⟨.int v, rfl, _, eR2, ?_, fun b o hb e => ?_, st2.upd npR, ms ++ [v], by rw [upd_same, List.map_append]; rfl, by rw [tk]; exact sub.append (List.Sublist.refl _)⟩
          · rw [List.length_map]
            exact small1000 (by omega)
          · have : b ≠ R := fun z => by rw [z, nR] at e; cases e
            rw [upd_ne this]
            exact (k1.oth o2) b o hb e
        · exact ⟨k1.oth o2, st2, ms, eR2, by rw [tk]; exact sub.trans (List.sublist_append_left _ _)⟩
      · rintro H1 ⟨k1, st1, ms, eR, sub⟩
        rw [List.length_map, List.take_length] at sub
        have K1 : Keep p H H1 := kp.trans k1
        have nR0 : H R = none := kp.free st nR
        have dm1 : Doms H1 l ds := dm.keep k1 npl.symm apart
        refine' with_restA (fun S' H3 => ∃ ts : List Int, Keep p H H3 ∧ Strm H3 p ∧ Doms H3 l ds ∧ H3 S' = some (.lst (ts.map V.int)) ∧ H S' = none ∧ Srt ts ∧ ts.length ≤ max m 1 ∧ ts.length ≤ 100 ∧ ∀ v ∈ ts, v ∈ ns) ?r (fun rest => ⟨_, rfl, _, rfl, R, _, rfl, sl_map eR, fun S nS => ?k⟩)
        case' k =>
          have ec : cutV (ms.map V.int) none (some (m : Int)) = (ms.take m).map V.int := by rw [cutV_to, List.map_take]
          rw [ec]
          have sS := same_new (o := HO.lst ((ms.take m).map V.int)) nS
          have npS : p ≠ S := fun z => st1.some (z ▸ nS)
          have subS : (ms.take m).Sublist ns := (List.take_sublist m ms).trans sub
          have er2 : (upd H1 S (HO.lst ((ms.take m).map V.int))) pl = some (.lst (ns.map V.int)) := sS _ _ (k1 _ _ ppl.symm er)
          have eS0 := upd_same (H := H1) (a := S) (o := HO.lst ((ms.take m).map V.int))
          have stS := st1.upd (o := HO.lst ((ms.take m).map V.int)) npS
          have dmS := dm1.same sS
          have KS := K1.at_ (o := HO.lst ((ms.take m).map V.int)) (K1.free st1 nS)
          have nS0 : H S = none := K1.free st1 nS
          generalize upd H1 S (HO.lst ((ms.take m).map V.int)) = G1 at er2 eS0 stS dmS KS ⊢
          clear sS
          refine ⟨.ref S, rfl, S, _, rfl, .inl (sl_map eS0), rfl, _, rfl, ite2 (fun c => ?g) (fun c => rest S G1 ?h)⟩
          case h =>
            refine ⟨ms.take m, KS, stS, dmS, eS0, nS0, so.sub subS, ?_, ?_, fun v hv => subS.subset hv⟩
            · rw [List.length_take]; omega
            · have := subS.length_le; omega
          case g =>
            refine ⟨.ref pl, rfl, .ref p, rfl, .ref pl, rfl, pl, _, rfl, .inl (sl_map er2), p, _, rfl, stS, ?_, ?_, fun H2 e o2 st2 e0 e1 => ?_⟩
            · rw [List.length_map]; omega
            · rw [List.length_map]; omega
            rw [List.length_map] at e1
            obtain ⟨e, rfl⟩ : ∃ n : Nat, e = (n : Int) := ⟨e.toNat, by omega⟩
            have he : e < ns.length := by omega
            have ge : (ns.map V.int)[e]? = some (.int ns[e]) := by rw [List.getElem?_map, List.getElem?_eq_getElem he]; rfl
            have er3 : H2 pl = some (.lst (ns.map V.int)) := (o2 pl ppl.symm).trans er2
            have K2 : Keep p H H2 := KS.oth o2
            have dm2 : Doms H2 l ds := dmS.keep ((Keep.refl p _).oth o2) npl.symm apart
            refine ⟨pl, _, _, .int ns[e], rfl, rfl, sl_map er3, atI_nat (j := e) ge, by show 1 ≤ sizeLine; decide, fun Z nZ => rest Z _ ⟨[ns[e]], K2.at_ (K2.free st2 nZ), st2.upd (fun z => st2.some (z ▸ nZ)), dm2.same (same_new nZ), upd_same, K2.free st2 nZ, List.pairwise_singleton _ _, by show 1 ≤ max m 1; omega, by show 1 ≤ 100; omega, fun v hv => ?_⟩⟩
            rw [List.mem_singleton.mp hv]
            exact List.getElem_mem he
        case r =>
          rintro S' H3 ⟨ts, K3, st3, dm3, eS, nS', soT, l1, l2, mem⟩
          have npS' : p ≠ S' := fun z => hpn (z ▸ nS')
          refine ⟨.ref l, rfl, .inl ⟨rfl, _, sl_map dm3.lst⟩, .str x, rfl, .ref S', rfl, .ref S', rfl, S', _, rfl, .inl (sl_map eS), .ref p, rfl, p, 60, rfl, st3, by decide, by decide, fun H4 e o4 st4 e0 e1 => ?_⟩
          have eS4 : H4 S' = some (.lst (ts.map V.int)) := (o4 S' npS'.symm).trans eS
          have tail : ∀ (b : Bool), -(2 ^ 64) < (if b = true then (1 : Int) else 0) ∧ (if b = true then (1 : Int) else 0) < 2 ^ 64 := fun b => by cases b <;> decide
          refine ⟨rfl, .inr ⟨_, rfl, _, _, rfl, rfl, .inr (tail _), _, rfl, S', _, rfl, sl_map eS4, fun Z nZ => ?_⟩⟩
          generalize (!decide (V.int e = V.int 7)) = bit
          have ez : cutV (ts.map V.int) none (some (((ts.map V.int).length : Int) * (if bit = true then (1 : Int) else 0))) = ((if bit = true then ts else []).map V.int) := by
            cases bit with
            | true =>
              rw [if_pos rfl, if_pos rfl, Int.mul_one, cutV_to, List.take_length]
            | false =>
              rw [if_neg Bool.false_ne_true, if_neg Bool.false_ne_true, Int.mul_zero]
              exact cutV_to _ 0
          rw [ez]
          have hz : (if bit = true then ts else []).Sublist ts := by cases bit with
            | true => exact List.Sublist.refl _
            | false => exact List.nil_sublist _
          generalize (if bit = true then ts else []) = zs at hz
          have K4 := K3.oth o4
          have npZ : p ≠ Z := fun z => st4.some (z ▸ nZ)
          have sZ := same_new (o := HO.lst (zs.map V.int)) nZ
          have nZ0 : H Z = none := K4.free st4 nZ
          have dm4 : Doms H4 l ds := dm3.keep ((Keep.refl p _).oth o4) npl.symm apart
          refine ⟨by show 2 ≤ sizeLine; decide, fun T nT => ?_⟩
          have npT : p ≠ T := fun z => st4.some (z ▸ sZ.free nT)
          have sT := same_new (o := HO.tup [V.str x, V.ref Z]) nT
          have nT0 : H T = none := K4.free st4 (sZ.free nT)
          have nZl : Z ≠ l := fun z => by rw [z, dm4.lst] at nZ; cases nZ
          have dmT := (dm4.same sZ).same sT
          have hsub := hz.length_le
          have newZ : Z ∉ ds.map (·.2.2.1) := fun z => by
            obtain ⟨d, hd, e⟩ := List.mem_map.mp z
            have e' : d.2.2.1 = Z := e
            have := dm4.side d hd
            rw [e', nZ] at this
            cases this
          refine ⟨l, _, _, rfl, rfl, dmT.lst, ?_, ds ++ [(T, x, Z, zs)], _, _, rfl, ((K4.at_ nZ0).at_ nT0).at_ nl0, ((st4.upd npZ).upd npT).upd npl, dmT.snoc upd_same (sT _ _ upd_same) nZl, ?_, fun d hd => ?_, ?_⟩
          · rw [List.length_map]
            exact small1000 (by omega)
          · rw [List.map_append, keys, List.take_add_one, hv]
            rfl
          · rcases List.mem_append.mp hd with h | h
            · exact ok d h
            · rw [List.mem_singleton.mp h]
              exact ⟨soT.sub hz, Nat.le_trans hsub l1, nT0, nZ0, fun v hv => mem v (hz.subset hv)⟩
          · rw [List.map_append]
            exact nd_snoc inj newZ
    · rintro σ H' ⟨ds, y5, y6, rfl, kp, st, dm, keys, ok, inj⟩
      rw [List.length_map, List.take_length] at keys
      exact ⟨_, rfl, q H' l ds kp nl0 st dm keys ok inj⟩
end
end K5

set_option Elab.async false
set_option linter.all false
set_option maxRecDepth 100000
set_option maxHeartbeats 4000000
/-! d.update(e), e another dict -/
namespace CsU
open PySem PySem.Spec PyProof.Rows L2
section
variable {X : Cx} {pins : List (Addr × Obj)} {σ : L2.St} {H : Hp} {s : Shared} {a b : Addr} {kvs ls : List (Key × V)} {A : Around} {E : Value → Shared → Prop}
theorem d_update {Q : Value → Shared → Prop} (I : Inv X pins σ H s) (e : H a = some (.dK kvs)) (e2 : H b = some (.dK ls)) (ne : a ≠ b) (z2 : kvs.length + ls.length ≤ sizeLine) (h : ∀ s', Inv X pins σ (upd H a (.dK (mergeK kvs ls))) s' → Q .none s') :
    wpAny (model X.prog X.w) A (call (.builtin "dict.update") [.ref a, .ref b]) Q E s := by
  obtain ⟨z, hd, vs, rel, dd⟩ := dk_of I.hok e
  obtain ⟨z', hd', vs2, rel2, dd2⟩ := dk_of I.hok e2
  refine call_meetsIn PySem.F.slot_dict_update dd.typeIs PySem.F.entry_dict_update (PySem.F.args_dict_update_2 _ _) (meets_dict_update (mixKind X.prog X.w) a b ne hd')
    ⟨vs, vs2, dd, dd2, by rw [← rel.length, ← rel2.length]; exact z2, fun h' dd' _ hs => h _ ?_⟩
  have he : ∃ q, h'.get? a = some q := let ⟨q, _, _, hq, _⟩ := dd'; ⟨q, hq⟩
  have hl : (mergeK kvs ls).length ≤ sizeLine := Nat.le_trans (length_mergeK ls kvs) z2
  exact d_write (t' := s.toks) I (by rw [e]; exact True.intro) hs he (dk_new hl hd (KV.merge rel2 rel) dd')
end
def rDUpd : V → List V → Hp → VK → Prop := fun x vs H Q => ∃ (a b : Addr) (kvs ls : List (Key × V)), x = .ref a ∧ vs = [.ref b] ∧ H a = some (.dK kvs) ∧ H b = some (.dK ls) ∧ a ≠ b ∧ kvs.length + ls.length ≤ sizeLine ∧ Q .non (upd H a (.dK (mergeK kvs ls)))
theorem mtd_update {X : Cx} : MtR X "dict.update" rDUpd := by
  intro pins s σ H x vs v us Q I rx rv h
  obtain ⟨a, b, kvs, ls, ex, ev, e, e2, ne, z, q⟩ := h
  subst ex
  subst ev
  obtain rfl : v = Value.ref a := rx
  obtain ⟨u, eu, ru⟩ := vals1 rv
  subst eu
  obtain rfl : u = Value.ref b := ru
  exact d_update I e e2 ne z fun s' I' => ⟨.non, _, I', rfl, q⟩
end CsU
namespace K5
open PySem PySem.Spec PyProof.Rows L2 Cs CsU
def bad (M : List Ent) (e : Ent) : List Int := e.2.2.filter fun v => decide (v ∉ (look M e.1).getD [])
def bey (L M : List Ent) : List (Str × List Int) := (L.map fun e => (e.1, bad M e)).filter fun p => decide (p.2 ≠ [])
theorem bey_snoc {L M : List Ent} {i : Nat} {e : Ent} (h : L[i]? = some e) : bey (L.take (i + 1)) M = if bad M e = [] then bey (L.take i) M else bey (L.take i) M ++ [(e.1, bad M e)] := by
  unfold bey
  rw [List.take_add_one, h, List.map_append, List.filter_append]
  by_cases c : bad M e = []
  · rw [if_pos c]; simp [c]
  · rw [if_neg c]; simp [c]
theorem bey_keys {L M : List Ent} {x : Str} (h : x ∈ (bey L M).map (·.1)) : x ∈ L.map (·.1) := by
  obtain ⟨p, hp, rfl⟩ := List.mem_map.mp h
  obtain ⟨e, he, rfl⟩ := List.mem_map.mp (List.mem_filter.mp hp).1
  exact List.mem_map_of_mem he
theorem bey_len (L M : List Ent) : (bey L M).length ≤ L.length := by
  unfold bey
  have := List.length_filter_le (fun p : Str × List Int => decide (p.2 ≠ [])) (L.map fun e => (e.1, bad M e))
  rw [List.length_map] at this
  exact this
theorem srt_filter {ns : List Int} (h : Srt ns) (p : Int → Bool) : Srt (ns.filter p) := List.Pairwise.sublist List.filter_sublist h
section
variable {P : Program} {w : World} {K : PySem.W.Frag} {mg : Str → Option Value} {base : Heap}
abbrev sWithout : Stmt := topS 2
theorem scWithout : FnScope ["first", "second"] ["first", "second"] (defScope sWithout) := ⟨rfl, rfl, rfl, by decide +kernel, rfl, by decide +kernel, by decide +kernel⟩
theorem ok_without {f : Addr} {fd : FuncData} {k : Nat} (F : Fun K "without" "without" sWithout f fd) (B : Bt mg) : FnOk P w K mg base CX0 (k + 1) f fd ["first", "second"] (spTwo K fun ns ks k => k ∈ ns ∧ k ∉ ks) := by
  refine F.ok scWithout (fun vs H Q E h => ?_) (fun cdv A outer s H vs Q E hr h => ?_)
  · obtain ⟨a, b, ns, ks, rfl, _⟩ := h
    rfl
  · obtain ⟨a, b, ns, ks, rfl, hA, hB, la, lb, q⟩ := h
    refine ⟨_, pss_one (ps_ret (pe_callB (cr_sortedSet rfl) (by rfl) B.sorted boot_sorted (pa_cons (pe_op op_ssub (pe_callTy (cr_setI rfl) (by rfl) B.set PyProof.Rows.boot_set (pa_cons (pv 0) pa_nil)) (pe_callTy (cr_setI rfl) (by rfl) B.set PyProof.Rows.boot_set (pa_cons (pv 1) pa_nil))) pa_nil))), ?_⟩
    refine ⟨.ref a, rfl, a, ns, rfl, hA, by omega, fun p c np hc => ?_⟩
    have s1 := same_new (o := SetO w p (fun j => decide (j ∈ ns)) c) np
    refine ⟨.ref b, rfl, b, ks, rfl, s1.seq hB, by omega, fun p2 c2 np2 hc2 => ?_⟩
    have ne : p2 ≠ p := fun e => by rw [e, upd_same] at np2; cases np2
    have s2 := s1.trans (same_new (o := SetO w p2 (fun j => decide (j ∈ ks)) c2) np2)
    refine ⟨p, p2, _, _, c, c2, rfl, rfl, ne, by rw [upd_ne ne.symm, upd_same], upd_same, ⟨by omega, by omega⟩, fun r S n nr hm hn => ?_⟩
    have s3 := s2.trans (same_new (o := SetO w r S n) nr)
    refine ⟨r, S, n, rfl, upd_same, by omega, fun ms z hs hk hl nz => ?_⟩
    exact q _ z ms (same_at s3 (s3.free nz)) (s3.free nz) upd_same hs (fun k => (hk k).trans ((hm k).trans (sub_iff ns ks k))) (by omega)
abbrev sRoom : Stmt := topS 4
abbrev nRoom : List Str := ["box", "count", "side"]
theorem scRoom : FnScope nRoom ["box"] (defScope sRoom) := ⟨rfl, rfl, rfl, by decide +kernel, rfl, by decide +kernel, by decide +kernel⟩
def roomE (L : List Ent) : Int := L.foldl (fun c e => c * (e.2.2.length : Int)) 1
theorem room_snoc {L : List Ent} {i : Nat} {e : Ent} (h : L[i]? = some e) : roomE (L.take (i + 1)) = roomE (L.take i) * (e.2.2.length : Int) := by
  unfold roomE
  rw [List.take_add_one, h, List.foldl_append]
  rfl
theorem room_zero {L : List Ent} : roomE L = 0 ↔ ∃ e ∈ L, e.2.2 = [] := by
  have key : ∀ (L : List Ent) (c : Int), L.foldl (fun c e => c * (e.2.2.length : Int)) c = 0 ↔ c = 0 ∨ ∃ e ∈ L, e.2.2 = [] := by
    intro L
    induction L with
    | nil => intro c; simp
    | cons e L ih =>
      intro c
      rw [List.foldl_cons, ih, Int.mul_eq_zero]
      simp only [List.mem_cons, exists_eq_or_imp, or_assoc]
      have : ((e.2.2.length : Int) = 0) ↔ e.2.2 = [] := by rw [← List.length_eq_zero_iff]; omega
      rw [this]
  have := key L 1
  unfold roomE
  rw [this]
  simp
def spRoom : Sp := fun vs H Q _ => ∃ (d : Addr) (L : List Ent), vs = [.ref d] ∧ Bu H d L ∧ (∀ e ∈ L, e.2.2.length ≤ 1000) ∧ Q (.int (roomE L)) H
theorem ok_room {f : Addr} {fd : FuncData} {k : Nat} (F : Fun K "room" "room" sRoom f fd) (B : Bt mg) : FnOk P w K mg base CX0 (k + 1) f fd ["box"] spRoom := by
  refine F.ok scRoom (fun vs H Q E h => ?_) (fun cdv A outer s H vs Q E hr h => ?_)
  · obtain ⟨d, L, rfl, _⟩ := h
    rfl
  · obtain ⟨d, L, rfl, bx, sz, q⟩ := h
    refine ⟨_, pss_cons (ps_set (i := 1) scRoom.nd rfl (.inl rfl) pe_int)
      (pss_cons (ps_lock (ps_for PassesOwn.never rfl (pi_values (pv 0)) (pg_name (i := 2) scRoom.nd rfl (.inl rfl))
        (pss_one (ps_set (i := 1) scRoom.nd rfl (.inl rfl) (pe_op op_mul (pv 1) (pe_callB call_len_seq (by rfl) B.len PySem.boot_len (pa_cons (pv 2) pa_nil)))))))
      (pss_one (ps_ret (pv 1)))), ?_⟩
    refine ⟨d, _, bx.un, trivial, fun od => ?_⟩
    have bl := bx.toBx.lock (od := od) bx.un
    refine ⟨.ref d, rfl, d, od, entK L, rfl, upd_same, for_it walk_values (fun i σ H' => H' = upd H d (.frz od (.dK (entK L))) ∧ ∃ y, σ = [some (.ref d), some (.int (roomE (L.take i))), y]) ⟨rfl, none, rfl⟩ (fun i σ H' _ h => by rw [h.1]; exact upd_same) ?_ ?_⟩
    · rintro i x σ H' H'' hi ⟨rfl, y, rfl⟩ ⟨rfl, k, hk⟩
      rw [entK_get] at hk
      obtain ⟨e, he, q2⟩ := Option.map_eq_some_iff.mp hk
      cases q2
      have em := List.mem_of_getElem? he
      refine ⟨_, rfl, .ref e.2.1, rfl, e.2.1, _, rfl, .inl (sl_map (bl.sides e em)), _, _, rfl, rfl, .inr ⟨?_, ?_⟩, rfl, some (.ref e.2.1), ?_⟩
      · rw [List.length_map]; omega
      · rw [List.length_map]; have := sz e em; omega
      · rw [room_snoc he, List.length_map]
        rfl
    · rintro σ H' ⟨rfl, y, rfl⟩
      refine ⟨upd_same, ?_⟩
      rw [upd_back bx.un]
      have : (entK L).length = L.length := by unfold entK; rw [List.length_map]
      rw [this, List.take_length]
      exact ⟨_, rfl, q⟩
abbrev sBey : Stmt := topS 7
abbrev nBey : List Str := ["box", "cover", "beyond", "name", "side", "values"]
theorem scBey : FnScope nBey ["box", "cover"] (defScope sBey) := ⟨rfl, rfl, rfl, by decide +kernel, rfl, by decide +kernel, by decide +kernel⟩
structure Cov (L M : List Ent) : Prop where
  srt : ∀ e ∈ L, Srt e.2.2 ∧ e.2.2.length ≤ 31
  sz : ∀ e ∈ M, e.2.2.length ≤ 31
  all : ∀ e ∈ L, ∃ s, look M e.1 = some s
def spBey : Sp := fun vs H Q _ => ∃ (d c : Addr) (L M : List Ent), vs = [.ref d, .ref c] ∧ Bu H d L ∧ Bu H c M ∧ c ≠ d ∧ Cov L M ∧
  ∀ (H' : Hp) (b : Addr) (N : List Ent), Same H H' → Nb H H' b N → shape N = bey L M → Q (.ref b) H'
theorem ok_bey {f fW : Addr} {fd fdW : FuncData} (F : Fun K "_values_beyond" "_values_beyond" sBey f fd) (B : Bt mg) (Wo : Call P w K mg base 1 "without" fW fdW ["first", "second"] (spTwo K fun ns ks k => k ∈ ns ∧ k ∉ ks)) :
    FnOk P w K mg base CX0 2 f fd ["box", "cover"] spBey := by
  refine F.ok scBey (fun vs H Q E h => ?_) (fun cdv A outer s H vs Q E hr h => ?_)
  · obtain ⟨d, c, L, M, rfl, _⟩ := h
    rfl
  · obtain ⟨d, c, L, M, rfl, bx, bm, cd, cov, q⟩ := h
    have hu := hu_of hr
    have nd := scBey.nd
    refine ⟨_, pss_cons (ps_set (i := 2) nd rfl (.inl rfl) pe_dnewK)
      (pss_cons (ps_lock (ps_for PassesOwn.never rfl (pi_items (pv 0)) (pg_tup rfl (pgs_cons (pg_name (i := 3) nd rfl (.inl rfl)) (pgs_cons (pg_name (i := 4) nd rfl (.inl rfl)) pgs_nil)))
        (pss_cons (ps_set (i := 5) nd rfl (.inl rfl) (pe_call Wo.ok hr (by rfl) Wo.at_ Wo.kp Wo.bd .nil pass0 (pa_cons (pv 4) (pa_cons (pe_dget hu (pv 1) (pv 3) (fun _ _ => rfl)) pa_nil))))
        (pss_one (ps_if (pt_cmpR op_gt (pe_callB call_len_seq (by rfl) B.len PySem.boot_len (pa_cons (pv 5) pa_nil)) pe_int rfl) (pss_one (ps_dput hu (pv 2) (pv 3) (pv 5) rfl)) pss_nil)))))
      (pss_one (ps_ret (pv 2)))), ?_⟩
    intro D nD
    have s0 := same_new (o := HO.dK []) nD
    have bx0 := bx.same' s0
    refine ⟨d, _, bx0.un, trivial, fun od => ?_⟩
    have nDd : D ≠ d := fun z => by rw [z, bx.un] at nD; cases nD
    have sF : Same (upd H d (.frz od (.dK (entK L)))) (upd (upd H D (.dK [])) d (.frz od (.dK (entK L)))) := same_frz bx.un s0
    have nDF : (upd H d (.frz od (.dK (entK L)))) D = none := by rw [upd_ne nDd]; exact nD
    have mM : ∀ {H' : Hp}, Same (upd H d (.frz od (.dK (entK L)))) H' → Bx H' c M := fun s => (bm.toBx.lock (od := od) bx.un).same s
    have mL : ∀ {H' : Hp}, Same (upd H d (.frz od (.dK (entK L)))) H' → Bx H' d L := fun s => (bx.toBx.lock (od := od) bx.un).same s
    refine ⟨.ref d, rfl, d, od, entK L, rfl, upd_same, for_it walk_items (fun i σ H' => ∃ (N : List Ent) (y3 y4 y5 : Option V), σ = [some (.ref d), some (.ref c), some (.ref D), y3, y4, y5] ∧ Same (upd H d (.frz od (.dK (entK L)))) H' ∧ Nb H H' D N ∧ shape N = bey (L.take i) M)
      ⟨[], none, none, none, rfl, sF, Nb.nil nD (by rw [upd_ne nDd]; exact upd_same), rfl⟩ (fun i σ H' _ h => by obtain ⟨_, _, _, _, _, h, _⟩ := h; exact h _ _ upd_same) ?_ ?_⟩
    · rintro i x σ H' H'' hi ⟨N, y3, y4, y5, rfl, sm, nb, sh⟩ ⟨T, x1, x2, rfl, nT, rfl, g1, g2⟩
      obtain ⟨e, he, rfl, rfl⟩ := items_at g1 g2
      have em := List.mem_of_getElem? he
      have sT := same_new (o := HO.tup [V.str e.1, V.ref e.2.1]) nT
      have smT := sm.trans sT
      have nbT := nb.push sT
      have eTT := upd_same (H := H') (a := T) (o := HO.tup [V.str e.1, V.ref e.2.1])
      generalize upd H' T (HO.tup [V.str e.1, V.ref e.2.1]) = HT at smT nbT eTT ⊢
      obtain ⟨sd, hs⟩ := cov.all e em
      obtain ⟨t, gt, et⟩ := Option.map_eq_some_iff.mp (show (getE M e.1).map (·.2.2) = some sd from hs)
      obtain ⟨tm, _⟩ := getE_mem gt
      have gv := (mM smT).get e.1
      rw [gt] at gv
      refine ⟨T, _, rfl, .inl (.inl eTT), rfl, _, _, rfl, _, [], rfl, rfl, ?_⟩
      refine ⟨.ref e.2.1, rfl, .ref c, rfl, .str e.1, rfl, c, .ref t.2.1, rfl, gv, e.2.1, t.2.1, e.2.2, t.2.2, rfl, sl_map ((mL smT).sides e em), sl_map ((mM smT).sides t tm), (cov.srt e em).2, cov.sz t tm, fun H2 l ms s2 nl el sr mem few => ?_⟩
      have ems : ms = bad M e := srt_ext sr (srt_filter (cov.srt e em).1 _) fun k => by
        refine (mem k).trans ?_
        show k ∈ e.2.2 ∧ k ∉ t.2.2 ↔ k ∈ bad M e
        unfold bad
        rw [List.mem_filter, decide_eq_true_iff, hs, ← et]
        exact Iff.rfl
      have nl0 : H l = none := by
        have := smT.free nl
        cases c0 : H l with
        | none => rfl
        | some o =>
          by_cases z : l = d
          · rw [z, upd_same] at this; cases this
          · rw [upd_ne z, c0] at this; cases this
      have nb2 := nbT.push s2
      have sm2 := smT.trans s2
      have sn := bey_snoc (M := M) he
      refine ⟨.ref l, rfl, l, _, rfl, .inl (sl_map el), _, 0, rfl, rfl, _, rfl, ?_⟩
      rw [List.length_map, ems]
      by_cases c0 : bad M e = []
      · rw [if_pos c0] at sn
        rw [c0]
        exact iteF ⟨N, _, _, _, rfl, sm2, nb2, by rw [sn]; exact sh⟩
      · rw [if_neg c0] at sn
        have pos : 0 < (bad M e).length := List.length_pos_iff.mpr c0
        rw [decide_eq_true (by omega)]
        have lN : N.length ≤ 39 := by
          have h1 := congrArg List.length sh
          rw [show (shape N).length = N.length from List.length_map _] at h1
          have h2 := bey_len (L.take i) M
          rw [List.length_take] at h2
          rw [entK_len] at hi
          have := bx.few
          omega
        have xnew : e.1 ∉ N.map (·.1) := fun z => by
          have h1 : N.map (·.1) = (bey (L.take i) M).map (·.1) := by rw [← sh, List.map_map] <;> rfl
          rw [h1] at z
          exact take_keys bx.nd he (bey_keys z)
        have nla : l ∉ N.map (·.2.1) := fun z => by
          obtain ⟨g, hg, rfl⟩ := List.mem_map.mp z
          rw [nbT.sides g hg] at nl
          cases nl
        refine iteT ⟨.ref l, rfl, .ref D, rfl, .str e.1, rfl, D, _, rfl, DPut.k (k := .inr e.1) nb2.un (by rw [entK_len]; exact small1000 (by omega)), ?_⟩
        rw [putK_ent (s := bad M e), putE_new xnew]
        rw [ems] at el
        refine ⟨N ++ [(e.1, l, bad M e)], _, _, _, rfl, same_at sm2 nDF, nb2.alias nl0 el xnew nla (by omega), ?_⟩
        rw [sn, ← sh]
        exact List.map_append
    · rintro σ H' ⟨N, y3, y4, y5, rfl, sm, nb, sh⟩
      rw [entK_len, List.take_length] at sh
      exact ⟨sm _ _ upd_same, _, rfl, q _ D N (unlock bx.un sm) (nb.unl' (sm _ _ upd_same)) sh⟩
end
end K5

set_option Elab.async false
set_option linter.all false
set_option maxRecDepth 100000
set_option maxHeartbeats 4000000
namespace K5
open PySem PySem.Spec PyProof.Rows L2 Cs
/-! ### dicts of values -/
def putA (A : List (Str × Int)) (x : Str) (v : Int) : List (Str × Int) := if (A.any fun e => decide (e.1 = x)) = true then A.map (fun e => if e.1 = x then (x, v) else e) else A ++ [(x, v)]
theorem any_int (A : List (Str × Int)) (x : Str) : ((intK A).any fun kv => decide (kv.1 = Sum.inr x)) = A.any fun e => decide (e.1 = x) := by
  unfold intK
  rw [List.any_map]
  congr 1
  funext e
  simp
theorem putK_int (A : List (Str × Int)) (x : Str) (v : Int) : putK (intK A) (.inr x) (V.int v) = intK (putA A x v) := by
  unfold putK putA
  rw [any_int]
  by_cases h : (A.any fun e => decide (e.1 = x)) = true
  · rw [if_pos h, if_pos h]
    unfold intK
    rw [List.map_map, List.map_map]
    congr 1
    funext e
    by_cases z : e.1 = x
    · simp [z]
    · simp [z]
  · rw [if_neg h, if_neg h]
    unfold intK
    rw [List.map_append]
    rfl
theorem anyA {A : List (Str × Int)} {x : Str} : (A.any fun e => decide (e.1 = x)) = true ↔ x ∈ A.map (·.1) := by
  rw [List.any_eq_true, List.mem_map]
  constructor
  · rintro ⟨e, he, h⟩; exact ⟨e, he, of_decide_eq_true h⟩
  · rintro ⟨e, he, h⟩; exact ⟨e, he, decide_eq_true h⟩
theorem putA_new {A : List (Str × Int)} {x : Str} {v : Int} (h : x ∉ A.map (·.1)) : putA A x v = A ++ [(x, v)] := if_neg fun z => h (anyA.mp z)
theorem putA_keys {A : List (Str × Int)} {x : Str} {v : Int} (h : x ∈ A.map (·.1)) : (putA A x v).map (·.1) = A.map (·.1) := by
  unfold putA
  rw [if_pos (anyA.mpr h), List.map_map]
  refine List.map_congr_left fun e _ => ?_
  show (if e.1 = x then (x, v) else e).1 = e.1
  split
  · next z => exact z.symm
  · rfl
theorem aget_cons (e : Str × Int) (A : List (Str × Int)) (y : Str) : aget (e :: A) y = if e.1 = y then some e.2 else aget A y := by
  unfold aget
  rw [List.find?_cons]
  by_cases h : e.1 = y
  · simp [h]
  · simp [h]
theorem aget_app {A : List (Str × Int)} {x : Str} {v : Int} (h : x ∉ A.map (·.1)) (y : Str) : aget (A ++ [(x, v)]) y = if x = y then some v else aget A y := by
  induction A with
  | nil => rw [List.nil_append, aget_cons] <;> rfl
  | cons e A ih =>
    rw [List.cons_append, aget_cons, aget_cons, ih fun z => h (List.mem_cons_of_mem _ z)]
    by_cases c : e.1 = y
    · rw [if_pos c, if_pos c]
      by_cases d : x = y
      · exact absurd (by rw [d, ← c]; exact List.mem_cons_self) h
      · rw [if_neg d]
    · rw [if_neg c, if_neg c]
theorem aget_rep (x : Str) (v : Int) (y : Str) : ∀ A : List (Str × Int), aget (A.map fun e => if e.1 = x then (x, v) else e) y = if x = y then (if x ∈ A.map (·.1) then some v else none) else aget A y
  | [] => by split <;> rfl
  | e :: A => by
    rw [List.map_cons, aget_cons, aget_cons, aget_rep x v y A]
    by_cases c : e.1 = x
    · rw [if_pos c]
      by_cases d : x = y
      · rw [if_pos d, if_pos d, if_pos (by rw [List.map_cons, c]; exact List.mem_cons_self)]
      · have h1 : ¬ e.1 = y := fun z => d (c.symm.trans z)
        simp [d, h1]
    · rw [if_neg c]
      by_cases d : x = y
      · have h1 : ¬ e.1 = y := fun z => c (z.trans d.symm)
        rw [if_neg h1, if_pos d, if_pos d]
        have : x ∈ (e :: A).map (·.1) ↔ x ∈ A.map (·.1) := by
          rw [List.map_cons, List.mem_cons]
          exact ⟨fun h => h.elim (fun z => absurd z.symm c) id, .inr⟩
        by_cases m : x ∈ A.map (·.1)
        · rw [if_pos m, if_pos (this.mpr m)]
        · rw [if_neg m, if_neg fun z => m (this.mp z)]
      · rw [if_neg d, if_neg d]
theorem aget_put {A : List (Str × Int)} {x : Str} {v : Int} (y : Str) : aget (putA A x v) y = if x = y then some v else aget A y := by
  by_cases h : x ∈ A.map (·.1)
  · unfold putA
    rw [if_pos (anyA.mpr h), aget_rep, if_pos h]
  · rw [putA_new h, aget_app h]
theorem aget_mem {A : List (Str × Int)} {x : Str} : (aget A x).isSome = true ↔ x ∈ A.map (·.1) := by
  induction A with
  | nil => simp [aget]
  | cons e A ih =>
    rw [aget_cons, List.map_cons, List.mem_cons, ← ih]
    by_cases c : e.1 = x
    · rw [if_pos c]; simp [c]
    · rw [if_neg c]; simp [Ne.symm c]
/-- a dict of values -/
structure Vd (H : Hp) (d : Addr) (A : List (Str × Int)) : Prop where
  un : H d = some (.dK (intK A))
  nd : (A.map (·.1)).Nodup
  few : A.length ≤ 40
theorem Vd.same {H H' : Hp} {d : Addr} {A : List (Str × Int)} (B : Vd H d A) (s : Same H H') : Vd H' d A := ⟨s _ _ B.un, B.nd, B.few⟩
theorem Vd.ax {H : Hp} {d : Addr} {A : List (Str × Int)} (B : Vd H d A) : Ax H d A := ⟨.inl B.un⟩
theorem intK_len (A : List (Str × Int)) : (intK A).length = A.length := by unfold intK; rw [List.length_map]
theorem aget_iff {A : List (Str × Int)} (nd : (A.map (·.1)).Nodup) (x : Str) (v : Int) : aget A x = some v ↔ (x, v) ∈ A := by
  induction A with
  | nil => simp [aget]
  | cons e A ih =>
    obtain ⟨n1, n2⟩ := List.nodup_cons.mp nd
    rw [aget_cons, List.mem_cons]
    by_cases c : e.1 = x
    · rw [if_pos c]
      constructor
      · intro h
        left
        have := Option.some.inj h
        rw [← c, ← this]
      · rintro (h | h)
        · rw [← h]
        · rw [← c] at h
          exact absurd (List.mem_map_of_mem (f := fun e : Str × Int => e.1) h) n1
    · rw [if_neg c, ih n2]
      constructor
      · exact .inr
      · rintro (h | h)
        · exact absurd (congrArg Prod.fst h).symm c
        · exact h
def SameA (L M : List (Str × Int)) : Prop := ∀ x, aget L x = aget M x
theorem SameA.keys {L M : List (Str × Int)} (s : SameA L M) {x : Str} (h : x ∈ L.map (·.1)) : x ∈ M.map (·.1) := by
  rw [← aget_mem] at h ⊢
  rw [← s x]
  exact h
theorem SameA.len {L M : List (Str × Int)} (s : SameA L M) (n1 : (L.map (·.1)).Nodup) (n2 : (M.map (·.1)).Nodup) : L.length = M.length := by
  have h1 := List.Nodup.length_le_of_subset n1 fun x hx => s.keys hx
  have h2 := List.Nodup.length_le_of_subset n2 fun x hx => SameA.keys (fun y => (s y).symm) hx
  rw [List.length_map, List.length_map] at h1 h2
  omega
theorem keysI {L : List (Str × Int)} {i : Nat} {k : Key} {v : V} (h : (intK L)[i]? = some (k, v)) : ∃ e, L[i]? = some e ∧ k = .inr e.1 ∧ v = .int e.2 := by
  unfold intK at h
  rw [List.getElem?_map] at h
  obtain ⟨e, he, q⟩ := Option.map_eq_some_iff.mp h
  exact ⟨e, he, (Prod.mk.inj q).1.symm, (Prod.mk.inj q).2.symm⟩
theorem all_repl (n : Nat) : (List.replicate n true).all id = true := by simp

theorem putA_mem {A : List (Str × Int)} {x y : Str} {v : Int} : y ∈ (putA A x v).map (·.1) ↔ y = x ∨ y ∈ A.map (·.1) := by
  rw [← aget_mem, aget_put, ← aget_mem]
  by_cases c : x = y
  · rw [if_pos c]; simp [c]
  · rw [if_neg c]; simp [Ne.symm c]
theorem putA_nd {A : List (Str × Int)} {x : Str} {v : Int} (nd : (A.map (·.1)).Nodup) : ((putA A x v).map (·.1)).Nodup := by
  by_cases h : x ∈ A.map (·.1)
  · rw [putA_keys h]; exact nd
  · rw [putA_new h, List.map_append]
    exact nd_snoc nd h
theorem putA_len (A : List (Str × Int)) (x : Str) (v : Int) : (putA A x v).length ≤ A.length + 1 := by
  by_cases h : x ∈ A.map (·.1)
  · rw [show putA A x v = A.map (fun e => if e.1 = x then (x, v) else e) from if_pos (anyA.mpr h), List.length_map]; omega
  · rw [putA_new h, List.length_append] <;> exact Nat.le_refl _
theorem with_restS {R : L2.St → Hp → Prop} {G : Prop} (C : L2.St → Hp → Prop) (r : ∀ σ H, C σ H → R σ H) (g : (∀ σ H, C σ H → R σ H) → G) : G := g r
theorem ite_both {A B : Prop} {c : Bool} (h1 : c = true → A) (h2 : c = false → B) : if c = true then A else B := by
  cases c with
  | true => rw [if_pos rfl]; exact h1 rfl
  | false => rw [if_neg (by decide)]; exact h2 rfl
theorem flats_str (xs : List Str) : (xs.map V.str).all flatV = true := by
  rw [List.all_eq_true]
  intro v hv
  obtain ⟨x, _, rfl⟩ := List.mem_map.mp hv
  rfl
theorem items_int {L : List (Str × Int)} {i : Nat} {x1 x2 : V} (g1 : ((intK L)[i]?.map fun kv => kV kv.1) = some x1) (g2 : ((intK L)[i]?.map Prod.snd) = some x2) : ∃ e, L[i]? = some e ∧ x1 = .str e.1 ∧ x2 = .int e.2 := by
  unfold intK at g1 g2
  rw [List.getElem?_map] at g1 g2
  cases c : L[i]? with
  | none => rw [c] at g1; cases g1
  | some e => rw [c] at g1 g2; exact ⟨e, rfl, (Option.some.inj g1).symm, (Option.some.inj g2).symm⟩
end K5

set_option Elab.async false
set_option linter.all false
set_option maxRecDepth 100000
set_option maxHeartbeats 4000000
namespace K5
open PySem PySem.Spec PyProof.Rows L2 Cs CsU
abbrev Sh := Str × List Int
def pairO (e g : Sh) : Option (List (Str × Int)) := if e.1 = g.1 then (match e.2.filter fun v => decide (v ∈ g.2) with
  | [] => none
  | v :: _ => some [(e.1, v)]) else some [(e.1, e.2.headD 0), (g.1, g.2.headD 0)]
def outF (B C : List Sh) : Option (List (Str × Int)) := B.findSome? fun e => C.findSome? fun g => pairO e g
theorem some_at {α β : Type} {l : List α} {i : Nat} {e : α} {f : α → Option β} {A : β} (h : l[i]? = some e) (n : (l.take i).findSome? f = none) (g : f e = some A) : l.findSome? f = some A := by
  have hi := (List.getElem?_eq_some_iff.mp h)
  have : l = l.take i ++ e :: l.drop (i + 1) := by
    rw [← hi.2, List.getElem_cons_drop, List.take_append_drop]
  rw [this, List.findSome?_append, n, List.findSome?_cons, g] <;> rfl
theorem none_snoc {α β : Type} {l : List α} {i : Nat} {e : α} {f : α → Option β} (h : l[i]? = some e) (n : (l.take i).findSome? f = none) (g : f e = none) : (l.take (i + 1)).findSome? f = none := by
  rw [List.take_add_one, h, List.findSome?_append, n]
  show Option.or none (List.findSome? f [e]) = none
  rw [List.findSome?_cons, g] <;> rfl
theorem shape_at {N : List Ent} {i : Nat} {e : Ent} (h : N[i]? = some e) : (shape N)[i]? = some (e.1, e.2.2) := by
  unfold shape
  rw [List.getElem?_map, h] <;> rfl
structure Sid (N : List Ent) : Prop where
  srt : ∀ e ∈ N, Srt e.2.2 ∧ e.2.2.length ≤ 31 ∧ e.2.2 ≠ []
theorem head_at {ns : List Int} (h : ns ≠ []) : (ns.map V.int)[0]? = some (.int (ns.headD 0)) := by
  cases ns with
  | nil => exact absurd rfl h
  | cons a l => rfl
section
variable {P : Program} {w : World} {K : PySem.W.Frag} {mg : Str → Option Value} {base : Heap}
abbrev sOut : Stmt := topS 8
abbrev nOut : List Str := ["beyond_first", "beyond_second", "name", "side", "other", "other_side", "both"]
theorem scOut : FnScope nOut ["beyond_first", "beyond_second"] (defScope sOut) := ⟨rfl, rfl, rfl, by decide +kernel, rfl, by decide +kernel, by decide +kernel⟩
def spOut : Sp := fun vs H Q _ => ∃ (a b : Addr) (N C : List Ent), vs = [.ref a, .ref b] ∧ Bu H a N ∧ Bu H b C ∧ a ≠ b ∧ Sid N ∧ Sid C ∧
  (∀ A, outF (shape N) (shape C) = some A → ∀ H' p, Same H H' → H p = none → H' p = some (.dK (intK A)) → Q (.ref p) H') ∧ (outF (shape N) (shape C) = none → ∀ H', Same H H' → Q .non H')
theorem ok_out {f fC : Addr} {fd fdC : FuncData} (F : Fun K "_outside_values" "_outside_values" sOut f fd) (B : Bt mg) (Co : Call P w K mg base 1 "common" fC fdC ["first", "second"] (spTwo K fun ns ks k => k ∈ ns ∧ k ∈ ks)) :
    FnOk P w K mg base CX0 2 f fd ["beyond_first", "beyond_second"] spOut := by
  refine F.ok scOut (fun vs H Q E h => ?_) (fun cdv A outer s H vs Q E hr h => ?_)
  · obtain ⟨a, b, N, C, rfl, _⟩ := h
    rfl
  · obtain ⟨a, b, N, C, rfl, bn, bc, ab, sn, sc, q1, q2⟩ := h
    have hu := hu_of hr
    have nd := scOut.nd
    refine ⟨_, pss_cons (ps_lock (ps_for PassesOwn.never rfl (pi_items (pv 0)) (pg_tup rfl (pgs_cons (pg_name (i := 2) nd rfl (.inl rfl)) (pgs_cons (pg_name (i := 3) nd rfl (.inl rfl)) pgs_nil)))
      (pss_one (ps_lock (ps_for PassesOwn.never rfl (pi_items (pv 1)) (pg_tup rfl (pgs_cons (pg_name (i := 4) nd rfl (.inl rfl)) (pgs_cons (pg_name (i := 5) nd rfl (.inl rfl)) pgs_nil)))
        (pss_cons (ps_if (pt_cmpR op_ne (pv 2) (pv 4) rfl) (pss_one (ps_ret (pe_disp (pps_cons (pv 2) (pe_ix ix_list (pv 3) pe_int (fun _ _ => rfl)) (pps_cons (pv 4) (pe_ix ix_list (pv 5) pe_int (fun _ _ => rfl)) pps_nil)) (by rfl) (by rfl) (fun z => by cases z) (by decide)))) pss_nil)
        (pss_cons (ps_set (i := 6) nd rfl (.inl rfl) (pe_call Co.ok hr (by rfl) Co.at_ Co.kp Co.bd .nil pass0 (pa_cons (pv 3) (pa_cons (pv 5) pa_nil))))
        (pss_one (ps_if (pt_cmpR op_gt (pe_callB call_len_seq (by rfl) B.len PySem.boot_len (pa_cons (pv 6) pa_nil)) pe_int rfl) (pss_one (ps_ret (pe_disp (pps_cons (pv 2) (pe_ix ix_list (pv 6) pe_int (fun _ _ => rfl)) pps_nil) (by rfl) (by rfl) (fun z => by cases z) (by decide)))) pss_nil)))))))))
      (pss_one (ps_ret pe_non)), ?_⟩
    refine ⟨a, _, bn.un, trivial, fun od => ?_⟩
    have ln : ∀ {H' : Hp}, Same (upd H a (.frz od (.dK (entK N)))) H' → Bx H' a N := fun s => (bn.toBx.lock (od := od) bn.un).same s
    have lc : ∀ {H' : Hp}, Same (upd H a (.frz od (.dK (entK N)))) H' → Bx H' b C := fun s => (bc.toBx.lock (od := od) bn.un).same s
    have eb : (upd H a (.frz od (.dK (entK N)))) b = some (.dK (entK C)) := by rw [upd_ne ab.symm]; exact bc.un
    refine ⟨.ref a, rfl, a, od, entK N, rfl, upd_same, for_it walk_items (fun i σ H' => ∃ (y2 y3 y4 y5 y6 : Option V), σ = [some (.ref a), some (.ref b), y2, y3, y4, y5, y6] ∧ Same (upd H a (.frz od (.dK (entK N)))) H' ∧ ((shape N).take i).findSome? (fun e => (shape C).findSome? fun g => pairO e g) = none)
      ⟨none, none, none, none, none, rfl, Same.refl _, rfl⟩ (fun i σ H' _ h => by obtain ⟨_, _, _, _, _, _, h, _⟩ := h; exact h _ _ upd_same) ?_ ?_⟩
    · rintro i x σ H' H'' hi ⟨y2, y3, y4, y5, y6, rfl, sm, no⟩ ⟨T, x1, x2, rfl, nT, rfl, g1, g2⟩
      obtain ⟨e, he, rfl, rfl⟩ := items_at g1 g2
      have em := List.mem_of_getElem? he
      have sT := same_new (o := HO.tup [V.str e.1, V.ref e.2.1]) nT
      have smT := sm.trans sT
      have eTT := upd_same (H := H') (a := T) (o := HO.tup [V.str e.1, V.ref e.2.1])
      generalize upd H' T (HO.tup [V.str e.1, V.ref e.2.1]) = HT at smT eTT ⊢
      clear sT
      refine ⟨T, _, rfl, .inl (.inl eTT), rfl, _, _, rfl, _, [], rfl, rfl, ?_⟩
      have ebT := smT _ _ eb
      refine ⟨b, _, ebT, trivial, fun od2 => ?_⟩
      have ln2 : ∀ {H' : Hp}, Same (upd HT b (.frz od2 (.dK (entK C)))) H' → Bx H' a N := fun s => ((ln smT).lock (od := od2) ebT).same s
      have lc2 : ∀ {H' : Hp}, Same (upd HT b (.frz od2 (.dK (entK C)))) H' → Bx H' b C := fun s => ((lc smT).lock (od := od2) ebT).same s
      -- what is said behind both locks
      have back : ∀ {H3 : Hp}, Same (upd HT b (.frz od2 (.dK (entK C)))) H3 → H3 b = some (.frz od2 (.dK (entK C))) ∧ (upd H3 b (.dK (entK C))) a = some (.frz od (.dK (entK N))) ∧ Same H (upd (upd H3 b (.dK (entK C))) a (.dK (entK N))) := fun s => by
        have h1 := unlock ebT s
        have h2 := smT.trans h1
        exact ⟨s _ _ upd_same, h2 _ _ upd_same, unlock bn.un h2⟩
      have free : ∀ {H3 : Hp} {p : Addr}, Same (upd HT b (.frz od2 (.dK (entK C)))) H3 → H3 p = none → H p = none ∧ p ≠ a ∧ p ≠ b := fun {H3 p} s n => by
        obtain ⟨h1, h2, h3⟩ := back s
        have pb : p ≠ b := fun z => by rw [z, h1] at n; cases n
        have pa : p ≠ a := fun z => by rw [z] at n; rw [upd_ne ab, n] at h2; cases h2
        refine ⟨h3.free ?_, pa, pb⟩
        rw [upd_ne pa, upd_ne pb]; exact n
      refine ⟨.ref b, rfl, b, od2, entK C, rfl, upd_same, for_it walk_items (fun j σ H' => ∃ (y4 y5 y6 : Option V), σ = [some (.ref a), some (.ref b), some (.str e.1), some (.ref e.2.1), y4, y5, y6] ∧ Same (upd HT b (.frz od2 (.dK (entK C)))) H' ∧ ((shape C).take j).findSome? (fun g => pairO (e.1, e.2.2) g) = none)
        ⟨_, _, _, rfl, Same.refl _, rfl⟩ (fun i σ H' _ h => by obtain ⟨_, _, _, _, h, _⟩ := h; exact h _ _ upd_same) ?_ ?_⟩
      · rintro j x σ H1 H1' hj ⟨z4, z5, z6, rfl, sm1, no1⟩ ⟨T2, x1, x2, rfl, nT2, rfl, g1, g2⟩
        obtain ⟨g, hg, rfl, rfl⟩ := items_at g1 g2
        have gm := List.mem_of_getElem? hg
        have sm2 := sm1.trans (same_new (o := HO.tup [V.str g.1, V.ref g.2.1]) nT2)
        have eT2 := upd_same (H := H1) (a := T2) (o := HO.tup [V.str g.1, V.ref g.2.1])
        generalize upd H1 T2 (HO.tup [V.str g.1, V.ref g.2.1]) = H2 at sm2 eT2 ⊢
        refine ⟨T2, _, rfl, .inl (.inl eT2), rfl, _, _, rfl, _, [], rfl, rfl, ?_⟩
        have ee := (ln2 sm2).sides e em
        have eg := (lc2 sm2).sides g gm
        obtain ⟨r1, r2, r3⟩ := sn.srt e em
        obtain ⟨t1, t2, t3⟩ := sc.srt g gm
        refine ⟨.str e.1, rfl, .str g.1, rfl, rfl, _, rfl, ?_⟩
        by_cases c : e.1 = g.1
        · rw [decide_eq_true (congrArg V.str c)]
          refine iteF ⟨.ref e.2.1, rfl, .ref g.2.1, rfl, e.2.1, g.2.1, e.2.2, g.2.2, rfl, sl_map ee, sl_map eg, r2, t2, fun H3 l ms s3 nl el sr mem few => ?_⟩
          have ems : ms = e.2.2.filter fun v => decide (v ∈ g.2.2) := srt_ext sr (srt_filter r1 _) fun k => by
            rw [List.mem_filter, decide_eq_true_iff]
            exact mem k
          have sm3 := sm2.trans s3
          refine ⟨.ref l, rfl, l, _, rfl, .inl (sl_map el), _, 0, rfl, rfl, _, rfl, ?_⟩
          rw [List.length_map]
          cases em0 : ms with
          | nil =>
            have pn : pairO (e.1, e.2.2) (g.1, g.2.2) = none := by
              unfold pairO
              rw [if_pos c]
              show (match e.2.2.filter fun v => decide (v ∈ g.2.2) with
                | [] => none
                | v :: _ => some [(e.1, v)]) = none
              rw [← ems, em0]
            exact iteF ⟨_, _, _, rfl, sm3, none_snoc (shape_at hg) no1 pn⟩
          | cons v l2 =>
            have pn : pairO (e.1, e.2.2) (g.1, g.2.2) = some [(e.1, v)] := by
              unfold pairO
              rw [if_pos c]
              show (match e.2.2.filter fun v => decide (v ∈ g.2.2) with
                | [] => none
                | v :: _ => some [(e.1, v)]) = _
              rw [← ems, em0]
            have fin := some_at (shape_at he) no (some_at (shape_at hg) no1 pn)
            rw [em0] at el
            rw [decide_eq_true (by rw [List.length_cons]; omega)]
            refine iteT fun p np => ⟨.str e.1, rfl, .ref l, rfl, l, (v :: l2).map V.int, _, .int v, rfl, rfl, sl_map (same_new np _ _ el), atI_nat (j := 0) rfl, upd_same, [(Sum.inr e.1, V.int v)], rfl, by show 1 ≤ 15; decide, ?_⟩
            have s4 := sm3.trans (same_at (o := HO.dK (mergeK [] [(Sum.inr e.1, V.int v)])) (same_new (o := HO.dK []) np) np)
            obtain ⟨f1, f2, f3⟩ := free sm3 np
            obtain ⟨k1, k2, k3⟩ := back s4
            refine ⟨k1, k2, q1 _ fin _ p k3 f1 ?_⟩
            rw [upd_ne f2, upd_ne f3, upd_same] <;> rfl
        · rw [decide_eq_false fun z => c (V.str.inj z)]
          have pn : pairO (e.1, e.2.2) (g.1, g.2.2) = some [(e.1, e.2.2.headD 0), (g.1, g.2.2.headD 0)] := if_neg c
          have fin := some_at (shape_at he) no (some_at (shape_at hg) no1 pn)
          refine iteT fun p np => ?_
          have sp := same_new (o := HO.dK []) np
          refine ⟨.str e.1, rfl, .ref e.2.1, rfl, e.2.1, _, _, .int (e.2.2.headD 0), rfl, rfl, sl_map (sp _ _ ee), atI_nat (j := 0) (head_at r3), .str g.1, rfl, .ref g.2.1, rfl, g.2.1, _, _, .int (g.2.2.headD 0), rfl, rfl, sl_map (sp _ _ eg), atI_nat (j := 0) (head_at t3), upd_same, [(Sum.inr e.1, V.int (e.2.2.headD 0)), (Sum.inr g.1, V.int (g.2.2.headD 0))], rfl, by show 2 ≤ 15; decide, ?_⟩
          have em2 : mergeK [] [(Sum.inr e.1, V.int (e.2.2.headD 0)), (Sum.inr g.1, V.int (g.2.2.headD 0))] = intK [(e.1, e.2.2.headD 0), (g.1, g.2.2.headD 0)] := by
            show putK (putK (intK []) (Sum.inr e.1) (V.int (e.2.2.headD 0))) (Sum.inr g.1) (V.int (g.2.2.headD 0)) = _
            rw [putK_int, putK_int, putA_new (A := []) (fun z => nomatch z), putA_new]
            · rfl
            · intro z
              exact c (List.mem_singleton.mp z).symm
          rw [em2]
          have s4 := sm2.trans (same_at (o := HO.dK (intK [(e.1, e.2.2.headD 0), (g.1, g.2.2.headD 0)])) sp np)
          obtain ⟨f1, f2, f3⟩ := free sm2 np
          obtain ⟨k1, k2, k3⟩ := back s4
          refine ⟨k1, k2, q1 _ fin _ p k3 f1 ?_⟩
          rw [upd_ne f2, upd_ne f3, upd_same]
      · rintro σ H1 ⟨z4, z5, z6, rfl, sm1, no1⟩
        rw [entK_len] at no1
        have no2 : (shape C).findSome? (fun g => pairO (e.1, e.2.2) g) = none := by
          rw [← List.take_length (l := shape C), show (shape C).length = C.length from List.length_map _]; exact no1
        exact ⟨sm1 _ _ upd_same, _, _, _, _, _, rfl, smT.trans (unlock ebT sm1), none_snoc (shape_at he) no no2⟩
    · rintro σ H1 ⟨z2, z3, z4, z5, z6, rfl, sm1, no1⟩
      rw [entK_len] at no1
      refine ⟨sm1 _ _ upd_same, q2 ?_ _ (unlock bn.un sm1)⟩
      unfold outF
      rw [← List.take_length (l := shape N), show (shape N).length = N.length from List.length_map _]; exact no1
end
end K5

set_option Elab.async false
set_option linter.all false
set_option maxRecDepth 100000
set_option maxHeartbeats 4000000
namespace K5
open PySem PySem.Spec PyProof.Rows L2 Cs CsU
inductive Ans where
  | first | second
  | join (x : Str)
  | out (A : List (Str × Int))
theorem pay {x y a b : V} (h : (some (HO.tup [x, a]) : Option HO) = some (HO.tup [y, b])) : a = b := (List.cons.inj (List.cons.inj (HO.tup.inj (Option.some.inj h))).2).1
def baseF (T : List Ent) : List (Str × Int) := T.map fun e => (e.1, e.2.2.headD 0)
def putAll (B A : List (Str × Int)) : List (Str × Int) := A.foldl (fun acc p => putA acc p.1 p.2) B
def covF (T F G : List Ent) : Ans := if (∃ e ∈ T, e.2.2 = []) ∨ bey T F = [] then .first else if bey T G = [] then .second else
  match outF (bey T F) (bey T G) with
  | none => .join (((bey T F).map (·.1)).headD "")
  | some A => .out (putAll (baseF T) A)
def AnsAt (H : Hp) (t : Addr) : Ans → Prop
  | .first => H t = some (.tup [.str "first", .non])
  | .second => H t = some (.tup [.str "second", .non])
  | .join x => H t = some (.tup [.str "join", .str x])
  | .out A => ∃ d, H t = some (.tup [.str "outside", .ref d]) ∧ H d = some (.dK (intK A))
theorem putAll_K (A : List (Str × Int)) : ∀ B : List (Str × Int), mergeK (intK B) (intK A) = intK (putAll B A) := by
  induction A with
  | nil => intro B; rfl
  | cons p A ih =>
    intro B
    show mergeK (putK (intK B) (.inr p.1) (.int p.2)) (intK A) = intK (putAll (putA B p.1 p.2) A)
    rw [putK_int, ih]
theorem sid_of {N T F : List Ent} (c : Cov T F) (h : shape N = bey T F) : Sid N := ⟨fun e he => by
  have h1 : (e.1, e.2.2) ∈ bey T F := h ▸ List.mem_map_of_mem (f := fun e : Ent => (e.1, e.2.2)) he
  obtain ⟨h2, h3⟩ := List.mem_filter.mp h1
  obtain ⟨g, hg, eg⟩ := List.mem_map.mp h2
  have e2 : bad F g = e.2.2 := (Prod.mk.inj eg).2
  obtain ⟨r1, r2⟩ := c.srt g hg
  rw [← e2]
  refine ⟨srt_filter r1 _, ?_, ?_⟩
  · have := List.length_filter_le (fun v => decide (v ∉ (look F g.1).getD [])) g.2.2
    unfold bad; omega
  · rw [e2]; exact of_decide_eq_true h3⟩
theorem pairO_len {e g : Sh} {A : List (Str × Int)} (h : pairO e g = some A) : A.length ≤ 2 := by
  unfold pairO at h
  split at h
  · split at h
    · cases h
    · cases h; exact Nat.le_succ 1
  · cases h; exact Nat.le_refl 2
theorem outF_of {B C : List Sh} {A : List (Str × Int)} (h : outF B C = some A) : ∃ e ∈ B, ∃ g ∈ C, pairO e g = some A := by
  obtain ⟨e, he, h1⟩ := List.exists_of_findSome?_eq_some h
  obtain ⟨g, hg, h2⟩ := List.exists_of_findSome?_eq_some h1
  exact ⟨e, he, g, hg, h2⟩
section
variable {P : Program} {w : World} {K : PySem.W.Frag} {mg : Str → Option Value} {base : Heap}
abbrev sCov : Stmt := topS 6
abbrev nCov : List Str := ["first", "second", "box", "beyond_first", "beyond_second", "outside", "values", "name", "side"]
theorem scCov : FnScope nCov ["first", "second", "box"] (defScope sCov) := ⟨rfl, rfl, rfl, by decide +kernel, rfl, by decide +kernel, by decide +kernel⟩
def spCov : Sp := fun vs H Q _ => ∃ (f g d : Addr) (T F G : List Ent), vs = [.ref f, .ref g, .ref d] ∧ Bu H f F ∧ Bu H g G ∧ Bu H d T ∧ f ≠ d ∧ g ≠ d ∧ Cov T F ∧ Cov T G ∧ ∀ H' t, Same H H' → H t = none → AnsAt H' t (covF T F G) → (∀ d, H' t = some (.tup [.str "outside", .ref d]) → H d = none) → Q (.ref t) H'
theorem ok_cov {f fR fB fO : Addr} {fd fdR fdB fdO : FuncData} (F : Fun K "covered_by_two" "covered_by_two" sCov f fd) (B : Bt mg) (Ro : Call P w K mg base 1 "room" fR fdR ["box"] spRoom) (Be : Call P w K mg base 2 "_values_beyond" fB fdB ["box", "cover"] spBey)
    (Ou : Call P w K mg base 2 "_outside_values" fO fdO ["beyond_first", "beyond_second"] spOut) : FnOk P w K mg base CX0 3 f fd ["first", "second", "box"] spCov := by
  refine F.ok scCov (fun vs H Q E h => ?_) (fun cdv A outer s H vs Q E hr h => ?_)
  · obtain ⟨f, g, d, T, F, G, rfl, _⟩ := h
    rfl
  · obtain ⟨fa, g, d, T, Fm, Gm, rfl, bf, bg, bt, fd, gd, cf, cg, q⟩ := h
    have hu := hu_of hr
    have nd := scCov.nd
    have hr1 : Room 1 (A.deeper (envOfC "covered_by_two" (defScope sCov) s.heap.objs.size f cdv)) := hr.mono (by decide)
    refine ⟨_, pss_cons (ps_set (i := 3) nd rfl (.inl rfl) (pe_call Be.ok hr (by rfl) Be.at_ Be.kp Be.bd .nil pass0 (pa_cons (pv 2) (pa_cons (pv 0) pa_nil))))
      (pss_cons (ps_set (i := 4) nd rfl (.inl rfl) (pe_call Be.ok hr (by rfl) Be.at_ Be.kp Be.bd .nil pass0 (pa_cons (pv 2) (pa_cons (pv 1) pa_nil))))
      (pss_cons (ps_if (PW.pt (pw_or (pt_cmpR op_eq (pe_call Ro.ok hr1 (by rfl) Ro.at_ Ro.kp Ro.bd .nil pass0 (pa_cons (pv 2) pa_nil)) pe_int rfl) (pw_or1 (pt_cmpR op_eq (pe_callB call_lenD (by rfl) B.len PySem.boot_len (pa_cons (pv 3) pa_nil)) pe_int rfl)))) (pss_one (ps_ret (pe_tup (pa_cons pe_str (pa_cons pe_non pa_nil))))) pss_nil)
      (pss_cons (ps_if (pt_cmpR op_eq (pe_callB call_lenD (by rfl) B.len PySem.boot_len (pa_cons (pv 4) pa_nil)) pe_int rfl) (pss_one (ps_ret (pe_tup (pa_cons pe_str (pa_cons pe_non pa_nil))))) pss_nil)
      (pss_cons (ps_set (i := 5) nd rfl (.inl rfl) (pe_call Ou.ok hr (by rfl) Ou.at_ Ou.kp Ou.bd .nil pass0 (pa_cons (pv 3) (pa_cons (pv 4) pa_nil))))
      (pss_cons (ps_if (pt_cmp (pc_isN (pv 5))) (pss_one (ps_ret (pe_tup (pa_cons pe_str (pa_cons (pe_ix ix_list (pe_callTy (call_listD rfl) (by rfl) B.list PyProof.Rows.boot_list (pa_cons (pv 3) pa_nil)) pe_int (fun _ _ => rfl)) pa_nil))))) pss_nil)
      (pss_cons (ps_lock (ps_setDc (i := 6) (own := [("name", 7), ("side", 8)]) (g := gTup K 2 (gCons (gName 7) (gCons (gName 8) gNil))) (tt := tYes) (tk := tVar 7) (tv := tOp (rIxL K) (tVar 8) (tC (.int 0))) rfl nd rfl rfl (by rfl) (pi_items (pv 2)) (blkOk_by (N := nCov) (sc := defScope sCov) (by decide +kernel))
          (fun _ _ _ _ _ => pg_tup rfl (pgs_cons (pg_name (i := 7) nd rfl (Or.inl rfl)) (pgs_cons (pg_name (i := 8) nd rfl (Or.inl rfl)) pgs_nil))) (fun _ _ _ _ _ => pts_nil) (fun _ _ _ _ _ => pv 7)
          (fun _ _ _ _ _ => pe_ix (r := rIxL K) ix_list (pv 8) pe_int (fun _ _ => rfl))))
      (pss_cons (ps_expr (pe_bm PySem.F.plainAttrs_dict PySem.F.slot_dict_update PySem.F.type_dict_update mtd_update (pv 6) (pa_cons (pv 5) pa_nil)))
      (pss_one (ps_ret (pe_tup (pa_cons pe_str (pa_cons (pv 6) pa_nil)))))))))))), ?_⟩
    refine ⟨.ref d, rfl, .ref fa, rfl, d, fa, T, Fm, rfl, bt, bf, fd, cf, fun H1 b1 N1 s1 nb1 sh1 => ?_⟩
    refine ⟨.ref d, rfl, .ref g, rfl, d, g, T, Gm, rfl, bt.same' s1, bg.same' s1, gd, cg, fun H2 b2 N2 s2 nb2 sh2 => ?_⟩
    have nb1' := nb1.push s2
    have S2 := s1.trans s2
    have l1 : N1.length = (bey T Fm).length := by rw [← sh1]; exact (List.length_map _).symm
    have l2 : N2.length = (bey T Gm).length := by rw [← sh2]; exact (List.length_map _).symm
    have b12 : b1 ≠ b2 := fun z => by have := nb2.fresh; rw [← z, nb1.un] at this; cases this
    have tup : ∀ (H3 : Hp) (t : Addr) (x y : V), Same H H3 → H3 t = none → Same H (upd H3 t (.tup [x, y])) ∧ H t = none ∧ (upd H3 t (.tup [x, y])) t = some (.tup [x, y]) := fun H3 t x y s n => ⟨s.trans (same_new n), s.free n, upd_same⟩
    have isF : ∀ {H3 t}, Same H H3 → H3 t = none → ((∃ e ∈ T, e.2.2 = []) ∨ bey T Fm = []) → Q (.ref t) (upd H3 t (.tup [.str "first", .non])) := fun {H3 t} s n c => by
      obtain ⟨a1, a2, a3⟩ := tup H3 t (.str "first") .non s n
      refine q _ t a1 a2 ?_ fun d z => nomatch pay (a3.symm.trans z)
      unfold covF
      rw [if_pos c]
      exact a3
    refine ⟨.ref d, rfl, d, T, rfl, bt.same' S2, fun e he => by have := (cf.srt e he).2; omega, rfl, _, rfl, ite_both (fun c0 => ?_) (fun c0 => ?_)⟩
    · have z : roomE T = 0 := V.int.inj (of_decide_eq_true c0)
      exact ⟨by show 2 ≤ sizeLine; decide, fun t nt => isF S2 nt (.inl (room_zero.mp z))⟩
    have nz : ¬ ∃ e ∈ T, e.2.2 = [] := fun z => of_decide_eq_false c0 (congrArg V.int (room_zero.mpr z))
    refine ⟨.ref b1, rfl, b1, _, rfl, nb1'.un, rfl, _, rfl, ite_both (fun c1 => ?_) (fun c1 => ?_)⟩
    · have z : (((entK N1).length : Nat) : Int) = 0 := V.int.inj (of_decide_eq_true c1)
      rw [entK_len, l1] at z
      exact ⟨by show 2 ≤ sizeLine; decide, fun t nt => isF S2 nt (.inr (List.length_eq_zero_iff.mp (by omega)))⟩
    have n1 : bey T Fm ≠ [] := fun z => of_decide_eq_false c1 (by rw [entK_len, l1, z] <;> rfl)
    have nF : ¬ ((∃ e ∈ T, e.2.2 = []) ∨ bey T Fm = []) := fun z => z.elim nz n1
    refine ⟨.ref b2, rfl, b2, _, rfl, nb2.un, rfl, _, rfl, ite_both (fun c2 => ?_) (fun c2 => ?_)⟩
    · have z : (((entK N2).length : Nat) : Int) = 0 := V.int.inj (of_decide_eq_true c2)
      rw [entK_len, l2] at z
      refine ⟨by show 2 ≤ sizeLine; decide, fun t nt => ?_⟩
      obtain ⟨a1, a2, a3⟩ := tup H2 t (.str "second") .non S2 nt
      refine q _ t a1 a2 ?_ fun d z => nomatch pay (a3.symm.trans z)
      unfold covF
      rw [if_neg nF, if_pos (List.length_eq_zero_iff.mp (by omega))]
      exact a3
    have n2 : ¬ bey T Gm = [] := fun z => of_decide_eq_false c2 (by rw [entK_len, l2, z] <;> rfl)
    have ec : covF T Fm Gm = match outF (bey T Fm) (bey T Gm) with
        | none => .join (((bey T Fm).map (·.1)).headD "")
        | some A => .out (putAll (baseF T) A) := by
      unfold covF
      rw [if_neg nF, if_neg n2]
    refine ⟨.ref b1, rfl, .ref b2, rfl, b1, b2, N1, N2, rfl, nb1'.toBu, nb2.toBu, b12, sid_of cf sh1, sid_of cg sh2, fun A0 hA H3 o s3 no eo => ?_, fun hA H3 s3 => ?_⟩
    · -- outside
      rw [sh1, sh2] at hA
      rw [hA] at ec
      have S3 := S2.trans s3
      refine ⟨.ref o, rfl, _, rfl, iteF ?_⟩
      have bt3 := bt.same' S3
      have od0 : o ≠ d := fun z => by have := S2 _ _ bt.un; rw [← z, no] at this; cases this
      refine ⟨d, _, bt3.un, trivial, fun od => ?_⟩
      have bl : ∀ {H' : Hp}, Same (upd H3 d (.frz od (.dK (entK T)))) H' → Bx H' d T := fun s => (bt3.toBx.lock (od := od) bt3.un).same s
      refine ⟨.ref d, rfl, d, od, entK T, rfl, upd_same, fun D nD => dc_it walk_items (fun i H' => Same (upd H3 d (.frz od (.dK (entK T)))) H' ∧ H' D = some (.dK (intK (baseF (T.take i))))) ⟨same_new nD, upd_same⟩ (fun i H' _ h => h.1 _ _ upd_same) ?_ ?_⟩
      · rintro i x H' H'' hi ⟨sm, eD⟩ ⟨Tt, x1, x2, rfl, nT, rfl, g1, g2⟩
        obtain ⟨e, he, rfl, rfl⟩ := items_at g1 g2
        have em := List.mem_of_getElem? he
        have sT := same_new (o := HO.tup [V.str e.1, V.ref e.2.1]) nT
        have smT := sm.trans sT
        have ne : e.2.2 ≠ [] := fun z => nz ⟨e, em, z⟩
        have lb : (baseF (T.take i)).length ≤ 40 := by
          unfold baseF
          rw [List.length_map, List.length_take]
          have := bt.few
          omega
        have xn : e.1 ∉ (baseF (T.take i)).map (·.1) := fun z => by
          have : (baseF (T.take i)).map (·.1) = (T.take i).map (·.1) := by unfold baseF; rw [List.map_map] <;> rfl
          rw [this] at z
          exact take_keys bt.nd he z
        refine ⟨Tt, _, rfl, .inl (.inl upd_same), rfl, _, _, rfl, _, [], rfl, rfl, ?_⟩
        refine ⟨rfl, ?_⟩
        refine ⟨.str e.1, rfl, .ref e.2.1, rfl, e.2.1, _, _, .int (e.2.2.headD 0), rfl, rfl, sl_map ((bl smT).sides e em), atI_nat (j := 0) (head_at ne), _, .inr e.1, rfl, sT _ _ eD, ?_, same_at smT nD, ?_⟩
        · rw [intK_len]
          exact small1000 (by omega)
        · rw [upd_same, putK_int, putA_new xn]
          unfold baseF
          rw [List.take_add_one, he, List.map_append] <;> rfl
      · rintro H4 ⟨sm, eD⟩
        rw [entK_len, List.take_length] at eD
        have nDd : D ≠ d := fun z => by rw [z, upd_same] at nD; cases nD
        have oD : D ≠ o := fun z => by rw [z, upd_ne od0, eo] at nD; cases nD
        refine ⟨sm _ _ upd_same, ?_⟩
        have s5 := unlock bt3.un sm
        have eo5 := s5 _ _ eo
        have eD5 : (upd H4 d (.dK (entK T))) D = some (.dK (intK (baseF T))) := by rw [upd_ne nDd]; exact eD
        have nD3 : H3 D = none := by rw [upd_ne nDd] at nD; exact nD
        generalize upd H4 d (.dK (entK T)) = H5 at s5 eo5 eD5 ⊢
        have la : A0.length ≤ 2 := by obtain ⟨e, _, g, _, h⟩ := outF_of hA; exact pairO_len h
        have lb : (baseF T).length ≤ 40 := by
          unfold baseF
          rw [List.length_map]
          exact bt.few
        refine ⟨.ref D, rfl, .inr (.inr (.inl ⟨rfl, .inl ⟨_, eD5⟩⟩)), .ref o, rfl, D, o, _, _, rfl, rfl, eD5, eo5, oD, ?_, ?_⟩
        · rw [intK_len, intK_len]
          exact Nat.le_of_lt (small1000 (by omega))
        rw [putAll_K]
        have s6 : Same H3 (upd H5 D (.dK (intK (putAll (baseF T) A0)))) := same_at s5 nD3
        refine ⟨.ref D, rfl, by show 2 ≤ sizeLine; decide, fun t nt => ?_⟩
        obtain ⟨a1, a2, a3⟩ := tup _ t (.str "outside") (.ref D) (S3.trans s6) nt
        refine q _ t a1 a2 ?_ fun d z => by
          have h1 : V.ref D = V.ref d := pay (a3.symm.trans z)
          cases h1
          exact S3.free nD3
        rw [ec]
        have nDt : D ≠ t := fun z => by rw [← z, upd_same] at nt; cases nt
        exact ⟨D, a3, by rw [upd_ne nDt, upd_same]⟩
    · -- join
      rw [sh1, sh2] at hA
      rw [hA] at ec
      have S3 := S2.trans s3
      refine ⟨.non, rfl, _, rfl, iteT ?_⟩
      refine ⟨.ref b1, rfl, b1, _, rfl, .inl (s3 _ _ nb1'.un), fun l nl => ?_⟩
      obtain ⟨e1, N1', hN⟩ : ∃ e N', N1 = e :: N' := by
        cases hN : N1 with
        | nil => rw [hN] at l1; exact absurd (List.length_eq_zero_iff.mp l1.symm) n1
        | cons e N' => exact ⟨e, N', rfl⟩
      have ek : (((bey T Fm).map fun p : Sh => p.1).headD ("" : Str)) = e1.1 := by
        rw [← sh1, hN] <;> rfl
      have S4 := S3.trans (same_new (o := HO.lst ((entK N1).map fun kv => kV kv.1)) nl)
      refine ⟨l, _, _, .str e1.1, rfl, rfl, sl_map upd_same, atI_nat (j := 0) (by rw [hN] <;> rfl), by show 2 ≤ sizeLine; decide, fun t nt => ?_⟩
      obtain ⟨a1, a2, a3⟩ := tup _ t (.str "join") (.str e1.1) S4 nt
      refine q _ t a1 a2 ?_ fun d z => nomatch pay (a3.symm.trans z)
      rw [ec]
      show _ = some (HO.tup [V.str "join", V.str (((bey T Fm).map fun p : Sh => p.1).headD ("" : Str))])
      rw [ek]
      exact a3
end
end K5

set_option Elab.async false
set_option linter.all false
set_option maxRecDepth 100000
set_option maxHeartbeats 4000000
namespace K5
open PySem PySem.Spec PyProof.Rows L2 Cs CsU
abbrev Asg := List (Str × Int)
structure As (H : Hp) (ds : List (Addr × Asg)) (ks : List Str) : Prop where
  at_ : ∀ p ∈ ds, H p.1 = some (.dK (intK p.2))
  keys : ∀ p ∈ ds, p.2.map (·.1) = ks
theorem As.mono {H H' : Hp} {ds : List (Addr × Asg)} {ks : List Str} (A : As H ds ks) (h : ∀ b kvs, H b = some (.dK kvs) → H' b = some (.dK kvs)) : As H' ds ks := ⟨fun p hp => h _ _ (A.at_ p hp), A.keys⟩

/-! all choices -/
def grow (D : List Asg) (p : Sh) : List Asg := D.flatMap fun A => p.2.map fun v => A ++ [(p.1, v)]
def combos (B : List Sh) : List Asg := B.foldl grow [[]]
theorem grow_snoc (D : List Asg) (A : Asg) (p : Sh) : grow (D ++ [A]) p = grow D p ++ p.2.map fun v => A ++ [(p.1, v)] := by
  unfold grow
  rw [List.flatMap_append]
  simp
theorem combos_snoc (L : List Ent) (e : Ent) : combos (shape (L ++ [e])) = grow (combos (shape L)) (e.1, e.2.2) := by
  unfold combos shape
  rw [List.map_append, List.foldl_append] <;> rfl
theorem combos_iff (B : List Sh) : ∀ A : Asg, A ∈ combos B ↔ A.map (·.1) = B.map (·.1) ∧ ∀ (i : Nat) (x : Str) (v : Int), A[i]? = some (x, v) → ∃ s : List Int, B[i]? = some (x, s) ∧ v ∈ s := by
  have key : ∀ (B C : List Sh) (D : List Asg), (∀ A : Asg, A ∈ D ↔ A.map (·.1) = C.map (·.1) ∧ ∀ (i : Nat) (x : Str) (v : Int), A[i]? = some (x, v) → ∃ s : List Int, C[i]? = some (x, s) ∧ v ∈ s) →
      ∀ A : Asg, A ∈ B.foldl grow D ↔ A.map (·.1) = (C ++ B).map (·.1) ∧ ∀ (i : Nat) (x : Str) (v : Int), A[i]? = some (x, v) → ∃ s : List Int, (C ++ B)[i]? = some (x, s) ∧ v ∈ s := by
    intro B
    induction B with
    | nil => intro C D h A; rw [List.append_nil]; exact h A
    | cons p B ih =>
      intro C D h A
      have e : C ++ p :: B = (C ++ [p]) ++ B := by simp
      rw [e]
      refine ih (C ++ [p]) (grow D p) (fun A => ?_) A
      unfold grow
      rw [List.mem_flatMap]
      constructor
      · rintro ⟨A0, h0, h1⟩
        obtain ⟨v, hv, rfl⟩ := List.mem_map.mp h1
        obtain ⟨k1, k2⟩ := (h A0).mp h0
        have ll : A0.length = C.length := by have := congrArg List.length k1; simpa using this
        refine ⟨by rw [List.map_append, List.map_append, k1] <;> rfl, fun i x u hi => ?_⟩
        rcases Nat.lt_or_ge i A0.length with c | c
        · rw [List.getElem?_append_left c] at hi
          obtain ⟨s, hs, hu⟩ := k2 i x u hi
          exact ⟨s, by rw [List.getElem?_append_left (by omega)]; exact hs, hu⟩
        · rw [List.getElem?_append_right c] at hi
          have i0 : i - A0.length = 0 := by
            have := (List.getElem?_eq_some_iff.mp hi).1
            rw [List.length_singleton] at this
            omega
          rw [i0] at hi
          obtain ⟨rfl, rfl⟩ := Prod.mk.inj (Option.some.inj hi)
          exact ⟨p.2, by rw [List.getElem?_append_right (by omega), show i - C.length = 0 by omega] <;> rfl, hv⟩
      · rintro ⟨k1, k2⟩
        have ll : A.length = C.length + 1 := by have := congrArg List.length k1; simpa using this
        obtain ⟨z, hz⟩ : ∃ z, A[C.length]? = some z := ⟨_, List.getElem?_eq_getElem (by omega)⟩
        have eA : A = A.take C.length ++ [z] := by
          have h2 : A.take (C.length + 1) = A := List.take_of_length_le (by omega)
          have h3 := List.take_add_one (l := A) (i := C.length)
          rw [h2, hz] at h3
          exact h3
        obtain ⟨s, hs, hu⟩ := k2 C.length z.1 z.2 hz
        rw [List.getElem?_append_right (Nat.le_refl _), Nat.sub_self] at hs
        have hp : p = (z.1, s) := Option.some.inj hs
        refine ⟨A.take C.length, (h _).mpr ⟨?_, fun i x v hi => ?_⟩, List.mem_map.mpr ⟨z.2, by rw [hp]; exact hu, ?_⟩⟩
        · have := congrArg (List.take C.length) k1
          rw [← List.map_take, List.map_append, List.take_append_of_le_length (by rw [List.length_map]; exact Nat.le_refl _), show List.take C.length (List.map (fun x : Sh => x.1) C) = C.map (fun x => x.1) from List.take_of_length_le (by rw [List.length_map]; exact Nat.le_refl _)] at this
          exact this
        · have hi' := (List.getElem?_eq_some_iff.mp hi).1
          rw [List.length_take] at hi'
          rw [List.getElem?_take, if_pos (by omega)] at hi
          obtain ⟨s, hs, hv⟩ := k2 i x v hi
          rw [List.getElem?_append_left (by omega)] at hs
          exact ⟨s, hs, hv⟩
        · rw [hp]
          exact eA.symm
  have := key B [] [[]] (fun A => by
    constructor
    · intro h; rw [List.mem_singleton.mp h]; exact ⟨rfl, fun i x v hi => by simp at hi⟩
    · rintro ⟨h, _⟩
      have := congrArg List.length h
      rw [List.length_map] at this
      rw [List.length_eq_zero_iff.mp this]; exact List.mem_singleton.mpr rfl)
  exact this
section
variable {P : Program} {w : World} {K : PySem.W.Frag} {mg : Str → Option Value} {base : Heap}
abbrev sAssign : Stmt := topS 18
abbrev nAssign : List Str := ["_law_names_here", "_law_sides_here", "_law_found", "_law_name", "_law_grown", "_law_values", "_law_value", "_law_more"]
theorem scAssign : FnScope nAssign ["_law_names_here", "_law_sides_here"] (defScope sAssign) := ⟨rfl, rfl, rfl, by decide +kernel, rfl, by decide +kernel, by decide +kernel⟩
def spAssign : Sp := fun vs H Q _ => ∃ (nm sd : Addr) (W : List Ent), vs = [.ref nm, .ref sd] ∧ H nm = some (.lst ((W.map (·.1)).map V.str)) ∧ Bu H sd W ∧ W.length ≤ 5 ∧ (∀ e ∈ W, e.2.2.length ≤ 5) ∧
  ∀ (H' : Hp) (l : Addr) (ds : List (Addr × Asg)), Same H H' → H' l = some (.lst (ds.map fun p => V.ref p.1)) → As H' ds (W.map (·.1)) → ds.length ≤ 10000 → ds.map (·.2) = combos (shape W) → (∀ p ∈ ds, H p.1 = none) → Q (.ref l) H'
theorem ok_assign {f : Addr} {fd : FuncData} {k : Nat} (F : Fun K "_law_assignments" "_law_assignments" sAssign f fd) (B : Bt mg) : FnOk P w K mg base CX0 (k + 1) f fd ["_law_names_here", "_law_sides_here"] spAssign := by
  refine F.ok scAssign (fun vs H Q E h => ?_) (fun cdv A outer s H vs Q E hr h => ?_)
  · obtain ⟨nm, sd, W, rfl, _⟩ := h
    rfl
  · obtain ⟨nm, sd, W, rfl, enm, bw, xl0, cov, q⟩ := h
    obtain ⟨xs, exs⟩ : ∃ xs, xs = W.map (·.1) := ⟨_, rfl⟩
    have xnd : xs.Nodup := exs ▸ bw.nd
    have xl : xs.length ≤ 5 := by rw [exs, List.length_map]; exact xl0
    rw [← exs] at enm
    have hu := hu_of hr
    have nd := scAssign.nd
    refine ⟨_, pss_cons (ps_set (i := 2) nd rfl (.inl rfl) (pe_lst (pa_cons pe_dnewK pa_nil)))
      (pss_cons (ps_for PassesOwn.never rfl (pi_list (pv 0)) (pg_name (i := 3) nd rfl (.inl rfl))
        (pss_cons (ps_set (i := 4) nd rfl (.inl rfl) (pe_lst pa_nil))
        (pss_cons (ps_for PassesOwn.never rfl (pi_list (pe_callTy call_list_of (by rfl) B.list PyProof.Rows.boot_list (pa_cons (pv 2) pa_nil))) (pg_name (i := 5) nd rfl (.inl rfl))
          (pss_one (ps_for PassesOwn.never rfl (pi_list (pe_dget hu (pv 1) (pv 3) (fun _ _ => rfl))) (pg_name (i := 6) nd rfl (.inl rfl))
            (pss_cons (ps_set (i := 7) nd rfl (.inl rfl) (pe_callTy call_dictD (by rfl) B.dict PyProof.Rows.boot_dict (pa_cons (pv 5) pa_nil)))
            (pss_cons (ps_dput hu (pv 7) (pv 3) (pv 6) rfl)
            (pss_one (ps_expr (pe_bm PySem.F.plainAttrs_list PySem.F.slot_list_append PySem.F.type_list_append mt_append (pv 4) (pa_cons (pv 7) pa_nil)))))))))
        (pss_one (ps_set (i := 2) nd rfl (.inl rfl) (pv 4))))))
      (pss_one (ps_ret (pv 2)))), ?_⟩
    intro d0 n0
    refine ⟨by show 1 ≤ sizeLine; decide, fun f0 nf0 => ?_⟩
    have t1 := same_new (o := HO.dK []) n0
    have t2 := t1.trans (same_new (o := HO.lst [V.ref d0]) nf0)
    have n12 : d0 ≠ f0 := fun z => by rw [← z, upd_same] at nf0; cases nf0
    refine ⟨.ref nm, rfl, nm, rfl, ⟨_, sl_map (t2 _ _ enm)⟩, for_list (xs := xs.map V.str) (fun i σ H' => ∃ (f : Addr) (ds : List (Addr × Asg)) (y3 y4 y5 y6 y7 : Option V), σ = [some (.ref nm), some (.ref sd), some (.ref f), y3, y4, y5, y6, y7] ∧ Same H H' ∧ H' f = some (.lst (ds.map fun p => V.ref p.1)) ∧ As H' ds (xs.take i) ∧ ds.length ≤ 5 ^ i ∧ ds.map (·.2) = combos (shape (W.take i)) ∧ ∀ p ∈ ds, H p.1 = none)
      ⟨f0, [(d0, [])], none, none, none, none, none, rfl, t2, upd_same, ⟨fun p hp => ?_, fun p hp => ?_⟩, Nat.le_refl _, rfl, fun p hp => by rw [List.mem_singleton.mp hp]; exact n0⟩ (fun i σ H' _ h => by obtain ⟨f, ds, y3, y4, y5, y6, y7, _, s, _⟩ := h; exact sl_map (s _ _ enm)) ?_ ?_⟩
    · rw [List.mem_singleton.mp hp, upd_ne n12]; exact upd_same
    · rw [List.mem_singleton.mp hp]; rfl
    · rintro i x σ H' hx ⟨f, ds, y3, y4, y5, y6, y7, rfl, sm, ef, as, len, cmb, dfr⟩
      rw [List.getElem?_map] at hx
      obtain ⟨x, hv, rfl⟩ := Option.map_eq_some_iff.mp hx
      have xm := List.mem_of_getElem? hv
      have hi := (List.getElem?_eq_some_iff.mp hv).1
      rw [exs, List.getElem?_map] at hv
      obtain ⟨e, hW, rfl⟩ := Option.map_eq_some_iff.mp hv
      have em := List.mem_of_getElem? hW
      have sl := cov e em
      have hv : xs[i]? = some e.1 := by rw [exs, List.getElem?_map, hW] <;> rfl
      have p5 : 5 ^ i ≤ 625 := Nat.pow_le_pow_right (n := 5) (j := 4) (by decide) (by omega)
      have xnew : e.1 ∉ xs.take i := fun z => by
        obtain ⟨j, hj⟩ := List.mem_iff_getElem?.mp z
        rw [List.getElem?_take] at hj
        split at hj
        · have := nd_ix xnd hj hv
          omega
        · cases hj
      refine ⟨by show 0 ≤ sizeLine; decide, fun g ng => ?_⟩
      have ng0 : H g = none := sm.free ng
      have sg := same_new (o := HO.lst ([] : List V)) ng
      refine ⟨.ref f, rfl, f, _, rfl, .inl (sl_map (sg _ _ ef)), fun c nc => ?_⟩
      have ncg : c ≠ g := fun z => by rw [z, upd_same] at nc; cases nc
      have sc := sg.trans (same_new (o := HO.lst (ds.map fun p => V.ref p.1)) nc)
      refine ⟨c, rfl, ⟨_, sl_map upd_same⟩, for_list (xs := ds.map fun p => V.ref p.1) (fun j σ H2 => ∃ (gs : List (Addr × Asg)) (y5 y6 y7 : Option V), σ = [some (.ref nm), some (.ref sd), some (.ref f), some (.str e.1), some (.ref g), y5, y6, y7] ∧ Same H H2 ∧ H2 c = some (.lst (ds.map fun p => V.ref p.1)) ∧ As H2 ds (xs.take i) ∧ H2 g = some (.lst (gs.map fun p => V.ref p.1)) ∧ As H2 gs (xs.take (i + 1)) ∧ gs.length ≤ j * 5 ∧ gs.map (·.2) = grow ((ds.map (·.2)).take j) (e.1, e.2.2) ∧ ∀ p ∈ gs, H p.1 = none)
        ⟨[], y5, y6, y7, rfl, sm.trans sc, upd_same, as.mono fun b kvs h => sc _ _ h, by rw [upd_ne ncg.symm]; exact upd_same, ⟨(fun _ h => nomatch h), (fun _ h => nomatch h)⟩, Nat.zero_le _, rfl, (fun _ h => nomatch h)⟩ (fun j σ H2 _ h => by obtain ⟨gs, y5, y6, y7, _, _, h, _⟩ := h; exact sl_map h) ?_ ?_⟩
      · rintro j x σ H2 hx2 ⟨gs, y5, y6, y7, rfl, sm2, ec, as2, eg, ag, lg, cg, gfr⟩
        rw [List.getElem?_map] at hx2
        obtain ⟨⟨a, A0⟩, hv2, rfl⟩ := Option.map_eq_some_iff.mp hx2
        have am := List.mem_of_getElem? hv2
        have hj := (List.getElem?_eq_some_iff.mp hv2).1
        have b2 := bw.same' sm2
        have gv := b2.toBx.get e.1
        rw [getE_of bw.nd em] at gv
        refine ⟨.ref sd, rfl, .str e.1, rfl, sd, .ref e.2.1, rfl, gv, e.2.1, rfl, ⟨_, sl_map (b2.sides e em)⟩, for_list (xs := e.2.2.map V.int) (fun t σ H3 => ∃ (gs : List (Addr × Asg)) (y6 y7 : Option V), σ = [some (.ref nm), some (.ref sd), some (.ref f), some (.str e.1), some (.ref g), some (.ref a), y6, y7] ∧ Same H H3 ∧ H3 c = some (.lst (ds.map fun p => V.ref p.1)) ∧ As H3 ds (xs.take i) ∧ H3 g = some (.lst (gs.map fun p => V.ref p.1)) ∧ As H3 gs (xs.take (i + 1)) ∧ gs.length ≤ j * 5 + t ∧ gs.map (·.2) = grow ((ds.map (·.2)).take j) (e.1, e.2.2) ++ ((e.2.2.take t).map fun v => A0 ++ [(e.1, v)]) ∧ ∀ p ∈ gs, H p.1 = none)
          ⟨gs, y6, y7, rfl, sm2, ec, as2, eg, ag, lg, by rw [cg, List.take_zero, List.map_nil, List.append_nil], gfr⟩ (fun t σ H3 _ h => by obtain ⟨gs, y6, y7, _, s, _⟩ := h; exact sl_map ((bw.same' s).sides e em)) ?_ ?_⟩
        · rintro t x σ H3 hx3 ⟨gs, y6, y7, rfl, sm3, ec, as3, eg, ag, lg, cg3, gfr⟩
          rw [List.getElem?_map] at hx3
          obtain ⟨v, hv3, rfl⟩ := Option.map_eq_some_iff.mp hx3
          have ht := (List.getElem?_eq_some_iff.mp hv3).1
          have ea : H3 a = some (.dK (intK A0)) := as3.at_ _ am
          have ka : A0.map (·.1) = xs.take i := as3.keys _ am
          refine ⟨.ref a, rfl, a, _, rfl, .inl ea, fun D nD => ?_⟩
          have nDg : g ≠ D := fun z => by rw [← z, eg] at nD; cases nD
          have nDc : c ≠ D := fun z => by rw [← z, ec] at nD; cases nD
          have sD := same_new (o := HO.dK (intK A0)) nD
          have lA : (intK A0).length ≤ 5 := by
            have h1 := congrArg List.length ka
            rw [List.length_map, List.length_take] at h1
            unfold intK
            rw [List.length_map]
            omega
          refine ⟨.int v, rfl, .ref D, rfl, .str e.1, rfl, D, _, rfl, DPut.k (k := .inr e.1) upd_same (small1000 (by omega)), ?_⟩
          have x0 : e.1 ∉ A0.map (·.1) := by rw [ka]; exact xnew
          rw [putK_int, putA_new x0]
          have sD2 : Same H3 (upd (upd H3 D (.dK (intK A0))) D (.dK (intK (A0 ++ [(e.1, v)])))) := same_at sD nD
          have eg2 := sD2 _ _ eg
          refine ⟨.ref g, rfl, .inl ⟨rfl, _, sl_map eg2⟩, .ref D, rfl, g, _, _, rfl, rfl, eg2, ?_, ?_⟩
          · rw [List.length_map]
            exact small10k (by omega)
          · have mono : ∀ b kvs, H3 b = some (.dK kvs) → (upd (upd (upd H3 D (.dK (intK A0))) D (.dK (intK (A0 ++ [(e.1, v)])))) g (.lst ((gs.map fun p => V.ref p.1) ++ [V.ref D]))) b = some (.dK kvs) := fun b kvs h => by
              have h1 : b ≠ g := fun z => by rw [z, eg] at h; cases h
              rw [upd_ne h1]
              exact sD2 _ _ h
            refine ⟨gs ++ [(D, A0 ++ [(e.1, v)])], _, _, rfl, same_at (sm3.trans sD2) ng0, ?_, as3.mono mono, ?_, ⟨fun p hp => ?_, fun p hp => ?_⟩, ?_, by rw [List.map_append, cg3, List.take_add_one, hv3, List.map_append, List.append_assoc] <;> rfl, fun p hp => (List.mem_append.mp hp).elim (gfr p) fun z => by rw [List.mem_singleton.mp z]; exact sm3.free nD⟩
            · rw [upd_ne ncg]
              exact sD2 _ _ ec
            · rw [upd_same, List.map_append]
              rfl
            · rcases List.mem_append.mp hp with z | z
              · exact mono _ _ (ag.at_ p z)
              · rw [List.mem_singleton.mp z, upd_ne nDg.symm]
                exact upd_same
            · rcases List.mem_append.mp hp with z | z
              · exact ag.keys p z
              · rw [List.mem_singleton.mp z, List.map_append, ka, List.take_add_one, hv]
                rfl
            · rw [List.length_append]
              show gs.length + 1 ≤ j * 5 + (t + 1)
              omega
        · rintro σ H3 ⟨gs, y6, y7, rfl, sm3, ec, as3, eg, ag, lg, cg3, gfr⟩
          rw [List.length_map] at lg cg3
          rw [List.take_length] at cg3
          refine ⟨gs, _, _, _, rfl, sm3, ec, as3, eg, ag, by omega, ?_, gfr⟩
          have hA : (ds.map (·.2))[j]? = some A0 := by rw [List.getElem?_map, hv2] <;> rfl
          rw [cg3, List.take_add_one, hA]
          exact (grow_snoc _ A0 (e.1, e.2.2)).symm
      · rintro σ H2 ⟨gs, y5, y6, y7, rfl, sm2, ec, as2, eg, ag, lg, cg, gfr⟩
        rw [List.length_map] at lg cg
        refine ⟨_, rfl, g, gs, _, _, _, _, _, rfl, sm2, eg, ag, ?_, ?_, gfr⟩
        · rw [Nat.pow_succ]
          omega
        · rw [cg, List.take_of_length_le (by rw [List.length_map]; exact Nat.le_refl _), cmb, List.take_add_one, hW]
          exact (combos_snoc (W.take i) e).symm
    · rintro σ H' ⟨f, ds, y3, y4, y5, y6, y7, rfl, sm, ef, as, len, cmb, dfr⟩
      rw [List.length_map] at as len cmb
      rw [List.take_length] at as
      rw [exs, List.length_map, List.take_length] at cmb
      rw [exs] at as
      have p5 : 5 ^ xs.length ≤ 3125 := Nat.pow_le_pow_right (n := 5) (j := 5) (by decide) xl
      exact ⟨_, rfl, q H' f ds sm ef as (by omega) cmb dfr⟩
abbrev sLHolds : Stmt := topS 24
abbrev nLHolds : List Str := ["_law_sides_here", "_law_values", "_law_name"]
theorem scLHolds : FnScope nLHolds ["_law_sides_here", "_law_values"] (defScope sLHolds) := ⟨rfl, rfl, rfl, by decide +kernel, rfl, by decide +kernel, by decide +kernel⟩
def spHolds : Sp := fun vs H Q _ => ∃ (d v : Addr) (L : List Ent) (A : List (Str × Int)), vs = [.ref d, .ref v] ∧ Bu H d L ∧ Ax H v A ∧ d ≠ v ∧ (∀ e ∈ L, ∃ z, aget A e.1 = some z) ∧ ∀ H', Same H H' → Q (.bl (holdsE L A)) H'
theorem ok_lholds {f : Addr} {fd : FuncData} {k : Nat} (F : Fun K "_law_holds" "_law_holds" sLHolds f fd) (B : Bt mg) : FnOk P w K mg base CX0 (k + 1) f fd ["_law_sides_here", "_law_values"] spHolds := by
  refine F.ok scLHolds (fun vs H Q E h => ?_) (fun cdv A outer s H vs Q E hr h => ?_)
  · obtain ⟨d, v, L, A, rfl, _⟩ := h
    rfl
  · obtain ⟨d, v, L, as, rfl, bx, ax, dv, cov, q⟩ := h
    have hu := hu_of hr
    have nd := scLHolds.nd
    refine ⟨_, pss_cons (ps_lock (ps_for PassesOwn.never rfl (pi_keys (pv 0)) (pg_name (i := 2) nd rfl (.inl rfl))
        (pss_one (ps_if (pt_cmpR op_notIn_seq (pe_dget hu (pv 1) (pv 2) (fun _ _ => rfl)) (pe_dget hu (pv 0) (pv 2) (fun _ _ => rfl)) rfl) (pss_one (ps_ret pe_bl)) pss_nil))))
      (pss_one (ps_ret pe_bl)), ?_⟩
    refine ⟨d, _, bx.un, trivial, fun od => ?_⟩
    have bl := bx.toBx.lock (od := od) bx.un
    have al := ax.frz (d := d) (u := .frz od (.dK (entK L))) dv.symm
    refine ⟨.ref d, rfl, d, od, rfl, .inl ⟨entK L, upd_same, for_it walk_keys (fun i σ H' => H' = upd H d (.frz od (.dK (entK L))) ∧ (L.take i).all (inSide as) = true ∧ ∃ y, σ = [some (.ref d), some (.ref v), y]) ⟨rfl, rfl, none, rfl⟩ (fun i σ H' _ h => by rw [h.1]; exact upd_same) ?_ ?_⟩⟩
    · rintro i x σ H' H'' hi ⟨rfl, ev, y, rfl⟩ ⟨rfl, k1, v1, hk, rfl⟩
      obtain ⟨e, he, rfl, rfl⟩ := keys_at hk
      have em := List.mem_of_getElem? he
      obtain ⟨a, ea⟩ := cov e em
      have gv := al.get e.1
      rw [ea] at gv
      have gs := bl.get e.1
      rw [getE_of bx.nd em] at gs
      refine ⟨.ref v, rfl, .str e.1, rfl, v, .int a, rfl, gv, .ref d, rfl, .str e.1, rfl, d, .ref e.2.1, rfl, gs, e.2.1, _, rfl, .inl (sl_map (bl.sides e em)), rfl, flat_ints _, _, rfl, ?_⟩
      rw [in_ints]
      have hp : inSide as e = decide (a ∈ e.2.2) := by unfold inSide; rw [ea]
      by_cases c : a ∈ e.2.2
      · rw [decide_eq_true c]
        refine iteF ⟨rfl, ?_, some (.str e.1), rfl⟩
        rw [take_all he, ev, hp, decide_eq_true c]
        rfl
      · rw [decide_eq_false c]
        refine iteT ⟨upd_same, ?_⟩
        have hf : holdsE L as = false := not_all he (by rw [hp]; exact decide_eq_false c)
        rw [hf] at q
        exact q _ (unlock bx.un (Same.refl _))
    · rintro σ H' ⟨rfl, ev, y, rfl⟩
      rw [entK_len, List.take_length] at ev
      refine ⟨upd_same, ?_⟩
      have hf : holdsE L as = true := ev
      rw [hf] at q
      exact q _ (unlock bx.un (Same.refl _))

abbrev sLSides : Stmt := topS 16
abbrev nLSides : List Str := ["_law_domains_here", "_law_sides_here", "_law_domain"]
theorem scLSides : FnScope nLSides ["_law_domains_here"] (defScope sLSides) := ⟨rfl, rfl, rfl, by decide +kernel, rfl, by decide +kernel, by decide +kernel⟩
def spLSides : Sp := fun vs H Q _ => ∃ (dl : Addr) (ds : List DomE), vs = [.ref dl] ∧ Doms H dl ds ∧ (ds.map (·.2.1)).Nodup ∧ ds.length ≤ 30 ∧ (∀ d ∈ ds, d.2.2.2.length ≤ 100) ∧
  ∀ (H' : Hp) (b : Addr) (N : List Ent), Same H H' → Nb H H' b N → shape N = ds.map (fun d => (d.2.1, d.2.2.2)) → Q (.ref b) H'
theorem ok_lsides {f : Addr} {fd : FuncData} {k : Nat} (F : Fun K "_law_sides" "_law_sides" sLSides f fd) (B : Bt mg) : FnOk P w K mg base CX0 (k + 1) f fd ["_law_domains_here"] spLSides := by
  refine F.ok scLSides (fun vs H Q E h => ?_) (fun cdv A outer s H vs Q E hr h => ?_)
  · obtain ⟨dl, ds, rfl, _⟩ := h
    rfl
  · obtain ⟨dl, ds, rfl, dm, dnd, dlen, dsz, q⟩ := h
    have hu := hu_of hr
    have nd := scLSides.nd
    refine ⟨_, pss_cons (ps_set (i := 1) nd rfl (.inl rfl) pe_dnewK)
      (pss_cons (ps_for PassesOwn.never rfl (pi_list (pv 0)) (pg_name (i := 2) nd rfl (.inl rfl))
        (pss_one (ps_dput hu (pv 1) (pe_ix ix_tup (pv 2) pe_int (fun _ _ => rfl)) (pe_callTy call_list_of (by rfl) B.list PyProof.Rows.boot_list (pa_cons (pe_ix ix_tup (pv 2) pe_int (fun _ _ => rfl)) pa_nil)) rfl)))
      (pss_one (ps_ret (pv 1)))), ?_⟩
    intro D nD
    have s0 := same_new (o := HO.dK []) nD
    refine ⟨.ref dl, rfl, dl, rfl, ⟨_, sl_map (s0 _ _ dm.lst)⟩, for_list (xs := ds.map fun d : DomE => V.ref d.1) (fun i σ H' => ∃ (N : List Ent) (y2 : Option V), σ = [some (.ref dl), some (.ref D), y2] ∧ Same H H' ∧ Nb H H' D N ∧ shape N = (ds.take i).map (fun d => (d.2.1, d.2.2.2)))
      ⟨[], none, rfl, s0, Nb.nil nD upd_same, rfl⟩ (fun i σ H' _ h => by obtain ⟨_, _, _, h, _⟩ := h; exact sl_map (h _ _ dm.lst)) ?_ ?_⟩
    · rintro i x σ H' hx ⟨N, y2, rfl, sm, nb, sh⟩
      rw [List.getElem?_map] at hx
      obtain ⟨d, hv, rfl⟩ := Option.map_eq_some_iff.mp hx
      have dmem := List.mem_of_getElem? hv
      have hi := (List.getElem?_eq_some_iff.mp hv).1
      have tt : SqT K H' d.1 [V.str d.2.1, V.ref d.2.2.1] := .inl (.inl (sm _ _ (dm.tup d dmem)))
      have sd := sl_map (K := K) (sm _ _ (dm.side d dmem))
      refine ⟨.ref d.1, rfl, d.1, _, _, .ref d.2.2.1, rfl, rfl, tt, atI_nat (j := 1) rfl, d.2.2.1, _, rfl, .inl sd, fun l nl => ?_⟩
      have sl := same_new (o := HO.lst (d.2.2.2.map V.int)) nl
      have lN : N.length = i := by
        have h1 := congrArg List.length sh
        rw [show (shape N).length = N.length from List.length_map _, List.length_map, List.length_take] at h1
        omega
      have xnew : d.2.1 ∉ N.map (·.1) := fun z => by
        have h1 : N.map (·.1) = (ds.take i).map (·.2.1) := by
          have := congrArg (List.map Prod.fst) sh
          rw [show (shape N).map Prod.fst = N.map (·.1) by rw [List.map_map] <;> rfl, List.map_map] at this
          exact this
        rw [h1, List.map_take] at z
        obtain ⟨j, hj⟩ := List.mem_iff_getElem?.mp z
        rw [List.getElem?_take] at hj
        split at hj
        · next c => exact absurd (nd_ix dnd hj (by rw [List.getElem?_map, hv] <;> rfl)) (by omega)
        · cases hj
      have nla : l ∉ N.map (·.2.1) := fun z => by
        obtain ⟨g, hg, rfl⟩ := List.mem_map.mp z
        rw [nb.sides g hg] at nl
        cases nl
      have nb2 := nb.push sl
      have tt2 : SqT K (upd H' l (HO.lst (d.2.2.2.map V.int))) d.1 [V.str d.2.1, V.ref d.2.2.1] := .inl (.inl (sl _ _ (sm _ _ (dm.tup d dmem))))
      refine ⟨.ref D, rfl, .ref d.1, rfl, d.1, _, _, .str d.2.1, rfl, rfl, tt2, atI_nat (j := 0) rfl, D, _, rfl, DPut.k (k := .inr d.2.1) nb2.un (by rw [entK_len]; exact small1000 (by omega)), ?_⟩
      rw [putK_ent (s := d.2.2.2), putE_new xnew]
      refine ⟨N ++ [(d.2.1, l, d.2.2.2)], _, rfl, same_at (sm.trans sl) nD, nb2.alias (sm.free nl) upd_same xnew nla (by omega), ?_⟩
      rw [List.take_add_one, hv, List.map_append, ← sh]
      exact List.map_append
    · rintro σ H' ⟨N, y2, rfl, sm, nb, sh⟩
      rw [List.length_map, List.take_length] at sh
      exact ⟨_, rfl, q H' D N sm nb sh⟩
end
end K5

set_option Elab.async false
set_option linter.all false
set_option maxRecDepth 100000
set_option maxHeartbeats 4000000
namespace K5
open PySem PySem.Spec PyProof.Rows L2 Cs CsU
theorem op_mulS {X : Cx} : OpR X (binaryOp .Mult) (fun x y H Q => ∃ z k, x = .str z ∧ y = .int k ∧ MulOk z k ∧ Q (.str (Txt.mul z k)) H) := by
  intro pins s σ H x y v u Q I rx ry h
  obtain ⟨z, k, rfl, rfl, ok, q⟩ := h
  obtain ⟨t, rfl⟩ := rx
  obtain ⟨t', rfl⟩ := ry
  exact SB.mul ok fun t' k2 => ⟨.str (Txt.mul z k), H, I.tok _, ⟨_, rfl⟩, q⟩
def lettersM : Str := "qxcvbnmasdfghjklpoiu"
def nameM (s k : Nat) : Str := Txt.mul ⟨#[lettersM.cps.toList.getD ((k * 7 + s) % 20) 0]⟩ (1 + (k % 3 : Nat))
theorem many_nodup : ((List.range 20).all fun s => decide (((List.range 20).map (nameM s)).Nodup)) = true := by decide +kernel
theorem many_ok : ((List.range 20).all fun s => (List.range 20).all fun k => PyData.strOk (nameM s k)) = true := by decide +kernel
theorem lettersM_len : lettersM.cps.toList.length = 20 := by decide +kernel
theorem unlockK {H H' : Hp} {p d : Addr} {u : HO} {od : Obj} (h : H d = some u) (s : Keep p (upd H d (.frz od u)) H') : Keep p H (upd H' d u) := fun b o hb e => by
  by_cases z : b = d
  · subst z
    rw [upd_same]
    exact h.symm.trans e
  · rw [upd_ne z]
    exact s b o hb (by rw [upd_ne z]; exact e)
section
variable {P : Program} {w : World} {K : PySem.W.Frag} {mg : Str → Option Value} {base : Heap}
abbrev sMany : Stmt := topS 19
abbrev nMany : List Str := ["_law_shift", "_law_count", "_law_letters", "_law_k"]
theorem scMany : FnScope nMany ["_law_shift", "_law_count"] (defScope sMany) := ⟨rfl, rfl, rfl, by decide +kernel, rfl, by decide +kernel, by decide +kernel⟩
def spMany : Sp := fun vs H Q _ => ∃ (s m : Nat), vs = [.int (s : Int), .int (m : Int)] ∧ s < 20 ∧ m ≤ 20 ∧
  ∀ (H' : Hp) (l : Addr) (xs : List Str), Same H H' → H l = none → H' l = some (.lst (xs.map V.str)) → xs.Nodup → xs.length = m → (∀ x ∈ xs, PyData.strOk x = true) → Q (.ref l) H'
theorem ok_many {f : Addr} {fd : FuncData} {k : Nat} (F : Fun K "_law_many_names" "_law_many_names" sMany f fd) (B : Bt mg) : FnOk P w K mg base CX0 (k + 1) f fd ["_law_shift", "_law_count"] spMany := by
  refine F.ok scMany (fun vs H Q E h => ?_) (fun cdv A outer s H vs Q E hr h => ?_)
  · obtain ⟨s, m, rfl, _⟩ := h
    rfl
  · obtain ⟨s, m, rfl, s20, m20, q⟩ := h
    have nd := scMany.nd
    refine ⟨_, pss_cons (ps_set (i := 2) nd rfl (.inr rfl) pe_str)
      (pss_one (ps_ret (pe_lc (own := [("_law_k", 3)]) (g := gName 3) (tt := tYes) rfl nd (pi_range1 (by rfl) B.range (pa_cons (pv 1) pa_nil)) (blkOk_by (N := nMany) (sc := defScope sMany) (by decide +kernel)) (fun _ _ _ _ _ => pg_name (i := 3) nd rfl (Or.inl rfl)) (fun _ _ _ _ _ => pts_nil)
        (fun _ _ _ _ _ => pe_op op_mulS (pe_ix ix_str (pv 2) (pe_op op_mod (pe_callTy call_int1 (by rfl) B.int PyProof.Rows.boot_int (pa_cons (pe_op op_add (pe_op op_mul (pv 3) pe_int) (pv 0)) pa_nil)) pe_int) (fun _ _ => rfl))
          (pe_op op_add pe_int (pe_op op_mod (pe_callTy call_int1 (by rfl) B.int PyProof.Rows.boot_int (pa_cons (pv 3) pa_nil)) pe_int)))))), ?_⟩
    refine ⟨.int (m : Int), rfl, (m : Int), rfl, by omega, by omega, fun R nR => ?_⟩
    refine lc_range (lo := 0) (fun i H' => Same H H' ∧ H' R = some (.lst (((List.range i).map (nameM s)).map V.str))) ⟨same_new nR, upd_same⟩ ?_ ?_
    · rintro i H' hi ⟨sm, eR⟩
      have hx : (i * 7 + s) % 20 < lettersM.cps.toList.length := by rw [lettersM_len]; exact Nat.mod_lt _ (by decide)
      have gx : lettersM.cps.toList[(i * 7 + s) % 20]? = some (lettersM.cps.toList.getD ((i * 7 + s) % 20) 0) := by
        rw [List.getD_eq_getElem?_getD, List.getElem?_eq_getElem hx] <;> rfl
      have ez : (0 + (i : Int)) * 7 + (s : Int) = ((i * 7 + s : Nat) : Int) := by omega
      have mo : MulOk ⟨#[lettersM.cps.toList.getD ((i * 7 + s) % 20) 0]⟩ (1 + (0 + (i : Int)) % 3) := mulOk_of 1 3 (Nat.le_refl 1) (by omega) (by omega) (by decide) (by decide)
      have en : Txt.mul ⟨#[lettersM.cps.toList.getD ((i * 7 + s) % 20) 0]⟩ (1 + (0 + (i : Int)) % 3) = nameM s i := by
        unfold nameM
        rw [show (0 + (i : Int)) % 3 = ((i % 3 : Nat) : Int) by omega]
      refine ⟨rfl, .str lettersM, rfl, .int (0 + (i : Int)), rfl, 0 + (i : Int), 7, rfl, rfl, .inr ⟨by decide, by decide⟩, .int (s : Int), rfl, (0 + (i : Int)) * 7, (s : Int), rfl, rfl, .inl ⟨_, rfl, (0 + (i : Int)) * 7 + (s : Int), 20, rfl, rfl, ?_, ?_⟩⟩
      · show (0 : Int) < 20
        decide
      refine ⟨lettersM, _, lettersM.cps.toList.getD ((i * 7 + s) % 20) 0, rfl, rfl, by decide +kernel, ?_, .int (0 + (i : Int)), rfl, .inl ⟨_, rfl, 0 + (i : Int), 3, rfl, rfl, ?_, 1, (0 + (i : Int)) % 3, rfl, rfl, _, _, rfl, rfl, mo, ?_⟩⟩
      · rw [ez, show (((i * 7 + s : Nat) : Int) % 20) = (((i * 7 + s) % 20 : Nat) : Int) by omega]
        exact atI_nat gx
      · show (0 : Int) < 3
        decide
      rw [en]
      refine ⟨_, eR, ?_, same_at sm nR, ?_⟩
      · rw [List.length_map, List.length_map, List.length_range]
        exact small1000 (by omega)
      · rw [upd_same, List.range_succ, List.map_append, List.map_append] <;> rfl
    · rintro H' ⟨sm, eR⟩
      have mm : ((m : Int)).toNat = m := by omega
      rw [mm] at eR
      refine q H' R _ sm nR eR ?_ (by rw [List.length_map, List.length_range]) fun x hx => ?_
      rotate_left
      · obtain ⟨k, hk, rfl⟩ := List.mem_map.mp hx
        have := List.all_eq_true.mp many_ok s (List.mem_range.mpr s20)
        exact List.all_eq_true.mp this k (List.mem_range.mpr (by have := List.mem_range.mp hk; omega))
      have h9 := of_decide_eq_true (List.all_eq_true.mp many_nodup s (List.mem_range.mpr s20))
      have e8 : List.range m = (List.range 20).take m := by rw [List.take_range, show min m 20 = m by omega]
      rw [e8, List.map_take]
      exact List.Pairwise.sublist (List.take_sublist _ _) h9
abbrev sWid : Stmt := topS 20
abbrev nWid : List Str := ["_law_stream_here", "_law_third", "_law_pool_here", "_law_sides_here", "_law_name", "_law_value"]
theorem scWid : FnScope nWid ["_law_stream_here", "_law_third", "_law_pool_here"] (defScope sWid) := ⟨rfl, rfl, rfl, by decide +kernel, rfl, by decide +kernel, by decide +kernel⟩
/-- a box of sides out of the pool, for the keys xs -/
def Drawn (H H' : Hp) (b : Addr) (xs : List Str) (m : Nat) (N : List Ent) : Prop := Nb H H' b N ∧ N.map (·.1) = xs ∧ ∀ e ∈ N, e.2.2.length ≤ m
def spWid : Sp := fun vs H Q _ => ∃ (p t pl : Addr) (T : List Ent) (ns : List Int), vs = [.ref p, .ref t, .ref pl] ∧ Strm H p ∧ Bu H t T ∧ (∀ e ∈ T, e.2.1 ≠ p) ∧ H pl = some (.lst (ns.map V.int)) ∧ p ≠ pl ∧ ns.length ≤ 100 ∧
  ∀ (H' : Hp) (b : Addr) (N : List Ent), Keep p H H' → Strm H' p → Drawn H H' b (T.map (·.1)) ns.length N → Q (.ref b) H'
theorem ok_wid {f fD : Addr} {fd fdD : FuncData} (F : Fun K "_law_wider" "_law_wider" sWid f fd) (B : Bt mg) (D : Call P w K mg base 1 "_law_next" fD fdD ["_law_stream_here", "_law_size"] spDraw) :
    FnOk P w K mg base CX0 2 f fd ["_law_stream_here", "_law_third", "_law_pool_here"] spWid := by
  refine F.ok scWid (fun vs H Q E h => ?_) (fun cdv A outer s H vs Q E hr h => ?_)
  · obtain ⟨p, t, pl, T, ns, rfl, _⟩ := h
    rfl
  · obtain ⟨p, t, pl, T, ns, rfl, hp, bt, away, epl, ppl, n100, q⟩ := h
    have hu := hu_of hr
    have nd := scWid.nd
    refine ⟨_, pss_cons (ps_set (i := 3) nd rfl (.inl rfl) pe_dnewK)
      (pss_cons (ps_lock (ps_for PassesOwn.never rfl (pi_keys (pv 1)) (pg_name (i := 4) nd rfl (.inr rfl))
        (pss_one (ps_dput hu (pv 3) (pv 4) (pe_lc (own := [("_law_value", 5)]) (g := gName 5) (te := tVar 5) rfl nd (pi_list (pv 2)) (blkOk_by (N := nWid) (sc := defScope sWid) (by decide +kernel)) (fun _ _ _ _ _ => pg_name (i := 5) nd rfl (Or.inl rfl))
          (fun _ _ _ _ _ => pts_one (PW.pt (pw_or (pt_cmpR (r := rIn K false) op_in_seq (pv 5) (pe_dget hu (pv 1) (pv 4) (fun _ _ => rfl)) rfl) (pw_or1 (pt_cmpR op_eq (pe_call D.ok hr (by rfl) D.at_ D.kp D.bd .nil pass0 (pa_cons (pv 0) (pa_cons pe_int pa_nil))) pe_int rfl))))) (fun _ _ _ _ _ => pv 5)) rfl))))
      (pss_one (ps_ret (pv 3)))), ?_⟩
    intro b nb
    have npb : p ≠ b := fun z => hp.some (z ▸ nb)
    have nbt : b ≠ t := fun z => by rw [z, bt.un] at nb; cases nb
    have npt : p ≠ t := fun z => by obtain ⟨x, y, w, e⟩ := hp; rw [z, bt.un] at e; cases e
    have nlt : pl ≠ t := fun z => by rw [z, bt.un] at epl; cases epl
    have s0 := same_new (o := HO.dK []) nb
    have bt0 := bt.same' s0
    refine ⟨t, _, bt0.un, trivial, fun od => ?_⟩
    have k0 : Keep p (upd H t (.frz od (.dK (entK T)))) (upd (upd H b (.dK [])) t (.frz od (.dK (entK T)))) := Keep.same (same_frz bt.un s0)
    have mT : ∀ {H' : Hp}, Keep p (upd H t (.frz od (.dK (entK T)))) H' → Bx H' t T := fun k => ⟨.inr ⟨od, k _ _ npt.symm upd_same⟩, fun e he => k _ _ (away e he) ((bt.toBx.lock (od := od) bt.un).sides e he), bt.nd, bt.few⟩
    have plF : ∀ {H' : Hp}, Keep p (upd H t (.frz od (.dK (entK T)))) H' → H' pl = some (.lst (ns.map V.int)) := fun k => k _ _ ppl.symm (by rw [upd_ne nlt]; exact epl)
    have nbF : (upd H t (.frz od (.dK (entK T)))) b = none := by rw [upd_ne nbt]; exact nb
    refine ⟨.ref t, rfl, t, od, rfl, .inl ⟨entK T, upd_same, for_it walk_keys (fun i σ H' => ∃ (N : List Ent) (y4 : Option V), σ = [some (.ref p), some (.ref t), some (.ref pl), some (.ref b), y4, none] ∧ Keep p (upd H t (.frz od (.dK (entK T)))) H' ∧ Strm H' p ∧ Drawn H H' b ((T.take i).map (·.1)) ns.length N)
      ⟨[], none, rfl, k0, (hp.upd npb).upd npt, Nb.nil nb (by rw [upd_ne nbt]; exact upd_same), rfl, (fun _ h => nomatch h)⟩ (fun i σ H' _ h => by obtain ⟨_, _, _, h, _⟩ := h; exact h _ _ npt.symm upd_same) ?_ ?_⟩⟩
    · rintro i x σ H' H'' hi ⟨N, y4, rfl, kp, st, nbx, keys, szs⟩ ⟨rfl, k1, v1, hk, rfl⟩
      obtain ⟨e, he, rfl, rfl⟩ := keys_at hk
      have em := List.mem_of_getElem? he
      refine ⟨.ref pl, rfl, pl, rfl, ⟨_, sl_map (plF kp)⟩, fun R nR => ?_⟩
      have npR : p ≠ R := fun z => st.some (z ▸ nR)
      refine lc_list (xs := ns.map V.int) (fun j H3 => Keep p H'' H3 ∧ Strm H3 p ∧ ∃ ms : List Int, H3 R = some (.lst (ms.map V.int)) ∧ ms.length ≤ j)
        ⟨(Keep.refl p H'').at_ nR, st.upd npR, [], upd_same, Nat.le_refl _⟩ (fun j H3 _ h => sl_map (plF (kp.trans h.1))) ?_ ?_
      · rintro j x H3 hx ⟨k3, st3, ms, eR, lm⟩
        rw [List.getElem?_map] at hx
        obtain ⟨v, hv, rfl⟩ := Option.map_eq_some_iff.mp hx
        have hj := (List.getElem?_eq_some_iff.mp hv).1
        have b3 := mT (kp.trans k3)
        have gv := b3.get e.1
        rw [getE_of bt.nd em] at gv
        have keep : ∀ H4, Keep p H'' H4 → Strm H4 p → H4 R = some (.lst (ms.map V.int)) → ∃ acc, H4 R = some (.lst acc) ∧ acc.length < sizeLine ∧ Keep p H'' (upd H4 R (.lst (acc ++ [V.int v]))) ∧ Strm (upd H4 R (.lst (acc ++ [V.int v]))) p ∧ ∃ ms : List Int, (upd H4 R (.lst (acc ++ [V.int v]))) R = some (.lst (ms.map V.int)) ∧ ms.length ≤ j + 1 := fun H4 k4 st4 eR4 => by
          refine ⟨_, eR4, ?_, k4.at_ nR, st4.upd npR, ms ++ [v], by rw [upd_same, List.map_append] <;> rfl, by rw [List.length_append]; exact Nat.succ_le_succ lm⟩
          rw [List.length_map]
          exact small1000 (by omega)
        refine ⟨rfl, .int v, rfl, .ref t, rfl, .str e.1, rfl, t, .ref e.2.1, rfl, gv, e.2.1, _, rfl, .inl (sl_map (b3.sides e em)), rfl, flat_ints _, _, rfl, ite_both (fun _ => iteT ⟨.int v, rfl, keep H3 k3 st3 eR⟩) (fun _ => ?_)⟩
        refine ⟨.ref p, rfl, p, 3, rfl, st3, by decide, by decide, fun H4 a o4 st4 a0 a1 => ⟨rfl, _, rfl, ite_both (fun _ => ⟨.int v, rfl, keep H4 (k3.oth o4) st4 ((o4 R npR.symm).trans eR)⟩) (fun _ => ⟨k3.oth o4, st4, ms, (o4 R npR.symm).trans eR, by omega⟩)⟩⟩
      · rintro H3 ⟨k3, st3, ms, eR, lm⟩
        rw [List.length_map] at lm
        have K3 := kp.trans k3
        have pH : H p ≠ none := hp.some
        have nb3 := nbx.keep pH k3
        have lN : N.length = i := by
          have := congrArg List.length keys
          rw [List.length_map, List.length_map, List.length_take, Nat.min_eq_left (by rw [entK_len] at hi; omega)] at this
          exact this
        rw [entK_len] at hi
        have few := bt.few
        have xnew : e.1 ∉ N.map (·.1) := by rw [keys]; exact take_keys bt.nd he
        have nR0 : H R = none := by
          have h1 := kp.free st nR
          by_cases z : R = t
          · rw [z, upd_same] at h1; cases h1
          · rw [upd_ne z] at h1; exact h1
        have nla : R ∉ N.map (·.2.1) := fun z => by
          obtain ⟨g, hg, rfl⟩ := List.mem_map.mp z
          rw [nbx.sides g hg] at nR
          cases nR
        refine ⟨.ref b, rfl, .str e.1, rfl, b, _, rfl, DPut.k (k := .inr e.1) nb3.un (by rw [entK_len]; exact small1000 (by omega)), ?_⟩
        rw [putK_ent (s := ms), putE_new xnew]
        refine ⟨N ++ [(e.1, R, ms)], _, rfl, K3.at_ nbF, st3.upd npb, nb3.alias nR0 eR xnew nla (by omega), ?_, fun g hg => ?_⟩
        · rw [List.map_append, keys, List.take_add_one, he, List.map_append] <;> rfl
        · rcases List.mem_append.mp hg with h | h
          · exact szs g h
          · rw [List.mem_singleton.mp h]; exact lm
    · rintro σ H' ⟨N, y4, rfl, kp, st, nbx, keys, szs⟩
      rw [entK_len, List.take_length] at keys
      have eF := kp _ _ npt.symm upd_same
      exact ⟨eF, _, rfl, q _ b N (unlockK bt.un kp) (st.upd npt) ⟨nbx.unl' eF, keys, szs⟩⟩
abbrev sFre : Stmt := topS 21
abbrev nFre : List Str := ["_law_stream_here", "_law_names_here", "_law_pool_here", "_law_sides_here", "_law_name"]
theorem scFre : FnScope nFre ["_law_stream_here", "_law_names_here", "_law_pool_here"] (defScope sFre) := ⟨rfl, rfl, rfl, by decide +kernel, rfl, by decide +kernel, by decide +kernel⟩
def spFre : Sp := fun vs H Q _ => ∃ (p nm pl : Addr) (xs : List Str) (ns : List Int), vs = [.ref p, .ref nm, .ref pl] ∧ Strm H p ∧ H nm = some (.lst (xs.map V.str)) ∧ p ≠ nm ∧ xs.Nodup ∧ xs.length ≤ 30 ∧ H pl = some (.lst (ns.map V.int)) ∧ p ≠ pl ∧ ns.length ≤ 100 ∧
  ∀ (H' : Hp) (b : Addr) (N : List Ent), Keep p H H' → Strm H' p → Drawn H H' b xs ns.length N → Q (.ref b) H'
theorem ok_fre {f fP : Addr} {fd fdP : FuncData} (F : Fun K "_law_free" "_law_free" sFre f fd) (B : Bt mg) (Pa : Call P w K mg base 2 "_law_part" fP fdP ["_law_stream_here", "_law_side"] (spPart K)) :
    FnOk P w K mg base CX0 3 f fd ["_law_stream_here", "_law_names_here", "_law_pool_here"] spFre := by
  refine F.ok scFre (fun vs H Q E h => ?_) (fun cdv A outer s H vs Q E hr h => ?_)
  · obtain ⟨p, nm, pl, xs, ns, rfl, _⟩ := h
    rfl
  · obtain ⟨p, nm, pl, xs, ns, rfl, hp, enm, pnm, xnd, xlen, epl, ppl, n100, q⟩ := h
    have hu := hu_of hr
    have nd := scFre.nd
    refine ⟨_, pss_cons (ps_set (i := 3) nd rfl (.inl rfl) pe_dnewK)
      (pss_cons (ps_for PassesOwn.never rfl (pi_list (pv 1)) (pg_name (i := 4) nd rfl (.inl rfl))
        (pss_one (ps_dput hu (pv 3) (pv 4) (pe_call Pa.ok hr (by rfl) Pa.at_ Pa.kp Pa.bd .nil pass0 (pa_cons (pv 0) (pa_cons (pv 2) pa_nil))) rfl)))
      (pss_one (ps_ret (pv 3)))), ?_⟩
    intro b nb
    have npb : p ≠ b := fun z => hp.some (z ▸ nb)
    have s0 := same_new (o := HO.dK []) nb
    refine ⟨.ref nm, rfl, nm, rfl, ⟨_, sl_map (s0 _ _ enm)⟩, for_list (xs := xs.map V.str) (fun i σ H' => ∃ (N : List Ent) (y4 : Option V), σ = [some (.ref p), some (.ref nm), some (.ref pl), some (.ref b), y4] ∧ Keep p H H' ∧ Strm H' p ∧ Drawn H H' b (xs.take i) ns.length N)
      ⟨[], none, rfl, Keep.same s0, hp.upd npb, Nb.nil nb upd_same, rfl, (fun _ h => nomatch h)⟩ (fun i σ H' _ h => by obtain ⟨_, _, _, h, _⟩ := h; exact sl_map (h _ _ pnm.symm enm)) ?_ ?_⟩
    · rintro i x σ H' hx0 ⟨N, y4, rfl, kp, st, nbx, keys, szs⟩
      rw [List.getElem?_map] at hx0
      obtain ⟨x, hx, rfl⟩ := Option.map_eq_some_iff.mp hx0
      have hi := (List.getElem?_eq_some_iff.mp hx).1
      refine ⟨.ref p, rfl, .ref pl, rfl, p, pl, ns, rfl, st, kp _ _ ppl.symm epl, ppl, by omega, fun H3 R ms k3 nR st3 eR sub => ?_⟩
      have pH : H p ≠ none := hp.some
      have nb3 := nbx.keep pH k3
      have lN : N.length = i := by
        have := congrArg List.length keys
        rw [List.length_map, List.length_take, Nat.min_eq_left (by omega)] at this
        exact this
      have xnew : x ∉ N.map (·.1) := fun z => by
        rw [keys] at z
        obtain ⟨j, hj⟩ := List.mem_iff_getElem?.mp z
        rw [List.getElem?_take] at hj
        split at hj
        · next c => exact absurd (nd_ix xnd hj hx) (by omega)
        · cases hj
      have nla : R ∉ N.map (·.2.1) := fun z => by
        obtain ⟨g, hg, rfl⟩ := List.mem_map.mp z
        rw [nbx.sides g hg] at nR
        cases nR
      refine ⟨.ref b, rfl, .str x, rfl, b, _, rfl, DPut.k (k := .inr x) nb3.un (by rw [entK_len]; exact small1000 (by omega)), ?_⟩
      rw [putK_ent (s := ms), putE_new xnew]
      refine ⟨N ++ [(x, R, ms)], _, rfl, (kp.trans k3).at_ nb, st3.upd npb, nb3.alias (kp.free st nR) eR xnew nla (by omega), ?_, fun g hg => ?_⟩
      · rw [List.map_append, keys, List.take_add_one, hx] <;> rfl
      · rcases List.mem_append.mp hg with h | h
        · exact szs g h
        · rw [List.mem_singleton.mp h]; exact sub.length_le
    · rintro σ H' ⟨N, y4, rfl, kp, st, nbx, keys, szs⟩
      rw [List.length_map, List.take_length] at keys
      exact ⟨_, rfl, q H' b N kp st ⟨nbx, keys, szs⟩⟩
abbrev sTrn : Stmt := topS 23
abbrev nTrn : List Str := ["_law_sides_here", "_law_shift", "_law_names_here", "_law_turned_here", "_law_name"]
theorem scTrn : FnScope nTrn ["_law_sides_here", "_law_shift"] (defScope sTrn) := ⟨rfl, rfl, rfl, by decide +kernel, rfl, by decide +kernel, by decide +kernel⟩
def spTrn : Sp := fun vs H Q _ => ∃ (d : Addr) (s : Nat) (L : List Ent), vs = [.ref d, .int (s : Int)] ∧ Bu H d L ∧
  ∀ (H' : Hp) (b : Addr) (N : List Ent), Same H H' → Nb H H' b N → shape N = shape (L.drop s ++ L.take s) → Q (.ref b) H'
theorem ok_trn {f : Addr} {fd : FuncData} {k : Nat} (F : Fun K "_law_turned" "_law_turned" sTrn f fd) (B : Bt mg) : FnOk P w K mg base CX0 (k + 1) f fd ["_law_sides_here", "_law_shift"] spTrn := by
  refine F.ok scTrn (fun vs H Q E h => ?_) (fun cdv A outer s H vs Q E hr h => ?_)
  · obtain ⟨d, s, L, rfl, _⟩ := h
    rfl
  · obtain ⟨d, sh, L, rfl, bx, q⟩ := h
    have hu := hu_of hr
    have nd := scTrn.nd
    refine ⟨_, pss_cons (ps_set (i := 2) nd rfl (.inl rfl) (pe_callTy (call_listD rfl) (by rfl) B.list PyProof.Rows.boot_list (pa_cons (pv 0) pa_nil)))
      (pss_cons (ps_set (i := 3) nd rfl (.inl rfl) pe_dnewK)
      (pss_cons (ps_for PassesOwn.never rfl (pi_list (pe_op op_cat (pe_slice sl_list (pv 2) (po_some (pv 1)) po_none) (pe_slice sl_list (pv 2) po_none (po_some (pv 1))))) (pg_name (i := 4) nd rfl (.inl rfl))
        (pss_one (ps_dput hu (pv 3) (pv 4) (pe_callTy call_list_of (by rfl) B.list PyProof.Rows.boot_list (pa_cons (pe_dget hu (pv 0) (pv 4) (fun _ _ => rfl)) pa_nil)) rfl)))
      (pss_one (ps_ret (pv 3))))), ?_⟩
    refine ⟨.ref d, rfl, d, _, rfl, .inl bx.un, fun nm nnm => ?_⟩
    have eK : ((entK L).map fun kv => kV kv.1) = (L.map (·.1)).map V.str := by unfold entK; rw [List.map_map, List.map_map] <;> rfl
    rw [eK]
    have s1 := same_new (o := HO.lst ((L.map (·.1)).map V.str)) nnm
    have enm := upd_same (H := H) (a := nm) (o := HO.lst ((L.map (·.1)).map V.str))
    generalize upd H nm (.lst ((L.map (·.1)).map V.str)) = H1 at s1 enm ⊢
    intro b nb1
    have s2 := s1.trans (same_new (o := HO.dK []) nb1)
    have nb0 := s1.free nb1
    have enm2 := same_new (o := HO.dK []) nb1 _ _ enm
    have eb2 := upd_same (H := H1) (a := b) (o := HO.dK [])
    generalize upd H1 b (.dK []) = H2 at s2 enm2 eb2 ⊢
    refine ⟨.ref nm, rfl, _, rfl, _, rfl, nm, _, rfl, sl_map enm2, fun p1 np1 => ?_⟩
    have t1 := same_new (o := HO.lst (cutV ((L.map (·.1)).map V.str) (some (sh : Int)) none)) np1
    refine ⟨.ref nm, rfl, _, rfl, _, rfl, nm, _, rfl, sl_map (t1 _ _ enm2), fun p2 np2 => ?_⟩
    have n12 : p1 ≠ p2 := fun z => by rw [← z, upd_same] at np2; cases np2
    have t2 := t1.trans (same_new (o := HO.lst (cutV ((L.map (·.1)).map V.str) none (some (sh : Int)))) np2)
    refine ⟨p1, p2, _, _, rfl, rfl, by rw [upd_ne n12]; exact upd_same, upd_same, ?_, fun r nr => ?_⟩
    · rw [cutV_from, cutV_to, List.length_drop, List.length_take, List.length_map, List.length_map]
      have := bx.few
      exact Nat.le_of_lt (small1000 (by omega))
    have t3 := t2.trans (same_new (o := HO.lst (cutV ((L.map (·.1)).map V.str) (some (sh : Int)) none ++ cutV ((L.map (·.1)).map V.str) none (some (sh : Int)))) nr)
    obtain ⟨R, hR⟩ : ∃ R, R = L.drop sh ++ L.take sh := ⟨_, rfl⟩
    have eR : cutV ((L.map (·.1)).map V.str) (some (sh : Int)) none ++ cutV ((L.map (·.1)).map V.str) none (some (sh : Int)) = (R.map (·.1)).map V.str := by
      rw [cutV_from, cutV_to, hR, List.map_append, List.map_append, List.map_drop, List.map_drop, List.map_take, List.map_take]
    have pR : R.Perm L := by
      rw [hR]
      exact List.perm_append_comm.trans (by rw [List.take_append_drop])
    have rnd : (R.map (·.1)).Nodup := (pR.map (·.1)).nodup_iff.mpr bx.nd
    rw [eR] at t3 ⊢
    have er := upd_same (H := upd (upd H2 p1 (.lst (cutV ((L.map (·.1)).map V.str) (some (sh : Int)) none))) p2 (.lst (cutV ((L.map (·.1)).map V.str) none (some (sh : Int))))) (a := r) (o := HO.lst ((R.map (·.1)).map V.str))
    have S3 := s2.trans t3
    have eb3 := t3 _ _ eb2
    generalize upd (upd (upd H2 p1 (.lst (cutV ((L.map (·.1)).map V.str) (some (sh : Int)) none))) p2 (.lst (cutV ((L.map (·.1)).map V.str) none (some (sh : Int))))) r (.lst ((R.map (·.1)).map V.str)) = H3 at er S3 eb3 ⊢
    have nrb : r ≠ b := fun z => by rw [z, eb3] at er; cases er
    refine ⟨r, rfl, ⟨_, sl_map er⟩, for_list (xs := (R.map (·.1)).map V.str) (fun i σ H' => ∃ (N : List Ent) (y4 : Option V), σ = [some (.ref d), some (.int (sh : Int)), some (.ref nm), some (.ref b), y4] ∧ Same H H' ∧ H' r = some (.lst ((R.map (·.1)).map V.str)) ∧ Nb H H' b N ∧ shape N = shape (R.take i))
      ⟨[], none, rfl, S3, er, Nb.nil nb0 eb3, rfl⟩ (fun i σ H' _ h => by obtain ⟨_, _, _, _, h, _⟩ := h; exact sl_map h) ?_ ?_⟩
    · rintro i x σ H' hx0 ⟨N, y4, rfl, sm, er', nbx, hsh⟩
      rw [List.getElem?_map, List.getElem?_map] at hx0
      obtain ⟨x, hx, rfl⟩ := Option.map_eq_some_iff.mp hx0
      obtain ⟨e, he, rfl⟩ := Option.map_eq_some_iff.mp hx
      have hi := (List.getElem?_eq_some_iff.mp he).1
      have em : e ∈ L := pR.mem_iff.mp (List.mem_of_getElem? he)
      have bl := bx.same' sm
      have gv := bl.toBx.get e.1
      rw [getE_of bx.nd em] at gv
      have few := bx.few
      have lR : R.length = L.length := pR.length_eq
      have lM := shape_len hsh
      rw [List.length_take] at lM
      refine ⟨.ref d, rfl, .str e.1, rfl, d, .ref e.2.1, rfl, gv, e.2.1, _, rfl, .inl (sl_map (bl.sides e em)), fun l nl => ?_⟩
      have sl := same_new (o := HO.lst (e.2.2.map V.int)) nl
      have xnew : e.1 ∉ N.map (·.1) := by rw [shape_keys hsh]; exact take_keys rnd he
      have nla : l ∉ N.map (·.2.1) := fun z => by
        obtain ⟨g, hg, rfl⟩ := List.mem_map.mp z
        rw [nbx.sides g hg] at nl
        cases nl
      have nb2 := nbx.push sl
      refine ⟨.ref b, rfl, .str e.1, rfl, b, _, rfl, DPut.k (k := .inr e.1) nb2.un (by rw [entK_len]; exact small1000 (by omega)), ?_⟩
      rw [putK_ent (s := e.2.2), putE_new xnew]
      exact ⟨N ++ [(e.1, l, e.2.2)], _, rfl, same_at (sm.trans sl) nb0, by rw [upd_ne nrb]; exact sl _ _ er', nb2.alias (sm.free nl) upd_same xnew nla (by omega), shape_take hsh he⟩
    · rintro σ H' ⟨N, y4, rfl, sm, er', nbx, hsh⟩
      rw [List.length_map, List.length_map, List.take_length] at hsh
      exact ⟨_, rfl, q H' b N sm nbx (by rw [hsh, hR])⟩
end
end K5

set_option Elab.async false
set_option linter.all false
set_option maxRecDepth 100000
set_option maxHeartbeats 4000000
namespace K5
open PySem PySem.Spec PyProof.Rows L2 Cs CsU
def memF (M : List Ent) (x : Str) (v : Int) : Bool := decide (v ∈ (look M x).getD [])
def okV (F G : List Ent) (x : Str) (e : Ent) (v : Int) : Bool := (memF F e.1 v || memF G e.1 v) && (decide (e.1 = x) || (memF F e.1 v && memF G e.1 v))
def inJoin (F G T : List Ent) (x : Str) : Bool := T.all fun e => e.2.2.all fun v => okV F G x e v
/-- every name of T is in M -/
def Has (T M : List Ent) : Prop := ∀ e ∈ T, ∃ g, getE M e.1 = some g
theorem memF_of {M : List Ent} {x : Str} {g : Ent} (h : getE M x = some g) (v : Int) : memF M x v = decide (v ∈ g.2.2) := by
  unfold memF look
  rw [h] <;> rfl
theorem bad_filter {M : List Ent} {e : Ent} : bad M e = e.2.2.filter fun v => !memF M e.1 v := by
  unfold bad memF
  congr 1
  funext v
  by_cases c : v ∈ (look M e.1).getD []
  · simp [c]
  · simp [c]
section
variable {P : Program} {w : World} {K : PySem.W.Frag} {mg : Str → Option Value} {base : Heap}
abbrev sLac : Stmt := topS 25
abbrev nLac : List Str := ["_law_third", "_law_sides_here", "_law_names_here", "_law_name", "_law_value"]
theorem scLac : FnScope nLac ["_law_third", "_law_sides_here"] (defScope sLac) := ⟨rfl, rfl, rfl, by decide +kernel, rfl, by decide +kernel, by decide +kernel⟩
def spLac : Sp := fun vs H Q _ => ∃ (t c : Addr) (T M : List Ent), vs = [.ref t, .ref c] ∧ Bu H t T ∧ Bu H c M ∧ Has T M ∧ (∀ e ∈ T, e.2.2.length ≤ 100) ∧
  ∀ (H' : Hp) (l : Addr), Same H H' → H l = none → H' l = some (.lst (((bey T M).map (·.1)).map V.str)) → Q (.ref l) H'
theorem ok_lac {f : Addr} {fd : FuncData} {k : Nat} (F : Fun K "_law_lacking" "_law_lacking" sLac f fd) (B : Bt mg) : FnOk P w K mg base CX0 (k + 1) f fd ["_law_third", "_law_sides_here"] spLac := by
  refine F.ok scLac (fun vs H Q E h => ?_) (fun cdv A outer s H vs Q E hr h => ?_)
  · obtain ⟨t, c, T, M, rfl, _⟩ := h
    rfl
  · obtain ⟨t, c, T, M, rfl, bt, bm, has, sz, q⟩ := h
    have hu := hu_of hr
    have nd := scLac.nd
    refine ⟨_, pss_cons (ps_set (i := 2) nd rfl (.inl rfl) (pe_lst pa_nil))
      (pss_cons (ps_lock (ps_for PassesOwn.never rfl (pi_keys (pv 0)) (pg_name (i := 3) nd rfl (.inr rfl))
        (pss_one (ps_if (pt_cmpR op_gt (pe_callB call_len_seq (by rfl) B.len PySem.boot_len (pa_cons (pe_lc (own := [("_law_value", 4)]) (g := gName 4) (te := tVar 4) rfl nd (pi_list (pe_dget hu (pv 0) (pv 3) (fun _ _ => rfl))) (blkOk_by (N := nLac) (sc := defScope sLac) (by decide +kernel)) (fun _ _ _ _ _ => pg_name (i := 4) nd rfl (Or.inl rfl))
            (fun _ _ _ _ _ => pts_one (pt_cmpR (r := rIn K true) op_notIn_seq (pv 4) (pe_dget hu (pv 1) (pv 3) (fun _ _ => rfl)) rfl)) (fun _ _ _ _ _ => pv 4)) pa_nil)) pe_int rfl)
          (pss_one (ps_expr (pe_bm PySem.F.plainAttrs_list PySem.F.slot_list_append PySem.F.type_list_append mt_append (pv 2) (pa_cons (pv 3) pa_nil)))) pss_nil))))
      (pss_one (ps_ret (pv 2)))), ?_⟩
    refine ⟨by show 0 ≤ sizeLine; decide, fun l nl => ?_⟩
    have s0 := same_new (o := HO.lst []) nl
    have bt0 := bt.same' s0
    have nlt : l ≠ t := fun z => by rw [z, bt.un] at nl; cases nl
    refine ⟨t, _, bt0.un, trivial, fun od => ?_⟩
    have sF : Same (upd H t (.frz od (.dK (entK T)))) (upd (upd H l (.lst [])) t (.frz od (.dK (entK T)))) := same_frz bt.un s0
    have mT : ∀ {H' : Hp}, Same (upd H t (.frz od (.dK (entK T)))) H' → Bx H' t T := fun s => (bt.toBx.lock (od := od) bt.un).same s
    have mM : ∀ {H' : Hp}, Same (upd H t (.frz od (.dK (entK T)))) H' → Bx H' c M := fun s => (bm.toBx.lock (od := od) bt.un).same s
    have nlF : (upd H t (.frz od (.dK (entK T)))) l = none := by rw [upd_ne nlt]; exact nl
    refine ⟨.ref t, rfl, t, od, rfl, .inl ⟨entK T, upd_same, for_it walk_keys (fun i σ H' => ∃ (y3 : Option V), σ = [some (.ref t), some (.ref c), some (.ref l), y3, none] ∧ Same (upd H t (.frz od (.dK (entK T)))) H' ∧ H' l = some (.lst (((bey (T.take i) M).map (·.1)).map V.str)))
      ⟨none, rfl, sF, by rw [upd_ne nlt]; exact upd_same⟩ (fun i σ H' _ h => by obtain ⟨_, _, h, _⟩ := h; exact h _ _ upd_same) ?_ ?_⟩⟩
    · rintro i x σ H' H'' hi ⟨y3, rfl, sm, el⟩ ⟨rfl, k1, v1, hk, rfl⟩
      obtain ⟨e, he, rfl, rfl⟩ := keys_at hk
      have em := List.mem_of_getElem? he
      obtain ⟨g, hg⟩ := has e em
      obtain ⟨gm, _⟩ := getE_mem hg
      have se := sz e em
      have gv := (mT sm).get e.1
      rw [getE_of bt.nd em] at gv
      refine ⟨.ref t, rfl, .str e.1, rfl, t, .ref e.2.1, rfl, gv, e.2.1, rfl, ⟨_, sl_map ((mT sm).sides e em)⟩, fun R nR => ?_⟩
      refine lc_list (xs := e.2.2.map V.int) (fun j H3 => Same H'' H3 ∧ H3 R = some (.lst (((e.2.2.take j).filter fun v => !memF M e.1 v).map V.int))) ⟨same_new nR, upd_same⟩ (fun j H3 _ h => sl_map ((mT (sm.trans h.1)).sides e em)) ?_ ?_
      · rintro j x H3 hx ⟨s3, eR⟩
        rw [List.getElem?_map] at hx
        obtain ⟨v, hv, rfl⟩ := Option.map_eq_some_iff.mp hx
        have m3 := mM (sm.trans s3)
        have gc := m3.get e.1
        rw [hg] at gc
        have tk : (e.2.2.take (j + 1)).filter (fun v => !memF M e.1 v) = (e.2.2.take j).filter (fun v => !memF M e.1 v) ++ [v].filter fun v => !memF M e.1 v := by
          rw [List.take_add_one, hv, List.filter_append] <;> rfl
        refine ⟨rfl, .int v, rfl, .ref c, rfl, .str e.1, rfl, c, .ref g.2.1, rfl, gc, g.2.1, _, rfl, .inl (sl_map (m3.sides g gm)), rfl, flat_ints _, _, rfl, ?_⟩
        rw [in_ints]
        have mf := memF_of hg v
        by_cases cv : v ∈ g.2.2
        · rw [decide_eq_true cv] at mf ⊢
          refine iteF ⟨s3, ?_⟩
          rw [tk]
          have : [v].filter (fun v => !memF M e.1 v) = [] := by simp [mf]
          rw [this, List.append_nil]; exact eR
        · rw [decide_eq_false cv] at mf ⊢
          refine iteT ⟨.int v, rfl, _, eR, ?_, same_at s3 nR, ?_⟩
          · rw [List.length_map]
            have h1 := List.length_filter_le (fun v => !memF M e.1 v) (e.2.2.take j)
            rw [List.length_take] at h1
            exact small1000 (by omega)
          · rw [upd_same, tk]
            have : [v].filter (fun v => !memF M e.1 v) = [v] := by simp [mf]
            rw [this, List.map_append] <;> rfl
      · rintro H3 ⟨s3, eR⟩
        rw [List.length_map, List.take_length, ← bad_filter] at eR
        have S3 := sm.trans s3
        have sn := bey_snoc (M := M) he
        have el3 := s3 _ _ el
        refine ⟨R, _, rfl, .inl (sl_map eR), _, 0, rfl, rfl, _, rfl, ?_⟩
        rw [List.length_map]
        by_cases cb : bad M e = []
        · rw [if_pos cb] at sn
          rw [cb]
          exact iteF ⟨_, rfl, S3, by rw [sn]; exact el3⟩
        · rw [if_neg cb] at sn
          have pos : 0 < (bad M e).length := List.length_pos_iff.mpr cb
          rw [decide_eq_true (by omega)]
          refine iteT ⟨.ref l, rfl, .inl ⟨rfl, _, sl_map el3⟩, .str e.1, rfl, l, _, _, rfl, rfl, el3, ?_, _, rfl, same_at S3 nlF, ?_⟩
          · rw [List.length_map, List.length_map]
            have h2 := bey_len (T.take i) M
            rw [List.length_take] at h2
            have := bt.few
            exact small1000 (by omega)
          · rw [upd_same, sn, List.map_append, List.map_append] <;> rfl
    · rintro σ H' ⟨y3, rfl, sm, el⟩
      rw [entK_len, List.take_length] at el
      exact ⟨sm _ _ upd_same, _, rfl, q _ l (unlock bt.un sm) nl (by rw [upd_ne nlt]; exact el)⟩
abbrev sInj : Stmt := topS 26
abbrev nInj : List Str := ["_law_first", "_law_second", "_law_third", "_law_name", "_law_other", "_law_value", "_law_held"]
abbrev pInj : List Str := ["_law_first", "_law_second", "_law_third", "_law_name"]
theorem scInj : FnScope nInj pInj (defScope sInj) := ⟨rfl, rfl, rfl, by decide +kernel, rfl, by decide +kernel, by decide +kernel⟩
theorem eqv_ff (a b : Bool) : PyData.eqv (.list [.bool a, .bool b]) (.list [.bool false, .bool false]) = (!a && !b) := by cases a <;> cases b <;> decide
theorem eqv_tt (a b : Bool) : PyData.eqv (.list [.bool a, .bool b]) (.list [.bool true, .bool true]) = (a && b) := by cases a <;> cases b <;> decide
theorem shaped_bb (a b : Bool) : SeqAt.shaped (.list [.bool a, .bool b]) = true := by cases a <;> cases b <;> decide
theorem dp_bb {K : PySem.W.Frag} {H : Hp} {h : Addr} {a b : Bool} (e : H h = some (.lst [.bl a, .bl b])) : Dp K H (.ref h) (.list [.bool a, .bool b]) := .lst (sl_map e) (.cons (.bl a) (.cons (.bl b) .nil))
def spInj : Sp := fun vs H Q _ => ∃ (a b t : Addr) (x : Str) (F G T : List Ent), vs = [.ref a, .ref b, .ref t, .str x] ∧ Bu H a F ∧ Bu H b G ∧ Bu H t T ∧ Has T F ∧ Has T G ∧ ∀ H', Same H H' → Q (.bl (inJoin F G T x)) H'
theorem ok_inj {f : Addr} {fd : FuncData} {k : Nat} (F : Fun K "_law_in_join" "_law_in_join" sInj f fd) (B : Bt mg) : FnOk P w K mg base CX0 (k + 1) f fd pInj spInj := by
  refine F.ok scInj (fun vs H Q E h => ?_) (fun cdv A outer s H vs Q E hr h => ?_)
  · obtain ⟨a, b, t, x, F, G, T, rfl, _⟩ := h
    rfl
  · obtain ⟨fa, fb, t, x, Fm, Gm, T, rfl, bf, bg, bt, hf, hg, q⟩ := h
    have hu := hu_of hr
    have hu64 : (A.deeper (envOfC "_law_in_join" (defScope sInj) s.heap.objs.size f cdv)).units + 64 < cLine := by have := hr.un; omega
    have nd := scInj.nd
    refine ⟨_, pss_cons (ps_lock (ps_for PassesOwn.never rfl (pi_keys (pv 2)) (pg_name (i := 4) nd rfl (.inl rfl))
        (pss_one (ps_for PassesOwn.never rfl (pi_list (pe_dget hu (pv 2) (pv 4) (fun _ _ => rfl))) (pg_name (i := 5) nd rfl (.inl rfl))
          (pss_cons (ps_set (i := 6) nd rfl (.inl rfl) (pe_lst (pa_cons (pe_cmpR (r := rIn K false) op_in_seq (pv 5) (pe_dget hu (pv 0) (pv 4) (fun _ _ => rfl)) rfl) (pa_cons (pe_cmpR (r := rIn K false) op_in_seq (pv 5) (pe_dget hu (pv 1) (pv 4) (fun _ _ => rfl)) rfl) pa_nil))))
          (pss_one (ps_if (PW.pt (pw_or (pt_cmpR (r := rEqD K) (op_eqD hu64) (pv 6) (pe_lst (pa_cons pe_bl (pa_cons pe_bl pa_nil))) rfl)
            (pw_or1 (PW.pt (pw_and (pt_cmpR op_ne (pv 4) (pv 3) rfl) (pw_and1 (pt_cmpR (r := rNeD K) (op_neD hu64) (pv 6) (pe_lst (pa_cons pe_bl (pa_cons pe_bl pa_nil))) rfl))))))) (pss_one (ps_ret pe_bl)) pss_nil)))))))
      (pss_one (ps_ret pe_bl)), ?_⟩
    refine ⟨t, _, bt.un, trivial, fun od => ?_⟩
    have mT : ∀ {H' : Hp}, Same (upd H t (.frz od (.dK (entK T)))) H' → Bx H' t T := fun s => (bt.toBx.lock (od := od) bt.un).same s
    have mF : ∀ {H' : Hp}, Same (upd H t (.frz od (.dK (entK T)))) H' → Bx H' fa Fm := fun s => (bf.toBx.lock (od := od) bt.un).same s
    have mG : ∀ {H' : Hp}, Same (upd H t (.frz od (.dK (entK T)))) H' → Bx H' fb Gm := fun s => (bg.toBx.lock (od := od) bt.un).same s
    refine ⟨.ref t, rfl, t, od, rfl, .inl ⟨entK T, upd_same, for_it walk_keys (fun i σ H' => ∃ (y4 y5 y6 : Option V), σ = [some (.ref fa), some (.ref fb), some (.ref t), some (.str x), y4, y5, y6] ∧ Same (upd H t (.frz od (.dK (entK T)))) H' ∧ ((T.take i).all fun e => e.2.2.all fun v => okV Fm Gm x e v) = true)
      ⟨none, none, none, rfl, Same.refl _, rfl⟩ (fun i σ H' _ h => by obtain ⟨_, _, _, _, h, _⟩ := h; exact h _ _ upd_same) ?_ ?_⟩⟩
    · rintro i x0 σ H' H'' hi ⟨y4, y5, y6, rfl, sm, al⟩ ⟨rfl, k1, v1, hk, rfl⟩
      obtain ⟨e, he, rfl, rfl⟩ := keys_at hk
      have em := List.mem_of_getElem? he
      obtain ⟨gF, hgF⟩ := hf e em
      obtain ⟨gG, hgG⟩ := hg e em
      obtain ⟨gFm, _⟩ := getE_mem hgF
      obtain ⟨gGm, _⟩ := getE_mem hgG
      have gv := (mT sm).get e.1
      rw [getE_of bt.nd em] at gv
      refine ⟨.ref t, rfl, .str e.1, rfl, t, .ref e.2.1, rfl, gv, e.2.1, rfl, ⟨_, sl_map ((mT sm).sides e em)⟩, for_list (xs := e.2.2.map V.int) (fun j σ H3 => ∃ (y5 y6 : Option V), σ = [some (.ref fa), some (.ref fb), some (.ref t), some (.str x), some (.str e.1), y5, y6] ∧ Same H'' H3 ∧ ((e.2.2.take j).all fun v => okV Fm Gm x e v) = true)
        ⟨_, _, rfl, Same.refl _, rfl⟩ (fun j σ H3 _ h => by obtain ⟨_, _, _, h, _⟩ := h; exact sl_map ((mT (sm.trans h)).sides e em)) ?_ ?_⟩
      · rintro j x1 σ H3 hx ⟨z5, z6, rfl, s3, al3⟩
        rw [List.getElem?_map] at hx
        obtain ⟨v, hv, rfl⟩ := Option.map_eq_some_iff.mp hx
        have S3 := sm.trans s3
        have gcF := (mF S3).get e.1
        rw [hgF] at gcF
        have gcG := (mG S3).get e.1
        rw [hgG] at gcG
        refine ⟨.int v, rfl, .ref fa, rfl, .str e.1, rfl, fa, .ref gF.2.1, rfl, gcF, gF.2.1, _, rfl, .inl (sl_map ((mF S3).sides gF gFm)), rfl, flat_ints _, .int v, rfl, .ref fb, rfl, .str e.1, rfl, fb, .ref gG.2.1, rfl, gcG, gG.2.1, _, rfl, .inl (sl_map ((mG S3).sides gG gGm)), rfl, flat_ints _, by show 2 ≤ sizeLine; decide, fun h nh => ?_⟩
        rw [in_ints, in_ints, ← memF_of hgF v, ← memF_of hgG v] at *
        have okd : okV Fm Gm x e v = ((memF Fm e.1 v || memF Gm e.1 v) && (decide (e.1 = x) || (memF Fm e.1 v && memF Gm e.1 v))) := rfl
        generalize memF Fm e.1 v = p at okd ⊢
        generalize memF Gm e.1 v = r at okd ⊢
        have s4 := same_new (o := HO.lst [V.bl p, V.bl r]) nh
        have eh : (upd H3 h (.lst [V.bl p, V.bl r])) h = some (.lst [.bl p, .bl r]) := upd_same
        have ret : ∀ H5, Same H3 H5 → okV Fm Gm x e v = false → H5 t = some (.frz od (.dK (entK T))) ∧ Q (.bl false) (upd H5 t (.dK (entK T))) := fun H5 s5 z => by
          have s6 := S3.trans s5
          have h1 : inJoin Fm Gm T x = false := not_all he (not_all hv z)
          have := q _ (unlock bt.un s6)
          rw [h1] at this
          exact ⟨s6 _ _ upd_same, this⟩
        have next : ∀ H5, Same H3 H5 → okV Fm Gm x e v = true → ∃ (y5 y6 : Option V), [some (.ref fa), some (.ref fb), some (.ref t), some (.str x), some (.str e.1), some (.int v), some (.ref h)] = [some (.ref fa), some (.ref fb), some (.ref t), some (.str x), some (.str e.1), y5, y6] ∧ Same H'' H5 ∧ ((e.2.2.take (j + 1)).all fun v => okV Fm Gm x e v) = true := fun H5 s5 z =>
          ⟨_, _, rfl, s3.trans s5, by rw [take_all hv, al3, z] <;> rfl⟩
        refine ⟨.ref h, rfl, by show 2 ≤ sizeLine; decide, fun h2 nh2 => ⟨_, _, dp_bb (a := p) (b := r) (same_new nh2 _ _ eh), dp_bb (a := false) (b := false) upd_same, shaped_bb p r, shaped_bb false false, _, rfl, ?_⟩⟩
        rw [eqv_ff]
        have s5 := s4.trans (same_new (o := HO.lst [V.bl false, V.bl false]) nh2)
        have eh5 := same_new (o := HO.lst [V.bl false, V.bl false]) nh2 _ _ eh
        refine ite_both (fun c => iteT (ret _ s5 ?_)) (fun c => ?_)
        · rw [okd]; cases p <;> cases r <;> simp_all
        refine ⟨.str e.1, rfl, .str x, rfl, rfl, _, rfl, ite_both (fun c2 => ?_) (fun c2 => iteF (next _ s5 ?_))⟩
        · have c3 : ¬ e.1 = x := fun z => by rw [decide_eq_true (congrArg V.str z)] at c2; cases c2
          refine ⟨.ref h, rfl, by show 2 ≤ sizeLine; decide, fun h3 nh3 => ⟨_, _, dp_bb (a := p) (b := r) (same_new nh3 _ _ eh5), dp_bb (a := true) (b := true) upd_same, shaped_bb p r, shaped_bb true true, _, rfl, ?_⟩⟩
          rw [eqv_tt]
          have s6 := s5.trans (same_new (o := HO.lst [V.bl true, V.bl true]) nh3)
          refine ite_both (fun c => ret _ s6 ?_) (fun c => next _ s6 ?_)
          · rw [okd, decide_eq_false c3]; cases p <;> cases r <;> simp_all
          · rw [okd, decide_eq_false c3]; cases p <;> cases r <;> simp_all
        · have c3 : e.1 = x := Decidable.byContradiction fun z => by rw [decide_eq_false fun y => z (V.str.inj y)] at c2; cases c2
          rw [okd, decide_eq_true c3]; cases p <;> cases r <;> simp_all
      · rintro σ H3 ⟨z5, z6, rfl, s3, al3⟩
        rw [List.length_map, List.take_length] at al3
        exact ⟨_, _, _, rfl, sm.trans s3, by rw [take_all he, al, al3] <;> rfl⟩
    · rintro σ H' ⟨y4, y5, y6, rfl, sm, al⟩
      rw [entK_len, List.take_length] at al
      have := q _ (unlock bt.un sm)
      rw [show inJoin Fm Gm T x = true from al] at this
      exact ⟨sm _ _ upd_same, this⟩
end
end K5

set_option Elab.async false
set_option linter.all false
set_option maxRecDepth 100000
set_option maxHeartbeats 4000000
namespace K5
open PySem PySem.Spec PyProof.Rows L2 Cs CsU
/-! ### the word -/
abbrev SomeEmpty (T : List Ent) : Prop := ∃ e ∈ T, e.2.2 = []
abbrev AllIn (T F : List Ent) : Prop := ∀ e ∈ T, ∀ v ∈ e.2.2, memF F e.1 v = true
abbrev NoPair (T F G : List Ent) : Prop := ∀ e ∈ T, ∀ g ∈ T, ∀ u ∈ e.2.2, ∀ v ∈ g.2.2, memF F e.1 u = false → memF G g.1 v = false → e.1 = g.1 ∧ u ≠ v
inductive IsWord (T F G : List Ent) : Str → Prop where
  | first (h : SomeEmpty T ∨ AllIn T F) : IsWord T F G "first"
  | second (h : ¬ (SomeEmpty T ∨ AllIn T F)) (h2 : AllIn T G) : IsWord T F G "second"
  | join (h : ¬ (SomeEmpty T ∨ AllIn T F)) (h2 : ¬ AllIn T G) (h3 : NoPair T F G) : IsWord T F G "join"
  | outside (h : ¬ (SomeEmpty T ∨ AllIn T F)) (h2 : ¬ AllIn T G) (h3 : ¬ NoPair T F G) : IsWord T F G "outside"
theorem IsWord.one {T F G : List Ent} {a b : Str} (h : IsWord T F G a) (g : IsWord T F G b) : a = b := by
  cases h <;> cases g <;> first | rfl | contradiction
theorem mem_bad {F : List Ent} {e : Ent} {v : Int} : v ∈ bad F e ↔ v ∈ e.2.2 ∧ memF F e.1 v = false := by
  rw [bad_filter, List.mem_filter, Bool.not_eq_true']
theorem mem_bey {T F : List Ent} {p : Sh} : p ∈ bey T F ↔ ∃ e ∈ T, p = (e.1, bad F e) ∧ bad F e ≠ [] := by
  unfold bey
  rw [List.mem_filter, List.mem_map]
  constructor
  · rintro ⟨⟨e, he, rfl⟩, h⟩
    exact ⟨e, he, rfl, of_decide_eq_true h⟩
  · rintro ⟨e, he, rfl, h⟩
    exact ⟨⟨e, he, rfl⟩, decide_eq_true h⟩
theorem bey_nil {T F : List Ent} : bey T F = [] ↔ AllIn T F := by
  constructor
  · intro h e he v hv
    cases c : memF F e.1 v with
    | true => rfl
    | false =>
      have hb : v ∈ bad F e := mem_bad.mpr ⟨hv, c⟩
      have : (e.1, bad F e) ∈ bey T F := mem_bey.mpr ⟨e, he, rfl, fun z => by rw [z] at hb; cases hb⟩
      rw [h] at this; cases this
  · intro h
    cases c : bey T F with
    | nil => rfl
    | cons p l =>
      have : p ∈ bey T F := by rw [c]; exact List.mem_cons_self
      obtain ⟨e, he, rfl, hb⟩ := mem_bey.mp this
      obtain ⟨v, l2, hv⟩ := List.exists_cons_of_ne_nil hb
      have hv : v ∈ bad F e := by rw [hv]; exact List.mem_cons_self
      obtain ⟨h1, h2⟩ := mem_bad.mp hv
      rw [h e he v h1] at h2; cases h2
theorem pairO_none {e g : Sh} : pairO e g = none ↔ e.1 = g.1 ∧ ∀ v ∈ e.2, v ∉ g.2 := by
  unfold pairO
  by_cases c : e.1 = g.1
  · rw [if_pos c]
    cases h : e.2.filter fun v => decide (v ∈ g.2) with
    | nil =>
      simp only [true_iff]
      refine ⟨c, fun v hv hg => ?_⟩
      have : v ∈ e.2.filter fun v => decide (v ∈ g.2) := List.mem_filter.mpr ⟨hv, decide_eq_true hg⟩
      rw [h] at this; cases this
    | cons v l =>
      simp only [reduceCtorEq, false_iff]
      rintro ⟨_, h2⟩
      have : v ∈ e.2.filter fun v => decide (v ∈ g.2) := by rw [h]; exact List.mem_cons_self
      obtain ⟨h3, h4⟩ := List.mem_filter.mp this
      exact h2 v h3 (of_decide_eq_true h4)
  · rw [if_neg c]
    simp [c]
theorem outF_none {T F G : List Ent} : outF (bey T F) (bey T G) = none ↔ NoPair T F G := by
  unfold outF
  rw [List.findSome?_eq_none_iff]
  constructor
  · intro h e he g hg u hu v hv a b
    have ha : u ∈ bad F e := mem_bad.mpr ⟨hu, a⟩
    have hb : v ∈ bad G g := mem_bad.mpr ⟨hv, b⟩
    have h1 := h (e.1, bad F e) (mem_bey.mpr ⟨e, he, rfl, fun z => by rw [z] at ha; cases ha⟩)
    rw [List.findSome?_eq_none_iff] at h1
    obtain ⟨k1, k2⟩ := pairO_none.mp (h1 (g.1, bad G g) (mem_bey.mpr ⟨g, hg, rfl, fun z => by rw [z] at hb; cases hb⟩))
    exact ⟨k1, fun z => k2 u ha (z ▸ hb)⟩
  · intro h p hp
    rw [List.findSome?_eq_none_iff]
    intro r hr
    obtain ⟨e, he, rfl, hb⟩ := mem_bey.mp hp
    obtain ⟨g, hg, rfl, hb2⟩ := mem_bey.mp hr
    refine pairO_none.mpr ⟨?_, fun v hv hv2 => ?_⟩
    · obtain ⟨u, l, hu⟩ := List.exists_cons_of_ne_nil hb
      obtain ⟨v, l2, hv⟩ := List.exists_cons_of_ne_nil hb2
      obtain ⟨a1, a2⟩ := mem_bad.mp (show u ∈ bad F e by rw [hu]; exact List.mem_cons_self)
      obtain ⟨b1, b2⟩ := mem_bad.mp (show v ∈ bad G g by rw [hv]; exact List.mem_cons_self)
      exact (h e he g hg u a1 v b1 a2 b2).1
    · obtain ⟨a1, a2⟩ := mem_bad.mp hv
      obtain ⟨b1, b2⟩ := mem_bad.mp hv2
      exact (h e he g hg v a1 v b1 a2 b2).2 rfl
def wordA : Ans → Str
  | .first => "first"
  | .second => "second"
  | .join _ => "join"
  | .out _ => "outside"
theorem word_cov (T F G : List Ent) : IsWord T F G (wordA (covF T F G)) := by
  unfold covF
  by_cases c1 : SomeEmpty T ∨ bey T F = []
  · rw [if_pos c1]
    exact .first (c1.imp id bey_nil.mp)
  · have n1 : ¬ (SomeEmpty T ∨ AllIn T F) := fun z => c1 (z.imp id bey_nil.mpr)
    rw [if_neg c1]
    by_cases c2 : bey T G = []
    · rw [if_pos c2]
      exact .second n1 (bey_nil.mp c2)
    · have n2 : ¬ AllIn T G := fun z => c2 (bey_nil.mpr z)
      rw [if_neg c2]
      cases h : outF (bey T F) (bey T G) with
      | none => exact .join n1 n2 (outF_none.mp h)
      | some A => exact .outside n1 n2 fun z => by rw [outF_none.mpr z] at h; cases h
/-! ### turned boxes -/
structure Turn (T T' : List Ent) : Prop where
  mem : ∀ x s, (∃ e ∈ T', e.1 = x ∧ e.2.2 = s) ↔ ∃ e ∈ T, e.1 = x ∧ e.2.2 = s
theorem Turn.get {T T' : List Ent} (t : Turn T T') {e : Ent} (h : e ∈ T') : ∃ g ∈ T, g.1 = e.1 ∧ g.2.2 = e.2.2 := (t.mem e.1 e.2.2).mp ⟨e, h, rfl, rfl⟩
theorem Turn.back {T T' : List Ent} (t : Turn T T') {e : Ent} (h : e ∈ T) : ∃ g ∈ T', g.1 = e.1 ∧ g.2.2 = e.2.2 := (t.mem e.1 e.2.2).mpr ⟨e, h, rfl, rfl⟩
theorem memF_same {F F' : List Ent} (s : SameB F' F) (x : Str) (v : Int) : memF F' x v = memF F x v := by unfold memF; rw [s x]
theorem word_turn {T F G T' F' G' : List Ent} (t : Turn T T') (f : SameB F' F) (g : SameB G' G) {a : Str} (h : IsWord T' F' G' a) : IsWord T F G a := by
  have h1 : SomeEmpty T' ↔ SomeEmpty T := by
    constructor
    · rintro ⟨e, he, z⟩; obtain ⟨g, hg, _, e2⟩ := t.get he; exact ⟨g, hg, e2.trans z⟩
    · rintro ⟨e, he, z⟩; obtain ⟨g, hg, _, e2⟩ := t.back he; exact ⟨g, hg, e2.trans z⟩
  have h2 : ∀ {F F' : List Ent}, SameB F' F → (AllIn T' F' ↔ AllIn T F) := fun {F F'} s => by
    constructor
    · intro h e he v hv
      obtain ⟨g, hg, e1, e2⟩ := t.back he
      have := h g hg v (e2 ▸ hv)
      rw [memF_same s, e1] at this; exact this
    · intro h e he v hv
      obtain ⟨g, hg, e1, e2⟩ := t.get he
      have := h g hg v (e2 ▸ hv)
      rw [memF_same s, ← e1]; exact this
  have h3 : NoPair T' F' G' ↔ NoPair T F G := by
    constructor
    · intro h e he d hd u hu v hv a b
      obtain ⟨e', he', e1, e2⟩ := t.back he
      obtain ⟨d', hd', d1, d2⟩ := t.back hd
      have := h e' he' d' hd' u (e2 ▸ hu) v (d2 ▸ hv) (by rw [memF_same f, e1]; exact a) (by rw [memF_same g, d1]; exact b)
      rw [e1, d1] at this; exact this
    · intro h e he d hd u hu v hv a b
      obtain ⟨e', he', e1, e2⟩ := t.get he
      obtain ⟨d', hd', d1, d2⟩ := t.get hd
      have := h e' he' d' hd' u (e2 ▸ hu) v (d2 ▸ hv) (by rw [e1, ← memF_same f]; exact a) (by rw [d1, ← memF_same g]; exact b)
      rw [e1, d1] at this; exact this
  cases h with
  | first h => exact .first (by rw [← h1, ← h2 f]; exact h)
  | second h k => exact .second (by rw [← h1, ← h2 f]; exact h) ((h2 g).mp k)
  | join h k m => exact .join (by rw [← h1, ← h2 f]; exact h) (by rw [← h2 g]; exact k) (h3.mp m)
  | outside h k m => exact .outside (by rw [← h1, ← h2 f]; exact h) (by rw [← h2 g]; exact k) (by rw [← h3]; exact m)
/-! ### by going through all assignments -/
theorem combos_map {T : List Ent} {f : Ent → Int} (h : ∀ e ∈ T, f e ∈ e.2.2) : (T.map fun e => (e.1, f e)) ∈ combos (shape T) := by
  refine (combos_iff _ _).mpr ⟨by rw [List.map_map, List.map_map] <;> rfl, fun i x v hi => ?_⟩
  rw [List.getElem?_map] at hi
  obtain ⟨e, he, q⟩ := Option.map_eq_some_iff.mp hi
  obtain ⟨rfl, rfl⟩ := Prod.mk.inj q
  exact ⟨e.2.2, shape_at he, h e (List.mem_of_getElem? he)⟩
theorem combos_mem {T : List Ent} {A : Asg} (h : A ∈ combos (shape T)) {x : Str} {v : Int} (hm : (x, v) ∈ A) : ∃ e ∈ T, e.1 = x ∧ v ∈ e.2.2 := by
  obtain ⟨i, hi⟩ := List.mem_iff_getElem?.mp hm
  obtain ⟨s, hs, hv⟩ := ((combos_iff _ _).mp h).2 i x v hi
  unfold shape at hs
  rw [List.getElem?_map] at hs
  obtain ⟨e, he, q⟩ := Option.map_eq_some_iff.mp hs
  obtain ⟨e1, e2⟩ := Prod.mk.inj q
  exact ⟨e, List.mem_of_getElem? he, e1, e2 ▸ hv⟩
theorem combos_keys {T : List Ent} {A : Asg} (h : A ∈ combos (shape T)) : A.map (·.1) = T.map (·.1) := by
  have := ((combos_iff _ _).mp h).1
  rw [this, List.map_map] <;> rfl
/-- a box over the names of T -/
structure Over (T F : List Ent) : Prop where
  nd : (F.map (·.1)).Nodup
  has : Has T F
  sub : ∀ x ∈ F.map (·.1), x ∈ T.map (·.1)
theorem holds_iff {T F : List Ent} (o : Over T F) {A : Asg} (k : ∀ x, x ∈ A.map (·.1) ↔ x ∈ T.map (·.1)) (na : (A.map (·.1)).Nodup) : holdsE F A = true ↔ ∀ x v, (x, v) ∈ A → memF F x v = true := by
  unfold holdsE
  rw [List.all_eq_true]
  constructor
  · intro h x v hm
    have xm : x ∈ T.map (·.1) := (k x).mp (List.mem_map_of_mem (f := fun e : Str × Int => e.1) hm)
    obtain ⟨e, he, rfl⟩ := List.mem_map.mp xm
    obtain ⟨g, hg⟩ := o.has e he
    obtain ⟨gm, g1⟩ := getE_mem hg
    have := h g gm
    unfold inSide at this
    rw [g1, (aget_iff na e.1 v).mpr hm] at this
    rw [memF_of hg]; exact this
  · intro h g gm
    have xm : g.1 ∈ A.map (·.1) := (k g.1).mpr (o.sub _ (List.mem_map_of_mem gm))
    obtain ⟨v, hv⟩ := Option.isSome_iff_exists.mp (aget_mem.mpr xm)
    have := h g.1 v ((aget_iff na g.1 v).mp hv)
    unfold inSide
    rw [hv]
    rw [memF_of (getE_of o.nd gm)] at this
    exact this
theorem not_holds {T F : List Ent} (o : Over T F) {A : Asg} (k : ∀ x, x ∈ A.map (·.1) ↔ x ∈ T.map (·.1)) (na : (A.map (·.1)).Nodup) {x : Str} {v : Int} (hm : (x, v) ∈ A) (z : memF F x v = false) : holdsE F A = false :=
  Bool.eq_false_iff.mpr fun h => by rw [(holds_iff o k na).mp h x v hm] at z; cases z
theorem of_not_holds {T F : List Ent} (o : Over T F) {A : Asg} (k : ∀ x, x ∈ A.map (·.1) ↔ x ∈ T.map (·.1)) (na : (A.map (·.1)).Nodup) (h : holdsE F A = false) : ∃ x v, (x, v) ∈ A ∧ memF F x v = false := by
  refine Classical.byContradiction fun z => ?_
  have : holdsE F A = true := (holds_iff o k na).mpr fun x v hm => by
    cases c : memF F x v with
    | true => rfl
    | false => exact absurd ⟨x, v, hm, c⟩ z
  rw [h] at this; cases this
theorem ck {T : List Ent} {A : Asg} (h : A ∈ combos (shape T)) (x : Str) : x ∈ A.map (·.1) ↔ x ∈ T.map (·.1) := by rw [combos_keys h]
theorem cn {T : List Ent} {A : Asg} (h : A ∈ combos (shape T)) (nd : (T.map (·.1)).Nodup) : (A.map (·.1)).Nodup := by rw [combos_keys h]; exact nd
theorem walk_all {T F : List Ent} (o : Over T F) (nd : (T.map (·.1)).Nodup) (ne : ¬ SomeEmpty T) : (∀ A ∈ combos (shape T), holdsE F A = true) ↔ AllIn T F := by
  constructor
  · intro h e he v hv
    cases c : memF F e.1 v with
    | true => rfl
    | false =>
      have hA : (T.map fun g => (g.1, if g.1 = e.1 then v else g.2.2.headD 0)) ∈ combos (shape T) := combos_map (f := fun g => if g.1 = e.1 then v else g.2.2.headD 0) fun g hg => by
        by_cases z : g.1 = e.1
        · rw [if_pos z, key_eq nd hg he z]; exact hv
        · rw [if_neg z]
          cases c2 : g.2.2 with
          | nil => exact absurd ⟨g, hg, c2⟩ ne
          | cons a l => exact List.mem_cons_self
      have := not_holds o (ck hA) (cn hA nd) (x := e.1) (v := v) (List.mem_map.mpr ⟨e, he, by rw [if_pos rfl]⟩) c
      rw [h _ hA] at this; cases this
  · intro h A hA
    refine (holds_iff o (ck hA) (cn hA nd)).mpr fun x v hm => ?_
    obtain ⟨e, he, rfl, hv⟩ := combos_mem hA hm
    exact h e he v hv
theorem walk_none {T : List Ent} (e : SomeEmpty T) : combos (shape T) = [] := by
  obtain ⟨g, hg, z⟩ := e
  cases c : combos (shape T) with
  | nil => rfl
  | cons A l =>
    have hA : A ∈ combos (shape T) := by rw [c]; exact List.mem_cons_self
    have k := combos_keys hA
    obtain ⟨i, hi⟩ := List.mem_iff_getElem?.mp hg
    have hl : i < A.length := by
      have := congrArg List.length k
      rw [List.length_map, List.length_map] at this
      have := (List.getElem?_eq_some_iff.mp hi).1
      omega
    obtain ⟨s, hs, hv⟩ := ((combos_iff _ _).mp hA).2 i A[i].1 A[i].2 (List.getElem?_eq_getElem hl)
    rw [shape_at hi] at hs
    obtain ⟨_, e2⟩ := Prod.mk.inj (Option.some.inj hs)
    rw [← e2, z] at hv; cases hv
theorem walk_pair {T F G : List Ent} (o : Over T F) (o2 : Over T G) (nd : (T.map (·.1)).Nodup) (ne : ¬ SomeEmpty T) : (∀ A ∈ combos (shape T), (holdsE F A || holdsE G A) = true) ↔ NoPair T F G := by
  constructor
  · intro h e he g hg u hu v hv a b
    refine Decidable.byContradiction fun z => ?_
    have z' : e.1 = g.1 → u = v := fun c => Decidable.byContradiction fun d => z ⟨c, d⟩
    have hA : (T.map fun d => (d.1, if d.1 = e.1 then u else if d.1 = g.1 then v else d.2.2.headD 0)) ∈ combos (shape T) := combos_map (f := fun d => if d.1 = e.1 then u else if d.1 = g.1 then v else d.2.2.headD 0) fun d hd => by
      by_cases z1 : d.1 = e.1
      · rw [if_pos z1, key_eq nd hd he z1]; exact hu
      · rw [if_neg z1]
        by_cases z2 : d.1 = g.1
        · rw [if_pos z2, key_eq nd hd hg z2]; exact hv
        · rw [if_neg z2]
          cases c2 : d.2.2 with
          | nil => exact absurd ⟨d, hd, c2⟩ ne
          | cons a l => exact List.mem_cons_self
    have m1 : (e.1, u) ∈ (T.map fun d => (d.1, if d.1 = e.1 then u else if d.1 = g.1 then v else d.2.2.headD 0)) := List.mem_map.mpr ⟨e, he, by rw [if_pos rfl]⟩
    have m2 : (g.1, v) ∈ (T.map fun d => (d.1, if d.1 = e.1 then u else if d.1 = g.1 then v else d.2.2.headD 0)) := List.mem_map.mpr ⟨g, hg, by
      by_cases c : g.1 = e.1
      · rw [if_pos c, z' c.symm]
      · rw [if_neg c, if_pos rfl]⟩
    have h1 := not_holds o (ck hA) (cn hA nd) m1 a
    have h2 := not_holds o2 (ck hA) (cn hA nd) m2 b
    have := h _ hA
    rw [h1, h2] at this; cases this
  · intro h A hA
    cases c : holdsE F A with
    | true => rfl
    | false =>
      cases c2 : holdsE G A with
      | true => rfl
      | false =>
        obtain ⟨x, u, hx, a⟩ := of_not_holds o (ck hA) (cn hA nd) c
        obtain ⟨y, v, hy, b⟩ := of_not_holds o2 (ck hA) (cn hA nd) c2
        obtain ⟨e, he, rfl, hu⟩ := combos_mem hA hx
        obtain ⟨g, hg, rfl, hv⟩ := combos_mem hA hy
        obtain ⟨k1, k2⟩ := h e he g hg u hu v hv a b
        have na : (A.map (·.1)).Nodup := by rw [combos_keys hA]; exact nd
        have e1 := (aget_iff na e.1 u).mpr hx
        have e2 := (aget_iff na g.1 v).mpr hy
        rw [k1] at e1
        exact absurd (Option.some.inj (e1.symm.trans e2)) k2
/-! ### by the sides -/
theorem bey_names {T F : List Ent} {x : Str} : x ∈ (bey T F).map (·.1) ↔ ∃ e ∈ T, e.1 = x ∧ ∃ v ∈ e.2.2, memF F e.1 v = false := by
  rw [List.mem_map]
  constructor
  · rintro ⟨p, hp, rfl⟩
    obtain ⟨e, he, rfl, hb⟩ := mem_bey.mp hp
    obtain ⟨u, l, hu⟩ := List.exists_cons_of_ne_nil hb
    obtain ⟨a1, a2⟩ := mem_bad.mp (show u ∈ bad F e by rw [hu]; exact List.mem_cons_self)
    exact ⟨e, he, rfl, u, a1, a2⟩
  · rintro ⟨e, he, rfl, v, hv, z⟩
    have hb : v ∈ bad F e := mem_bad.mpr ⟨hv, z⟩
    exact ⟨(e.1, bad F e), mem_bey.mpr ⟨e, he, rfl, fun z => by rw [z] at hb; cases hb⟩, rfl⟩
theorem bey_nd {T F : List Ent} (nd : (T.map (·.1)).Nodup) : ((bey T F).map (·.1)).Nodup := by
  have h1 : ((T.map fun e => (e.1, bad F e)).map (·.1)).Nodup := by rw [List.map_map]; exact nd
  exact List.Pairwise.sublist (List.Sublist.map _ List.filter_sublist) h1
theorem single {l : List Str} (nd : l.Nodup) (ne : l ≠ []) {x : Str} (h : ∀ y ∈ l, y = x) : l = [x] := by
  cases l with
  | nil => exact absurd rfl ne
  | cons a l =>
    have ha := h a List.mem_cons_self
    cases l with
    | nil => rw [ha]
    | cons b l =>
      have hb := h b (List.mem_cons_of_mem _ List.mem_cons_self)
      exact absurd (by rw [ha, hb]; exact List.mem_cons_self) (List.nodup_cons.mp nd).1
theorem join_iff {T F G : List Ent} (nd : (T.map (·.1)).Nodup) (n1 : bey T F ≠ []) (n2 : bey T G ≠ []) :
    NoPair T F G ↔ ∃ x, (bey T F).map (·.1) = [x] ∧ (bey T G).map (·.1) = [x] ∧ inJoin F G T x = true := by
  have ne1 : (bey T F).map (·.1) ≠ [] := fun z => n1 (List.map_eq_nil_iff.mp z)
  have ne2 : (bey T G).map (·.1) ≠ [] := fun z => n2 (List.map_eq_nil_iff.mp z)
  constructor
  · intro h
    obtain ⟨x, l, hx⟩ := List.exists_cons_of_ne_nil ne1
    have xm : x ∈ (bey T F).map (·.1) := by rw [hx]; exact List.mem_cons_self
    obtain ⟨e, he, rfl, u, hu, a⟩ := bey_names.mp xm
    have g2 : ∀ y ∈ (bey T G).map (·.1), y = e.1 := fun y hy => by
      obtain ⟨g, hg, rfl, v, hv, b⟩ := bey_names.mp hy
      exact (h e he g hg u hu v hv a b).1.symm
    have b2 := single (bey_nd nd) ne2 g2
    obtain ⟨g, hg, gx, v, hv, b⟩ := bey_names.mp (show e.1 ∈ (bey T G).map (·.1) by rw [b2]; exact List.mem_cons_self)
    have g1 : ∀ y ∈ (bey T F).map (·.1), y = e.1 := fun y hy => by
      obtain ⟨d, hd, rfl, w, hw, c⟩ := bey_names.mp hy
      exact (h d hd g hg w hw v hv c b).1.trans gx
    refine ⟨e.1, single (bey_nd nd) ne1 g1, b2, ?_⟩
    unfold inJoin
    rw [List.all_eq_true]
    intro d hd
    rw [List.all_eq_true]
    intro w hw
    unfold okV
    cases c1 : memF F d.1 w with
    | true =>
      cases c2 : memF G d.1 w with
      | true => simp
      | false => simp [g2 d.1 (bey_names.mpr ⟨d, hd, rfl, w, hw, c2⟩)]
    | false =>
      cases c2 : memF G d.1 w with
      | true => simp [g1 d.1 (bey_names.mpr ⟨d, hd, rfl, w, hw, c1⟩)]
      | false => exact absurd rfl (h d hd d hd w hw w hw c1 c2).2
  · rintro ⟨x, hF, hG, hj⟩ e he g hg u hu v hv a b
    have e1 : e.1 = x := List.mem_singleton.mp (hF ▸ bey_names.mpr ⟨e, he, rfl, u, hu, a⟩)
    have e2 : g.1 = x := List.mem_singleton.mp (hG ▸ bey_names.mpr ⟨g, hg, rfl, v, hv, b⟩)
    refine ⟨e1.trans e2.symm, fun z => ?_⟩
    unfold inJoin at hj
    have h1 := List.all_eq_true.mp (List.all_eq_true.mp hj e he) u hu
    unfold okV at h1
    rw [e2, ← e1, ← z] at b
    rw [a, b] at h1
    cases h1
/-! ### what is told is right -/
def Right (T F G : List Ent) : Ans → Prop
  | .first => True
  | .second => True
  | .join x => x ∈ T.map (·.1) ∧ inJoin F G T x = true
  | .out A => (A.map (·.1)).Nodup ∧ A.length = T.length ∧ (∀ e ∈ T, ∃ v, aget A e.1 = some v ∧ v ∈ e.2.2) ∧ holdsE F A = false ∧ holdsE G A = false
theorem putAll_keys : ∀ (A B : Asg), (∀ p ∈ A, p.1 ∈ B.map (·.1)) → (putAll B A).map (·.1) = B.map (·.1)
  | [], _, _ => rfl
  | p :: A, B, h => by
    have h1 := putA_keys (v := p.2) (h p List.mem_cons_self)
    show (putAll (putA B p.1 p.2) A).map (·.1) = _
    rw [putAll_keys A (putA B p.1 p.2) fun r hr => by rw [h1]; exact h r (List.mem_cons_of_mem _ hr), h1]
theorem head_mem {l : List Int} (h : l ≠ []) : l.headD 0 ∈ l := by
  cases l with
  | nil => exact absurd rfl h
  | cons a l => exact List.mem_cons_self
theorem right_cov {T F G T' F' G' : List Ent} (t : Turn T T') (f : SameB F' F) (g : SameB G' G) (nd' : (T'.map (·.1)).Nodup) (nd : (T.map (·.1)).Nodup) (len : T'.length = T.length) (o : Over T F) (o2 : Over T G) : Right T F G (covF T' F' G') := by
  unfold covF
  by_cases c1 : SomeEmpty T' ∨ bey T' F' = []
  · rw [if_pos c1]; exact True.intro
  rw [if_neg c1]
  by_cases c2 : bey T' G' = []
  · rw [if_pos c2]; exact True.intro
  rw [if_neg c2]
  have ne : ¬ SomeEmpty T' := fun z => c1 (.inl z)
  have n1 : bey T' F' ≠ [] := fun z => c1 (.inr z)
  have keys : ∀ x, x ∈ T'.map (·.1) ↔ x ∈ T.map (·.1) := fun x => by
    rw [List.mem_map, List.mem_map]
    constructor
    · rintro ⟨e, he, rfl⟩; obtain ⟨d, hd, e1, _⟩ := t.get he; exact ⟨d, hd, e1⟩
    · rintro ⟨e, he, rfl⟩; obtain ⟨d, hd, e1, _⟩ := t.back he; exact ⟨d, hd, e1⟩
  cases h : outF (bey T' F') (bey T' G') with
  | none =>
    obtain ⟨x, hF, hG, hj⟩ := (join_iff nd' n1 c2).mp (outF_none.mp h)
    have e0 : (((bey T' F').map fun p : Sh => p.1).headD ("" : Str)) = x := by rw [hF] <;> rfl
    show (((bey T' F').map fun p : Sh => p.1).headD ("" : Str)) ∈ T.map (·.1) ∧ inJoin F G T (((bey T' F').map fun p : Sh => p.1).headD ("" : Str)) = true
    rw [e0]
    refine ⟨(keys x).mp (bey_keys (M := F') (by rw [hF]; exact List.mem_cons_self)), ?_⟩
    unfold inJoin at hj ⊢
    rw [List.all_eq_true] at hj ⊢
    intro d hd
    obtain ⟨d', hd', e1, e2⟩ := t.back hd
    have := hj d' hd'
    rw [e2] at this
    rw [List.all_eq_true] at this ⊢
    intro v hv
    have := this v hv
    unfold okV at this ⊢
    rw [memF_same f, memF_same g, e1] at this
    exact this
  | some A0 =>
    show Right T F G (.out (putAll (baseF T') A0))
    obtain ⟨p, hp, r, hr, hA⟩ := outF_of h
    obtain ⟨e, he, rfl, hb⟩ := mem_bey.mp hp
    obtain ⟨d, hd, rfl, hb2⟩ := mem_bey.mp hr
    have kb : (baseF T').map (·.1) = T'.map (·.1) := by unfold baseF; rw [List.map_map] <;> rfl
    have gb : ∀ q ∈ T', aget (baseF T') q.1 = some (q.2.2.headD 0) := fun q hq => (aget_iff (by rw [kb]; exact nd') _ _).mpr (List.mem_map.mpr ⟨q, hq, rfl⟩)
    -- the two places
    have two : ∃ u v, u ∈ bad F' e ∧ v ∈ bad G' d ∧ (∀ p ∈ A0, p.1 ∈ (baseF T').map (·.1)) ∧ ∀ y, aget (putAll (baseF T') A0) y = if y = d.1 then some v else if y = e.1 then some u else aget (baseF T') y := by
      unfold pairO at hA
      by_cases c : e.1 = d.1
      · rw [if_pos c] at hA
        cases hf : (bad F' e).filter fun v => decide (v ∈ bad G' d) with
        | nil => rw [hf] at hA; cases hA
        | cons v l =>
          rw [hf] at hA
          obtain rfl := Option.some.inj hA
          have hv : v ∈ (bad F' e).filter fun v => decide (v ∈ bad G' d) := by rw [hf]; exact List.mem_cons_self
          obtain ⟨h1, h2⟩ := List.mem_filter.mp hv
          refine ⟨v, v, h1, of_decide_eq_true h2, fun p hp => ?_, fun y => ?_⟩
          · rw [List.mem_singleton.mp hp, kb]; exact List.mem_map_of_mem he
          · show aget (putA (baseF T') e.1 v) y = _
            rw [aget_put, ← c]
            by_cases z : e.1 = y
            · simp [z]
            · simp [z, Ne.symm z]
      · rw [if_neg c] at hA
        obtain rfl := Option.some.inj hA
        refine ⟨(bad F' e).headD 0, (bad G' d).headD 0, head_mem hb, head_mem hb2, fun p hp => ?_, fun y => ?_⟩
        · rcases List.mem_cons.mp hp with z | z
          · rw [z, kb]; exact List.mem_map_of_mem he
          · rw [List.mem_singleton.mp z, kb]; exact List.mem_map_of_mem hd
        · show aget (putA (putA (baseF T') e.1 ((bad F' e).headD 0)) d.1 ((bad G' d).headD 0)) y = _
          rw [aget_put, aget_put]
          by_cases z : d.1 = y
          · simp [z]
          · by_cases z2 : e.1 = y
            · simp [z, z2, Ne.symm z]
            · simp [z, z2, Ne.symm z, Ne.symm z2]
    obtain ⟨u, v, hu, hv, sub, get⟩ := two
    have kA : (putAll (baseF T') A0).map (·.1) = T'.map (·.1) := by rw [putAll_keys A0 _ sub, kb]
    have nA : ((putAll (baseF T') A0).map (·.1)).Nodup := by rw [kA]; exact nd'
    obtain ⟨u1, u2⟩ := mem_bad.mp hu
    obtain ⟨v1, v2⟩ := mem_bad.mp hv
    have kx : ∀ x, x ∈ (putAll (baseF T') A0).map (·.1) ↔ x ∈ T.map (·.1) := fun x => by rw [kA]; exact keys x
    have gv : aget (putAll (baseF T') A0) d.1 = some v := by rw [get, if_pos rfl]
    have hold2 : holdsE G (putAll (baseF T') A0) = false := not_holds o2 kx nA ((aget_iff nA d.1 v).mp gv) (by rw [← memF_same g]; exact v2)
    have hold1 : holdsE F (putAll (baseF T') A0) = false := by
      by_cases c : e.1 = d.1
      · -- one name: both values are one
        unfold pairO at hA
        rw [if_pos c] at hA
        cases hf : (bad F' e).filter fun v => decide (v ∈ bad G' d) with
        | nil => rw [hf] at hA; cases hA
        | cons w l =>
          rw [hf] at hA
          obtain rfl := Option.some.inj hA
          have hw : w ∈ (bad F' e).filter fun v => decide (v ∈ bad G' d) := by rw [hf]; exact List.mem_cons_self
          obtain ⟨w1, w2⟩ := mem_bad.mp (List.mem_filter.mp hw).1
          have gw : aget (putAll (baseF T') [(e.1, w)]) e.1 = some w := by
            show aget (putA (baseF T') e.1 w) e.1 = _
            rw [aget_put, if_pos rfl]
          exact not_holds o kx nA ((aget_iff nA e.1 w).mp gw) (by rw [← memF_same f]; exact w2)
      · have gu : aget (putAll (baseF T') A0) e.1 = some u := by rw [get, if_neg c, if_pos rfl]
        exact not_holds o kx nA ((aget_iff nA e.1 u).mp gu) (by rw [← memF_same f]; exact u2)
    refine ⟨nA, ?_, fun q hq => ?_, hold1, hold2⟩
    · have := congrArg List.length kA
      rw [List.length_map, List.length_map] at this
      omega
    · obtain ⟨q', hq', e1, e2⟩ := t.back hq
      rw [get, ← e1, ← e2]
      by_cases z : q'.1 = d.1
      · exact ⟨v, if_pos z, by rw [key_eq nd' hq' hd z]; exact v1⟩
      · by_cases z2 : q'.1 = e.1
        · exact ⟨u, by rw [if_neg z, if_pos z2], by rw [key_eq nd' hq' he z2]; exact u1⟩
        · exact ⟨_, by rw [if_neg z, if_neg z2]; exact gb q' hq', head_mem fun w => ne ⟨q', hq', w⟩⟩
end K5

set_option Elab.async false
set_option linter.all false
set_option maxRecDepth 100000
set_option maxHeartbeats 4000000
namespace K5
open PySem PySem.Spec PyProof.Rows L2 Cs CsU
theorem countP_snoc {α : Type} {l : List α} {i : Nat} {a : α} {p : α → Bool} (h : l[i]? = some a) : (l.take (i + 1)).countP p = (l.take i).countP p + (if p a = true then 1 else 0) := by
  rw [List.take_add_one, h, List.countP_append]
  show _ + List.countP p [a] = _
  rw [List.countP_cons, List.countP_nil]
  simp
theorem b2 (b : Bool) : (if b = true then (1 : Int) else 0) = ((if b = true then 1 else 0 : Nat) : Int) := by cases b <;> rfl
def noF (F : List Ent) (A : Asg) : Bool := !holdsE F A
def noB (F G : List Ent) (A : Asg) : Bool := !holdsE F A && !holdsE G A
theorem count0 {D : List Asg} {p : Asg → Bool} : D.countP p = 0 ↔ ∀ A ∈ D, p A = false := by
  rw [List.countP_eq_zero]
  exact ⟨fun h A hA => Bool.eq_false_iff.mpr (h A hA), fun h A hA => Bool.eq_false_iff.mp (h A hA)⟩
theorem first_iff {T F : List Ent} (o : Over T F) (nd : (T.map (·.1)).Nodup) : (combos (shape T)).countP (noF F) = 0 ↔ SomeEmpty T ∨ AllIn T F := by
  rw [count0]
  by_cases e : SomeEmpty T
  · rw [walk_none e]
    exact ⟨fun _ => .inl e, fun _ A h => nomatch h⟩
  · constructor
    · intro h
      exact .inr ((walk_all o nd e).mp fun A hA => by have := h A hA; unfold noF at this; simpa using this)
    · rintro (h | h)
      · exact absurd h e
      · intro A hA
        have := (walk_all o nd e).mpr h A hA
        unfold noF; rw [this] <;> rfl
theorem second_iff {T G : List Ent} (o : Over T G) (nd : (T.map (·.1)).Nodup) (e : ¬ SomeEmpty T) : (combos (shape T)).countP (noF G) = 0 ↔ AllIn T G := by
  rw [first_iff o nd]
  exact ⟨fun h => h.resolve_left e, .inr⟩
theorem join0_iff {T F G : List Ent} (o : Over T F) (o2 : Over T G) (nd : (T.map (·.1)).Nodup) (e : ¬ SomeEmpty T) : (combos (shape T)).countP (noB F G) = 0 ↔ NoPair T F G := by
  rw [count0, ← walk_pair o o2 nd e]
  constructor
  · intro h A hA
    have := h A hA
    unfold noB at this
    cases c : holdsE F A <;> cases c2 : holdsE G A <;> simp_all
  · intro h A hA
    have := h A hA
    unfold noB
    cases c : holdsE F A <;> cases c2 : holdsE G A <;> simp_all
def wordC (a b c : Nat) : Str := if a = 0 then "first" else if b = 0 then "second" else if c = 0 then "join" else "outside"
theorem word_walk {T F G : List Ent} (o : Over T F) (o2 : Over T G) (nd : (T.map (·.1)).Nodup) : IsWord T F G (wordC ((combos (shape T)).countP (noF F)) ((combos (shape T)).countP (noF G)) ((combos (shape T)).countP (noB F G))) := by
  unfold wordC
  by_cases c1 : (combos (shape T)).countP (noF F) = 0
  · rw [if_pos c1]; exact .first ((first_iff o nd).mp c1)
  · have n1 : ¬ (SomeEmpty T ∨ AllIn T F) := fun z => c1 ((first_iff o nd).mpr z)
    have e : ¬ SomeEmpty T := fun z => n1 (.inl z)
    rw [if_neg c1]
    by_cases c2 : (combos (shape T)).countP (noF G) = 0
    · rw [if_pos c2]; exact .second n1 ((second_iff o2 nd e).mp c2)
    · have n2 : ¬ AllIn T G := fun z => c2 ((second_iff o2 nd e).mpr z)
      rw [if_neg c2]
      by_cases c3 : (combos (shape T)).countP (noB F G) = 0
      · rw [if_pos c3]; exact .join n1 n2 ((join0_iff o o2 nd e).mp c3)
      · rw [if_neg c3]; exact .outside n1 n2 fun z => c3 ((join0_iff o o2 nd e).mpr z)
section
variable {P : Program} {w : World} {K : PySem.W.Frag} {mg : Str → Option Value} {base : Heap}
abbrev sWlk : Stmt := topS 27
abbrev nWlk : List Str := ["_law_first", "_law_second", "_law_third", "_law_left", "_law_values", "_law_held", "_law_k"]
abbrev pWlk : List Str := ["_law_first", "_law_second", "_law_third"]
theorem scWlk : FnScope nWlk pWlk (defScope sWlk) := ⟨rfl, rfl, rfl, by decide +kernel, rfl, by decide +kernel, by decide +kernel⟩
def spWlk : Sp := fun vs H Q _ => ∃ (a b t : Addr) (F G T : List Ent), vs = [.ref a, .ref b, .ref t] ∧ Bu H a F ∧ Bu H b G ∧ Bu H t T ∧ Over T F ∧ Over T G ∧ T.length ≤ 5 ∧ (∀ e ∈ T, e.2.2.length ≤ 5) ∧ ∀ H' x, Same H H' → IsWord T F G x → Q (.str x) H'
theorem ok_wlk {f fA fH : Addr} {fd fdA fdH : FuncData} (F : Fun K "_law_word_by_walk" "_law_word_by_walk" sWlk f fd) (B : Bt mg) (As0 : Call P w K mg base 1 "_law_assignments" fA fdA ["_law_names_here", "_law_sides_here"] spAssign)
    (Ho : Call P w K mg base 1 "_law_holds" fH fdH ["_law_sides_here", "_law_values"] spHolds) : FnOk P w K mg base CX0 2 f fd pWlk spWlk := by
  refine F.ok scWlk (fun vs H Q E h => ?_) (fun cdv A outer s H vs Q E hr h => ?_)
  · obtain ⟨a, b, t, F, G, T, rfl, _⟩ := h
    rfl
  · obtain ⟨fa, fb, t, Fm, Gm, T, rfl, bf, bg, bt, of_, og, tlen, tsz, q⟩ := h
    have hu := hu_of hr
    have hu64 : (A.deeper (envOfC "_law_word_by_walk" (defScope sWlk) s.heap.objs.size f cdv)).units + 64 < cLine := by have := hr.un; omega
    have nd := scWlk.nd
    refine ⟨_, pss_cons (ps_set (i := 3) nd rfl (.inl rfl) (pe_lst (pa_cons pe_int (pa_cons pe_int (pa_cons pe_int pa_nil)))))
      (pss_cons (ps_for PassesOwn.never rfl (pi_list (pe_call As0.ok hr (by rfl) As0.at_ As0.kp As0.bd .nil pass0 (pa_cons (pe_callTy (call_listD rfl) (by rfl) B.list PyProof.Rows.boot_list (pa_cons (pv 2) pa_nil)) (pa_cons (pv 2) pa_nil)))) (pg_name (i := 4) nd rfl (.inl rfl))
        (pss_cons (ps_set (i := 5) nd rfl (.inl rfl) (pe_lst (pa_cons (pe_call Ho.ok hr (by rfl) Ho.at_ Ho.kp Ho.bd .nil pass0 (pa_cons (pv 0) (pa_cons (pv 4) pa_nil))) (pa_cons (pe_call Ho.ok hr (by rfl) Ho.at_ Ho.kp Ho.bd .nil pass0 (pa_cons (pv 1) (pa_cons (pv 4) pa_nil))) pa_nil))))
        (pss_one (ps_set (i := 3) nd rfl (.inl rfl) (pe_lst (pa_cons (pe_op op_add (pe_ix ix_list (pv 3) pe_int (fun _ _ => rfl)) (pe_callTy call_int1 (by rfl) B.int PyProof.Rows.boot_int (pa_cons (pe_not (pe_ix ix_list (pv 5) pe_int (fun _ _ => rfl))) pa_nil)))
          (pa_cons (pe_op op_add (pe_ix ix_list (pv 3) pe_int (fun _ _ => rfl)) (pe_callTy call_int1 (by rfl) B.int PyProof.Rows.boot_int (pa_cons (pe_not (pe_ix ix_list (pv 5) pe_int (fun _ _ => rfl))) pa_nil)))
          (pa_cons (pe_op op_add (pe_ix ix_list (pv 3) pe_int (fun _ _ => rfl)) (pe_callTy call_int1 (by rfl) B.int PyProof.Rows.boot_int (pa_cons (pe_cmpR (r := rEqD K) (op_eqD hu64) (pv 5) (pe_lst (pa_cons pe_bl (pa_cons pe_bl pa_nil))) rfl) pa_nil))) pa_nil))))))))
      (pss_cons (ps_for PassesOwn.never rfl (pi_range1 (by rfl) B.range (pa_cons pe_int pa_nil)) (pg_name (i := 6) nd rfl (.inl rfl))
        (pss_one (ps_if (pt_cmpR op_eq (pe_ix ix_list (pv 3) (pv 6) (fun _ _ => rfl)) pe_int rfl) (pss_one (ps_ret (pe_ix ix_list (pe_lst (pa_cons pe_str (pa_cons pe_str (pa_cons pe_str pa_nil)))) (pv 6) (fun _ _ => rfl)))) pss_nil)))
      (pss_one (ps_ret pe_str)))), ?_⟩
    have word := word_walk of_ og bt.nd
    obtain ⟨Ds, hDs⟩ : ∃ D, D = combos (shape T) := ⟨_, rfl⟩
    rw [← hDs] at word
    refine ⟨by show 3 ≤ sizeLine; decide, fun l0 nl0 => ?_⟩
    have s1 := same_new (o := HO.lst [V.int 0, V.int 0, V.int 0]) nl0
    have el1 : (upd H l0 (.lst [V.int 0, V.int 0, V.int 0])) l0 = some (.lst [V.int ((0 : Nat) : Int), V.int ((0 : Nat) : Int), V.int ((0 : Nat) : Int)]) := upd_same
    generalize upd H l0 (.lst [V.int 0, V.int 0, V.int 0]) = H1 at s1 el1 ⊢
    refine ⟨.ref t, rfl, t, _, rfl, .inl (s1 _ _ bt.un), fun nm nnm => ?_⟩
    have eK : ((entK T).map fun kv => kV kv.1) = (T.map (·.1)).map V.str := by unfold entK; rw [List.map_map, List.map_map] <;> rfl
    rw [eK]
    have s2 := s1.trans (same_new (o := HO.lst ((T.map (·.1)).map V.str)) nnm)
    have el2 := same_new (o := HO.lst ((T.map (·.1)).map V.str)) nnm _ _ el1
    have enm := upd_same (H := H1) (a := nm) (o := HO.lst ((T.map (·.1)).map V.str))
    generalize upd H1 nm (.lst ((T.map (·.1)).map V.str)) = H2 at s2 el2 enm ⊢
    refine ⟨.ref t, rfl, nm, t, T, rfl, enm, bt.same' s2, tlen, tsz, fun H3 l ds s3 el as dl cmb dfr => ?_⟩
    rw [← hDs] at cmb
    have S3 := s2.trans s3
    have el3 := s3 _ _ el2
    refine ⟨l, rfl, ⟨_, sl_map el⟩, for_list (xs := ds.map fun p => V.ref p.1) (fun i σ H' => ∃ (lf : Addr) (y4 y5 : Option V), σ = [some (.ref fa), some (.ref fb), some (.ref t), some (.ref lf), y4, y5, none] ∧ Same H3 H' ∧ H' lf = some (.lst [.int ((Ds.take i).countP (noF Fm) : Nat), .int ((Ds.take i).countP (noF Gm) : Nat), .int ((Ds.take i).countP (noB Fm Gm) : Nat)]))
      ⟨l0, none, none, rfl, Same.refl _, el3⟩ (fun i σ H' _ h => by obtain ⟨_, _, _, _, h, _⟩ := h; exact sl_map (h _ _ el)) ?_ ?_⟩
    · rintro i x σ H' hx ⟨lf, y4, y5, rfl, sm, elf⟩
      rw [List.getElem?_map] at hx
      obtain ⟨⟨v, Av⟩, hv, rfl⟩ := Option.map_eq_some_iff.mp hx
      have am := List.mem_of_getElem? hv
      have hD : Ds[i]? = some Av := by rw [← cmb, List.getElem?_map, hv] <;> rfl
      have AD : Av ∈ combos (shape T) := hDs ▸ List.mem_of_getElem? hD
      have S4 := S3.trans sm
      have ev := sm _ _ (as.at_ _ am)
      have nv : H v = none := s2.free (dfr _ am)
      have fav : fa ≠ v := fun z => by have := bf.un; rw [z, nv] at this; cases this
      have fbv : fb ≠ v := fun z => by have := bg.un; rw [z, nv] at this; cases this
      have cov : ∀ {M : List Ent}, Over T M → ∀ e ∈ M, ∃ a, aget Av e.1 = some a := fun o e he => Option.isSome_iff_exists.mp (aget_mem.mpr ((ck AD e.1).mpr (o.sub _ (List.mem_map_of_mem he))))
      refine ⟨.ref fa, rfl, .ref v, rfl, fa, v, Fm, Av, rfl, bf.same' S4, ⟨.inl ev⟩, fav, cov of_, fun H5 s5 => ?_⟩
      refine ⟨.ref fb, rfl, .ref v, rfl, fb, v, Gm, Av, rfl, (bg.same' S4).same' s5, ⟨.inl (s5 _ _ ev)⟩, fbv, cov og, fun H6 s6 => ⟨by show 2 ≤ sizeLine; decide, fun h nh => ?_⟩⟩
      have s7 := (s5.trans s6).trans (same_new (o := HO.lst [V.bl (holdsE Fm Av), V.bl (holdsE Gm Av)]) nh)
      have eh := upd_same (H := H6) (a := h) (o := HO.lst [V.bl (holdsE Fm Av), V.bl (holdsE Gm Av)])
      generalize upd H6 h (.lst [V.bl (holdsE Fm Av), V.bl (holdsE Gm Av)]) = H7 at s7 eh ⊢
      have elf7 := s7 _ _ elf
      refine ⟨.ref lf, rfl, lf, _, _, _, rfl, rfl, sl_map elf7, atI_nat (j := 0) rfl, .ref h, rfl, h, _, _, .bl (holdsE Fm Av), rfl, rfl, sl_map eh, atI_nat (j := 0) rfl, _, rfl, .inr ⟨_, rfl, _, _, rfl, rfl, ?_⟩⟩
      refine ⟨.ref lf, rfl, lf, _, _, _, rfl, rfl, sl_map elf7, atI_nat (j := 1) rfl, .ref h, rfl, h, _, _, .bl (holdsE Gm Av), rfl, rfl, sl_map eh, atI_nat (j := 1) rfl, _, rfl, .inr ⟨_, rfl, _, _, rfl, rfl, ?_⟩⟩
      refine ⟨.ref lf, rfl, lf, _, _, _, rfl, rfl, sl_map elf7, atI_nat (j := 2) rfl, .ref h, rfl, by show 2 ≤ sizeLine; decide, fun h2 nh2 => ⟨_, _, dp_bb (a := holdsE Fm Av) (b := holdsE Gm Av) (same_new nh2 _ _ eh), dp_bb (a := false) (b := false) upd_same, shaped_bb _ _, shaped_bb false false, .inr ⟨_, rfl, _, _, rfl, rfl, by show 3 ≤ sizeLine; decide, fun l2 nl2 => ?_⟩⟩⟩
      have s8 := (s7.trans (same_new (o := HO.lst [V.bl false, V.bl false]) nh2))
      refine ⟨l2, _, _, rfl, sm.trans (s8.trans (same_new nl2)), ?_⟩
      rw [upd_same, eqv_ff, countP_snoc hD, countP_snoc hD, countP_snoc hD, b2, b2, b2, Int.natCast_add, Int.natCast_add, Int.natCast_add] <;> rfl
    · rintro σ H' ⟨lf, y4, y5, rfl, sm, elf⟩
      have ll : (ds.map fun p => V.ref p.1).length = Ds.length := by rw [List.length_map, ← cmb, List.length_map]
      rw [ll, List.take_length] at elf
      have S4 := S3.trans sm
      generalize hc1 : Ds.countP (noF Fm) = c1 at elf word
      generalize hc2 : Ds.countP (noF Gm) = c2 at elf word
      generalize hc3 : Ds.countP (noB Fm Gm) = c3 at elf word
      refine ⟨3, rfl, by decide, by decide, for_range (lo := 0) (n := ((3 : Int)).toNat) (fun i σ H5 => H5 = H' ∧ (∃ y6 : Option V, σ = [some (.ref fa), some (.ref fb), some (.ref t), some (.ref lf), y4, y5, y6]) ∧ (0 < i → c1 ≠ 0) ∧ (1 < i → c2 ≠ 0) ∧ (2 < i → c3 ≠ 0))
        ⟨rfl, ⟨none, rfl⟩, by omega, by omega, by omega⟩ ?_ ?_⟩
      · rintro i σ H5 hi ⟨rfl, ⟨y6, rfl⟩, p1, p2, p3⟩
        have hi3 : i = 0 ∨ i = 1 ∨ i = 2 := by
          have : i < 3 := hi
          omega
        obtain ⟨c, nx, hc, hnx, hw, hn⟩ : ∃ (c : Nat) (nx : Str), [V.int (c1 : Int), V.int (c2 : Int), V.int (c3 : Int)][i]? = some (.int (c : Int)) ∧ [V.str "first", V.str "second", V.str "join"][i]? = some (.str nx) ∧ (c = 0 → wordC c1 c2 c3 = nx) ∧ (c ≠ 0 → (0 < i + 1 → c1 ≠ 0) ∧ (1 < i + 1 → c2 ≠ 0) ∧ (2 < i + 1 → c3 ≠ 0)) := by
          rcases hi3 with rfl | rfl | rfl
          · exact ⟨c1, "first", rfl, rfl, fun z => by unfold wordC; rw [if_pos z], fun z => ⟨fun _ => z, by omega, by omega⟩⟩
          · exact ⟨c2, "second", rfl, rfl, fun z => by unfold wordC; rw [if_neg (p1 (by decide)), if_pos z], fun z => ⟨fun _ => p1 (by decide), fun _ => z, by omega⟩⟩
          · exact ⟨c3, "join", rfl, rfl, fun z => by unfold wordC; rw [if_neg (p1 (by decide)), if_neg (p2 (by decide)), if_pos z], fun z => ⟨fun _ => p1 (by decide), fun _ => p2 (by decide), fun _ => z⟩⟩
        refine ⟨.ref lf, rfl, .int (0 + (i : Int)), rfl, lf, _, _, .int (c : Int), rfl, rfl, sl_map elf, at_of (j := i) (by omega) hc, rfl, _, rfl, ite_both (fun z => ?_) (fun z => ?_)⟩
        · have z0 : c = 0 := by have := V.int.inj (of_decide_eq_true z); omega
          refine ⟨by show 3 ≤ sizeLine; decide, fun l5 nl5 => ⟨.int (0 + (i : Int)), rfl, l5, _, _, .str nx, rfl, rfl, sl_map upd_same, at_of (j := i) (by omega) hnx, ?_⟩⟩
          refine q _ nx (S4.trans (same_new nl5)) ?_
          rw [hw z0] at word
          exact word
        · have z0 : c ≠ 0 := fun y => of_decide_eq_false z (by rw [y] <;> rfl)
          exact ⟨rfl, ⟨_, rfl⟩, hn z0⟩
      · rintro σ H5 ⟨rfl, ⟨y6, rfl⟩, p1, p2, p3⟩
        refine q _ _ S4 ?_
        have e0 : wordC c1 c2 c3 = "outside" := by
          unfold wordC
          rw [if_neg (p1 (by decide)), if_neg (p2 (by decide)), if_neg (p3 (by decide))]
        rw [e0] at word
        exact word
end
end K5

set_option Elab.async false
set_option linter.all false
set_option maxRecDepth 100000
set_option maxHeartbeats 4000000
namespace K5
open PySem PySem.Spec PyProof.Rows L2 Cs CsU
abbrev dS (xs : List Str) : PyData := .list (xs.map PyData.str)
theorem dp_strs {K : PySem.W.Frag} {H : Hp} : ∀ xs : List Str, DpAll K H (xs.map V.str) (xs.map PyData.str)
  | [] => .nil
  | x :: xs => .cons (.str x) (dp_strs xs)
theorem lay_strs : ∀ xs : List Str, (∀ x ∈ xs, PyData.strOk x = true) → PyData.canLayAll0 (xs.map PyData.str) = true
  | [], _ => rfl
  | x :: xs, k => by
    show (PyData.canLay0 (.str x) && PyData.canLayAll0 (xs.map PyData.str)) = true
    rw [lay_strs xs fun y hy => k y (List.mem_cons_of_mem _ hy)]
    have : PyData.canLay0 (.str x) = true := by
      have h0 := k x List.mem_cons_self
      simp [PyData.canLay0] at h0 ⊢
      exact h0
    rw [this] <;> rfl
theorem deep_strs : ∀ xs : List Str, PyData.depthAll (xs.map PyData.str) ≤ 1
  | [] => by simp [PyData.depthAll]
  | x :: xs => by
    have h1 := deep_strs xs
    simp only [List.map_cons, PyData.depthAll, PyData.depth] at *
    omega
theorem sh_strs (xs : List Str) (k : ∀ x ∈ xs, PyData.strOk x = true) : SeqAt.shaped (dS xs) = true := by
  unfold SeqAt.shaped
  have h : (dS xs).canLay0 = true := lay_strs xs k
  rw [h]
  have := deep_strs xs
  have h3 : (dS xs).depth ≤ 2 := by
    simp only [PyData.depth]
    omega
  simp
  omega
theorem eqv_one (x : Str) (ys : List Str) : PyData.eqv (dS [x]) (dS ys) = decide (ys = [x]) := by
  cases ys with
  | nil => simp [PyData.eqv, PyData.eqvAll]
  | cons y l =>
    cases l with
    | nil =>
      by_cases c : x = y
      · simp [PyData.eqv, PyData.eqvAll, c]
      · simp [PyData.eqv, PyData.eqvAll, c, Ne.symm c]
    | cons z l => simp [PyData.eqv, PyData.eqvAll]
abbrev dSides (T : List Ent) : List PyData := T.map fun e => dI e.2.2
theorem dp_sides {K : PySem.W.Frag} {H : Hp} : ∀ T : List Ent, (∀ e ∈ T, H e.2.1 = some (.lst (e.2.2.map V.int))) → DpAll K H (T.map fun e => V.ref e.2.1) (dSides T)
  | [], _ => .nil
  | e :: T, h => .cons (dpI (sl_map (h e List.mem_cons_self))) (dp_sides T fun g hg => h g (List.mem_cons_of_mem _ hg))
theorem lay_sides : ∀ T : List Ent, PyData.canLayAll0 (dSides T) = true
  | [] => rfl
  | e :: T => by
    show (PyData.canLay0 (dI e.2.2) && PyData.canLayAll0 (dSides T)) = true
    rw [lay_sides T, layI] <;> rfl
theorem deep_sides : ∀ T : List Ent, PyData.depthAll (dSides T) ≤ 2
  | [] => by simp [PyData.depthAll]
  | e :: T => by
    have h1 := deep_sides T
    have h2 := deepI e.2.2
    show PyData.depthAll (dI e.2.2 :: dSides T) ≤ 2
    have h3 : PyData.depthAll (dI e.2.2 :: dSides T) = max (dI e.2.2).depth (PyData.depthAll (dSides T)) := by simp only [PyData.depthAll]
    rw [h3]
    omega
theorem sh_sides (T : List Ent) : SeqAt.shaped (.list (dSides T)) = true := by
  unfold SeqAt.shaped
  have h : (PyData.list (dSides T)).canLay0 = true := lay_sides T
  rw [h]
  have := deep_sides T
  have h3 : (PyData.list (dSides T)).depth ≤ 3 := by
    simp only [PyData.depth]
    omega
  simp
  omega
theorem any_empty (T : List Ent) : ((dSides T).any fun z => PyData.eqv z (.list [])) = true ↔ SomeEmpty T := by
  rw [List.any_eq_true]
  constructor
  · rintro ⟨z, hz, h⟩
    obtain ⟨e, he, rfl⟩ := List.mem_map.mp hz
    refine ⟨e, he, ?_⟩
    cases c : e.2.2 with
    | nil => rfl
    | cons a l => rw [c] at h; simp [PyData.eqv, PyData.eqvAll] at h
  · rintro ⟨e, he, z⟩
    exact ⟨dI e.2.2, List.mem_map.mpr ⟨e, he, rfl⟩, by rw [z]; simp [PyData.eqv, PyData.eqvAll]⟩
section
variable {P : Program} {w : World} {K : PySem.W.Frag} {mg : Str → Option Value} {base : Heap}
abbrev sSds : Stmt := topS 28
abbrev nSds : List Str := ["_law_first", "_law_second", "_law_third", "_law_misses", "_law_others", "_law_name"]
theorem scSds : FnScope nSds pWlk (defScope sSds) := ⟨rfl, rfl, rfl, by decide +kernel, rfl, by decide +kernel, by decide +kernel⟩
def spSds : Sp := fun vs H Q _ => ∃ (a b t : Addr) (F G T : List Ent), vs = [.ref a, .ref b, .ref t] ∧ Bu H a F ∧ Bu H b G ∧ Bu H t T ∧ Over T F ∧ Over T G ∧ (∀ e ∈ T, e.2.2.length ≤ 100) ∧ (∀ e ∈ T, PyData.strOk e.1 = true) ∧ ∀ H' x, Same H H' → IsWord T F G x → Q (.str x) H'
theorem ok_sds {f fL fJ : Addr} {fd fdL fdJ : FuncData} (F : Fun K "_law_word_by_sides" "_law_word_by_sides" sSds f fd) (B : Bt mg) (La : Call P w K mg base 1 "_law_lacking" fL fdL ["_law_third", "_law_sides_here"] spLac)
    (Ij : Call P w K mg base 1 "_law_in_join" fJ fdJ pInj spInj) : FnOk P w K mg base CX0 2 f fd pWlk spSds := by
  refine F.ok scSds (fun vs H Q E h => ?_) (fun cdv A outer s H vs Q E hr h => ?_)
  · obtain ⟨a, b, t, F, G, T, rfl, _⟩ := h
    rfl
  · obtain ⟨fa, fb, t, Fm, Gm, T, rfl, bf, bg, bt, of_, og, tsz, tok, q⟩ := h
    have hu := hu_of hr
    have hu64 : (A.deeper (envOfC "_law_word_by_sides" (defScope sSds) s.heap.objs.size f cdv)).units + 64 < cLine := by have := hr.un; omega
    have hu65 : (A.deeper (envOfC "_law_word_by_sides" (defScope sSds) s.heap.objs.size f cdv)).units + 65 < cLine := by have := hr.un; omega
    have nd := scSds.nd
    refine ⟨_, pss_cons (ps_set (i := 3) nd rfl (.inl rfl) (pe_call La.ok hr (by rfl) La.at_ La.kp La.bd .nil pass0 (pa_cons (pv 2) (pa_cons (pv 0) pa_nil))))
      (pss_cons (ps_set (i := 4) nd rfl (.inl rfl) (pe_call La.ok hr (by rfl) La.at_ La.kp La.bd .nil pass0 (pa_cons (pv 2) (pa_cons (pv 1) pa_nil))))
      (pss_cons (ps_if (PW.pt (pw_or (pt_cmpR op_eq (pe_callB call_len_seq (by rfl) B.len PySem.boot_len (pa_cons (pv 3) pa_nil)) pe_int rfl) (pw_or1 (pt_cmpR (r := rInD K) (op_inD hu65) (pe_lst pa_nil)
          (pe_lock (pe_lc (own := [("_law_name", 5)]) (g := gName 5) (tt := tYes) (te := tDGet (tVar 2) (tVar 5)) rfl nd (pi_keys (pv 2)) (blkOk_by (N := nSds) (sc := defScope sSds) (by decide +kernel)) (fun _ _ _ _ _ => pg_name (i := 5) nd rfl (Or.inl rfl)) (fun _ _ _ _ _ => pts_nil)
            (fun _ _ _ _ _ => pe_dget hu (pv 2) (pv 5) (fun _ _ => rfl)))) rfl)))) (pss_one (ps_ret pe_str)) pss_nil)
      (pss_cons (ps_if (pt_cmpR op_eq (pe_callB call_len_seq (by rfl) B.len PySem.boot_len (pa_cons (pv 4) pa_nil)) pe_int rfl) (pss_one (ps_ret pe_str)) pss_nil)
      (pss_cons (ps_if (PW.pt (pw_and (pt_cmpR op_eq (pe_callB call_len_seq (by rfl) B.len PySem.boot_len (pa_cons (pv 3) pa_nil)) pe_int rfl) (pw_and (pt_cmpR (r := rEqD K) (op_eqD hu64) (pv 3) (pv 4) rfl)
          (pw_and1 (pt_val (pe_call Ij.ok hr (by rfl) Ij.at_ Ij.kp Ij.bd .nil pass0 (pa_cons (pv 0) (pa_cons (pv 1) (pa_cons (pv 2) (pa_cons (pe_ix ix_list (pv 3) pe_int (fun _ _ => rfl)) pa_nil)))))))))) (pss_one (ps_ret pe_str)) pss_nil)
      (pss_one (ps_ret pe_str)))))), ?_⟩
    refine ⟨.ref t, rfl, .ref fa, rfl, t, fa, T, Fm, rfl, bt, bf, of_.has, tsz, fun H1 l1 s1 nl1 el1 => ?_⟩
    refine ⟨.ref t, rfl, .ref fb, rfl, t, fb, T, Gm, rfl, bt.same' s1, bg.same' s1, og.has, tsz, fun H2 l2 s2 nl2 el2 => ?_⟩
    have S2 := s1.trans s2
    have el1' := s2 _ _ el1
    obtain ⟨ms, hms⟩ : ∃ ms, ms = (bey T Fm).map (·.1) := ⟨_, rfl⟩
    obtain ⟨os, hos⟩ : ∃ os, os = (bey T Gm).map (·.1) := ⟨_, rfl⟩
    have m0 : ms = [] ↔ AllIn T Fm := by rw [hms, List.map_eq_nil_iff]; exact bey_nil
    have o0 : os = [] ↔ AllIn T Gm := by rw [hos, List.map_eq_nil_iff]; exact bey_nil
    have mok : ∀ x ∈ ms, PyData.strOk x = true := fun x hx => by
      rw [hms] at hx
      obtain ⟨e, he, rfl⟩ := List.mem_map.mp (bey_keys hx)
      exact tok e he
    have ook : ∀ x ∈ os, PyData.strOk x = true := fun x hx => by
      rw [hos] at hx
      obtain ⟨e, he, rfl⟩ := List.mem_map.mp (bey_keys hx)
      exact tok e he
    rw [← hms] at el1'
    rw [← hos] at el2
    refine ⟨.ref l1, rfl, l1, _, rfl, .inl (sl_map el1'), rfl, _, rfl, ite_both (fun c => iteT ?_) (fun c => ?_)⟩
    · have : ms = [] := by
        have := V.int.inj (of_decide_eq_true c)
        rw [List.length_map] at this
        exact List.length_eq_zero_iff.mp (by omega)
      exact q _ _ S2 (.first (.inr (m0.mp this)))
    have mne : ms ≠ [] := fun z => of_decide_eq_false c (by rw [z] <;> rfl)
    refine ⟨by show 0 ≤ sizeLine; decide, fun z nz => ?_⟩
    have s3 := same_new (o := HO.lst []) nz
    have S3 := S2.trans s3
    have ez := upd_same (H := H2) (a := z) (o := HO.lst [])
    have el13 := s3 _ _ el1'
    have el23 := s3 _ _ el2
    generalize upd H2 z (.lst []) = H3 at s3 S3 ez el13 el23 ⊢
    have bt3 := bt.same' S3
    refine ⟨t, _, bt3.un, trivial, fun od => ?_⟩
    have mT : ∀ {H' : Hp}, Same (upd H3 t (.frz od (.dK (entK T)))) H' → Bx H' t T := fun s => (bt3.toBx.lock (od := od) bt3.un).same s
    refine ⟨.ref t, rfl, t, od, rfl, .inl ⟨entK T, upd_same, fun R nR => lc_it walk_keys (fun i H' => Same (upd H3 t (.frz od (.dK (entK T)))) H' ∧ H' R = some (.lst ((T.take i).map fun e => V.ref e.2.1))) ⟨same_new nR, upd_same⟩ (fun i H' _ h => h.1 _ _ upd_same) ?_ ?_⟩⟩
    · rintro i x H' H'' hi ⟨sm, eR⟩ ⟨rfl, k1, v1, hk, rfl⟩
      obtain ⟨e, he, rfl, rfl⟩ := keys_at hk
      have em := List.mem_of_getElem? he
      have gv := (mT sm).get e.1
      rw [getE_of bt.nd em] at gv
      rw [entK_len] at hi
      refine ⟨rfl, .ref t, rfl, .str e.1, rfl, t, .ref e.2.1, rfl, gv, _, eR, ?_, same_at sm nR, ?_⟩
      · rw [List.length_map, List.length_take]
        have := bt.few
        exact small1000 (by omega)
      · rw [upd_same, List.take_add_one, he, List.map_append] <;> rfl
    rintro H4 ⟨sm, eR⟩
    rw [entK_len, List.take_length] at eR
    have nRt : R ≠ t := fun z => by rw [z, upd_same] at nR; cases nR
    refine ⟨sm _ _ upd_same, ?_⟩
    have s5 := unlock bt3.un sm
    have eR5 : (upd H4 t (.dK (entK T))) R = some (.lst (T.map fun e => V.ref e.2.1)) := by rw [upd_ne nRt]; exact eR
    generalize upd H4 t (.dK (entK T)) = H5 at s5 eR5 ⊢
    have S5 := S3.trans s5
    have bt5 := bt.same' S5
    refine ⟨.list [], dSides T, Dp.lst (sl_map (s5 _ _ ez)) .nil, Dp.lst (sl_map eR5) (dp_sides T bt5.sides), rfl, sh_sides T, _, rfl, ite_both (fun c2 => ?_) (fun c2 => ?_)⟩
    · exact q _ _ S5 (.first (.inl ((any_empty T).mp c2)))
    have nE : ¬ SomeEmpty T := fun y => by rw [(any_empty T).mpr y] at c2; cases c2
    have n1 : ¬ (SomeEmpty T ∨ AllIn T Fm) := fun y => y.elim nE fun y => mne (m0.mpr y)
    have el15 := s5 _ _ el13
    have el25 := s5 _ _ el23
    refine ⟨.ref l2, rfl, l2, _, rfl, .inl (sl_map el25), rfl, _, rfl, ite_both (fun c3 => ?_) (fun c3 => ?_)⟩
    · have : os = [] := by
        have := V.int.inj (of_decide_eq_true c3)
        rw [List.length_map] at this
        exact List.length_eq_zero_iff.mp (by omega)
      exact q _ _ S5 (.second n1 (o0.mp this))
    have one : os ≠ [] := fun z => of_decide_eq_false c3 (by rw [z] <;> rfl)
    have n2 : ¬ AllIn T Gm := fun y => one (o0.mpr y)
    have ji := join_iff (T := T) (F := Fm) (G := Gm) bt.nd (fun y => mne (m0.mpr (bey_nil.mp y))) (fun y => one (o0.mpr (bey_nil.mp y)))
    rw [← hms, ← hos] at ji
    have outs : ∀ H6, Same H H6 → ¬ (∃ x, ms = [x] ∧ os = [x] ∧ inJoin Fm Gm T x = true) → Q (.str "outside") H6 := fun H6 s n => q _ _ s (.outside n1 n2 fun y => n (ji.mp y))
    refine ⟨.ref l1, rfl, l1, _, rfl, .inl (sl_map el15), rfl, _, rfl, ite_both (fun c4 => ?_) (fun c4 => iteF (outs _ S5 ?_))⟩
    · obtain ⟨x, hx⟩ : ∃ x, ms = [x] := by
        have := V.int.inj (of_decide_eq_true c4)
        rw [List.length_map] at this
        exact List.length_eq_one_iff.mp (by omega)
      refine ⟨.ref l1, rfl, .ref l2, rfl, dS ms, dS os, Dp.lst (sl_map el15) (dp_strs ms), Dp.lst (sl_map el25) (dp_strs os), sh_strs ms mok, sh_strs os ook, _, rfl, ?_⟩
      rw [hx, eqv_one]
      refine ite_both (fun c5 => ?_) (fun c5 => iteF (outs _ S5 ?_))
      · have c6 : os = [x] := of_decide_eq_true c5
        rw [hx] at el15
        refine ⟨.ref fa, rfl, .ref fb, rfl, .ref t, rfl, .ref l1, rfl, l1, _, _, .str x, rfl, rfl, sl_map el15, atI_nat (j := 0) rfl, fa, fb, t, x, Fm, Gm, T, rfl, bf.same' S5, bg.same' S5, bt5, of_.has, og.has, fun H6 s6 => ⟨_, rfl, ite_both (fun c7 => ?_) (fun c7 => ?_)⟩⟩
        · exact q _ _ (S5.trans s6) (.join n1 n2 (ji.mpr ⟨x, hx, c6, c7⟩))
        · refine outs _ (S5.trans s6) ?_
          rintro ⟨y, h1, _, h3⟩
          rw [hx] at h1
          rw [← (List.cons.inj h1).1, c7] at h3
          cases h3
      · rintro ⟨y, h1, h2, _⟩
        rw [hx] at h1
        rw [← (List.cons.inj h1).1] at h2
        exact of_decide_eq_false c5 h2
    · rintro ⟨y, h1, _, _⟩
      exact of_decide_eq_false c4 (by rw [h1] <;> rfl)
abbrev sRgt : Stmt := topS 29
abbrev nRgt : List Str := ["_law_told", "_law_first", "_law_second", "_law_third", "_law_word", "_law_name"]
abbrev pRgt : List Str := ["_law_told", "_law_first", "_law_second", "_law_third", "_law_word"]
theorem scRgt : FnScope nRgt pRgt (defScope sRgt) := ⟨rfl, rfl, rfl, by decide +kernel, rfl, by decide +kernel, by decide +kernel⟩
def spRgt : Sp := fun vs H Q _ => ∃ (r a b t : Addr) (F G T : List Ent) (an : Ans), vs = [.ref r, .ref a, .ref b, .ref t, .str (wordA an)] ∧ AnsAt H r an ∧ Bu H a F ∧ Bu H b G ∧ Bu H t T ∧ Over T F ∧ Over T G ∧ Right T F G an ∧
  (∀ d, H r = some (.tup [.str "outside", .ref d]) → d ≠ a ∧ d ≠ b ∧ d ≠ t) ∧ ∀ H', Same H H' → Q (.bl true) H'
theorem ok_rgt {f fJ fI fH : Addr} {fd fdJ fdI fdH : FuncData} (F : Fun K "_law_is_right" "_law_is_right" sRgt f fd) (B : Bt mg) (bt0 : mg "tuple" = none) (bs : mg "str" = none) (Ij : Call P w K mg base 1 "_law_in_join" fJ fdJ pInj spInj)
    (I : Call P w K mg base 1 "_law_is_integer" fI fdI ["_law_actual"] spIsInt) (Ho : Call P w K mg base 1 "_law_holds" fH fdH ["_law_sides_here", "_law_values"] spHolds) : FnOk P w K mg base CX0 2 f fd pRgt spRgt := by
  refine F.ok scRgt (fun vs H Q E h => ?_) (fun cdv A outer s H vs Q E hr h => ?_)
  · obtain ⟨r, a, b, t, F, G, T, an, rfl, _⟩ := h
    rfl
  · obtain ⟨r, fa, fb, t, Fm, Gm, T, an, rfl, ans, bf, bg, bt, of_, og, right, apart, q⟩ := h
    have hu := hu_of hr
    have nd := scRgt.nd
    refine ⟨_, pss_cons (ps_if (PW.pt (pw_or (pt_not (pt_val (pe_callB call_isi (by rfl) B.isi PyProof.Rows.boot_isinstance (pa_cons (pv 0) (pa_cons (pe_bltn (by rfl) bt0 PyProof.Rows.boot_tuple (v := .ty "tuple") rfl) pa_nil)))))
        (pw_or (pt_cmpR op_ne (pe_callB call_len_seq (by rfl) B.len PySem.boot_len (pa_cons (pv 0) pa_nil)) pe_int rfl)
        (pw_or (pt_not (pt_val (pe_callB call_isi (by rfl) B.isi PyProof.Rows.boot_isinstance (pa_cons (pe_ix ix_tup (pv 0) pe_int (fun _ _ => rfl)) (pa_cons (pe_bltn (by rfl) bs PyProof.Rows.boot_str (v := .ty "str") rfl) pa_nil)))))
        (pw_or1 (pt_cmpR op_ne (pe_ix ix_tup (pv 0) pe_int (fun _ _ => rfl)) (pv 4) rfl)))))) (pss_one (ps_ret pe_bl)) pss_nil)
      (pss_cons (ps_if (PW.pt (pw_or (pt_cmpR op_eq (pv 4) pe_str rfl) (pw_or1 (pt_cmpR op_eq (pv 4) pe_str rfl)))) (pss_one (ps_ret (pe_cmp (pc_isN (pe_ix ix_tup (pv 0) pe_int (fun _ _ => rfl))) rfl))) pss_nil)
      (pss_cons (ps_if (pt_cmpR op_eq (pv 4) pe_str rfl) (pss_one (ps_ret (pe_and (pe_callB call_isi (by rfl) B.isi PyProof.Rows.boot_isinstance (pa_cons (pe_ix ix_tup (pv 0) pe_int (fun _ _ => rfl)) (pa_cons (pe_bltn (by rfl) bs PyProof.Rows.boot_str (v := .ty "str") rfl) pa_nil)))
          (pe_and (pe_cmp (pc_din hu (pe_ix ix_tup (pv 0) pe_int (fun _ _ => rfl)) (pv 3))) (pe_one (pe_call Ij.ok hr (by rfl) Ij.at_ Ij.kp Ij.bd .nil pass0 (pa_cons (pv 1) (pa_cons (pv 2) (pa_cons (pv 3) (pa_cons (pe_ix ix_tup (pv 0) pe_int (fun _ _ => rfl)) pa_nil)))))))))) pss_nil)
      (pss_cons (ps_if (PW.pt (pw_or (pt_not (pt_val (pe_callB call_isi (by rfl) B.isi PyProof.Rows.boot_isinstance (pa_cons (pe_ix ix_tup (pv 0) pe_int (fun _ _ => rfl)) (pa_cons (pe_bltn (by rfl) B.dict PyProof.Rows.boot_dict (v := .ty "dict") rfl) pa_nil)))))
          (pw_or1 (pt_cmpR op_ne (pe_callB call_lenD (by rfl) B.len PySem.boot_len (pa_cons (pe_ix ix_tup (pv 0) pe_int (fun _ _ => rfl)) pa_nil)) (pe_callB call_lenD (by rfl) B.len PySem.boot_len (pa_cons (pv 3) pa_nil)) rfl)))) (pss_one (ps_ret pe_bl)) pss_nil)
      (pss_cons (ps_lock (ps_for PassesOwn.never rfl (pi_keys (pv 3)) (pg_name (i := 5) nd rfl (.inl rfl))
        (pss_one (ps_if (PW.pt (pw_or (pt_cmp (pc_dnotin hu (pv 5) (pe_ix ix_tup (pv 0) pe_int (fun _ _ => rfl)))) (pw_or (pt_not (pt_val (pe_call I.ok hr (by rfl) I.at_ I.kp I.bd .nil pass0 (pa_cons (pe_dget hu (pe_ix ix_tup (pv 0) pe_int (fun _ _ => rfl)) (pv 5) (fun _ _ => rfl)) pa_nil))))
          (pw_or1 (pt_cmpR (r := rIn K true) op_notIn_seq (pe_dget hu (pe_ix ix_tup (pv 0) pe_int (fun _ _ => rfl)) (pv 5) (fun _ _ => rfl)) (pe_dget hu (pv 3) (pv 5) (fun _ _ => rfl)) rfl))))) (pss_one (ps_ret pe_bl)) pss_nil))))
      (pss_one (ps_ret (pe_and (pe_not (pe_call Ho.ok hr (by rfl) Ho.at_ Ho.kp Ho.bd .nil pass0 (pa_cons (pv 1) (pa_cons (pe_ix ix_tup (pv 0) pe_int (fun _ _ => rfl)) pa_nil)))) (pe_one (pe_not (pe_call Ho.ok hr (by rfl) Ho.at_ Ho.kp Ho.bd .nil pass0 (pa_cons (pv 2) (pa_cons (pe_ix ix_tup (pv 0) pe_int (fun _ _ => rfl)) pa_nil)))))))))))), ?_⟩
    obtain ⟨pay, er⟩ : ∃ pay, H r = some (.tup [.str (wordA an), pay]) := by
      cases an with
      | first => exact ⟨_, ans⟩
      | second => exact ⟨_, ans⟩
      | join x => exact ⟨_, ans⟩
      | out A => obtain ⟨d, e, _⟩ := ans; exact ⟨_, e⟩
    have tt : SqT K H r [.str (wordA an), pay] := .inl (.inl er)
    refine ⟨.ref r, rfl, .ref r, .ty "tuple", .type "tuple", .type "tuple", true, rfl, .ty _, .base (.tup er), kit_ty (by decide +kernel), true, rfl, iteF ?_⟩
    refine ⟨.ref r, rfl, r, _, rfl, .inr tt, rfl, _, rfl, iteF ?_⟩
    refine ⟨.ref r, rfl, r, _, _, .str (wordA an), rfl, rfl, tt, atI_nat (j := 0) rfl, .str (wordA an), .ty "str", .type "str", .type "str", true, rfl, .ty _, .base (.str _), kit_ty (by decide +kernel), true, rfl, iteF ?_⟩
    refine ⟨.ref r, rfl, r, _, _, .str (wordA an), rfl, rfl, tt, atI_nat (j := 0) rfl, .str (wordA an), rfl, rfl, _, rfl, ?_⟩
    rw [decide_eq_true rfl]
    refine iteF ?_
    have at1 : ∀ {x : V}, pay = x → atI [V.str (wordA an), pay] (1 : Int) = some x := fun z => by rw [z]; exact atI_nat (j := 1) rfl
    cases an with
    | first =>
      have ep : pay = .non := by have := er.symm.trans ans; exact (List.cons.inj (List.cons.inj (HO.tup.inj (Option.some.inj this))).2).1
      refine ⟨.str "first", rfl, rfl, _, rfl, iteT (iteT ⟨.ref r, rfl, r, _, _, .non, rfl, rfl, tt, at1 ep, ?_⟩)⟩
      exact q _ (Same.refl _)
    | second =>
      have ep : pay = .non := by have := er.symm.trans ans; exact (List.cons.inj (List.cons.inj (HO.tup.inj (Option.some.inj this))).2).1
      refine ⟨.str "second", rfl, rfl, _, rfl, iteF ⟨.str "second", rfl, rfl, _, rfl, iteT ⟨.ref r, rfl, r, _, _, .non, rfl, rfl, tt, at1 ep, ?_⟩⟩⟩
      exact q _ (Same.refl _)
    | join x =>
      have ep : pay = .str x := by have := er.symm.trans ans; exact (List.cons.inj (List.cons.inj (HO.tup.inj (Option.some.inj this))).2).1
      obtain ⟨xm, hj⟩ := right
      obtain ⟨e, he, e1⟩ := List.mem_map.mp xm
      have gv := bt.toBx.get x
      rw [← e1, getE_of bt.nd he, e1] at gv
      refine ⟨.str "join", rfl, rfl, _, rfl, iteF ⟨.str "join", rfl, rfl, _, rfl, iteF ⟨.str "join", rfl, rfl, _, rfl, iteT ?_⟩⟩⟩
      refine ⟨.ref r, rfl, r, _, _, .str x, rfl, rfl, tt, at1 ep, .str x, .ty "str", .type "str", .type "str", true, rfl, .ty _, .base (.str _), kit_ty (by decide +kernel), true, rfl, iteT ?_⟩
      refine ⟨.ref r, rfl, r, _, _, .str x, rfl, rfl, tt, at1 ep, .ref t, rfl, t, _, rfl, gv, true, rfl, iteT ?_⟩
      refine ⟨.ref fa, rfl, .ref fb, rfl, .ref t, rfl, .ref r, rfl, r, _, _, .str x, rfl, rfl, tt, at1 ep, fa, fb, t, x, Fm, Gm, T, rfl, bf, bg, bt, of_.has, og.has, fun H' s' => ?_⟩
      rw [hj]
      exact q _ s'
    | out A0 =>
      obtain ⟨d, ed, eA⟩ := ans
      have ep : pay = .ref d := by have := er.symm.trans ed; exact (List.cons.inj (List.cons.inj (HO.tup.inj (Option.some.inj this))).2).1
      obtain ⟨nA, lA, vA, h1, h2⟩ := right
      obtain ⟨da, db, dt⟩ := apart d ed
      have rt : r ≠ t := fun z => by rw [z, bt.un] at er; cases er
      refine ⟨.str "outside", rfl, rfl, _, rfl, iteF ⟨.str "outside", rfl, rfl, _, rfl, iteF ⟨.str "outside", rfl, rfl, _, rfl, iteF ?_⟩⟩⟩
      refine ⟨.ref r, rfl, r, _, _, .ref d, rfl, rfl, tt, at1 ep, .ref d, .ty "dict", .type "dict", .type "dict", true, rfl, .ty _, .base (.dK eA), kit_ty (by decide +kernel), true, rfl, iteF ?_⟩
      refine ⟨.ref r, rfl, r, _, _, .ref d, rfl, rfl, tt, at1 ep, d, _, rfl, eA, .ref t, rfl, t, _, rfl, bt.un, rfl, _, rfl, ?_⟩
      rw [intK_len, entK_len, lA, decide_eq_true rfl]
      refine iteF ?_
      refine ⟨t, _, bt.un, trivial, fun od => ?_⟩
      have bl := bt.toBx.lock (od := od) bt.un
      have ttF : SqT K (upd H t (.frz od (.dK (entK T)))) r [.str (wordA (.out A0)), pay] := .inl (.inl (by rw [upd_ne rt]; exact er))
      have eAF : (upd H t (.frz od (.dK (entK T)))) d = some (.dK (intK A0)) := by rw [upd_ne dt]; exact eA
      refine ⟨.ref t, rfl, t, od, rfl, .inl ⟨entK T, upd_same, for_it walk_keys (fun i σ H' => H' = upd H t (.frz od (.dK (entK T))) ∧ ∃ y5 : Option V, σ = [some (.ref r), some (.ref fa), some (.ref fb), some (.ref t), some (.str "outside"), y5]) ⟨rfl, none, rfl⟩ (fun i σ H' _ h => by rw [h.1]; exact upd_same) ?_ ?_⟩⟩
      · rintro i x σ H' H'' hi ⟨rfl, y5, rfl⟩ ⟨rfl, k1, v1, hk, rfl⟩
        obtain ⟨e, he, rfl, rfl⟩ := keys_at hk
        have em := List.mem_of_getElem? he
        obtain ⟨v, gv, vin⟩ := vA e em
        have gd := (Ax.get (H := upd H t (.frz od (.dK (entK T)))) (d := d) (A := A0) ⟨.inl eAF⟩ e.1)
        rw [gv] at gd
        have gs := bl.get e.1
        rw [getE_of bt.nd em] at gs
        refine ⟨.str e.1, rfl, .ref r, rfl, r, _, _, .ref d, rfl, rfl, ttF, at1 ep, d, _, rfl, gd, _, rfl, iteF ?_⟩
        refine ⟨.ref r, rfl, r, _, _, .ref d, rfl, rfl, ttF, at1 ep, .str e.1, rfl, d, .int v, rfl, gd, v, rfl, true, rfl, iteF ?_⟩
        refine ⟨.ref r, rfl, r, _, _, .ref d, rfl, rfl, ttF, at1 ep, .str e.1, rfl, d, .int v, rfl, gd, .ref t, rfl, .str e.1, rfl, t, .ref e.2.1, rfl, gs, e.2.1, _, rfl, .inl (sl_map (bl.sides e em)), rfl, flat_ints _, _, rfl, ?_⟩
        rw [in_ints, decide_eq_true vin]
        exact iteF ⟨rfl, _, rfl⟩
      rintro σ H' ⟨rfl, y5, rfl⟩
      refine ⟨upd_same, ?_⟩
      rw [upd_back bt.un]
      have cov : ∀ {M : List Ent}, Over T M → ∀ e ∈ M, ∃ a, aget A0 e.1 = some a := fun o e he => by
        obtain ⟨g, hg, e1⟩ := List.mem_map.mp (o.sub _ (List.mem_map_of_mem he))
        obtain ⟨v, hv, _⟩ := vA g hg
        exact ⟨v, e1 ▸ hv⟩
      refine ⟨.ref fa, rfl, .ref r, rfl, r, _, _, .ref d, rfl, rfl, tt, at1 ep, fa, d, Fm, A0, rfl, bf, ⟨.inl eA⟩, da.symm, cov of_, fun H1 s1 => ?_⟩
      rw [h1]
      refine ⟨false, rfl, true, rfl, iteT ?_⟩
      have tt1 : SqT K H1 r [.str (wordA (.out A0)), pay] := .inl (.inl (s1 _ _ er))
      refine ⟨.ref fb, rfl, .ref r, rfl, r, _, _, .ref d, rfl, rfl, tt1, at1 ep, fb, d, Gm, A0, rfl, bg.same' s1, ⟨.inl (s1 _ _ eA)⟩, db.symm, cov og, fun H2 s2 => ?_⟩
      rw [h2]
      exact ⟨false, rfl, q _ (s1.trans s2)⟩
end
end K5

set_option Elab.async false
set_option linter.all false
set_option maxRecDepth 100000
set_option maxHeartbeats 4000000
namespace K5
open PySem PySem.Spec PyProof.Rows L2 Cs CsU
/-- two boxes at work -/
structure Ab (H H' : Hp) (p a b : Addr) (xs : List Str) (m : Nat) (F G : List Ent) : Prop where
  k : Keep p H H'
  st : Strm H' p
  na : Nb H H' a F
  nb : Nb H H' b G
  ne : a ≠ b
  fk : F.map (·.1) = xs
  gk : G.map (·.1) = xs
  fz : ∀ e ∈ F, e.2.2.length ≤ m
  gz : ∀ e ∈ G, e.2.2.length ≤ m
theorem Ab.keep {H H' H2 : Hp} {p a b : Addr} {xs : List Str} {m : Nat} {F G : List Ent} (A : Ab H H' p a b xs m F G) (pH : H p ≠ none) (k : Keep p H' H2) (st : Strm H2 p) : Ab H H2 p a b xs m F G :=
  ⟨A.k.trans k, st, A.na.keep pH k, A.nb.keep pH k, A.ne, A.fk, A.gk, A.fz, A.gz⟩
theorem Nb.other {H0 H : Hp} {d c : Addr} {o : HO} {kk : List (Key × V)} {M : List Ent} (N : Nb H0 H d M) (h : H c = some (.dK kk)) (ne : d ≠ c) : Nb H0 (upd H c o) d M := by
  have away : ∀ g ∈ M, g.2.1 ≠ c := fun g hg z => by have := N.sides g hg; rw [z, h] at this; cases this
  exact ⟨⟨⟨.inl (by rw [upd_ne ne]; exact N.un), fun g hg => by rw [upd_ne (away g hg)]; exact N.sides g hg, N.nd, N.few⟩, by rw [upd_ne ne]; exact N.un⟩, N.fresh, N.freshS, N.inj⟩
theorem put_keys {L : List Ent} {x : Str} {l : Addr} {s : List Int} (h : x ∈ L.map (·.1)) : (putE L x l s).map (·.1) = L.map (·.1) := by rw [putE_keys, if_pos h]
theorem put_sizes {L : List Ent} {x : Str} {l : Addr} {s : List Int} {m : Nat} (h : ∀ e ∈ L, e.2.2.length ≤ m) (hs : s.length ≤ m) : ∀ e ∈ putE L x l s, e.2.2.length ≤ m := fun e he => by
  rcases putE_mem he with z | ⟨z, _⟩
  · rw [z]; exact hs
  · exact h e z
theorem Ab.putA {H H' H3 : Hp} {p a b l : Addr} {xs : List Str} {m : Nat} {F G : List Ent} {x : Str} {ms : List Int} (A : Ab H H' p a b xs m F G) (hp : Strm H p) (xin : x ∈ xs) (few : xs.length ≤ 30) (nl : H' l = none) (s3 : Same H' H3) (el : H3 l = some (.lst (ms.map V.int))) (sz : ms.length ≤ m) :
    Ab H (upd H3 a (.dK (entK (putE F x l ms)))) p a b xs m (putE F x l ms) G := by
  have pa : p ≠ a := fun z => hp.some (z ▸ A.na.fresh)
  have st3 : Strm H3 p := A.st.keep (Keep.same (p := l) s3) fun z => A.st.some (z ▸ nl)
  have lF : F.length ≤ 30 := by have := congrArg List.length A.fk; rw [List.length_map] at this; omega
  exact ⟨(A.k.trans (Keep.same s3)).at_ A.na.fresh, st3.upd pa, A.na.put (A.k.free A.st nl) nl s3 el (by omega), (A.nb.push s3).other (s3 _ _ A.na.un) A.ne.symm, A.ne, by rw [put_keys (by rw [A.fk]; exact xin)]; exact A.fk, A.gk, put_sizes A.fz sz, A.gz⟩
theorem Ab.putB {H H' H3 : Hp} {p a b l : Addr} {xs : List Str} {m : Nat} {F G : List Ent} {x : Str} {ms : List Int} (A : Ab H H' p a b xs m F G) (hp : Strm H p) (xin : x ∈ xs) (few : xs.length ≤ 30) (nl : H' l = none) (s3 : Same H' H3) (el : H3 l = some (.lst (ms.map V.int))) (sz : ms.length ≤ m) :
    Ab H (upd H3 b (.dK (entK (putE G x l ms)))) p a b xs m F (putE G x l ms) := by
  have pb : p ≠ b := fun z => hp.some (z ▸ A.nb.fresh)
  have st3 : Strm H3 p := A.st.keep (Keep.same (p := l) s3) fun z => A.st.some (z ▸ nl)
  have lG : G.length ≤ 30 := by have := congrArg List.length A.gk; rw [List.length_map] at this; omega
  exact ⟨(A.k.trans (Keep.same s3)).at_ A.nb.fresh, st3.upd pb, (A.na.push s3).other (s3 _ _ A.nb.un) A.ne, A.nb.put (A.k.free A.st nl) nl s3 el (by omega), A.ne, A.fk, by rw [put_keys (by rw [A.gk]; exact xin)]; exact A.gk, A.fz, put_sizes A.gz sz⟩
theorem Ab.cell {H H' : Hp} {p a b c : Addr} {xs : List Str} {m : Nat} {F G : List Ent} {o : HO} {ls : List V} (A : Ab H H' p a b xs m F G) (n : H c = none) (pc : p ≠ c) (e : H' c = some (.lst ls)) (fF : ∀ e ∈ F, e.2.1 ≠ c) (fG : ∀ e ∈ G, e.2.1 ≠ c) : Ab H (upd H' c o) p a b xs m F G := by
  have one : ∀ {d : Addr} {M : List Ent}, Nb H H' d M → (∀ e ∈ M, e.2.1 ≠ c) → Nb H (upd H' c o) d M := fun {d M} N f => by
    have dc : d ≠ c := fun z => by have := N.un; rw [z, e] at this; cases this
    exact ⟨⟨⟨.inl (by rw [upd_ne dc]; exact N.un), fun g hg => by rw [upd_ne (f g hg)]; exact N.sides g hg, N.nd, N.few⟩, by rw [upd_ne dc]; exact N.un⟩, N.fresh, N.freshS, N.inj⟩
  exact ⟨A.k.at_ n, A.st.upd pc, one A.na fF, one A.nb fG, A.ne, A.fk, A.gk, A.fz, A.gz⟩
theorem Ab.same {H H' H2 : Hp} {p a b : Addr} {xs : List Str} {m : Nat} {F G : List Ent} (A : Ab H H' p a b xs m F G) (pH : H p ≠ none) (s : Same H' H2) : Ab H H2 p a b xs m F G := by
  obtain ⟨x, y, z, e⟩ := A.st
  exact A.keep pH (Keep.same s) ⟨x, y, z, s _ _ e⟩
theorem pickS {xs : List Str} {j : Int} (h0 : 0 ≤ j) (h1 : j < ((xs.map V.str).length : Nat)) : ∃ x ∈ xs, atI (xs.map V.str) j = some (.str x) := by
  rw [List.length_map] at h1
  have hk : j.toNat < xs.length := by omega
  exact ⟨xs[j.toNat], List.getElem_mem hk, at_of (j := j.toNat) (by omega) (by rw [List.getElem?_map, List.getElem?_eq_getElem hk] <;> rfl)⟩
theorem pickI {ns : List Int} {j : Int} (h0 : 0 ≤ j) (h1 : j < ((ns.map V.int).length : Nat)) : ∃ v, atI (ns.map V.int) j = some (.int v) := by
  rw [List.length_map] at h1
  have hk : j.toNat < ns.length := by omega
  exact ⟨ns[j.toNat], at_of (j := j.toNat) (by omega) (by rw [List.getElem?_map, List.getElem?_eq_getElem hk] <;> rfl)⟩
theorem keepc {HX H3 : Hp} {R : Addr} {ms : List Int} {v : Int} {j : Nat} (s3 : Same HX H3) (nR : HX R = none) (eR : H3 R = some (.lst (ms.map V.int))) (lm : ms.length ≤ j) (sj : j ≤ 500) :
    ∃ acc, H3 R = some (.lst acc) ∧ acc.length < sizeLine ∧ Same HX (upd H3 R (.lst (acc ++ [V.int v]))) ∧ ∃ ms' : List Int, (upd H3 R (.lst (acc ++ [V.int v]))) R = some (.lst (ms'.map V.int)) ∧ ms'.length ≤ j + 1 := by
  refine ⟨_, eR, by rw [List.length_map]; exact small1000 (by omega), same_at s3 nR, ms ++ [v], by rw [upd_same, List.map_append] <;> rfl, by rw [List.length_append]; exact Nat.succ_le_succ lm⟩
theorem key_some {L : List Ent} {x : Str} (h : x ∈ L.map (·.1)) : ∃ g, getE L x = some g := by
  cases c : getE L x with
  | none => exact absurd h (getE_none.mp c)
  | some g => exact ⟨g, rfl⟩
section
variable {P : Program} {w : World} {K : PySem.W.Frag} {mg : Str → Option Value} {base : Heap}
abbrev sTwo : Stmt := topS 22
abbrev nTwo : List Str := ["_law_stream_here", "_law_third", "_law_pool_here", "_law_names_here", "_law_first", "_law_second", "_law_way", "_law_name", "_law_parts", "_law_value", "_law_gone"]
abbrev pTwo : List Str := ["_law_stream_here", "_law_third", "_law_pool_here"]
theorem scTwo : FnScope nTwo pTwo (defScope sTwo) := ⟨rfl, rfl, rfl, by decide +kernel, rfl, by decide +kernel, by decide +kernel⟩
def spTwoB : Sp := fun vs H Q _ => ∃ (p t pl : Addr) (T : List Ent) (ns : List Int), vs = [.ref p, .ref t, .ref pl] ∧ Strm H p ∧ Bu H t T ∧ (∀ e ∈ T, e.2.1 ≠ p) ∧ H pl = some (.lst (ns.map V.int)) ∧ p ≠ pl ∧ ns.length ≤ 31 ∧ T.length ≤ 30 ∧ (∀ e ∈ T, e.2.2.length ≤ 100) ∧
  ∀ (H' : Hp) (l a b : Addr) (F G : List Ent), Keep p H H' → Strm H' p → H' l = some (.lst [.ref a, .ref b]) → Bu H' a F → Bu H' b G → F.map (·.1) = T.map (·.1) → G.map (·.1) = T.map (·.1) → (∀ e ∈ F, e.2.2.length ≤ 31) → (∀ e ∈ G, e.2.2.length ≤ 31) → Q (.ref l) H'
theorem ok_two {f fD fW fR : Addr} {fd fdD fdW fdR : FuncData} (F : Fun K "_law_two" "_law_two" sTwo f fd) (B : Bt mg) (D : Call P w K mg base 1 "_law_next" fD fdD ["_law_stream_here", "_law_size"] spDraw)
    (Wi : Call P w K mg base 2 "_law_wider" fW fdW ["_law_stream_here", "_law_third", "_law_pool_here"] spWid) (Fr : Call P w K mg base 3 "_law_free" fR fdR ["_law_stream_here", "_law_names_here", "_law_pool_here"] spFre) :
    FnOk P w K mg base CX0 4 f fd pTwo spTwoB := by
  refine F.ok scTwo (fun vs H Q E h => ?_) (fun cdv A outer s H vs Q E hr h => ?_)
  · obtain ⟨p, t, pl, T, ns, rfl, _⟩ := h
    rfl
  · obtain ⟨p, t, pl, T, ns, rfl, hp, bt, away, epl, ppl, n31, tlen, tsz, q⟩ := h
    have hu := hu_of hr
    have nd := scTwo.nd
    have hr1 : Room 1 (A.deeper (envOfC "_law_two" (defScope sTwo) s.heap.objs.size f cdv)) := hr.mono (by decide)
    have hr2 : Room 2 (A.deeper (envOfC "_law_two" (defScope sTwo) s.heap.objs.size f cdv)) := hr.mono (by decide)
    refine ⟨_, pss_cons (ps_set (i := 3) nd rfl (.inl rfl) (pe_callTy (call_listD rfl) (by rfl) B.list PyProof.Rows.boot_list (pa_cons (pv 1) pa_nil)))
      (pss_cons (ps_set (i := 4) nd rfl (.inl rfl) (pe_call Wi.ok hr2 (by rfl) Wi.at_ Wi.kp Wi.bd .nil pass0 (pa_cons (pv 0) (pa_cons (pv 1) (pa_cons (pv 2) pa_nil)))))
      (pss_cons (ps_set (i := 5) nd rfl (.inl rfl) (pe_call Wi.ok hr2 (by rfl) Wi.at_ Wi.kp Wi.bd .nil pass0 (pa_cons (pv 0) (pa_cons (pv 1) (pa_cons (pv 2) pa_nil)))))
      (pss_cons (ps_set (i := 6) nd rfl (.inl rfl) (pe_call D.ok hr1 (by rfl) D.at_ D.kp D.bd .nil pass0 (pa_cons (pv 0) (pa_cons pe_int pa_nil))))
      (pss_cons (ps_if (pt_cmpR op_lt (pv 6) pe_int rfl) (pss_one (ps_set (i := 4) nd rfl (.inl rfl) (pe_call Fr.ok hr (by rfl) Fr.at_ Fr.kp Fr.bd .nil pass0 (pa_cons (pv 0) (pa_cons (pv 3) (pa_cons (pv 2) pa_nil)))))) pss_nil)
      (pss_cons (ps_if (PW.pt (pw_or (pt_cmpR op_eq (pv 6) pe_int rfl) (pw_or1 (pt_cmpR op_eq (pv 6) pe_int rfl)))) (pss_one (ps_set (i := 5) nd rfl (.inl rfl) (pe_call Fr.ok hr (by rfl) Fr.at_ Fr.kp Fr.bd .nil pass0 (pa_cons (pv 0) (pa_cons (pv 3) (pa_cons (pv 2) pa_nil)))))) pss_nil)
      (pss_cons (ps_if (PW.pt (pw_or (pt_cmpR op_lt (pv 6) pe_int rfl) (pw_or1 (pt_cmpR op_eq (pe_callB call_len_seq (by rfl) B.len PySem.boot_len (pa_cons (pv 3) pa_nil)) pe_int rfl)))) (pss_one (ps_ret (pe_lst (pa_cons (pv 4) (pa_cons (pv 5) pa_nil))))) pss_nil)
      (pss_cons (ps_set (i := 7) nd rfl (.inl rfl) (pe_ix ix_list (pv 3) (pe_call D.ok hr1 (by rfl) D.at_ D.kp D.bd .nil pass0 (pa_cons (pv 0) (pa_cons (pe_callB call_len_seq (by rfl) B.len PySem.boot_len (pa_cons (pv 3) pa_nil)) pa_nil))) (fun _ _ => rfl)))
      (pss_cons (ps_set (i := 8) nd rfl (.inr rfl) (pe_lst (pa_cons (pe_lst pa_nil) (pa_cons (pe_lst pa_nil) (pa_cons (pe_lst pa_nil) pa_nil)))))
      (pss_cons (ps_for PassesOwn.never rfl (pi_list (pe_dget hu (pv 1) (pv 7) (fun _ _ => rfl))) (pg_name (i := 9) nd rfl (.inl rfl)) (pss_one (ps_expr (pe_bm PySem.F.plainAttrs_list PySem.F.slot_list_append PySem.F.type_list_append mt_append (pe_ix ix_list (pv 8) (pe_call D.ok hr1 (by rfl) D.at_ D.kp D.bd .nil pass0 (pa_cons (pv 0) (pa_cons pe_int pa_nil))) (fun _ _ => rfl)) (pa_cons (pv 9) pa_nil)))))
      (pss_cons (ps_dput hu (pv 4) (pv 7) (pe_lc (own := [("_law_value", 9)]) (g := gName 9) (te := tVar 9) rfl nd (pi_list (pe_dget hu (pv 4) (pv 7) (fun _ _ => rfl))) (blkOk_by (N := nTwo) (sc := defScope sTwo) (by decide +kernel)) (fun _ _ _ _ _ => pg_name (i := 9) nd rfl (Or.inl rfl)) (fun _ _ _ _ _ => pts_one (pt_cmpR (r := rIn K true) op_notIn_seq (pv 9) (pe_ix (r := rIxL K) ix_list (pv 8) pe_int (fun _ _ => rfl)) rfl)) (fun _ _ _ _ _ => pv 9)) rfl)
      (pss_cons (ps_dput hu (pv 5) (pv 7) (pe_lc (own := [("_law_value", 9)]) (g := gName 9) (te := tVar 9) rfl nd (pi_list (pe_dget hu (pv 5) (pv 7) (fun _ _ => rfl))) (blkOk_by (N := nTwo) (sc := defScope sTwo) (by decide +kernel)) (fun _ _ _ _ _ => pg_name (i := 9) nd rfl (Or.inl rfl)) (fun _ _ _ _ _ => pts_one (pt_cmpR (r := rIn K true) op_notIn_seq (pv 9) (pe_ix (r := rIxL K) ix_list (pv 8) pe_int (fun _ _ => rfl)) rfl)) (fun _ _ _ _ _ => pv 9)) rfl)
      (pss_cons (ps_if (pt_cmpR op_eq (pv 6) pe_int rfl) (pss_one (ps_ret (pe_lst (pa_cons (pv 4) (pa_cons (pv 4) pa_nil))))) pss_nil)
      (pss_cons (ps_set (i := 7) nd rfl (.inl rfl) (pe_ix ix_list (pv 3) (pe_call D.ok hr1 (by rfl) D.at_ D.kp D.bd .nil pass0 (pa_cons (pv 0) (pa_cons (pe_callB call_len_seq (by rfl) B.len PySem.boot_len (pa_cons (pv 3) pa_nil)) pa_nil))) (fun _ _ => rfl)))
      (pss_cons (ps_if (PW.pt (pw_and (pt_cmpR op_gt (pv 6) pe_int rfl) (pw_and1 (pt_cmpR op_gt (pe_callB call_len_seq (by rfl) B.len PySem.boot_len (pa_cons (pe_dget hu (pv 1) (pv 7) (fun _ _ => rfl)) pa_nil)) pe_int rfl)))) (pss_cons (ps_set (i := 10) nd rfl (.inr rfl) (pe_ix ix_list (pe_dget hu (pv 1) (pv 7) (fun _ _ => rfl)) (pe_call D.ok hr1 (by rfl) D.at_ D.kp D.bd .nil pass0 (pa_cons (pv 0) (pa_cons (pe_callB call_len_seq (by rfl) B.len PySem.boot_len (pa_cons (pe_dget hu (pv 1) (pv 7) (fun _ _ => rfl)) pa_nil)) pa_nil))) (fun _ _ => rfl))) (pss_cons (ps_dput hu (pv 5) (pv 7) (pe_lc (own := [("_law_value", 9)]) (g := gName 9) (te := tVar 9) rfl nd (pi_list (pe_dget hu (pv 5) (pv 7) (fun _ _ => rfl))) (blkOk_by (N := nTwo) (sc := defScope sTwo) (by decide +kernel)) (fun _ _ _ _ _ => pg_name (i := 9) nd rfl (Or.inl rfl)) (fun _ _ _ _ _ => pts_one (pt_cmpR op_ne (pv 9) (pv 10) rfl)) (fun _ _ _ _ _ => pv 9)) rfl) (pss_one (ps_if (pt_cmpR op_eq (pv 6) pe_int rfl) (pss_one (ps_dput hu (pv 4) (pv 7) (pe_lc (own := [("_law_value", 9)]) (g := gName 9) (te := tVar 9) rfl nd (pi_list (pe_dget hu (pv 4) (pv 7) (fun _ _ => rfl))) (blkOk_by (N := nTwo) (sc := defScope sTwo) (by decide +kernel)) (fun _ _ _ _ _ => pg_name (i := 9) nd rfl (Or.inl rfl)) (fun _ _ _ _ _ => pts_one (pt_cmpR op_ne (pv 9) (pv 10) rfl)) (fun _ _ _ _ _ => pv 9)) rfl)) pss_nil)))) pss_nil)
      (pss_one (ps_ret (pe_lst (pa_cons (pv 4) (pa_cons (pv 5) pa_nil))))))))))))))))))), ?_⟩
    have pH : H p ≠ none := hp.some
    have npt : p ≠ t := fun z => by obtain ⟨x, y, w, e⟩ := hp; rw [z, bt.un] at e; cases e
    refine ⟨.ref t, rfl, t, _, rfl, .inl bt.un, fun nm nnm => ?_⟩
    have eK : ((entK T).map fun kv => kV kv.1) = (T.map (·.1)).map V.str := by unfold entK; rw [List.map_map, List.map_map] <;> rfl
    rw [eK]
    obtain ⟨xs, hxs⟩ : ∃ xs, xs = T.map (·.1) := ⟨_, rfl⟩
    have xlen : xs.length ≤ 30 := by rw [hxs, List.length_map]; exact tlen
    have xnd : xs.Nodup := hxs ▸ bt.nd
    rw [← hxs]
    have pnm : p ≠ nm := fun z => hp.some (z ▸ nnm)
    have s1 := same_new (o := HO.lst (xs.map V.str)) nnm
    have st1 := hp.upd (o := HO.lst (xs.map V.str)) pnm
    have enm1 := upd_same (H := H) (a := nm) (o := HO.lst (xs.map V.str))
    generalize upd H nm (.lst (xs.map V.str)) = H1 at s1 st1 enm1 ⊢
    have k1 : Keep p H H1 := Keep.same s1
    have btk : ∀ {H' : Hp}, Keep p H H' → Bu H' t T := fun k => bt.keep hp k away
    have plk : ∀ {H' : Hp}, Keep p H H' → H' pl = some (.lst (ns.map V.int)) := fun k => k _ _ ppl.symm epl
    refine ⟨.ref p, rfl, .ref t, rfl, .ref pl, rfl, p, t, pl, T, ns, rfl, st1, btk k1, away, plk k1, ppl, by omega, fun H2 a N1 k2 st2 d1 => ?_⟩
    have K2 := k1.trans k2
    refine ⟨.ref p, rfl, .ref t, rfl, .ref pl, rfl, p, t, pl, T, ns, rfl, st2, btk K2, away, plk K2, ppl, by omega, fun H3 b N2 k3 st3 d2 => ?_⟩
    have K3 := K2.trans k3
    have nmk : ∀ {H' : Hp}, Keep p H1 H' → H' nm = some (.lst (xs.map V.str)) := fun k => k _ _ pnm.symm enm1
    -- the new boxes, fresh for H too
    have lift : ∀ {Ha Hb : Hp} {d : Addr} {M : List Ent}, Keep p H Ha → Strm Ha p → Nb Ha Hb d M → Nb H Hb d M := fun k st n => ⟨n.toBu, k.free st n.fresh, fun e he => k.free st (n.freshS e he), n.inj⟩
    obtain ⟨nb1, ky1, sz1⟩ := d1
    obtain ⟨nb2, ky2, sz2⟩ := d2
    rw [← hxs] at ky1 ky2
    have ab3 : Ab H H3 p a b xs ns.length N1 N2 := ⟨K3, st3, (lift k1 st1 nb1).keep pH k3, lift K2 st2 nb2, (fun z => by have := nb2.fresh; rw [← z, nb1.un] at this; cases this), ky1, ky2, sz1, sz2⟩
    have nk3 : Keep p H1 H3 := k2.trans k3
    refine ⟨.ref p, rfl, p, 8, rfl, st3, by decide, by decide, fun H4 way o4 st4 w0 w1 => ?_⟩
    have ab4 := ab3.keep pH ((Keep.refl p H3).oth o4) st4
    have nk4 := nk3.oth o4
    clear nb1 nb2 ky1 ky2 sz1 sz2 ab3 nk3 K2 K3 k2 k3
    refine' with_restS (fun σ H' => ∃ (a : Addr) (F : List Ent), σ = [some (.ref p), some (.ref t), some (.ref pl), some (.ref nm), some (.ref a), some (.ref b), some (.int way), none, none, none, none] ∧ Ab H H' p a b xs ns.length F N2 ∧ Keep p H1 H') ?ra
      (fun rest => ⟨.int way, rfl, way, 2, rfl, rfl, _, rfl, ite_both (fun _ => ?cga) (fun _ => rest _ _ ⟨a, N1, rfl, ab4, nk4⟩)⟩)
    case cga =>
      refine ⟨.ref p, rfl, .ref nm, rfl, .ref pl, rfl, p, nm, pl, xs, ns, rfl, st4, nmk nk4, pnm, xnd, xlen, plk ab4.k, ppl, by omega, fun H5 a5 N5 k5 st5 d5 => rest _ _ ⟨a5, N5, rfl, ?_, nk4.trans k5⟩⟩
      obtain ⟨nb5, ky5, sz5⟩ := d5
      exact ⟨ab4.k.trans k5, st5, lift ab4.k st4 nb5, ab4.nb.keep pH k5, (fun z => by have := nb5.fresh; rw [z, ab4.nb.un] at this; cases this), ky5, ab4.gk, sz5, ab4.gz⟩
    clear ab4 nk4 st4 o4 st2 st3
    rintro σ H5 ⟨a, F5, rfl, ab5, nk5⟩
    refine' with_restS (fun σ H' => ∃ (b : Addr) (G : List Ent), σ = [some (.ref p), some (.ref t), some (.ref pl), some (.ref nm), some (.ref a), some (.ref b), some (.int way), none, none, none, none] ∧ Ab H H' p a b xs ns.length F5 G ∧ Keep p H1 H') ?rb
      (fun rest => ⟨.int way, rfl, rfl, _, rfl, ite_both (fun _ => iteT ?cgb1) (fun _ => ⟨.int way, rfl, rfl, _, rfl, ite_both (fun _ => ?cgb2) (fun _ => rest _ _ ⟨b, N2, rfl, ab5, nk5⟩)⟩)⟩)
    case cgb1 =>
      refine ⟨.ref p, rfl, .ref nm, rfl, .ref pl, rfl, p, nm, pl, xs, ns, rfl, ab5.st, nmk nk5, pnm, xnd, xlen, plk ab5.k, ppl, by omega, fun H6 b6 N6 k6 st6 d6 => rest _ _ ⟨b6, N6, rfl, ?_, nk5.trans k6⟩⟩
      obtain ⟨nb6, ky6, sz6⟩ := d6
      exact ⟨ab5.k.trans k6, st6, ab5.na.keep pH k6, lift ab5.k ab5.st nb6, (fun z => by have := nb6.fresh; rw [← z, ab5.na.un] at this; cases this), ab5.fk, ky6, ab5.fz, sz6⟩
    case cgb2 =>
      refine ⟨.ref p, rfl, .ref nm, rfl, .ref pl, rfl, p, nm, pl, xs, ns, rfl, ab5.st, nmk nk5, pnm, xnd, xlen, plk ab5.k, ppl, by omega, fun H6 b6 N6 k6 st6 d6 => rest _ _ ⟨b6, N6, rfl, ?_, nk5.trans k6⟩⟩
      obtain ⟨nb6, ky6, sz6⟩ := d6
      exact ⟨ab5.k.trans k6, st6, ab5.na.keep pH k6, lift ab5.k ab5.st nb6, (fun z => by have := nb6.fresh; rw [← z, ab5.na.un] at this; cases this), ab5.fk, ky6, ab5.fz, sz6⟩
    rintro σ H6 ⟨b, G6, rfl, ab6, nk6⟩
    have ret : ∀ (H' : Hp) (Fx Gx : List Ent), Ab H H' p a b xs ns.length Fx Gx → ∀ l, H' l = none → Q (.ref l) (upd H' l (.lst [.ref a, .ref b])) := fun H' Fx Gx ab l nl =>
      q _ l a b Fx Gx (ab.k.at_ (ab.k.free ab.st nl)) (ab.st.upd fun z => ab.st.some (z ▸ nl)) upd_same (ab.na.toBu.same' (same_new nl)) (ab.nb.toBu.same' (same_new nl)) (hxs ▸ ab.fk) (hxs ▸ ab.gk) (fun e he => Nat.le_trans (ab.fz e he) n31) fun e he => Nat.le_trans (ab.gz e he) n31
    have ret1 : ∀ (H' : Hp) (Fx Gx : List Ent), Ab H H' p a b xs ns.length Fx Gx → ∀ l, H' l = none → Q (.ref l) (upd H' l (.lst [.ref a, .ref a])) := fun H' Fx Gx ab l nl =>
      q _ l a a Fx Fx (ab.k.at_ (ab.k.free ab.st nl)) (ab.st.upd fun z => ab.st.some (z ▸ nl)) upd_same (ab.na.toBu.same' (same_new nl)) (ab.na.toBu.same' (same_new nl)) (hxs ▸ ab.fk) (hxs ▸ ab.fk) (fun e he => Nat.le_trans (ab.fz e he) n31) fun e he => Nat.le_trans (ab.fz e he) n31
    refine ⟨.int way, rfl, way, 3, rfl, rfl, _, rfl, ite_both (fun _ => iteT ⟨.ref a, rfl, .ref b, rfl, by show 2 ≤ sizeLine; decide, fun l nl => ret _ _ _ ab6 l nl⟩) (fun _ => ⟨.ref nm, rfl, nm, _, rfl, .inl (sl_map (nmk nk6)), rfl, _, rfl, ite_both (fun _ => ⟨.ref a, rfl, .ref b, rfl, by show 2 ≤ sizeLine; decide, fun l nl => ret _ _ _ ab6 l nl⟩) (fun c0 => ?_)⟩)⟩
    have lpos : (0 : Int) < ((xs.map V.str).length : Nat) := by
      have := of_decide_eq_false c0
      have : ((xs.map V.str).length : Nat) ≠ 0 := fun z => this (by rw [z] <;> rfl)
      omega
    have lsm : (((xs.map V.str).length : Nat) : Int) < 1073741824 := by rw [List.length_map]; omega
    refine ⟨.ref nm, rfl, .ref p, rfl, .ref nm, rfl, nm, _, rfl, .inl (sl_map (nmk nk6)), p, _, rfl, ab6.st, lpos, lsm, fun H7 j o7 st7 j0 j1 => ?_⟩
    obtain ⟨x, xin, hx⟩ := pickS j0 j1
    have ab7 := ab6.keep pH ((Keep.refl p H6).oth o7) st7
    have nk7 := nk6.oth o7
    refine ⟨nm, _, j, .str x, rfl, rfl, sl_map (nmk nk7), hx, ?_⟩
    clear ab6 nk6 o7 hx j0 j1
    refine ⟨by show 0 ≤ sizeLine; decide, fun q0 n0 => ⟨by show 0 ≤ sizeLine; decide, fun q1 n1 => ⟨by show 0 ≤ sizeLine; decide, fun q2 n2 => ⟨by show 3 ≤ sizeLine; decide, fun pr npr => ?_⟩⟩⟩⟩
    have z1 := same_new (o := HO.lst []) n0
    have z2 := z1.trans (same_new (o := HO.lst []) n1)
    have z3 := z2.trans (same_new (o := HO.lst []) n2)
    have z4 := z3.trans (same_new (o := HO.lst [V.ref q0, V.ref q1, V.ref q2]) npr)
    have d01 : q0 ≠ q1 := fun z => by rw [← z, upd_same] at n1; cases n1
    have e02 : (upd (upd H7 q0 (.lst [])) q1 (.lst [])) q0 = some (.lst []) := by rw [upd_ne d01, upd_same]
    have d02 : q0 ≠ q2 := fun z => by rw [← z, e02] at n2; cases n2
    have d12 : q1 ≠ q2 := fun z => by rw [← z, upd_same] at n2; cases n2
    have f0 := n0
    have f1 := z1.free n1
    have f2 := z2.free n2
    have e0 : (upd (upd (upd H7 q0 (.lst [])) q1 (.lst [])) q2 (.lst [])) q0 = some (.lst []) := by rw [upd_ne d02]; exact e02
    have e1 : (upd (upd (upd H7 q0 (.lst [])) q1 (.lst [])) q2 (.lst [])) q1 = some (.lst []) := by rw [upd_ne d12, upd_same]
    have e2 : (upd (upd (upd H7 q0 (.lst [])) q1 (.lst [])) q2 (.lst [])) q2 = some (.lst []) := upd_same
    have prq : pr ≠ q0 ∧ pr ≠ q1 ∧ pr ≠ q2 := ⟨(fun z => by rw [z, e0] at npr; cases npr), (fun z => by rw [z, e1] at npr; cases npr), (fun z => by rw [z, e2] at npr; cases npr)⟩
    have zz := same_new (o := HO.lst [V.ref q0, V.ref q1, V.ref q2]) npr
    have e0 := zz _ _ e0
    have e1 := zz _ _ e1
    have e2 := zz _ _ e2
    have epr := upd_same (H := upd (upd (upd H7 q0 (.lst [])) q1 (.lst [])) q2 (.lst [])) (a := pr) (o := HO.lst [V.ref q0, V.ref q1, V.ref q2])
    have ab8 := ab7.same pH z4
    have nk8 := nk7.trans (Keep.same z4)
    have aw : ∀ {c : Addr}, H7 c = none → H c = none ∧ p ≠ c ∧ (∀ e ∈ F5, e.2.1 ≠ c) ∧ (∀ e ∈ G6, e.2.1 ≠ c) ∧ H1 c = none := fun n =>
      ⟨ab7.k.free ab7.st n, fun z => ab7.st.some (z ▸ n), (fun e he z => by have := ab7.na.sides e he; rw [z, n] at this; cases this), (fun e he z => by have := ab7.nb.sides e he; rw [z, n] at this; cases this), nk7.free ab7.st n⟩
    have A0 := aw f0
    have A1 := aw f1
    have A2 := aw f2
    generalize upd (upd (upd (upd H7 q0 (.lst [])) q1 (.lst [])) q2 (.lst [])) pr (.lst [V.ref q0, V.ref q1, V.ref q2]) = H8 at e0 e1 e2 epr ab8 nk8 z4 ⊢
    clear z1 z2 z3 zz e02 n0 n1 n2 npr aw ab7 nk7
    obtain ⟨gT, gTe⟩ := key_some (L := T) (x := x) (hxs ▸ xin)
    obtain ⟨gTm, _⟩ := getE_mem gTe
    have gTv := (btk ab8.k).toBx.get x
    rw [gTe] at gTv
    refine ⟨.ref t, rfl, .str x, rfl, t, .ref gT.2.1, rfl, gTv, gT.2.1, rfl, ⟨_, sl_map ((btk ab8.k).sides gT gTm)⟩, for_list (xs := gT.2.2.map V.int) (fun i σ H' => ∃ (y9 : Option V) (L0 L1 L2 : List Int), σ = [some (.ref p), some (.ref t), some (.ref pl), some (.ref nm), some (.ref a), some (.ref b), some (.int way), some (.str x), some (.ref pr), y9, none] ∧ Ab H H' p a b xs ns.length F5 G6 ∧ Keep p H1 H' ∧ H' pr = some (.lst [.ref q0, .ref q1, .ref q2]) ∧ (H' q0 = some (.lst (L0.map V.int)) ∧ L0.length ≤ i) ∧ (H' q1 = some (.lst (L1.map V.int)) ∧ L1.length ≤ i) ∧ (H' q2 = some (.lst (L2.map V.int)) ∧ L2.length ≤ i))
      ⟨none, [], [], [], rfl, ab8, nk8, epr, ⟨e0, Nat.le_refl _⟩, ⟨e1, Nat.le_refl _⟩, ⟨e2, Nat.le_refl _⟩⟩ (fun i σ H' _ h => by obtain ⟨_, _, _, _, _, h, _⟩ := h; exact sl_map ((btk h.k).sides gT gTm)) ?_ ?_⟩
    · rintro i y σ H' hy ⟨y9, L0, L1, L2, rfl, ab, nk, epr', ⟨e0, l0⟩, ⟨e1, l1⟩, ⟨e2, l2⟩⟩
      rw [List.getElem?_map] at hy
      obtain ⟨v, hv, rfl⟩ := Option.map_eq_some_iff.mp hy
      have hi := (List.getElem?_eq_some_iff.mp hv).1
      have sz := tsz gT gTm
      have ppr : p ≠ pr := fun z => by obtain ⟨x1, x2, x3, e⟩ := ab.st; rw [z, epr'] at e; cases e
      refine ⟨.ref pr, rfl, .ref p, rfl, p, 3, rfl, ab.st, by decide, by decide, fun H9 d o9 st9 d0 d1 => ?_⟩
      have ab9 := ab.keep pH ((Keep.refl p H').oth o9) st9
      have nk9 := nk.oth o9
      have epr9 := (o9 pr ppr.symm).trans epr'
      have e0 := (o9 q0 A0.2.1.symm).trans e0
      have e1 := (o9 q1 A1.2.1.symm).trans e1
      have e2 := (o9 q2 A2.2.1.symm).trans e2
      have : d = 0 ∨ d = 1 ∨ d = 2 := by omega
      rcases this with rfl | rfl | rfl
      · refine ⟨pr, _, 0, .ref q0, rfl, rfl, sl_map epr9, atI_nat (j := 0) rfl, .inl ⟨rfl, _, sl_map e0⟩, .int v, rfl, q0, _, _, rfl, rfl, e0, by rw [List.length_map]; exact small1000 (by omega), ?_⟩
        exact ⟨_, L0 ++ [v], L1, L2, rfl, ab9.cell A0.1 A0.2.1 e0 A0.2.2.1 A0.2.2.2.1, nk9.at_ A0.2.2.2.2, by rw [upd_ne prq.1]; exact epr9, ⟨by rw [upd_same, List.map_append] <;> rfl, by rw [List.length_append]; exact Nat.succ_le_succ l0⟩, ⟨by rw [upd_ne d01.symm]; exact e1, by omega⟩, ⟨by rw [upd_ne d02.symm]; exact e2, by omega⟩⟩
      · refine ⟨pr, _, 1, .ref q1, rfl, rfl, sl_map epr9, atI_nat (j := 1) rfl, .inl ⟨rfl, _, sl_map e1⟩, .int v, rfl, q1, _, _, rfl, rfl, e1, by rw [List.length_map]; exact small1000 (by omega), ?_⟩
        exact ⟨_, L0, L1 ++ [v], L2, rfl, ab9.cell A1.1 A1.2.1 e1 A1.2.2.1 A1.2.2.2.1, nk9.at_ A1.2.2.2.2, by rw [upd_ne prq.2.1]; exact epr9, ⟨by rw [upd_ne d01]; exact e0, by omega⟩, ⟨by rw [upd_same, List.map_append] <;> rfl, by rw [List.length_append]; exact Nat.succ_le_succ l1⟩, ⟨by rw [upd_ne d12.symm]; exact e2, by omega⟩⟩
      · refine ⟨pr, _, 2, .ref q2, rfl, rfl, sl_map epr9, atI_nat (j := 2) rfl, .inl ⟨rfl, _, sl_map e2⟩, .int v, rfl, q2, _, _, rfl, rfl, e2, by rw [List.length_map]; exact small1000 (by omega), ?_⟩
        exact ⟨_, L0, L1, L2 ++ [v], rfl, ab9.cell A2.1 A2.2.1 e2 A2.2.2.1 A2.2.2.2.1, nk9.at_ A2.2.2.2.2, by rw [upd_ne prq.2.2]; exact epr9, ⟨by rw [upd_ne d02]; exact e0, by omega⟩, ⟨by rw [upd_ne d12]; exact e1, by omega⟩, ⟨by rw [upd_same, List.map_append] <;> rfl, by rw [List.length_append]; exact Nat.succ_le_succ l2⟩⟩
    rintro σ HA ⟨y9, L0, L1, L2, rfl, abA, nkA, epr1, ⟨eq01, _⟩, ⟨eq11, _⟩, _⟩
    clear e0 e1 e2 epr ab8 nk8 z4 gTv
    obtain ⟨g1, g1e⟩ := key_some (L := F5) (x := x) (by rw [abA.fk]; exact xin)
    have g1m : g1 ∈ F5 := (getE_mem g1e).1
    have g1v := abA.na.toBu.toBx.get x
    rw [g1e] at g1v
    refine ⟨.ref a, rfl, .str x, rfl, a, .ref g1.2.1, rfl, g1v, g1.2.1, rfl, ⟨_, sl_map (abA.na.sides g1 g1m)⟩, fun R nR => lc_list (xs := g1.2.2.map V.int) (fun j H3 => Same HA H3 ∧ ∃ ms : List Int, H3 R = some (.lst (ms.map V.int)) ∧ ms.length ≤ j) ⟨same_new nR, [], upd_same, Nat.le_refl _⟩ (fun j H3 _ h => sl_map (h.1 _ _ (abA.na.sides g1 g1m))) ?_ ?_⟩
    · rintro j y H3 hy ⟨s3, ms, eR, lm⟩
      rw [List.getElem?_map] at hy
      obtain ⟨v, hv, rfl⟩ := Option.map_eq_some_iff.mp hy
      have hj := (List.getElem?_eq_some_iff.mp hv).1
      refine ⟨rfl, .int v, rfl, .ref pr, rfl, pr, _, _, .ref q0, rfl, rfl, sl_map (s3 _ _ epr1), atI_nat (j := 0) rfl, q0, _, rfl, .inl (sl_map (s3 _ _ eq01)), rfl, flat_ints _, _, rfl, ite_both (fun _ => ⟨.int v, rfl, keepc s3 nR eR lm (by have := abA.fz g1 g1m; omega)⟩) (fun _ => ⟨s3, ms, eR, by omega⟩)⟩
    rintro H1c ⟨s1c, ms1, eR1, lm1⟩
    rw [List.length_map] at lm1
    have sz1 : ms1.length ≤ ns.length := by have := abA.fz g1 g1m; omega
    have few1 := abA.na.few
    refine ⟨.ref a, rfl, .str x, rfl, a, _, rfl, DPut.k (k := .inr x) (s1c _ _ abA.na.un) (by rw [entK_len]; exact small1000 (by omega)), ?_⟩
    rw [putK_ent (s := ms1)]
    have ab1p := abA.putA (x := x) hp xin xlen nR s1c eR1 sz1
    have enm1' := nmk nkA
    have a1 : a ≠ q1 := fun z => by have := abA.na.un; rw [z, eq11] at this; cases this
    have a2 : a ≠ pr := fun z => by have := abA.na.un; rw [z, epr1] at this; cases this
    have a3 : a ≠ nm := fun z => by have := abA.na.un; rw [z, enm1'] at this; cases this
    have epr2 : (upd H1c a (.dK (entK (putE F5 x R ms1)))) pr = some (.lst [.ref q0, .ref q1, .ref q2]) := by rw [upd_ne a2.symm]; exact s1c _ _ epr1
    have eq12 : (upd H1c a (.dK (entK (putE F5 x R ms1)))) q1 = some (.lst (L1.map V.int)) := by rw [upd_ne a1.symm]; exact s1c _ _ eq11
    have enm2 : (upd H1c a (.dK (entK (putE F5 x R ms1)))) nm = some (.lst (xs.map V.str)) := by rw [upd_ne a3.symm]; exact s1c _ _ enm1'
    generalize upd H1c a (.dK (entK (putE F5 x R ms1))) = HB at ab1p epr2 eq12 enm2 ⊢
    generalize putE F5 x R ms1 = FB at ab1p
    clear s1c eR1 lm1 sz1 few1 g1v g1e g1m nR abA nkA epr1 eq01 eq11 enm1'
    obtain ⟨g2, g2e⟩ := key_some (L := G6) (x := x) (by rw [ab1p.gk]; exact xin)
    have g2m : g2 ∈ G6 := (getE_mem g2e).1
    have g2v := ab1p.nb.toBu.toBx.get x
    rw [g2e] at g2v
    refine ⟨.ref b, rfl, .str x, rfl, b, .ref g2.2.1, rfl, g2v, g2.2.1, rfl, ⟨_, sl_map (ab1p.nb.sides g2 g2m)⟩, fun R nR => lc_list (xs := g2.2.2.map V.int) (fun j H3 => Same HB H3 ∧ ∃ ms : List Int, H3 R = some (.lst (ms.map V.int)) ∧ ms.length ≤ j) ⟨same_new nR, [], upd_same, Nat.le_refl _⟩ (fun j H3 _ h => sl_map (h.1 _ _ (ab1p.nb.sides g2 g2m))) ?_ ?_⟩
    · rintro j y H3 hy ⟨s3, ms, eR, lm⟩
      rw [List.getElem?_map] at hy
      obtain ⟨v, hv, rfl⟩ := Option.map_eq_some_iff.mp hy
      have hj := (List.getElem?_eq_some_iff.mp hv).1
      refine ⟨rfl, .int v, rfl, .ref pr, rfl, pr, _, _, .ref q1, rfl, rfl, sl_map (s3 _ _ epr2), atI_nat (j := 1) rfl, q1, _, rfl, .inl (sl_map (s3 _ _ eq12)), rfl, flat_ints _, _, rfl, ite_both (fun _ => ⟨.int v, rfl, keepc s3 nR eR lm (by have := ab1p.gz g2 g2m; omega)⟩) (fun _ => ⟨s3, ms, eR, by omega⟩)⟩
    rintro H2c ⟨s2c, ms2, eR2, lm2⟩
    rw [List.length_map] at lm2
    have sz2 : ms2.length ≤ ns.length := by have := ab1p.gz g2 g2m; omega
    have few2 := ab1p.nb.few
    refine ⟨.ref b, rfl, .str x, rfl, b, _, rfl, DPut.k (k := .inr x) (s2c _ _ ab1p.nb.un) (by rw [entK_len]; exact small1000 (by omega)), ?_⟩
    rw [putK_ent (s := ms2)]
    have ab2p := ab1p.putB (x := x) hp xin xlen nR s2c eR2 sz2
    have b3 : b ≠ nm := fun z => by have := ab1p.nb.un; rw [z, enm2] at this; cases this
    have enm3 : (upd H2c b (.dK (entK (putE G6 x R ms2)))) nm = some (.lst (xs.map V.str)) := by rw [upd_ne b3.symm]; exact s2c _ _ enm2
    generalize upd H2c b (.dK (entK (putE G6 x R ms2))) = HC at ab2p enm3 ⊢
    generalize putE G6 x R ms2 = GB at ab2p
    clear s2c eR2 lm2 sz2 few2 g2v g2e g2m nR ab1p epr2 eq12 enm2
    refine ⟨.int way, rfl, rfl, _, rfl, ite_both (fun _ => ⟨.ref a, rfl, .ref a, rfl, by show 2 ≤ sizeLine; decide, fun l nl => ret1 _ _ _ ab2p l nl⟩) (fun _ => ?_)⟩
    refine ⟨.ref nm, rfl, .ref p, rfl, .ref nm, rfl, nm, _, rfl, .inl (sl_map enm3), p, _, rfl, ab2p.st, lpos, lsm, fun HD j o9 st9 j0 j1 => ?_⟩
    obtain ⟨x2, xin2, hx2⟩ := pickS j0 j1
    have ab9 := ab2p.keep pH ((Keep.refl p HC).oth o9) st9
    refine ⟨nm, _, j, .str x2, rfl, rfl, sl_map ((o9 nm pnm.symm).trans enm3), hx2, ?_⟩
    clear hx2 j0 j1 o9 enm3 ab2p st9
    obtain ⟨gU, gUe⟩ := key_some (L := T) (x := x2) (hxs ▸ xin2)
    obtain ⟨gUm, _⟩ := getE_mem gUe
    have bU : ∀ {H' : Hp}, Keep p H H' → DGet H' t (.str x2) (some (.ref gU.2.1)) := fun k => by have := (btk k).toBx.get x2; rw [gUe] at this; exact this
    have sU : ∀ {H' : Hp}, Keep p H H' → SqL K H' gU.2.1 (gU.2.2.map V.int) := fun k => sl_map ((btk k).sides gU gUm)
    refine' with_restS (fun σ H' => ∃ (y10 : Option V) (Fx Gx : List Ent), σ = [some (.ref p), some (.ref t), some (.ref pl), some (.ref nm), some (.ref a), some (.ref b), some (.int way), some (.str x2), some (.ref pr), y9, y10] ∧ Ab H H' p a b xs ns.length Fx Gx) ?rz
      (fun rest => ⟨.int way, rfl, way, 4, rfl, rfl, _, rfl, ite_both (fun _ => ⟨.ref t, rfl, .str x2, rfl, t, .ref gU.2.1, rfl, bU ab9.k, gU.2.1, _, rfl, .inl (sU ab9.k), _, 0, rfl, rfl, _, rfl, ite_both (fun c => ?cgz) (fun _ => rest _ _ ⟨_, _, _, rfl, ab9⟩)⟩) (fun _ => iteF (rest _ _ ⟨_, _, _, rfl, ab9⟩))⟩)
    case rz =>
      rintro σ H' ⟨y10, Fx, Gx, rfl, ab⟩
      exact ⟨.ref a, rfl, .ref b, rfl, by show 2 ≤ sizeLine; decide, fun l nl => ret _ _ _ ab l nl⟩
    have up : (0 : Int) < ((gU.2.2.map V.int).length : Nat) := of_decide_eq_true c
    have us : (((gU.2.2.map V.int).length : Nat) : Int) < 1073741824 := by rw [List.length_map]; have := tsz gU gUm; omega
    refine ⟨.ref t, rfl, .str x2, rfl, t, .ref gU.2.1, rfl, bU ab9.k, .ref p, rfl, .ref t, rfl, .str x2, rfl, t, .ref gU.2.1, rfl, bU ab9.k, gU.2.1, _, rfl, .inl (sU ab9.k), p, _, rfl, ab9.st, up, us, fun HE j oE stE j0 j1 => ?_⟩
    obtain ⟨gone, hgone⟩ := pickI j0 j1
    have abE := ab9.keep pH ((Keep.refl p HD).oth oE) stE
    refine ⟨gU.2.1, _, j, .int gone, rfl, rfl, sU abE.k, hgone, ?_⟩
    clear ab9 oE stE hgone j0 j1
    obtain ⟨g9, g9e⟩ := key_some (L := GB) (x := x2) (by rw [abE.gk]; exact xin2)
    have g9m : g9 ∈ GB := (getE_mem g9e).1
    have g9v := abE.nb.toBu.toBx.get x2
    rw [g9e] at g9v
    refine ⟨.ref b, rfl, .str x2, rfl, b, .ref g9.2.1, rfl, g9v, g9.2.1, rfl, ⟨_, sl_map (abE.nb.sides g9 g9m)⟩, fun R nR => lc_list (xs := g9.2.2.map V.int) (fun j H3 => Same HE H3 ∧ ∃ ms : List Int, H3 R = some (.lst (ms.map V.int)) ∧ ms.length ≤ j) ⟨same_new nR, [], upd_same, Nat.le_refl _⟩ (fun j H3 _ h => sl_map (h.1 _ _ (abE.nb.sides g9 g9m))) ?_ ?_⟩
    · rintro j y H3 hy ⟨s3, ms, eR, lm⟩
      rw [List.getElem?_map] at hy
      obtain ⟨v, hv, rfl⟩ := Option.map_eq_some_iff.mp hy
      have hj := (List.getElem?_eq_some_iff.mp hv).1
      refine ⟨rfl, .int v, rfl, .int gone, rfl, rfl, _, rfl, ite_both (fun _ => ⟨.int v, rfl, keepc s3 nR eR lm (by have := abE.gz g9 g9m; omega)⟩) (fun _ => ⟨s3, ms, eR, by omega⟩)⟩
    rintro H9c ⟨s9c, ms9, eR9, lm9⟩
    rw [List.length_map] at lm9
    have sz9 : ms9.length ≤ ns.length := by have := abE.gz g9 g9m; omega
    have few9 := abE.nb.few
    refine ⟨.ref b, rfl, .str x2, rfl, b, _, rfl, DPut.k (k := .inr x2) (s9c _ _ abE.nb.un) (by rw [entK_len]; exact small1000 (by omega)), ?_⟩
    rw [putK_ent (s := ms9)]
    have ab9p := abE.putB (x := x2) hp xin2 xlen nR s9c eR9 sz9
    generalize upd H9c b (.dK (entK (putE GB x2 R ms9))) = HG at ab9p ⊢
    generalize putE GB x2 R ms9 = GC at ab9p
    clear s9c eR9 lm9 sz9 few9 g9v g9e g9m nR abE
    refine ⟨.int way, rfl, rfl, _, rfl, ite_both (fun _ => ?_) (fun _ => rest _ _ ⟨_, _, _, rfl, ab9p⟩)⟩
    obtain ⟨g10, g10e⟩ := key_some (L := FB) (x := x2) (by rw [ab9p.fk]; exact xin2)
    have g10m : g10 ∈ FB := (getE_mem g10e).1
    have g10v := ab9p.na.toBu.toBx.get x2
    rw [g10e] at g10v
    refine ⟨.ref a, rfl, .str x2, rfl, a, .ref g10.2.1, rfl, g10v, g10.2.1, rfl, ⟨_, sl_map (ab9p.na.sides g10 g10m)⟩, fun R nR => lc_list (xs := g10.2.2.map V.int) (fun j H3 => Same HG H3 ∧ ∃ ms : List Int, H3 R = some (.lst (ms.map V.int)) ∧ ms.length ≤ j) ⟨same_new nR, [], upd_same, Nat.le_refl _⟩ (fun j H3 _ h => sl_map (h.1 _ _ (ab9p.na.sides g10 g10m))) ?_ ?_⟩
    · rintro j y H3 hy ⟨s3, ms, eR, lm⟩
      rw [List.getElem?_map] at hy
      obtain ⟨v, hv, rfl⟩ := Option.map_eq_some_iff.mp hy
      have hj := (List.getElem?_eq_some_iff.mp hv).1
      refine ⟨rfl, .int v, rfl, .int gone, rfl, rfl, _, rfl, ite_both (fun _ => ⟨.int v, rfl, keepc s3 nR eR lm (by have := ab9p.fz g10 g10m; omega)⟩) (fun _ => ⟨s3, ms, eR, by omega⟩)⟩
    rintro H10c ⟨s10c, ms10, eR10, lm10⟩
    rw [List.length_map] at lm10
    have sz10 : ms10.length ≤ ns.length := by have := ab9p.fz g10 g10m; omega
    have few10 := ab9p.na.few
    refine ⟨.ref a, rfl, .str x2, rfl, a, _, rfl, DPut.k (k := .inr x2) (s10c _ _ ab9p.na.un) (by rw [entK_len]; exact small1000 (by omega)), ?_⟩
    rw [putK_ent (s := ms10)]
    have ab10p := ab9p.putA (x := x2) hp xin2 xlen nR s10c eR10 sz10
    exact rest _ _ ⟨_, _, _, rfl, ab10p⟩
end
end K5

set_option Elab.async false
set_option linter.all false
set_option maxRecDepth 100000
set_option maxHeartbeats 4000000
namespace K5
open PySem PySem.Spec PyProof.Rows L2 Cs CsU
theorem keep_fresh {p : Addr} {H H' : Hp} (k : Keep p H H') (n : H p = none) : Same H H' := fun b o e => k b o (ne_of_none e n) e
theorem over_of {H : Hp} {a : Addr} {F T : List Ent} (b : Bu H a F) (k : F.map (·.1) = T.map (·.1)) : Over T F := ⟨b.nd, fun e he => key_some (by rw [k]; exact List.mem_map_of_mem he), fun x hx => k ▸ hx⟩
theorem mem_shape {L : List Ent} {x : Str} {s : List Int} : (x, s) ∈ shape L ↔ ∃ e ∈ L, e.1 = x ∧ e.2.2 = s := by
  unfold shape
  rw [List.mem_map]
  constructor
  · rintro ⟨e, he, q⟩; obtain ⟨h1, h2⟩ := Prod.mk.inj q; exact ⟨e, he, h1, h2⟩
  · rintro ⟨e, he, rfl, rfl⟩; exact ⟨e, he, rfl⟩
theorem turn_of {T T' : List Ent} {n : Nat} (h : shape T' = shape (T.drop n ++ T.take n)) : Turn T T' := ⟨fun x s => by
  rw [← mem_shape, ← mem_shape, h]
  unfold shape
  rw [List.map_append, List.mem_append, ← List.mem_append.trans Or.comm, ← List.map_append, List.take_append_drop]⟩
theorem look_iff {L : List Ent} (nd : (L.map (·.1)).Nodup) {x : Str} {s : List Int} : look L x = some s ↔ ∃ e ∈ L, e.1 = x ∧ e.2.2 = s := by
  constructor
  · exact look_of
  · rintro ⟨e, he, rfl, rfl⟩; exact look_mem nd he
theorem same_of {F F' : List Ent} (t : Turn F F') (n : (F.map (·.1)).Nodup) (n' : (F'.map (·.1)).Nodup) : SameB F' F := fun x => Option.ext fun s => by rw [look_iff n', look_iff n]; exact t.mem x s
theorem Turn.size {T T' : List Ent} {p : List Int → Prop} (t : Turn T T') (h : ∀ e ∈ T, p e.2.2) : ∀ e ∈ T', p e.2.2 := fun e he => by obtain ⟨g, hg, _, e2⟩ := t.get he; rw [← e2]; exact h g hg
theorem len_of {T T' : List Ent} {n : Nat} (h : shape T' = shape (T.drop n ++ T.take n)) : T'.length = T.length := by
  have := congrArg List.length h
  rw [List.length_map, List.length_map, List.length_append, List.length_drop, List.length_take] at this
  omega
theorem eq_dict {K : PySem.W.Frag} {H : Hp} {a b : Addr} {M : List (Str × Int)} (nd : (M.map (·.1)).Nodup) (ha : H a = some (.dK (intK M))) (hb : H b = some (.dK (intK M))) : EqV K H 2 (.ref a) (.ref b) := by
  refine .inr (.inr (.inr ⟨a, b, _, _, rfl, rfl, ha, hb, rfl, fun p hp => ?_⟩))
  unfold intK at hp
  obtain ⟨e, he, rfl⟩ := List.mem_map.mp hp
  refine ⟨.int e.2, ?_, .inl ⟨rfl, rfl⟩⟩
  show valV (intK M) (Sum.inr e.1) = _
  rw [valV_int, (aget_iff nd e.1 e.2).mpr he] <;> rfl
def OutNd : Ans → Prop
  | .out A => (A.map (·.1)).Nodup
  | _ => True
theorem eq_ans {K : PySem.W.Frag} {H : Hp} {a b : Addr} {an : Ans} (n : OutNd an) (ha : AnsAt H a an) (hb : AnsAt H b an) : ∃ xs ys, SqT K H a xs ∧ SqT K H b ys ∧ Paired (EqV K H 2) xs ys := by
  have st : ∀ s : Str, EqV K H 2 (.str s) (.str s) := fun s => .inl ⟨rfl, rfl⟩
  cases an with
  | first => exact ⟨_, _, .inl (.inl ha), .inl (.inl hb), .cons (st _) (.cons (.inl ⟨rfl, rfl⟩) .nil)⟩
  | second => exact ⟨_, _, .inl (.inl ha), .inl (.inl hb), .cons (st _) (.cons (.inl ⟨rfl, rfl⟩) .nil)⟩
  | join x => exact ⟨_, _, .inl (.inl ha), .inl (.inl hb), .cons (st _) (.cons (st _) .nil)⟩
  | out A =>
    obtain ⟨d, h1, h2⟩ := ha
    obtain ⟨d', h1', h2'⟩ := hb
    exact ⟨_, _, .inl (.inl h1), .inl (.inl h1'), .cons (st _) (.cons (eq_dict n h2 h2') .nil)⟩
theorem AnsAt.keep {H H' : Hp} {a : Addr} {an : Ans} (h : AnsAt H a an) (k : ∀ b o, (∀ l, o ≠ HO.lst l) → H b = some o → H' b = some o) : AnsAt H' a an := by
  cases an with
  | first => exact k _ _ (fun _ z => nomatch z) h
  | second => exact k _ _ (fun _ z => nomatch z) h
  | join x => exact k _ _ (fun _ z => nomatch z) h
  | out A => obtain ⟨d, h1, h2⟩ := h; exact ⟨d, k _ _ (fun _ z => nomatch z) h1, k _ _ (fun _ z => nomatch z) h2⟩
theorem right_nd {T F G : List Ent} {an : Ans} (h : Right T F G an) : OutNd an := by
  cases an with
  | out A => exact h.1
  | _ => exact True.intro
theorem keysV (L : List Ent) : ((entK L).map fun kv => kV kv.1) = (L.map (·.1)).map V.str := by unfold entK; rw [List.map_map, List.map_map] <;> rfl
theorem eq_strs {K : PySem.W.Frag} {H : Hp} {a b : Addr} {xs : List Str} (ha : H a = some (.lst (xs.map V.str))) (hb : H b = some (.lst (xs.map V.str))) : EqV K H 2 (.ref a) (.ref b) :=
  .inr (.inr (.inl ⟨a, b, _, _, rfl, rfl, sl_map ha, sl_map hb, paired_flat _ fun x hx => by obtain ⟨k, _, rfl⟩ := List.mem_map.mp hx; rfl⟩))
theorem paired3 {D : V → V → Prop} {a b c a' b' c' : V} (h1 : D a a') (h2 : D b b') (h3 : D c c') : Paired D [a, b, c] [a', b', c'] := .cons h1 (.cons h2 (.cons h3 .nil))
section
variable {P : Program} {w : World} {K : PySem.W.Frag} {mg : Str → Option Value} {base : Heap}
abbrev sLaw : Stmt := topS 30
abbrev nLaw : List Str := ["_law_script", "_law_stream_here", "_law_large", "_law_names_here", "_law_pool_here", "_law_third", "_law_pair", "_law_shifts", "_law_word", "_law_kept", "_law_passed", "_law_answers", "_law_turn", "_law_told", "_law_listed", "_law_k", "_law_sides_here"]
theorem scLaw : FnScope nLaw ["_law_script"] (defScope sLaw) := ⟨rfl, rfl, rfl, by decide +kernel, rfl, by decide +kernel, by decide +kernel⟩
def spLaw (K : PySem.W.Frag) : Sp := fun vs H Q _ => ∃ (a : Addr) (ns : List Int), vs = [.ref a] ∧ SqL K H a (ns.map V.int) ∧ ns.length ≤ 63 ∧ ∀ H', Q (.bl true) H'
theorem ok_law {f fT fD fM fN fP fO fS fW fY fK fU fC fR : Addr} {fd fdT fdD fdM fdN fdP fdO fdS fdW fdY fdK fdU fdC fdR : FuncData} (F : Fun K "law" "law" sLaw f fd) (B : Bt mg)
    (T0 : Call P w K mg base 1 "_law_stream" fT fdT ["_law_script", "_law_k"] (spStream K)) (D : Call P w K mg base 1 "_law_next" fD fdD ["_law_stream_here", "_law_size"] spDraw)
    (Mn : Call P w K mg base 1 "_law_many_names" fM fdM ["_law_shift", "_law_count"] spMany) (Na : Call P w K mg base 2 "_law_names" fN fdN ["_law_stream_here", "_law_count"] spNames)
    (Po : Call P w K mg base 2 "_law_pool" fP fdP ["_law_stream_here", "_law_count"] spPool) (Do : Call P w K mg base 2 "_law_domains" fO fdO ["_law_stream_here", "_law_names_here", "_law_pool_here", "_law_most"] spDoms)
    (Sd : Call P w K mg base 1 "_law_sides" fS fdS ["_law_domains_here"] spLSides) (Tw : Call P w K mg base 4 "_law_two" fW fdW pTwo spTwoB)
    (Sy : Call P w K mg base 2 "_law_word_by_sides" fY fdY pWlk spSds) (Wk : Call P w K mg base 2 "_law_word_by_walk" fK fdK pWlk spWlk) (Tn : Call P w K mg base 1 "_law_turned" fU fdU ["_law_sides_here", "_law_shift"] spTrn)
    (Cv : Call P w K mg base 3 "covered_by_two" fC fdC ["first", "second", "box"] spCov) (Rg : Call P w K mg base 2 "_law_is_right" fR fdR pRgt spRgt) :
    FnOk P w K mg base CX0 5 f fd ["_law_script"] (spLaw K) := by
  refine F.ok scLaw (fun vs H Q E h => ?_) (fun cdv A outer s H vs Q E hr h => ?_)
  · obtain ⟨a, ns, rfl, _⟩ := h
    rfl
  · obtain ⟨a, sc, rfl, ha, ln, q⟩ := h
    have hu := hu_of hr
    have hr1 : Room 1 (A.deeper (envOfC "law" (defScope sLaw) s.heap.objs.size f cdv)) := hr.mono (by decide)
    have hr2 : Room 2 (A.deeper (envOfC "law" (defScope sLaw) s.heap.objs.size f cdv)) := hr.mono (by decide)
    have hr3 : Room 3 (A.deeper (envOfC "law" (defScope sLaw) s.heap.objs.size f cdv)) := hr.mono (by decide)
    have hu64 : (A.deeper (envOfC "law" (defScope sLaw) s.heap.objs.size f cdv)).units + 64 < cLine := by have := hr.un; omega
    have nd := scLaw.nd
    refine ⟨_, pss_cons (ps_set (i := 1) nd rfl (.inr rfl) (pe_call T0.ok hr1 (by rfl) T0.at_ T0.kp T0.bd .nil pass0 (pa_cons (pv 0) (pa_cons pe_int pa_nil))))
      (pss_cons (ps_set (i := 2) nd rfl (.inl rfl) (pe_cmpR op_eq (pe_call D.ok hr1 (by rfl) D.at_ D.kp D.bd .nil pass0 (pa_cons (pv 1) (pa_cons pe_int pa_nil))) pe_int rfl))
      (pss_cons (ps_if (pt_val (pv 2)) (pss_cons (ps_set (i := 3) nd rfl (.inr rfl) (pe_call Mn.ok hr1 (by rfl) Mn.at_ Mn.kp Mn.bd .nil pass0 (pa_cons (pe_call D.ok hr1 (by rfl) D.at_ D.kp D.bd .nil pass0 (pa_cons (pv 1) (pa_cons pe_int pa_nil))) (pa_cons (pe_op op_add pe_int (pe_op op_mul pe_int (pe_call D.ok hr1 (by rfl) D.at_ D.kp D.bd .nil pass0 (pa_cons (pv 1) (pa_cons pe_int pa_nil))))) pa_nil)))) (pss_one (ps_setLc (i := 4) (own := [("_law_k", 15)]) (g := gName 15) (tt := tYes) (te := tOp (rI0 fun i j => .int (i - j)) (tOp (rI CMul fun i j => .int (i * j)) (tC (.int 5)) (tVar 15)) (tC (.int 30))) rfl nd rfl rfl (by rfl) (pi_range1 (by rfl) B.range (pa_cons (pe_op op_add pe_int (pe_op op_mul pe_int (pe_call D.ok hr1 (by rfl) D.at_ D.kp D.bd .nil pass0 (pa_cons (pv 1) (pa_cons pe_int pa_nil))))) pa_nil)) (blkOk_by (N := nLaw) (sc := defScope sLaw) (by decide +kernel)) (fun _ _ _ _ _ => pg_name (i := 15) nd rfl (Or.inl rfl)) (fun _ _ _ _ _ => pts_nil) (fun _ _ _ _ _ => pe_op op_sub (pe_op op_mul pe_int (pv 15)) pe_int)))) (pss_cons (ps_set (i := 3) nd rfl (.inr rfl) (pe_call Na.ok hr2 (by rfl) Na.at_ Na.kp Na.bd .nil pass0 (pa_cons (pv 1) (pa_cons (pe_call D.ok hr1 (by rfl) D.at_ D.kp D.bd .nil pass0 (pa_cons (pv 1) (pa_cons pe_int pa_nil))) pa_nil)))) (pss_one (ps_set (i := 4) nd rfl (.inl rfl) (pe_call Po.ok hr2 (by rfl) Po.at_ Po.kp Po.bd .nil pass0 (pa_cons (pv 1) (pa_cons (pe_op op_add pe_int (pe_call D.ok hr1 (by rfl) D.at_ D.kp D.bd .nil pass0 (pa_cons (pv 1) (pa_cons pe_int pa_nil)))) pa_nil)))))))
      (pss_cons (ps_set (i := 5) nd rfl (.inl rfl) (pe_call Sd.ok hr1 (by rfl) Sd.at_ Sd.kp Sd.bd .nil pass0 (pa_cons (pe_call Do.ok hr2 (by rfl) Do.at_ Do.kp Do.bd .nil pass0 (pa_cons (pv 1) (pa_cons (pv 3) (pa_cons (pv 4) (pa_cons (pe_ifExp (pt_val (pv 2)) pe_int pe_int) pa_nil))))) pa_nil)))
      (pss_cons (ps_if (PW.pt (pw_and (pt_cmpR op_gt (pe_callB call_len_seq (by rfl) B.len PySem.boot_len (pa_cons (pv 3) pa_nil)) pe_int rfl) (pw_and1 (pt_cmpR op_eq (pe_call D.ok hr1 (by rfl) D.at_ D.kp D.bd .nil pass0 (pa_cons (pv 1) (pa_cons pe_int pa_nil))) pe_int rfl)))) (pss_one (ps_dput hu (pv 5) (pe_ix ix_list (pv 3) (pe_call D.ok hr1 (by rfl) D.at_ D.kp D.bd .nil pass0 (pa_cons (pv 1) (pa_cons (pe_callB call_len_seq (by rfl) B.len PySem.boot_len (pa_cons (pv 3) pa_nil)) pa_nil))) (fun _ _ => rfl)) (pe_lst pa_nil) rfl)) pss_nil)
      (pss_cons (ps_set (i := 6) nd rfl (.inl rfl) (pe_call Tw.ok hr (by rfl) Tw.at_ Tw.kp Tw.bd .nil pass0 (pa_cons (pe_call T0.ok hr1 (by rfl) T0.at_ T0.kp T0.bd .nil pass0 (pa_cons (pv 0) (pa_cons pe_int pa_nil))) (pa_cons (pv 5) (pa_cons (pv 4) pa_nil)))))
      (pss_cons (ps_set (i := 1) nd rfl (.inr rfl) (pe_call T0.ok hr1 (by rfl) T0.at_ T0.kp T0.bd .nil pass0 (pa_cons (pv 0) (pa_cons pe_int pa_nil))))
      (pss_cons (ps_setLc (i := 7) (own := [("_law_k", 15)]) (g := gName 15) (tt := tYes) (te := tCall spDraw [] E0 (tCons (tVar 1) (tCons (tOp (rI0 fun i j => .int (i + j)) (tCB (fun xs H Q => ∃ p ys, xs = [.ref p] ∧ (SqL K H p ys ∨ SqT K H p ys) ∧ Q (.int ys.length) H) (tCons (tVar 3) tNil)) (tC (.int 1))) tNil))) rfl nd rfl rfl (by rfl) (pi_range1 (by rfl) B.range (pa_cons pe_int pa_nil)) (blkOk_by (N := nLaw) (sc := defScope sLaw) (by decide +kernel)) (fun _ _ _ _ _ => pg_name (i := 15) nd rfl (Or.inl rfl)) (fun _ _ _ _ _ => pts_nil) (fun _ _ _ _ _ => (pe_call D.ok hr1 (by rfl) D.at_ D.kp D.bd .nil pass0 (pa_cons (pv 1) (pa_cons (pe_op op_add (pe_callB call_len_seq (by rfl) B.len PySem.boot_len (pa_cons (pv 3) pa_nil)) pe_int) pa_nil)))))
      (pss_cons (ps_set (i := 8) nd rfl (.inl rfl) (pe_call Sy.ok hr2 (by rfl) Sy.at_ Sy.kp Sy.bd .nil pass0 (pa_cons (pe_ix ix_list (pv 6) pe_int (fun _ _ => rfl)) (pa_cons (pe_ix ix_list (pv 6) pe_int (fun _ _ => rfl)) (pa_cons (pv 5) pa_nil)))))
      (pss_cons (ps_if (pt_not (pt_val (pv 2))) (pss_one (ps_set (i := 8) nd rfl (.inl rfl) (pe_call Wk.ok hr2 (by rfl) Wk.at_ Wk.kp Wk.bd .nil pass0 (pa_cons (pe_ix ix_list (pv 6) pe_int (fun _ _ => rfl)) (pa_cons (pe_ix ix_list (pv 6) pe_int (fun _ _ => rfl)) (pa_cons (pv 5) pa_nil)))))) pss_nil)
      (pss_cons (ps_set (i := 9) nd rfl (.inl rfl) (pe_lst (pa_cons (pe_call Tn.ok hr1 (by rfl) Tn.at_ Tn.kp Tn.bd .nil pass0 (pa_cons (pe_ix ix_list (pv 6) pe_int (fun _ _ => rfl)) (pa_cons (pe_ix ix_list (pv 7) pe_int (fun _ _ => rfl)) pa_nil))) (pa_cons (pe_call Tn.ok hr1 (by rfl) Tn.at_ Tn.kp Tn.bd .nil pass0 (pa_cons (pe_ix ix_list (pv 6) pe_int (fun _ _ => rfl)) (pa_cons (pe_ix ix_list (pv 7) pe_int (fun _ _ => rfl)) pa_nil))) (pa_cons (pe_call Tn.ok hr1 (by rfl) Tn.at_ Tn.kp Tn.bd .nil pass0 (pa_cons (pv 5) (pa_cons (pe_ix ix_list (pv 7) pe_int (fun _ _ => rfl)) pa_nil))) pa_nil)))))
      (pss_cons (ps_setLc (i := 10) (own := [("_law_sides_here", 16)]) (g := gName 16) (tt := tYes) (te := tCall spTrn [] E0 (tCons (tVar 16) (tCons (tC (.int 0)) tNil))) rfl nd rfl rfl (by rfl) (pi_list (pv 9)) (blkOk_by (N := nLaw) (sc := defScope sLaw) (by decide +kernel)) (fun _ _ _ _ _ => pg_name (i := 16) nd rfl (Or.inl rfl)) (fun _ _ _ _ _ => pts_nil) (fun _ _ _ _ _ => (pe_call Tn.ok hr1 (by rfl) Tn.at_ Tn.kp Tn.bd .nil pass0 (pa_cons (pv 16) (pa_cons pe_int pa_nil)))))
      (pss_cons (ps_set (i := 11) nd rfl (.inl rfl) (pe_lst pa_nil))
      (pss_cons (ps_for PassesOwn.never rfl (pi_range1 (by rfl) B.range (pa_cons pe_int pa_nil)) (pg_name (i := 12) nd rfl (.inl rfl)) (pss_cons (ps_set (i := 13) nd rfl (.inl rfl) (pe_call Cv.ok hr3 (by rfl) Cv.at_ Cv.kp Cv.bd .nil pass0 (pa_cons (pe_ix ix_list (pv 10) pe_int (fun _ _ => rfl)) (pa_cons (pe_ix ix_list (pv 10) pe_int (fun _ _ => rfl)) (pa_cons (pe_ix ix_list (pv 10) pe_int (fun _ _ => rfl)) pa_nil))))) (pss_cons (ps_if (PW.pt (pw_or (pt_not (pt_val (pe_call Rg.ok hr2 (by rfl) Rg.at_ Rg.kp Rg.bd .nil pass0 (pa_cons (pv 13) (pa_cons (pe_ix ix_list (pv 6) pe_int (fun _ _ => rfl)) (pa_cons (pe_ix ix_list (pv 6) pe_int (fun _ _ => rfl)) (pa_cons (pv 5) (pa_cons (pv 8) pa_nil)))))))) (pw_or1 (pt_cmpR (r := rNeV K) (op_neV hu64) (pv 10) (pv 9) rfl)))) (pss_one (ps_ret pe_bl)) pss_nil) (pss_one (ps_expr (pe_bm PySem.F.plainAttrs_list PySem.F.slot_list_append PySem.F.type_list_append mt_append (pv 11) (pa_cons (pv 13) pa_nil)))))))
      (pss_cons (ps_setLc (i := 14) (own := [("_law_sides_here", 16)]) (g := gName 16) (tt := tYes) rfl nd rfl rfl (by rfl) (pi_list (pv 9)) (blkOk_by (N := nLaw) (sc := defScope sLaw) (by decide +kernel)) (fun _ _ _ _ _ => pg_name (i := 16) nd rfl (Or.inl rfl)) (fun _ _ _ _ _ => pts_nil) (fun _ _ _ _ _ => (pe_callTy (call_listD rfl) (by rfl) B.list PyProof.Rows.boot_list (pa_cons (pv 16) pa_nil))))
      (pss_one (ps_ret (pe_and (pe_cmpR (r := rEqT K) (op_eqT hu64) (pe_ix ix_list (pv 11) pe_int (fun _ _ => rfl)) (pe_ix ix_list (pv 11) pe_int (fun _ _ => rfl)) rfl) (pe_one (pe_cmpR (r := rEqV K) (op_eqV hu64) (pe_lc (own := [("_law_sides_here", 16)]) (g := gName 16) (tt := tYes) rfl nd (pi_list (pv 10)) (blkOk_by (N := nLaw) (sc := defScope sLaw) (by decide +kernel)) (fun _ _ _ _ _ => pg_name (i := 16) nd rfl (Or.inl rfl)) (fun _ _ _ _ _ => pts_nil) (fun _ _ _ _ _ => (pe_callTy (call_listD rfl) (by rfl) B.list PyProof.Rows.boot_list (pa_cons (pv 16) pa_nil)))) (pv 14) rfl))))))))))))))))))), ?_⟩
    refine ⟨.ref a, rfl, a, sc, 0, rfl, ha, fun H1 p s1 np st1 => ?_⟩
    have k1 : Keep p H H1 := Keep.same s1
    refine ⟨.ref p, rfl, p, 6, rfl, st1, by decide, by decide, fun H2 g o2 st2 g0 g1 => ⟨rfl, ?_⟩⟩
    generalize decide (V.int g = V.int 0) = lg
    have k2 := k1.oth o2
    refine' with_restS (fun σ H' => ∃ (nm pl : Addr) (xs : List Str) (ns : List Int), σ = [some (.ref a), some (.ref p), some (.bl lg), some (.ref nm), some (.ref pl), none, none, none, none, none, none, none, none, none, none, none, none] ∧ Keep p H H' ∧ Strm H' p ∧ (H' nm = some (.lst (xs.map V.str)) ∧ p ≠ nm) ∧ (H' pl = some (.lst (ns.map V.int)) ∧ p ≠ pl) ∧ (xs.Nodup ∧ (∀ x ∈ xs, PyData.strOk x = true) ∧ xs.length ≤ 20 ∧ (lg = false → xs.length ≤ 4)) ∧ Srt ns ∧ 1 ≤ ns.length ∧ ns.length ≤ 20) ?ra
      (fun rest => ⟨.bl lg, rfl, lg, rfl, ite_both (fun c => ?cgl) (fun c => ⟨.ref p, rfl, .ref p, rfl, p, 5, rfl, st2, by decide, by decide, fun H3 c o3 st3 c0 c1 => ⟨p, c.toNat, (by rw [Int.toNat_of_nonneg c0] <;> rfl), st3, by omega, fun H4 nm xs k4 nnm st4 enm xnd xlen xok => ⟨.ref p, rfl, .ref p, rfl, p, 3, rfl, st4, by decide, by decide, fun H5 b o5 st5 b0 b1 => ⟨2, b, rfl, rfl, p, (2 + b).toNat, (by rw [Int.toNat_of_nonneg (by omega)] <;> rfl), st5, by omega, by omega, fun H6 pl ns k6 npl st6 epl srt nlen => rest _ _ ?hs⟩⟩⟩⟩)⟩)
    case hs =>
      have pnm : p ≠ nm := fun z => st3.some (z ▸ nnm)
      have ppl : p ≠ pl := fun z => st5.some (z ▸ npl)
      exact ⟨nm, pl, xs, ns, rfl, ((((k2.oth o3).trans k4).oth o5).trans k6), st6, ⟨k6 _ _ pnm.symm ((o5 nm pnm.symm).trans enm), pnm⟩, ⟨epl, ppl⟩, ⟨xnd, xok, by omega, fun _ => by omega⟩, srt, by omega, by omega⟩
    case cgl =>
      have hlg := c
      clear c
      refine ⟨.ref p, rfl, p, 20, rfl, st2, by decide, by decide, fun H3 c o3 st3 c0 c1 => ⟨.ref p, rfl, p, 3, rfl, st3, by decide, by decide, fun H4 b o4 st4 b0 b1 => ⟨6, b, rfl, rfl, .inl ⟨by omega, by omega⟩, 8, 6 * b, rfl, rfl, c.toNat, (8 + 6 * b).toNat, ?_, by omega, by omega, fun H5 nm xs s5 nnm enm xnd xlen xok => ?_⟩⟩⟩
      · rw [Int.toNat_of_nonneg c0, Int.toNat_of_nonneg (by omega)] <;> rfl
      have st5 : Strm H5 p := by obtain ⟨x, y, z, e⟩ := st4; exact ⟨x, y, z, s5 _ _ e⟩
      have pnm : p ≠ nm := fun z => st4.some (z ▸ nnm)
      refine ⟨.ref p, rfl, p, 5, rfl, st5, by decide, by decide, fun H6 d o6 st6 d0 d1 => ⟨4, d, rfl, rfl, .inl ⟨by omega, by omega⟩, 4, 4 * d, rfl, rfl, 4 + 4 * d, rfl, by omega, by omega, fun R nR => ?_⟩⟩
      have npR : p ≠ R := fun z => st6.some (z ▸ nR)
      have k6 := ((((k2.oth o3).oth o4).trans (Keep.same s5)).oth o6)
      refine lc_range (lo := 0) (fun i H' => Same H6 H' ∧ H' R = some (.lst (((List.range i).map fun (k : Nat) => 5 * (k : Int) - 30).map V.int))) ⟨same_new nR, upd_same⟩ ?_ ?_
      · rintro i H' hi ⟨sm, eR⟩
        refine ⟨rfl, .int (0 + (i : Int)), rfl, 5, 0 + (i : Int), rfl, rfl, .inl ⟨by omega, by omega⟩, 5 * (0 + (i : Int)), 30, rfl, rfl, _, eR, ?_, same_at sm nR, ?_⟩
        · rw [List.length_map, List.length_map, List.length_range]; exact small1000 (by omega)
        · rw [upd_same, List.range_succ, List.map_append, List.map_append, Int.zero_add] <;> rfl
      · rintro H' ⟨sm, eR⟩
        refine rest _ _ ⟨nm, R, xs, _, rfl, k6.trans (Keep.same sm), ?_, ⟨sm _ _ ((o6 nm pnm.symm).trans enm), pnm⟩, ⟨eR, npR⟩, ⟨xnd, xok, by omega, (fun z => by rw [hlg] at z; cases z)⟩, ?_, by rw [List.length_map, List.length_range]; omega, by rw [List.length_map, List.length_range]; omega⟩
        · obtain ⟨x, y, z, e⟩ := st6; exact ⟨x, y, z, sm _ _ e⟩
        · unfold Srt
          rw [List.pairwise_map]
          exact List.pairwise_lt_range.imp fun h => by omega
    clear k1 k2 o2 st1 st2
    rintro σ H3 ⟨nm, pl, xs, ns, rfl, k3, st3, ⟨enm, pnm⟩, ⟨epl, ppl⟩, ⟨xnd, xok, xlen, xsm⟩, nsrt, n1, n20⟩
    refine' with_restS (fun σ H' => ∃ (t : Addr) (T : List Ent), σ = [some (.ref a), some (.ref p), some (.bl lg), some (.ref nm), some (.ref pl), some (.ref t), none, none, none, none, none, none, none, none, none, none, none] ∧ Keep p H3 H' ∧ Strm H' p ∧ Bu H' t T ∧ T.map (·.1) = xs ∧ (∀ e ∈ T, Srt e.2.2 ∧ e.2.2.length ≤ 20) ∧ (lg = false → ∀ e ∈ T, e.2.2.length ≤ 5) ∧ ∀ e ∈ T, e.2.1 ≠ p) ?rb
      (fun rest => ⟨.ref p, rfl, .ref nm, rfl, .ref pl, rfl, .bl lg, rfl, lg, rfl, ite_both
        (fun c => ⟨p, nm, pl, xs, ns, 20, rfl, st3, enm, epl, pnm, ppl, nsrt, n1, by omega, by omega, fun H5 dl ds k5 ndl st5 dm names dok _ => ⟨dl, ds, rfl, dm, by rw [names]; exact xnd, ?hlen, fun d hd => ?hsz, fun H6 t N s6 nb6 sh6 => rest _ _ ?h20⟩⟩)
        (fun c => ⟨p, nm, pl, xs, ns, 3, rfl, st3, enm, epl, pnm, ppl, nsrt, n1, by omega, by omega, fun H5 dl ds k5 ndl st5 dm names dok _ => ⟨dl, ds, rfl, dm, by rw [names]; exact xnd, ?hlen2, fun d hd => ?hsz2, fun H6 t N s6 nb6 sh6 => rest _ _ ?h3⟩⟩)⟩)
    case hlen => have := congrArg List.length names; rw [List.length_map] at this; omega
    case hlen2 => have := congrArg List.length names; rw [List.length_map] at this; omega
    case hsz => have := (dok d hd).2.1; omega
    case hsz2 => have := (dok d hd).2.1; omega
    case h20 =>
      refine ⟨t, N, rfl, k5.trans (Keep.same s6), (by obtain ⟨x, y, z, e⟩ := st5; exact ⟨x, y, z, s6 _ _ e⟩), nb6.toBu, ?_, fun e he => ?_, fun z => (by rw [c] at z; cases z), fun e he z => st5.some (z ▸ nb6.freshS e he)⟩
      · have h1 := congrArg (List.map Prod.fst) sh6
        rw [List.map_map, List.map_map] at h1
        exact h1.trans names
      · have h1 : (e.1, e.2.2) ∈ shape N := List.mem_map_of_mem (f := fun e : Ent => (e.1, e.2.2)) he
        rw [sh6] at h1
        obtain ⟨d, hd, q⟩ := List.mem_map.mp h1
        obtain ⟨_, e2⟩ := Prod.mk.inj q
        have := dok d hd
        rw [← e2]
        exact ⟨this.1, by have := this.2.1; omega⟩
    case h3 =>
      have small : ∀ e ∈ N, Srt e.2.2 ∧ e.2.2.length ≤ 3 := fun e he => by
        have h1 : (e.1, e.2.2) ∈ shape N := List.mem_map_of_mem (f := fun e : Ent => (e.1, e.2.2)) he
        rw [sh6] at h1
        obtain ⟨d, hd, q⟩ := List.mem_map.mp h1
        obtain ⟨_, e2⟩ := Prod.mk.inj q
        have := dok d hd
        rw [← e2]
        exact ⟨this.1, by have := this.2.1; omega⟩
      refine ⟨t, N, rfl, k5.trans (Keep.same s6), (by obtain ⟨x, y, z, e⟩ := st5; exact ⟨x, y, z, s6 _ _ e⟩), nb6.toBu, ?_, fun e he => ⟨(small e he).1, by have := (small e he).2; omega⟩, fun _ e he => by have := (small e he).2; omega, fun e he z => st5.some (z ▸ nb6.freshS e he)⟩
      have h1 := congrArg (List.map Prod.fst) sh6
      rw [List.map_map, List.map_map] at h1
      exact h1.trans names
    rintro σ H6 ⟨t, T0, rfl, k6, st6, bt6, kT0, sz0, sm0, aw0⟩
    have enm6 := k6 _ _ pnm.symm enm
    refine' with_restS (fun σ H' => ∃ (T : List Ent), σ = [some (.ref a), some (.ref p), some (.bl lg), some (.ref nm), some (.ref pl), some (.ref t), none, none, none, none, none, none, none, none, none, none, none] ∧ SqL K H' a (sc.map V.int) ∧ H' nm = some (.lst (xs.map V.str)) ∧ H' pl = some (.lst (ns.map V.int)) ∧ Bu H' t T ∧ T.map (·.1) = xs ∧ (∀ e ∈ T, Srt e.2.2 ∧ e.2.2.length ≤ 20) ∧ (lg = false → ∀ e ∈ T, e.2.2.length ≤ 5)) ?rc
      (fun rest => ⟨.ref nm, rfl, nm, _, rfl, .inl (sl_map enm6), _, 0, rfl, rfl, _, rfl, ite_both (fun c => ⟨.ref p, rfl, p, 10, rfl, st6, by decide, by decide, fun H7 d o7 st7 d0 d1 => ⟨rfl, _, rfl, ite_both (fun c2 => ?cgp) (fun _ => rest _ _ ⟨T0, rfl, sq_keep ha np ((k3.trans k6).oth o7), (o7 nm pnm.symm).trans enm6, (o7 pl ppl.symm).trans (k6 _ _ ppl.symm epl), bt6.keep st6 ((Keep.refl p H6).oth o7) aw0, kT0, sz0, sm0⟩)⟩⟩) (fun c => iteF (rest _ _ ⟨T0, rfl, sq_keep ha np (k3.trans k6), enm6, k6 _ _ ppl.symm epl, bt6, kT0, sz0, sm0⟩))⟩)
    case cgp =>
      have bt7 := bt6.keep st6 ((Keep.refl p H6).oth o7) aw0
      have enm7 := (o7 nm pnm.symm).trans enm6
      have epl7 := (o7 pl ppl.symm).trans (k6 _ _ ppl.symm epl)
      refine ⟨by show 0 ≤ sizeLine; decide, fun l nl => ?_⟩
      have npl : p ≠ l := fun z => st7.some (z ▸ nl)
      have sl := same_new (o := HO.lst []) nl
      have st8 := st7.upd (o := HO.lst []) npl
      have el8 := upd_same (H := H7) (a := l) (o := HO.lst [])
      generalize upd H7 l (.lst []) = H8 at sl st8 el8 ⊢
      have lpos : (0 : Int) < ((xs.map V.str).length : Nat) := of_decide_eq_true c
      have lsm : (((xs.map V.str).length : Nat) : Int) < 1073741824 := by rw [List.length_map]; omega
      refine ⟨.ref t, rfl, .ref nm, rfl, .ref p, rfl, .ref nm, rfl, nm, _, rfl, .inl (sl_map (sl _ _ enm7)), p, _, rfl, st8, lpos, lsm, fun H9 j o9 st9 j0 j1 => ?_⟩
      obtain ⟨x, xin, hx⟩ := pickS j0 j1
      have bt9 := (bt7.same' sl).keep st8 ((Keep.refl p H8).oth o9) aw0
      have el9 := (o9 l npl.symm).trans el8
      have ntl : t ≠ l := fun z => by have := bt9.un; rw [z, el9] at this; cases this
      have lT : T0.length ≤ 20 := by have := congrArg List.length kT0; rw [List.length_map] at this; omega
      refine ⟨nm, _, j, .str x, rfl, rfl, sl_map ((o9 nm pnm.symm).trans (sl _ _ enm7)), hx, t, _, rfl, DPut.k (k := .inr x) bt9.un (by rw [entK_len]; exact small1000 (by omega)), ?_⟩
      rw [putK_ent (s := [])]
      have tnm : nm ≠ t := fun z => by have := (o9 nm pnm.symm).trans (sl _ _ enm7); rw [z, bt9.un] at this; cases this
      have tpl : pl ≠ t := fun z => by have := (o9 pl ppl.symm).trans (sl _ _ epl7); rw [z, bt9.un] at this; cases this
      refine rest _ _ ⟨putE T0 x l [], rfl, ?_, by rw [upd_ne tnm]; exact (o9 nm pnm.symm).trans (sl _ _ enm7), by rw [upd_ne tpl]; exact (o9 pl ppl.symm).trans (sl _ _ epl7), ⟨⟨.inl upd_same, fun e he => ?_, putE_nd bt9.nd, by have := putE_len T0 x l []; omega⟩, upd_same⟩, by rw [put_keys (by rw [kT0]; exact xin)]; exact kT0, fun e he => ?_, fun z e he => ?_⟩
      · have h9 := sq_keep ha np ((((k3.trans k6).oth o7).trans (Keep.same sl)).oth o9)
        have ap : ∀ o, H9 a = some o → (∀ kk, o ≠ .dK kk) → a ≠ t := fun o e nk z => by rw [z, bt9.un] at e; exact nk _ (Option.some.inj e).symm
        rcases h9 with (h | ⟨o, h⟩) | h
        · exact .inl (.inl (by rw [upd_ne (ap _ h (fun _ z => nomatch z))]; exact h))
        · exact .inl (.inr ⟨o, by rw [upd_ne (ap _ h (fun _ z => nomatch z))]; exact h⟩)
        · exact .inr h
      · rcases putE_mem he with z | ⟨z, _⟩
        · rw [z, upd_ne ntl.symm]; exact el9
        · have h1 := bt9.sides e z
          have : e.2.1 ≠ t := fun w => by rw [w, bt9.un] at h1; cases h1
          rw [upd_ne this]; exact h1
      · rcases putE_mem he with z | ⟨z, _⟩
        · rw [z]; exact ⟨List.Pairwise.nil, Nat.zero_le _⟩
        · exact sz0 e z
      · rcases putE_mem he with w | ⟨w, _⟩
        · rw [w]; exact Nat.zero_le _
        · exact sm0 z e w
    clear enm6 aw0 sm0 sz0 kT0 bt6 st6 k6 epl enm k3 st3 s1 np ha
    rintro σ H9 ⟨T, rfl, ha9, enm9, epl9, bt9, kT, tsz, tsm⟩
    have tlen : T.length ≤ 20 := by have := congrArg List.length kT; rw [List.length_map] at this; omega
    have tok : ∀ e ∈ T, PyData.strOk e.1 = true := fun e he => xok _ (kT ▸ List.mem_map_of_mem he)
    -- the two boxes
    refine ⟨.ref a, rfl, a, sc, 1, rfl, ha9, fun H10 p1 s10 np1 st10 => ?_⟩
    have aw1 : ∀ e ∈ T, e.2.1 ≠ p1 := fun e he z => by have := bt9.sides e he; rw [z, np1] at this; cases this
    have ppl1 : p1 ≠ pl := fun z => by rw [← z, np1] at epl9; cases epl9
    refine ⟨.ref t, rfl, .ref pl, rfl, p1, t, pl, T, ns, rfl, st10, bt9.same' s10, aw1, s10 _ _ epl9, ppl1, by omega, by omega, fun e he => by have := (tsz e he).2; omega, fun H11 l b1 b2 Fm Gm k11 st11 el bF bG kF kG zF zG => ?_⟩
    have S11 : Same H9 H11 := keep_fresh ((Keep.same s10).trans k11) np1
    have ha11 := S11.seq ha9
    have enm11 := S11 _ _ enm9
    have bT := bt9.same' S11
    clear k11 s10 st10 st11 aw1 ppl1 np1 S11 ha9 enm9 epl9 bt9
    have oF := over_of bF kF
    have oG := over_of bG kG
    -- the shifts
    refine ⟨.ref a, rfl, a, sc, 2, rfl, ha11, fun H12 p2 s12 np2 st12 => ?_⟩
    have pnm2 : p2 ≠ nm := fun z => by rw [← z, np2] at enm11; cases enm11
    refine ⟨3, rfl, by decide, by decide, fun R nR => ?_⟩
    have npR : p2 ≠ R := fun z => st12.some (z ▸ nR)
    refine lc_range (lo := 0) (fun i H' => Keep p2 H12 H' ∧ Strm H' p2 ∧ ∃ ss : List Nat, ss.length = i ∧ H' R = some (.lst (ss.map fun n : Nat => V.int (n : Int)))) ⟨(Keep.refl p2 H12).at_ nR, st12.upd npR, [], rfl, upd_same⟩ ?_ ?_
    · rintro i H' hi ⟨kk, st, ss, lss, eR⟩
      refine ⟨rfl, .ref p2, rfl, .ref nm, rfl, nm, _, rfl, .inl (sl_map (kk _ _ pnm2.symm (s12 _ _ enm11))), _, 1, rfl, rfl, p2, _, rfl, st, by omega, by rw [List.length_map]; omega, fun H4 d o4 st4 d0 d1 => ?_⟩
      have i3 : i < 3 := hi
      refine ⟨_, (o4 R npR.symm).trans eR, by rw [List.length_map]; exact small1000 (by omega), (kk.oth o4).at_ nR, st4.upd npR, ss ++ [d.toNat], by rw [List.length_append, lss] <;> rfl, ?_⟩
      rw [upd_same, List.map_append]
      show _ = some (HO.lst (_ ++ [V.int ((d.toNat : Nat) : Int)]))
      rw [Int.toNat_of_nonneg d0]
    rintro H13 ⟨kk, st13, ss, lss, eR⟩
    obtain ⟨n0, n1', n2, rfl⟩ : ∃ a b c, ss = [a, b, c] := by
      have l3 : ss.length = 3 := lss
      match ss, l3 with
      | [a, b, c], _ => exact ⟨a, b, c, rfl⟩
    have S13 : Same H11 H13 := keep_fresh ((Keep.same s12).trans kk) np2
    have el := S13 _ _ el
    have bF := bF.same' S13
    have bG := bG.same' S13
    have bT := bT.same' S13
    clear kk s12 st12 st13 np2 S13 enm11 ha11 pnm2 npR nR lss
    -- the word
    refine ⟨.ref l, rfl, l, _, _, .ref b1, rfl, rfl, sl_map el, atI_nat (j := 0) rfl, .ref l, rfl, l, _, _, .ref b2, rfl, rfl, sl_map el, atI_nat (j := 1) rfl, .ref t, rfl, b1, b2, t, Fm, Gm, T, rfl, bF, bG, bT, oF, oG, (fun e he => by have := (tsz e he).2; omega), tok, fun H14 w1 s14 iw1 => ?_⟩
    have el4 := s14 _ _ el
    refine' with_restS (fun σ H' => ∃ wd : Str, σ = [some (.ref a), some (.ref p2), some (.bl lg), some (.ref nm), some (.ref pl), some (.ref t), some (.ref l), some (.ref R), some (.str wd), none, none, none, none, none, none, none, none] ∧ Same H13 H' ∧ IsWord T Fm Gm wd) ?rd
      (fun rest => ⟨.bl lg, rfl, lg, rfl, ite_both (fun c => ?cgw) (fun _ => rest _ _ ⟨w1, rfl, s14, iw1⟩)⟩)
    case cgw =>
      have lgf : lg = false := by cases lg with | false => rfl | true => cases c
      exact ⟨.ref l, rfl, l, _, _, .ref b1, rfl, rfl, sl_map el4, atI_nat (j := 0) rfl, .ref l, rfl, l, _, _, .ref b2, rfl, rfl, sl_map el4, atI_nat (j := 1) rfl, .ref t, rfl, b1, b2, t, Fm, Gm, T, rfl, bF.same' s14, bG.same' s14, bT.same' s14, oF, oG, (by have h1 := congrArg List.length kT; rw [List.length_map] at h1; have := xsm lgf; omega), tsm lgf, fun H15 w2 s15 iw2 => rest _ _ ⟨w2, rfl, s14.trans s15, iw2⟩⟩
    clear el4 iw1 s14 w1 H14
    rintro σ H15 ⟨wd, rfl, s15, iw⟩
    have el := s15 _ _ el
    have eR := s15 _ _ eR
    have bF := bF.same' s15
    have bG := bG.same' s15
    have bT := bT.same' s15
    clear s15
    -- turned
    refine ⟨.ref l, rfl, l, _, _, .ref b1, rfl, rfl, sl_map el, atI_nat (j := 0) rfl, .ref R, rfl, R, _, _, .int (n0 : Int), rfl, rfl, sl_map eR, atI_nat (j := 0) rfl, b1, n0, Fm, rfl, bF, fun H16 c0 N0 s16 nb0 h0 => ?_⟩
    refine ⟨.ref l, rfl, l, _, _, .ref b2, rfl, rfl, sl_map (s16 _ _ el), atI_nat (j := 1) rfl, .ref R, rfl, R, _, _, .int (n1' : Int), rfl, rfl, sl_map (s16 _ _ eR), atI_nat (j := 1) rfl, b2, n1', Gm, rfl, bG.same' s16, fun H17 c1 N1 s17 nb1 h1 => ?_⟩
    have s17' := s16.trans s17
    refine ⟨.ref t, rfl, .ref R, rfl, R, _, _, .int (n2 : Int), rfl, rfl, sl_map (s17' _ _ eR), atI_nat (j := 2) rfl, t, n2, T, rfl, bT.same' s17', fun H18 c2 N2 s18 nb2 h2 => ⟨by show 3 ≤ sizeLine; decide, fun kl nkl => ?_⟩⟩
    have s18' := s17'.trans s18
    have skl := same_new (o := HO.lst [V.ref c0, V.ref c1, V.ref c2]) nkl
    obtain ⟨Ks, eKs⟩ : ∃ Ks : List (Addr × List Ent), Ks = [(c0, N0), (c1, N1), (c2, N2)] := ⟨_, rfl⟩
    have exs : [V.ref c0, V.ref c1, V.ref c2] = Ks.map fun k => V.ref k.1 := by rw [eKs] <;> rfl
    have klen : Ks.length = 3 := by rw [eKs] <;> rfl
    have kb : ∀ k ∈ Ks, Bu (upd H18 kl (.lst [V.ref c0, V.ref c1, V.ref c2])) k.1 k.2 := fun k hk => by
      rw [eKs] at hk
      rcases List.mem_cons.mp hk with z | hk
      · rw [z]; exact (((nb0.push s17).push s18).toBu).same' skl
      rcases List.mem_cons.mp hk with z | hk
      · rw [z]; exact ((nb1.push s18).toBu).same' skl
      rw [List.mem_singleton.mp hk]; exact (nb2.toBu).same' skl
    have kk0 : Ks[0]? = some (c0, N0) := by rw [eKs] <;> rfl
    have kk1 : Ks[1]? = some (c1, N1) := by rw [eKs] <;> rfl
    have kk2 : Ks[2]? = some (c2, N2) := by rw [eKs] <;> rfl
    have el := (s18'.trans skl) _ _ el
    have bF := bF.same' (s18'.trans skl)
    have bG := bG.same' (s18'.trans skl)
    have bT := bT.same' (s18'.trans skl)
    have ekl := upd_same (H := H18) (a := kl) (o := HO.lst [V.ref c0, V.ref c1, V.ref c2])
    have nds0 : (N0.map (·.1)).Nodup := nb0.nd
    have nds1 : (N1.map (·.1)).Nodup := nb1.nd
    have nds2 : (N2.map (·.1)).Nodup := nb2.nd
    rw [exs] at kb ekl el bF bG bT ⊢
    generalize upd H18 kl (.lst (Ks.map fun k => V.ref k.1)) = H19 at kb ekl el bF bG bT ⊢
    clear s16 s17 s18 s17' s18' skl nb0 nb1 nb2 exs nkl eR
    refine ⟨.ref kl, rfl, kl, rfl, ⟨_, sl_map ekl⟩, fun R2 nR2 => lc_list (xs := Ks.map fun k => V.ref k.1) (fun i H' => Same H19 H' ∧ ∃ ps : List (Addr × List Ent), H' R2 = some (.lst (ps.map fun k => V.ref k.1)) ∧ ps.length = i ∧ (∀ r ∈ ps, Bu H' r.1 r.2 ∧ ∀ e ∈ r.2, e.2.1 ≠ R2) ∧ (ps.map (·.1)).Nodup ∧ ∀ (j : Nat) (r k : Addr × List Ent), ps[j]? = some r → Ks[j]? = some k → shape r.2 = shape k.2)
      ⟨same_new nR2, [], upd_same, rfl, (fun _ h => nomatch h), List.Pairwise.nil, fun j r k h => absurd ((List.getElem?_nil (α := Addr × List Ent) (i := j)).symm.trans h) (by simp)⟩ (fun i H' _ h => sl_map (h.1 _ _ ekl)) ?_ ?_⟩
    · rintro i x H' hx ⟨sm, ps, eP, lps, pb, pnd, psh⟩
      rw [List.getElem?_map] at hx
      obtain ⟨k, hk, rfl⟩ := Option.map_eq_some_iff.mp hx
      have km := List.mem_of_getElem? hk
      have hi := (List.getElem?_eq_some_iff.mp hk).1
      refine ⟨rfl, .ref k.1, rfl, k.1, 0, k.2, rfl, (kb k km).same' sm, fun H5 b N s5 nb5 h5 => ⟨_, s5 _ _ eP, by rw [List.length_map]; exact small1000 (by omega), same_at (sm.trans s5) nR2, ps ++ [(b, N)], by rw [upd_same, List.map_append] <;> rfl, by rw [List.length_append, lps] <;> rfl, fun r hr => ?_, ?_, fun j r k2 hj hk2 => ?_⟩⟩
      · have other : ∀ {d : Addr} {M : List Ent}, Bu H5 d M → (∀ e ∈ M, e.2.1 ≠ R2) → Bu (upd H5 R2 (.lst ((ps.map fun k => V.ref k.1) ++ [V.ref b]))) d M := fun {d M} B f => by
          have dR : d ≠ R2 := fun z => by have := B.un; rw [z, s5 _ _ eP] at this; cases this
          exact ⟨⟨.inl (by rw [upd_ne dR]; exact B.un), fun e he => by rw [upd_ne (f e he)]; exact B.sides e he, B.nd, B.few⟩, by rw [upd_ne dR]; exact B.un⟩
        rcases List.mem_append.mp hr with z | z
        · obtain ⟨h1, h2⟩ := pb r z
          exact ⟨other (h1.same' s5) h2, h2⟩
        · rw [List.mem_singleton.mp z]
          have f : ∀ e ∈ N, e.2.1 ≠ R2 := fun e he w => by have := nb5.freshS e he; rw [w, eP] at this; cases this
          exact ⟨other nb5.toBu f, f⟩
      · rw [List.map_append]
        refine nd_snoc pnd fun z => ?_
        obtain ⟨r, hr, e⟩ := List.mem_map.mp z
        have h1 := (pb r hr).1.un
        have h2 := nb5.fresh
        rw [e] at h1
        rw [show b = (b, N).1 from rfl] at h2
        rw [h1] at h2; cases h2
      · rcases Nat.lt_or_ge j i with h | h
        · rw [List.getElem?_append_left (by omega)] at hj
          exact psh j r k2 hj hk2
        · rw [List.getElem?_append_right (by omega)] at hj
          have ej : j = i := by
            have := (List.getElem?_eq_some_iff.mp hj).1
            rw [List.length_singleton] at this
            omega
          subst ej
          rw [show j - ps.length = 0 by omega] at hj
          obtain rfl := Option.some.inj hj
          obtain rfl := Option.some.inj (hk.symm.trans hk2)
          rw [h5, List.drop_zero, List.take_zero, List.append_nil]
    rintro H20 ⟨s20, ps, eP, lps, pb, pnd, psh⟩
    rw [List.length_map, klen] at lps
    obtain ⟨q0, q1, q2, rfl⟩ : ∃ a b c, ps = [a, b, c] := by
      match ps, lps with
      | [a, b, c], _ => exact ⟨a, b, c, rfl⟩
    have g0 := psh 0 _ _ rfl kk0
    have g1 := psh 1 _ _ rfl kk1
    have g2 := psh 2 _ _ rfl kk2
    subst eKs
    have g0 : shape q0.2 = shape N0 := g0
    have g1 : shape q1.2 = shape N1 := g1
    have g2 : shape q2.2 = shape N2 := g2
    have b0 := (pb q0 (by simp)).1
    have b1' := (pb q1 (by simp)).1
    have b2' := (pb q2 (by simp)).1
    have ne02 : q0.1 ≠ q2.1 := by
      have := pnd
      simp at this
      exact this.1.2
    have ne12 : q1.1 ≠ q2.1 := by
      have := pnd
      simp at this
      exact this.2
    have kb0 := (kb (c0, N0) (by simp)).same' s20
    have kb1 := (kb (c1, N1) (by simp)).same' s20
    have kb2 := (kb (c2, N2) (by simp)).same' s20
    have bF := bF.same' s20
    have bG := bG.same' s20
    have bT := bT.same' s20
    have el := s20 _ _ el
    have ekl : H20 kl = some (.lst [V.ref c0, V.ref c1, V.ref c2]) := s20 _ _ ekl
    have eP : H20 R2 = some (.lst [V.ref q0.1, V.ref q1.1, V.ref q2.1]) := eP
    clear pb pnd kb s20 psh klen kk0 kk1 kk2 nR2
    have tt := turn_of (g2.trans h2)
    have tF := turn_of (g0.trans h0)
    have tG := turn_of (g1.trans h1)
    have sF : SameB q0.2 Fm := same_of tF bF.nd b0.nd
    have sG : SameB q1.2 Gm := same_of tG bG.nd b1'.nd
    have look_has : ∀ {M M' : List Ent}, SameB M' M → Over T M → ∀ e ∈ q2.2, ∃ s, look M' e.1 = some s := fun s o e he => by
      obtain ⟨g, hg, e1, _⟩ := tt.get he
      obtain ⟨r, hr⟩ := o.has g hg
      rw [e1] at hr
      exact ⟨r.2.2, by rw [s e.1]; unfold look; rw [hr] <;> rfl⟩
    have srt2 : ∀ e ∈ q2.2, Srt e.2.2 ∧ e.2.2.length ≤ 31 := tt.size (p := fun s => Srt s ∧ s.length ≤ 31) fun e he => ⟨(tsz e he).1, by have := (tsz e he).2; omega⟩
    have cF : Cov q2.2 q0.2 := ⟨srt2, tF.size (p := fun s => s.length ≤ 31) zF, look_has sF oF⟩
    have cG : Cov q2.2 q1.2 := ⟨srt2, tG.size (p := fun s => s.length ≤ 31) zG, look_has sG oG⟩
    have right := right_cov tt sF sG b2'.nd bT.nd (len_of (g2.trans h2)) oF oG
    have wde := iw.one (word_turn tt sF sG (word_cov q2.2 q0.2 q1.2))
    obtain ⟨an, han⟩ : ∃ an, an = covF q2.2 q0.2 q1.2 := ⟨_, rfl⟩
    rw [← han] at right wde
    subst wde
    refine ⟨by show 0 ≤ sizeLine; decide, fun ad nad => ?_⟩
    have sad := same_new (o := HO.lst []) nad
    have ead := upd_same (H := H20) (a := ad) (o := HO.lst [])
    have up : ∀ {d : Addr} {M : List Ent}, Bu H20 d M → ∀ {H' : Hp}, KeepL [ad] (upd H20 ad (.lst [])) H' → Bu H' d M := fun {d M} B {H'} k =>
      (B.same' sad).keepL k (fun z => by have e0 := List.mem_singleton.mp z; have := B.un; rw [e0, nad] at this; cases this) fun e he z => by have := B.sides e he; rw [List.mem_singleton.mp z, nad] at this; cases this
    have lup : ∀ {d : Addr} {xs : List V}, H20 d = some (.lst xs) → ∀ {H' : Hp}, KeepL [ad] (upd H20 ad (.lst [])) H' → H' d = some (.lst xs) := fun {d xs} e {H'} k => k _ _ (fun z => by rw [List.mem_singleton.mp z, nad] at e; cases e) (sad _ _ e)
    generalize upd H20 ad (.lst []) = HB at ead up lup ⊢
    clear sad nad
    refine ⟨2, rfl, by decide, by decide, for_range (lo := 0) (n := ((2 : Int)).toNat) (fun i σ H' => ∃ (y12 y13 : Option V) (as : List Addr), σ = [some (.ref a), some (.ref p2), some (.bl lg), some (.ref nm), some (.ref pl), some (.ref t), some (.ref l), some (.ref R), some (.str (wordA an)), some (.ref kl), some (.ref R2), some (.ref ad), y12, y13, none, none, none] ∧ KeepL [ad] HB H' ∧ H' ad = some (.lst (as.map V.ref)) ∧ as.length = i ∧ ∀ r ∈ as, AnsAt H' r an)
      ⟨none, none, [], rfl, KeepL.refl _ _, ead, rfl, (fun _ h => nomatch h)⟩ ?_ ?_⟩
    · rintro i σ H' hi ⟨y12, y13, as, rfl, kH, ea, la, an5⟩
      have i2 : i < 2 := hi
      have eP' := lup eP kH
      refine ⟨.ref R2, rfl, R2, _, _, .ref q0.1, rfl, rfl, sl_map eP', atI_nat (j := 0) rfl, .ref R2, rfl, R2, _, _, .ref q1.1, rfl, rfl, sl_map eP', atI_nat (j := 1) rfl, .ref R2, rfl, R2, _, _, .ref q2.1, rfl, rfl, sl_map eP', atI_nat (j := 2) rfl, q0.1, q1.1, q2.1, q2.2, q0.2, q1.2, rfl, up b0 kH, up b1' kH, up b2' kH, ne02, ne12, cF, cG, fun H5 r s5 nr ans5 fr5 => ?_⟩
      rw [← han] at ans5
      have el5 := s5 _ _ (lup el kH)
      have off : ∀ {d : Addr} {M : List Ent}, Bu H' d M → ∀ {x : Addr}, H' x = none → x ≠ d := fun {d M} B {x} n z => by have := B.un; rw [← z, n] at this; cases this
      refine ⟨.ref r, rfl, .ref l, rfl, l, _, _, .ref b1, rfl, rfl, sl_map el5, atI_nat (j := 0) rfl, .ref l, rfl, l, _, _, .ref b2, rfl, rfl, sl_map el5, atI_nat (j := 1) rfl, .ref t, rfl, .str (wordA an), rfl, r, b1, b2, t, Fm, Gm, T, an, rfl, ans5, (up bF kH).same' s5, (up bG kH).same' s5, (up bT kH).same' s5, oF, oG, right, (fun d hd => ⟨off (up bF kH) (fr5 d hd), off (up bG kH) (fr5 d hd), off (up bT kH) (fr5 d hd)⟩), fun H6 s6 => ⟨true, rfl, iteF ?_⟩⟩
      have s56 := s5.trans s6
      have w3 : ∀ {d d' : Addr} {M M' : List Ent}, Bu H20 d M → Bu H20 d' M' → shape M = shape M' → EqV K H6 3 (.ref d) (.ref d') := fun B B' h => .inr (.inr (eqB ((up B kH).same' s56) ((up B' kH).same' s56) (shape_same h)))
      refine ⟨.ref R2, rfl, .ref kl, rfl, R2, kl, _, _, rfl, rfl, sl_map (s56 _ _ eP'), sl_map (s56 _ _ (lup ekl kH)), ⟨3, by decide, paired3 (w3 b0 kb0 g0) (w3 b1' kb1 g1) (w3 b2' kb2 g2)⟩, _, rfl, iteF ?_⟩
      have ea6 := s56 _ _ ea
      refine ⟨.ref ad, rfl, .inl ⟨rfl, _, sl_map ea6⟩, .ref r, rfl, ad, _, _, rfl, rfl, ea6, by rw [List.length_map]; exact small1000 (by omega), ?_⟩
      have notl : ∀ {Hx : Hp} {b : Addr} {o : HO}, Same Hx H6 → Hx b = some o → (∀ l, o ≠ HO.lst l) → b ≠ ad := fun sx e n z => by have := sx _ _ e; rw [z, ea6] at this; exact n _ (Option.some.inj this).symm
      refine ⟨_, _, as ++ [r], rfl, fun b o hb e => by rw [upd_ne (fun z => hb (by simp [z]))]; exact s56 _ _ (kH b o hb e), by rw [upd_same, List.map_append] <;> rfl, by rw [List.length_append, la] <;> rfl, fun r2 hr2 => ?_⟩
      rcases List.mem_append.mp hr2 with z | z
      · exact (an5 r2 z).keep fun b o n e => by rw [upd_ne (notl s56 e n)]; exact s56 _ _ e
      · rw [List.mem_singleton.mp z]
        exact ans5.keep fun b o n e => by rw [upd_ne (notl s6 e n)]; exact s6 _ _ e
    rintro σ H21 ⟨y12, y13, as, rfl, kH, ea, la, an5⟩
    obtain ⟨r0, r1, rfl⟩ : ∃ x y, as = [x, y] := by
      have l2 : as.length = 2 := la
      match as, l2 with
      | [x, y], _ => exact ⟨x, y, rfl⟩
    have ekl' := lup ekl kH
    have eP' := lup eP kH
    have ea : H21 ad = some (.lst [V.ref r0, V.ref r1]) := ea
    have A0 := an5 r0 (by simp)
    have A1 := an5 r1 (by simp)
    have kb0 := up kb0 kH
    have kb1 := up kb1 kH
    have kb2 := up kb2 kH
    have b0 := up b0 kH
    have b1' := up b1' kH
    have b2' := up b2' kH
    refine ⟨.ref kl, rfl, kl, rfl, ⟨_, sl_map ekl'⟩, fun L nL => lc_list (xs := [V.ref c0, V.ref c1, V.ref c2]) (fun i H7 => Same H21 H7 ∧ ∃ ls : List Addr, H7 L = some (.lst (ls.map V.ref)) ∧ ls.length = i ∧ ∀ (j : Nat) (c : Addr) (k : Addr × List Ent), ls[j]? = some c → ([(c0, N0), (c1, N1), (c2, N2)] : List (Addr × List Ent))[j]? = some k → H7 c = some (.lst ((k.2.map (·.1)).map V.str)) ∧ c ≠ L)
      ⟨same_new nL, [], upd_same, rfl, fun j c k h => absurd ((List.getElem?_nil (α := Addr) (i := j)).symm.trans h) (by simp)⟩ (fun i H7 _ h => sl_map (h.1 _ _ ekl')) ?_ ?_⟩
    · rintro i x H7 hx ⟨sm, ls, eL, ll, lk⟩
      have i3 : i < 3 := (List.getElem?_eq_some_iff.mp hx).1
      obtain ⟨k, hk, bk, hx2⟩ : ∃ k : Addr × List Ent, ([(c0, N0), (c1, N1), (c2, N2)] : List (Addr × List Ent))[i]? = some k ∧ Bu H21 k.1 k.2 ∧ x = V.ref k.1 := by
        match i, i3, hx with
        | 0, _, hx => exact ⟨_, rfl, kb0, (Option.some.inj hx).symm⟩
        | 1, _, hx => exact ⟨_, rfl, kb1, (Option.some.inj hx).symm⟩
        | 2, _, hx => exact ⟨_, rfl, kb2, (Option.some.inj hx).symm⟩
      subst hx2
      refine ⟨rfl, .ref k.1, rfl, k.1, _, rfl, .inl (bk.same' sm).un, fun c nc => ?_⟩
      rw [keysV]
      have sc2 := same_new (o := HO.lst ((k.2.map (·.1)).map V.str)) nc
      have cL : c ≠ L := fun z => by rw [z, eL] at nc; cases nc
      refine ⟨_, sc2 _ _ eL, by rw [List.length_map]; exact small1000 (by omega), same_at (sm.trans sc2) nL, ls ++ [c], by rw [upd_same, List.map_append] <;> rfl, by rw [List.length_append, ll] <;> rfl, fun j c2 k2 hj hk2 => ?_⟩
      rcases Nat.lt_or_ge j i with h | h
      · rw [List.getElem?_append_left (by omega)] at hj
        obtain ⟨h1, h2⟩ := lk j c2 k2 hj hk2
        exact ⟨by rw [upd_ne h2]; exact sc2 _ _ h1, h2⟩
      · rw [List.getElem?_append_right (by omega)] at hj
        have ej : j = i := by
          have := (List.getElem?_eq_some_iff.mp hj).1
          rw [List.length_singleton] at this
          omega
        subst ej
        rw [show j - ls.length = 0 by omega] at hj
        obtain rfl := Option.some.inj hj
        obtain rfl := Option.some.inj (hk.symm.trans hk2)
        exact ⟨by rw [upd_ne cL, upd_same], cL⟩
    rintro H22 ⟨sL, lsL, eL, llL, lkL⟩
    have ll3 : lsL.length = 3 := llL
    obtain ⟨x0, x1, x2, rfl⟩ : ∃ x y z, lsL = [x, y, z] := by
      match lsL, ll3 with
      | [x, y, z], _ => exact ⟨x, y, z, rfl⟩
    have f0 := (lkL 0 _ _ rfl rfl).1
    have f1 := (lkL 1 _ _ rfl rfl).1
    have f2 := (lkL 2 _ _ rfl rfl).1
    have eL : H22 L = some (.lst [V.ref x0, V.ref x1, V.ref x2]) := eL
    have keepA : ∀ {r : Addr}, AnsAt H21 r an → AnsAt H22 r an := fun h => h.keep fun b o _ e => sL _ _ e
    obtain ⟨us, vs, hu1, hv1, hp⟩ := eq_ans (K := K) (right_nd right) (keepA A0) (keepA A1)
    refine ⟨.ref ad, rfl, ad, _, _, .ref r0, rfl, rfl, sl_map (sL _ _ ea), atI_nat (j := 0) rfl, .ref ad, rfl, ad, _, _, .ref r1, rfl, rfl, sl_map (sL _ _ ea), atI_nat (j := 1) rfl, r0, r1, us, vs, rfl, rfl, hu1, hv1, hp, true, rfl, iteT ?_⟩
    have eP2 := sL _ _ eP'
    have b02 := b0.same' sL
    have b12 := b1'.same' sL
    have b22 := b2'.same' sL
    refine ⟨.ref R2, rfl, R2, rfl, ⟨_, sl_map eP2⟩, fun M nM => lc_list (xs := [V.ref q0.1, V.ref q1.1, V.ref q2.1]) (fun i H7 => Same H22 H7 ∧ ∃ ls : List Addr, H7 M = some (.lst (ls.map V.ref)) ∧ ls.length = i ∧ ∀ (j : Nat) (c : Addr) (k : Addr × List Ent), ls[j]? = some c → ([(q0.1, q0.2), (q1.1, q1.2), (q2.1, q2.2)] : List (Addr × List Ent))[j]? = some k → H7 c = some (.lst ((k.2.map (·.1)).map V.str)) ∧ c ≠ M)
      ⟨same_new nM, [], upd_same, rfl, fun j c k h => absurd ((List.getElem?_nil (α := Addr) (i := j)).symm.trans h) (by simp)⟩ (fun i H7 _ h => sl_map (h.1 _ _ eP2)) ?_ ?_⟩
    · rintro i x H7 hx ⟨sm, ls, eL, ll, lk⟩
      have i3 : i < 3 := (List.getElem?_eq_some_iff.mp hx).1
      obtain ⟨k, hk, bk, hx2⟩ : ∃ k : Addr × List Ent, ([(q0.1, q0.2), (q1.1, q1.2), (q2.1, q2.2)] : List (Addr × List Ent))[i]? = some k ∧ Bu H22 k.1 k.2 ∧ x = V.ref k.1 := by
        match i, i3, hx with
        | 0, _, hx => exact ⟨_, rfl, b02, (Option.some.inj hx).symm⟩
        | 1, _, hx => exact ⟨_, rfl, b12, (Option.some.inj hx).symm⟩
        | 2, _, hx => exact ⟨_, rfl, b22, (Option.some.inj hx).symm⟩
      subst hx2
      refine ⟨rfl, .ref k.1, rfl, k.1, _, rfl, .inl (bk.same' sm).un, fun c nc => ?_⟩
      rw [keysV]
      have sc2 := same_new (o := HO.lst ((k.2.map (·.1)).map V.str)) nc
      have cL : c ≠ M := fun z => by rw [z, eL] at nc; cases nc
      refine ⟨_, sc2 _ _ eL, by rw [List.length_map]; exact small1000 (by omega), same_at (sm.trans sc2) nM, ls ++ [c], by rw [upd_same, List.map_append] <;> rfl, by rw [List.length_append, ll] <;> rfl, fun j c2 k2 hj hk2 => ?_⟩
      rcases Nat.lt_or_ge j i with h | h
      · rw [List.getElem?_append_left (by omega)] at hj
        obtain ⟨h1, h2⟩ := lk j c2 k2 hj hk2
        exact ⟨by rw [upd_ne h2]; exact sc2 _ _ h1, h2⟩
      · rw [List.getElem?_append_right (by omega)] at hj
        have ej : j = i := by
          have := (List.getElem?_eq_some_iff.mp hj).1
          rw [List.length_singleton] at this
          omega
        subst ej
        rw [show j - ls.length = 0 by omega] at hj
        obtain rfl := Option.some.inj hj
        obtain rfl := Option.some.inj (hk.symm.trans hk2)
        exact ⟨by rw [upd_ne cL, upd_same], cL⟩
    rintro H23 ⟨sM, lsM, eM, llM, lkM⟩
    have ll3' : lsM.length = 3 := llM
    obtain ⟨z0, z1, z2, rfl⟩ : ∃ x y z, lsM = [x, y, z] := by
      match lsM, ll3' with
      | [x, y, z], _ => exact ⟨x, y, z, rfl⟩
    have f0' : H23 z0 = some (.lst ((q0.2.map (·.1)).map V.str)) := (lkM 0 _ _ rfl rfl).1
    have f1' : H23 z1 = some (.lst ((q1.2.map (·.1)).map V.str)) := (lkM 1 _ _ rfl rfl).1
    have f2' : H23 z2 = some (.lst ((q2.2.map (·.1)).map V.str)) := (lkM 2 _ _ rfl rfl).1
    rw [shape_keys g0] at f0'
    rw [shape_keys g1] at f1'
    rw [shape_keys g2] at f2'
    exact ⟨.ref L, rfl, 2, by decide, .inl ⟨M, L, _, _, rfl, rfl, sl_map eM, sl_map (sM _ _ eL), paired3 (eq_strs f0' (sM _ _ f0)) (eq_strs f1' (sM _ _ f1)) (eq_strs f2' (sM _ _ f2))⟩, q _⟩
end
end K5

set_option Elab.async false
set_option linter.all false
set_option maxRecDepth 100000
set_option maxHeartbeats 4000000
namespace K5
open PySem PySem.Spec PyProof.Rows L2 Cs
/-! ### what the top has written -/
theorem all_mk {l : PySem.W.OpenLaw} {w : World} {K : PySem.W.Frag} {h : Heap} {mg : Str → Option Value} {fa f1 f2 f3 f4 f5 f6 f7 f8 f9 f10 f11 f12 f13 f14 f15 f16 f17 f18 f19 f20 f21 f22 f23 f24 f25 f26 f27 : Addr} (X : K.In h) (G : h.Ns mainGlobals mg) (hfa : mg "law" = some (.ref fa))
    {od1 an1 od2 an2 od3 an3 od4 an4 od5 an5 od6 an6 od7 an7 od8 an8 od9 an9 od10 an10 od11 an11 od12 an12 od13 an13 od14 an14 od15 an15 od16 an16 od17 an17 od18 an18 od19 an19 od20 an20 od21 an21 od22 an22 od23 an23 od24 an24 od25 an25 od26 an26 od27 an27 : Option Addr} {sl1 sl2 sl3 sl4 sl5 sl6 sl7 sl8 sl9 sl10 sl11 sl12 sl13 sl14 sl15 sl16 sl17 sl18 sl19 sl20 sl21 sl22 sl23 sl24 sl25 sl26 sl27 : Array (Option Value)}
    {oc1 kV1 dc1 pm1 cd1 ct1 oc2 kV2 dc2 pm2 cd2 ct2 oc3 kV3 dc3 pm3 cd3 ct3 oc4 kV4 dc4 pm4 cd4 ct4 oc5 kV5 dc5 pm5 cd5 ct5 oc6 kV6 dc6 pm6 cd6 ct6 oc7 kV7 dc7 pm7 cd7 ct7 oc8 kV8 dc8 pm8 cd8 ct8 oc9 kV9 dc9 pm9 cd9 ct9 oc10 kV10 dc10 pm10 cd10 ct10 oc11 kV11 dc11 pm11 cd11 ct11 oc12 kV12 dc12 pm12 cd12 ct12 oc13 kV13 dc13 pm13 cd13 ct13 oc14 kV14 dc14 pm14 cd14 ct14 oc15 kV15 dc15 pm15 cd15 ct15 oc16 kV16 dc16 pm16 cd16 ct16 oc17 kV17 dc17 pm17 cd17 ct17 oc18 kV18 dc18 pm18 cd18 ct18 oc19 kV19 dc19 pm19 cd19 ct19 oc20 kV20 dc20 pm20 cd20 ct20 oc21 kV21 dc21 pm21 cd21 ct21 oc22 kV22 dc22 pm22 cd22 ct22 oc23 kV23 dc23 pm23 cd23 ct23 oc24 kV24 dc24 pm24 cd24 ct24 oc25 kV25 dc25 pm25 cd25 ct25 oc26 kV26 dc26 pm26 cd26 ct26 oc27 kV27 dc27 pm27 cd27 ct27 : Value}
    (a1 : PySem.W.nsIn K mainGlobals "common" = some (some (.ref f1))) (l1 : K.lookup f1 = some ⟨oc1, od1, .func (PySem.W.fnOf "common" "common" (defArgs sCommon) (defBody sCommon) (defScope sCommon) .none kV1 dc1 pm1 an1 cd1 ct1), sl1⟩) (c1 : PySem.W.codeIn K cd1 "common" = true) (k1 : PySem.W.keepIn K (.ref f1) = true)
    (a2 : PySem.W.nsIn K mainGlobals "without" = some (some (.ref f2))) (l2 : K.lookup f2 = some ⟨oc2, od2, .func (PySem.W.fnOf "without" "without" (defArgs sWithout) (defBody sWithout) (defScope sWithout) .none kV2 dc2 pm2 an2 cd2 ct2), sl2⟩) (c2 : PySem.W.codeIn K cd2 "without" = true) (k2 : PySem.W.keepIn K (.ref f2) = true)
    (a3 : PySem.W.nsIn K mainGlobals "room" = some (some (.ref f3))) (l3 : K.lookup f3 = some ⟨oc3, od3, .func (PySem.W.fnOf "room" "room" (defArgs sRoom) (defBody sRoom) (defScope sRoom) .none kV3 dc3 pm3 an3 cd3 ct3), sl3⟩) (c3 : PySem.W.codeIn K cd3 "room" = true) (k3 : PySem.W.keepIn K (.ref f3) = true)
    (a4 : PySem.W.nsIn K mainGlobals "covered_by_two" = some (some (.ref f4))) (l4 : K.lookup f4 = some ⟨oc4, od4, .func (PySem.W.fnOf "covered_by_two" "covered_by_two" (defArgs sCov) (defBody sCov) (defScope sCov) .none kV4 dc4 pm4 an4 cd4 ct4), sl4⟩) (c4 : PySem.W.codeIn K cd4 "covered_by_two" = true) (k4 : PySem.W.keepIn K (.ref f4) = true)
    (a5 : PySem.W.nsIn K mainGlobals "_values_beyond" = some (some (.ref f5))) (l5 : K.lookup f5 = some ⟨oc5, od5, .func (PySem.W.fnOf "_values_beyond" "_values_beyond" (defArgs sBey) (defBody sBey) (defScope sBey) .none kV5 dc5 pm5 an5 cd5 ct5), sl5⟩) (c5 : PySem.W.codeIn K cd5 "_values_beyond" = true) (k5 : PySem.W.keepIn K (.ref f5) = true)
    (a6 : PySem.W.nsIn K mainGlobals "_outside_values" = some (some (.ref f6))) (l6 : K.lookup f6 = some ⟨oc6, od6, .func (PySem.W.fnOf "_outside_values" "_outside_values" (defArgs sOut) (defBody sOut) (defScope sOut) .none kV6 dc6 pm6 an6 cd6 ct6), sl6⟩) (c6 : PySem.W.codeIn K cd6 "_outside_values" = true) (k6 : PySem.W.keepIn K (.ref f6) = true)
    (a7 : PySem.W.nsIn K mainGlobals "_law_is_integer" = some (some (.ref f7))) (l7 : K.lookup f7 = some ⟨oc7, od7, .func (PySem.W.fnOf "_law_is_integer" "_law_is_integer" (defArgs sIsInt) (defBody sIsInt) (defScope sIsInt) .none kV7 dc7 pm7 an7 cd7 ct7), sl7⟩) (c7 : PySem.W.codeIn K cd7 "_law_is_integer" = true) (k7 : PySem.W.keepIn K (.ref f7) = true)
    (a8 : PySem.W.nsIn K mainGlobals "_law_stream" = some (some (.ref f8))) (l8 : K.lookup f8 = some ⟨oc8, od8, .func (PySem.W.fnOf "_law_stream" "_law_stream" (defArgs sStream) (defBody sStream) (defScope sStream) .none kV8 dc8 pm8 an8 cd8 ct8), sl8⟩) (c8 : PySem.W.codeIn K cd8 "_law_stream" = true) (k8 : PySem.W.keepIn K (.ref f8) = true)
    (a9 : PySem.W.nsIn K mainGlobals "_law_next" = some (some (.ref f9))) (l9 : K.lookup f9 = some ⟨oc9, od9, .func (PySem.W.fnOf "_law_next" "_law_next" (defArgs sDraw) (defBody sDraw) (defScope sDraw) .none kV9 dc9 pm9 an9 cd9 ct9), sl9⟩) (c9 : PySem.W.codeIn K cd9 "_law_next" = true) (k9 : PySem.W.keepIn K (.ref f9) = true)
    (a10 : PySem.W.nsIn K mainGlobals "_law_names" = some (some (.ref f10))) (l10 : K.lookup f10 = some ⟨oc10, od10, .func (PySem.W.fnOf "_law_names" "_law_names" (defArgs sNames) (defBody sNames) (defScope sNames) .none kV10 dc10 pm10 an10 cd10 ct10), sl10⟩) (c10 : PySem.W.codeIn K cd10 "_law_names" = true) (k10 : PySem.W.keepIn K (.ref f10) = true)
    (a11 : PySem.W.nsIn K mainGlobals "_law_pool" = some (some (.ref f11))) (l11 : K.lookup f11 = some ⟨oc11, od11, .func (PySem.W.fnOf "_law_pool" "_law_pool" (defArgs sPool) (defBody sPool) (defScope sPool) .none kV11 dc11 pm11 an11 cd11 ct11), sl11⟩) (c11 : PySem.W.codeIn K cd11 "_law_pool" = true) (k11 : PySem.W.keepIn K (.ref f11) = true)
    (a12 : PySem.W.nsIn K mainGlobals "_law_domains" = some (some (.ref f12))) (l12 : K.lookup f12 = some ⟨oc12, od12, .func (PySem.W.fnOf "_law_domains" "_law_domains" (defArgs sDoms) (defBody sDoms) (defScope sDoms) .none kV12 dc12 pm12 an12 cd12 ct12), sl12⟩) (c12 : PySem.W.codeIn K cd12 "_law_domains" = true) (k12 : PySem.W.keepIn K (.ref f12) = true)
    (a13 : PySem.W.nsIn K mainGlobals "_law_sides" = some (some (.ref f13))) (l13 : K.lookup f13 = some ⟨oc13, od13, .func (PySem.W.fnOf "_law_sides" "_law_sides" (defArgs sLSides) (defBody sLSides) (defScope sLSides) .none kV13 dc13 pm13 an13 cd13 ct13), sl13⟩) (c13 : PySem.W.codeIn K cd13 "_law_sides" = true) (k13 : PySem.W.keepIn K (.ref f13) = true)
    (a14 : PySem.W.nsIn K mainGlobals "_law_part" = some (some (.ref f14))) (l14 : K.lookup f14 = some ⟨oc14, od14, .func (PySem.W.fnOf "_law_part" "_law_part" (defArgs sPart) (defBody sPart) (defScope sPart) .none kV14 dc14 pm14 an14 cd14 ct14), sl14⟩) (c14 : PySem.W.codeIn K cd14 "_law_part" = true) (k14 : PySem.W.keepIn K (.ref f14) = true)
    (a15 : PySem.W.nsIn K mainGlobals "_law_assignments" = some (some (.ref f15))) (l15 : K.lookup f15 = some ⟨oc15, od15, .func (PySem.W.fnOf "_law_assignments" "_law_assignments" (defArgs sAssign) (defBody sAssign) (defScope sAssign) .none kV15 dc15 pm15 an15 cd15 ct15), sl15⟩) (c15 : PySem.W.codeIn K cd15 "_law_assignments" = true) (k15 : PySem.W.keepIn K (.ref f15) = true)
    (a16 : PySem.W.nsIn K mainGlobals "_law_many_names" = some (some (.ref f16))) (l16 : K.lookup f16 = some ⟨oc16, od16, .func (PySem.W.fnOf "_law_many_names" "_law_many_names" (defArgs sMany) (defBody sMany) (defScope sMany) .none kV16 dc16 pm16 an16 cd16 ct16), sl16⟩) (c16 : PySem.W.codeIn K cd16 "_law_many_names" = true) (k16 : PySem.W.keepIn K (.ref f16) = true)
    (a17 : PySem.W.nsIn K mainGlobals "_law_wider" = some (some (.ref f17))) (l17 : K.lookup f17 = some ⟨oc17, od17, .func (PySem.W.fnOf "_law_wider" "_law_wider" (defArgs sWid) (defBody sWid) (defScope sWid) .none kV17 dc17 pm17 an17 cd17 ct17), sl17⟩) (c17 : PySem.W.codeIn K cd17 "_law_wider" = true) (k17 : PySem.W.keepIn K (.ref f17) = true)
    (a18 : PySem.W.nsIn K mainGlobals "_law_free" = some (some (.ref f18))) (l18 : K.lookup f18 = some ⟨oc18, od18, .func (PySem.W.fnOf "_law_free" "_law_free" (defArgs sFre) (defBody sFre) (defScope sFre) .none kV18 dc18 pm18 an18 cd18 ct18), sl18⟩) (c18 : PySem.W.codeIn K cd18 "_law_free" = true) (k18 : PySem.W.keepIn K (.ref f18) = true)
    (a19 : PySem.W.nsIn K mainGlobals "_law_two" = some (some (.ref f19))) (l19 : K.lookup f19 = some ⟨oc19, od19, .func (PySem.W.fnOf "_law_two" "_law_two" (defArgs sTwo) (defBody sTwo) (defScope sTwo) .none kV19 dc19 pm19 an19 cd19 ct19), sl19⟩) (c19 : PySem.W.codeIn K cd19 "_law_two" = true) (k19 : PySem.W.keepIn K (.ref f19) = true)
    (a20 : PySem.W.nsIn K mainGlobals "_law_turned" = some (some (.ref f20))) (l20 : K.lookup f20 = some ⟨oc20, od20, .func (PySem.W.fnOf "_law_turned" "_law_turned" (defArgs sTrn) (defBody sTrn) (defScope sTrn) .none kV20 dc20 pm20 an20 cd20 ct20), sl20⟩) (c20 : PySem.W.codeIn K cd20 "_law_turned" = true) (k20 : PySem.W.keepIn K (.ref f20) = true)
    (a21 : PySem.W.nsIn K mainGlobals "_law_holds" = some (some (.ref f21))) (l21 : K.lookup f21 = some ⟨oc21, od21, .func (PySem.W.fnOf "_law_holds" "_law_holds" (defArgs sLHolds) (defBody sLHolds) (defScope sLHolds) .none kV21 dc21 pm21 an21 cd21 ct21), sl21⟩) (c21 : PySem.W.codeIn K cd21 "_law_holds" = true) (k21 : PySem.W.keepIn K (.ref f21) = true)
    (a22 : PySem.W.nsIn K mainGlobals "_law_lacking" = some (some (.ref f22))) (l22 : K.lookup f22 = some ⟨oc22, od22, .func (PySem.W.fnOf "_law_lacking" "_law_lacking" (defArgs sLac) (defBody sLac) (defScope sLac) .none kV22 dc22 pm22 an22 cd22 ct22), sl22⟩) (c22 : PySem.W.codeIn K cd22 "_law_lacking" = true) (k22 : PySem.W.keepIn K (.ref f22) = true)
    (a23 : PySem.W.nsIn K mainGlobals "_law_in_join" = some (some (.ref f23))) (l23 : K.lookup f23 = some ⟨oc23, od23, .func (PySem.W.fnOf "_law_in_join" "_law_in_join" (defArgs sInj) (defBody sInj) (defScope sInj) .none kV23 dc23 pm23 an23 cd23 ct23), sl23⟩) (c23 : PySem.W.codeIn K cd23 "_law_in_join" = true) (k23 : PySem.W.keepIn K (.ref f23) = true)
    (a24 : PySem.W.nsIn K mainGlobals "_law_word_by_walk" = some (some (.ref f24))) (l24 : K.lookup f24 = some ⟨oc24, od24, .func (PySem.W.fnOf "_law_word_by_walk" "_law_word_by_walk" (defArgs sWlk) (defBody sWlk) (defScope sWlk) .none kV24 dc24 pm24 an24 cd24 ct24), sl24⟩) (c24 : PySem.W.codeIn K cd24 "_law_word_by_walk" = true) (k24 : PySem.W.keepIn K (.ref f24) = true)
    (a25 : PySem.W.nsIn K mainGlobals "_law_word_by_sides" = some (some (.ref f25))) (l25 : K.lookup f25 = some ⟨oc25, od25, .func (PySem.W.fnOf "_law_word_by_sides" "_law_word_by_sides" (defArgs sSds) (defBody sSds) (defScope sSds) .none kV25 dc25 pm25 an25 cd25 ct25), sl25⟩) (c25 : PySem.W.codeIn K cd25 "_law_word_by_sides" = true) (k25 : PySem.W.keepIn K (.ref f25) = true)
    (a26 : PySem.W.nsIn K mainGlobals "_law_is_right" = some (some (.ref f26))) (l26 : K.lookup f26 = some ⟨oc26, od26, .func (PySem.W.fnOf "_law_is_right" "_law_is_right" (defArgs sRgt) (defBody sRgt) (defScope sRgt) .none kV26 dc26 pm26 an26 cd26 ct26), sl26⟩) (c26 : PySem.W.codeIn K cd26 "_law_is_right" = true) (k26 : PySem.W.keepIn K (.ref f26) = true)
    (a27 : PySem.W.nsIn K mainGlobals "law" = some (some (.ref f27))) (l27 : K.lookup f27 = some ⟨oc27, od27, .func (PySem.W.fnOf "law" "law" (defArgs sLaw) (defBody sLaw) (defScope sLaw) .none kV27 dc27 pm27 an27 cd27 ct27), sl27⟩) (c27 : PySem.W.codeIn K cd27 "law" = true) (k27 : PySem.W.keepIn K (.ref f27) = true)
    (z1 : PySem.W.nsIn K mainGlobals "sorted" = some none) (z2 : PySem.W.nsIn K mainGlobals "set" = some none) (z3 : PySem.W.nsIn K mainGlobals "len" = some none) (z4 : PySem.W.nsIn K mainGlobals "isinstance" = some none) (z5 : PySem.W.nsIn K mainGlobals "int" = some none) (z6 : PySem.W.nsIn K mainGlobals "bool" = some none) (z7 : PySem.W.nsIn K mainGlobals "list" = some none) (z8 : PySem.W.nsIn K mainGlobals "all" = some none) (z9 : PySem.W.nsIn K mainGlobals "range" = some none) (z10 : PySem.W.nsIn K mainGlobals "dict" = some none) (z11 : PySem.W.nsIn K mainGlobals "str" = some none) (z12 : PySem.W.nsIn K mainGlobals "tuple" = some none) :
    ∃ fd : FuncData, (∀ (s : Shared) (v : Value), BindsTo s fd ⟨[v], []⟩ [("_law_script", v)]) ∧ ∀ base : Heap, K.In base → base.Ns mainGlobals mg → FnOk l.prog w K mg base CX0 5 fa fd ["_law_script"] (spLaw K) := by
  have e := hfa.symm.trans (PySem.W.mg_of X G a27)
  cases e
  have B : Bt mg := ⟨PySem.W.mg_none_of X G z1, PySem.W.mg_none_of X G z2, PySem.W.mg_none_of X G z3, PySem.W.mg_none_of X G z4, PySem.W.mg_none_of X G z5, PySem.W.mg_none_of X G z6, PySem.W.mg_none_of X G z7, PySem.W.mg_none_of X G z8, PySem.W.mg_none_of X G z9, PySem.W.mg_none_of X G z10⟩
  have F1 := fun_mk (st := sCommon) l1 c1 k1
  have b1 := F1.binds (ps := ["first", "second"]) fun _ _ _ _ _ _ us hl => match us, hl with | [_, _], _ => rfl
  have F2 := fun_mk (st := sWithout) l2 c2 k2
  have b2 := F2.binds (ps := ["first", "second"]) fun _ _ _ _ _ _ us hl => match us, hl with | [_, _], _ => rfl
  have F3 := fun_mk (st := sRoom) l3 c3 k3
  have b3 := F3.binds (ps := ["box"]) fun _ _ _ _ _ _ us hl => match us, hl with | [_], _ => rfl
  have F4 := fun_mk (st := sCov) l4 c4 k4
  have b4 := F4.binds (ps := ["first", "second", "box"]) fun _ _ _ _ _ _ us hl => match us, hl with | [_, _, _], _ => rfl
  have F5 := fun_mk (st := sBey) l5 c5 k5
  have b5 := F5.binds (ps := ["box", "cover"]) fun _ _ _ _ _ _ us hl => match us, hl with | [_, _], _ => rfl
  have F6 := fun_mk (st := sOut) l6 c6 k6
  have b6 := F6.binds (ps := ["beyond_first", "beyond_second"]) fun _ _ _ _ _ _ us hl => match us, hl with | [_, _], _ => rfl
  have F7 := fun_mk (st := sIsInt) l7 c7 k7
  have b7 := F7.binds (ps := ["_law_actual"]) fun _ _ _ _ _ _ us hl => match us, hl with | [_], _ => rfl
  have F8 := fun_mk (st := sStream) l8 c8 k8
  have b8 := F8.binds (ps := ["_law_script", "_law_k"]) fun _ _ _ _ _ _ us hl => match us, hl with | [_, _], _ => rfl
  have F9 := fun_mk (st := sDraw) l9 c9 k9
  have b9 := F9.binds (ps := ["_law_stream_here", "_law_size"]) fun _ _ _ _ _ _ us hl => match us, hl with | [_, _], _ => rfl
  have F10 := fun_mk (st := sNames) l10 c10 k10
  have b10 := F10.binds (ps := ["_law_stream_here", "_law_count"]) fun _ _ _ _ _ _ us hl => match us, hl with | [_, _], _ => rfl
  have F11 := fun_mk (st := sPool) l11 c11 k11
  have b11 := F11.binds (ps := ["_law_stream_here", "_law_count"]) fun _ _ _ _ _ _ us hl => match us, hl with | [_, _], _ => rfl
  have F12 := fun_mk (st := sDoms) l12 c12 k12
  have b12 := F12.binds (ps := ["_law_stream_here", "_law_names_here", "_law_pool_here", "_law_most"]) fun _ _ _ _ _ _ us hl => match us, hl with | [_, _, _, _], _ => rfl
  have F13 := fun_mk (st := sLSides) l13 c13 k13
  have b13 := F13.binds (ps := ["_law_domains_here"]) fun _ _ _ _ _ _ us hl => match us, hl with | [_], _ => rfl
  have F14 := fun_mk (st := sPart) l14 c14 k14
  have b14 := F14.binds (ps := ["_law_stream_here", "_law_side"]) fun _ _ _ _ _ _ us hl => match us, hl with | [_, _], _ => rfl
  have F15 := fun_mk (st := sAssign) l15 c15 k15
  have b15 := F15.binds (ps := ["_law_names_here", "_law_sides_here"]) fun _ _ _ _ _ _ us hl => match us, hl with | [_, _], _ => rfl
  have F16 := fun_mk (st := sMany) l16 c16 k16
  have b16 := F16.binds (ps := ["_law_shift", "_law_count"]) fun _ _ _ _ _ _ us hl => match us, hl with | [_, _], _ => rfl
  have F17 := fun_mk (st := sWid) l17 c17 k17
  have b17 := F17.binds (ps := ["_law_stream_here", "_law_third", "_law_pool_here"]) fun _ _ _ _ _ _ us hl => match us, hl with | [_, _, _], _ => rfl
  have F18 := fun_mk (st := sFre) l18 c18 k18
  have b18 := F18.binds (ps := ["_law_stream_here", "_law_names_here", "_law_pool_here"]) fun _ _ _ _ _ _ us hl => match us, hl with | [_, _, _], _ => rfl
  have F19 := fun_mk (st := sTwo) l19 c19 k19
  have b19 := F19.binds (ps := ["_law_stream_here", "_law_third", "_law_pool_here"]) fun _ _ _ _ _ _ us hl => match us, hl with | [_, _, _], _ => rfl
  have F20 := fun_mk (st := sTrn) l20 c20 k20
  have b20 := F20.binds (ps := ["_law_sides_here", "_law_shift"]) fun _ _ _ _ _ _ us hl => match us, hl with | [_, _], _ => rfl
  have F21 := fun_mk (st := sLHolds) l21 c21 k21
  have b21 := F21.binds (ps := ["_law_sides_here", "_law_values"]) fun _ _ _ _ _ _ us hl => match us, hl with | [_, _], _ => rfl
  have F22 := fun_mk (st := sLac) l22 c22 k22
  have b22 := F22.binds (ps := ["_law_third", "_law_sides_here"]) fun _ _ _ _ _ _ us hl => match us, hl with | [_, _], _ => rfl
  have F23 := fun_mk (st := sInj) l23 c23 k23
  have b23 := F23.binds (ps := ["_law_first", "_law_second", "_law_third", "_law_name"]) fun _ _ _ _ _ _ us hl => match us, hl with | [_, _, _, _], _ => rfl
  have F24 := fun_mk (st := sWlk) l24 c24 k24
  have b24 := F24.binds (ps := ["_law_first", "_law_second", "_law_third"]) fun _ _ _ _ _ _ us hl => match us, hl with | [_, _, _], _ => rfl
  have F25 := fun_mk (st := sSds) l25 c25 k25
  have b25 := F25.binds (ps := ["_law_first", "_law_second", "_law_third"]) fun _ _ _ _ _ _ us hl => match us, hl with | [_, _, _], _ => rfl
  have F26 := fun_mk (st := sRgt) l26 c26 k26
  have b26 := F26.binds (ps := ["_law_told", "_law_first", "_law_second", "_law_third", "_law_word"]) fun _ _ _ _ _ _ us hl => match us, hl with | [_, _, _, _, _], _ => rfl
  have F27 := fun_mk (st := sLaw) l27 c27 k27
  refine ⟨PySem.W.fnOf "law" "law" (defArgs sLaw) (defBody sLaw) (defScope sLaw) .none kV27 dc27 pm27 an27 cd27 ct27, fun s v => .of_eq rfl, fun base _ _ => ?_⟩
  have Cco : Call l.prog w K mg base 1 "common" f1 _ ["first", "second"] (spTwo K fun ns ks k => k ∈ ns ∧ k ∈ ks) := ⟨ok_common F1 B, PySem.W.mg_of X G a1, k1, b1⟩
  have Cwo : Call l.prog w K mg base 1 "without" f2 _ ["first", "second"] (spTwo K fun ns ks k => k ∈ ns ∧ k ∉ ks) := ⟨ok_without F2 B, PySem.W.mg_of X G a2, k2, b2⟩
  have Cro : Call l.prog w K mg base 1 "room" f3 _ ["box"] spRoom := ⟨ok_room F3 B, PySem.W.mg_of X G a3, k3, b3⟩
  have Cbe : Call l.prog w K mg base 2 "_values_beyond" f5 _ ["box", "cover"] spBey := ⟨ok_bey F5 B Cwo, PySem.W.mg_of X G a5, k5, b5⟩
  have Cou : Call l.prog w K mg base 2 "_outside_values" f6 _ ["beyond_first", "beyond_second"] spOut := ⟨ok_out F6 B Cco, PySem.W.mg_of X G a6, k6, b6⟩
  have Ccv : Call l.prog w K mg base 3 "covered_by_two" f4 _ ["first", "second", "box"] spCov := ⟨ok_cov F4 B Cro Cbe Cou, PySem.W.mg_of X G a4, k4, b4⟩
  have Cii : Call l.prog w K mg base 1 "_law_is_integer" f7 _ ["_law_actual"] spIsInt := ⟨ok_isInt F7 B, PySem.W.mg_of X G a7, k7, b7⟩
  have Cst : Call l.prog w K mg base 1 "_law_stream" f8 _ ["_law_script", "_law_k"] (spStream K) := ⟨ok_stream F8 B, PySem.W.mg_of X G a8, k8, b8⟩
  have Cdr : Call l.prog w K mg base 1 "_law_next" f9 _ ["_law_stream_here", "_law_size"] spDraw := ⟨ok_draw F9 B, PySem.W.mg_of X G a9, k9, b9⟩
  have Cna : Call l.prog w K mg base 2 "_law_names" f10 _ ["_law_stream_here", "_law_count"] spNames := ⟨ok_names F10 B Cdr, PySem.W.mg_of X G a10, k10, b10⟩
  have Cpo : Call l.prog w K mg base 2 "_law_pool" f11 _ ["_law_stream_here", "_law_count"] spPool := ⟨ok_pool F11 B Cdr, PySem.W.mg_of X G a11, k11, b11⟩
  have Cdo : Call l.prog w K mg base 2 "_law_domains" f12 _ ["_law_stream_here", "_law_names_here", "_law_pool_here", "_law_most"] spDoms := ⟨ok_doms F12 B Cdr, PySem.W.mg_of X G a12, k12, b12⟩
  have Csd : Call l.prog w K mg base 1 "_law_sides" f13 _ ["_law_domains_here"] spLSides := ⟨ok_lsides F13 B, PySem.W.mg_of X G a13, k13, b13⟩
  have Cpa : Call l.prog w K mg base 2 "_law_part" f14 _ ["_law_stream_here", "_law_side"] (spPart K) := ⟨ok_part F14 B Cdr, PySem.W.mg_of X G a14, k14, b14⟩
  have Cas : Call l.prog w K mg base 1 "_law_assignments" f15 _ ["_law_names_here", "_law_sides_here"] spAssign := ⟨ok_assign F15 B, PySem.W.mg_of X G a15, k15, b15⟩
  have Cmn : Call l.prog w K mg base 1 "_law_many_names" f16 _ ["_law_shift", "_law_count"] spMany := ⟨ok_many F16 B, PySem.W.mg_of X G a16, k16, b16⟩
  have Cwi : Call l.prog w K mg base 2 "_law_wider" f17 _ ["_law_stream_here", "_law_third", "_law_pool_here"] spWid := ⟨ok_wid F17 B Cdr, PySem.W.mg_of X G a17, k17, b17⟩
  have Cfr : Call l.prog w K mg base 3 "_law_free" f18 _ ["_law_stream_here", "_law_names_here", "_law_pool_here"] spFre := ⟨ok_fre F18 B Cpa, PySem.W.mg_of X G a18, k18, b18⟩
  have Ctw : Call l.prog w K mg base 4 "_law_two" f19 _ ["_law_stream_here", "_law_third", "_law_pool_here"] spTwoB := ⟨ok_two F19 B Cdr Cwi Cfr, PySem.W.mg_of X G a19, k19, b19⟩
  have Ctn : Call l.prog w K mg base 1 "_law_turned" f20 _ ["_law_sides_here", "_law_shift"] spTrn := ⟨ok_trn F20 B, PySem.W.mg_of X G a20, k20, b20⟩
  have Cho : Call l.prog w K mg base 1 "_law_holds" f21 _ ["_law_sides_here", "_law_values"] spHolds := ⟨ok_lholds F21 B, PySem.W.mg_of X G a21, k21, b21⟩
  have Cla : Call l.prog w K mg base 1 "_law_lacking" f22 _ ["_law_third", "_law_sides_here"] spLac := ⟨ok_lac F22 B, PySem.W.mg_of X G a22, k22, b22⟩
  have Cij : Call l.prog w K mg base 1 "_law_in_join" f23 _ ["_law_first", "_law_second", "_law_third", "_law_name"] spInj := ⟨ok_inj F23 B, PySem.W.mg_of X G a23, k23, b23⟩
  have Cwk : Call l.prog w K mg base 2 "_law_word_by_walk" f24 _ ["_law_first", "_law_second", "_law_third"] spWlk := ⟨ok_wlk F24 B Cas Cho, PySem.W.mg_of X G a24, k24, b24⟩
  have Csy : Call l.prog w K mg base 2 "_law_word_by_sides" f25 _ ["_law_first", "_law_second", "_law_third"] spSds := ⟨ok_sds F25 B Cla Cij, PySem.W.mg_of X G a25, k25, b25⟩
  have Crg : Call l.prog w K mg base 2 "_law_is_right" f26 _ ["_law_told", "_law_first", "_law_second", "_law_third", "_law_word"] spRgt := ⟨ok_rgt F26 B (PySem.W.mg_none_of X G z12) (PySem.W.mg_none_of X G z11) Cij Cii Cho, PySem.W.mg_of X G a26, k26, b26⟩
  exact ok_law F27 B Cst Cdr Cmn Cna Cpo Cdo Csd Ctw Csy Cwk Ctn Ccv Crg
theorem walk {l : PySem.W.OpenLaw} {q : Program} {loose : List Str} {XP : (Str → Option Value) → Heap → Prop} {YP : World → Heap → Prop} {d : DefRec} {K : Params → PySem.W.Frag} (hn : l.most = some 63) (hdf : d.params.defaults = [])
    (hY : ∀ (w : World) (h : Heap), YP w h → (K w.params).In h)
    (F : ∀ (w : World) (mg : Str → Option Value) (fa : Addr) (h : Heap), (K w.params).In h → h.Ns mainGlobals mg → mg d.name = some (.ref fa) →
      ∃ fd : FuncData, (∀ (s : Shared) (u : Value), BindsTo s fd ⟨[u], []⟩ [("_law_script", u)]) ∧ ∀ base : Heap, (K w.params).In base → base.Ns mainGlobals mg → FnOk l.prog w (K w.params) mg base CX0 5 fa fd ["_law_script"] (spLaw (K w.params))) :
    PySem.W.WalkO q loose XP YP l.row.toRowW d [] (fun f vs => PySem.call f vs) :=
  L2.walk_of (n := 63) (k := 5) (x := "_law_script") (CX := fun _ => CX0) (sp := fun w => spLaw (K w.params)) hn (by decide) hdf ⟨rfl, by decide, by decide⟩ hY F (fun _ _ a ns hl _ hS => ⟨a, ns, rfl, hS, hl, fun _ => rfl⟩) fun _ _ _ _ _ z => z
end K5

set_option Elab.async false
set_option linter.all false
open PySem PySem.W PyProof.Rows
set_option maxRecDepth 100000 in
set_option maxHeartbeats 0 in
theorem PySem.Challenge.cw_curbdesk_k05_covered_by_two_holds : PySem.Challenge.rw_curbdesk_k05_covered_by_two.Holds := by
  w_on; o_law; k_head; (case hw => w_witness2)
  k_fill
  refine K5.walk (l := PySem.Challenge.rw_curbdesk_k05_covered_by_two) rfl rfl (fun w h Y => PySem.W.kIn_of Y) ?F
  case F =>
    intro w mg fa h KX G hmg
    refine' K5.all_mk KX G hmg ?a1 ?l1 ?c1 ?k1 ?a2 ?l2 ?c2 ?k2 ?a3 ?l3 ?c3 ?k3 ?a4 ?l4 ?c4 ?k4 ?a5 ?l5 ?c5 ?k5 ?a6 ?l6 ?c6 ?k6 ?a7 ?l7 ?c7 ?k7 ?a8 ?l8 ?c8 ?k8 ?a9 ?l9 ?c9 ?k9 ?a10 ?l10 ?c10 ?k10 ?a11 ?l11 ?c11 ?k11 ?a12 ?l12 ?c12 ?k12 ?a13 ?l13 ?c13 ?k13 ?a14 ?l14 ?c14 ?k14 ?a15 ?l15 ?c15 ?k15 ?a16 ?l16 ?c16 ?k16 ?a17 ?l17 ?c17 ?k17 ?a18 ?l18 ?c18 ?k18 ?a19 ?l19 ?c19 ?k19 ?a20 ?l20 ?c20 ?k20 ?a21 ?l21 ?c21 ?k21 ?a22 ?l22 ?c22 ?k22 ?a23 ?l23 ?c23 ?k23 ?a24 ?l24 ?c24 ?k24 ?a25 ?l25 ?c25 ?k25 ?a26 ?l26 ?c26 ?k26 ?a27 ?l27 ?c27 ?k27 ?z1 ?z2 ?z3 ?z4 ?z5 ?z6 ?z7 ?z8 ?z9 ?z10 ?z11 ?z12
    (case a1 => k_is)
    (case l1 => k_is)
    (case c1 => k_is)
    (case k1 => k_is)
    (case a2 => k_is)
    (case l2 => k_is)
    (case c2 => k_is)
    (case k2 => k_is)
    (case a3 => k_is)
    (case l3 => k_is)
    (case c3 => k_is)
    (case k3 => k_is)
    (case a4 => k_is)
    (case l4 => k_is)
    (case c4 => k_is)
    (case k4 => k_is)
    (case a5 => k_is)
    (case l5 => k_is)
    (case c5 => k_is)
    (case k5 => k_is)
    (case a6 => k_is)
    (case l6 => k_is)
    (case c6 => k_is)
    (case k6 => k_is)
    (case a7 => k_is)
    (case l7 => k_is)
    (case c7 => k_is)
    (case k7 => k_is)
    (case a8 => k_is)
    (case l8 => k_is)
    (case c8 => k_is)
    (case k8 => k_is)
    (case a9 => k_is)
    (case l9 => k_is)
    (case c9 => k_is)
    (case k9 => k_is)
    (case a10 => k_is)
    (case l10 => k_is)
    (case c10 => k_is)
    (case k10 => k_is)
    (case a11 => k_is)
    (case l11 => k_is)
    (case c11 => k_is)
    (case k11 => k_is)
    (case a12 => k_is)
    (case l12 => k_is)
    (case c12 => k_is)
    (case k12 => k_is)
    (case a13 => k_is)
    (case l13 => k_is)
    (case c13 => k_is)
    (case k13 => k_is)
    (case a14 => k_is)
    (case l14 => k_is)
    (case c14 => k_is)
    (case k14 => k_is)
    (case a15 => k_is)
    (case l15 => k_is)
    (case c15 => k_is)
    (case k15 => k_is)
    (case a16 => k_is)
    (case l16 => k_is)
    (case c16 => k_is)
    (case k16 => k_is)
    (case a17 => k_is)
    (case l17 => k_is)
    (case c17 => k_is)
    (case k17 => k_is)
    (case a18 => k_is)
    (case l18 => k_is)
    (case c18 => k_is)
    (case k18 => k_is)
    (case a19 => k_is)
    (case l19 => k_is)
    (case c19 => k_is)
    (case k19 => k_is)
    (case a20 => k_is)
    (case l20 => k_is)
    (case c20 => k_is)
    (case k20 => k_is)
    (case a21 => k_is)
    (case l21 => k_is)
    (case c21 => k_is)
    (case k21 => k_is)
    (case a22 => k_is)
    (case l22 => k_is)
    (case c22 => k_is)
    (case k22 => k_is)
    (case a23 => k_is)
    (case l23 => k_is)
    (case c23 => k_is)
    (case k23 => k_is)
    (case a24 => k_is)
    (case l24 => k_is)
    (case c24 => k_is)
    (case k24 => k_is)
    (case a25 => k_is)
    (case l25 => k_is)
    (case c25 => k_is)
    (case k25 => k_is)
    (case a26 => k_is)
    (case l26 => k_is)
    (case c26 => k_is)
    (case k26 => k_is)
    (case a27 => k_is)
    (case l27 => k_is)
    (case c27 => k_is)
    (case k27 => k_is)
    (case z1 => k_is)
    (case z2 => k_is)
    (case z3 => k_is)
    (case z4 => k_is)
    (case z5 => k_is)
    (case z6 => k_is)
    (case z7 => k_is)
    (case z8 => k_is)
    (case z9 => k_is)
    (case z10 => k_is)
    (case z11 => k_is)
    (case z12 => k_is)
