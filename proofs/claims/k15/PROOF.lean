import PyProof.Rows.All
import Wide.All
import OpenK.AllK
import Wide.FinOn
import HandS.ForMost
import HandS.Strs
import HandS.Set
import HandS.SetFor
import HandS.TupSets
import HandS.IsInst
import HandS.Flow
import HandS.Style
import HandS.Zip
import HandS.SortInts
import HandS.DeepEq
import HandS.SetBool
import HandS.SetKeys
import HandS.ExcInit
import HandS.ExcField
import HandS.ExcOwn
import HandS.WordsExc
import HandS.ExcIs
import KE.KExcIs
import HandS.DictComp
import HandS.Walk
import HandS.Finally
import PySem.Challenge.RW_curbdesk_k15_loosest_or_cycle
set_option Elab.async false
set_option linter.all false
set_option maxRecDepth 100000
/-! Tables of sets that are laid anew, for the masks that merging asks for. -/
namespace Cs
open PySem PySem.Spec PyProof.Rows

def hop (m : Nat) (q : Nat × Nat) : Nat × Nat := SetTable.leap m q.1 q.2
def hops (m : Nat) : Nat → Nat × Nat → Nat × Nat
  | 0, q => q
  | n + 1, q => hops m n (hop m q)
abbrev own (ow : Array (Option Nat)) (j : Nat) : Option Nat := ow.getD j (some 0)

theorem free_step (m : Nat) (ow : Array (Option Nat)) (f : Nat) (q : Nat × Nat) : SetTable.layClean.free m ow (f + 1) q.1 q.2 =
    (match (List.range (SetTable.runEnd m q.1 + 1 - q.1)).find? (fun k => (own ow (q.1 + k)).isNone) with
      | some k => some (q.1 + k)
      | none => SetTable.layClean.free m ow f (hop m q).1 (hop m q).2) := rfl
theorem run_ge (m i : Nat) : i ≤ SetTable.runEnd m i := by
  unfold SetTable.runEnd
  split <;> omega
theorem run_le {m i : Nat} (h : i ≤ m) : SetTable.runEnd m i ≤ m := by
  unfold SetTable.runEnd
  split <;> omega
theorem hop_le (m : Nat) (q : Nat × Nat) : (hop m q).1 ≤ m := Nat.le_of_lt_succ (Nat.mod_lt _ (Nat.succ_pos m))

theorem free_none (m : Nat) (ow : Array (Option Nat)) : ∀ (f : Nat) (q : Nat × Nat), SetTable.layClean.free m ow f q.1 q.2 = none → ∀ n, n < f → (own ow (hops m n q).1).isNone = false
  | 0, _, _, n, h => absurd h (Nat.not_lt_zero n)
  | f + 1, q, e, n, h => by
    rw [free_step] at e
    cases c : (List.range (SetTable.runEnd m q.1 + 1 - q.1)).find? (fun k => (own ow (q.1 + k)).isNone) with
    | some k => rw [c] at e; exact nomatch e
    | none =>
      rw [c] at e
      cases n with
      | zero =>
        have z := List.find?_eq_none.mp c 0 (List.mem_range.mpr (by have := run_ge m q.1; omega))
        have z2 : ¬ ((own ow q.1).isNone = true) := z
        exact Bool.eq_false_iff.mpr z2
      | succ n => exact free_none m ow f (hop m q) e n (by omega)

theorem free_some (m : Nat) (ow : Array (Option Nat)) : ∀ (f : Nat) (q : Nat × Nat) (j : Nat), SetTable.layClean.free m ow f q.1 q.2 = some j → q.1 ≤ m → j ≤ m ∧ (own ow j).isNone = true
  | 0, _, _, e, _ => nomatch e
  | f + 1, q, j, e, hq => by
    rw [free_step] at e
    cases c : (List.range (SetTable.runEnd m q.1 + 1 - q.1)).find? (fun k => (own ow (q.1 + k)).isNone) with
    | some k =>
      rw [c] at e
      have ej : q.1 + k = j := Option.some.inj e
      have h1 := List.mem_of_find?_eq_some c
      have h2 := List.find?_some c
      have h3 := List.mem_range.mp h1
      have h4 := run_le hq
      rw [← ej]
      exact ⟨by omega, h2⟩
    | none =>
      rw [c] at e
      exact free_some m ow f (hop m q) j e (hop_le m q)

theorem hops_back (m : Nat) : ∀ (n : Nat) (q : Nat × Nat), hops m (n + 1) q = hop m (hops m n q)
  | 0, _ => rfl
  | n + 1, q => hops_back m n (hop m q)
theorem hops_add (m : Nat) (a : Nat) : ∀ (k : Nat) (q : Nat × Nat), hops m (a + k) q = hops m k (hops m a q)
  | 0, _ => rfl
  | k + 1, q => by
    rw [show a + (k + 1) = (a + k) + 1 from rfl, hops_back, hops_back, hops_add m a k q]
theorem hops_snd (m : Nat) : ∀ (n : Nat) (q : Nat × Nat), (hops m n q).2 = q.2 / 32 ^ n
  | 0, q => (Nat.div_one q.2).symm
  | n + 1, q => by
    rw [hops_back]
    show (hops m n q).2 / 32 = _
    rw [hops_snd m n q, Nat.div_div_eq_div_mul, Nat.pow_succ]
theorem hops_fst_le (m : Nat) {q : Nat × Nat} (hq : q.1 ≤ m) : ∀ n, (hops m n q).1 ≤ m
  | 0 => hq
  | n + 1 => by rw [hops_back]; exact hop_le m _
theorem hops_zero (m i : Nat) : ∀ k, hops m k (i, 0) = (L2.lcgI m i k, 0)
  | 0 => rfl
  | k + 1 => by
    rw [hops_back, hops_zero m i k]
    show ((L2.lcgI m i k * 5 + 1 + 0 / 32) % (m + 1), 0 / 32) = _
    rw [Nat.zero_div, Nat.add_zero] <;> rfl

def Msk (m : Nat) : Prop := m = 7 ∨ m = 15 ∨ m = 31 ∨ m = 63 ∨ m = 127
def meetsAll (m : Nat) : Bool := (List.range (m + 1)).all fun i => (List.range (m + 1)).all fun j => (List.range (m + 1)).any fun k => L2.lcgI m i k == j
theorem lcg_of {m : Nat} (h : meetsAll m = true) {i j : Nat} (hi : i ≤ m) (hj : j ≤ m) : ∃ k, k ≤ m ∧ L2.lcgI m i k = j := by
  have h1 := List.all_eq_true.mp (List.all_eq_true.mp h i (List.mem_range.mpr (by omega))) j (List.mem_range.mpr (by omega))
  obtain ⟨k, hk, e⟩ := List.any_eq_true.mp h1
  exact ⟨k, Nat.le_of_lt_succ (List.mem_range.mp hk), eq_of_beq e⟩
/- one round from 0, then the shift -/
theorem all15 : ((List.range 16).all fun j => (List.range 16).any fun b => L2.lcgN 15 b == j) = true := by decide +kernel
theorem all63 : ((List.range 64).all fun j => (List.range 64).any fun b => L2.lcgN 63 b == j) = true := by decide +kernel
theorem round15 : L2.lcgN 15 16 = 0 := by decide +kernel
theorem round63 : L2.lcgN 63 64 = 0 := by decide +kernel
theorem turn_mod {m : Nat} (h : L2.lcgN m (m + 1) = 0) : ∀ k, L2.lcgN m (m + 1 + k) = L2.lcgN m k
  | 0 => h
  | k + 1 => by
    show (L2.lcgN m (m + 1 + k) * 5 + 1) % (m + 1) = (L2.lcgN m k * 5 + 1) % (m + 1)
    rw [turn_mod h k]
theorem lcg_by {m : Nat} (hr : L2.lcgN m (m + 1) = 0) (ha : ((List.range (m + 1)).all fun j => (List.range (m + 1)).any fun b => L2.lcgN m b == j) = true) {i j : Nat} (hi : i ≤ m) (hj : j ≤ m) :
    ∃ k, k ≤ m ∧ L2.lcgI m i k = j := by
  have at0 : ∀ x, x ≤ m → ∃ b, b ≤ m ∧ L2.lcgN m b = x := fun x hx => by
    obtain ⟨b, hb, e⟩ := List.any_eq_true.mp (List.all_eq_true.mp ha x (List.mem_range.mpr (by omega)))
    exact ⟨b, Nat.le_of_lt_succ (List.mem_range.mp hb), eq_of_beq e⟩
  obtain ⟨a, la, ea⟩ := at0 i hi
  obtain ⟨b, lb, eb⟩ := at0 j hj
  subst ea
  by_cases c : a ≤ b
  · exact ⟨b - a, by omega, by rw [L2.lcgN_add, Nat.add_sub_cancel' c]; exact eb⟩
  · refine ⟨m + 1 + b - a, by omega, ?_⟩
    rw [L2.lcgN_add, Nat.add_sub_cancel' (by omega), turn_mod hr]
    exact eb
theorem lcg_meets {m : Nat} (hm : Msk m) {i j : Nat} (hi : i ≤ m) (hj : j ≤ m) : ∃ k, k ≤ m ∧ L2.lcgI m i k = j := by
  rcases hm with e | e | e | e | e
  · exact L2.lcgI_all (.inl e) hi hj
  · subst e; exact lcg_by round15 all15 hi hj
  · exact L2.lcgI_all (.inr (.inl e)) hi hj
  · subst e; exact lcg_by round63 all63 hi hj
  · exact L2.lcgI_all (.inr (.inr e)) hi hj

theorem free_there {m : Nat} (hm : Msk m) (ow : Array (Option Nat)) (h : Int) {j0 : Nat} (hj : j0 ≤ m) (hf : (own ow j0).isNone = true) :
    ∃ j, SetTable.layClean.free m ow (SetTable.turns m) (SetTable.bits h % (m + 1)) (SetTable.bits h) = some j ∧ j ≤ m ∧ (own ow j).isNone = true := by
  have hq : SetTable.bits h % (m + 1) ≤ m := Nat.le_of_lt_succ (Nat.mod_lt _ (Nat.succ_pos m))
  cases e : SetTable.layClean.free m ow (SetTable.turns m) (SetTable.bits h % (m + 1)) (SetTable.bits h) with
  | some j => exact ⟨j, rfl, free_some m ow _ (SetTable.bits h % (m + 1), SetTable.bits h) j e hq⟩
  | none =>
    exfalso
    have all := free_none m ow _ (SetTable.bits h % (m + 1), SetTable.bits h) e
    have z : (hops m 13 (SetTable.bits h % (m + 1), SetTable.bits h)).2 = 0 := by
      rw [hops_snd]
      refine Nat.div_eq_of_lt (Nat.lt_trans (L2.bits_lt h) ?_)
      decide
    have le := hops_fst_le m (q := (SetTable.bits h % (m + 1), SetTable.bits h)) hq 13
    obtain ⟨k, hk, ek⟩ := lcg_meets hm le hj
    have q := all (13 + k) (by show 13 + k < m + 15; omega)
    have e2 : hops m 13 (SetTable.bits h % (m + 1), SetTable.bits h) = ((hops m 13 (SetTable.bits h % (m + 1), SetTable.bits h)).1, 0) := by
      rw [← z]
    rw [hops_add, e2, hops_zero] at q
    rw [ek] at q
    rw [hf] at q
    cases q

/-! ### who sits where -/
theorem put_perm : ∀ (l : List (Option Nat)) (j k : Nat), l[j]? = some none → ((l.set j (some k)).filterMap id).Perm (k :: l.filterMap id)
  | [], j, k, h => by simp at h
  | x :: l, 0, k, h => by
    have e : x = none := by simpa using h
    subst e
    simp
  | x :: l, j + 1, k, h => by
    have ih := put_perm l j k (by simpa using h)
    cases x with
    | none => simpa using ih
    | some y =>
      simp only [List.set_cons_succ, List.filterMap_cons, id]
      exact (ih.cons y).trans (List.Perm.swap k y _)
theorem gap : ∀ l : List (Option Nat), (l.filterMap id).length < l.length → ∃ j : Nat, j < l.length ∧ l[j]? = some none
  | [], h => by simp at h
  | none :: l, h => ⟨0, by simp, rfl⟩
  | some y :: l, h => by
    obtain ⟨j, hj, e⟩ := gap l (by simpa using h)
    exact ⟨j + 1, by simpa using hj, by simpa using e⟩
structure Sit (m k : Nat) (ow : Array (Option Nat)) : Prop where
  sz : ow.size = m + 1
  pm : (ow.toList.filterMap id).Perm (List.range k)
theorem Sit.start (m : Nat) : Sit m 0 (Array.replicate (m + 1) none) := ⟨by simp, by simp⟩
theorem Sit.next {m k : Nat} {ow : Array (Option Nat)} (S : Sit m k ow) (hm : Msk m) (hk : k ≤ m) (h : Int) :
    ∃ j, SetTable.layClean.free m ow (SetTable.turns m) (SetTable.bits h % (m + 1)) (SetTable.bits h) = some j ∧ Sit m (k + 1) (ow.setIfInBounds j (some k)) := by
  have l1 := S.pm.length_eq
  rw [List.length_range] at l1
  obtain ⟨j0, h0, e0⟩ := gap ow.toList (by rw [l1, Array.length_toList, S.sz]; omega)
  rw [Array.length_toList, S.sz] at h0
  have f0 : (own ow j0).isNone = true := by
    have : ow[j0]? = some none := by rw [← Array.getElem?_toList]; exact e0
    simp [own, Array.getD_eq_getD_getElem?, this]
  obtain ⟨j, ej, hj, hn⟩ := free_there hm ow h (by omega) f0
  have hjs : j < ow.size := by rw [S.sz]; omega
  have en : ow.toList[j]? = some none := by
    have : own ow j = none := by simpa using hn
    rw [Array.getElem?_toList]
    simp only [own, Array.getD_eq_getD_getElem?, Array.getElem?_eq_getElem hjs, Option.getD_some] at this
    rw [Array.getElem?_eq_getElem hjs, this]
  refine ⟨j, ej, by rw [Array.size_setIfInBounds]; exact S.sz, ?_⟩
  rw [Array.toList_setIfInBounds]
  refine (put_perm ow.toList j k en).trans ?_
  rw [List.range_succ]
  exact (S.pm.cons k).trans (List.perm_append_singleton k _).symm
theorem sit_all {m : Nat} (hm : Msk m) : ∀ (hs : List Int) (k : Nat) (ow : Array (Option Nat)), Sit m k ow → k + hs.length ≤ m →
    ∃ ow', hs.foldl (L2.stepF m) (some (ow, k)) = some (ow', k + hs.length) ∧ Sit m (k + hs.length) ow'
  | [], k, ow, S, _ => ⟨ow, rfl, S⟩
  | h :: hs, k, ow, S, hl => by
    rw [List.length_cons] at hl
    obtain ⟨j, ej, S2⟩ := S.next hm (by omega) h
    obtain ⟨ow', e, S3⟩ := sit_all hm hs (k + 1) _ S2 (by omega)
    refine ⟨ow', ?_, ?_⟩
    · rw [List.foldl_cons, L2.stepF_some ej, e, List.length_cons]
      exact congrArg (fun n => some (ow', n)) (by omega)
    · rw [List.length_cons, show k + (hs.length + 1) = k + 1 + hs.length by omega]
      exact S3
theorem lay_ok {m : Nat} (hm : Msk m) {hs : Array Int} (hn : hs.size ≤ m) : ∃ ow, SetTable.layClean m hs = some ow ∧ Sit m hs.size ow := by
  obtain ⟨ow, e, S⟩ := sit_all hm hs.toList 0 _ (Sit.start m) (by rw [Array.length_toList]; omega)
  rw [Nat.zero_add, Array.length_toList] at S
  refine ⟨ow, ?_, S⟩
  rw [L2.layClean_eq, e] <;> rfl

def liveAt (m : Nat) (ow : Array (Option Nat)) : List (Nat × Nat) := (List.range (m + 1)).filterMap fun j => (ow.getD j none).map (j, ·)
theorem live_snd {m : Nat} {ow : Array (Option Nat)} (hz : ow.size = m + 1) : (liveAt m ow).map (·.2) = ow.toList.filterMap id := by
  unfold liveAt
  rw [List.map_filterMap, ← hz]
  have e1 : (fun j => ((ow.getD j none).map (j, ·)).map (·.2)) = fun j => (ow[j]?).bind id := by
    funext j
    rw [Array.getD_eq_getD_getElem?]
    cases ow[j]? with
    | none => rfl
    | some y => cases y <;> rfl
  have e2 := filterMap_getElem?_range ow
  rw [e1, ← e2, List.filterMap_filterMap]
theorem laid_ok {m : Nat} (hm : Msk m) {hs : Array Int} (hn : hs.size ≤ m) (fi mv : Nat) (ld pl : Bool) :
    ∃ t order, SetTable.laid m fi mv ld pl hs = some (t, order) ∧ order.toList.Perm (List.range hs.size) ∧ t.mask = m ∧ t.dummies = #[] ∧ t.led = ld ∧ L2.Ris t.place.toList ∧ t.place.size = hs.size := by
  obtain ⟨ow, e, S⟩ := lay_ok hm hn
  have p : ((liveAt m ow).map (·.2)).Perm (List.range hs.size) := by
    rw [live_snd S.sz]
    exact S.pm
  refine ⟨_, _, by unfold SetTable.laid; rw [e]; rfl, p, rfl, rfl, rfl, ?_, ?_⟩
  · refine (L2.ris_live (fun j => ow.getD j none) (List.range (m + 1)) ?_).1
    unfold L2.Ris
    first | exact List.pairwise_lt_range | exact List.pairwise_lt_range _
  · have l := p.length_eq
    rw [List.length_map, List.length_range] at l
    show ((liveAt m ow).map (·.1)).toArray.size = hs.size
    rw [List.size_toArray, List.length_map]
    exact l
theorem above_msk : ((List.range 128).all fun n => (SetTable.sizeAbove n == 8 || SetTable.sizeAbove n == 16 || SetTable.sizeAbove n == 32 || SetTable.sizeAbove n == 64 || SetTable.sizeAbove n == 128) && decide (n < SetTable.sizeAbove n)) = true := by
  decide +kernel
theorem above_ok {n : Nat} (h : n < 128) : Msk (SetTable.sizeAbove n - 1) ∧ n ≤ SetTable.sizeAbove n - 1 ∧ SetTable.sizeAbove n ≤ 128 := by
  have q := List.all_eq_true.mp above_msk n (List.mem_range.mpr h)
  simp only [Bool.and_eq_true, Bool.or_eq_true, beq_iff_eq, decide_eq_true_eq] at q
  obtain ⟨q1, q2⟩ := q
  refine ⟨?_, by omega, by omega⟩
  unfold Msk
  omega
end Cs

set_option Elab.async false
set_option linter.all false
set_option maxRecDepth 100000
set_option maxHeartbeats 1000000
namespace Cs
open PySem PySem.Spec PyProof.Rows L2

/-- a set of ints, written out -/
structure SetX (w : World) (h : Heap) (a : Addr) (es : Array (Int × Value)) (ep : Nat) (t : SetTable) : Prop where
  obj : h.get? a = some { cls := .type "set", dict := none, data := .set es ep t, slots := #[] }
  good : ∀ e ∈ es.toList, GoodE e
  nd : (es.toList.map keyOf).Nodup
  few : es.size < scanBound
  fits : t.fits es.size = true
  ris : Ris t.place.toList
  led : w.params.followText "set-order" = true ∨ t.led = true
section
variable {w : World} {h h' : Heap} {a : Addr} {S : Int → Bool} {n : Nat} {es : Array (Int × Value)} {ep : Nat} {t : SetTable}
theorem SetX.toR (R : SetX w h a es ep t) (hS : ∀ k, S k = true ↔ k ∈ es.toList.map keyOf) (hn : es.size = n) : SetR w h a S n :=
  ⟨_, es, ep, t, R.obj, ⟨rfl, rfl, rfl⟩, rfl, R.good, R.nd, hS, R.few, R.fits, hn, R.ris, R.led⟩
theorem xOf (R : SetR w h a S n) : ∃ es ep t, SetX w h a es ep t ∧ (∀ k, S k = true ↔ k ∈ es.toList.map keyOf) ∧ es.size = n := by
  obtain ⟨⟨c, d, dt, sl⟩, es, ep, t, ho, ⟨e1, e2, e3⟩, hd, g, nd, m, fw, ft, hn, r, l⟩ := R
  simp only at e1 e2 e3 hd
  subst e1 e2 e3 hd
  exact ⟨es, ep, t, ⟨ho, g, nd, fw, ft, r, l⟩, m, hn⟩
theorem SetX.move (R : SetX w h a es ep t) (k : ∀ o, h.get? a = some o → h'.get? a = some o) : SetX w h' a es ep t :=
  ⟨k _ R.obj, R.good, R.nd, R.few, R.fits, R.ris, R.led⟩
theorem SetX.perm {es' : Array (Int × Value)} {t' : SetTable} {ep' : Nat} (R : SetX w h a es ep t) (p : es'.toList.Perm es.toList)
    (o : h'.get? a = some { cls := .type "set", dict := none, data := .set es' ep' t', slots := #[] }) (f : t'.fits es'.size = true) (r : Ris t'.place.toList) (l : w.params.followText "set-order" = true ∨ t'.led = true) : SetX w h' a es' ep' t' :=
  ⟨o, fun e he => R.good e (p.mem_iff.mp he), (p.map keyOf).nodup_iff.mpr R.nd, by
    have q := p.length_eq
    rw [Array.length_toList, Array.length_toList] at q
    rw [q]; exact R.few, f, r, l⟩
end
theorem order_perm {es : Array (Int × Value)} {order : Array Nat} (p : order.toList.Perm (List.range es.size)) : (order.filterMap (es[·]?)).toList.Perm es.toList := by
  have q := p.filterMap (fun i => es[i]?)
  rw [filterMap_getElem?_range] at q
  rw [Array.toList_filterMap]
  exact q
theorem perm_size {α : Type} {x y : Array α} (p : x.toList.Perm y.toList) : x.size = y.size := by
  have q := p.length_eq
  rw [Array.length_toList, Array.length_toList] at q
  exact q
section
variable {P : Program} {w : World} {A : Around} {E : Value → Shared → Prop} {s : Shared} {a : Addr} {es : Array (Int × Value)} {ep : Nat} {t : SetTable}

theorem relay_x {wanted : Nat} {Q : Unit → Shared → Prop} (R : SetX w s.heap a es ep t) (hw : wanted < 128) (hn : es.size ≤ wanted)
    (hQ : ∀ h' es' t', Heap.SameBut a s.heap h' → SetX w h' a es' (ep + 1) t' → es'.toList.Perm es.toList → t'.mask = SetTable.sizeAbove wanted - 1 → t'.dummies = #[] → t'.place.size = es.size → Q () { s with heap := h' }) :
    wpAny (model P w) A (setRelay a wanted) Q E s := by
  obtain ⟨hM, hMn, h128⟩ := above_ok hw
  obtain ⟨t', order, e, hp, em, ed, el, er, ez⟩ := laid_ok hM (hs := es.map (·.1)) (by rw [Array.size_map]; omega) t.finger (t.movedTo (SetTable.sizeAbove wanted - 1)) t.led t.plain
  rw [Array.size_map] at hp ez
  have p2 := order_perm hp
  have z2 := perm_size p2
  have fit : t'.fits (order.filterMap (es[·]?)).size = true := by
    unfold SetTable.fits SetTable.fill
    rw [ed, z2, ez, em, Bool.and_eq_true, beq_iff_eq, decide_eq_true_eq]
    exact ⟨rfl, by show es.size + 0 ≤ _; omega⟩
  have e' : t.relaid (es.map (·.1)) wanted = some (t', order) := e
  unfold setRelay
  refine wpAny_bind (wpAny_setState_of R.obj rfl R.fits ?_)
  dsimp only
  refine wp_if_neg (by rw [sizeLine_eq]; omega) ?_
  try refine wpAny_bind (wpAny_pure ?_)
  rw [e']
  refine wpAny_bind ?_
  refine wp_if_neg (c := ((order.filterMap (es[·]?)).size != es.size) = true) (by rw [z2]; simp) ?_
  try refine wpAny_bind (wpAny_pure ?_)
  refine wpAny_pure ?_
  dsimp only
  refine wpAny_storeSet_of R.obj rfl ?_ (fits_of_scanBound (by rw [z2]; exact R.few))
  have sb : Heap.SameBut a s.heap (s.heap.update a (Obj.putSet (order.filterMap (es[·]?)) t')) := Heap.SameBut.update ..
  exact hQ _ _ t' sb (R.perm p2 (store_at R.obj rfl) fit er (R.led.imp id fun z => el.trans z)) p2 em ed ez

/-! ### walking -/
theorem walk_x {Q : Array (Int × Value) → Shared → Prop} (R : SetX w s.heap a es ep t) (hQ : ∀ ys d, ys.toList.Perm es.toList → Q ys { s with drawn := d }) : wpAny (model P w) A (setWalk a) Q E s := by
  have rf : Q es s := hQ es s.drawn (List.Perm.refl _)
  unfold setWalk
  refine wpAny_bind (wpAny_setState_of R.obj rfl R.fits ?_)
  dsimp only
  refine wpAny_bind (wpAny_byText ?_)
  by_cases hb : w.params.followText "set-order" = true
  · refine wp_if_pos hb ?_
    refine wpAny_bind (wpAny_askSetting ?_)
    exact wpAny_pure (hQ _ s.drawn (pick_perm _ es))
  · refine wp_if_neg hb ?_
    by_cases hd : (!t.plain && decide (es.size > 1)) = true
    · refine wp_if_pos (c := (!t.plain && decide (es.size > 1)) = true) hd ?_
      refine wpAny_bind (drawOrder_at _ _ _ _ (Nat.le_of_eq Array.length_toList) fun ys d p => wpAny_pure (hQ _ d ?_))
      simpa using p
    · refine wp_if_neg (c := (!t.plain && decide (es.size > 1)) = true) hd ?_
      have hl : t.led = true := R.led.resolve_left hb
      refine wpAny_bind (m := (_ : Sem Unit)) ?_
      refine wp_if_neg (c := (!t.led && decide (es.size > 1)) = true) (by rw [hl]; simp) ?_
      exact wpAny_pure (wpAny_pure rf)
end
end Cs

set_option Elab.async false
set_option linter.all false
set_option maxRecDepth 100000
set_option maxHeartbeats 1000000
namespace Cs
open PySem PySem.Spec PyProof.Rows L2
section
variable {P : Program} {w : World} {A : Around} {E : Value → Shared → Prop} {s : Shared} {a : Addr} {es : Array (Int × Value)} {ep : Nat} {t : SetTable}

theorem quiet_x {Q : Bool → Shared → Prop} : ∀ (l : List Addr), (∀ b ∈ l, ∃ es ep t, SetX w s.heap b es ep t) → Q true s → wpAny (model P w) A (setsQuiet l) Q E s := by
  intro l hl hq
  unfold setsQuiet
  refine wpAny_bind (wpAny_forIn_list _ (fun rest b s' => b.1 = none ∧ s' = s ∧ ∀ x ∈ rest, ∃ es ep t, SetX w s.heap x es ep t) _ ?turn ?fin l _ ⟨rfl, rfl, hl⟩)
  case fin =>
    rintro ⟨b1, b2⟩ s' ⟨h1, rfl, _⟩
    cases h1
    exact wpAny_pure hq
  case turn =>
    rintro x rest ⟨b1, b2⟩ s' ⟨h1, rfl, h2⟩
    cases h1
    obtain ⟨es, ep, t, R⟩ := h2 x List.mem_cons_self
    unfold setEntries
    refine wpAny_bind (wpAny_bind (wpAny_setState_of R.obj rfl R.fits (wpAny_pure ?_)))
    refine wpAny_bind (MeetsSeq2.wpAny_forIn_array _ (fun rest' b s'' => b.1 = none ∧ s'' = s' ∧ ∀ e ∈ rest', GoodE e) _ ?t2 ?f2 es _ ⟨rfl, rfl, R.good⟩)
    case f2 =>
      rintro ⟨b1, b2⟩ s' ⟨h1, rfl, _⟩
      cases h1
      exact wpAny_pure ⟨rfl, rfl, fun y hy => h2 y (List.mem_cons_of_mem _ hy)⟩
    case t2 =>
      rintro ⟨hh, v⟩ rest' ⟨b1, b2⟩ s' ⟨h1, rfl, hg⟩
      cases h1
      obtain ⟨k, tk, e1, _⟩ := hg _ List.mem_cons_self
      have e2 : v = .int k tk := e1
      subst e2
      dsimp only
      refine wpAny_pure ⟨rfl, rfl, fun y hy => hg y (List.mem_cons_of_mem _ hy)⟩
end
end Cs

set_option Elab.async false
set_option linter.all false
set_option maxRecDepth 100000
set_option maxHeartbeats 1000000
namespace Cs
open PySem PySem.Spec PyProof.Rows L2
section
variable {P : Program} {w : World} {A : Around} {E : Value → Shared → Prop} {s : Shared} {a : Addr} {es : Array (Int × Value)} {ep : Nat} {t : SetTable}
theorem unseen_x {others : List Addr} {f : Addr} {ef : Array (Int × Value)} {pf : Nat} {tf : SetTable} {Q : Array (Int × Value) → Shared → Prop} (R : SetX w s.heap a es ep t)
    (ho : ∀ b ∈ others, ∃ es ep t, SetX w s.heap b es ep t) (F : SetX w s.heap f ef pf tf)
    (hQ : ∀ ys d h' pf' tf', ys.toList.Perm es.toList → Heap.SameBut f s.heap h' → SetX w h' f ef pf' tf' → Q ys { s with heap := h', drawn := d }) :
    wpAny (model P w) A (setWalkUnseen a others (some f)) Q E s := by
  have rf : ∀ ys d, ys.toList.Perm es.toList → Q ys { s with drawn := d } := fun ys d p => hQ ys d s.heap pf tf p (Heap.SameBut.refl f s.heap) F
  unfold setWalkUnseen
  refine wpAny_bind (wpAny_setState_of R.obj rfl R.fits ?_)
  dsimp only
  refine wpAny_bind (wpAny_byText ?_)
  by_cases hb : (w.params.followText "set-order" || (t.led && t.plain) || decide (es.size ≤ 1)) = true
  · refine wp_if_pos (c := (w.params.followText "set-order" || (t.led && t.plain) || decide (es.size ≤ 1)) = true) hb ?_
    exact walk_x R rf
  · refine wp_if_neg (c := (w.params.followText "set-order" || (t.led && t.plain) || decide (es.size ≤ 1)) = true) hb ?_
    have hnt : ¬ w.params.followText "set-order" = true := fun z => hb (by rw [z] <;> rfl)
    have hl : t.led = true := R.led.resolve_left hnt
    try refine wpAny_bind (wpAny_pure ?_)
    refine wpAny_bind (quiet_x _ (fun b hb' => (List.mem_cons.mp hb').elim (fun z => ⟨es, ep, t, z ▸ R⟩) (ho b)) ?_)
    refine wp_if_neg (c := (!true) = true) (by simp) ?_
    try refine wpAny_bind (wpAny_pure ?_)
    refine wpAny_bind (wpAny_rule ?_)
    try dsimp only
    refine wpAny_bind (wpAny_setState_of F.obj rfl F.fits ?_)
    dsimp only
    split
    · refine wpAny_bind (wpAny_storeSet_of F.obj rfl ?_ (fits_of_scanBound F.few))
      refine wpAny_pure ?_
      refine hQ es s.drawn _ _ _ (List.Perm.refl _) (Heap.SameBut.update s.heap f _) (F.perm (List.Perm.refl _) (store_at F.obj rfl) ?_ F.ris ?_)
      · exact F.fits
      · refine F.led.imp id fun z => ?_
        show (tf.led && t.led) = true
        rw [z, hl] <;> rfl
    · try refine wpAny_bind (wpAny_pure ?_)
      exact wpAny_pure (rf es s.drawn (List.Perm.refl _))
theorem unseen_n {others : List Addr} {Q : Array (Int × Value) → Shared → Prop} (R : SetX w s.heap a es ep t)
    (ho : ∀ b ∈ others, ∃ es ep t, SetX w s.heap b es ep t)
    (rf : ∀ ys d, ys.toList.Perm es.toList → Q ys { s with drawn := d }) :
    wpAny (model P w) A (setWalkUnseen a others none) Q E s := by
  unfold setWalkUnseen
  refine wpAny_bind (wpAny_setState_of R.obj rfl R.fits ?_)
  dsimp only
  refine wpAny_bind (wpAny_byText ?_)
  by_cases hb : (w.params.followText "set-order" || (t.led && t.plain) || decide (es.size ≤ 1)) = true
  · refine wp_if_pos (c := (w.params.followText "set-order" || (t.led && t.plain) || decide (es.size ≤ 1)) = true) hb ?_
    exact walk_x R rf
  · refine wp_if_neg (c := (w.params.followText "set-order" || (t.led && t.plain) || decide (es.size ≤ 1)) = true) hb ?_
    try refine wpAny_bind (wpAny_pure ?_)
    refine wpAny_bind (quiet_x _ (fun b hb' => (List.mem_cons.mp hb').elim (fun z => ⟨es, ep, t, z ▸ R⟩) (ho b)) ?_)
    refine wp_if_neg (c := (!true) = true) (by simp) ?_
    try refine wpAny_bind (wpAny_pure ?_)
    refine wpAny_bind (wpAny_rule ?_)
    try dsimp only
    try refine wpAny_bind (wpAny_pure ?_)
    exact wpAny_pure (rf es s.drawn (List.Perm.refl _))

theorem room_x {more : Nat} {Q : Unit → Shared → Prop} (R : SetX w s.heap a es ep t) (hm : (es.size + more) * 2 < 128)
    (hQ : ∀ h' es' ep' t', Heap.SameBut a s.heap h' → SetX w h' a es' ep' t' → es'.toList.Perm es.toList →
      ((t' = t ∧ (t.fill + more) * 5 < t.mask * 3) ∨ (t'.mask = SetTable.sizeAbove ((es.size + more) * 2) - 1 ∧ t'.dummies = #[])) → Q () { s with heap := h' }) :
    wpAny (model P w) A (setRoomFor a more) Q E s := by
  have hz : t.place.size = es.size := by
    have f := R.fits
    unfold SetTable.fits at f
    rw [Bool.and_eq_true, beq_iff_eq] at f
    exact f.1
  unfold setRoomFor
  refine wpAny_bind (wpAny_setState_of R.obj rfl R.fits ?_)
  dsimp only
  by_cases c : (t.fill + more) * 5 ≥ t.mask * 3
  · have e : t.roomFor more = some ((t.place.size + more) * 2) := if_pos c
    rw [e]
    dsimp only
    rw [hz]
    refine relay_x R hm (by omega) fun h' es' t' sb X p em ed _ => hQ h' es' _ t' sb X p (.inr ⟨em, ed⟩)
  · have e : t.roomFor more = none := if_neg c
    rw [e]
    dsimp only
    exact wpAny_pure (hQ s.heap es ep t (Heap.SameBut.refl a s.heap) R (List.Perm.refl _) (.inl ⟨rfl, by omega⟩))
end
end Cs

set_option Elab.async false
set_option linter.all false
set_option maxRecDepth 100000
set_option maxHeartbeats 1000000
namespace Cs
open PySem PySem.Spec PyProof.Rows L2
section
variable {P : Program} {w : World} {A : Around} {E : Value → Shared → Prop} {s : Shared}
abbrev keys (es : Array (Int × Value)) : List Int := es.toList.map keyOf
theorem keys_perm {x y : Array (Int × Value)} (p : x.toList.Perm y.toList) (k : Int) : k ∈ keys x ↔ k ∈ keys y := (p.map keyOf).mem_iff
theorem sb_trans {a : Addr} {h1 h2 h3 : Heap} (x : Heap.SameBut a h1 h2) (y : Heap.SameBut a h2 h3) : Heap.SameBut a h1 h3 := x.trans y
theorem sx_other {h h' : Heap} {a b : Addr} {es : Array (Int × Value)} {ep : Nat} {t : SetTable} (R : SetX w h b es ep t) (sb : Heap.SameBut a h h') (hne : b ≠ a) : SetX w h' b es ep t :=
  R.move fun o e => (sb.2 b hne).trans e
theorem sr_other {h h' : Heap} {a b : Addr} {S : Int → Bool} {n : Nat} (R : SetR w h b S n) (sb : Heap.SameBut a h h') (hne : b ≠ a) : SetR w h' b S n :=
  R.at fun o e => (sb.2 b hne).trans e

/-- adding the members of a walk, one by one -/
theorem add_all {r : Addr} (f : (Int × Value) → PUnit → Sem (ForInStep PUnit)) (K : Shared → Prop) (hK : ∀ s1 h', Heap.SameBut r s1.heap h' → K s1 → K { s1 with heap := h' })
    (hf : ∀ e k tk s1 Q', e = (hashInt k, Value.int k tk) → K s1 → (wpAny (model P w) A (setAddHashed r (.int k tk) (hashInt k)) (fun _ s2 => K s2 ∧ Q' (.yield ⟨⟩) s2) E s1) → wpAny (model P w) A (f e ⟨⟩) Q' E s1)
    (ys : Array (Int × Value)) (g : ∀ e ∈ ys.toList, GoodE e) {S : Int → Bool} {n : Nat} (R : SetR w s.heap r S n) (hn : n + ys.size + 1 < scanBound) (hs : K s) {Q : PUnit → Shared → Prop}
    (hQ : ∀ h' S' n', SetR w h' r S' n' → (∀ k, S' k = true ↔ S k = true ∨ k ∈ keys ys) → n' ≤ n + ys.size → Heap.SameBut r s.heap h' → K { s with heap := h' } → Q ⟨⟩ { s with heap := h' }) :
    wpAny (model P w) A (forIn ys ⟨⟩ f) Q E s := by
  refine MeetsSeq2.wpAny_forIn_array f (fun rest _ s' => ∃ h' S' n', s' = { s with heap := h' } ∧ SetR w h' r S' n' ∧ (∀ k, (S' k = true ∨ k ∈ rest.map keyOf) ↔ (S k = true ∨ k ∈ keys ys)) ∧ n' + rest.length ≤ n + ys.size ∧
    Heap.SameBut r s.heap h' ∧ K { s with heap := h' } ∧ ∀ e ∈ rest, GoodE e) Q ?turn ?fin ys ⟨⟩ ⟨s.heap, S, n, rfl, R, fun k => Iff.rfl, by rw [Array.length_toList]; exact Nat.le_refl _, Heap.SameBut.refl r s.heap, hs, g⟩
  case fin =>
    rintro ⟨⟩ s' ⟨h', S', n', rfl, R', m, l, sb, k, _⟩
    exact hQ h' S' n' R' (fun k => by simpa using m k) (by simpa using l) sb k
  case turn =>
    rintro e rest ⟨⟩ s' ⟨h', S', n', rfl, R', m, l, sb, kk, g'⟩
    obtain ⟨k, tk, e1, e2⟩ := g' e List.mem_cons_self
    obtain ⟨eh, ev⟩ := e
    simp only at e1 e2
    subst e1 e2
    rw [List.length_cons] at l
    refine hf _ k tk _ _ rfl kk ?_
    refine setR_add_hashed (s := { s with heap := h' }) R' (by omega) fun h2 sb2 R2 => ?_
    have k2 : K { s with heap := h2 } := hK { s with heap := h' } h2 sb2 kk
    refine ⟨k2, h2, _, _, rfl, R2, fun j => ?_, ?_, sb_trans sb sb2, k2, fun e he => g' e (List.mem_cons_of_mem _ he)⟩
    · rw [← m j, List.map_cons, List.mem_cons, Bool.or_eq_true, decide_eq_true_eq]
      show ((S' j = true ∨ j = k) ∨ _) ↔ (S' j = true ∨ (j = k ∨ _))
      exact or_assoc
    · have : (if S' k = true then n' else n' + 1) ≤ n' + 1 := by split <;> omega
      omega

/-- what is merged into a set with members -/
theorem merge_more {r o : Addr} {each : Sem Unit} {er eo : Array (Int × Value)} {pr po : Nat} {tr to : SetTable} {Q : Unit → Shared → Prop} (hro : o ≠ r) (R : SetX w s.heap r er pr tr) (O : SetX w s.heap o eo po to)
    (hne : er.size ≠ 0) (hroom : (er.size + eo.size) * 2 < 128)
    (heach : ∀ s' Q', SetX w s'.heap o eo po to → Q' () s' → wpAny (model P w) A each Q' E s')
    (hQ : ∀ h' d' S' n', SetR w h' r S' n' → (∀ k, S' k = true ↔ k ∈ keys er ∨ k ∈ keys eo) → n' ≤ er.size + eo.size → Heap.SameBut r s.heap h' → Q () { s with heap := h', drawn := d' }) :
    wpAny (model P w) A (setMerge r o each) Q E s := by
  unfold setMerge
  refine wp_if_neg (c := (r == o) = true) (by simpa using Ne.symm hro) ?_
  try refine wpAny_bind (wpAny_pure ?_)
  refine wpAny_bind (wpAny_setState_of O.obj rfl O.fits ?_)
  dsimp only
  by_cases he : eo.isEmpty = true
  · refine wp_if_pos (c := eo.isEmpty = true) he ?_
    refine wpAny_pure (hQ s.heap s.drawn _ _ (R.toR (S := fun k => decide (k ∈ keys er)) (fun k => decide_eq_true_iff) rfl) (fun k => ?_) (by omega) (Heap.SameBut.refl r s.heap))
    have : eo = #[] := by simpa using he
    subst this
    simp
  · refine wp_if_neg (c := eo.isEmpty = true) he ?_
    try refine wpAny_bind (wpAny_pure ?_)
    refine wpAny_bind (room_x R hroom fun h1 er1 pr1 tr1 sb1 R1 p1 _ => ?_)
    have O1 := sx_other O sb1 hro
    refine wpAny_bind (wpAny_setState_of R1.obj rfl R1.fits ?_)
    dsimp only
    have z1 := perm_size p1
    have hfill : (tr1.fill != 0) = true := by
      have f := R1.fits
      unfold SetTable.fits at f
      rw [Bool.and_eq_true, beq_iff_eq] at f
      have : tr1.fill ≠ 0 := by
        unfold SetTable.fill
        omega
      simpa using this
    have er' : tr1.road to = .oneByOne := if_pos hfill
    rw [er']
    dsimp only
    refine wpAny_bind (unseen_x (s := { s with heap := h1 }) O1 (fun b hb => by rw [List.mem_singleton.mp hb]; exact ⟨_, _, _, R1⟩) R1 fun ys d h2 pf tf py sb2 R2 => ?_)
    have O2 := sx_other O1 sb2 hro
    have zy := perm_size py
    refine wpAny_bind (add_all (s := { s with heap := h2, drawn := d }) (P := P) (A := A) (E := E) _ (fun s1 => SetX w s1.heap o eo po to) (fun s1 h' sb k => sx_other k sb hro) ?hf ys (fun e he => O.good e (py.mem_iff.mp he))
      (R2.toR (S := fun k => decide (k ∈ keys er1)) (fun k => decide_eq_true_iff) rfl) (by have : scanBound = 4096 := rfl; omega) O2 ?hQ)
    case hQ =>
      intro h3 S' n' R3 m3 l3 sb3 _
      refine wpAny_pure (hQ h3 d S' n' R3 (fun k => ?_) (by omega) (sb_trans sb1 (sb_trans sb2 sb3)))
      rw [m3 k, decide_eq_true_iff, keys_perm p1 k, keys_perm py k]
    case hf =>
      intro e k tk s1 Q' ee kk hwp
      subst ee
      dsimp only
      refine wpAny_bind (wpAny_holding (wpAny_mono hwp (fun b s2 hs2 => ?_) fun _ _ z => z))
      obtain ⟨k2, q2⟩ := hs2
      refine wpAny_bind (heach s2 _ k2 ?_)
      refine wpAny_bind (wpAny_setState_of k2.obj rfl k2.fits ?_)
      refine wp_if_neg (c := (po != po) = true) (by simp) ?_
      exact wpAny_pure q2
end
end Cs

set_option Elab.async false
set_option linter.all false
set_option maxRecDepth 100000
set_option maxHeartbeats 1000000
namespace Cs
open PySem PySem.Spec PyProof.Rows L2
section
variable {P : Program} {w : World} {A : Around} {E : Value → Shared → Prop} {s : Shared}
theorem SetX.permTo {h h' : Heap} {a b : Addr} {es es' : Array (Int × Value)} {t t' : SetTable} {ep ep' : Nat} (R : SetX w h a es ep t) (p : es'.toList.Perm es.toList)
    (o : h'.get? b = some { cls := .type "set", dict := none, data := .set es' ep' t', slots := #[] }) (f : t'.fits es'.size = true) (r : Ris t'.place.toList) (l : w.params.followText "set-order" = true ∨ t'.led = true) : SetX w h' b es' ep' t' :=
  ⟨o, fun e he => R.good e (p.mem_iff.mp he), (p.map keyOf).nodup_iff.mpr R.nd, by rw [perm_size p]; exact R.few, f, r, l⟩
theorem nil_of_perm {es : Array (Int × Value)} (p : es.toList.Perm (#[] : Array (Int × Value)).toList) : es = #[] := by
  have q := List.perm_nil.mp p
  simpa using q
theorem merge_fresh {r o : Addr} {each : Sem Unit} {eo : Array (Int × Value)} {pr po : Nat} {tr to : SetTable} {Q : Unit → Shared → Prop} (hro : o ≠ r) (R : SetX w s.heap r #[] pr tr)
    (hm : tr.mask = 7) (hdm : tr.dummies = #[]) (O : SetX w s.heap o eo po to) (h63 : eo.size ≤ 63)
    (hQ : ∀ h' es' ep' t', SetX w h' r es' ep' t' → es'.toList.Perm eo.toList → Heap.SameBut r s.heap h' → Q () { s with heap := h' }) :
    wpAny (model P w) A (setMerge r o each) Q E s := by
  unfold setMerge
  refine wp_if_neg (c := (r == o) = true) (by simpa using Ne.symm hro) ?_
  try refine wpAny_bind (wpAny_pure ?_)
  refine wpAny_bind (wpAny_setState_of O.obj rfl O.fits ?_)
  dsimp only
  by_cases he : eo.isEmpty = true
  · refine wp_if_pos (c := eo.isEmpty = true) he ?_
    have e0 : eo = #[] := by simpa using he
    subst e0
    exact wpAny_pure (hQ s.heap _ _ _ R (List.Perm.refl _) (Heap.SameBut.refl r s.heap))
  · refine wp_if_neg (c := eo.isEmpty = true) he ?_
    try refine wpAny_bind (wpAny_pure ?_)
    have fr : tr.fill = 0 := by
      have f := R.fits
      unfold SetTable.fits at f
      rw [Bool.and_eq_true, beq_iff_eq] at f
      have f1 : tr.place.size = 0 := f.1
      unfold SetTable.fill
      rw [hdm, f1]
      rfl
    refine wpAny_bind (room_x R (by show (0 + eo.size) * 2 < 128; omega) fun h1 er1 pr1 tr1 sb1 R1 p1 alt => ?_)
    have e1 := nil_of_perm p1
    subst e1
    have O1 := sx_other O sb1 hro
    have hM : Msk tr1.mask ∧ eo.size ≤ tr1.mask ∧ tr1.dummies = #[] := by
      rcases alt with ⟨et, hlt⟩ | ⟨em, ed⟩
      · subst et
        rw [fr, hm] at hlt
        exact ⟨.inl hm, by rw [hm]; omega, hdm⟩
      · have z : (#[] : Array (Int × Value)).size = 0 := rfl
        rw [z] at em
        obtain ⟨a1, a2, a3⟩ := above_ok (n := (0 + eo.size) * 2) (by omega)
        exact ⟨em ▸ a1, by omega, ed⟩
    obtain ⟨hM1, hM2, hM3⟩ := hM
    have fr1 : tr1.fill = 0 := by
      have f := R1.fits
      unfold SetTable.fits at f
      rw [Bool.and_eq_true, beq_iff_eq] at f
      have f1 : tr1.place.size = 0 := f.1
      unfold SetTable.fill
      rw [hM3, f1]
      rfl
    refine wpAny_bind (wpAny_setState_of R1.obj rfl R1.fits ?_)
    dsimp only
    have led : w.params.followText "set-order" = true ∨ (tr1.led && to.led) = true := by
      rcases R1.led with z | z
      · exact .inl z
      · rcases O1.led with y | y
        · exact .inl y
        · exact .inr (by rw [z, y] <;> rfl)
    have er : tr1.road to = if (tr1.mask == to.mask && to.dummies.isEmpty) = true then .slotForSlot else .clean := if_neg (by rw [fr1]; simp)
    by_cases c : (tr1.mask == to.mask && to.dummies.isEmpty) = true
    · rw [er, if_pos c]
      dsimp only
      refine wpAny_storeSet_of R1.obj rfl ?_ (fits_of_scanBound O.few)
      refine hQ _ _ _ _ (O1.permTo (List.Perm.refl _) (store_at R1.obj rfl) ?_ O1.ris led) (List.Perm.refl _) (sb_trans sb1 (Heap.SameBut.update h1 r _))
      exact O1.fits
    · rw [er, if_neg c]
      dsimp only
      obtain ⟨t', order, e, hp, em, ed, el, eR, ez⟩ := laid_ok hM1 (hs := eo.map (·.1)) (by rw [Array.size_map]; exact hM2) tr1.finger tr1.moves (tr1.led && to.led) (tr1.plain && to.plain)
      rw [Array.size_map] at hp ez
      have p2 := order_perm hp
      have z2 := perm_size p2
      rw [e]
      refine wpAny_bind ?_
      refine wp_if_neg (c := ((order.filterMap (eo[·]?)).size != eo.size) = true) (by rw [z2]; simp) ?_
      try refine wpAny_bind (wpAny_pure ?_)
      refine wpAny_pure ?_
      dsimp only
      refine wpAny_storeSet_of R1.obj rfl ?_ (fits_of_scanBound (by rw [z2]; exact O.few))
      refine hQ _ _ _ _ (O1.permTo p2 (store_at R1.obj rfl) ?_ eR (by rw [el]; exact led)) p2 (sb_trans sb1 (Heap.SameBut.update h1 r _))
      unfold SetTable.fits SetTable.fill
      rw [ed, z2, ez, em, Bool.and_eq_true, beq_iff_eq, decide_eq_true_eq]
      exact ⟨rfl, by show eo.size + 0 ≤ _; omega⟩

/-! ### the words of the class -/
abbrev newObjOf (w : World) : Obj := { cls := .type "set", dict := none, data := .set #[] 0 (.fresh 0 0 (!w.params.followText "set-order")) }
theorem fresh_x (h : Heap) : SetX w (h.push (newObjOf w)) h.objs.size #[] 0 (.fresh 0 0 (!w.params.followText "set-order")) :=
  ⟨Heap.get?_push_size _ rfl, fun e he => by simp at he, by simp, by decide, rfl, List.Pairwise.nil, by
    show _ ∨ (!w.params.followText "set-order") = true
    cases w.params.followText "set-order" <;> simp⟩
theorem SetX.ty {h : Heap} {a : Addr} {es : Array (Int × Value)} {ep : Nat} {t : SetTable} (R : SetX w h a es ep t) {s : Shared} (e : s.heap = h) : s.TypeIs (.ref a) "set" :=
  ⟨_, by rw [e]; exact R.obj, rfl⟩
theorem base_x {a : Addr} {Q : Value → Shared → Prop} (hT : s.TypeIs (.ref a) "set") (q : Q (.type "set") s) : wpAny (model P w) A (Builtin.Frozenset.baseOf a) Q E s := by
  unfold Builtin.Frozenset.baseOf
  refine wpAny_bind (wpAny_isInstance (b := true) hT sub_set_self ?_)
  exact wpAny_pure q
theorem any_x {a : Addr} {Q : Bool → Shared → Prop} (hT : s.TypeIs (.ref a) "set") (q : Q true s) : wpAny (model P w) A (Builtin.Frozenset.isAnySet (.ref a)) Q E s := by
  unfold Builtin.Frozenset.isAnySet
  refine wpAny_bind (wpAny_isInstance (b := true) hT sub_set_self ?_)
  exact wpAny_pure q
theorem new_x {Q : Value → Shared → Prop} (q : Q (.ref s.heap.objs.size) { s with heap := s.heap.push (newObjOf w) }) : wpAny (model P w) A (newSet (.type "set")) Q E s := by
  unfold newSet
  refine wpAny_bind (wpAny_byText ?_)
  dsimp only
  simp only [newObj]
  exact wpAny_bind (wpAny_alloc (wpAny_pure q))
theorem size_x {a : Addr} {es : Array (Int × Value)} {ep : Nat} {t : SetTable} {Q : Nat → Shared → Prop} (R : SetX w s.heap a es ep t) (q : Q es.size s) : wpAny (model P w) A (Builtin.Frozenset.sizeOf a) Q E s := by
  unfold Builtin.Frozenset.sizeOf setEntries
  exact wpAny_bind (wpAny_bind (wpAny_setState_of R.obj rfl R.fits (wpAny_pure (wpAny_pure q))))
theorem unchanged_x {id : String} {a : Addr} {es : Array (Int × Value)} {ep : Nat} {t : SetTable} {Q : Unit → Shared → Prop} (R : SetX w s.heap a es ep t) (q : Q () s) : wpAny (model P w) A (Builtin.Frozenset.unchanged id a ep) Q E s := by
  unfold Builtin.Frozenset.unchanged
  refine wpAny_bind (wpAny_setEpoch_of R.obj rfl R.fits ?_)
  exact wp_if_neg (c := (ep != ep) = true) (by simp) (wpAny_pure q)

/-- heaps in which all is as it was but what is new -/
def Old (h h' : Heap) : Prop := ∀ b o, h.get? b = some o → h'.get? b = some o
theorem old_push (h : Heap) (o : Obj) : Old h (h.push o) := fun _ _ e => Heap.get?_push_of_some o e
theorem old_but {h h' : Heap} {o : Obj} (sb : Heap.SameBut h.objs.size (h.push o) h') : Old h h' := fun b u e => by
  rw [sb.2 b (Nat.ne_of_lt (Heap.lt_size e))]
  exact Heap.get?_push_of_some o e
theorem copy_x {a : Addr} {es : Array (Int × Value)} {ep : Nat} {t : SetTable} {Q : Value → Shared → Prop} (R : SetX w s.heap a es ep t) (h63 : es.size ≤ 63)
    (hQ : ∀ h' es' ep' t', SetX w h' s.heap.objs.size es' ep' t' → es'.toList.Perm es.toList → Heap.SameBut s.heap.objs.size (s.heap.push (newObjOf w)) h' → Q (.ref s.heap.objs.size) { s with heap := h' }) :
    wpAny (model P w) A (Builtin.Frozenset.copyOf a) Q E s := by
  unfold Builtin.Frozenset.copyOf
  refine wpAny_bind (base_x (R.ty rfl) ?_)
  refine wpAny_bind (new_x ?_)
  refine wpAny_bind (wpAny_pure ?_)
  have hne : a ≠ s.heap.objs.size := Nat.ne_of_lt (Heap.lt_size R.obj)
  refine wpAny_bind (merge_fresh (s := { s with heap := s.heap.push (newObjOf w) }) hne (fresh_x s.heap) rfl rfl (R.move fun o e => old_push _ _ _ _ e) h63 fun h' es' ep' t' X p sb => ?_)
  exact wpAny_pure (hQ h' es' ep' t' X p sb)
end
end Cs

set_option Elab.async false
set_option linter.all false
set_option maxRecDepth 100000
set_option maxHeartbeats 1000000
namespace Cs
open PySem PySem.Spec PyProof.Rows L2
section
variable {P : Program} {w : World} {A : Around} {E : Value → Shared → Prop} {s : Shared}
/-- adding those of a walk that a test lets in -/
theorem add_some {r : Addr} (C : Int → Bool) (f : (Int × Value) → PUnit → Sem (ForInStep PUnit)) (K : Shared → Prop) (hK : ∀ s1 h', Heap.SameBut r s1.heap h' → K s1 → K { s1 with heap := h' })
    (hf : ∀ e k tk s1 Q', e = (hashInt k, Value.int k tk) → K s1 → (C k = true → wpAny (model P w) A (setAddHashed r (.int k tk) (hashInt k)) (fun _ s2 => K s2 ∧ Q' (.yield ⟨⟩) s2) E s1) → (C k = false → Q' (.yield ⟨⟩) s1) →
      wpAny (model P w) A (f e ⟨⟩) Q' E s1)
    (ys : Array (Int × Value)) (g : ∀ e ∈ ys.toList, GoodE e) {S : Int → Bool} {n : Nat} (R : SetR w s.heap r S n) (hn : n + ys.size + 1 < scanBound) (hs : K s) {Q : PUnit → Shared → Prop}
    (hQ : ∀ h' S' n', SetR w h' r S' n' → (∀ k, S' k = true ↔ S k = true ∨ (k ∈ keys ys ∧ C k = true)) → n' ≤ n + ys.size → Heap.SameBut r s.heap h' → K { s with heap := h' } → Q ⟨⟩ { s with heap := h' }) :
    wpAny (model P w) A (forIn ys ⟨⟩ f) Q E s := by
  refine MeetsSeq2.wpAny_forIn_array f (fun rest _ s' => ∃ h' S' n', s' = { s with heap := h' } ∧ SetR w h' r S' n' ∧ (∀ k, (S' k = true ∨ (k ∈ rest.map keyOf ∧ C k = true)) ↔ (S k = true ∨ (k ∈ keys ys ∧ C k = true))) ∧ n' + rest.length ≤ n + ys.size ∧
    Heap.SameBut r s.heap h' ∧ K { s with heap := h' } ∧ ∀ e ∈ rest, GoodE e) Q ?turn ?fin ys ⟨⟩ ⟨s.heap, S, n, rfl, R, fun k => Iff.rfl, by rw [Array.length_toList]; exact Nat.le_refl _, Heap.SameBut.refl r s.heap, hs, g⟩
  case fin =>
    rintro ⟨⟩ s' ⟨h', S', n', rfl, R', m, l, sb, k, _⟩
    exact hQ h' S' n' R' (fun k => by simpa using m k) (by simpa using l) sb k
  case turn =>
    rintro e rest ⟨⟩ s' ⟨h', S', n', rfl, R', m, l, sb, kk, g'⟩
    obtain ⟨k, tk, e1, e2⟩ := g' e List.mem_cons_self
    obtain ⟨eh, ev⟩ := e
    simp only at e1 e2
    subst e1 e2
    rw [List.length_cons] at l
    refine hf _ k tk _ _ rfl kk (fun hc => ?_) (fun hc => ?_)
    · refine setR_add_hashed (s := { s with heap := h' }) R' (by omega) fun h2 sb2 R2 => ?_
      have k2 : K { s with heap := h2 } := hK { s with heap := h' } h2 sb2 kk
      refine ⟨k2, h2, _, _, rfl, R2, fun j => ?_, ?_, sb_trans sb sb2, k2, fun e he => g' e (List.mem_cons_of_mem _ he)⟩
      · rw [← m j, List.map_cons, List.mem_cons, Bool.or_eq_true, decide_eq_true_eq]
        show ((S' j = true ∨ j = k) ∨ _) ↔ (S' j = true ∨ ((j = k ∨ _) ∧ _))
        constructor
        · rintro ((z | z) | ⟨z, z2⟩)
          · exact .inl z
          · exact .inr ⟨.inl z, z ▸ hc⟩
          · exact .inr ⟨.inr z, z2⟩
        · rintro (z | ⟨z | z, z2⟩)
          · exact .inl (.inl z)
          · exact .inl (.inr z)
          · exact .inr ⟨z, z2⟩
      · have : (if S' k = true then n' else n' + 1) ≤ n' + 1 := by split <;> omega
        omega
    · refine ⟨h', S', n', rfl, R', fun j => ?_, by omega, sb, kk, fun e he => g' e (List.mem_cons_of_mem _ he)⟩
      rw [← m j, List.map_cons, List.mem_cons]
      show (S' j = true ∨ _) ↔ (S' j = true ∨ ((j = k ∨ _) ∧ _))
      constructor
      · rintro (z | ⟨z, z2⟩)
        · exact .inl z
        · exact .inr ⟨.inr z, z2⟩
      · rintro (z | ⟨z | z, z2⟩)
        · exact .inl z
        · rw [z, hc] at z2
          cases z2
        · exact .inr ⟨z, z2⟩

theorem find_x {a : Addr} {es : Array (Int × Value)} {ep : Nat} {t : SetTable} {k : Int} {tk : Tok} {Q : Option Nat → Shared → Prop} (R : SetX w s.heap a es ep t)
    (h : ∀ i : Option Nat, (i = none ∧ k ∉ keys es ∨ ∃ j, i = some j ∧ (keys es)[j]? = some k) → Q i s) : wpAny (model P w) A (setFind a (.int k tk) (hashInt k)) Q E s := by
  have hkey : (intKind P w).is k (.int k tk) = true := intKind_is P w k tk
  have hel : ElemsOf (intKind P w) es.toList := good_elems R.good
  unfold setFind setFindIn
  refine wpAny_bind (wpAny_setState_of R.obj rfl R.fits ?_)
  dsimp only
  rw [byScan_of (x := .int k tk) rfl R.few hel]
  simp only [↓reduceIte]
  refine wpAny_bind (wpAny_rule ?_)
  refine wpAny_bind (wpAny_setScan_of (knd := intKind P w) hkey R.obj rfl R.fits hel ?_)
  cases hr : List.findIdx? (fun e => (intKind P w).is k e.2) es.toList with
  | none =>
    dsimp only
    refine wpAny_pure (h none (.inl ⟨rfl, fun z => ?_⟩))
    obtain ⟨e, he, q⟩ := (good_mem (P := P) (w := w) R.good k).1 z
    have c := List.findIdx?_eq_none_iff.mp hr e he
    rw [q] at c
    cases c
  | some j =>
    dsimp only
    obtain ⟨hj, pj, _⟩ := List.findIdx?_eq_some_iff_getElem.mp hr
    refine wpAny_pure (h (some (0 + j)) (.inr ⟨0 + j, rfl, ?_⟩))
    rw [Nat.zero_add, List.getElem?_map, List.getElem?_eq_getElem hj]
    have := (good_is (P := P) (w := w) (R.good _ (List.getElem_mem hj)) k).1 pj
    exact congrArg some this
theorem found_x {a : Addr} {es : Array (Int × Value)} {ep : Nat} {t : SetTable} {k : Int} {tk : Tok} {Q : Option Nat → Shared → Prop} (R : SetX w s.heap a es ep t)
    (h : ∀ i : Option Nat, i.isSome = decide (k ∈ keys es) → Q i s) : wpAny (model P w) A (setFind a (.int k tk) (hashInt k)) Q E s := by
  refine find_x R fun i hi => h i ?_
  rcases hi with ⟨rfl, z⟩ | ⟨j, rfl, z⟩
  · simp [z]
  · have : k ∈ keys es := List.mem_of_getElem? z
    simp [this]

/-- a & b -/
theorem and_x {id : String} {a b : Addr} {ea eb : Array (Int × Value)} {pa pb : Nat} {ta tb : SetTable} {Q : Value → Shared → Prop} (hne : b ≠ a) (RA : SetX w s.heap a ea pa ta) (RB : SetX w s.heap b eb pb tb)
    (hl : ea.size ≤ 63) (hl2 : eb.size ≤ 63)
    (hQ : ∀ h' d' S n, SetR w h' s.heap.objs.size S n → (∀ k, S k = true ↔ k ∈ keys ea ∧ k ∈ keys eb) → n ≤ 63 → Old s.heap h' → Q (.ref s.heap.objs.size) { s with heap := h', drawn := d' }) :
    wpAny (model P w) A (Builtin.Frozenset.intersection id a (.ref b)) Q E s := by
  have hsb : scanBound = 4096 := rfl
  have na : a ≠ s.heap.objs.size := Nat.ne_of_lt (Heap.lt_size RA.obj)
  have nb : b ≠ s.heap.objs.size := Nat.ne_of_lt (Heap.lt_size RB.obj)
  unfold Builtin.Frozenset.intersection
  refine wp_if_neg (c := ((Value.ref b == Value.ref a) = true)) (by simpa using hne) ?_
  try refine wpAny_bind (wpAny_pure ?_)
  refine wpAny_bind (base_x (RA.ty rfl) ?_)
  refine wpAny_bind (new_x ?_)
  refine wpAny_bind (wpAny_pure ?_)
  have RA1 : SetX w (s.heap.push (newObjOf w)) a ea pa ta := RA.move fun o e => old_push _ _ _ _ e
  have RB1 : SetX w (s.heap.push (newObjOf w)) b eb pb tb := RB.move fun o e => old_push _ _ _ _ e
  have R1 := fresh_x (w := w) s.heap
  refine wpAny_bind (wpAny_holding ?_)
  refine wpAny_bind (any_x (RB1.ty rfl) ?_)
  refine wp_if_pos (c := (true = true)) rfl ?_
  refine wpAny_bind (wpAny_pure ?_)
  refine wpAny_bind (size_x (s := { s with heap := s.heap.push (newObjOf w) }) RB1 ?_)
  refine wpAny_bind (size_x (s := { s with heap := s.heap.push (newObjOf w) }) RA1 ?_)
  have key : ∀ (q v : Addr) (eq ev : Array (Int × Value)) (pq pv : Nat) (tq tv : SetTable), SetX w (s.heap.push (newObjOf w)) q eq pq tq → SetX w (s.heap.push (newObjOf w)) v ev pv tv → ev.size ≤ 63 → q ≠ s.heap.objs.size → v ≠ s.heap.objs.size →
      (∀ k, k ∈ keys ev ∧ k ∈ keys eq ↔ k ∈ keys ea ∧ k ∈ keys eb) → wpAny (model P w) A (do
        let was ← setEpoch v
        for (h, x) in ← setWalkUnseen v [q, s.heap.objs.size] (some s.heap.objs.size) do
          holding [x] do
            if (← setFind q x h).isSome then
              let _ ← setAddHashed s.heap.objs.size x h
          Builtin.Frozenset.unchanged id v was) (fun _ s' => wpAny (model P w) A (pure (Value.ref s.heap.objs.size)) Q E s') E { s with heap := s.heap.push (newObjOf w) } := by
    intro q v eq ev pq pv tq tv RQ RV hv nq nv hk
    refine wpAny_bind (wpAny_setEpoch_of RV.obj rfl RV.fits ?_)
    refine wpAny_bind (unseen_x (s := { s with heap := s.heap.push (newObjOf w) }) RV (fun c hc => ?_) R1 fun ys d h2 pf tf py sb2 R2 => ?_)
    · rcases List.mem_cons.mp hc with z | z
      · exact ⟨_, _, _, z ▸ RQ⟩
      · rw [List.mem_singleton.mp z]
        exact ⟨_, _, _, R1⟩
    have RQ2 := sx_other RQ sb2 nq
    have RV2 := sx_other RV sb2 nv
    have zy := perm_size py
    refine wpAny_bind (add_some (P := P) (A := A) (E := E) (s := { s with heap := h2, drawn := d }) (r := s.heap.objs.size) (fun k => decide (k ∈ keys eq)) _ (fun s1 => SetX w s1.heap q eq pq tq ∧ SetX w s1.heap v ev pv tv) (fun s1 h' sb k => ⟨sx_other k.1 sb nq, sx_other k.2 sb nv⟩) ?hf ys
      (fun e he => RV.good e (py.mem_iff.mp he)) (R2.toR (S := fun _ => false) (fun k => by simp) rfl) (by show 0 + ys.size + 1 < scanBound; omega) ⟨RQ2, RV2⟩ ?hQ)
    case hQ =>
      intro h3 S' n' R3 m3 l3 sb3 _
      refine wpAny_pure (wpAny_pure (hQ h3 d S' n' R3 (fun k => ?_) ?_ ?_))
      · rw [m3 k, keys_perm py k, decide_eq_true_iff, ← hk k]
        simp
      · have : n' ≤ 0 + ys.size := l3
        omega
      · exact old_but (sb_trans sb2 sb3)
    case hf =>
      intro e k tk s1 Q' ee kk h1 h0
      subst ee
      dsimp only
      refine wpAny_bind (wpAny_holding ?_)
      refine wpAny_bind (found_x kk.1 fun i hi => ?_)
      by_cases c : k ∈ keys eq
      · refine wp_if_pos (by rw [hi]; exact decide_eq_true c) ?_
        refine wpAny_bind (wpAny_mono (h1 (decide_eq_true c)) (fun b s2 hs2 => ?_) fun _ _ z => z)
        refine wpAny_pure ?_
        refine wpAny_bind (unchanged_x hs2.1.2 ?_)
        exact wpAny_pure hs2.2
      · refine wp_if_neg (by rw [hi]; simpa using c) ?_
        refine wpAny_pure ?_
        refine wpAny_bind (unchanged_x kk.2 ?_)
        exact wpAny_pure (h0 (decide_eq_false c))
  by_cases c : eb.size > ea.size
  · rw [if_pos c]
    exact key b a eb ea pb pa tb ta RB1 RA1 hl nb na (fun k => Iff.rfl)
  · rw [if_neg c]
    exact key a b ea eb pa pb ta tb RA1 RB1 hl2 na nb (fun k => And.comm)
end
end Cs

set_option Elab.async false
set_option linter.all false
set_option maxRecDepth 100000
set_option maxHeartbeats 1000000
namespace Cs
open PySem PySem.Spec PyProof.Rows L2
section
variable {P : Program} {w : World} {A : Around} {E : Value → Shared → Prop} {s : Shared}
theorem map_out {α β : Type} (f : α → β) : ∀ (l : List α) (i : Nat), (l.map f).eraseIdx i = (l.eraseIdx i).map f
  | [], i => by simp
  | x :: l, 0 => by simp
  | x :: l, i + 1 => by simp [map_out f l i]
/-- a | b -/
theorem union_x {id : String} {a b : Addr} {ea eb : Array (Int × Value)} {pa pb : Nat} {ta tb : SetTable} {Q : Unit → Shared → Prop} (hne : b ≠ a) (RA : SetX w s.heap a ea pa ta) (RB : SetX w s.heap b eb pb tb)
    (ha : ea.size ≠ 0 ∨ (ea = #[] ∧ ta.mask = 7 ∧ ta.dummies = #[])) (hl : (ea.size + eb.size) * 2 < 128)
    (hQ : ∀ h' d' S n, SetR w h' a S n → (∀ k, S k = true ↔ k ∈ keys ea ∨ k ∈ keys eb) → n ≤ ea.size + eb.size → Heap.SameBut a s.heap h' → Q () { s with heap := h', drawn := d' }) :
    wpAny (model P w) A (Builtin.Frozenset.updateFrom id a (.ref b)) Q E s := by
  unfold Builtin.Frozenset.updateFrom
  refine wpAny_bind (any_x (RB.ty rfl) ?_)
  refine wp_if_pos (c := (true = true)) rfl ?_
  refine wpAny_bind (wpAny_pure ?_)
  refine wpAny_bind (wpAny_setEpoch_of RB.obj rfl RB.fits ?_)
  rcases ha with ha | ⟨e0, em, ed⟩
  · refine merge_more hne RA RB ha hl (fun s' Q' k q => unchanged_x k q) fun h' d' S' n' R m l sb => ?_
    exact hQ h' d' S' n' R m l sb
  · subst e0
    have z0 : (#[] : Array (Int × Value)).size = 0 := rfl
    refine merge_fresh hne RA em ed RB (by omega) fun h' es' ep' t' X p sb => ?_
    have z := perm_size p
    exact hQ h' s.drawn _ _ (X.toR (S := fun k => decide (k ∈ keys es')) (fun k => decide_eq_true_iff) rfl) (fun k => by rw [decide_eq_true_iff, keys_perm p k]; simp) (by omega) sb

/-- what is struck out -/
theorem discard_x {a : Addr} {es : Array (Int × Value)} {ep : Nat} {t : SetTable} {k : Int} {tk : Tok} {Q : Bool → Shared → Prop} (R : SetX w s.heap a es ep t)
    (hQ : ∀ b h' es' ep' t', SetX w h' a es' ep' t' → (∀ j, j ∈ keys es' ↔ j ∈ keys es ∧ j ≠ k) → es'.size ≤ es.size → Heap.SameBut a s.heap h' → Q b { s with heap := h' }) :
    wpAny (model P w) A (setDiscardHashed a (.int k tk) (hashInt k)) Q E s := by
  unfold setDiscardHashed
  refine wpAny_bind (find_x R fun i hi => ?_)
  rcases hi with ⟨rfl, z⟩ | ⟨i, rfl, z⟩
  · exact wpAny_pure (hQ false s.heap es ep t R (fun j => ⟨fun q => ⟨q, fun e => z (e ▸ q)⟩, fun q => q.1⟩) (Nat.le_refl _) (Heap.SameBut.refl a s.heap))
  · dsimp only
    refine wpAny_bind (wpAny_setState_of R.obj rfl R.fits ?_)
    dsimp only
    have hf := R.fits
    unfold SetTable.fits SetTable.fill at hf
    rw [Bool.and_eq_true, beq_iff_eq, decide_eq_true_eq] at hf
    have hi : i < es.toList.length := by
      have := (List.getElem?_eq_some_iff.mp z).1
      rw [List.length_map] at this
      exact this
    have hi2 : i < t.place.size := by rw [hf.1, ← Array.length_toList]; exact hi
    have er : ∀ {α : Type} (xs : Array α), (SetTable.eraseAt xs i).toList = xs.toList.eraseIdx i := fun xs => by
      unfold SetTable.eraseAt
      rw [List.eraseIdx_eq_take_drop_succ]
      simp [List.extract_eq_take_drop, List.take_of_length_le]
    have ed : t.drop i = { t with place := SetTable.eraseAt t.place i, dummies := SetTable.insertAt t.dummies (SetTable.below t.dummies t.place[i]) t.place[i] } := by
      unfold SetTable.drop
      rw [Array.getElem?_eq_getElem hi2]
    have l1 : (SetTable.eraseAt es i).size + 1 = es.size := by
      rw [← Array.length_toList, er, List.length_eraseIdx, if_pos hi, Array.length_toList]
      rw [Array.length_toList] at hi
      omega
    have l2 : (SetTable.eraseAt t.place i).size + 1 = t.place.size := by
      rw [← Array.length_toList, er, List.length_eraseIdx, Array.length_toList, if_pos hi2]
      omega
    have l3 : ∀ p x, (SetTable.insertAt t.dummies p x).size = t.dummies.size + 1 := fun p x => by
      have := (SetTable.insertAt_perm t.dummies p x).length_eq
      rw [Array.length_toList, Array.length_toList, Array.size_push] at this
      exact this
    refine wpAny_bind (wpAny_storeSet_of R.obj rfl ?_ (fits_of_scanBound (by have := R.few; omega)))
    refine wpAny_bind (wpAny_point ?_)
    have ek : keys (SetTable.eraseAt es i) = (keys es).eraseIdx i := by
      show (SetTable.eraseAt es i).toList.map keyOf = _
      rw [er]
      exact (map_out keyOf es.toList i).symm
    have pk : (k :: (keys es).eraseIdx i).Perm (keys es) := erase_perm (keys es) i k z
    have nd : (k :: (keys es).eraseIdx i).Nodup := pk.nodup_iff.mpr R.nd
    refine wpAny_pure (hQ true _ _ _ _ ⟨store_at R.obj rfl, fun e he => R.good e ?_, ?_, ?_, ?_, ?_, ?_⟩ (fun j => ?_) (by omega) (Heap.SameBut.update s.heap a _))
    · rw [er] at he
      exact List.mem_of_mem_eraseIdx he
    · show (keys (SetTable.eraseAt es i)).Nodup
      rw [ek]
      exact (List.nodup_cons.mp nd).2
    · have := R.few
      omega
    · rw [ed]
      unfold SetTable.fits SetTable.fill
      rw [Bool.and_eq_true, beq_iff_eq, decide_eq_true_eq]
      simp only
      rw [l3]
      exact ⟨by omega, by omega⟩
    · rw [ed]
      show Ris (SetTable.eraseAt t.place i).toList
      rw [er]
      exact List.Pairwise.sublist (List.eraseIdx_sublist _ _) R.ris
    · rw [ed]
      exact R.led
    · rw [ek, ← (pk.mem_iff (a := j)), List.mem_cons]
      constructor
      · intro q
        exact ⟨.inr q, fun e => (List.nodup_cons.mp nd).1 (e ▸ q)⟩
      · rintro ⟨q | q, q2⟩
        · exact absurd q q2
        · exact q

theorem strike_all {r : Addr} (f : (Int × Value) → PUnit → Sem (ForInStep PUnit)) (K : Shared → Prop) (hK : ∀ s1 h', Heap.SameBut r s1.heap h' → K s1 → K { s1 with heap := h' })
    (hf : ∀ e k tk s1 Q', e = (hashInt k, Value.int k tk) → K s1 → (wpAny (model P w) A (setDiscardHashed r (.int k tk) (hashInt k)) (fun _ s2 => K s2 ∧ Q' (.yield ⟨⟩) s2) E s1) → wpAny (model P w) A (f e ⟨⟩) Q' E s1)
    (ys : Array (Int × Value)) (g : ∀ e ∈ ys.toList, GoodE e) {es : Array (Int × Value)} {ep : Nat} {t : SetTable} (R : SetX w s.heap r es ep t) (hs : K s) {Q : PUnit → Shared → Prop}
    (hQ : ∀ h' es' ep' t', SetX w h' r es' ep' t' → (∀ k, k ∈ keys es' ↔ k ∈ keys es ∧ k ∉ keys ys) → es'.size ≤ es.size → Heap.SameBut r s.heap h' → K { s with heap := h' } → Q ⟨⟩ { s with heap := h' }) :
    wpAny (model P w) A (forIn ys ⟨⟩ f) Q E s := by
  refine MeetsSeq2.wpAny_forIn_array f (fun rest _ s' => ∃ h' es' ep' t', s' = { s with heap := h' } ∧ SetX w h' r es' ep' t' ∧ (∀ k, (k ∈ keys es' ∧ k ∉ rest.map keyOf) ↔ (k ∈ keys es ∧ k ∉ keys ys)) ∧ es'.size ≤ es.size ∧
    Heap.SameBut r s.heap h' ∧ K { s with heap := h' } ∧ ∀ e ∈ rest, GoodE e) Q ?turn ?fin ys ⟨⟩ ⟨s.heap, es, ep, t, rfl, R, fun k => Iff.rfl, Nat.le_refl _, Heap.SameBut.refl r s.heap, hs, g⟩
  case fin =>
    rintro ⟨⟩ s' ⟨h', es', ep', t', rfl, R', m, l, sb, k, _⟩
    exact hQ h' es' ep' t' R' (fun k => by simpa using m k) l sb k
  case turn =>
    rintro e rest ⟨⟩ s' ⟨h', es', ep', t', rfl, R', m, l, sb, kk, g'⟩
    obtain ⟨k, tk, e1, e2⟩ := g' e List.mem_cons_self
    obtain ⟨eh, ev⟩ := e
    simp only at e1 e2
    subst e1 e2
    refine hf _ k tk _ _ rfl kk ?_
    refine discard_x (s := { s with heap := h' }) R' fun b h2 es2 ep2 t2 R2 m2 l2 sb2 => ?_
    have k2 : K { s with heap := h2 } := hK { s with heap := h' } h2 sb2 kk
    refine ⟨k2, h2, _, _, _, rfl, R2, fun j => ?_, by omega, sb_trans sb sb2, k2, fun e he => g' e (List.mem_cons_of_mem _ he)⟩
    rw [← m j, List.map_cons, List.mem_cons, m2 j]
    show ((j ∈ keys es' ∧ j ≠ k) ∧ _) ↔ (j ∈ keys es' ∧ ¬ (j = k ∨ _))
    constructor
    · rintro ⟨⟨z1, z2⟩, z3⟩
      exact ⟨z1, fun z => z.elim z2 z3⟩
    · rintro ⟨z1, z2⟩
      exact ⟨⟨z1, fun z => z2 (.inl z)⟩, fun z => z2 (.inr z)⟩

theorem tidy_x {a : Addr} {es : Array (Int × Value)} {ep : Nat} {t : SetTable} {Q : Unit → Shared → Prop} (R : SetX w s.heap a es ep t) (hl : es.size ≤ 31)
    (hQ : ∀ h' es' ep' t', SetX w h' a es' ep' t' → es'.toList.Perm es.toList → Heap.SameBut a s.heap h' → Q () { s with heap := h' }) :
    wpAny (model P w) A (setTidy a) Q E s := by
  unfold setTidy
  refine wpAny_bind (wpAny_setState_of R.obj rfl R.fits ?_)
  dsimp only
  have eg : SetTable.grown es.size = es.size * 4 := if_neg (by omega)
  split
  · rw [eg]
    exact relay_x R (by omega) (by omega) fun h' es' t' sb X p _ _ _ => hQ h' es' _ t' X p sb
  · exact wpAny_pure (hQ s.heap es ep t R (List.Perm.refl _) (Heap.SameBut.refl a s.heap))
end
end Cs

set_option Elab.async false
set_option linter.all false
set_option maxRecDepth 100000
set_option maxHeartbeats 2000000
namespace Cs
open PySem PySem.Spec PyProof.Rows L2
section
variable {P : Program} {w : World} {A : Around} {E : Value → Shared → Prop} {s : Shared}
/-- a - b -/
theorem sub_x {id : String} {a b : Addr} {ea eb : Array (Int × Value)} {pa pb : Nat} {ta tb : SetTable} {Q : Value → Shared → Prop} (hne : b ≠ a) (RA : SetX w s.heap a ea pa ta) (RB : SetX w s.heap b eb pb tb)
    (hl : ea.size ≤ 31) (hl2 : eb.size ≤ 63)
    (hQ : ∀ h' d' S n, SetR w h' s.heap.objs.size S n → (∀ k, S k = true ↔ k ∈ keys ea ∧ k ∉ keys eb) → n ≤ 31 → Old s.heap h' → Q (.ref s.heap.objs.size) { s with heap := h', drawn := d' }) :
    wpAny (model P w) A (Builtin.Frozenset.difference id a (.ref b)) Q E s := by
  have hsb : scanBound = 4096 := rfl
  have na : a ≠ s.heap.objs.size := Nat.ne_of_lt (Heap.lt_size RA.obj)
  have nb : b ≠ s.heap.objs.size := Nat.ne_of_lt (Heap.lt_size RB.obj)
  unfold Builtin.Frozenset.difference
  dsimp only
  refine wpAny_bind (any_x (RB.ty rfl) ?_)
  refine wp_if_neg (c := ((!true) = true)) (by simp) ?_
  try refine wpAny_bind (wpAny_pure ?_)
  try refine wpAny_bind (wpAny_pure ?_)
  refine wp_if_neg (c := ((!true && b == sysModules) = true)) (by simp) ?_
  try refine wpAny_bind (wpAny_pure ?_)
  refine wp_if_pos (c := (true = true)) rfl ?_
  refine wpAny_bind (size_x RB ?_)
  refine wpAny_bind (size_x RA ?_)
  by_cases c : ea.size / 4 > eb.size
  · refine wp_if_pos c ?_
    refine wpAny_bind (wpAny_rule ?_)
    refine wpAny_bind (copy_x RA (by omega) fun h1 es1 ep1 t1 X1 p1 sb1 => ?_)
    have z1 := perm_size p1
    have RB1 : SetX w h1 b eb pb tb := RB.move fun o e => old_but sb1 _ _ e
    refine wpAny_bind (wpAny_pure ?_)
    refine wpAny_bind (wpAny_holding ?_)
    unfold Builtin.Frozenset.differenceUpdate
    refine wp_if_neg (c := ((Value.ref b == Value.ref s.heap.objs.size) = true)) (by simpa using nb) ?_
    try refine wpAny_bind (wpAny_pure ?_)
    refine wpAny_bind (any_x (RB1.ty rfl) ?_)
    refine wp_if_pos (c := (true = true)) rfl ?_
    refine wpAny_bind (wpAny_pure ?_)
    dsimp only
    refine wpAny_bind (size_x (s := { s with heap := h1 }) RB1 ?_)
    refine wpAny_bind (size_x (s := { s with heap := h1 }) X1 ?_)
    refine wp_if_neg (by omega) ?_
    try refine wpAny_bind (wpAny_pure ?_)
    refine wpAny_bind (wpAny_setEpoch_of RB1.obj rfl RB1.fits ?_)
    refine wpAny_bind (wpAny_holding ?_)
    refine wpAny_bind (unseen_n (s := { s with heap := h1 }) RB1 (fun x hx => by rw [List.mem_singleton.mp hx]; exact ⟨_, _, _, X1⟩) fun ys d py => ?_)
    refine wpAny_bind (strike_all (P := P) (A := A) (E := E) (s := { s with heap := h1, drawn := d }) (r := s.heap.objs.size) _ (fun s1 => SetX w s1.heap b eb pb tb) (fun s1 h' sb k => sx_other k sb nb) ?hf ys
      (fun e he => RB.good e (py.mem_iff.mp he)) X1 RB1 ?hQ)
    case hf =>
      intro e k tk s1 Q' ee kk hwp
      subst ee
      dsimp only
      refine wpAny_bind (wpAny_holding (wpAny_mono hwp (fun b s2 hs2 => ?_) fun _ _ z => z))
      obtain ⟨k2, q2⟩ := hs2
      refine wpAny_bind (unchanged_x k2 ?_)
      exact wpAny_pure q2
    case hQ =>
      intro h2 es2 ep2 t2 X2 m2 l2 sb2 _
      refine wpAny_pure ?_
      refine tidy_x (s := { s with heap := h2, drawn := d }) X2 (by omega) fun h3 es3 ep3 t3 X3 p3 sb3 => ?_
      have z3 := perm_size p3
      refine wpAny_pure (hQ h3 d _ _ (X3.toR (S := fun k => decide (k ∈ keys es3)) (fun k => decide_eq_true_iff) rfl) (fun k => ?_) (by omega) ?_)
      · rw [decide_eq_true_iff, keys_perm p3 k, m2 k, keys_perm p1 k, keys_perm py k]
      · exact old_but (sb_trans sb1 (sb_trans sb2 sb3))
  · refine wp_if_neg c ?_
    try refine wpAny_bind (wpAny_pure ?_)
    refine wpAny_bind (base_x (RA.ty rfl) ?_)
    refine wpAny_bind (new_x ?_)
    refine wpAny_bind (wpAny_pure ?_)
    have RA1 : SetX w (s.heap.push (newObjOf w)) a ea pa ta := RA.move fun o e => old_push _ _ _ _ e
    have RB1 : SetX w (s.heap.push (newObjOf w)) b eb pb tb := RB.move fun o e => old_push _ _ _ _ e
    have R1 := fresh_x (w := w) s.heap
    refine wpAny_bind (wpAny_setEpoch_of RA1.obj rfl RA1.fits ?_)
    refine wpAny_bind (wpAny_holding ?_)
    refine wpAny_bind (wp_if_pos (c := (true = true)) rfl ?_)
    refine unseen_x (s := { s with heap := s.heap.push (newObjOf w) }) RA1 (fun x hx => ?_) R1 fun ys d h2 pf tf py sb2 R2 => ?_
    · rcases List.mem_cons.mp hx with z | z
      · exact ⟨_, _, _, z ▸ RB1⟩
      · rw [List.mem_singleton.mp z]
        exact ⟨_, _, _, R1⟩
    have RA2 := sx_other RA1 sb2 na
    have RB2 := sx_other RB1 sb2 nb
    have zy := perm_size py
    refine wpAny_bind (add_some (P := P) (A := A) (E := E) (s := { s with heap := h2, drawn := d }) (r := s.heap.objs.size) (fun k => decide (k ∉ keys eb)) _ (fun s1 => SetX w s1.heap b eb pb tb ∧ SetX w s1.heap a ea pa ta)
      (fun s1 h' sb k => ⟨sx_other k.1 sb nb, sx_other k.2 sb na⟩) ?hf ys
      (fun e he => RA.good e (py.mem_iff.mp he)) (R2.toR (S := fun _ => false) (fun k => by simp) rfl) (by show 0 + ys.size + 1 < scanBound; omega) ⟨RB2, RA2⟩ ?hQ)
    case hQ =>
      intro h3 S' n' R3 m3 l3 sb3 _
      refine wpAny_pure (wpAny_pure (hQ h3 d S' n' R3 (fun k => ?_) ?_ ?_))
      · rw [m3 k, keys_perm py k, decide_eq_true_iff]
        simp
      · have : n' ≤ 0 + ys.size := l3
        omega
      · exact old_but (sb_trans sb2 sb3)
    case hf =>
      intro e k tk s1 Q' ee kk h1 h0
      subst ee
      dsimp only
      refine wpAny_bind (wpAny_holding ?_)
      refine wp_if_pos (c := (true = true)) rfl ?_
      refine wpAny_bind (found_x kk.1 fun i hi => ?_)
      refine wpAny_bind (wpAny_pure ?_)
      try refine wpAny_bind (wpAny_pure ?_)
      by_cases c : k ∈ keys eb
      · refine wp_if_neg (by rw [hi]; simp [c]) ?_
        refine wpAny_pure ?_
        refine wpAny_bind (unchanged_x kk.2 ?_)
        exact wpAny_pure (h0 (by simp [c]))
      · refine wp_if_pos (by rw [hi]; simp [c]) ?_
        refine wpAny_bind (wpAny_mono (h1 (decide_eq_true c)) (fun b s2 hs2 => ?_) fun _ _ z => z)
        refine wpAny_pure ?_
        refine wpAny_bind (unchanged_x hs2.1.2 ?_)
        exact wpAny_pure hs2.2
end
end Cs

set_option Elab.async false
set_option linter.all false
set_option maxRecDepth 100000
set_option maxHeartbeats 2000000
namespace Cs
open PySem PySem.Spec PyProof.Rows L2
theorem entry_and : entryFor table "set.__and__" = some Builtin.«frozenset.__and__» := entryFor_alias (id' := "frozenset.__and__") (by kernel_rfl) rfl (by decide +kernel) (by kernel_rfl)
theorem entry_or : entryFor table "set.__or__" = some Builtin.«frozenset.__or__» := entryFor_alias (id' := "frozenset.__or__") (by kernel_rfl) rfl (by decide +kernel) (by kernel_rfl)
theorem entry_sub : entryFor table "set.__sub__" = some Builtin.«frozenset.__sub__» := entryFor_alias (id' := "frozenset.__sub__") (by kernel_rfl) rfl (by decide +kernel) (by kernel_rfl)
end Cs

set_option Elab.async false
set_option linter.all false
set_option maxRecDepth 100000
set_option maxHeartbeats 2000000
namespace Cs
open PySem PySem.Spec PyProof.Rows L2
section
variable {P : Program} {w : World} {A : Around} {E : Value → Shared → Prop} {s : Shared}
theorem slot1_x {name : String} {v u : Value} {Q : Value × Value → Shared → Prop} (q : Q (v, u) s) : wpAny (model P w) A (Builtin.Frozenset.slot1 name ⟨[v, u], []⟩) Q E s := by
  unfold Builtin.Frozenset.slot1 slotArgs
  exact wpAny_pure q
theorem op_and_x {a b : Addr} {SA SB : Int → Bool} {na nb : Nat} {Q : Value → Shared → Prop} (hne : b ≠ a) (RA : SetR w s.heap a SA na) (RB : SetR w s.heap b SB nb) (hl : na ≤ 63) (hl2 : nb ≤ 63)
    (hQ : ∀ h' d' S n, SetR w h' s.heap.objs.size S n → (∀ k, S k = true ↔ SA k = true ∧ SB k = true) → n ≤ 63 → Old s.heap h' → Q (.ref s.heap.objs.size) { s with heap := h', drawn := d' }) :
    wpAny (model P w) A (binaryOp .BitAnd (.ref a) (.ref b)) Q E s := by
  obtain ⟨ea, pa, ta, XA, mA, zA⟩ := xOf RA
  obtain ⟨eb, pb, tb, XB, mB, zB⟩ := xOf RB
  have TA : s.TypeIs (.ref a) "set" := XA.ty rfl
  have TB : s.TypeIs (.ref b) "set" := XB.ty rfl
  refine wpAny_binaryOp_same (op := .BitAnd) TA TB F.fills_set_and F.slot_set_and ?_
  refine wpAny_call_entry F.slot_set_and TA entry_and ?_ (F.args_set_and_2 _ _)
  refine wpAny_bind (slot1_x ?_)
  dsimp only
  refine wpAny_bind (wpAny_bind (any_x TA ?_))
  show wpAny _ _ (Builtin.Frozenset.isAnySet (.ref b)) _ _ _
  refine any_x TB ?_
  refine wp_if_neg (c := ((!true) = true)) (by simp) ?_
  refine wpAny_bind (wpAny_pure ?_)
  refine wpAny_bind (and_x hne XA XB (by omega) (by omega) fun h' d' S n R m l o => ?_)
  refine wpAny_pure ⟨_, rfl, (fun z => nomatch z), hQ h' d' S n R (fun k => ?_) l o⟩
  rw [m k, mA k, mB k]
theorem op_or_x {a b : Addr} {SA SB : Int → Bool} {na nb : Nat} {Q : Value → Shared → Prop} (hne : b ≠ a) (RA : SetR w s.heap a SA na) (RB : SetR w s.heap b SB nb) (hl : na + nb ≤ 63)
    (hQ : ∀ h' d' S n, SetR w h' s.heap.objs.size S n → (∀ k, S k = true ↔ SA k = true ∨ SB k = true) → n ≤ na + nb → Old s.heap h' → Q (.ref s.heap.objs.size) { s with heap := h', drawn := d' }) :
    wpAny (model P w) A (binaryOp .BitOr (.ref a) (.ref b)) Q E s := by
  obtain ⟨ea, pa, ta, XA, mA, zA⟩ := xOf RA
  obtain ⟨eb, pb, tb, XB, mB, zB⟩ := xOf RB
  have TA : s.TypeIs (.ref a) "set" := XA.ty rfl
  have TB : s.TypeIs (.ref b) "set" := XB.ty rfl
  have hbs : b ≠ s.heap.objs.size := Nat.ne_of_lt (Heap.lt_size XB.obj)
  refine wpAny_binaryOp_same (op := .BitOr) TA TB F.fills_set_or F.slot_set_or ?_
  refine wpAny_call_entry F.slot_set_or TA entry_or ?_ (F.args_set_or_2 _ _)
  refine wpAny_bind (slot1_x ?_)
  dsimp only
  refine wpAny_bind (wpAny_bind (any_x TA ?_))
  show wpAny _ _ (Builtin.Frozenset.isAnySet (.ref b)) _ _ _
  refine any_x TB ?_
  refine wp_if_neg (c := ((!true) = true)) (by simp) ?_
  refine wpAny_bind (wpAny_pure ?_)
  refine wpAny_bind ?_
  by_cases he : ea = #[]
  · subst he
    refine wpAny_bind (m := Builtin.Frozenset.copyOf a) ?_
    unfold Builtin.Frozenset.copyOf
    refine wpAny_bind (base_x TA ?_)
    refine wpAny_bind (new_x ?_)
    refine wpAny_bind (wpAny_pure ?_)
    have hae : a ≠ s.heap.objs.size := Nat.ne_of_lt (Heap.lt_size XA.obj)
    have XA1 : SetX w (s.heap.push (newObjOf w)) a #[] pa ta := XA.move fun o e => old_push _ _ _ _ e
    have XB1 : SetX w (s.heap.push (newObjOf w)) b eb pb tb := XB.move fun o e => old_push _ _ _ _ e
    refine wpAny_bind ?_
    unfold setMerge
    refine wp_if_neg (c := (s.heap.objs.size == a) = true) (by simpa using hae.symm) ?_
    try refine wpAny_bind (wpAny_pure ?_)
    refine wpAny_bind (wpAny_setState_of XA1.obj rfl XA1.fits ?_)
    dsimp only
    refine wp_if_pos (c := (#[] : Array (Int × Value)).isEmpty = true) rfl ?_
    refine wpAny_pure (wpAny_pure ?_)
    refine wp_if_pos (c := ((Value.ref b != Value.ref a) = true)) (by simpa using hne) ?_
    refine wpAny_bind (wpAny_pure ?_)
    have z0 : (#[] : Array (Int × Value)).size = 0 := rfl
    refine wpAny_bind (wpAny_holding (union_x (s := { s with heap := s.heap.push (newObjOf w) }) hbs (fresh_x s.heap) XB1 (.inr ⟨rfl, rfl, rfl⟩) (by omega) fun h' d' S n R m l sb => ?_))
    refine wpAny_pure (wpAny_pure ⟨_, rfl, (fun z => nomatch z), hQ h' d' S n R (fun k => ?_) (by omega) (old_but sb)⟩)
    rw [m k, mA k, mB k]
  · have hz : ea.size ≠ 0 := fun z => he (by simpa using z)
    refine wpAny_bind (m := Builtin.Frozenset.copyOf a) (copy_x XA (by omega) fun h1 es1 ep1 t1 X1 p1 sb1 => ?_)
    have z1 := perm_size p1
    have XB1 : SetX w h1 b eb pb tb := XB.move fun o e => old_but sb1 _ _ e
    refine wp_if_pos (c := ((Value.ref b != Value.ref a) = true)) (by simpa using hne) ?_
    refine wpAny_bind (wpAny_pure ?_)
    refine wpAny_bind (wpAny_holding (union_x (s := { s with heap := h1 }) hbs X1 XB1 (.inl (by omega)) (by omega) fun h' d' S n R m l sb => ?_))
    refine wpAny_pure (wpAny_pure ⟨_, rfl, (fun z => nomatch z), hQ h' d' S n R (fun k => ?_) (by omega) (old_but (sb_trans sb1 sb))⟩)
    rw [m k, keys_perm p1 k, mA k, mB k]
theorem op_sub_x {a b : Addr} {SA SB : Int → Bool} {na nb : Nat} {Q : Value → Shared → Prop} (hne : b ≠ a) (RA : SetR w s.heap a SA na) (RB : SetR w s.heap b SB nb) (hl : na ≤ 31) (hl2 : nb ≤ 63)
    (hQ : ∀ h' d' S n, SetR w h' s.heap.objs.size S n → (∀ k, S k = true ↔ SA k = true ∧ SB k = false) → n ≤ 31 → Old s.heap h' → Q (.ref s.heap.objs.size) { s with heap := h', drawn := d' }) :
    wpAny (model P w) A (binaryOp .Sub (.ref a) (.ref b)) Q E s := by
  obtain ⟨ea, pa, ta, XA, mA, zA⟩ := xOf RA
  obtain ⟨eb, pb, tb, XB, mB, zB⟩ := xOf RB
  have TA : s.TypeIs (.ref a) "set" := XA.ty rfl
  have TB : s.TypeIs (.ref b) "set" := XB.ty rfl
  refine wpAny_binaryOp_same (op := .Sub) TA TB F.fills_set_sub F.slot_set_sub ?_
  refine wpAny_call_entry F.slot_set_sub TA entry_sub ?_ (F.args_set_sub_2 _ _)
  refine wpAny_bind (slot1_x ?_)
  dsimp only
  refine wpAny_bind (wpAny_bind (any_x TA ?_))
  show wpAny _ _ (Builtin.Frozenset.isAnySet (.ref b)) _ _ _
  refine any_x TB ?_
  refine wp_if_neg (c := ((!true) = true)) (by simp) ?_
  refine wpAny_bind (wpAny_pure ?_)
  refine wpAny_bind (sub_x hne XA XB (by omega) (by omega) fun h' d' S n R m l o => ?_)
  refine wpAny_pure ⟨_, rfl, (fun z => nomatch z), hQ h' d' S n R (fun k => ?_) l o⟩
  rw [m k, mA k, ← mB k]
  simp
end
end Cs

set_option Elab.async false
set_option linter.all false
set_option maxRecDepth 100000
set_option maxHeartbeats 3200000
namespace Cs
open PySem PySem.Spec PyProof.Rows L2
section
variable {P : Program} {w : World} {A : Around} {E : Value → Shared → Prop} {s : Shared}
/-- set(l), l a list of ints: made empty, then its items one by one -/
theorem set_of_list {l : Addr} {items : Array Value} (ns : List Int) {Q : Value → Shared → Prop} (quiet : A.handled = none) (isl : s.heap.IsList l items) (hints : IntsAre items.toList ns) (room : ns.length + 1 < scanBound)
    (fin : ∀ (h' : Heap) (tk c : Nat), SetR w h' s.heap.objs.size (fun j => decide (j ∈ ns)) c → c ≤ ns.length → Old s.heap h' → Q (.ref s.heap.objs.size) { s with heap := h', toks := tk }) :
    wpAny (model P w) A (call (.type "set") [.ref l]) Q E s := by
  have many : items.size = ns.length := (Array.length_toList (xs := items)).symm.trans (IntsAre.length hints)
  have cs := F.called_set
  obtain ⟨mc, mt, mro⟩ := cs.mro
  have made := cs.made
  have under := cs.sub
  refine wpAny_call (codeAny_of_tree ?_)
  show wpAny _ _ (callAny (.type "set") ⟨[.ref l], []⟩) _ _ _
  refine wpAny_pure ⟨Code.quiet_builtin _ (by decide +kernel), ?_⟩
  refine codeAny_builtin F.entry_type_call ?_
  rw [Around.under_plain (weight_type_call_type "set" [Value.ref l] []) rfl]
  have k1 := cs.notType
  have k2 := cs.canCreate
  have k3 := F.typeCall_set_1 (.ref l)
  repeat (any_goals (first | assumption | wp_step))
  refine codeAny_mono (code_set_led1 (.ref l) (E := E) (Q₁ := fun o z => o = .ref s.heap.objs.size ∧ z = { s with heap := s.heap.push (newObjOf w) }) ⟨rfl, rfl⟩) fun r z hz => ?_
  cases r with
  | error e => exact hz
  | ok fl =>
    cases fl with
    | ret o =>
      obtain ⟨rfl, rfl⟩ := hz
      have here : (s.heap.push (newObjOf w)).get? s.heap.objs.size = some (newObjOf w) := Heap.get?_push_size _ rfl
      have ty : Shared.TypeIs { s with heap := s.heap.push (newObjOf w) } (.ref s.heap.objs.size) "set" := ⟨_, here, rfl⟩
      have k4 := cs.init.lookup
      have k5 := cs.init.bind (.ref s.heap.objs.size)
      repeat (any_goals (first | assumption | wp_step))
      refine codeAny_mono (codeAny_call_builtin (R := wants (fun r y => r = .none ∧ ∃ h' tk c, y = { s with heap := h', toks := tk } ∧ SetR w h' s.heap.objs.size (fun j => decide (j ∈ ns)) c ∧ c ≤ ns.length ∧ Old s.heap h') E)
        cs.init.plain F.entry_set_init (check_set_init_1 ty ?_)) fun r2 y hy => ?_
      · obtain ⟨⟨oc, od, oda, osl⟩, lo, lc, ln, ld⟩ := isl
        simp only at lc ld
        subst lc ld
        have isl2 : (s.heap.push (newObjOf w)).IsList l items := ⟨_, Heap.get?_push_of_some _ lo, rfl, ln, rfl⟩
        have ll : l < s.heap.objs.size := Heap.lt_size lo
        have isl3 := Heap.get?_push_of_some (newObjOf w) lo
        have n1 := PySem.F.sub_list_set
        have n2 := PySem.F.sub_list_frozenset
        have n3 : (Value.type "list" == Value.type "dict") = false := by decide
        unfold Builtin.«set.__init__» noKeywords Builtin.Frozenset.updateFrom
        generalize hp : pyIter = iterOf
        wp_walk
        subst hp
        refine wpAny_pyIter_list isl2 ?_
        refine wpAny_bind (wpAny_runValue ?_)
        have q3 : A.in1.in1.in1.handled = none := by simp [quiet]
        have sz : (s.heap.push (newObjOf w)).objs.size = s.heap.objs.size + 1 := Heap.size_push ..
        have apart : l ≠ (s.heap.push (newObjOf w)).objs.size := by
          rw [sz]
          exact Nat.ne_of_lt (Nat.lt_succ_of_lt ll)
        have away : s.heap.objs.size ∉ [(s.heap.push (newObjOf w)).objs.size, l] := by
          rw [sz]
          simp only [List.mem_cons, List.not_mem_nil, or_false, not_or]
          exact ⟨Nat.ne_of_lt (Nat.lt_succ_self _), Nat.ne_of_gt ll⟩
        have val : ∀ (i : Nat) (v : Value), items[i]? = some v → ∃ k t, ns[i]? = some k ∧ v = .int k t := fun i v hv => by
          have hi : i < ns.length := by rw [← many]; exact (Array.getElem?_eq_some_iff.mp hv).1
          obtain ⟨t, e⟩ := IntsAre.int_at hints i v (by rw [Array.getElem?_toList]; exact hv)
          exact ⟨ns[i], t, List.getElem?_eq_getElem hi, by rw [e, List.getD_eq_getElem?_getD, List.getElem?_eq_getElem hi] <;> rfl⟩
        refine set_update_ints ((Walks.list q3 _ l apart items).toS) s.heap.objs.size away ns many room val (items.size - 0) 0 _ (by omega) (Nat.zero_le _) ⟨⟨_, Heap.get?_push_size _ rfl, rfl, rfl⟩, (isl2.push _)⟩ ?start ?stop
        case start => exact ⟨0, Nat.le_refl 0, setR_new_at (Heap.get?_push_of_some _ here)⟩
        case stop =>
          intro s2 c2 hm hc hS
          obtain ⟨h2, g2, d2, t2, o2⟩ := s2
          have eg : g2 = s.gens := hm.gens
          have ed : d2 = s.drawn := hm.drawn
          have eo : o2 = s.os := hm.os
          subst eg ed eo
          show wpAny _ _ _ _ _ _
          refine wpAny_pure ?_
          show wpAny _ _ (ret Value.none) _ _ _
          refine wpAny_pure ⟨rfl, h2, t2, c2, rfl, hS, by omega, fun b u e => ?_⟩
          have hb := Heap.lt_size e
          refine hm.heap b u ?_ (Heap.get?_push_of_some _ (Heap.get?_push_of_some _ e))
          rw [sz]
          simp only [List.mem_cons, List.not_mem_nil, or_false, not_or]
          exact ⟨Nat.ne_of_lt hb, Nat.ne_of_lt (Nat.lt_succ_of_lt hb)⟩
      · cases r2 with
        | error e => exact hy
        | ok f2 =>
          cases f2 with
          | ret r =>
            obtain ⟨rfl, h', tk, c, rfl, hS, hc, old⟩ := hy
            repeat (any_goals (first | assumption | wp_step))
            exact fin h' tk c hS hc old
          | _ => exact hy.elim
    | _ => exact hz.elim
end
end Cs

set_option Elab.async false
set_option linter.all false
set_option maxRecDepth 100000
set_option maxHeartbeats 2000000
namespace Cs
open PySem PySem.Spec PyProof.Rows L2
section
variable {X : Cx}
/-- set(l) -/
def rSetI (K : PySem.W.Frag) (w : World) : List V → Hp → VK → Prop := fun xs H Q => ∃ (l : Addr) (ns : List Int), xs = [V.ref l] ∧ SqL K H l (ns.map V.int) ∧ ns.length ≤ 4000 ∧
  ∀ (p : Addr) (c : Nat), H p = none → c ≤ ns.length → Q (.ref p) (upd H p (SetO w p (fun j => decide (j ∈ ns)) c))
theorem cr_setI (hc : X.calm = true) : CallR X (.type "set") (rSetI X.K X.w) := by
  intro pins s σ H xs us Q I r h
  obtain ⟨l, ns, rfl, hq, hl, q⟩ := h
  rw [Vals.ref1 r]
  obtain ⟨its, rv, pl, hz⟩ := I.list hq
  refine set_of_list ns (I.ok.hd hc) pl.isList (by simpa using ints_of_vals rv) (by have : scanBound = 4096 := rfl; omega) fun h' tk c hS hcn old => ?_
  exact ⟨.ref _, upd H s.heap.objs.size (SetO X.w s.heap.objs.size (fun j => decide (j ∈ ns)) c), I.laid (t' := tk) old (Nat.le_refl _) (setO_new hS), rfl, q _ c (I.hok.fresh (Nat.le_refl _)) hcn⟩
theorem laidD {pins : List (Addr × Obj)} {σ : L2.St} {H : Hp} {s : Shared} {h' : Heap} {d' : Drawn} {S : Int → Bool} {n : Nat} (I : Inv X pins σ H s) (old : Old s.heap h') (R : SetR X.w h' s.heap.objs.size S n) :
    Inv X pins σ (upd H s.heap.objs.size (SetO X.w s.heap.objs.size S n)) { s with heap := h', drawn := d' } :=
  I.call (ch := []) (g' := s.gens) (t' := s.toks) (Un.laid old (Nat.le_refl _) (I.hok.fresh (Nat.le_refl _))) (I.hok.laid old (Nat.le_refl _) (setO_new R)) I.bare (fun _ z => nomatch z)
/-- a & b, a | b, a - b of two sets of ints -/
def rSetOp (w : World) (most : Nat → Nat → Prop) (mem : (Int → Bool) → (Int → Bool) → Int → Prop) : V → V → Hp → VK → Prop := fun x y H Q => ∃ (a b : Addr) (SA SB : Int → Bool) (na nb : Nat), x = V.ref a ∧ y = V.ref b ∧ b ≠ a ∧
  H a = some (SetO w a SA na) ∧ H b = some (SetO w b SB nb) ∧ most na nb ∧
  ∀ (p : Addr) (S : Int → Bool) (n : Nat), H p = none → (∀ k, S k = true ↔ mem SA SB k) → n ≤ 63 → Q (.ref p) (upd H p (SetO w p S n))
abbrev mAnd : Nat → Nat → Prop := fun na nb => na ≤ 63 ∧ nb ≤ 63
abbrev mOr : Nat → Nat → Prop := fun na nb => na + nb ≤ 63
abbrev mSub : Nat → Nat → Prop := fun na nb => na ≤ 31 ∧ nb ≤ 63
abbrev eAnd : (Int → Bool) → (Int → Bool) → Int → Prop := fun A B k => A k = true ∧ B k = true
abbrev eOr : (Int → Bool) → (Int → Bool) → Int → Prop := fun A B k => A k = true ∨ B k = true
abbrev eSub : (Int → Bool) → (Int → Bool) → Int → Prop := fun A B k => A k = true ∧ B k = false
theorem op_sand : OpR X (binaryOp .BitAnd) (rSetOp X.w mAnd eAnd) := by
  intro pins s σ H x y v u Q I rx ry h
  obtain ⟨a, b, SA, SB, na, nb, rfl, rfl, hne, ha, hb, hm, q⟩ := h
  cases rx
  cases ry
  exact op_and_x hne (setO_get I ha) (setO_get I hb) hm.1 hm.2 fun h' d' S n R m l old => ⟨.ref _, _, laidD I old R, rfl, q _ S n (I.hok.fresh (Nat.le_refl _)) m l⟩
theorem op_sor : OpR X (binaryOp .BitOr) (rSetOp X.w mOr eOr) := by
  intro pins s σ H x y v u Q I rx ry h
  obtain ⟨a, b, SA, SB, na, nb, rfl, rfl, hne, ha, hb, hm, q⟩ := h
  cases rx
  cases ry
  have hm' : na + nb ≤ 63 := hm
  exact op_or_x hne (setO_get I ha) (setO_get I hb) hm fun h' d' S n R m l old => ⟨.ref _, _, laidD I old R, rfl, q _ S n (I.hok.fresh (Nat.le_refl _)) m (by omega)⟩
theorem op_ssub : OpR X (binaryOp .Sub) (rSetOp X.w mSub eSub) := by
  intro pins s σ H x y v u Q I rx ry h
  obtain ⟨a, b, SA, SB, na, nb, rfl, rfl, hne, ha, hb, hm, q⟩ := h
  cases rx
  cases ry
  exact op_sub_x hne (setO_get I ha) (setO_get I hb) hm.1 hm.2 fun h' d' S n R m l old => ⟨.ref _, _, laidD I old R, rfl, q _ S n (I.hok.fresh (Nat.le_refl _)) m (by omega)⟩
/-- len(s) of a set of ints: none where it has no members -/
def rLenSet (w : World) : List V → Hp → VK → Prop := fun xs H Q => ∃ (a : Addr) (S : Int → Bool) (n : Nat), xs = [V.ref a] ∧ H a = some (SetO w a S n) ∧ (∀ c : Nat, (c = 0 ↔ ∀ k, S k = false) → Q (.int (c : Int)) H)
theorem call_len_sI : CallR X (.builtin "len") (rLenSet X.w) := by
  intro pins s σ H xs us Q I r h
  obtain ⟨a, S, n, rfl, ha, q⟩ := h
  rw [Vals.ref1 r]
  obtain ⟨es, ep, t, R, m, hn⟩ := xOf (setO_get I ha)
  refine call_len_set R.obj ⟨rfl, rfl, rfl⟩ rfl R.fits (by have := R.few; have : scanBound = 4096 := rfl; omega) ⟨.int (es.size : Nat), H, I.tok _, ⟨_, rfl⟩, q _ ?_⟩
  constructor
  · intro z k
    have e : es = #[] := by simpa using z
    subst e
    cases c : S k with
    | false => rfl
    | true => exact absurd ((m k).1 c) (by simp)
  · intro z
    cases c : es.toList with
    | nil =>
      rw [← Array.length_toList, c]
      rfl
    | cons e r =>
      have : S (keyOf e) = true := (m _).2 (by rw [c]; simp)
      rw [z] at this
      cases this
end
end Cs

set_option Elab.async false
set_option linter.all false
set_option maxRecDepth 100000
set_option maxHeartbeats 2000000
/-! != of two lists whose items are equal, deep -/
namespace Cs
open PySem PySem.Spec PyProof.Rows L2
open AutoSeq1 (wpAny_loadPart')
open MeetsSeq MeetsSeq2 MeetsSeq3 SeqRoads2 SeqAt
section
variable {prog : Program} {w : World}
abbrev seqO (us : Array Value) (n : Nat) (dd : Option Addr) (sl : Array (Option Value)) : Obj := { cls := .type "list", dict := dd, data := .seq us n, slots := sl }
abbrev AllP (prog : Program) (w : World) (A : Around) (s : Shared) (us ws : Array Value) : Prop := ∀ j (h1 : j < us.size) (h2 : j < ws.size), EqP prog w A s us[j] ws[j] true
theorem ne_stepP (a c : Addr) (us ws : Array Value) (n m : Nat) (d1 d2 : Option Addr) (s1 s2 : Array (Option Value)) (eq : us.size = ws.size) :
    ∀ (k i : Nat), us.size - i = k → MeetsIn prog w (Builtin.«list.__eq__.loop» ⟨[.ref a, .ref c, rawInt i, rawInt 3], []⟩)
      (fun A R s => s.heap.get? a = some (seqO us n d1 s1) ∧ s.heap.get? c = some (seqO ws m d2 s2) ∧ AllP prog w A.in1 s us ws ∧ R (.ok (.ret (.bool false))) s) := by
  intro k
  induction k with
  | zero =>
    intro i le A R s h
    obtain ⟨hp, g, d, tk, os⟩ := s
    obtain ⟨ha, hc, _, q⟩ := h
    wp_walk using wpAny_loadPart' ha, wpAny_loadPart' hc
    rw [show us[((i : Nat) : Int).toNat]? = none by simp; omega, show ws[((i : Nat) : Int).toNat]? = none by simp; omega]
    wp_walk using wpAny_loadPart' ha, wpAny_loadPart' hc
    show R (.ok (.ret (.bool (us.size != ws.size)))) _
    rw [eq]
    simpa using q
  | succ k ih =>
    intro i le A R s h
    obtain ⟨hp, g, d, tk, os⟩ := s
    obtain ⟨ha, hc, al, q⟩ := h
    have i1 : i < us.size := by omega
    have i2 : i < ws.size := by omega
    wp_walk using wpAny_loadPart' ha, wpAny_loadPart' hc
    rw [show us[((i : Nat) : Int).toNat]? = some us[i] by simp [i1], show ws[((i : Nat) : Int).toNat]? = some ws[i] by simp [i2]]
    refine wpAny_bind (al i i1 i2 _ _ ?_)
    wp_walk
    rw [show ((i : Int) + 1) = ((i + 1 : Nat) : Int) by push_cast; rfl]
    refine ⟨plainId_quiet plain_eq_loop _, codeAny_builtin entry_eq_loop ?_⟩
    rw [Around.under_plainId plain_eq_loop _]
    exact ih (i + 1) (by omega) A R _ ⟨ha, hc, al, q⟩
theorem ne_listP (a c : Addr) (us ws : Array Value) (n m : Nat) (d1 d2 : Option Addr) (s1 s2 : Array (Option Value)) (eq : us.size = ws.size) :
    MeetsIn prog w (Builtin.«list.__ne__» ⟨[.ref a, .ref c], []⟩)
      (fun A R s => s.heap.get? a = some (seqO us n d1 s1) ∧ s.heap.get? c = some (seqO ws m d2 s2) ∧ AllP prog w A.in1 s us ws ∧ R (.ok (.ret (.bool false))) s) := by
  intro A R s h
  obtain ⟨hp, g, d, tk, os⟩ := s
  obtain ⟨ha, hc, al, q⟩ := h
  have sub := AutoSeq1.sub_list_list
  have same : ¬ (us.size != ws.size) = true := by simp [eq]
  wp_walk using wpAny_loadPart' ha, wpAny_loadPart' hc
  refine ⟨plainId_quiet plain_eq_loop _, codeAny_builtin entry_eq_loop ?_⟩
  rw [Around.under_plainId plain_eq_loop _]
  exact ne_stepP a c us ws n m d1 d2 s1 s2 eq _ 0 rfl A R _ ⟨ha, hc, al, q⟩
theorem rc_neP {A : Around} {s : Shared} {a c : Addr} {us ws : Array Value} (ha : s.heap.IsList a us) (hc : s.heap.IsList c ws) (eq : us.size = ws.size) (hu : A.units < cLine)
    (al : AllP prog w A.in1 s us ws) (E Q : Value → Shared → Prop) (q : Q (.bool false) s) : wpAny (model prog w) A (richCompare .NotEq (.ref a) (.ref c)) Q E s := by
  obtain ⟨⟨c1, d1, x1, s1⟩, o1, e1, n, f1⟩ := id ha
  obtain ⟨⟨c2, d2, x2, s2⟩, o2, e2, m, f2⟩ := id hc
  simp only at e1 f1 e2 f2
  subst e1 f1 e2 f2
  have ta : s.TypeIs (.ref a) "list" := ⟨_, o1, rfl⟩
  have tc : s.TypeIs (.ref c) "list" := ⟨_, o2, rfl⟩
  exact wpAny_richCompare_same_room (op := .NotEq) ta tc F.slot_list_ne (call_meetsIn F.slot_list_ne ta F.entry_list_ne (F.args_list_ne_2 _ _) (ne_listP a c us ws n m d1 d2 s1 s2 eq)
    ⟨o1, o2, al, show Value.bool false ≠ Value.notImplemented ∧ Q (.bool false) s from ⟨(fun x => nomatch x), q⟩⟩) hu
end
section
variable {X : Cx}
/-- a != b, two lists that are equal -/
def rNeV (K : PySem.W.Frag) : R2 := fun x y H Q => ∃ a b xs ys, x = .ref a ∧ y = .ref b ∧ SqL K H a xs ∧ SqL K H b ys ∧ (∃ n, n ≤ 60 ∧ Paired (EqV K H n) xs ys) ∧ Q (.bl false) H
theorem op_neV (hu : X.A.units + 64 < cLine) : OpR X (compareOp .NotEq) (rNeV X.K) := by
  intro pins s σ H x y v u Q I rx ry h
  obtain ⟨a, b, xs, ys, rfl, rfl, ha, hb, ⟨n, hn, hp⟩, q⟩ := h
  cases (show v = Value.ref a from rx)
  cases (show u = Value.ref b from ry)
  obtain ⟨us, r1, p1, _⟩ := I.list ha
  obtain ⟨ws, r2, p2, _⟩ := I.list hb
  have hsz : us.toArray.size = ws.toArray.size := by
    rw [List.size_toArray, List.size_toArray, ← r1.length, ← r2.length]
    exact Paired.length hp
  refine rc_neP p1.isList p2.isList hsz (by omega) (fun j h1 h2 => ?_) _ _ ⟨.bl false, H, I, rfl, q⟩
  have k := items_run (eqV_run I n X.A.in1 (by show X.A.units + 1 + n < cLine; omega)) hp r1 r2 j (by simpa using h1) (by simpa using h2)
  simpa using k
end
end Cs

set_option Elab.async false
set_option linter.all false
set_option maxRecDepth 100000
set_option maxHeartbeats 4000000
/-! Sets of keys by a comprehension: {x for .. in ..}, the members ints or texts. -/
namespace Cs
open PySem PySem.Spec PyProof.Rows L2 PpSet
section
variable {X : Cx}
abbrev noK : Key → Bool := fun _ => false
abbrev withK (S : Key → Bool) (k : Key) : Key → Bool := fun j => S j || decide (j = k)
/-- one member more -/
theorem addK {pins : List (Addr × Obj)} {σ : L2.St} {H : Hp} {s : Shared} {E : Value → Shared → Prop} {D : Addr} {S : Key → Bool} {n : Nat} {k : Key} {u : Value} {Q : Value → Shared → Prop} (I : Inv X pins σ H s) (at_ : H D = some (SetK X.prog X.w D S n)) (few : n + 1 < scanBound) (r : RelV (kV k) u)
    (q : ∀ s', Inv X pins σ (upd H D (SetK X.prog X.w D (withK S k) (if S k = true then n else n + 1))) s' → Q .none s') : wpAny (model X.prog X.w) X.A (call (.builtin "set.add") [.ref D, u]) Q E s :=
  call_set_add (kV_is r) (key_scan r) (setK_get I at_) few fun h' sb new => q _ (I.write (e := D) (t' := s.toks + 1) (by rw [at_]; trivial) (.inl rfl) (fun b o hb ho => (sb.2 b hb).trans ho) (let ⟨o, _, _, _, ho, _⟩ := new; ⟨o, ho⟩) (setK_new new))
/-- what a comprehension asks: its walk, and a set that grows -/
def tScK (P : Program) (w : World) (wi : TI) (g : TG) (tt : TT) (te : TE) (vs : List Nat) : TE := fun σ H Q => wi σ H fun J H1 => ∀ D, H1 D = none → ∃ W : Nat → Nat → Hp → Prop, (∃ m, W 0 m (upd H1 D (SetK P w D noK 0))) ∧ ∀ i m H, W i m H →
  (J.stop i H ∧ Q (.ref D) H) ∨ (J.go i H ∧ ∃ Nx : Hp → Prop, (∀ H', Nx H' → ∃ m', m' < m ∧ W (i + 1) m' H') ∧ ∀ x H', J.yld i H x H' → g x (wipe σ vs) H' fun σ2 H2 => wipe σ2 vs = wipe σ vs ∧ tt σ2 H2 fun b H3 =>
    if b = true then te σ2 H3 fun y H4 => ∃ (k : Key) (S : Key → Bool) (n : Nat), y = kV k ∧ H4 D = some (SetK P w D S n) ∧ n + 1 < scanBound ∧ Nx (upd H4 D (SetK P w D (withK S k) (if S k = true then n else n + 1))) else Nx H3)
theorem scK_core {pins : List (Addr × Obj)} {s : Shared} {σ : L2.St} {H : Hp} {Q : VK} {el tg it : Expr} {cs : List Expr} {scope : Scope} {own : List (PySem.Str × Nat)} {pos pos' : Pos} {wi : TI} {g : TG} {tt : TT} {te : TE} {use : Option (Value → Sem Unit)} {Qf : Value → Shared → Prop}
    (hc : X.calm = true) (hN : X.N.Nodup) (I : Inv X pins σ H s) (hi : PI X tg it wi) (ok : BlkOk X.N X.env.scope scope own)
    (hg : ∀ (s : Shared) (H : Hp) (C : Addr) (cl : List (PySem.Str × Addr)) (fp : List Addr), PG (X.blk s H scope (compEnvC scope cl C X.env) fp) tg g)
    (ht : ∀ (s : Shared) (H : Hp) (C : Addr) (cl : List (PySem.Str × Addr)) (fp : List Addr), PTs (X.blk s H scope (compEnvC scope cl C X.env) fp) cs tt)
    (he : ∀ (s : Shared) (H : Hp) (C : Addr) (cl : List (PySem.Str × Addr)) (fp : List Addr), PE (X.blk s H scope (compEnvC scope cl C X.env) fp) el te)
    (hs : ∀ x, foldedSetIterable it X.env x = pure x) (h : tScK X.prog X.w wi g tt te (own.map (·.2)) σ H Q)
    (done : ∀ D C s' m H', Inv X pins σ H' s' → Q (.ref D) H' → s'.heap.Ns C m → FpOk X pins H' C → compPost (model X.prog X.w) X.A X.xe use Qf (.ref D) C (.ok .next) s') :
    wpAny (model X.prog X.w) X.A (comprehension (.SetComp el [⟨tg, it, cs, 0⟩] scope pos) scope X.env pos' (newSet (.type "set")) false (eval it X.env) use) Qf X.xe s := by
  refine wpAny_comprehension_free (use := use) rfl hs (closure_ok fun y hy e => (ok.free y hy e).elim (fun k => I.ok.has _ (.inl k)) fun k => I.ok.has _ (.inr k)) ok.kind (fun y hy e => by rw [ok.uniq y hy, e])
    (thn (hi.run pins s σ H _ I h) fun xv s1 hx => thn hx fun itv s2 ⟨ia, fp, tn, J, H2, eq, I2, T, st2, f2, q⟩ => ?_)
  subst eq
  refine newSet_ok (newEnv_comp ?_)
  generalize eD : s2.heap.objs.size = D
  have free : H2 D = none := I2.hok.fresh (Nat.le_of_eq eD)
  obtain ⟨W, ⟨m0, w0⟩, turn⟩ := q D free
  generalize e3 : ({ s2 with heap := s2.heap.push { cls := .type "set", dict := none, data := .set #[] 0 (.fresh 0 0 (!X.w.params.followText "set-order")) } } : Shared) = s3
  have heap3 : s3.heap = s2.heap.push { cls := .type "set", dict := none, data := .set #[] 0 (.fresh 0 0 (!X.w.params.followText "set-order")) } := by rw [← e3]
  have I3 : Inv X pins σ (upd H2 D (SetK X.prog X.w D noK 0)) s3 := by
    rw [← e3, ← eD]
    exact I2.laid (t' := s2.toks) (fun b o e => Heap.get?_push_of_some _ e) (Nat.le_refl _) (setK_new ⟨_, #[], 0, _, Heap.get?_push_size _ rfl, ⟨rfl, rfl, rfl⟩, rfl, (fun e he => by simp at he), (fun k => by simp), (by decide), (by rfl), rfl⟩)
  have below : ∀ b ∈ fp, b < s2.heap.objs.size := fun b hb => let ⟨o, e, _⟩ := T.obj _ _ st2 b hb; Heap.lt_size e
  have f3 : ∀ b ∈ fp, FpOk X pins (upd H2 D (SetK X.prog X.w D noK 0)) b ∧ b < s3.heap.objs.size := fun b hb =>
    ⟨⟨by rw [upd_ne (by rw [← eD]; exact Nat.ne_of_lt (below b hb))]; exact (f2 b hb).1, (f2 b hb).2⟩, by rw [heap3, Heap.size_push]; exact Nat.lt_succ_of_lt (below b hb)⟩
  have I4 := block_start I3 ok hN f3
  have pg := hg s3 (upd H2 D (SetK X.prog X.w D noK 0)) s3.heap.objs.size (cellsFrom (s3.heap.objs.size + 1) scope.names (cloFrom X.env.cells scope.names [])) fp
  have pt := ht s3 (upd H2 D (SetK X.prog X.w D noK 0)) s3.heap.objs.size (cellsFrom (s3.heap.objs.size + 1) scope.names (cloFrom X.env.cells scope.names [])) fp
  have pe := he s3 (upd H2 D (SetK X.prog X.w D noK 0)) s3.heap.objs.size (cellsFrom (s3.heap.objs.size + 1) scope.names (cloFrom X.env.cells scope.names [])) fp
  show codeAny _ _ (.compStart (.SetComp el [⟨tg, it, cs, 0⟩] scope pos) 0 (.ref ia) (.ref D) (compEnvC scope (cellsFrom (s3.heap.objs.size + 1) scope.names (cloFrom X.env.cells scope.names [])) s3.heap.objs.size X.env)) (compPost (model X.prog X.w) X.A X.xe use Qf (.ref D) s3.heap.objs.size) { s3 with heap := pushCells (s3.heap.push { cls := .type "dict", data := .dict #[] }) scope.names }
  have none3 : ∀ b ∈ fp, (upd H2 D (SetK X.prog X.w D noK 0)) b = none := fun b hb => (f3 b hb).1.1
  generalize ec : compEnvC scope (cellsFrom (s3.heap.objs.size + 1) scope.names (cloFrom X.env.cells scope.names [])) s3.heap.objs.size X.env = ce at I4 pg pt pe ⊢
  have loc : ce.locals = s3.heap.objs.size := by subst ec; rfl
  generalize upd H2 D (SetK X.prog X.w D noK 0) = H3 at I3 I4 pg pt pe w0 none3 f3
  generalize e4 : ({ s3 with heap := pushCells (s3.heap.push { cls := .type "dict", data := .dict #[] }) scope.names } : Shared) = s4 at I4 ⊢
  have st3 : tn 0 s3.heap := T.keep _ _ _ st2 fun b _ o e => by rw [heap3]; exact Heap.get?_push_of_some _ e
  have st4 : tn 0 s4.heap := T.keep _ _ _ st3 fun b _ o e => by rw [← e4]; exact pushCells_keeps _ _ _ _ (Heap.get?_push_of_some _ e)
  have still : ∀ {σ' : L2.St} {H' : Hp} {s' : Shared}, Inv (X.blk s3 H3 scope ce fp) [] σ' H' s' → (∀ b ∈ fp, H' b = none) → ∀ b ∈ fp, FpOk (X.blk s3 H3 scope ce fp) [] H' b := fun I' hn b hb =>
    ⟨hn b hb, (I'.ok.exf b hb).1, I'.ok.exfs b hb, .inl hb, fun x c e => (I'.ok.exf b hb).2 x c e, fun p hp => absurd (show p ∈ ([] : List (Addr × Obj)) ++ [] from hp) (by simp)⟩
  have loop : codeAny (model X.prog X.w) X.A (.compLoop (.SetComp el [⟨tg, it, cs, 0⟩] scope pos) 0 (.ref ia) (.ref D) ce) (compPost (model X.prog X.w) X.A X.xe use Qf (.ref D) s3.heap.objs.size) s4 := by
    refine compLoopS_any (fun n s' => ∃ i H', Inv (X.blk s3 H3 scope ce fp) [] (wipe σ (own.map (·.2))) H' s' ∧ tn i s'.heap ∧ (∀ b ∈ fp, H' b = none) ∧ W i n H') ?_ m0 ⟨0, H3, I4, st4, none3, w0⟩
    rintro n s5 ⟨i, H5, I5, st5, n5, w5⟩
    rcases turn i n H5 w5 with ⟨stop, last⟩ | ⟨go, Nx, next, step⟩
    · refine thnF (T.done (X.blk s3 H3 scope ce fp) rfl rfl rfl hc i [] s5 _ H5 (fun _ _ => False) I5 (still I5 n5) st5 stop) fun r s6 ⟨er, I6⟩ => ?_
      subst er
      have unused : H5 ce.locals = none := I6.free
      obtain ⟨m, ns, _⟩ := I6.loc
      have ns : s6.heap.Ns ce.locals m := ns
      rw [loc] at ns unused
      exact done D s3.heap.objs.size s6 m H5 (I3.call' (ch := fp) I6.os I6.base I6.hok I6.bare fun b hb => ⟨(f3 b hb).1.2.2.2.1, (f3 b hb).1.2.1, (f3 b hb).1.2.2.2.2.1, (f3 b hb).1.2.2.2.2.2⟩) last ns (I3.fpOk (Nat.le_refl _) unused)
    · refine thnF (T.item (X.blk s3 H3 scope ce fp) rfl rfl rfl hc i [] s5 _ H5 (fun _ _ => False) I5 (still I5 n5) st5 go) fun r s6 ⟨u, er, h6⟩ => ?_
      subst er
      refine thnF h6 fun _ s7 ⟨x, H7, I7, r7, y7, st7, n7⟩ => ?_
      refine thnF (pg.run _ s7 _ H7 x u _ (I7.pinned (still I7 n7) (T.obj _ _ st7)) r7 (step x H7 y7)) fun _ s8 ⟨σ8, H8, I8, w8, q8⟩ => ?_
      refine thnF (pt.run _ s8 σ8 H8 _ I8 q8) fun b s9 ⟨H9, I9, q9⟩ => ?_
      have round : ∀ {s' : Shared} {H' : Hp}, Inv (X.blk s3 H3 scope ce fp) ([] ++ pinsAt fp s7.heap) σ8 H' s' → Nx H' → ∃ m, m < n ∧ ∃ i H', Inv (X.blk s3 H3 scope ce fp) [] (wipe σ (own.map (·.2))) H' s' ∧ tn i s'.heap ∧ (∀ b ∈ fp, H' b = none) ∧ W i m H' := fun {s' H'} I' nx => by
        obtain ⟨m', lt, w'⟩ := next H' nx
        have held : ∀ b ∈ fp, ∀ o, s7.heap.get? b = some o → s'.heap.get? b = some o ∧ H' b = none := fun b hb o e => let z := I'.pin (b, o) (List.mem_append_right _ (List.mem_append_right _ (mem_pinsAt hb e))); ⟨z.1, z.2.1⟩
        refine ⟨m', lt, i + 1, H', (I'.unpinned (pins := [])).weak (by rw [← w8, wipe_length]) (fun j v e => ?_), T.keep _ _ _ st7 fun b hb o e => (held b hb o e).1, fun b hb => ?_, w'⟩
        · rw [← w8] at e
          exact (wipe_some e).1
        · obtain ⟨o, e, _⟩ := T.obj _ _ st7 b hb
          exact (held b hb o e).2
      cases b with
      | false =>
        simp only [Bool.false_eq_true, if_false] at q9 ⊢
        exact round I9 q9
      | true =>
        simp only [if_true] at q9 ⊢
        refine thnF (pe.run _ s9 σ8 H9 _ I9 q9) fun z s10 ⟨y, H10, I10, r10, k, S, n0, ey, at10, few, nx⟩ => ?_
        subst ey
        exact addK (X := X.blk s3 H3 scope ce fp) I10 at10 few r10 fun s11 I11 => round I11 nx
  exact codeAny_compStart_set loop (T.self X.A 0 _ _ _ st4 loop)
/-- name = {..} on one line, the name a local -/
theorem ps_setScK {i : Nat} {y : Str} {py : Pos} {el tg it : Expr} {cs : List Expr} {scope : Scope} {own : List (PySem.Str × Nat)} {pos spos : Pos} {wi : TI} {g : TG} {tt : TT} {te : TE} (hc : X.calm = true) (hN : X.N.Nodup) (hy : X.N[i]? = some y) (hyl : X.env.scope.names.lookup y = some .local)
    (hsw : swapsWith (.SetComp el [⟨tg, it, cs, 0⟩] scope pos) (some (.Name y py)) spos.line X.env = pure true) (hi : PI X tg it wi) (ok : BlkOk X.N X.env.scope scope own)
    (hg : ∀ (s : Shared) (H : Hp) (C : Addr) (cl : List (PySem.Str × Addr)) (fp : List Addr), PG (X.blk s H scope (compEnvC scope cl C X.env) fp) tg g)
    (ht : ∀ (s : Shared) (H : Hp) (C : Addr) (cl : List (PySem.Str × Addr)) (fp : List Addr), PTs (X.blk s H scope (compEnvC scope cl C X.env) fp) cs tt)
    (he : ∀ (s : Shared) (H : Hp) (C : Addr) (cl : List (PySem.Str × Addr)) (fp : List Addr), PE (X.blk s H scope (compEnvC scope cl C X.env) fp) el te)
    (hs : ∀ x, foldedSetIterable it X.env x = pure x := by intro _; rfl) :
    PS X (.Assign [.Name y py] (.SetComp el [⟨tg, it, cs, 0⟩] scope pos) spos) (tAsg (tScK X.prog X.w wi g tt te (own.map (·.2))) (gName i)) := by
  refine ⟨fun pins s σ H D I h => ?_⟩
  rw [exec_Assign_Name_used _ _ _ _ hsw]
  refine wpAny_bind (wpAny_standAt (wpAny_bind ?_))
  show wpAny _ X.A (do let _ ← comprehension (.SetComp el [⟨tg, it, cs, 0⟩] scope pos) scope X.env (firstIterPos [⟨tg, it, cs, 0⟩] pos) (newSet (.type "set")) false (eval it X.env) (some (assign (.Name y py) X.env))) _ _ s
  have h : tScK X.prog X.w wi g tt te (own.map (·.2)) σ H (fun x H1 => gName i x σ H1 D.nx) := h
  refine wpAny_bind (thn (scK_core (Qf := fun _ s' => SP X pins D .next s') hc hN I hi ok hg ht he hs h fun L C s' m H' I' q hn f => ?_) fun _ s' hq => wpAny_pure (wpAny_pure hq))
  obtain ⟨f0, f1, f2, f3, f4, f5⟩ := f
  show wpAny _ _ (assign (.Name y py) X.env (.ref L)) _ _ _
  refine wpAny_assign_Name (store_ok2 (v := V.ref L) I' hN hy (.inl hyl) rfl (fun s2 I2 ⟨a, sb, ha⟩ => ?_) (.inr hyl))
  have apart : C ≠ a := ha.elim (fun z => z ▸ f1) fun z e => f4 y a z e.symm
  exact ⟨m, hn.sameBut sb apart, fun h3 sb3 => ⟨_, H', I2.turned (t' := s2.toks) (fun b o hb e => (sb3.2 b hb).trans e) f0 f1 f3 f4 f5, q⟩⟩
end
end Cs

set_option Elab.async false
set_option linter.all false
set_option maxRecDepth 100000
set_option maxHeartbeats 4000000
/-! Exceptions of own classes with fields: made, raised while a dict is walked, caught, asked for their class. -/
namespace CsX
open PySem PySem.Spec PyProof.Rows L2
/-- a block that is not reached -/
theorem pss_any {X : Cx} {l : List Stmt} : PSs X l (fun _ _ _ => False) := ⟨fun _ _ _ _ _ _ h => h.elim⟩
/-- a raise while the thing at d is locked -/
theorem Takes.lock {X : Cx} {W : WX} {d : Addr} (tk : Takes X W) (hn : ∀ o' u', X.H_0 d ≠ some (.frz o' u')) : Takes X (fun cls dd σ H => ∃ od u, H d = some (.frz od u) ∧ W cls dd σ (upd H d u)) :=
  fun u s' ⟨a, B, sI, pins, σ, H, cls, dd, e, I, nb, up, sky, na, os, ag, od, uu, hd, w⟩ =>
    tk u s' ⟨a, B, sI, pins, σ, upd H d uu, cls, dd, e, I.unlock hd hn, nb, up, sky, (by rw [upd_ne (fun z => by rw [z, hd] at na; cases na)]; exact na), os, ag, w⟩
/-- __init__(self, f): self.f = f -/
def spIni (C : Addr) (f : Str) : Sp := fun vs H Q _ => ∃ (a : Addr) (v : V), vs = [.ref a, v] ∧ H a = some (exo a C none) ∧
  ∀ dx, H dx = none → dx ≠ a → Q .non (upd (upd H dx (exd dx [(f, v)])) a (exo a C (some dx)))
/-- __init__(self, f, g): self.f = f; self.g = g -/
def spIni2 (C : Addr) (f g : Str) : Sp := fun vs H Q _ => ∃ (a : Addr) (v u : V), vs = [.ref a, v, u] ∧ H a = some (exo a C none) ∧
  ∀ dx, H dx = none → dx ≠ a → Q .non (upd (upd (upd H dx (exd dx [(f, v)])) a (exo a C (some dx))) dx (exd dx [(g, u), (f, v)]))
/-- what the top has written of an own error with the fields fs, its __init__ at fI -/
structure Own (K : PySem.W.Frag) (mg : Str → Option Value) (x : Str) (C fI : Addr) (fs : List Str) : Prop where
  gC : mg x = some (.ref C)
  oex : OexC K C
  xf : XfC K C
  no : ∀ f ∈ fs, PySem.W.findIn K (.ref C) f = some none
  iC : PySem.W.findIn K (.ref C) "__init__" = some (some (.ref fI))
  tI : PySem.W.typeIn K (.ref fI) = some (.type "function")
  ex : ExcC K C
  te : PySem.W.exmOne K (.ref C) (.ref C) = some true
theorem same_upd {H : Hp} {p : Addr} {o : HO} (h : H p = none) : Same H (upd H p o) := fun b x e => by
  rw [upd_ne (ne_of_none e h)]
  exact e
/-- what is asked of C(v) -/
theorem mk_one {C : Addr} {f : Str} {H1 : Hp} {v : V} {Q : XK} (h : ∀ d H2, H1 d = none → Same H1 H2 → H2 d = some (.xd [(f, v)]) → Q (.ref C) (some d) H2) :
    [v].length ≤ 1000 ∧ ∀ a, H1 a = none → spIni C f (V.ref a :: ([v] ++ [])) (upd H1 a (exo a C none)) (fun x H2 => x = .non ∧ ∃ (d : Addr) (fs : List (Str × V)), H2 a = some (exo a C (some d)) ∧ H2 d = some (exd d fs) ∧ H1 d = none ∧ Q (.ref C) (some d) (upd (del H2 a) d (.xd fs))) (fun _ _ _ => False) := by
  refine ⟨by show 1 ≤ 1000; decide, fun a na => ⟨a, v, rfl, upd_same, fun dx n ne => ?_⟩⟩
  have n1 : H1 dx = none := by rw [upd_ne ne] at n; exact n
  refine ⟨rfl, dx, _, upd_same, by rw [upd_ne ne, upd_same], n1, h dx _ n1 (fun b o e => ?_) upd_same⟩
  have hb : b ≠ dx := ne_of_none e n1
  have ha : b ≠ a := ne_of_none e na
  rw [upd_ne hb, del_ne ha, upd_ne ha, upd_ne hb, upd_ne ha]
  exact e
/-- what is asked of C(v, u) -/
theorem mk_two {C : Addr} {f g : Str} {H1 : Hp} {v u : V} {Q : XK} (h : ∀ d H2, H1 d = none → Same H1 H2 → H2 d = some (.xd [(g, u), (f, v)]) → Q (.ref C) (some d) H2) :
    [v, u].length ≤ 1000 ∧ ∀ a, H1 a = none → spIni2 C f g (V.ref a :: ([v, u] ++ [])) (upd H1 a (exo a C none)) (fun x H2 => x = .non ∧ ∃ (d : Addr) (fs : List (Str × V)), H2 a = some (exo a C (some d)) ∧ H2 d = some (exd d fs) ∧ H1 d = none ∧ Q (.ref C) (some d) (upd (del H2 a) d (.xd fs))) (fun _ _ _ => False) := by
  refine ⟨by show 2 ≤ 1000; decide, fun a na => ⟨a, v, u, rfl, upd_same, fun dx n ne => ?_⟩⟩
  have n1 : H1 dx = none := by rw [upd_ne ne] at n; exact n
  refine ⟨rfl, dx, _, by rw [upd_ne (Ne.symm ne), upd_same], upd_same, n1, h dx _ n1 (fun b o e => ?_) upd_same⟩
  have hb : b ≠ dx := ne_of_none e n1
  have ha : b ≠ a := ne_of_none e na
  rw [upd_ne hb, del_ne ha, upd_ne hb, upd_ne ha, upd_ne hb, upd_ne ha]
  exact e
/-- isinstance(e, c), isinstance(e, (c, ..)): e the exception that the suite holds, with fields -/
def rIsED (K : PySem.W.Frag) (a : Addr) (cls : Value) (d : Option Addr) : List V → Hp → VK → Prop := fun xs H Q => ∃ (C dd : Addr) (fs : List (Str × V)) (c : V) (b : Bool), xs = [.ref a, c] ∧ cls = .ref C ∧ d = some dd ∧ H dd = some (.xd fs) ∧ ExcC K C ∧
  ((∃ cv, (∀ u, RelV c u → u = cv) ∧ PySem.W.kitOne K (.ref C) cv = some b) ∨ ∃ (t : Addr) (cs : List Addr), c = .ref t ∧ H t = some (.tup (cs.map V.ref)) ∧ PySem.W.kitAny K (.ref C) (cs.map Value.ref) = some b) ∧ Q (.bl b) H
theorem vals_refs : ∀ {cs : List Addr} {us : List Value}, Vals (cs.map V.ref) us → us = cs.map Value.ref
  | [], _, h => by cases h; rfl
  | c :: cs, _, h => by
    cases h with
    | cons a b =>
      cases a
      exact congrArg (Value.ref c :: ·) (vals_refs b)
theorem call_isED {X : Cx} {a : Addr} {cls : Value} {d : Option Addr} {oe : Obj} {pn : List (Addr × Obj)} (hz : Zc cls d oe) (hf : ∃ vs, oe.data = .fields vs) : CallR (X.suite a ((a, oe) :: pn)) (.builtin "isinstance") (rIsED X.K a cls d) := by
  intro pins s σ H xs us Q I r h
  obtain ⟨D, dd, fs, c, b, rfl, rfl, rfl, hdd, C, hc, q⟩ := h
  cases r with
  | cons rx rr =>
    cases rr with
    | cons rt rr =>
      cases rr
      cases rx
      obtain ⟨hget, _⟩ := I.pin (a, oe) (List.mem_append.mpr (.inl List.mem_cons_self))
      obtain ⟨vs, hv⟩ := hf
      have hx : ObjOk X.prog X.w H s.heap dd (.xd fs) := I.hok dd _ hdd
      obtain ⟨mA, hns, hr⟩ := hx
      obtain ⟨od, ho, hl⟩ := lookIn_ns hns
      have J : PySem.W.InstAt s.heap a oe D (some od) := ⟨hget, hz.1, by unfold PySem.W.notCls; rw [hv] <;> rfl, by rw [hz.2]; exact ho⟩
      have cl : (PySem.W.clsIn X.K D).isSome = true := by
        obtain ⟨cd, e, _⟩ := PySem.W.any_some C.hd
        rw [e]; rfl
      have Z := fun (od : Option Obj) => PySem.W.kitx_exc (x := a) (ox := oe) (od := od) cl C.hg C.hk C.hs C.ha C.hn C.ht C.hm
      rcases hc with ⟨cv, hcv, e⟩ | ⟨t, cs, rfl, ht, e⟩
      · have ec := hcv _ rt
        subst ec
        exact PySem.W.kia_one (Z _) I.kIn J e (fun z => nomatch z) fun tk => ⟨.bl b, H, I.kept (t' := tk) fun _ _ z => z, rfl, q⟩
      · cases rt
        obtain ⟨_, its, rv, o, ho2, hcls, n, hdat⟩ := (show ObjOk X.prog X.w H s.heap t (.tup (cs.map V.ref)) from I.hok t _ ht)
        obtain ⟨oc, oda, odt, osl⟩ := o
        dsimp only at hcls hdat
        subst hcls hdat
        rw [← vals_refs rv] at e
        exact PySem.W.kia_tup (Z _) I.kIn J ho2 e (fun z => nomatch z) fun tk => ⟨.bl b, H, I.kept (t' := tk) fun _ _ z => z, rfl, q⟩
end CsX

set_option Elab.async false
set_option linter.all false
set_option maxRecDepth 100000
set_option maxHeartbeats 4000000
/-! name = {k: v for ..} as a statement. -/
namespace Cs
open PySem PySem.Spec PyProof.Rows L2
section
variable {X : Cx}
theorem ps_setDc {i : Nat} {y : Str} {py : Pos} {kx vx tg it : Expr} {cs : List Expr} {scope : Scope} {own : List (PySem.Str × Nat)} {pos spos : Pos} {wi : TI} {g : TG} {tt : TT} {tk tv : TE} (hc : X.calm = true) (hN : X.N.Nodup) (hy : X.N[i]? = some y) (hyl : X.env.scope.names.lookup y = some .local)
    (hsw : swapsWith (.DictComp kx vx [⟨tg, it, cs, 0⟩] scope pos) (some (.Name y py)) spos.line X.env = pure true) (hi : PI X tg it wi) (ok : BlkOk X.N X.env.scope scope own)
    (hg : ∀ (s : Shared) (H : Hp) (C : Addr) (cl : List (PySem.Str × Addr)) (fp : List Addr), PG (X.blk s H scope (compEnvC scope cl C X.env) fp) tg g)
    (ht : ∀ (s : Shared) (H : Hp) (C : Addr) (cl : List (PySem.Str × Addr)) (fp : List Addr), PTs (X.blk s H scope (compEnvC scope cl C X.env) fp) cs tt)
    (hk : ∀ (s : Shared) (H : Hp) (C : Addr) (cl : List (PySem.Str × Addr)) (fp : List Addr), PE (X.blk s H scope (compEnvC scope cl C X.env) fp) kx tk)
    (he : ∀ (s : Shared) (H : Hp) (C : Addr) (cl : List (PySem.Str × Addr)) (fp : List Addr), PE (X.blk s H scope (compEnvC scope cl C X.env) fp) vx tv)
    (hs : ∀ x, foldedSetIterable it X.env x = pure x := by intro _; rfl) :
    PS X (.Assign [.Name y py] (.DictComp kx vx [⟨tg, it, cs, 0⟩] scope pos) spos) (tAsg (tDc wi g tt tk tv (own.map (·.2))) (gName i)) := by
  refine ⟨fun pins s σ H D I h => ?_⟩
  rw [exec_Assign_Name_used _ _ _ _ hsw]
  refine wpAny_bind (wpAny_standAt (wpAny_bind ?_))
  have h : tDc wi g tt tk tv (own.map (·.2)) σ H (fun x H1 => gName i x σ H1 D.nx) := h
  refine wpAny_bind (thn (dc_core (Qf := fun _ s' => SP X pins D .next s') hc hN I hi ok hg ht hk he hs h fun L C s' m H' I' q hn f => ?_) fun _ s' hq => wpAny_pure (wpAny_pure hq))
  obtain ⟨f0, f1, f2, f3, f4, f5⟩ := f
  show wpAny _ _ (assign (.Name y py) X.env (.ref L)) _ _ _
  refine wpAny_assign_Name (store_ok2 (v := V.ref L) I' hN hy (.inl hyl) rfl (fun s2 I2 ⟨a, sb, ha⟩ => ?_) (.inr hyl))
  have apart : C ≠ a := ha.elim (fun z => z ▸ f1) fun z e => f4 y a z e.symm
  exact ⟨m, hn.sameBut sb apart, fun h3 sb3 => ⟨_, H', I2.turned (t' := s2.toks) (fun b o hb e => (sb3.2 b hb).trans e) f0 f1 f3 f4 f5, q⟩⟩
end
end Cs

set_option Elab.async false
set_option linter.all false
set_option maxRecDepth 100000
set_option maxHeartbeats 4000000
namespace K15
open PySem PySem.Spec PyProof.Rows L2 Cs
def topS (i : Nat) : Stmt := PySem.Challenge.pw_curbdesk_k15_loosest_or_cycle.main.body.getD i (.Pass ⟨0, 0, 0, 0⟩)
structure Bt (mg : Str → Option Value) : Prop where
  sorted : mg "sorted" = none
  set : mg "set" = none
  len : mg "len" = none
  isi : mg "isinstance" = none
  int : mg "int" = none
  bool : mg "bool" = none
  list : mg "list" = none
  all : mg "all" = none
  range : mg "range" = none
  dict : mg "dict" = none
abbrev Srt (ms : List Int) : Prop := ms.Pairwise (· < ·)
theorem same_new {H : Hp} {p : Addr} {o : HO} (h : H p = none) : Same H (upd H p o) := fun b x e => by
  rw [upd_ne (ne_of_none e h)]
  exact e
theorem same_at {H H' : Hp} {p : Addr} {o : HO} (s : Same H H') (h : H p = none) : Same H (upd H' p o) := fun b x e => by
  rw [upd_ne (ne_of_none e h)]
  exact s _ _ e
theorem sl_map {K : PySem.W.Frag} {H : Hp} {a : Addr} {xs : List V} (h : H a = some (.lst xs)) : SqL K H a xs := .inl (.inl h)
theorem and_iff (ns ks : List Int) (k : Int) : eAnd (fun j => decide (j ∈ ns)) (fun j => decide (j ∈ ks)) k ↔ k ∈ ns ∧ k ∈ ks := by
  show (decide (k ∈ ns) = true ∧ decide (k ∈ ks) = true) ↔ _
  simp
theorem or_iff' (ns ks : List Int) (k : Int) : eOr (fun j => decide (j ∈ ns)) (fun j => decide (j ∈ ks)) k ↔ k ∈ ns ∨ k ∈ ks := by
  show (decide (k ∈ ns) = true ∨ decide (k ∈ ks) = true) ↔ _
  simp
theorem sub_iff (ns ks : List Int) (k : Int) : eSub (fun j => decide (j ∈ ns)) (fun j => decide (j ∈ ks)) k ↔ k ∈ ns ∧ k ∉ ks := by
  show (decide (k ∈ ns) = true ∧ decide (k ∈ ks) = false) ↔ _
  simp
section
variable {P : Program} {w : World} {K : PySem.W.Frag} {mg : Str → Option Value} {base : Heap}
/-! ### the program: sides -/
/-- two lists, and what is said of the members -/
def spTwo (K : PySem.W.Frag) (mem : List Int → List Int → Int → Prop) : Sp := fun vs H Q _ => ∃ (a b : Addr) (ns ks : List Int), vs = [.ref a, .ref b] ∧ SqL K H a (ns.map V.int) ∧ SqL K H b (ks.map V.int) ∧ ns.length ≤ 31 ∧ ks.length ≤ 31 ∧
  ∀ H' p ms, Same H H' → H p = none → H' p = some (.lst (ms.map V.int)) → Srt ms → (∀ k, k ∈ ms ↔ mem ns ks k) → ms.length ≤ 63 → Q (.ref p) H'
end
section
variable {P : Program} {w : World} {K : PySem.W.Frag} {mg : Str → Option Value} {base : Heap}
abbrev sIsInt : Stmt := topS 6
abbrev sStream : Stmt := topS 7
abbrev sDraw : Stmt := topS 8
theorem scIsInt : FnScope ["_law_actual"] ["_law_actual"] (defScope sIsInt) := ⟨rfl, rfl, rfl, by decide +kernel, rfl, by decide +kernel, by decide +kernel⟩
theorem scStream : FnScope ["_law_script", "_law_k", "_law_cell"] ["_law_script", "_law_k"] (defScope sStream) := ⟨rfl, rfl, rfl, by decide +kernel, rfl, by decide +kernel, by decide +kernel⟩
theorem scDraw : FnScope ["_law_stream_here", "_law_size", "_law_digit", "_law_mixed"] ["_law_stream_here", "_law_size"] (defScope sDraw) := ⟨rfl, rfl, rfl, by decide +kernel, rfl, by decide +kernel, by decide +kernel⟩
def spIsInt : Sp := fun vs H Q _ => ∃ k : Int, vs = [.int k] ∧ Q (.bl true) H
theorem ok_isInt {f : Addr} {fd : FuncData} {k : Nat} (F : Fun K "_law_is_integer" "_law_is_integer" sIsInt f fd) (B : Bt mg) : FnOk P w K mg base CX0 (k + 1) f fd ["_law_actual"] spIsInt := by
  refine F.ok scIsInt (fun vs H Q E h => ?_) (fun cdv A outer s H vs Q E hr h => ?_)
  · obtain ⟨a, rfl, _⟩ := h
    rfl
  · obtain ⟨a, rfl, q⟩ := h
    refine ⟨_, pss_one (ps_ret (pe_and (pe_callB call_isi (by rfl) B.isi PyProof.Rows.boot_isinstance (pa_cons (pv 0) (pa_cons (pe_bltn (by rfl) B.int PyProof.Rows.boot_int (v := .ty "int") rfl) pa_nil)))
      (pe_one (pe_not (pe_callB call_isi (by rfl) B.isi PyProof.Rows.boot_isinstance (pa_cons (pv 0) (pa_cons (pe_bltn (by rfl) B.bool PyProof.Rows.boot_bool (v := .ty "bool") rfl) pa_nil))))))), ?_⟩
    refine ⟨.int a, rfl, .int a, .ty "int", .type "int", .type "int", true, rfl, .ty _, .base (.int a), kit_ty (by decide +kernel), true, rfl, iteT ?_⟩
    exact ⟨.int a, rfl, .int a, .ty "bool", .type "int", .type "bool", false, rfl, .ty _, .base (.int a), kit_ty (by decide +kernel), false, rfl, q⟩

/-- a stream: three ints -/
def Strm (H : Hp) (p : Addr) : Prop := ∃ x y z : Int, H p = some (.lst [.int x, .int y, .int z])
def spStream (K : PySem.W.Frag) : Sp := fun vs H Q _ => ∃ (a : Addr) (ns : List Int) (k : Nat), vs = [.ref a, .int (k : Int)] ∧ SqL K H a (ns.map V.int) ∧
  ∀ H' p, Same H H' → H p = none → Strm H' p → Q (.ref p) H'
theorem ok_stream {f : Addr} {fd : FuncData} {k : Nat} (F : Fun K "_law_stream" "_law_stream" sStream f fd) (B : Bt mg) : FnOk P w K mg base CX0 (k + 1) f fd ["_law_script", "_law_k"] (spStream K) := by
  refine F.ok scStream (fun vs H Q E h => ?_) (fun cdv A outer s H vs Q E hr h => ?_)
  · obtain ⟨a, ns, k, rfl, _⟩ := h
    rfl
  · obtain ⟨a, ns, k, rfl, hS, q⟩ := h
    refine ⟨_, pss_cons (ps_set (i := 2) scStream.nd rfl (.inl rfl) pe_int)
      (pss_cons (ps_if (pt_cmpR op_lt (pv 1) (pe_callB call_len_seq (by rfl) B.len PySem.boot_len (pa_cons (pv 0) pa_nil)) (nomark _))
        (pss_one (ps_set (i := 2) scStream.nd rfl (.inl rfl) (pe_ix ix_list (pv 0) (pv 1) (fun _ _ => rfl)))) pss_nil)
      (pss_one (ps_ret (pe_lst (pa_cons (pe_op op_mul (pv 2) (pe_callTy call_int1 (by rfl) B.int PyProof.Rows.boot_int (pa_cons (pe_cmpR op_ge (pv 2) (pe_op op_pow pe_int pe_int) (nomark _)) pa_nil))) (pa_cons pe_int (pa_cons (pv 2) pa_nil))))))), ?_⟩
    have tail : ∀ (c : Int) (b : Bool), -(2 ^ 64) < (if b = true then (1 : Int) else 0) ∧ (if b = true then (1 : Int) else 0) < 2 ^ 64 := fun c b => by cases b <;> decide
    refine ⟨.int k, rfl, .ref a, rfl, a, _, rfl, .inl hS, (k : Int), _, rfl, rfl, _, rfl, ite2 (fun c => ?_) (fun c => ?_)⟩
    · have hk : k < ns.length := by
        have := of_decide_eq_true c
        rw [List.length_map] at this
        omega
      have g : (ns.map V.int)[k]? = some (.int ns[k]) := by
        rw [List.getElem?_map, List.getElem?_eq_getElem hk]
        rfl
      refine ⟨.ref a, rfl, .int k, rfl, a, _, (k : Int), _, rfl, rfl, hS, atI_nat g, ?_⟩
      refine ⟨.int ns[k], rfl, .int ns[k], rfl, 10, 18, rfl, rfl, ⟨by decide, by decide, by decide⟩, ns[k], _, rfl, rfl, .inr ⟨_, rfl, ns[k], _, rfl, rfl, .inr (tail 0 _), .int ns[k], rfl, by show 3 ≤ sizeLine; decide, fun l hl => ?_⟩⟩
      exact q _ l (same_new hl) hl ⟨_, _, _, upd_same⟩
    · refine ⟨.int 0, rfl, .int 0, rfl, 10, 18, rfl, rfl, ⟨by decide, by decide, by decide⟩, 0, _, rfl, rfl, .inr ⟨_, rfl, 0, _, rfl, rfl, .inr (tail 0 _), .int 0, rfl, by show 3 ≤ sizeLine; decide, fun l hl => ?_⟩⟩
      exact q _ l (same_new hl) hl ⟨_, _, _, upd_same⟩
/-- all but the one at p is as it was -/
def Oth (p : Addr) (H H' : Hp) : Prop := ∀ b, b ≠ p → H' b = H b
def spDraw : Sp := fun vs H Q _ => ∃ (p : Addr) (m : Int), vs = [.ref p, .int m] ∧ Strm H p ∧ 0 < m ∧ m < 1073741824 ∧
  ∀ H' d, Oth p H H' → Strm H' p → 0 ≤ d → d < m → Q (.int d) H'
theorem at0 {x y z : V} : atI [x, y, z] (0 : Int) = some x := atI_nat (j := 0) rfl
theorem at1 {x y z : V} : atI [x, y, z] (1 : Int) = some y := atI_nat (j := 1) rfl
theorem at2 {x y z : V} : atI [x, y, z] (2 : Int) = some z := atI_nat (j := 2) rfl
theorem ok_draw {f : Addr} {fd : FuncData} {k : Nat} (F : Fun K "_law_next" "_law_next" sDraw f fd) (B : Bt mg) : FnOk P w K mg base CX0 (k + 1) f fd ["_law_stream_here", "_law_size"] spDraw := by
  refine F.ok scDraw (fun vs H Q E h => ?_) (fun cdv A outer s H vs Q E hr h => ?_)
  · obtain ⟨p, m, rfl, _⟩ := h
    rfl
  · obtain ⟨p, m, rfl, ⟨x, y, z, hp⟩, m0, m1, q⟩ := h
    refine ⟨_, pss_cons (ps_asg (pe_op op_add (pe_ix ix_list (pv 0) pe_int (fun _ _ => rfl)) pe_int) (pg_sub (pv 0) pe_int set_list))
      (pss_cons (ps_if (pt_cmpR op_gt (pe_ix ix_list (pv 0) pe_int (fun _ _ => rfl)) pe_int (nomark _))
        (pss_cons (ps_set (i := 2) scDraw.nd rfl (.inl rfl) (pe_op op_mod (pe_callTy call_int1 (by rfl) B.int PyProof.Rows.boot_int (pa_cons (pe_ix ix_list (pv 0) pe_int (fun _ _ => rfl)) pa_nil)) (pv 1)))
          (pss_cons (ps_asg (pe_op op_fdiv (pe_ix ix_list (pv 0) pe_int (fun _ _ => rfl)) (pv 1)) (pg_sub (pv 0) pe_int set_list))
          (pss_one (ps_ret (pv 2))))) pss_nil)
      (pss_cons (ps_set (i := 3) scDraw.nd rfl (.inl rfl) (pe_op op_mod (pe_callTy call_int1 (by rfl) B.int PyProof.Rows.boot_int (pa_cons
          (pe_op op_add (pe_op op_add (pe_ix ix_list (pv 0) pe_int (fun _ _ => rfl)) (pe_op op_mul pe_int (pe_ix ix_list (pv 0) pe_int (fun _ _ => rfl)))) pe_int) pa_nil)) pe_int))
      (pss_cons (ps_set (i := 3) scDraw.nd rfl (.inl rfl) (pe_op op_mod (pe_callTy call_int1 (by rfl) B.int PyProof.Rows.boot_int (pa_cons
          (pe_op op_mul (pv 3) (pe_op op_add (pv 3) pe_int)) pa_nil)) pe_int))
      (pss_cons (ps_set (i := 3) scDraw.nd rfl (.inl rfl) (pe_op op_mod (pe_callTy call_int1 (by rfl) B.int PyProof.Rows.boot_int (pa_cons
          (pe_op op_add (pe_op op_mul (pv 3) (pe_op op_add (pv 3) pe_int)) (pe_op op_mul pe_int (pe_ix ix_list (pv 0) pe_int (fun _ _ => rfl)))) pa_nil)) pe_int))
      (pss_one (ps_ret (pe_op op_mod (pe_callTy call_int1 (by rfl) B.int PyProof.Rows.boot_int (pa_cons (pe_op op_fdiv (pv 3) pe_int) pa_nil)) (pv 1)))))))), ?_⟩
    have pos1 : (0 : Int) < 2147483647 := by decide
    have pos2 : (0 : Int) < 2147483629 := by decide
    -- stream[1] = stream[1] + 1
    refine ⟨.ref p, rfl, p, _, 1, .int y, rfl, rfl, sl_map hp, at1, y, 1, rfl, rfl, .ref p, rfl, p, _, 1, 1, rfl, rfl, hp, rfl, ?_⟩
    have h1 : ∀ o, (upd H p o) p = some o := fun o => upd_same
    -- if stream[0] > 0
    refine ⟨.ref p, rfl, p, _, 0, .int x, rfl, rfl, sl_map upd_same, at0, x, 0, rfl, rfl, _, rfl, ite2 (fun c => ?_) (fun c => ?_)⟩
    · refine ⟨.ref p, rfl, p, _, 0, .int x, rfl, rfl, sl_map upd_same, at0, .inl ⟨x, rfl, .int m, rfl, x, m, rfl, rfl, m0, ?_⟩⟩
      refine ⟨.ref p, rfl, p, _, 0, .int x, rfl, rfl, sl_map upd_same, at0, .int m, rfl, x, m, rfl, rfl, ⟨m0, m1⟩, .ref p, rfl, p, _, 0, 0, rfl, rfl, upd_same, rfl, ?_⟩
      refine ⟨.int (x % m), rfl, q _ _ (fun b hb => by rw [upd_ne hb, upd_ne hb]) ⟨_, _, _, upd_same⟩ (Int.emod_nonneg _ (by omega)) (Int.emod_lt_of_pos _ m0)⟩
    · refine ⟨.ref p, rfl, p, _, 2, .int z, rfl, rfl, sl_map upd_same, at2, .ref p, rfl, p, _, 1, .int (y + 1), rfl, rfl, sl_map upd_same, at1, 7919, y + 1, rfl, rfl, .inl ⟨by decide, by decide⟩, z, _, rfl, rfl, _, 13, rfl, rfl,
        .inl ⟨_, rfl, _, 2147483647, rfl, rfl, pos1, ?_⟩⟩
      have r1 : ∀ u : Int, 0 ≤ u % 2147483647 ∧ u % 2147483647 < 2147483647 := fun u => ⟨Int.emod_nonneg _ (by decide), Int.emod_lt_of_pos _ (by decide)⟩
      have r2 : ∀ u : Int, 0 ≤ u % 2147483629 ∧ u % 2147483629 < 2147483629 := fun u => ⟨Int.emod_nonneg _ (by decide), Int.emod_lt_of_pos _ (by decide)⟩
      have big : (2147483647 : Int) < 2 ^ 64 := by decide
      have big2 : (-(2 ^ 64) : Int) < 0 := by decide
      have b1 := r1 (z + 7919 * (y + 1) + 13)
      refine ⟨_, rfl, _, rfl, (z + 7919 * (y + 1) + 13) % 2147483647, 48271, rfl, rfl, (z + 7919 * (y + 1) + 13) % 2147483647, _, rfl, rfl, .inl ⟨by omega, by omega⟩, .inl ⟨_, rfl, _, 2147483629, rfl, rfl, pos2, ?_⟩⟩
      have b2 := r2 ((z + 7919 * (y + 1) + 13) % 2147483647 * ((z + 7919 * (y + 1) + 13) % 2147483647 + 48271))
      refine ⟨_, rfl, _, rfl, _, 69621, rfl, rfl, (z + 7919 * (y + 1) + 13) % 2147483647 * ((z + 7919 * (y + 1) + 13) % 2147483647 + 48271) % 2147483629, _, rfl, rfl, .inl ⟨?_, ?_⟩, .ref p, rfl, p, _, 1, .int (y + 1), rfl, rfl, sl_map upd_same, at1, 31, y + 1, rfl, rfl, .inl ⟨by decide, by decide⟩, _, _, rfl, rfl,
        .inl ⟨_, rfl, _, 2147483647, rfl, rfl, pos1, ?_⟩⟩
      · generalize (z + 7919 * (y + 1) + 13) % 2147483647 * ((z + 7919 * (y + 1) + 13) % 2147483647 + 48271) % 2147483629 = v at b2
        omega
      · generalize (z + 7919 * (y + 1) + 13) % 2147483647 * ((z + 7919 * (y + 1) + 13) % 2147483647 + 48271) % 2147483629 = v at b2
        omega
      refine ⟨_, rfl, _, 9, rfl, rfl, ⟨by decide, by decide⟩, .inl ⟨_, rfl, .int m, rfl, _, m, rfl, rfl, m0, ?_⟩⟩
      exact q _ _ (fun b hb => by rw [upd_ne hb]) ⟨_, _, _, upd_same⟩ (Int.emod_nonneg _ (by omega)) (Int.emod_lt_of_pos _ m0)
/-- a def that stands, with its promise -/
structure Call (P : Program) (w : World) (K : PySem.W.Frag) (mg : Str → Option Value) (base : Heap) (k : Nat) (x : Str) (f : Addr) (fd : FuncData) (ps : List Str) (sp : Sp) : Prop where
  ok : FnOk P w K mg base CX0 k f fd ps sp
  at_ : mg x = some (.ref f)
  kp : PySem.W.keepIn K (.ref f) = true
  bd : Binds K fd ps []
abbrev nIsSide : List Str := ["_law_actual", "_law_value", "_law_k"]
def spIsSide : Sp := fun vs H Q _ => ∃ (a : Addr) (ns : List Int), vs = [.ref a] ∧ H a = some (.lst (ns.map V.int)) ∧ Srt ns ∧ ns.length ≤ 1000 ∧ ∀ H', Same H H' → Q (.bl true) H'
theorem all_rep (n : Nat) : (List.replicate n true).all id = true := by simp
/-- what was tracked, but for the one at p, is as it was -/
def Keep (p : Addr) (H H' : Hp) : Prop := ∀ b o, b ≠ p → H b = some o → H' b = some o
theorem Keep.refl (p : Addr) (H : Hp) : Keep p H H := fun _ _ _ e => e
theorem Keep.oth {p : Addr} {H H1 H2 : Hp} (k : Keep p H H1) (o : Oth p H1 H2) : Keep p H H2 := fun b u hb e => (o b hb).trans (k b u hb e)
theorem Keep.trans {p : Addr} {H H1 H2 : Hp} (k : Keep p H H1) (k2 : Keep p H1 H2) : Keep p H H2 := fun b u hb e => k2 b u hb (k b u hb e)
theorem Keep.at_ {p q : Addr} {o : HO} {H H1 : Hp} (k : Keep p H H1) (n : H q = none) : Keep p H (upd H1 q o) := fun b u hb e => by
  rw [upd_ne (ne_of_none e n)]
  exact k b u hb e
theorem Keep.same {p : Addr} {H H1 : Hp} (s : Same H H1) : Keep p H H1 := fun b u _ e => s b u e
theorem Strm.some {H : Hp} {p : Addr} (s : Strm H p) : H p ≠ none := fun z => by
  obtain ⟨x, y, z', e⟩ := s
  rw [z] at e
  cases e
theorem Strm.keep {H H' : Hp} {p q : Addr} (s : Strm H p) (k : Keep q H H') (h : p ≠ q) : Strm H' p := by
  obtain ⟨x, y, z, e⟩ := s
  exact ⟨x, y, z, k _ _ h e⟩
theorem Strm.upd {H : Hp} {p q : Addr} {o : HO} (s : Strm H p) (h : p ≠ q) : Strm (upd H q o) p := by
  obtain ⟨x, y, z, e⟩ := s
  exact ⟨x, y, z, by rw [upd_ne h]; exact e⟩
theorem Keep.free {p q : Addr} {H H1 : Hp} (k : Keep p H H1) (s : Strm H1 p) (n : H1 q = none) : H q = none := by
  have hp : q ≠ p := fun z => s.some (z ▸ n)
  cases c : H q with
  | none => rfl
  | some o =>
    rw [k q o hp c] at n
    cases n
end
theorem srt_ext : ∀ {xs ys : List Int}, Srt xs → Srt ys → (∀ k, k ∈ xs ↔ k ∈ ys) → xs = ys
  | [], [], _, _, _ => rfl
  | [], y :: ys, _, _, h => absurd ((h y).2 List.mem_cons_self) (by simp)
  | x :: xs, [], _, _, h => absurd ((h x).1 List.mem_cons_self) (by simp)
  | x :: xs, y :: ys, sx, sy, h => by
    obtain ⟨x1, x2⟩ := List.pairwise_cons.mp sx
    obtain ⟨y1, y2⟩ := List.pairwise_cons.mp sy
    have e : x = y := by
      rcases List.mem_cons.mp ((h x).1 List.mem_cons_self) with a | a
      · exact a
      · rcases List.mem_cons.mp ((h y).2 List.mem_cons_self) with b | b
        · exact b.symm
        · have := x1 y b
          have := y1 x a
          omega
    subst e
    have t : ∀ k, k ∈ xs ↔ k ∈ ys := fun k => by
      constructor
      · intro hk
        rcases List.mem_cons.mp ((h k).1 (List.mem_cons_of_mem _ hk)) with a | a
        · have := x1 k hk
          omega
        · exact a
      · intro hk
        rcases List.mem_cons.mp ((h k).2 (List.mem_cons_of_mem _ hk)) with a | a
        · have := y1 k hk
          omega
        · exact a
    rw [srt_ext x2 y2 t]
/-! ### lists of ints as data -/
abbrev dI (ns : List Int) : PyData := .list (ns.map PyData.int)
theorem dp_all {K : PySem.W.Frag} {H : Hp} : ∀ ns : List Int, DpAll K H (ns.map V.int) (ns.map PyData.int)
  | [] => .nil
  | n :: ns => .cons (.int n) (dp_all ns)
theorem dpI {K : PySem.W.Frag} {H : Hp} {a : Addr} {ns : List Int} (h : SqL K H a (ns.map V.int)) : Dp K H (.ref a) (dI ns) := .lst h (dp_all ns)
theorem lay_all : ∀ ns : List Int, PyData.canLayAll0 (ns.map PyData.int) = true
  | [] => rfl
  | n :: ns => by
    show (PyData.canLay0 (.int n) && PyData.canLayAll0 (ns.map PyData.int)) = true
    rw [lay_all ns] <;> rfl
theorem layI (ns : List Int) : (dI ns).canLay0 = true := lay_all ns
theorem deep_all : ∀ ns : List Int, PyData.depthAll (ns.map PyData.int) ≤ 1
  | [] => by simp [PyData.depthAll]
  | n :: ns => by
    have := deep_all ns
    simp only [List.map_cons, PyData.depthAll, PyData.depth]
    omega
theorem deepI (ns : List Int) : (dI ns).depth ≤ 2 := by
  have := deep_all ns
  simp only [dI, PyData.depth]
  omega
theorem shI (ns : List Int) : SeqAt.shaped (dI ns) = true := by
  unfold SeqAt.shaped
  rw [layI]
  have := deepI ns
  simp
  omega
theorem eqI (ns : List Int) : PyData.eqv (dI ns) (dI ns) = true := SeqAt.eqv_refl _ (layI ns)
theorem lay2 (ns ks : List Int) : (PyData.list [dI ns, dI ks]).canLay0 = true := by
  show (PyData.canLay0 (dI ns) && (PyData.canLay0 (dI ks) && true)) = true
  rw [layI, layI]
  rfl
theorem sh2 (ns ks : List Int) : SeqAt.shaped (.list [dI ns, dI ks]) = true := by
  unfold SeqAt.shaped
  rw [lay2]
  have h1 := deepI ns
  have h2 := deepI ks
  have : (PyData.list [dI ns, dI ks]).depth ≤ 3 := by
    simp only [PyData.depth, PyData.depthAll] at *
    omega
  simp
  omega
theorem eq2 (ns ks : List Int) : PyData.eqv (.list [dI ns, dI ks]) (.list [dI ns, dI ks]) = true := SeqAt.eqv_refl _ (lay2 ns ks)
/-! ### boxes: dicts from texts to lists of ints -/
abbrev Ent := Str × Addr × List Int
def entK (L : List Ent) : List (Key × V) := L.map fun e => (Sum.inr e.1, V.ref e.2.1)
def getE (L : List Ent) (x : Str) : Option Ent := L.find? fun e => decide (e.1 = x)
def look (L : List Ent) (x : Str) : Option (List Int) := (getE L x).map (·.2.2)
theorem getE_nil (x : Str) : getE [] x = none := rfl
theorem getE_pos {e : Ent} {L : List Ent} {x : Str} (h : e.1 = x) : getE (e :: L) x = some e := by simp [getE, List.find?_cons, h]
theorem getE_neg {e : Ent} {L : List Ent} {x : Str} (h : ¬ e.1 = x) : getE (e :: L) x = getE L x := by simp [getE, List.find?_cons, h]
theorem getE_mem {L : List Ent} {x : Str} {e : Ent} (h : getE L x = some e) : e ∈ L ∧ e.1 = x :=
  ⟨List.mem_of_find?_eq_some h, of_decide_eq_true (List.find?_some (p := fun e : Ent => decide (e.1 = x)) h)⟩
theorem getE_of : ∀ {L : List Ent} {e : Ent}, (L.map (·.1)).Nodup → e ∈ L → getE L e.1 = some e
  | [], _, _, h => by cases h
  | a :: L, e, nd, h => by
    rw [List.map_cons, List.nodup_cons] at nd
    rcases List.mem_cons.mp h with z | z
    · rw [z]; exact getE_pos rfl
    · have ne : ¬ a.1 = e.1 := fun q => nd.1 (q ▸ List.mem_map_of_mem z)
      rw [getE_neg ne]
      exact getE_of nd.2 z
theorem getE_none {L : List Ent} {x : Str} : getE L x = none ↔ x ∉ L.map (·.1) := by
  unfold getE
  rw [List.find?_eq_none]
  constructor
  · intro h hx
    obtain ⟨e, he, q⟩ := List.mem_map.mp hx
    exact h e he (decide_eq_true q)
  · intro h e he q
    exact h (of_decide_eq_true q ▸ List.mem_map_of_mem he)
theorem look_mem {L : List Ent} {e : Ent} (nd : (L.map (·.1)).Nodup) (h : e ∈ L) : look L e.1 = some e.2.2 := by
  unfold look
  rw [getE_of nd h]
  rfl
theorem valV_ent (x : Str) : ∀ L : List Ent, valV (entK L) (.inr x) = (getE L x).map fun e => V.ref e.2.1
  | [] => rfl
  | e :: L => by
    by_cases h : e.1 = x
    · rw [getE_pos h]
      exact valV_pos (congrArg Sum.inr h)
    · rw [getE_neg h]
      have : valV (entK (e :: L)) (.inr x) = valV (entK L) (.inr x) := valV_neg (fun z => h (Sum.inr.inj z))
      rw [this]
      exact valV_ent x L
structure Bx (H : Hp) (d : Addr) (L : List Ent) : Prop where
  rd : Rd H d (.dK (entK L))
  sides : ∀ e ∈ L, H e.2.1 = some (.lst (e.2.2.map V.int))
  nd : (L.map (·.1)).Nodup
  few : L.length ≤ 40
theorem Rd.same {H H' : Hp} {a : Addr} {u : HO} (s : Same H H') (r : Rd H a u) : Rd H' a u := r.elim (fun h => .inl (s _ _ h)) fun ⟨o, h⟩ => .inr ⟨o, s _ _ h⟩
theorem Bx.same {H H' : Hp} {d : Addr} {L : List Ent} (B : Bx H d L) (s : Same H H') : Bx H' d L := ⟨Rd.same s B.rd, fun e he => s _ _ (B.sides e he), B.nd, B.few⟩
theorem Bx.get {H : Hp} {d : Addr} {L : List Ent} (B : Bx H d L) (x : Str) : DGet H d (.str x) ((getE L x).map fun e => V.ref e.2.1) := .inl ⟨entK L, .inr x, B.rd, rfl, (valV_ent x L).symm⟩
/-- a locked dict is read as before -/
theorem Bx.lock {H : Hp} {d d' : Addr} {L L' : List Ent} {od : Obj} (B : Bx H d L) (h : H d' = some (.dK (entK L'))) : Bx (upd H d' (.frz od (.dK (entK L')))) d L := by
  refine ⟨?_, fun e he => ?_, B.nd, B.few⟩
  · by_cases z : d = d'
    · subst z
      have : entK L' = entK L := by
        rcases B.rd with q | ⟨o, q⟩
        · rw [h] at q
          exact HO.dK.inj (Option.some.inj q)
        · rw [h] at q; cases q
      rw [← this]
      exact .inr ⟨od, upd_same⟩
    · rcases B.rd with q | ⟨o, q⟩
      · exact .inl (by rw [upd_ne z]; exact q)
      · exact .inr ⟨o, by rw [upd_ne z]; exact q⟩
  · have : e.2.1 ≠ d' := fun z => by have q := B.sides e he; rw [z, h] at q; cases q
    rw [upd_ne this]
    exact B.sides e he
theorem unlock {H H' : Hp} {d : Addr} {u : HO} {od : Obj} (h : H d = some u) (s : Same (upd H d (.frz od u)) H') : Same H (upd H' d u) := fun b o e => by
  by_cases z : b = d
  · subst z
    rw [upd_same]
    exact h.symm.trans e
  · rw [upd_ne z]
    exact s b o (by rw [upd_ne z]; exact e)
/-- put -/
def putE (L : List Ent) (x : Str) (a : Addr) (s : List Int) : List Ent := if (L.any fun e => decide (e.1 = x)) = true then L.map (fun e => if e.1 = x then (x, a, s) else e) else L ++ [(x, a, s)]
theorem any_ent (L : List Ent) (x : Str) : ((entK L).any fun kv => decide (kv.1 = Sum.inr x)) = L.any fun e => decide (e.1 = x) := by
  unfold entK
  rw [List.any_map]
  congr 1
  funext e
  simp
theorem putK_ent (L : List Ent) (x : Str) (a : Addr) (s : List Int) : putK (entK L) (.inr x) (V.ref a) = entK (putE L x a s) := by
  unfold putK putE
  rw [any_ent]
  by_cases h : (L.any fun e => decide (e.1 = x)) = true
  · rw [if_pos h, if_pos h]
    unfold entK
    rw [List.map_map, List.map_map]
    congr 1
    funext e
    by_cases z : e.1 = x
    · simp [z]
    · simp [z]
  · rw [if_neg h, if_neg h]
    unfold entK
    rw [List.map_append]
    rfl
theorem any_iff {L : List Ent} {x : Str} : (L.any fun e => decide (e.1 = x)) = true ↔ x ∈ L.map (·.1) := by
  rw [List.any_eq_true, List.mem_map]
  constructor
  · rintro ⟨e, he, q⟩; exact ⟨e, he, of_decide_eq_true q⟩
  · rintro ⟨e, he, q⟩; exact ⟨e, he, decide_eq_true q⟩
theorem putE_keys (L : List Ent) (x : Str) (a : Addr) (s : List Int) : (putE L x a s).map (·.1) = if x ∈ L.map (·.1) then L.map (·.1) else L.map (·.1) ++ [x] := by
  unfold putE
  by_cases h : (L.any fun e => decide (e.1 = x)) = true
  · rw [if_pos h, if_pos (any_iff.mp h), List.map_map]
    congr 1
    funext e
    by_cases z : e.1 = x
    · simp [z]
    · simp [z]
  · rw [if_neg h, if_neg (fun z => h (any_iff.mpr z)), List.map_append]
    rfl
theorem putE_nd {L : List Ent} {x : Str} {a : Addr} {s : List Int} (nd : (L.map (·.1)).Nodup) : ((putE L x a s).map (·.1)).Nodup := by
  rw [putE_keys]
  split
  · exact nd
  · rename_i h
    rw [List.nodup_append]
    exact ⟨nd, by simp, fun y hy z hz => by rw [List.mem_singleton.mp hz]; exact fun e => h (e ▸ hy)⟩
theorem putE_len (L : List Ent) (x : Str) (a : Addr) (s : List Int) : (putE L x a s).length ≤ L.length + 1 := by
  unfold putE
  split
  · rw [List.length_map]; omega
  · rw [List.length_append]; exact Nat.le_refl _
theorem putE_mem {L : List Ent} {x : Str} {a : Addr} {s : List Int} {e : Ent} (h : e ∈ putE L x a s) : e = (x, a, s) ∨ (e ∈ L ∧ e.1 ≠ x) := by
  unfold putE at h
  split at h
  · obtain ⟨f, hf, q⟩ := List.mem_map.mp h
    by_cases z : f.1 = x
    · rw [if_pos z] at q; exact .inl q.symm
    · rw [if_neg z] at q; exact .inr (q ▸ ⟨hf, z⟩)
  · rename_i g
    rcases List.mem_append.mp h with q | q
    · exact .inr ⟨q, fun z => g (any_iff.mpr (z ▸ List.mem_map_of_mem q))⟩
    · exact .inl (List.mem_singleton.mp q)
theorem find_map_at {x y : Str} {a : Addr} {s : List Int} (h : ¬ x = y) : ∀ L : List Ent, getE (L.map (fun e => if e.1 = x then (x, a, s) else e)) y = getE L y
  | [] => rfl
  | e :: L => by
    rw [List.map_cons]
    by_cases z : e.1 = x
    · rw [if_pos z, getE_neg (show ¬ (x, a, s).1 = y from h), getE_neg (fun q => h (z.symm.trans q))]
      exact find_map_at h L
    · rw [if_neg z]
      by_cases q : e.1 = y
      · rw [getE_pos q, getE_pos q]
      · rw [getE_neg q, getE_neg q]
        exact find_map_at h L
theorem find_map_self {x : Str} {a : Addr} {s : List Int} : ∀ L : List Ent, x ∈ L.map (·.1) → getE (L.map (fun e => if e.1 = x then (x, a, s) else e)) x = some (x, a, s)
  | [], h => by cases h
  | e :: L, h => by
    rw [List.map_cons]
    by_cases z : e.1 = x
    · rw [if_pos z]; exact getE_pos rfl
    · rw [if_neg z, getE_neg z]
      rw [List.map_cons] at h
      exact find_map_self L ((List.mem_cons.mp h).elim (fun q => absurd q.symm z) id)
theorem getE_app (L M : List Ent) (y : Str) : getE (L ++ M) y = (getE L y).or (getE M y) := List.find?_append
theorem getE_put (L : List Ent) (x y : Str) (a : Addr) (s : List Int) : getE (putE L x a s) y = if y = x then some (x, a, s) else getE L y := by
  unfold putE
  by_cases h : (L.any fun e => decide (e.1 = x)) = true
  · rw [if_pos h]
    by_cases z : y = x
    · rw [if_pos z, z]
      exact find_map_self L (any_iff.mp h)
    · rw [if_neg z]
      exact find_map_at (fun q => z q.symm) L
  · rw [if_neg h, getE_app]
    by_cases z : y = x
    · rw [if_pos z, z, getE_none.mpr (fun q => h (any_iff.mpr q))]
      exact getE_pos rfl
    · rw [if_neg z, show getE [(x, a, s)] y = none from getE_neg (fun q => z q.symm)]
      cases getE L y <;> rfl
theorem look_put (L : List Ent) (x y : Str) (a : Addr) (s : List Int) : look (putE L x a s) y = if y = x then some s else look L y := by
  unfold look
  rw [getE_put]
  by_cases z : y = x
  · rw [if_pos z, if_pos z]; rfl
  · rw [if_neg z, if_neg z]
/-- drop -/
def dropE (L : List Ent) (x : Str) : List Ent := L.filter fun e => decide (e.1 ≠ x)
theorem dropK_ent (L : List Ent) (x : Str) : dropK (entK L) (.inr x) = entK (dropE L x) := by
  unfold dropK dropE entK
  rw [List.filter_map]
  congr 1
  apply List.filter_congr
  intro e _
  simp
theorem getE_drop (x y : Str) : ∀ L : List Ent, getE (dropE L x) y = if y = x then none else getE L y
  | [] => by unfold dropE; simp [getE]
  | e :: L => by
    have ih := getE_drop x y L
    unfold dropE at ih ⊢
    by_cases z : e.1 = x
    · rw [List.filter_cons_of_neg (by simp [z]), ih]
      by_cases q : y = x
      · rw [if_pos q, if_pos q]
      · rw [if_neg q, if_neg q, getE_neg (fun w => q (w.symm.trans z))]
    · rw [List.filter_cons_of_pos (by simp [z])]
      by_cases w : e.1 = y
      · rw [getE_pos w, getE_pos w, if_neg (fun q => z (w.trans q))]
      · rw [getE_neg w, getE_neg w, ih]
theorem look_drop (L : List Ent) (x y : Str) : look (dropE L x) y = if y = x then none else look L y := by
  unfold look
  rw [getE_drop]
  by_cases q : y = x
  · rw [if_pos q, if_pos q]; rfl
  · rw [if_neg q, if_neg q]
theorem dropE_nd {L : List Ent} {x : Str} (nd : (L.map (·.1)).Nodup) : ((dropE L x).map (·.1)).Nodup := List.Pairwise.sublist (List.Sublist.map _ List.filter_sublist) nd
theorem dropE_mem {L : List Ent} {x : Str} {e : Ent} (h : e ∈ dropE L x) : e ∈ L := (List.mem_filter.mp h).1
theorem dropE_len (L : List Ent) (x : Str) : (dropE L x).length ≤ L.length := List.length_filter_le _ _
/-- two boxes that say the same -/
def SameB (L M : List Ent) : Prop := ∀ x, look L x = look M x
theorem look_isSome {L : List Ent} {x : Str} : (look L x).isSome = true ↔ x ∈ L.map (·.1) := by
  unfold look
  rw [Option.isSome_map]
  cases h : getE L x with
  | none => simp [getE_none.mp h]
  | some e => simp only [Option.isSome_some, true_iff]; obtain ⟨a, b⟩ := getE_mem h; exact b ▸ List.mem_map_of_mem a
theorem len_le {α : Type} [DecidableEq α] : ∀ {l m : List α}, l.Nodup → (∀ x ∈ l, x ∈ m) → l.length ≤ m.length
  | [], _, _, _ => Nat.zero_le _
  | x :: l, m, nd, h => by
    rw [List.nodup_cons] at nd
    have hx := h x List.mem_cons_self
    have ih := len_le (m := m.erase x) nd.2 (fun y hy => (List.mem_erase_of_ne (fun (e : y = x) => nd.1 (by rw [← e]; exact hy))).2 (h y (List.mem_cons_of_mem _ hy)))
    rw [List.length_erase_of_mem hx] at ih
    have : 0 < m.length := List.length_pos_of_mem hx
    rw [List.length_cons]
    omega
theorem SameB.len {L M : List Ent} (s : SameB L M) (n1 : (L.map (·.1)).Nodup) (n2 : (M.map (·.1)).Nodup) : L.length = M.length := by
  have h1 := len_le n1 (fun x hx => look_isSome.mp (by rw [← s x]; exact look_isSome.mpr hx))
  have h2 := len_le n2 (fun x hx => look_isSome.mp (by rw [s x]; exact look_isSome.mpr hx))
  rw [List.length_map, List.length_map] at h1 h2
  omega
/-- v in ks, as the model asks it -/
theorem in_ints (ks : List Int) (v : Int) : inV (.int v) (ks.map V.int) = decide (v ∈ ks) := by
  unfold inV
  induction ks with
  | nil => simp
  | cons k ks ih =>
    rw [List.map_cons, List.any_cons, ih]
    have e : eqV (.int k) (.int v) = decide (k = v) := by
      by_cases c : k = v
      · subst c; simp [eqV]
      · simp [eqV, c]
    rw [e]
    by_cases c : k = v
    · subst c; simp
    · have c2 : ¬ v = k := fun z => c z.symm
      simp [c, c2]
theorem flat_ints (ks : List Int) : (ks.map V.int).all flatV = true := by
  rw [List.all_map]
  exact List.all_eq_true.mpr fun _ _ => rfl
section
variable {P : Program} {w : World} {K : PySem.W.Frag} {mg : Str → Option Value} {base : Heap}
/-! ### the program: boxes -/
/-- a box that no walk has locked -/
structure Bu (H : Hp) (d : Addr) (L : List Ent) : Prop extends Bx H d L where
  un : H d = some (.dK (entK L))
theorem Bu.same' {H H' : Hp} {d : Addr} {L : List Ent} (B : Bu H d L) (s : Same H H') : Bu H' d L := ⟨B.toBx.same s, s _ _ B.un⟩
theorem upd_back {H : Hp} {d : Addr} {u x : HO} (h : H d = some u) : upd (upd H d x) d u = H := by
  funext b
  by_cases z : b = d
  · rw [z, upd_same, h]
  · rw [upd_ne z, upd_ne z]
theorem entK_get {L : List Ent} {i : Nat} : (entK L)[i]? = (L[i]?).map fun e => (Sum.inr e.1, V.ref e.2.1) := by
  unfold entK
  rw [List.getElem?_map]
/-! ### holds -/
def intK (A : List (Str × Int)) : List (Key × V) := A.map fun e => (Sum.inr e.1, V.int e.2)
def aget (A : List (Str × Int)) (x : Str) : Option Int := (A.find? fun e => decide (e.1 = x)).map (·.2)
theorem valV_int (x : Str) : ∀ A : List (Str × Int), valV (intK A) (.inr x) = (aget A x).map V.int
  | [] => rfl
  | e :: A => by
    by_cases h : e.1 = x
    · have : aget (e :: A) x = some e.2 := by simp [aget, List.find?_cons, h]
      rw [this]
      exact valV_pos (congrArg Sum.inr h)
    · have : aget (e :: A) x = aget A x := by simp [aget, List.find?_cons, h]
      rw [this]
      have : valV (intK (e :: A)) (.inr x) = valV (intK A) (.inr x) := valV_neg (fun z => h (Sum.inr.inj z))
      rw [this]
      exact valV_int x A
/-- an assignment: a dict from texts to ints -/
structure Ax (H : Hp) (d : Addr) (A : List (Str × Int)) : Prop where
  rd : Rd H d (.dK (intK A))
theorem Ax.same {H H' : Hp} {d : Addr} {A : List (Str × Int)} (B : Ax H d A) (s : Same H H') : Ax H' d A := ⟨Rd.same s B.rd⟩
theorem Ax.get {H : Hp} {d : Addr} {A : List (Str × Int)} (B : Ax H d A) (x : Str) : DGet H d (.str x) ((aget A x).map V.int) := .inl ⟨intK A, .inr x, B.rd, rfl, (valV_int x A).symm⟩
def inSide (A : List (Str × Int)) (e : Ent) : Bool := match aget A e.1 with
  | some v => decide (v ∈ e.2.2)
  | none => true
def holdsE (L : List Ent) (A : List (Str × Int)) : Bool := L.all (inSide A)
theorem same_frz {H H' : Hp} {d : Addr} {u : HO} {od : Obj} (h : H d = some u) (s : Same H H') : Same (upd H d (.frz od u)) (upd H' d (.frz od u)) := fun b o e => by
  by_cases z : b = d
  · subst z
    rw [upd_same] at e ⊢
    exact e
  · rw [upd_ne z] at e ⊢
    exact s _ _ e
theorem take_all {α : Type} {L : List α} {i : Nat} {e : α} {p : α → Bool} (h : L[i]? = some e) : (L.take (i + 1)).all p = ((L.take i).all p && p e) := by
  rw [List.take_add_one, h, List.all_append]
  simp
theorem not_all {α : Type} {L : List α} {i : Nat} {e : α} {p : α → Bool} (h : L[i]? = some e) (q : p e = false) : L.all p = false := by
  rw [List.all_eq_false]
  exact ⟨e, List.mem_of_getElem? h, by simp [q]⟩
theorem Ax.frz {H : Hp} {v d : Addr} {A : List (Str × Int)} {u : HO} (B : Ax H v A) (h : v ≠ d) : Ax (upd H d u) v A := ⟨B.rd.elim (fun q => .inl (by rw [upd_ne h]; exact q)) fun ⟨o, q⟩ => .inr ⟨o, by rw [upd_ne h]; exact q⟩⟩
theorem entK_len (L : List Ent) : (entK L).length = L.length := by unfold entK; rw [List.length_map]
theorem items_at {L : List Ent} {i : Nat} {x1 x2 : V} (g1 : ((entK L)[i]?.map fun kv => kV kv.1) = some x1) (g2 : ((entK L)[i]?.map Prod.snd) = some x2) : ∃ e, L[i]? = some e ∧ x1 = .str e.1 ∧ x2 = .ref e.2.1 := by
  rw [entK_get] at g1 g2
  cases c : L[i]? with
  | none => rw [c] at g1; cases g1
  | some e => rw [c] at g1 g2; exact ⟨e, rfl, (Option.some.inj g1).symm, (Option.some.inj g2).symm⟩
theorem keys_at {L : List Ent} {i : Nat} {k : Key} {v : V} (h : (entK L)[i]? = some (k, v)) : ∃ e, L[i]? = some e ∧ k = .inr e.1 ∧ v = .ref e.2.1 := by
  rw [entK_get] at h
  obtain ⟨e, he, q⟩ := Option.map_eq_some_iff.mp h
  cases q
  exact ⟨e, he, rfl, rfl⟩
/-! ### box_within -/
end
/-- a new box with sides of its own -/
structure Nb (H0 H : Hp) (d : Addr) (L : List Ent) : Prop extends Bu H d L where
  fresh : H0 d = none
  freshS : ∀ e ∈ L, H0 e.2.1 = none
  inj : (L.map (·.2.1)).Nodup
theorem Nb.pull {H H0 H1 : Hp} {d : Addr} {L : List Ent} (N : Nb H0 H1 d L) (s : Same H H0) : Nb H H1 d L := ⟨N.toBu, s.free N.fresh, fun e he => s.free (N.freshS e he), N.inj⟩
theorem Nb.push {H0 H1 H2 : Hp} {d : Addr} {L : List Ent} (N : Nb H0 H1 d L) (s : Same H1 H2) : Nb H0 H2 d L := ⟨N.toBu.same' s, N.fresh, N.freshS, N.inj⟩
abbrev shape (L : List Ent) : List (Str × List Int) := L.map fun e => (e.1, e.2.2)
theorem look_shape : ∀ {L M : List Ent}, shape L = shape M → SameB L M
  | [], [], _, _ => rfl
  | [], _ :: _, h, _ => by cases h
  | _ :: _, [], h, _ => by cases h
  | e :: L, f :: M, h, x => by
    simp only [shape, List.map_cons, List.cons.injEq, Prod.mk.injEq] at h
    obtain ⟨⟨h1, h2⟩, h3⟩ := h
    have ih := look_shape (L := L) (M := M) h3 x
    unfold look at ih ⊢
    by_cases z : e.1 = x
    · rw [getE_pos z, getE_pos (h1 ▸ z)]
      exact congrArg some h2
    · rw [getE_neg z, getE_neg (fun q => z (h1.trans q))]
      exact ih
theorem shape_keys {L M : List Ent} (h : shape L = shape M) : L.map (·.1) = M.map (·.1) := by
  have q := congrArg (List.map Prod.fst) h
  unfold shape at q
  rw [List.map_map, List.map_map] at q
  exact q
theorem putE_new {L : List Ent} {x : Str} {a : Addr} {s : List Int} (h : x ∉ L.map (·.1)) : putE L x a s = L ++ [(x, a, s)] := if_neg fun z => h (any_iff.mp z)
theorem nd_snoc {α : Type} {l : List α} {x : α} (nd : l.Nodup) (h : x ∉ l) : (l ++ [x]).Nodup := by
  rw [List.nodup_append]
  exact ⟨nd, by simp, fun y hy z hz => by rw [List.mem_singleton.mp hz]; exact fun e => h (e ▸ hy)⟩
theorem dc_it {J : It} {n : Nat} {G : Hp → Prop} {Y : Nat → Hp → V → Hp → Prop} (w : Walk J n G Y) {g : TG} {tt : TT} {tk tv : TE} {vs : List Nat} {σ : L2.St} {H1 : Hp} {D : Addr} {Qd : Hp → Prop} (Pv : Nat → Hp → Prop) (start : Pv 0 (upd H1 D (.dK []))) (stays : ∀ i H, i ≤ n → Pv i H → G H)
    (turn : ∀ i x H H', i < n → Pv i H → Y i H x H' → g x (wipe σ vs) H' fun σ2 H2 => wipe σ2 vs = wipe σ vs ∧ tt σ2 H2 fun b H3 =>
      if b = true then tk σ2 H3 fun y H4 => tv σ2 H4 fun z H5 => ∃ kvs k, y = kV k ∧ H5 D = some (.dK kvs) ∧ kvs.length < sizeLine ∧ Pv (i + 1) (upd H5 D (.dK (putK kvs k z))) else Pv (i + 1) H3) (after : ∀ H, Pv n H → Qd H) :
    ∃ W : Nat → Nat → Hp → Prop, (∃ m, W 0 m (upd H1 D (.dK []))) ∧ ∀ i m H, W i m H →
      (J.stop i H ∧ Qd H) ∨ (J.go i H ∧ ∃ Nx : Hp → Prop, (∀ H', Nx H' → ∃ m', m' < m ∧ W (i + 1) m' H') ∧ ∀ x H', J.yld i H x H' → g x (wipe σ vs) H' fun σ2 H2 => wipe σ2 vs = wipe σ vs ∧ tt σ2 H2 fun b H3 =>
        if b = true then tk σ2 H3 fun y H4 => tv σ2 H4 fun z H5 => ∃ kvs k, y = kV k ∧ H5 D = some (.dK kvs) ∧ kvs.length < sizeLine ∧ Nx (upd H5 D (.dK (putK kvs k z))) else Nx H3) := by
  refine ⟨fun i m H => m = n - i ∧ i ≤ n ∧ Pv i H, ⟨n, rfl, Nat.zero_le _, start⟩, fun i m H h => ?_⟩
  obtain ⟨em, le, pv⟩ := h
  by_cases lt : i < n
  · exact .inr ⟨w.goes i H lt (stays i H le pv), Pv (i + 1), fun H' p => ⟨n - (i + 1), by omega, rfl, lt, p⟩, fun x H' y => turn i x H H' lt pv (w.yields i H x H' lt (stays i H le pv) y)⟩
  · obtain rfl : i = n := by omega
    exact .inl ⟨w.stops H (stays _ H le pv), after H pv⟩
section
variable {P : Program} {w : World} {K : PySem.W.Frag} {mg : Str → Option Value} {base : Heap}
abbrev rLst (K : PySem.W.Frag) : List V → Hp → VK → Prop := fun xs H Q => ∃ p ys, xs = [.ref p] ∧ (SqL K H p ys ∨ SqT K H p ys) ∧ ∀ l, H l = none → Q (.ref l) (upd H l (.lst ys))
def spCopy : Sp := fun vs H Q _ => ∃ (d : Addr) (L : List Ent), vs = [.ref d] ∧ Bu H d L ∧ ∀ (H' : Hp) (d' : Addr) (M : List Ent), Same H H' → Nb H H' d' M → shape M = shape L → Q (.ref d') H'
end
/-! ### what two sorted lists have together -/
def ins (k : Int) : List Int → List Int
  | [] => [k]
  | x :: l => if k < x then k :: x :: l else if k = x then x :: l else x :: ins k l
theorem ins_mem (k j : Int) : ∀ l : List Int, j ∈ ins k l ↔ j = k ∨ j ∈ l
  | [] => by simp [ins]
  | x :: l => by
    unfold ins
    by_cases a : k < x
    · rw [if_pos a]; simp
    · rw [if_neg a]
      by_cases b : k = x
      · rw [if_pos b, b]; simp
      · rw [if_neg b, List.mem_cons, ins_mem k j l, List.mem_cons]
        constructor
        · rintro (h | h | h)
          · exact .inr (.inl h)
          · exact .inl h
          · exact .inr (.inr h)
        · rintro (h | h | h)
          · exact .inr (.inl h)
          · exact .inl h
          · exact .inr (.inr h)
theorem ins_srt (k : Int) : ∀ l : List Int, Srt l → Srt (ins k l)
  | [], _ => List.pairwise_singleton _ _
  | x :: l, s => by
    obtain ⟨s1, s2⟩ := List.pairwise_cons.mp s
    unfold ins
    by_cases a : k < x
    · rw [if_pos a]
      refine List.pairwise_cons.mpr ⟨fun y hy => ?_, s⟩
      rcases List.mem_cons.mp hy with h | h
      · rw [h]; exact a
      · have := s1 y h; omega
    · rw [if_neg a]
      by_cases b : k = x
      · rw [if_pos b]; exact s
      · rw [if_neg b]
        refine List.pairwise_cons.mpr ⟨fun y hy => ?_, ins_srt k l s2⟩
        rcases (ins_mem k y l).mp hy with h | h
        · rw [h]; omega
        · exact s1 y h
theorem ins_len (k : Int) : ∀ l : List Int, (ins k l).length ≤ l.length + 1
  | [] => Nat.le_refl _
  | x :: l => by
    have := ins_len k l
    unfold ins
    split
    · simp
    · split
      · simp
      · simp only [List.length_cons]; omega
def uni (a b : List Int) : List Int := b.foldr ins a
theorem uni_mem (a : List Int) (j : Int) : ∀ b : List Int, j ∈ uni a b ↔ j ∈ a ∨ j ∈ b
  | [] => by simp [uni]
  | k :: b => by
    have ih := uni_mem a j b
    show j ∈ ins k (uni a b) ↔ _
    rw [ins_mem, ih, List.mem_cons]
    constructor
    · rintro (h | h | h)
      · exact .inr (.inl h)
      · exact .inl h
      · exact .inr (.inr h)
    · rintro (h | h | h)
      · exact .inr (.inl h)
      · exact .inl h
      · exact .inr (.inr h)
theorem uni_srt {a : List Int} (s : Srt a) : ∀ b : List Int, Srt (uni a b)
  | [] => s
  | k :: b => ins_srt k _ (uni_srt s b)
theorem uni_len (a : List Int) : ∀ b : List Int, (uni a b).length ≤ a.length + b.length
  | [] => Nat.le_refl _
  | k :: b => by
    have h1 := ins_len k (uni a b)
    have h2 := uni_len a b
    show (ins k (uni a b)).length ≤ a.length + (b.length + 1)
    omega
def both (a s : List Int) : List Int := a.filter fun k => decide (k ∈ s)
theorem both_srt {a s : List Int} (h : Srt a) : Srt (both a s) := List.Pairwise.filter _ h
theorem both_mem (a s : List Int) (k : Int) : k ∈ both a s ↔ k ∈ a ∧ k ∈ s := by
  unfold both
  rw [List.mem_filter, decide_eq_true_iff]
theorem look_snoc (L : List Ent) (e : Ent) (y : Str) (h : e.1 ∉ L.map (·.1)) : look (L ++ [e]) y = if y = e.1 then some e.2.2 else look L y := by
  unfold look
  rw [getE_app]
  by_cases z : y = e.1
  · rw [if_pos z, z, getE_none.mpr h, getE_pos rfl]
    rfl
  · rw [if_neg z, getE_neg (fun q => z q.symm), getE_nil]
    cases getE L y <;> rfl
theorem take_keys {L : List Ent} {i : Nat} {e : Ent} (nd : (L.map (·.1)).Nodup) (he : L[i]? = some e) : e.1 ∉ (L.take i).map (·.1) := by
  intro z
  obtain ⟨g, hg, eg⟩ := List.mem_map.mp z
  obtain ⟨j, hj⟩ := List.mem_iff_getElem?.mp hg
  rw [List.getElem?_take] at hj
  split at hj
  · rename_i hji
    have a1 : (L.map (·.1))[j]? = some e.1 := by rw [List.getElem?_map, hj]; exact congrArg some eg
    have a2 : (L.map (·.1))[i]? = some e.1 := by rw [List.getElem?_map, he]; rfl
    have := nd_ix nd a1 a2
    omega
  · cases hj
theorem look_take {L : List Ent} {i : Nat} {e : Ent} (nd : (L.map (·.1)).Nodup) (he : L[i]? = some e) (y : Str) : look (L.take (i + 1)) y = if y = e.1 then some e.2.2 else look (L.take i) y := by
  rw [List.take_add_one, he]
  exact look_snoc (L.take i) e y (take_keys nd he)
structure Sz (L : List Ent) (n : Nat) : Prop where
  srt : ∀ e ∈ L, Srt e.2.2
  len : ∀ e ∈ L, e.2.2.length ≤ n
theorem look_of {L : List Ent} {x : Str} {s : List Int} (h : look L x = some s) : ∃ e ∈ L, e.1 = x ∧ e.2.2 = s := by
  unfold look at h
  obtain ⟨e, he, q⟩ := Option.map_eq_some_iff.mp h
  obtain ⟨a, b⟩ := getE_mem he
  exact ⟨e, a, b, q⟩
/-- what a new box needs when one more side is put -/
theorem Nb.put {H0 H H3 : Hp} {d l : Addr} {M : List Ent} {x : Str} {s : List Int} (N : Nb H0 H d M) (n0 : H0 l = none) (nl : H l = none) (s3 : Same H H3) (el : H3 l = some (.lst (s.map V.int))) (few : M.length + 1 ≤ 40) :
    Nb H0 (upd H3 d (.dK (entK (putE M x l s)))) d (putE M x l s) := by
  have nld : l ≠ d := fun z => by rw [z, N.un] at nl; cases nl
  have sd : ∀ e ∈ putE M x l s, (upd H3 d (.dK (entK (putE M x l s)))) e.2.1 = some (.lst (e.2.2.map V.int)) := fun e he => by
    rcases putE_mem he with z | ⟨z, _⟩
    · rw [z, upd_ne nld]
      exact el
    · have h1 := N.sides e z
      have h2 : e.2.1 ≠ d := fun w => by rw [w, N.un] at h1; cases h1
      rw [upd_ne h2]
      exact s3 _ _ h1
  refine ⟨⟨⟨.inl upd_same, sd, putE_nd N.nd, by have := putE_len M x l s; omega⟩, upd_same⟩, N.fresh, fun e he => ?_, ?_⟩
  · rcases putE_mem he with z | ⟨z, _⟩
    · rw [z]; exact n0
    · exact N.freshS e z
  · have lM : l ∉ M.map (·.2.1) := fun w => by
      obtain ⟨g, hg, eg⟩ := List.mem_map.mp w
      have eg' : g.2.1 = l := eg
      have h1 := N.sides g hg
      rw [eg', nl] at h1
      cases h1
    unfold putE
    split
    · rw [List.map_map]
      have key : ∀ L : List Ent, (L.map (·.1)).Nodup → (L.map (·.2.1)).Nodup → l ∉ L.map (·.2.1) → (L.map ((fun e : Ent => e.2.1) ∘ fun e => if e.1 = x then (x, l, s) else e)).Nodup ∧ ∀ q ∈ L.map ((fun e : Ent => e.2.1) ∘ fun e => if e.1 = x then (x, l, s) else e), q ∈ L.map (·.2.1) ∨ (q = l ∧ x ∈ L.map (·.1)) := by
        intro L
        induction L with
        | nil => intro _ _ _; exact ⟨List.Pairwise.nil, fun q hq => by cases hq⟩
        | cons e L ih =>
          intro n1 n2 n3
          rw [List.map_cons, List.nodup_cons] at n1 n2
          rw [List.map_cons, List.mem_cons, not_or] at n3
          obtain ⟨i1, i2⟩ := ih n1.2 n2.2 n3.2
          rw [List.map_cons, List.nodup_cons]
          by_cases c : e.1 = x
          · have ef : ((fun e : Ent => e.2.1) ∘ fun e => if e.1 = x then (x, l, s) else e) e = l := by simp [c]
            rw [ef]
            refine ⟨⟨fun w => ?_, i1⟩, fun q hq => ?_⟩
            · rcases i2 l w with z | ⟨_, z⟩
              · exact n3.2 z
              · exact n1.1 (c ▸ z)
            · rcases List.mem_cons.mp hq with z | z
              · exact .inr ⟨z, by rw [List.map_cons, c]; exact List.mem_cons_self⟩
              · rcases i2 q z with y | ⟨y1, y2⟩
                · exact .inl (List.mem_cons_of_mem _ y)
                · exact .inr ⟨y1, List.mem_cons_of_mem _ y2⟩
          · have ef : ((fun e : Ent => e.2.1) ∘ fun e => if e.1 = x then (x, l, s) else e) e = e.2.1 := by simp [c]
            rw [ef]
            refine ⟨⟨fun w => ?_, i1⟩, fun q hq => ?_⟩
            · rcases i2 _ w with z | ⟨z, _⟩
              · exact n2.1 z
              · exact n3.1 z.symm
            · rcases List.mem_cons.mp hq with z | z
              · exact .inl (by rw [z]; exact List.mem_cons_self)
              · rcases i2 q z with y | ⟨y1, y2⟩
                · exact .inl (List.mem_cons_of_mem _ y)
                · exact .inr ⟨y1, List.mem_cons_of_mem _ y2⟩
      exact (key M N.nd N.inj lM).1
    · rw [List.map_append]
      exact nd_snoc N.inj lM
theorem Same.unl {H H' : Hp} {d : Addr} {u : HO} {od : Obj} (h : H d = some u) (s : Same (upd H d (.frz od u)) H') : Same H (upd H' d u) := unlock h s
/-- a new box behind a lock elsewhere -/
theorem Nb.unl {H0 H' : Hp} {b d : Addr} {u : HO} {M : List Ent} {od : Obj} (N : Nb H0 H' d M) (hb : H0 b = some u) (eF : H' b = some (.frz od u)) : Nb H0 (upd H' b u) d M := by
  have db : d ≠ b := fun z => by have := N.un; rw [z, eF] at this; cases this
  have away : ∀ g ∈ M, g.2.1 ≠ b := fun g hg z => by have := N.sides g hg; rw [z, eF] at this; cases this
  exact ⟨⟨⟨.inl (by rw [upd_ne db]; exact N.un), fun g hg => by rw [upd_ne (away g hg)]; exact N.sides g hg, N.nd, N.few⟩, by rw [upd_ne db]; exact N.un⟩, N.fresh, N.freshS, N.inj⟩
theorem Nb.lck {H0 H : Hp} {b d : Addr} {u : HO} {M : List Ent} {od : Obj} (N : Nb H0 H d M) (hb : H0 b ≠ none) : Nb H0 (upd H b (.frz od u)) d M := by
  have db : d ≠ b := fun z => hb (z ▸ N.fresh)
  have away : ∀ g ∈ M, g.2.1 ≠ b := fun g hg z => hb (z ▸ N.freshS g hg)
  exact ⟨⟨⟨.inl (by rw [upd_ne db]; exact N.un), fun g hg => by rw [upd_ne (away g hg)]; exact N.sides g hg, N.nd, N.few⟩, by rw [upd_ne db]; exact N.un⟩, N.fresh, N.freshS, N.inj⟩
section
variable {P : Program} {w : World} {K : PySem.W.Frag} {mg : Str → Option Value} {base : Heap}
end
theorem ne_some' {H : Hp} {p q : Addr} {o : HO} (h : H p = some o) (n : H q = none) : p ≠ q := fun e => by rw [e, n] at h; cases h
section
variable {P : Program} {w : World} {K : PySem.W.Frag} {mg : Str → Option Value} {base : Heap}
/-! ### the pool, a part of it -/
abbrev nPool : List Str := ["_law_stream_here", "_law_count", "_law_pool_here", "_law_k", "_law_scale", "_law_value"]
abbrev nPart : List Str := ["_law_stream_here", "_law_side", "_law_value"]
theorem srt_snoc {ss : List Int} {v : Int} (s : Srt ss) (h : ∀ k ∈ ss, k < v) : Srt (ss ++ [v]) :=
  List.pairwise_append.mpr ⟨s, List.pairwise_singleton _ _, fun a ha b hb => by rw [List.mem_singleton.mp hb]; exact h a ha⟩
def spPool : Sp := fun vs H Q _ => ∃ (p : Addr) (m : Nat), vs = [.ref p, .int (m : Int)] ∧ Strm H p ∧ 1 ≤ m ∧ m ≤ 100 ∧
  ∀ (H' : Hp) (l : Addr) (ns : List Int), Keep p H H' → H l = none → Strm H' p → H' l = some (.lst (ns.map V.int)) → Srt ns → ns.length = m → Q (.ref l) H'
def spPart (K : PySem.W.Frag) : Sp := fun vs H Q _ => ∃ (p a : Addr) (ns : List Int), vs = [.ref p, .ref a] ∧ Strm H p ∧ H a = some (.lst (ns.map V.int)) ∧ p ≠ a ∧ ns.length ≤ 1000 ∧
  ∀ (H' : Hp) (l : Addr) (ms : List Int), Keep p H H' → H l = none → Strm H' p → H' l = some (.lst (ms.map V.int)) → ms.Sublist ns → Q (.ref l) H'
end
/-! ### names -/
def plainN : List Str := ["x", "yard", "z", "u", "wide_one", "q", "pp", "t"]
def lettersN : Str := "qwertyuiopasdfghjklzxcvbnm_zyx"
def digitsN : Str := "7305186429"
theorem plain_nodup : ((List.range 8).all fun s => decide (((List.range 8).map fun k => plainN.getD ((k * 3 + s) % 8) "x").Nodup)) = true := by decide +kernel
def isDig (c : Nat) : Bool := decide (48 ≤ c) && decide (c ≤ 57)
def mark (z : Str) : Option Nat := z.cps.toList.find? isDig
theorem letters_none : (lettersN.cps.toList.all fun c => !isDig c) = true := by decide +kernel
theorem digits_are : (digitsN.cps.toList.all isDig) = true := by decide +kernel
theorem digits_nodup : digitsN.cps.toList.Nodup := by decide +kernel
theorem digits_len : digitsN.cps.toList.length = 10 := by decide +kernel
theorem letters_len : lettersN.length = 30 := by decide +kernel
theorem cut_letters (lo hi : Option Int) : ∀ c ∈ (cutS lettersN lo hi).cps.toList, isDig c = false := fun c hc => by
  have h1 : c ∈ lettersN.cps.toList := by
    have : (cutS lettersN lo hi).cps.toList = (lettersN.cps.toList.drop (HT.sIx lettersN.length 0 lo)).take (HT.sIx lettersN.length lettersN.length hi - HT.sIx lettersN.length 0 lo) := by
      unfold cutS
      simp
    rw [this] at hc
    exact List.mem_of_mem_drop (List.mem_of_mem_take hc)
  have := List.all_eq_true.mp letters_none c h1
  simpa using this
theorem cut_len (lo hi : Option Int) : (cutS lettersN lo hi).length ≤ 30 := by
  have h : (cutS lettersN lo hi).cps.toList.length ≤ 30 := by
    unfold cutS
    simp only [List.toList_toArray]
    have l : lettersN.cps.toList.length = 30 := letters_len
    rw [List.length_take, List.length_drop]
    omega
  exact h
theorem mark_of (x t : Str) (c : Nat) (hx : ∀ d ∈ x.cps.toList, isDig d = false) (hc : isDig c = true) : mark (x ++ ⟨#[c]⟩ ++ t) = some c := by
  unfold mark
  have e : (x ++ ⟨#[c]⟩ ++ t).cps.toList = x.cps.toList ++ [c] ++ t.cps.toList := by
    show ((x.cps ++ #[c]) ++ t.cps).toList = _
    simp
  rw [e, List.append_assoc, List.find?_append]
  have : x.cps.toList.find? isDig = none := List.find?_eq_none.mpr fun d hd => by rw [hx d hd]; simp
  rw [this]
  show (([c] ++ t.cps.toList).find? isDig) = some c
  simp [hc]
theorem ok_of {x : Str} (h : ∀ c ∈ x.cps.toList, c < 0x110000) : PyData.strOk x = true := by
  unfold PyData.strOk
  rw [← Array.all_toList]
  exact List.all_eq_true.mpr fun c hc => decide_eq_true (h c hc)
theorem plain_ok : (plainN.all fun x => PyData.strOk x) = true := by decide +kernel
theorem letters_low : (lettersN.cps.toList.all fun c => decide (c < 0x110000)) = true := by decide +kernel
theorem digits_low : (digitsN.cps.toList.all fun c => decide (c < 0x110000)) = true := by decide +kernel
theorem cut_low (lo hi : Option Int) : ∀ c ∈ (cutS lettersN lo hi).cps.toList, c < 0x110000 := fun c hc => by
  have h1 : c ∈ lettersN.cps.toList := by
    have : (cutS lettersN lo hi).cps.toList = (lettersN.cps.toList.drop (HT.sIx lettersN.length 0 lo)).take (HT.sIx lettersN.length lettersN.length hi - HT.sIx lettersN.length 0 lo) := by
      unfold cutS
      simp
    rw [this] at hc
    exact List.mem_of_mem_drop (List.mem_of_mem_take hc)
  exact of_decide_eq_true (List.all_eq_true.mp letters_low c h1)
theorem name_ok (lo hi lo2 hi2 : Option Int) (c : Nat) (hc : c ∈ digitsN.cps.toList) : PyData.strOk (cutS lettersN lo hi ++ ⟨#[c]⟩ ++ cutS lettersN lo2 hi2) = true := ok_of fun d hd => by
  have e : (cutS lettersN lo hi ++ ⟨#[c]⟩ ++ cutS lettersN lo2 hi2).cps.toList = (cutS lettersN lo hi).cps.toList ++ [c] ++ (cutS lettersN lo2 hi2).cps.toList := by
    show (((cutS lettersN lo hi).cps ++ #[c]) ++ (cutS lettersN lo2 hi2).cps).toList = _
    simp
  rw [e] at hd
  rcases List.mem_append.mp hd with h | h
  · rcases List.mem_append.mp h with h | h
    · exact cut_low lo hi d h
    · rw [List.mem_singleton.mp h]
      exact of_decide_eq_true (List.all_eq_true.mp digits_low c hc)
  · exact cut_low lo2 hi2 d h
theorem str_one (c : Nat) : (⟨#[c]⟩ : Str).length = 1 := rfl
theorem len_app (x y : Str) : (x ++ y).length = x.length + y.length := by
  show (x.cps ++ y.cps).size = _
  exact Array.size_append
section
variable {P : Program} {w : World} {K : PySem.W.Frag} {mg : Str → Option Value} {base : Heap}
abbrev sNames : Stmt := topS 9
abbrev nNames : List Str := ["_law_stream_here", "_law_count", "_law_shift", "_law_plain", "_law_k", "_law_letters", "_law_names_here", "_law_at", "_law_size", "_law_tail"]
theorem scNames : FnScope nNames ["_law_stream_here", "_law_count"] (defScope sNames) := ⟨rfl, rfl, rfl, by decide +kernel, rfl, by decide +kernel, by decide +kernel⟩
def spNames : Sp := fun vs H Q _ => ∃ (p : Addr) (m : Nat), vs = [.ref p, .int (m : Int)] ∧ Strm H p ∧ m ≤ 8 ∧
  ∀ (H' : Hp) (l : Addr) (xs : List Str), Keep p H H' → H l = none → Strm H' p → H' l = some (.lst (xs.map V.str)) → xs.Nodup → xs.length = m → (∀ x ∈ xs, PyData.strOk x = true) → Q (.ref l) H'
theorem ok_names {f fD : Addr} {fd fdD : FuncData} (F : Fun K "_law_names" "_law_names" sNames f fd) (B : Bt mg) (D : Call P w K mg base 1 "_law_next" fD fdD ["_law_stream_here", "_law_size"] spDraw) :
    FnOk P w K mg base CX0 2 f fd ["_law_stream_here", "_law_count"] spNames := by
  refine F.ok scNames (fun vs H Q E h => ?_) (fun cdv A outer s H vs Q E hr h => ?_)
  · obtain ⟨p, m, rfl, _⟩ := h
    rfl
  · obtain ⟨p, m, rfl, hp, m8, q⟩ := h
    have nd := scNames.nd
    refine ⟨_, pss_cons (ps_if (pt_cmpR op_eq (pe_call D.ok hr (by rfl) D.at_ D.kp D.bd .nil pass0 (pa_cons (pv 0) (pa_cons pe_int pa_nil))) pe_int (nomark _))
        (pss_cons (ps_set (i := 2) nd rfl (.inr rfl) (pe_call D.ok hr (by rfl) D.at_ D.kp D.bd .nil pass0 (pa_cons (pv 0) (pa_cons pe_int pa_nil))))
        (pss_cons (ps_set (i := 3) nd rfl (.inr rfl) (pe_lst (pa_cons pe_str (pa_cons pe_str (pa_cons pe_str (pa_cons pe_str (pa_cons pe_str (pa_cons pe_str (pa_cons pe_str (pa_cons pe_str pa_nil))))))))))
        (pss_one (ps_ret (pe_lc (own := [("_law_k", 4)]) (g := gName 4) (tt := tYes) rfl nd (pi_range1 (by rfl) B.range (pa_cons (pv 1) pa_nil)) (blkOk_by (N := nNames) (sc := defScope sNames) (by decide +kernel)) (fun _ _ _ _ _ => pg_name (i := 4) nd rfl (Or.inl rfl)) (fun _ _ _ _ _ => pts_nil)
          (fun _ _ _ _ _ => pe_ix (r := rIxL K) ix_list (pv 3) (pe_op op_mod (pe_callTy call_int1 (by rfl) B.int PyProof.Rows.boot_int (pa_cons (pe_op op_add (pe_op op_mul (pv 4) pe_int) (pv 2)) pa_nil)) pe_int) (fun _ _ => rfl))))))) pss_nil)
      (pss_cons (ps_set (i := 5) nd rfl (.inl rfl) pe_str)
      (pss_cons (ps_set (i := 6) nd rfl (.inl rfl) (pe_lst pa_nil))
      (pss_cons (ps_for PassesOwn.never rfl (pi_range1 (by rfl) B.range (pa_cons (pv 1) pa_nil)) (pg_name (i := 4) nd rfl (.inl rfl))
        (pss_cons (ps_set (i := 7) nd rfl (.inl rfl) (pe_call D.ok hr (by rfl) D.at_ D.kp D.bd .nil pass0 (pa_cons (pv 0) (pa_cons pe_int pa_nil))))
        (pss_cons (ps_set (i := 8) nd rfl (.inl rfl) (pe_op op_add pe_int (pe_call D.ok hr (by rfl) D.at_ D.kp D.bd .nil pass0 (pa_cons (pv 0) (pa_cons pe_int pa_nil)))))
        (pss_cons (ps_set (i := 9) nd rfl (.inl rfl) (pe_slice sl_str (pv 5) (po_some (pe_op op_sub pe_int (pe_call D.ok hr (by rfl) D.at_ D.kp D.bd .nil pass0 (pa_cons (pv 0) (pa_cons pe_int pa_nil))))) (po_some pe_int)))
        (pss_one (ps_expr (pe_bm PySem.F.plainAttrs_list PySem.F.slot_list_append PySem.F.type_list_append mt_append (pv 6) (pa_cons
          (pe_op op_add_str (pe_op op_add_str (pe_slice sl_str (pv 5) (po_some (pv 7)) (po_some (pe_op op_add (pv 7) (pv 8)))) (pe_ix ix_str pe_str (pv 4) (fun _ _ => rfl))) (pv 9)) pa_nil))))))))
      (pss_one (ps_ret (pv 6)))))), ?_⟩
    refine ⟨.ref p, rfl, p, 3, rfl, hp, by decide, by decide, fun H1 d o1 st1 d0 d1 => ⟨rfl, _, rfl, ite2 (fun c => ?_) (fun c => ?_)⟩⟩
    · -- the plain names
      refine ⟨.ref p, rfl, p, 8, rfl, st1, by decide, by decide, fun H2 s o2 st2 s0 s1 => ?_⟩
      refine ⟨by show 8 ≤ sizeLine; decide, fun pl npl => ?_⟩
      have npp : p ≠ pl := fun z => st2.some (z ▸ npl)
      have epl : (upd H2 pl (.lst (plainN.map V.str))) pl = some (.lst (plainN.map V.str)) := upd_same
      refine ⟨.int (m : Int), rfl, (m : Int), rfl, by omega, by omega, fun R nR => ?_⟩
      have fin : ∀ k : Nat, k < m → (plainN.map V.str)[(k * 3 + s.toNat) % 8]? = some (.str (plainN.getD ((k * 3 + s.toNat) % 8) "x")) := fun k hk => by
        have : (k * 3 + s.toNat) % 8 < plainN.length := Nat.mod_lt _ (by decide)
        rw [List.getElem?_map, List.getD_eq_getElem?_getD, List.getElem?_eq_getElem this]
        rfl
      refine lc_range (lo := 0) (fun i H' => Same (upd H2 pl (.lst (plainN.map V.str))) H' ∧ H' R = some (.lst (((List.range i).map fun k => plainN.getD ((k * 3 + s.toNat) % 8) "x").map V.str))) ⟨same_new nR, upd_same⟩ ?_ ?_
      · rintro i H' hi ⟨sm, eR⟩
        have hi' : i < m := by omega
        refine ⟨rfl, .ref pl, rfl, .int (0 + (i : Int)), rfl, 0 + (i : Int), 3, rfl, rfl, .inr ⟨by decide, by decide⟩, .int s, rfl, (0 + (i : Int)) * 3, s, rfl, rfl, .inl ⟨_, rfl, (0 + (i : Int)) * 3 + s, 8, rfl, rfl, ?_, ?_⟩⟩
        · show (0 : Int) < 8
          decide
        · refine ⟨pl, _, _, _, rfl, rfl, sl_map (sm _ _ epl), at_of (j := (i * 3 + s.toNat) % 8) (by omega) (fin i hi'), _, eR, ?_, same_at sm nR, ?_⟩
          · rw [List.length_map, List.length_map, List.length_range]
            exact small1000 (by omega)
          · rw [upd_same, List.range_succ, List.map_append, List.map_append]
            rfl
      · rintro H' ⟨sm, eR⟩
        have smH : Keep p H2 H' := fun b u hb e => sm _ _ (by rw [upd_ne (ne_of_none e npl)]; exact e)
        have nR2 : H2 R = none := (same_new npl).free nR
        have st' : Strm H' p := by
          obtain ⟨x, y, z, e⟩ := st2
          exact ⟨x, y, z, sm _ _ (by rw [upd_ne npp]; exact e)⟩
        refine q H' R _ ((((Keep.refl p H).oth o1).oth o2).trans smH) ((((Keep.refl p H).oth o1).oth o2).free st2 nR2) st' eR ?_ ?_ ?_
        · have h8 := List.all_eq_true.mp plain_nodup s.toNat (List.mem_range.mpr (by omega))
          have h9 := of_decide_eq_true h8
          have e8 : (List.range (m : Int).toNat) = (List.range 8).take m := by
            rw [List.take_range, show min m 8 = (m : Int).toNat by omega]
          rw [e8, List.map_take]
          exact List.Pairwise.sublist (List.take_sublist _ _) h9
        · rw [List.length_map, List.length_range]
          omega
        · intro x hx
          obtain ⟨k, _, rfl⟩ := List.mem_map.mp hx
          have lt : (k * 3 + s.toNat) % 8 < plainN.length := Nat.mod_lt _ (by decide)
          rw [List.getD_eq_getElem?_getD, List.getElem?_eq_getElem lt]
          exact List.all_eq_true.mp plain_ok _ (List.getElem_mem lt)
    · -- letters, a digit, letters
      refine ⟨Nat.zero_le _, fun l nl1 => ?_⟩
      have npl : p ≠ l := fun z => st1.some (z ▸ nl1)
      have nl : H l = none := by rw [← o1 l npl.symm]; exact nl1
      refine ⟨.int (m : Int), rfl, (m : Int), rfl, by omega, by omega, for_range (lo := 0) (n := ((m : Int)).toNat) (fun i σ H' => ∃ (y4 y7 y8 y9 : Option V) (xs : List Str), σ = [some (.ref p), some (.int (m : Int)), none, none, y4, some (.str lettersN), some (.ref l), y7, y8, y9] ∧ Keep p H H' ∧ Strm H' p ∧ H' l = some (.lst (xs.map V.str)) ∧ xs.length = i ∧ (∀ x ∈ xs, PyData.strOk x = true) ∧ ∀ j x, xs[j]? = some x → mark x = digitsN.cps.toList[j]?)
        ⟨none, none, none, none, [], rfl, ((Keep.refl p H).oth o1).at_ nl, st1.upd npl, upd_same, rfl, (fun _ h => nomatch h), fun j x h => absurd ((List.getElem?_nil (α := Str) (i := j)).symm.trans h) (by simp)⟩ ?_ ?_⟩
      · rintro i σ H' hi ⟨y4, y7, y8, y9, xs, rfl, kp, st, el, len, sok, mk⟩
        have hi' : i < m := by omega
        refine ⟨.ref p, rfl, p, 26, rfl, st, by decide, by decide, fun H2 a o2 st2 a0 a1 => ?_⟩
        refine ⟨.ref p, rfl, p, 3, rfl, st2, by decide, by decide, fun H3 b o3 st3 b0 b1 => ⟨1, b, rfl, rfl, ?_⟩⟩
        refine ⟨_, rfl, .ref p, rfl, p, 3, rfl, st3, by decide, by decide, fun H4 t o4 st4 t0 t1 => ⟨26, t, rfl, rfl, _, rfl, 26, rfl, lettersN, rfl, by decide +kernel, ?_⟩⟩
        have el4 : H4 l = some (.lst (xs.map V.str)) := by rw [o4 l npl.symm, o3 l npl.symm, o2 l npl.symm]; exact el
        have hd : i < digitsN.cps.toList.length := by rw [digits_len]; omega
        have gd : digitsN.cps.toList[i]? = some digitsN.cps.toList[i] := List.getElem?_eq_getElem hd
        refine ⟨.ref l, rfl, .inl ⟨rfl, _, sl_map el4⟩, _, rfl, .int a, rfl, a, rfl, .int a, rfl, _, rfl, a, _, rfl, rfl, _, rfl, lettersN, rfl, by decide +kernel, .int (0 + (i : Int)), rfl, digitsN, _, digitsN.cps.toList[i], rfl, rfl, by decide +kernel, (by rw [show (0 : Int) + (i : Int) = ((i : Nat) : Int) by omega]; exact atI_nat gd), _, _, rfl, rfl, ?_, _, rfl, _, _, rfl, rfl, ?_, l, _, _, rfl, rfl, el4, ?_, ?_⟩
        · exact by have := cut_len (some a) (some (a + (1 + b))); rw [str_one]; exact Nat.le_trans (Nat.add_le_add_right this 1) (by decide)
        · exact by have := cut_len (some a) (some (a + (1 + b))); have h2 := cut_len (some (26 - t)) (some 26); rw [len_app, str_one]; exact Nat.le_trans (Nat.add_le_add (Nat.add_le_add_right this 1) h2) (by decide)
        · rw [List.length_map]
          exact small1000 (by omega)
        · have dg : isDig digitsN.cps.toList[i] = true := List.all_eq_true.mp digits_are _ (List.getElem_mem hd)
          refine ⟨_, _, _, _, xs ++ [cutS lettersN (some a) (some (a + (1 + b))) ++ ⟨#[digitsN.cps.toList[i]]⟩ ++ cutS lettersN (some (26 - t)) (some 26)], rfl, (((kp.oth o2).oth o3).oth o4).at_ nl, st4.upd npl, ?_, ?_, ?_, ?_⟩
          · rw [upd_same, List.map_append]
            rfl
          · rw [List.length_append, len]
            rfl
          · intro x hx
            rcases List.mem_append.mp hx with h | h
            · exact sok x h
            · rw [List.mem_singleton.mp h]
              exact name_ok _ _ _ _ _ (List.getElem_mem hd)
          · intro j x hj
            rcases Nat.lt_or_ge j i with c | c
            · rw [List.getElem?_append_left (by omega)] at hj
              exact mk j x hj
            · rw [List.getElem?_append_right (by omega)] at hj
              have ej : j = i := by
                have := (List.getElem?_eq_some_iff.mp hj).1
                rw [List.length_singleton] at this
                omega
              subst ej
              rw [show j - xs.length = 0 by omega] at hj
              have : _ = x := Option.some.inj hj
              rw [← this, gd]
              exact mark_of _ _ _ (cut_letters _ _) dg
      · rintro σ H' ⟨y4, y7, y8, y9, xs, rfl, kp, st, el, len, sok, mk⟩
        refine ⟨_, rfl, q H' l xs kp nl st el ?_ (by omega) sok⟩
        refine List.pairwise_iff_getElem.mpr fun j k hj hk hjk he => ?_
        have e1 := mk j _ (List.getElem?_eq_getElem hj)
        have e2 := mk k _ (List.getElem?_eq_getElem hk)
        rw [he] at e1
        have hk' : k < digitsN.cps.toList.length := by rw [digits_len]; omega
        have hj' : j < digitsN.cps.toList.length := by rw [digits_len]; omega
        have e3 := e1.symm.trans e2
        rw [List.getElem?_eq_getElem hj', List.getElem?_eq_getElem hk'] at e3
        exact List.pairwise_iff_getElem.mp digits_nodup j k hj' hk' hjk (Option.some.inj e3)
end
section
variable {P : Program} {w : World} {K : PySem.W.Frag} {mg : Str → Option Value} {base : Heap}
/-! ### a copy, by a loop -/
abbrev nCopied : List Str := ["_law_sides", "_law_copied_here", "_law_name"]
theorem Nb.nil {H H' : Hp} {D : Addr} (n : H D = none) (h : H' D = some (.dK [])) : Nb H H' D [] := ⟨⟨⟨.inl h, (fun _ he => nomatch he), .nil, Nat.zero_le _⟩, h⟩, n, (fun _ he => nomatch he), .nil⟩
theorem shape_len {L M : List Ent} (h : shape L = shape M) : L.length = M.length := by have := congrArg List.length h; simpa [shape] using this
theorem shape_take {L M : List Ent} {i : Nat} {e : Ent} {l : Addr} (h : shape M = shape (L.take i)) (he : L[i]? = some e) : shape (M ++ [(e.1, l, e.2.2)]) = shape (L.take (i + 1)) := by
  rw [List.take_add_one, he]
  unfold shape at h ⊢
  rw [List.map_append, List.map_append, h]
  rfl
/-! ### _law_holds, _law_within, _law_is -/
end
theorem Nb.alias {H0 H : Hp} {d l : Addr} {M : List Ent} {x : Str} {s : List Int} (N : Nb H0 H d M) (n0 : H0 l = none) (el : H l = some (.lst (s.map V.int))) (nx : x ∉ M.map (·.1)) (nl : l ∉ M.map (·.2.1)) (few : M.length + 1 ≤ 40) :
    Nb H0 (upd H d (.dK (entK (M ++ [(x, l, s)])))) d (M ++ [(x, l, s)]) := by
  have ld : ∀ {c : Addr} {ys : List V}, H c = some (.lst ys) → c ≠ d := fun h z => by rw [z, N.un] at h; cases h
  refine ⟨⟨⟨.inl upd_same, fun e he => ?_, ?_, by rw [List.length_append]; exact few⟩, upd_same⟩, N.fresh, fun e he => ?_, ?_⟩
  · rcases List.mem_append.mp he with z | z
    · have h1 := N.sides e z
      rw [upd_ne (ld h1)]
      exact h1
    · rw [List.mem_singleton.mp z, upd_ne (ld el)]
      exact el
  · rw [List.map_append]
    exact nd_snoc N.nd nx
  · rcases List.mem_append.mp he with z | z
    · exact N.freshS e z
    · rw [List.mem_singleton.mp z]; exact n0
  · rw [List.map_append]
    exact nd_snoc N.inj nl
theorem Nb.unl' {H0 H' : Hp} {b d : Addr} {u : HO} {M : List Ent} {od : Obj} (N : Nb H0 H' d M) (eF : H' b = some (.frz od u)) : Nb H0 (upd H' b u) d M := by
  have db : d ≠ b := fun z => by have := N.un; rw [z, eF] at this; cases this
  have away : ∀ g ∈ M, g.2.1 ≠ b := fun g hg z => by have := N.sides g hg; rw [z, eF] at this; cases this
  exact ⟨⟨⟨.inl (by rw [upd_ne db]; exact N.un), fun g hg => by rw [upd_ne (away g hg)]; exact N.sides g hg, N.nd, N.few⟩, by rw [upd_ne db]; exact N.un⟩, N.fresh, N.freshS, N.inj⟩
section
variable {P : Program} {w : World} {K : PySem.W.Frag} {mg : Str → Option Value} {base : Heap}
end
/-- all that was there, but what stands at one of these -/
def KeepL (as : List Addr) (H H' : Hp) : Prop := ∀ b o, b ∉ as → H b = some o → H' b = some o
theorem KeepL.refl (as : List Addr) (H : Hp) : KeepL as H H := fun _ _ _ e => e
theorem KeepL.same {as : List Addr} {H H1 H2 : Hp} (k : KeepL as H H1) (s : Same H1 H2) : KeepL as H H2 := fun b o h e => s _ _ (k b o h e)
theorem KeepL.trans {as : List Addr} {H H1 H2 : Hp} (k : KeepL as H H1) (s : KeepL as H1 H2) : KeepL as H H2 := fun b o h e => s b o h (k b o h e)
abbrev big : Int := 10 ^ (13 : Int).toNat
def grown (ks : List Str) (e : Ent) : List Int := if e.1 ∈ ks then e.2.2 ++ [big] else e.2.2
theorem SameB.get {L M : List Ent} (s : SameB L M) {e : Ent} (nd : (M.map (·.1)).Nodup) (h : e ∈ M) : ∃ t ∈ L, t.1 = e.1 ∧ t.2.2 = e.2.2 ∧ getE L e.1 = some t := by
  have q := s e.1
  rw [look_mem nd h] at q
  unfold look at q
  obtain ⟨t, ht, eq⟩ := Option.map_eq_some_iff.mp q
  obtain ⟨m1, m2⟩ := getE_mem ht
  exact ⟨t, m1, m2, eq, ht⟩
theorem inj_eq {L : List Ent} (nd : (L.map (·.2.1)).Nodup) {e g : Ent} (he : e ∈ L) (hg : g ∈ L) (h : e.2.1 = g.2.1) : e = g := by
  obtain ⟨i, hi⟩ := List.mem_iff_getElem?.mp he
  obtain ⟨j, hj⟩ := List.mem_iff_getElem?.mp hg
  have a1 : (L.map (·.2.1))[i]? = some e.2.1 := by rw [List.getElem?_map, hi]; rfl
  have a2 : (L.map (·.2.1))[j]? = some e.2.1 := by rw [List.getElem?_map, hj, h]; rfl
  have := nd_ix nd a1 a2
  subst this
  exact Option.some.inj (hi.symm.trans hj)
theorem key_eq {L : List Ent} (nd : (L.map (·.1)).Nodup) {e g : Ent} (he : e ∈ L) (hg : g ∈ L) (h : e.1 = g.1) : e = g := by
  have a := getE_of nd he
  rw [h, getE_of nd hg] at a
  exact (Option.some.inj a).symm
section
variable {P : Program} {w : World} {K : PySem.W.Frag} {mg : Str → Option Value} {base : Heap}
abbrev nLNew : List Str := ["_law_told", "_law_expected", "_law_name"]
def spLNew : Sp := fun vs H Q _ => ∃ (t e : Addr) (T E : List Ent), vs = [.ref t, .ref e] ∧ Bu H t T ∧ (T.map (·.2.1)).Nodup ∧ Bu H e E ∧ SameB T E ∧ (∀ x ∈ E, x.2.1 ∉ T.map (·.2.1)) ∧ t ≠ e ∧ (∀ x ∈ E, x.2.2.length ≤ 100) ∧
  ∀ H', KeepL (T.map (·.2.1)) H H' → Q (.bl true) H'
end
section
variable {P : Program} {w : World} {K : PySem.W.Frag} {mg : Str → Option Value} {base : Heap}
abbrev nSame : List Str := ["_law_actual", "_law_expected", "_law_found", "_law_name"]
def spSame : Sp := fun vs H Q _ => ∃ (a e : Addr) (M E : List Ent), vs = [.ref a, .ref e] ∧ Bu H a M ∧ Bu H e E ∧ SameB M E ∧ (∀ g ∈ M, Srt g.2.2 ∧ g.2.2.length ≤ 1000) ∧ ∀ H', Same H H' → Q (.bl true) H'
end
theorem cutV_to (xs : List V) (j : Nat) : cutV xs none (some (j : Int)) = xs.take j := by
  unfold cutV
  rw [HT.sIx_none, HT.sIx_nat, List.drop_zero, Nat.sub_zero]
  by_cases h : j ≤ xs.length
  · rw [Nat.min_eq_left h]
  · rw [Nat.min_eq_right (by omega), List.take_of_length_le (Nat.le_refl _), List.take_of_length_le (by omega)]
theorem cutV_from (xs : List V) (j : Nat) : cutV xs (some (j : Int)) none = xs.drop j := by
  unfold cutV
  rw [HT.sIx_none, HT.sIx_nat]
  by_cases h : j ≤ xs.length
  · rw [Nat.min_eq_left h, List.take_of_length_le (by rw [List.length_drop]; exact Nat.le_refl _)]
  · rw [Nat.min_eq_right (by omega), List.drop_length, List.drop_of_length_le (by omega)]
    simp
theorem Nb.keep {H0 H H' : Hp} {p d : Addr} {M : List Ent} (N : Nb H0 H d M) (hp : H0 p ≠ none) (k : Keep p H H') : Nb H0 H' d M := by
  have pd : d ≠ p := fun z => hp (z ▸ N.fresh)
  have away : ∀ g ∈ M, g.2.1 ≠ p := fun g hg z => hp (z ▸ N.freshS g hg)
  exact ⟨⟨⟨.inl (k _ _ pd N.un), fun g hg => k _ _ (away g hg) (N.sides g hg), N.nd, N.few⟩, k _ _ pd N.un⟩, N.fresh, N.freshS, N.inj⟩
theorem Bu.keep {H H' : Hp} {p d : Addr} {M : List Ent} (N : Bu H d M) (s : Strm H p) (k : Keep p H H') (away : ∀ g ∈ M, g.2.1 ≠ p) : Bu H' d M := by
  have pd : d ≠ p := fun z => by
    obtain ⟨x, y, w, e⟩ := s
    have := N.un
    rw [z, e] at this
    cases this
  exact ⟨⟨.inl (k _ _ pd N.un), fun g hg => k _ _ (away g hg) (N.sides g hg), N.nd, N.few⟩, k _ _ pd N.un⟩
theorem with_rest2 {R : Hp → Prop} {G : Prop} (C : Hp → Prop) (r : ∀ H, C H → R H) (g : (∀ H, C H → R H) → G) : G := g r
section
variable {P : Program} {w : World} {K : PySem.W.Frag} {mg : Str → Option Value} {base : Heap}
end
theorem with_rest {R G : Prop} (r : R) (g : R → G) : G := g r
theorem Bu.aput {H : Hp} {d l : Addr} {M : List Ent} {x : Str} {s : List Int} (B : Bu H d M) (el : H l = some (.lst (s.map V.int))) (few : M.length + 1 ≤ 40) : Bu (upd H d (.dK (entK (putE M x l s)))) d (putE M x l s) := by
  have ld : ∀ {c : Addr} {ys : List V}, H c = some (.lst ys) → c ≠ d := fun h z => by rw [z, B.un] at h; cases h
  refine ⟨⟨.inl upd_same, fun e he => ?_, putE_nd B.nd, by have := putE_len M x l s; omega⟩, upd_same⟩
  rcases putE_mem he with z | ⟨z, _⟩
  · rw [z, upd_ne (ld el)]
    exact el
  · have h1 := B.sides e z
    rw [upd_ne (ld h1)]
    exact h1
section
variable {P : Program} {w : World} {K : PySem.W.Frag} {mg : Str → Option Value} {base : Heap}
end
theorem small10k {n : Nat} (h : n ≤ 10000) : n < sizeLine := Nat.lt_of_le_of_lt h (by decide)
section
variable {P : Program} {w : World} {K : PySem.W.Frag} {mg : Str → Option Value} {base : Heap}
end
/-! ### equal boxes, deep -/
theorem paired_flat {K : PySem.W.Frag} {H : Hp} {n : Nat} : ∀ xs : List V, (∀ x ∈ xs, flatB x = true) → Paired (EqV K H (n + 1)) xs xs
  | [], _ => .nil
  | x :: xs, h => .cons (.inl ⟨rfl, h x List.mem_cons_self⟩) (paired_flat xs fun y hy => h y (List.mem_cons_of_mem _ hy))
theorem eqL {K : PySem.W.Frag} {H : Hp} {a b : Addr} {ns : List Int} (ha : H a = some (.lst (ns.map V.int))) (hb : H b = some (.lst (ns.map V.int))) : EqV K H 2 (.ref a) (.ref b) :=
  .inr (.inr (.inl ⟨a, b, _, _, rfl, rfl, sl_map ha, sl_map hb, paired_flat _ fun x hx => by obtain ⟨k, _, rfl⟩ := List.mem_map.mp hx; rfl⟩))
theorem eqB {K : PySem.W.Frag} {H : Hp} {d e : Addr} {M X : List Ent} (bd : Bu H d M) (be : Bu H e X) (s : SameB M X) : EqR K H (EqV K H 2) (.ref d) (.ref e) := by
  refine .inr ⟨d, e, _, _, rfl, rfl, bd.un, be.un, by rw [entK_len, entK_len]; exact s.len bd.nd be.nd, fun p hp => ?_⟩
  unfold entK at hp
  obtain ⟨g, hg, rfl⟩ := List.mem_map.mp hp
  have s' : SameB X M := fun x => (s x).symm
  obtain ⟨t, tm, t1, t2, t3⟩ := s'.get bd.nd hg
  refine ⟨.ref t.2.1, ?_, ?_⟩
  · show valV (entK X) (Sum.inr g.1) = _
    rw [valV_ent, t3]
    rfl
  · have h1 := be.sides t tm
    rw [t2] at h1
    exact eqL (bd.sides g hg) h1
theorem shape_same {L M : List Ent} (h : shape L = shape M) : SameB L M := look_shape h
theorem Sz.look {L : List Ent} {n : Nat} (z : Sz L n) {x : Str} {s : List Int} (h : look L x = some s) : Srt s ∧ s.length ≤ n := by
  obtain ⟨e, em, _, rfl⟩ := look_of h
  exact ⟨z.srt e em, z.len e em⟩
theorem sides_ok {M : List Ent} {n : Nat} (nd : (M.map (·.1)).Nodup) (f : Str → Option (List Int)) (h : ∀ x, look M x = f x) (ok : ∀ x s, f x = some s → Srt s ∧ s.length ≤ n) : Sz M n :=
  ⟨fun e he => (ok e.1 _ ((h e.1).symm.trans (look_mem nd he))).1, fun e he => (ok e.1 _ ((h e.1).symm.trans (look_mem nd he))).2⟩
theorem Sz.shape {L M : List Ent} {n : Nat} (z : Sz L n) (h : shape M = shape L) : Sz M n := by
  have q : ∀ e ∈ M, ∃ g ∈ L, g.2.2 = e.2.2 := fun e he => by
    have : (e.1, e.2.2) ∈ K15.shape L := h ▸ List.mem_map_of_mem (f := fun e : Ent => (e.1, e.2.2)) he
    obtain ⟨g, hg, eq⟩ := List.mem_map.mp this
    exact ⟨g, hg, (Prod.mk.inj eq).2⟩
  refine ⟨fun e he => ?_, fun e he => ?_⟩
  · obtain ⟨g, hg, eq⟩ := q e he
    exact eq ▸ z.srt g hg
  · obtain ⟨g, hg, eq⟩ := q e he
    exact eq ▸ z.len g hg
/-- what a change of fresh sides leaves -/
theorem keepL_same {H0 H1 H2 : Hp} {as : List Addr} (s : Same H0 H1) (k : KeepL as H1 H2) (f : ∀ a ∈ as, H0 a = none) : Same H0 H2 := fun b o e => k b o (fun z => by rw [f b z] at e; cases e) (s _ _ e)
theorem Bu.keepL {H H' : Hp} {d : Addr} {M : List Ent} {as : List Addr} (B : Bu H d M) (k : KeepL as H H') (h1 : d ∉ as) (h2 : ∀ e ∈ M, e.2.1 ∉ as) : Bu H' d M :=
  ⟨⟨.inl (k _ _ h1 B.un), fun e he => k _ _ (h2 e he) (B.sides e he), B.nd, B.few⟩, k _ _ h1 B.un⟩
theorem not_side {H : Hp} {d : Addr} {as : List Addr} (n : H d = none) (sd : ∀ a ∈ as, H a ≠ none) : d ∉ as := fun z => sd d z n
theorem side_some {H : Hp} {M : List Ent} (sd : ∀ e ∈ M, H e.2.1 = some (.lst (e.2.2.map V.int))) : ∀ a ∈ M.map (·.2.1), H a ≠ none := fun a ha z => by
  obtain ⟨e, he, rfl⟩ := List.mem_map.mp ha
  have := sd e he
  rw [z] at this
  cases this
section
variable {P : Program} {w : World} {K : PySem.W.Frag} {mg : Str → Option Value} {base : Heap}
end
/-! ### what the meet and the join hold -/
theorem Sz.mono {L : List Ent} {n m : Nat} (z : Sz L n) (h : n ≤ m) : Sz L m := ⟨z.srt, fun e he => Nat.le_trans (z.len e he) h⟩
theorem sq_keep {K : PySem.W.Frag} {H H' : Hp} {a p : Addr} {xs : List V} (h : SqL K H a xs) (np : H p = none) (k : Keep p H H') : SqL K H' a xs := by
  have ap : ∀ o, H a = some o → a ≠ p := fun o e z => by rw [z, np] at e; cases e
  rcases h with (h | ⟨o, h⟩) | h
  · exact .inl (.inl (k _ _ (ap _ h) h))
  · exact .inl (.inr ⟨o, k _ _ (ap _ h) h⟩)
  · exact .inr h
/-! ### domains: a list of pairs of a name and a side -/
abbrev DomE := Addr × Ent
structure Doms (H : Hp) (l : Addr) (ds : List DomE) : Prop where
  lst : H l = some (.lst (ds.map fun d => V.ref d.1))
  tup : ∀ d ∈ ds, H d.1 = some (.tup [V.str d.2.1, V.ref d.2.2.1])
  side : ∀ d ∈ ds, H d.2.2.1 = some (.lst (d.2.2.2.map V.int))
theorem Doms.same {H H' : Hp} {l : Addr} {ds : List DomE} (D : Doms H l ds) (s : Same H H') : Doms H' l ds := ⟨s _ _ D.lst, fun d h => s _ _ (D.tup d h), fun d h => s _ _ (D.side d h)⟩
theorem Srt.sub {a b : List Int} (s : Srt b) (h : a.Sublist b) : Srt a := List.Pairwise.sublist h s
theorem Doms.keep {H H' : Hp} {p l : Addr} {ds : List DomE} (D : Doms H l ds) (k : Keep p H H') (hl : l ≠ p) (h : ∀ d ∈ ds, d.1 ≠ p ∧ d.2.2.1 ≠ p) : Doms H' l ds :=
  ⟨k _ _ hl D.lst, fun d hd => k _ _ (h d hd).1 (D.tup d hd), fun d hd => k _ _ (h d hd).2 (D.side d hd)⟩
theorem refs_ints {ds : List DomE} {ns : List Int} (h : (ds.map fun d => V.ref d.1) = ns.map V.int) : ds = [] := by
  cases ds with
  | nil => rfl
  | cons d ds =>
    cases ns with
    | nil => cases h
    | cons n ns =>
      rw [List.map_cons, List.map_cons] at h
      cases (List.cons.inj h).1
/-- a pair more -/
theorem Doms.snoc {H : Hp} {l T Z : Addr} {ds : List DomE} {x : Str} {zs : List Int} (D : Doms H l ds) (hT : H T = some (.tup [V.str x, V.ref Z])) (hZ : H Z = some (.lst (zs.map V.int))) (nZ : Z ≠ l) :
    Doms (upd H l (.lst ((ds.map fun d => V.ref d.1) ++ [V.ref T]))) l (ds ++ [(T, x, Z, zs)]) := by
  have tl : ∀ {c : Addr} {vs : List V}, H c = some (.tup vs) → c ≠ l := fun h z => by rw [z, D.lst] at h; cases h
  refine ⟨by rw [upd_same, List.map_append]; rfl, fun d hd => ?_, fun d hd => ?_⟩
  · rcases List.mem_append.mp hd with h | h
    · rw [upd_ne (tl (D.tup d h))]
      exact D.tup d h
    · rw [List.mem_singleton.mp h, upd_ne (tl hT)]
      exact hT
  · rcases List.mem_append.mp hd with h | h
    · have q := D.side d h
      have : d.2.2.1 ≠ l := fun z => by
        rw [z, D.lst] at q
        have e := refs_ints (HO.lst.inj (Option.some.inj q))
        rw [e] at h
        cases h
      rw [upd_ne this]
      exact q
    · rw [List.mem_singleton.mp h, upd_ne nZ]
      exact hZ
theorem with_restA {α : Type} {R : α → Hp → Prop} {G : Prop} (C : α → Hp → Prop) (r : ∀ a H, C a H → R a H) (g : (∀ a H, C a H → R a H) → G) : G := g r
section
variable {P : Program} {w : World} {K : PySem.W.Frag} {mg : Str → Option Value} {base : Heap}
abbrev nDoms : List Str := ["_law_stream_here", "_law_names_here", "_law_pool_here", "_law_most", "_law_domains_here", "_law_name", "_law_side", "_law_value"]
def spDoms : Sp := fun vs H Q _ => ∃ (p nm pl : Addr) (xs : List Str) (ns : List Int) (m : Nat), vs = [.ref p, .ref nm, .ref pl, .int (m : Int)] ∧ Strm H p ∧ H nm = some (.lst (xs.map V.str)) ∧ H pl = some (.lst (ns.map V.int)) ∧ p ≠ nm ∧ p ≠ pl ∧ Srt ns ∧ 1 ≤ ns.length ∧ ns.length ≤ 100 ∧ xs.length ≤ 100 ∧
  ∀ (H' : Hp) (l : Addr) (ds : List DomE), Keep p H H' → H l = none → Strm H' p → Doms H' l ds → ds.map (·.2.1) = xs → (∀ d ∈ ds, Srt d.2.2.2 ∧ d.2.2.2.length ≤ max m 1 ∧ H d.1 = none ∧ H d.2.2.1 = none ∧ ∀ v ∈ d.2.2.2, v ∈ ns) → (ds.map (·.2.2.1)).Nodup → Q (.ref l) H'
end
end K15

set_option Elab.async false
set_option linter.all false
set_option maxRecDepth 100000
set_option maxHeartbeats 4000000
namespace K15
open PySem PySem.Spec PyProof.Rows L2 Cs CsX
/-! ### facts of the heap, for grind; small helpers -/
@[grind =] theorem g_upd (H : Hp) (a b : Addr) (o : HO) : upd H a o b = if b = a then some o else H b := rfl
@[grind =] theorem g_same (H H' : Hp) : Same H H' ↔ (∀ a o, H a = some o → H' a = some o) ∧ ∀ a, H' a = none → H a = none := ⟨fun s => ⟨s, fun a h => s.free h⟩, fun h => h.1⟩
@[grind =] theorem g_keep (p : Addr) (H H' : Hp) : Keep p H H' ↔ (∀ a o, a ≠ p → H a = some o → H' a = some o) ∧ ∀ a, a ≠ p → H' a = none → H a = none := ⟨fun s => ⟨s, fun a hp h => by
  cases c : H a with
  | none => rfl
  | some o => rw [s a o hp c] at h; cases h⟩, fun h => h.1⟩
@[grind =] theorem g_oth (p : Addr) (H H' : Hp) : Oth p H H' ↔ ∀ a, a ≠ p → H' a = H a := Iff.rfl
@[grind =] theorem g_strm (H : Hp) (p : Addr) : Strm H p ↔ ∃ x y z : Int, H p = some (.lst [.int x, .int y, .int z]) := Iff.rfl
theorem g_new {H : Hp} {q : Addr} {o : HO} (n : H q = none) : Same H (upd H q o) := same_new n
grind_pattern g_new => upd H q o
@[grind =] theorem g_keepL (as : List Addr) (H H' : Hp) : KeepL as H H' ↔ ∀ b o, b ∉ as → H b = some o → H' b = some o := Iff.rfl
theorem ite_both {A B : Prop} {c : Bool} (h1 : c = true → A) (h2 : c = false → B) : if c = true then A else B := by
  cases c with
  | true => rw [if_pos rfl]; exact h1 rfl
  | false => rw [if_neg (by decide)]; exact h2 rfl
theorem at_int {xs : List V} {i : Int} {v : V} (h0 : 0 ≤ i) (h : xs[i.toNat]? = some v) : atI xs i = some v := by
  have := atI_nat h
  rw [show ((i.toNat : Nat) : Int) = i by omega] at this
  exact this
theorem at_eq {xs : List V} {i : Int} {j : Nat} {v : V} (h : i = (j : Int)) (hx : xs[j]? = some v) : atI xs i = some v := by
  rw [h]; exact atI_nat hx
theorem at_in {ns : List Int} {d : Int} (h0 : 0 ≤ d) (h1 : d < (ns.length : Nat)) : ∃ v ∈ ns, atI (ns.map V.int) d = some (.int v) := by
  have h : d.toNat < ns.length := by omega
  exact ⟨ns[d.toNat], List.getElem_mem h, at_int h0 (by rw [List.getElem?_map, List.getElem?_eq_getElem h] <;> rfl)⟩
theorem at_inS {ns : List Str} {d : Int} (h0 : 0 ≤ d) (h1 : d < (ns.length : Nat)) : ∃ v ∈ ns, atI (ns.map V.str) d = some (.str v) := by
  have h : d.toNat < ns.length := by omega
  exact ⟨ns[d.toNat], List.getElem_mem h, at_int h0 (by rw [List.getElem?_map, List.getElem?_eq_getElem h] <;> rfl)⟩
theorem ixN_nat {n j : Nat} (h : j < n) : ixN n (j : Int) = some j := by
  unfold ixN
  rw [if_pos (by omega), if_pos (by omega)]; simp
theorem with_restS {R : L2.St → Hp → Prop} {G : Prop} (C : L2.St → Hp → Prop) (r : ∀ σ H, C σ H → R σ H) (g : (∀ σ H, C σ H → R σ H) → G) : G := g r
theorem nd_ix {α : Type} {l : List α} (nd : l.Nodup) {i j : Nat} {x : α} (hi : l[i]? = some x) (hj : l[j]? = some x) : i = j :=
  (List.getElem?_inj (List.getElem?_eq_some_iff.mp hi).1 nd).mp (hi.trans hj.symm)
theorem not_take {α : Type} {l : List α} (nd : l.Nodup) {i : Nat} {x : α} (hi : l[i]? = some x) : x ∉ l.take i := fun z => by
  obtain ⟨j, hj⟩ := List.mem_iff_getElem?.mp z
  rw [List.getElem?_take] at hj
  split at hj
  · next c => exact absurd (nd_ix nd hj hi) (by omega)
  · cases hj
theorem srt_nd {l : List Int} (s : Srt l) : l.Nodup := List.Pairwise.imp (fun h z => by rw [z] at h; exact absurd h (Int.lt_irrefl _)) s
theorem filter_snoc {α : Type} {s : List α} {j : Nat} {v : α} {p : α → Bool} (h : s[j]? = some v) : (s.take (j + 1)).filter p = (s.take j).filter p ++ (if p v = true then [v] else []) := by
  rw [List.take_add_one, h, List.filter_append]
  congr 1
  show List.filter p [v] = _
  rw [List.filter_cons] <;> rfl
theorem filter_len {α : Type} (s : List α) (p : α → Bool) (j : Nat) : ((s.take j).filter p).length ≤ s.length := by
  have h1 := List.length_filter_le p (s.take j)
  rw [List.length_take] at h1
  omega
theorem take_snoc {α : Type} {s : List α} {j : Nat} {v : α} (h : s[j]? = some v) : s.take (j + 1) = s.take j ++ [v] := by
  rw [List.take_add_one, h] <;> rfl
theorem pe_or {X : Cx} {e : Expr} {t u : TE} (a : PE X e t) (b : PE X e u) : PE X e (fun σ H Q => t σ H Q ∨ u σ H Q) :=
  ⟨fun pins s σ H Q I h => h.elim (fun h => a.run pins s σ H Q I h) fun h => b.run pins s σ H Q I h⟩
theorem paired_same {K : PySem.W.Frag} {H : Hp} {n : Nat} : ∀ as : List Addr, Paired (EqV K H (n + 1)) (as.map V.ref) (as.map V.ref)
  | [] => .nil
  | a :: as => .cons (.inr (.inl ⟨a, rfl, rfl⟩)) (paired_same as)
theorem in_strs (ks : List Str) (v : Str) : inV (.str v) (ks.map V.str) = decide (v ∈ ks) := by
  unfold inV
  induction ks with
  | nil => simp
  | cons k ks ih =>
    rw [List.map_cons, List.any_cons, ih]
    have e : eqV (.str k) (.str v) = decide (k = v) := by
      by_cases c : k = v
      · subst c; simp [eqV]
      · simp [eqV, c]
    rw [e]
    by_cases c : k = v
    · subst c; simp
    · have : ¬ v = k := fun z => c z.symm
      simp [c, this]
theorem flats_str (xs : List Str) : (xs.map V.str).all flatV = true := by
  rw [List.all_eq_true]
  intro v hv
  obtain ⟨x, _, rfl⟩ := List.mem_map.mp hv
  rfl
/-! ### dicts of values -/
def putA (A : List (Str × Int)) (x : Str) (v : Int) : List (Str × Int) := if (A.any fun e => decide (e.1 = x)) = true then A.map (fun e => if e.1 = x then (x, v) else e) else A ++ [(x, v)]
theorem any_int (A : List (Str × Int)) (x : Str) : ((intK A).any fun kv => decide (kv.1 = Sum.inr x)) = A.any fun e => decide (e.1 = x) := by
  unfold intK
  rw [List.any_map]
  congr 1
  funext e
  simp
theorem putK_int (A : List (Str × Int)) (x : Str) (v : Int) : putK (intK A) (.inr x) (V.int v) = intK (putA A x v) := by
  unfold putK putA
  rw [any_int]
  by_cases h : (A.any fun e => decide (e.1 = x)) = true
  · rw [if_pos h, if_pos h]
    unfold intK
    rw [List.map_map, List.map_map]
    congr 1
    funext e
    by_cases z : e.1 = x
    · simp [z]
    · simp [z]
  · rw [if_neg h, if_neg h]
    unfold intK
    rw [List.map_append]
    rfl
theorem anyA {A : List (Str × Int)} {x : Str} : (A.any fun e => decide (e.1 = x)) = true ↔ x ∈ A.map (·.1) := by
  rw [List.any_eq_true, List.mem_map]
  constructor
  · rintro ⟨e, he, h⟩; exact ⟨e, he, of_decide_eq_true h⟩
  · rintro ⟨e, he, h⟩; exact ⟨e, he, decide_eq_true h⟩
theorem putA_new {A : List (Str × Int)} {x : Str} {v : Int} (h : x ∉ A.map (·.1)) : putA A x v = A ++ [(x, v)] := if_neg fun z => h (anyA.mp z)
theorem putA_keys {A : List (Str × Int)} {x : Str} {v : Int} (h : x ∈ A.map (·.1)) : (putA A x v).map (·.1) = A.map (·.1) := by
  unfold putA
  rw [if_pos (anyA.mpr h), List.map_map]
  refine List.map_congr_left fun e _ => ?_
  show (if e.1 = x then (x, v) else e).1 = e.1
  split
  · next z => exact z.symm
  · rfl
theorem aget_cons (e : Str × Int) (A : List (Str × Int)) (y : Str) : aget (e :: A) y = if e.1 = y then some e.2 else aget A y := by
  unfold aget
  rw [List.find?_cons]
  by_cases h : e.1 = y
  · simp [h]
  · simp [h]
theorem aget_app {A : List (Str × Int)} {x : Str} {v : Int} (h : x ∉ A.map (·.1)) (y : Str) : aget (A ++ [(x, v)]) y = if x = y then some v else aget A y := by
  induction A with
  | nil => rw [List.nil_append, aget_cons] <;> rfl
  | cons e A ih =>
    rw [List.cons_append, aget_cons, aget_cons, ih fun z => h (List.mem_cons_of_mem _ z)]
    by_cases c : e.1 = y
    · rw [if_pos c, if_pos c]
      by_cases d : x = y
      · exact absurd (by rw [d, ← c]; exact List.mem_cons_self) h
      · rw [if_neg d]
    · rw [if_neg c, if_neg c]
theorem aget_rep (x : Str) (v : Int) (y : Str) : ∀ A : List (Str × Int), aget (A.map fun e => if e.1 = x then (x, v) else e) y = if x = y then (if x ∈ A.map (·.1) then some v else none) else aget A y
  | [] => by split <;> rfl
  | e :: A => by
    rw [List.map_cons, aget_cons, aget_cons, aget_rep x v y A]
    by_cases c : e.1 = x
    · rw [if_pos c]
      by_cases d : x = y
      · rw [if_pos d, if_pos d, if_pos (by rw [List.map_cons, c]; exact List.mem_cons_self)]
      · have h1 : ¬ e.1 = y := fun z => d (c.symm.trans z)
        simp [d, h1]
    · rw [if_neg c]
      by_cases d : x = y
      · have h1 : ¬ e.1 = y := fun z => c (z.trans d.symm)
        rw [if_neg h1, if_pos d, if_pos d]
        have : x ∈ (e :: A).map (·.1) ↔ x ∈ A.map (·.1) := by
          rw [List.map_cons, List.mem_cons]
          exact ⟨fun h => h.elim (fun z => absurd z.symm c) id, .inr⟩
        by_cases m : x ∈ A.map (·.1)
        · rw [if_pos m, if_pos (this.mpr m)]
        · rw [if_neg m, if_neg fun z => m (this.mp z)]
      · rw [if_neg d, if_neg d]
theorem aget_put {A : List (Str × Int)} {x : Str} {v : Int} (y : Str) : aget (putA A x v) y = if x = y then some v else aget A y := by
  by_cases h : x ∈ A.map (·.1)
  · unfold putA
    rw [if_pos (anyA.mpr h), aget_rep, if_pos h]
  · rw [putA_new h, aget_app h]
theorem aget_mem {A : List (Str × Int)} {x : Str} : (aget A x).isSome = true ↔ x ∈ A.map (·.1) := by
  induction A with
  | nil => simp [aget]
  | cons e A ih =>
    rw [aget_cons, List.map_cons, List.mem_cons, ← ih]
    by_cases c : e.1 = x
    · rw [if_pos c]; simp [c]
    · rw [if_neg c]; simp [Ne.symm c]
/-- a dict of values -/
structure Vd (H : Hp) (d : Addr) (A : List (Str × Int)) : Prop where
  un : H d = some (.dK (intK A))
  nd : (A.map (·.1)).Nodup
  few : A.length ≤ 40
theorem Vd.same {H H' : Hp} {d : Addr} {A : List (Str × Int)} (B : Vd H d A) (s : Same H H') : Vd H' d A := ⟨s _ _ B.un, B.nd, B.few⟩
theorem Vd.ax {H : Hp} {d : Addr} {A : List (Str × Int)} (B : Vd H d A) : Ax H d A := ⟨.inl B.un⟩
theorem intK_len (A : List (Str × Int)) : (intK A).length = A.length := by unfold intK; rw [List.length_map]
theorem aget_iff {A : List (Str × Int)} (nd : (A.map (·.1)).Nodup) (x : Str) (v : Int) : aget A x = some v ↔ (x, v) ∈ A := by
  induction A with
  | nil => simp [aget]
  | cons e A ih =>
    obtain ⟨n1, n2⟩ := List.nodup_cons.mp nd
    rw [aget_cons, List.mem_cons]
    by_cases c : e.1 = x
    · rw [if_pos c]
      constructor
      · intro h
        left
        have := Option.some.inj h
        rw [← c, ← this]
      · rintro (h | h)
        · rw [← h]
        · rw [← c] at h
          exact absurd (List.mem_map_of_mem (f := fun e : Str × Int => e.1) h) n1
    · rw [if_neg c, ih n2]
      constructor
      · exact .inr
      · rintro (h | h)
        · exact absurd (congrArg Prod.fst h).symm c
        · exact h
def SameA (L M : List (Str × Int)) : Prop := ∀ x, aget L x = aget M x
theorem SameA.keys {L M : List (Str × Int)} (s : SameA L M) {x : Str} (h : x ∈ L.map (·.1)) : x ∈ M.map (·.1) := by
  rw [← aget_mem] at h ⊢
  rw [← s x]
  exact h
theorem SameA.len {L M : List (Str × Int)} (s : SameA L M) (n1 : (L.map (·.1)).Nodup) (n2 : (M.map (·.1)).Nodup) : L.length = M.length := by
  have h1 := List.Nodup.length_le_of_subset n1 fun x hx => s.keys hx
  have h2 := List.Nodup.length_le_of_subset n2 fun x hx => SameA.keys (fun y => (s y).symm) hx
  rw [List.length_map, List.length_map] at h1 h2
  omega
theorem keysI {L : List (Str × Int)} {i : Nat} {k : Key} {v : V} (h : (intK L)[i]? = some (k, v)) : ∃ e, L[i]? = some e ∧ k = .inr e.1 ∧ v = .int e.2 := by
  unfold intK at h
  rw [List.getElem?_map] at h
  obtain ⟨e, he, q⟩ := Option.map_eq_some_iff.mp h
  exact ⟨e, he, (Prod.mk.inj q).1.symm, (Prod.mk.inj q).2.symm⟩
theorem all_repl (n : Nat) : (List.replicate n true).all id = true := by simp

theorem putA_mem {A : List (Str × Int)} {x y : Str} {v : Int} : y ∈ (putA A x v).map (·.1) ↔ y = x ∨ y ∈ A.map (·.1) := by
  rw [← aget_mem, aget_put, ← aget_mem]
  by_cases c : x = y
  · rw [if_pos c]; simp [c]
  · rw [if_neg c]; simp [Ne.symm c]
theorem putA_nd {A : List (Str × Int)} {x : Str} {v : Int} (nd : (A.map (·.1)).Nodup) : ((putA A x v).map (·.1)).Nodup := by
  by_cases h : x ∈ A.map (·.1)
  · rw [putA_keys h]; exact nd
  · rw [putA_new h, List.map_append]
    exact nd_snoc nd h
theorem putA_len (A : List (Str × Int)) (x : Str) (v : Int) : (putA A x v).length ≤ A.length + 1 := by
  unfold putA
  split
  · rw [List.length_map]; omega
  · rw [List.length_append] <;> exact Nat.le_refl _
end K15

set_option Elab.async false
set_option linter.all false
set_option maxRecDepth 100000
set_option maxHeartbeats 4000000
namespace K15
open PySem PySem.Spec PyProof.Rows L2 Cs CsX
/-! ### edges, their names -/
abbrev Edg := Str × Str × Int
def eg (es : List Edg) (i : Nat) : Edg := es.getD i ("", "", 0)
theorem eg_of {es : List Edg} {i : Nat} {e : Edg} (h : es[i]? = some e) : eg es i = e := by unfold eg; rw [List.getD_eq_getElem?_getD, h] <;> rfl
def addN (ns : List Str) (x : Str) : List Str := if x ∈ ns then ns else ns ++ [x]
def addE (ns : List Str) (e : Edg) : List Str := addN (addN ns e.1) e.2.1
def enames (es : List Edg) : List Str := es.foldl addE []
theorem addN_mem {ns : List Str} {x y : Str} : y ∈ addN ns x ↔ y ∈ ns ∨ y = x := by
  unfold addN
  split
  · next h => exact ⟨.inl, fun h' => h'.elim id fun z => z ▸ h⟩
  · rw [List.mem_append, List.mem_singleton]
theorem addN_nd {ns : List Str} {x : Str} (h : ns.Nodup) : (addN ns x).Nodup := by
  unfold addN
  split
  · exact h
  · next c => exact nd_snoc h c
theorem addN_len (ns : List Str) (x : Str) : (addN ns x).length ≤ ns.length + 1 := by
  unfold addN
  split
  · omega
  · rw [List.length_append] <;> exact Nat.le_refl _
theorem addE_mem {ns : List Str} {e : Edg} {y : Str} : y ∈ addE ns e ↔ y ∈ ns ∨ y = e.1 ∨ y = e.2.1 := by
  unfold addE
  rw [addN_mem, addN_mem, or_assoc]
theorem enames_snoc {es : List Edg} {i : Nat} {e : Edg} (h : es[i]? = some e) : enames (es.take (i + 1)) = addE (enames (es.take i)) e := by
  unfold enames
  rw [take_snoc h, List.foldl_append] <;> rfl
theorem fold_mem (es : List Edg) : ∀ (ns : List Str) (y : Str), y ∈ es.foldl addE ns ↔ y ∈ ns ∨ ∃ e ∈ es, y = e.1 ∨ y = e.2.1 := by
  induction es with
  | nil => simp
  | cons e es ih =>
    intro ns y
    rw [List.foldl_cons, ih, addE_mem]
    simp [or_assoc]
theorem enames_mem {es : List Edg} {y : Str} : y ∈ enames es ↔ ∃ e ∈ es, y = e.1 ∨ y = e.2.1 := by
  unfold enames
  rw [fold_mem]
  simp
theorem fold_nd (es : List Edg) : ∀ (ns : List Str), ns.Nodup → (es.foldl addE ns).Nodup := by
  induction es with
  | nil => exact fun _ h => h
  | cons e es ih => exact fun ns h => ih _ (addN_nd (addN_nd h))
theorem enames_nd (es : List Edg) : (enames es).Nodup := fold_nd es [] List.Pairwise.nil
theorem fold_len (es : List Edg) : ∀ (ns : List Str), (es.foldl addE ns).length ≤ ns.length + 2 * es.length := by
  induction es with
  | nil => intro ns; exact Nat.le_refl _
  | cons e es ih =>
    intro ns
    have h1 := ih (addE ns e)
    have h2 := addN_len (addN ns e.1) e.2.1
    have h3 := addN_len ns e.1
    rw [List.foldl_cons, List.length_cons]
    unfold addE at h1 ⊢
    omega
theorem enames_len (es : List Edg) : (enames es).length ≤ 2 * es.length := by
  have := fold_len es []
  rw [List.length_nil, Nat.zero_add] at this
  exact this
/-! ### lowering -/
structure Sta where
  f : Str → Int
  lb : Str → Option Nat
  low : Option Str
def rlx (s : Sta) (i : Nat) (e : Edg) : Sta :=
  if s.f e.2.1 + e.2.2 < s.f e.1 then ⟨fun x => if x = e.1 then s.f e.2.1 + e.2.2 else s.f x, fun x => if x = e.1 then some i else s.lb x, some e.1⟩ else s
def pasN (es : List Edg) (s : Sta) : Nat → Sta
  | 0 => { s with low := none }
  | j + 1 => rlx (pasN es s j) j (eg es j)
def pas (es : List Edg) (s : Sta) : Sta := pasN es s es.length
def lp (es : List Edg) : Nat → Sta → Sta
  | 0, s => s
  | n + 1, s => if (pas es s).low = none then pas es s else lp es n (pas es s)
def s0 : Sta := ⟨fun _ => 0, fun _ => none, none⟩
def fin (es : List Edg) : Sta := lp es (enames es).length s0
inductive Wk (es : List Edg) : Str → Int → Str → Prop
  | nil (x : Str) : Wk es x 0 x
  | cons {e : Edg} {w : Int} {y : Str} : e ∈ es → Wk es e.2.1 w y → Wk es e.1 (w + e.2.2) y
structure Cor (es : List Edg) (k j : Nat) (s : Sta) (t p : Str → Nat) (c : Nat) : Prop where
  neg : ∀ x, s.f x ≤ 0
  wk : ∀ x, ∃ y, Wk es x (s.f x) y
  par : ∀ x i, s.lb x = some i → ∃ e, es[i]? = some e ∧ e.1 = x ∧ s.f e.2.1 + e.2.2 ≤ s.f x ∧ (t x ≤ t e.2.1 → s.f e.2.1 + e.2.2 < s.f x) ∧ p x ≤ p e.2.1 + 1
  tm : ∀ x, t x ≤ c
  no : ∀ x, s.lb x = none → p x = 0
  pk : ∀ x, p x ≤ k
  ed : ∀ i e, es[i]? = some e → s.f e.1 ≤ s.f e.2.1 + e.2.2 ∨ (if i < j then k ≤ p e.2.1 else k ≤ p e.2.1 + 1)
structure Lw (es : List Edg) (k j : Nat) (s : Sta) (p : Str → Nat) : Prop where
  lw : ∀ x, s.low = some x → p x = k
  ln : s.low = none → ∀ i e, i < j → es[i]? = some e → s.f e.1 ≤ s.f e.2.1 + e.2.2
theorem Cor.step {es : List Edg} {k j : Nat} {s : Sta} {t p : Str → Nat} {c : Nat} {e : Edg} (C : Cor es k j s t p c) (L : Lw es k j s p) (he : es[j]? = some e) :
    ∃ t' p' c', Cor es k (j + 1) (rlx s j e) t' p' c' ∧ Lw es k (j + 1) (rlx s j e) p' := by
  unfold rlx
  by_cases h : s.f e.2.1 + e.2.2 < s.f e.1
  · rw [if_pos h]
    have hp : k ≤ p e.2.1 + 1 := by
      rcases C.ed j e he with z | z
      · omega
      · rwa [if_neg (by omega)] at z
    refine ⟨fun x => if x = e.1 then c + 1 else t x, fun x => if x = e.1 then k else p x, c + 1, ⟨fun x => ?_, fun x => ?_, fun x i hx => ?_, fun x => ?_, fun x hx => ?_, fun x => ?_, fun i g hg => ?_⟩, ⟨fun x hx => ?_, fun z => nomatch z⟩⟩
    · show (if x = e.1 then _ else _) ≤ (0 : Int)
      split
      · have := C.neg e.1; omega
      · exact C.neg x
    · show ∃ y, Wk es x (if x = e.1 then s.f e.2.1 + e.2.2 else s.f x) y
      split
      · next z =>
        rw [z]
        obtain ⟨y, hy⟩ := C.wk e.2.1
        exact ⟨y, .cons (List.mem_of_getElem? he) hy⟩
      · exact C.wk x
    · by_cases z : x = e.1
      · subst z
        replace hx : (if e.1 = e.1 then some j else s.lb e.1) = some i := hx
        rw [if_pos rfl] at hx
        obtain rfl := Option.some.inj hx
        have tv := C.tm e.2.1
        refine ⟨e, he, rfl, ?_, ?_, ?_⟩
        · show (if e.2.1 = e.1 then _ else _) + _ ≤ (if e.1 = e.1 then _ else _)
          grind
        · show (if e.1 = e.1 then _ else _) ≤ (if e.2.1 = e.1 then _ else _) → (if e.2.1 = e.1 then _ else _) + _ < (if e.1 = e.1 then _ else _)
          grind
        · show (if e.1 = e.1 then _ else _) ≤ (if e.2.1 = e.1 then _ else _) + 1
          grind
      · replace hx : (if x = e.1 then some j else s.lb x) = some i := hx
        rw [if_neg z] at hx
        obtain ⟨g, h1, h2, h3, h4, h5⟩ := C.par x i hx
        have pg := C.pk g.2.1
        refine ⟨g, h1, h2, ?_, ?_, ?_⟩
        · show (if g.2.1 = e.1 then _ else _) + _ ≤ (if x = e.1 then _ else _)
          grind
        · show (if x = e.1 then _ else _) ≤ (if g.2.1 = e.1 then _ else _) → (if g.2.1 = e.1 then _ else _) + _ < (if x = e.1 then _ else _)
          grind
        · show (if x = e.1 then _ else _) ≤ (if g.2.1 = e.1 then _ else _) + 1
          grind
    · show (if x = e.1 then c + 1 else t x) ≤ c + 1
      have := C.tm x
      split <;> omega
    · replace hx : (if x = e.1 then some j else s.lb x) = none := hx
      split at hx
      · cases hx
      · next z =>
        show (if x = e.1 then k else p x) = 0
        rw [if_neg z]; exact C.no x hx
    · show (if x = e.1 then k else p x) ≤ k
      have := C.pk x
      split <;> omega
    · have ij : i = j → g = e := fun z => by subst z; exact (Option.some.inj (he.symm.trans hg)).symm
      have ed := C.ed i g hg
      show (if g.1 = e.1 then _ else _) ≤ (if g.2.1 = e.1 then _ else _) + _ ∨ (if i < j + 1 then k ≤ (if g.2.1 = e.1 then _ else _) else k ≤ (if g.2.1 = e.1 then _ else _) + 1)
      grind
    · replace hx : some e.1 = some x := hx
      obtain rfl := Option.some.inj hx
      show (if e.1 = e.1 then k else p e.1) = k
      rw [if_pos rfl]
  · rw [if_neg h]
    refine ⟨t, p, c, ⟨C.neg, C.wk, C.par, C.tm, C.no, C.pk, fun i g hg => ?_⟩, ⟨L.lw, fun z i g hi hg => ?_⟩⟩
    · by_cases ij : i = j
      · subst ij
        obtain rfl := Option.some.inj (he.symm.trans hg)
        left; omega
      · rcases C.ed i g hg with z | z
        · exact .inl z
        · right
          split at z
          · rw [if_pos (by omega)]; exact z
          · rw [if_neg (by omega)]; exact z
    · by_cases ij : i = j
      · subst ij
        obtain rfl := Option.some.inj (he.symm.trans hg)
        omega
      · exact L.ln z i g (by omega) hg
theorem Cor.pass {es : List Edg} {k : Nat} {s : Sta} {t p : Str → Nat} {c : Nat} (C : Cor es k es.length s t p c) : ∀ j, j ≤ es.length → ∃ t' p' c', Cor es (k + 1) j (pasN es s j) t' p' c' ∧ Lw es (k + 1) j (pasN es s j) p'
  | 0, _ => by
    refine ⟨t, p, c, ⟨C.neg, C.wk, C.par, C.tm, C.no, fun x => by have := C.pk x; omega, fun i e he => ?_⟩, ⟨(fun x z => nomatch z), fun _ i e hi => absurd hi (by omega)⟩⟩
    rcases C.ed i e he with z | z
    · exact .inl z
    · right
      rw [if_pos (List.getElem?_eq_some_iff.mp he).1] at z
      rw [if_neg (by omega)]
      omega
  | j + 1, hj => by
    obtain ⟨t', p', c', h1, h2⟩ := C.pass j (by omega)
    obtain ⟨e, he⟩ : ∃ e, es[j]? = some e := ⟨_, List.getElem?_eq_getElem (by omega)⟩
    show ∃ t' p' c', Cor es (k + 1) (j + 1) (rlx (pasN es s j) j (eg es j)) t' p' c' ∧ Lw es (k + 1) (j + 1) (rlx (pasN es s j) j (eg es j)) p'
    rw [eg_of he]
    exact h1.step h2 he
theorem Cor.start (es : List Edg) : Cor es 0 es.length s0 (fun _ => 0) (fun _ => 0) 0 :=
  ⟨(fun _ => Int.le_refl 0), (fun x => ⟨x, .nil x⟩), (fun _ _ h => nomatch h), (fun _ => Nat.le_refl 0), (fun _ _ => rfl), (fun _ => Nat.le_refl 0), fun i e he => .inr (by split <;> omega)⟩
def Met (es : List Edg) (f : Str → Int) : Prop := ∀ e ∈ es, f e.1 ≤ f e.2.1 + e.2.2
theorem lp_ok {es : List Edg} : ∀ (n k : Nat) (s : Sta) (t p : Str → Nat) (c : Nat), Cor es k es.length s t p c → (∃ x, s.low = some x ∧ p x = k) ∨ (k = 0 ∧ (n = 0 → es = []) ∧ s.low = none) →
    ∃ k' t' p' c', Cor es k' es.length (lp es n s) t' p' c' ∧ (((lp es n s).low = none ∧ Met es (lp es n s).f) ∨ (k' = k + n ∧ ∃ x, (lp es n s).low = some x ∧ p' x = k'))
  | 0, k, s, t, p, c, C, h => by
    rcases h with h | ⟨h1, h2, h3⟩
    · exact ⟨k, t, p, c, C, .inr ⟨rfl, h⟩⟩
    · refine ⟨k, t, p, c, C, .inl ⟨h3, fun e he => ?_⟩⟩
      rw [h2 rfl] at he
      cases he
  | n + 1, k, s, t, p, c, C, h => by
    obtain ⟨t', p', c', h1, h2⟩ := C.pass es.length (Nat.le_refl _)
    show ∃ k' t' p' c', Cor es k' es.length (if (pas es s).low = none then pas es s else lp es n (pas es s)) t' p' c' ∧ (((if (pas es s).low = none then pas es s else lp es n (pas es s)).low = none ∧ Met es (if (pas es s).low = none then pas es s else lp es n (pas es s)).f) ∨ (k' = k + (n + 1) ∧ ∃ x, (if (pas es s).low = none then pas es s else lp es n (pas es s)).low = some x ∧ p' x = k'))
    by_cases z : (pas es s).low = none
    · rw [if_pos z]
      refine ⟨k + 1, t', p', c', h1, .inl ⟨z, fun e he => ?_⟩⟩
      obtain ⟨i, hi⟩ := List.mem_iff_getElem?.mp he
      exact h2.ln z i e (List.getElem?_eq_some_iff.mp hi).1 hi
    · rw [if_neg z]
      obtain ⟨x, hx⟩ := Option.ne_none_iff_exists'.mp z
      obtain ⟨k2, t2, p2, c2, g1, g2⟩ := lp_ok n (k + 1) (pas es s) t' p' c' h1 (.inl ⟨x, hx, h2.lw x hx⟩)
      refine ⟨k2, t2, p2, c2, g1, ?_⟩
      rcases g2 with g2 | ⟨g2, g3⟩
      · exact .inl g2
      · exact .inr ⟨by omega, g3⟩
theorem enames_nil {es : List Edg} (h : (enames es).length = 0) : es = [] := by
  cases es with
  | nil => rfl
  | cons e es =>
    have : e.1 ∈ enames (e :: es) := enames_mem.mpr ⟨e, List.mem_cons_self, .inl rfl⟩
    rw [List.eq_nil_of_length_eq_zero h] at this
    cases this
theorem fin_ok (es : List Edg) : ∃ k t p c, Cor es k es.length (fin es) t p c ∧ (((fin es).low = none ∧ Met es (fin es).f) ∨ (k = (enames es).length ∧ ∃ x, (fin es).low = some x ∧ p x = k)) := by
  obtain ⟨k, t, p, c, h1, h2⟩ := lp_ok (es := es) (enames es).length 0 s0 _ _ 0 (Cor.start es) (.inr ⟨rfl, enames_nil, rfl⟩)
  refine ⟨k, t, p, c, h1, ?_⟩
  rcases h2 with h2 | ⟨h2, h3⟩
  · exact .inl h2
  · exact .inr ⟨by omega, h3⟩
/-! ### the greatest values -/
inductive TR (es : List Edg) (f : Str → Int) : Str → Prop
  | zero {x : Str} : f x = 0 → TR es f x
  | step {e : Edg} : e ∈ es → f e.1 = f e.2.1 + e.2.2 → TR es f e.2.1 → TR es f e.1
theorem Wk.le {es : List Edg} {f : Str → Int} (m : Met es f) {x y : Str} {w : Int} (h : Wk es x w y) : f x ≤ w + f y := by
  induction h with
  | nil x => omega
  | cons he _ ih => have := m _ he; omega
theorem Wk.tr {es : List Edg} {f : Str → Int} (m : Met es f) {x y : Str} {w : Int} (h : Wk es x w y) : f x = w + f y → f y = 0 → TR es f x := by
  induction h with
  | nil x => exact fun _ z => .zero z
  | cons he hw ih =>
    intro h1 h2
    have h3 := m _ he
    have h4 := hw.le m
    exact .step he (by omega) (ih (by omega) h2)
theorem fin_tr {es : List Edg} (h : (fin es).low = none) : Met es (fin es).f ∧ (∀ x, (fin es).f x ≤ 0) ∧ ∀ x, TR es (fin es).f x := by
  obtain ⟨k, t, p, c, C, h2⟩ := fin_ok es
  rcases h2 with ⟨_, m⟩ | ⟨_, x, hx, _⟩
  · refine ⟨m, C.neg, fun x => ?_⟩
    obtain ⟨y, w⟩ := C.wk x
    have h1 := w.le m
    have h3 := C.neg y
    exact w.tr m (by omega) (by omega)
  · rw [h] at hx; cases hx
/-! ### the cycle -/
section
variable (es : List Edg)
def nx (x : Str) : Str := match (fin es).lb x with
  | none => x
  | some i => (eg es i).2.1
def xa (x : Str) : Nat → Str
  | 0 => x
  | j + 1 => nx es (xa x j)
def wa (x : Str) (j : Nat) : Nat := ((fin es).lb (xa es x j)).getD 0
def way (x : Str) (m : Nat) : List Nat := (List.range m).map (wa es x)
end
/-- the way up to its m-th place: all edges of it are known, none twice -/
structure OnWay (es : List Edg) (x : Str) (m : Nat) : Prop where
  low : (fin es).low = some x
  lb : ∀ j, j < m → (fin es).lb (xa es x j) = some (wa es x j)
  nd : (way es x m).Nodup
theorem way_len (es : List Edg) (x : Str) (m : Nat) : (way es x m).length = m := by unfold way; rw [List.length_map, List.length_range]
theorem way_at {es : List Edg} {x : Str} {m j : Nat} (h : j < m) : (way es x m)[j]? = some (wa es x j) := by unfold way; rw [List.getElem?_map, List.getElem?_range h] <;> rfl
theorem xa_next {es : List Edg} {x : Str} {j : Nat} (h : (fin es).lb (xa es x j) = some (wa es x j)) : xa es x (j + 1) = (eg es (wa es x j)).2.1 := by
  show nx es (xa es x j) = _
  unfold nx
  rw [h]
theorem lb_edge {es : List Edg} {x : Str} {i : Nat} (h : (fin es).lb x = some i) : ∃ e, es[i]? = some e ∧ e.1 = x := by
  obtain ⟨k, t, p, c, C, _⟩ := fin_ok es
  obtain ⟨e, h1, h2, _⟩ := C.par x i h
  exact ⟨e, h1, h2⟩
theorem OnWay.known {es : List Edg} {x : Str} {m : Nat} (W : OnWay es x m) : ∃ i, (fin es).lb (xa es x m) = some i ∧ (m < (enames es).length ∨ i ∈ way es x m) := by
  obtain ⟨k, t, p, c, C, h2⟩ := fin_ok es
  rcases h2 with ⟨h2, _⟩ | ⟨rfl, y, hy, py⟩
  · rw [W.low] at h2; cases h2
  obtain rfl := Option.some.inj (W.low.symm.trans hy)
  have pj : ∀ j, j ≤ m → (enames es).length ≤ p (xa es x j) + j := by
    intro j
    induction j with
    | zero => intro _; show (enames es).length ≤ p x + 0; omega
    | succ j ih =>
      intro hj
      have h1 := ih (by omega)
      have h3 := W.lb j (by omega)
      obtain ⟨e, e1, e2, _, _, e5⟩ := C.par _ _ h3
      rw [xa_next h3, eg_of e1]
      omega
  have nm : ∀ j, j < m → xa es x j ∈ enames es := fun j hj => by
    obtain ⟨e, e1, e2⟩ := lb_edge (W.lb j hj)
    rw [← e2]
    exact enames_mem.mpr ⟨e, List.mem_of_getElem? e1, .inl rfl⟩
  rcases Nat.lt_or_ge m (enames es).length with hm | hm
  · cases hl : (fin es).lb (xa es x m) with
    | none =>
      have := C.no _ hl
      have := pj m (Nat.le_refl _)
      omega
    | some i => exact ⟨i, rfl, .inl hm⟩
  · have nd : ((List.range m).map (xa es x)).Nodup := by
      have h1 : ((List.range m).map (wa es x)).Nodup := W.nd
      rw [List.nodup_iff_pairwise_ne, List.pairwise_map] at h1 ⊢
      exact h1.imp fun {a b} hab z => hab (by unfold wa; rw [z])
    have sub : ∀ y ∈ (List.range m).map (xa es x), y ∈ enames es := fun y hy => by
      obtain ⟨j, hj, rfl⟩ := List.mem_map.mp hy
      exact nm j (List.mem_range.mp hj)
    have m1 : 1 ≤ m := by
      cases m with
      | zero =>
        have : (enames es).length = 0 := by omega
        have e0 := enames_nil this
        subst e0
        cases hy
      | succ m => omega
    have xm : xa es x m ∈ enames es := by
      have h3 := W.lb (m - 1) (by omega)
      obtain ⟨e, e1, e2⟩ := lb_edge h3
      have := xa_next h3
      rw [show m - 1 + 1 = m by omega, eg_of e1] at this
      rw [this]
      exact enames_mem.mpr ⟨e, List.mem_of_getElem? e1, .inr rfl⟩
    have back : xa es x m ∈ (List.range m).map (xa es x) := by
      refine Decidable.byContradiction fun z => ?_
      have h1 := List.Nodup.length_le_of_subset (List.nodup_cons.mpr ⟨z, nd⟩) (fun y hy => by
        rcases List.mem_cons.mp hy with h | h
        · rw [h]; exact xm
        · exact sub y h)
      rw [List.length_cons, List.length_map, List.length_range] at h1
      omega
    obtain ⟨j, hj, e⟩ := List.mem_map.mp back
    have hj' := List.mem_range.mp hj
    refine ⟨wa es x j, by rw [← e]; exact W.lb j hj', .inr (List.mem_of_getElem? (way_at hj'))⟩
theorem OnWay.start {es : List Edg} {x : Str} (h : (fin es).low = some x) : OnWay es x 0 := ⟨h, fun j hj => absurd hj (by omega), List.Pairwise.nil⟩
theorem OnWay.next {es : List Edg} {x : Str} {m i : Nat} (W : OnWay es x m) (h : (fin es).lb (xa es x m) = some i) (n : i ∉ way es x m) : OnWay es x (m + 1) ∧ wa es x m = i := by
  have hw : wa es x m = i := by unfold wa; rw [h] <;> rfl
  refine ⟨⟨W.low, fun j hj => ?_, ?_⟩, hw⟩
  · rcases Nat.lt_or_ge j m with z | z
    · exact W.lb j z
    · rw [show j = m by omega, hw]; exact h
  · unfold way
    rw [List.range_succ, List.map_append]
    refine nd_snoc W.nd ?_
    rw [hw]; exact n
theorem way_succ (es : List Edg) (x : Str) (m : Nat) : way es x (m + 1) = way es x m ++ [wa es x m] := by unfold way; rw [List.range_succ, List.map_append] <;> rfl
/-- the cycle: from the k-th place of the way, to which its m-th leads back -/
structure Cyc (es : List Edg) (x : Str) (m k : Nat) : Prop extends OnWay es x m where
  km : k < m
  back : (fin es).lb (xa es x m) = some (wa es x k)
theorem Cyc.one {es : List Edg} {x y : Str} {m k m' k' : Nat} (a : Cyc es x m k) (b : Cyc es y m' k') : x = y ∧ m = m' ∧ k = k' := by
  obtain rfl := Option.some.inj (a.low.symm.trans b.low)
  have key : ∀ {m k m' k' : Nat}, Cyc es x m k → Cyc es x m' k' → ¬ m < m' := fun {m k m' k'} a b h => by
    have h1 := way_at (es := es) (x := x) (m := m') (j := m) h
    have h2 := way_at (es := es) (x := x) (m := m') (j := k) (by have := a.km; omega)
    have : wa es x m = wa es x k := by
      have h3 := a.back
      rw [b.lb m h] at h3
      exact Option.some.inj h3
    rw [this] at h1
    have := nd_ix b.nd h1 h2
    have := a.km
    omega
  have hm : m = m' := by
    rcases Nat.lt_trichotomy m m' with h | h | h
    · exact absurd h (key a b)
    · exact h
    · exact absurd h (key b a)
  subst hm
  refine ⟨rfl, rfl, ?_⟩
  have h1 := way_at (es := es) (x := x) a.km
  have h2 := way_at (es := es) (x := x) b.km
  have : wa es x k = wa es x k' := Option.some.inj (a.back.symm.trans b.back)
  rw [this] at h1
  exact nd_ix a.nd h1 h2
def gaps (es : List Edg) (x : Str) (k : Nat) : Nat → Int
  | 0 => 0
  | n + 1 => gaps es x k n + (eg es (wa es x (k + n))).2.2
theorem Cyc.neg {es : List Edg} {x : Str} {m k : Nat} (a : Cyc es x m k) : gaps es x k (m - k) < 0 := by
  obtain ⟨q, t, p, c, C, h2⟩ := fin_ok es
  have seg : ∀ n, k + n ≤ m → gaps es x k n ≤ (fin es).f (xa es x k) - (fin es).f (xa es x (k + n)) ∧ (gaps es x k n < (fin es).f (xa es x k) - (fin es).f (xa es x (k + n)) ∨ t (xa es x (k + n)) + n ≤ t (xa es x k)) := by
    intro n
    induction n with
    | zero => intro _; exact ⟨by show (0 : Int) ≤ _; rw [Nat.add_zero]; omega, .inr (Nat.le_refl _)⟩
    | succ n ih =>
      intro hn
      obtain ⟨i1, i2⟩ := ih (by omega)
      have h3 := a.lb (k + n) (by omega)
      obtain ⟨e, e1, e2, e3, e4, _⟩ := C.par _ _ h3
      have hx := xa_next h3
      rw [eg_of e1] at hx
      show gaps es x k n + (eg es (wa es x (k + n))).2.2 ≤ _ ∧ (gaps es x k n + (eg es (wa es x (k + n))).2.2 < _ ∨ _)
      rw [show k + (n + 1) = k + n + 1 by omega, hx, eg_of e1]
      refine ⟨by omega, ?_⟩
      rcases i2 with z | z
      · exact .inl (by omega)
      · rcases Nat.lt_or_ge (t e.2.1) (t (xa es x (k + n))) with w | w
        · exact .inr (by omega)
        · exact .inl (by have := e4 w; omega)
  have km := a.km
  obtain ⟨s1, s2⟩ := seg (m - k) (by omega)
  rw [show k + (m - k) = m by omega] at s1 s2
  have same : xa es x m = xa es x k := by
    obtain ⟨e, e1, e2⟩ := lb_edge a.back
    obtain ⟨g, g1, g2⟩ := lb_edge (a.lb k km)
    rw [← e2, ← g2, Option.some.inj (e1.symm.trans g1)]
  rw [same] at s1 s2
  rcases s2 with z | z
  · omega
  · omega
theorem Cyc.link {es : List Edg} {x : Str} {m k : Nat} (a : Cyc es x m k) {j : Nat} (h1 : k < j) (h2 : j < m) : (eg es (wa es x (j - 1))).2.1 = (eg es (wa es x j)).1 := by
  have h3 := a.lb (j - 1) (by omega)
  have hx := xa_next h3
  rw [show j - 1 + 1 = j by omega] at hx
  obtain ⟨e, e1, e2⟩ := lb_edge (a.lb j h2)
  rw [← hx, eg_of e1, e2]
theorem Cyc.close {es : List Edg} {x : Str} {m k : Nat} (a : Cyc es x m k) : (eg es (wa es x (m - 1))).2.1 = (eg es (wa es x k)).1 := by
  have km := a.km
  have h3 := a.lb (m - 1) (by omega)
  have hx := xa_next h3
  rw [show m - 1 + 1 = m by omega] at hx
  obtain ⟨e, e1, e2⟩ := lb_edge a.back
  rw [← hx, eg_of e1, e2]
theorem Cyc.inE {es : List Edg} {x : Str} {m k : Nat} (a : Cyc es x m k) {j : Nat} (h : j < m) : wa es x j < es.length := by
  obtain ⟨e, e1, _⟩ := lb_edge (a.lb j h)
  exact (List.getElem?_eq_some_iff.mp e1).1
end K15

set_option Elab.async false
set_option linter.all false
set_option maxRecDepth 100000
set_option maxHeartbeats 4000000
namespace K15
open PySem PySem.Spec PyProof.Rows L2 Cs CsX
/-- a list of edges -/
structure EdL (H : Hp) (l : Addr) (ts : List (Addr × Edg)) : Prop where
  lst : H l = some (.lst (ts.map fun t => V.ref t.1))
  tup : ∀ t ∈ ts, H t.1 = some (.tup [.str t.2.1, .str t.2.2.1, .int t.2.2.2])
theorem EdL.same {H H' : Hp} {l : Addr} {ts : List (Addr × Edg)} (B : EdL H l ts) (s : Same H H') : EdL H' l ts := ⟨s _ _ B.lst, fun b h => s _ _ (B.tup b h)⟩
abbrev eds (ts : List (Addr × Edg)) : List Edg := ts.map (·.2)
theorem eds_at {ts : List (Addr × Edg)} {i : Nat} {t : Addr × Edg} (h : ts[i]? = some t) : (eds ts)[i]? = some t.2 := by unfold eds; rw [List.getElem?_map, h] <;> rfl
theorem str_small {n m : Nat} (h : n ≤ m) (k : m ≤ 1000) : n < sizeLine := small1000 (Nat.le_trans h k)
theorem addN_le (ns : List Str) (x : Str) : ns.length ≤ (addN ns x).length := by
  unfold addN
  split
  · omega
  · rw [List.length_append]; omega
theorem enames_take {es : List Edg} (i : Nat) : (enames (es.take i)).length ≤ 2 * es.length := by
  have h := enames_len (es.take i)
  rw [List.length_take] at h
  omega
section
variable {P : Program} {w : World} {K : PySem.W.Frag} {mg : Str → Option Value} {base : Heap}
abbrev sEdn : Stmt := topS 1
abbrev nEdn : List Str := ["edges", "names", "first", "second", "_", "name"]
theorem scEdn : FnScope nEdn ["edges"] (defScope sEdn) := ⟨rfl, rfl, rfl, by decide +kernel, rfl, by decide +kernel, by decide +kernel⟩
def spEdn : Sp := fun vs H Q _ => ∃ (l : Addr) (ts : List (Addr × Edg)), vs = [.ref l] ∧ EdL H l ts ∧ ts.length ≤ 400 ∧
  ∀ (H' : Hp) (r : Addr), Same H H' → H r = none → H' r = some (.lst ((enames (eds ts)).map V.str)) → Q (.ref r) H'
theorem ok_Edn {f  : Addr} {fd  : FuncData} (F : Fun K "edge_names" "edge_names" sEdn f fd) (B : Bt mg) :
    FnOk P w K mg base CX0 1 f fd ["edges"] spEdn := by
  refine F.ok scEdn (fun vs H Q E h => ?_) (fun cdv A outer s H vs Q E hr h => ?_)
  · obtain ⟨l, ts, rfl, _⟩ := h
    rfl
  · obtain ⟨l, ts, rfl, el, few, q⟩ := h
    have nd := scEdn.nd
    refine ⟨_, pss_cons (ps_set (i := 1) nd rfl (.inl rfl) (pe_lst pa_nil))
      (pss_cons (ps_for PassesOwn.never rfl (pi_list (pv 0)) (pg_tup (by rfl) (pgs_cons (pg_name (i := 2) nd rfl (.inl rfl)) (pgs_cons (pg_name (i := 3) nd rfl (.inl rfl)) (pgs_cons (pg_name (i := 4) nd rfl (.inl rfl)) pgs_nil))))
        (pss_one (ps_for PassesOwn.never rfl (pi_tup (pe_tup (pa_cons (pv 2) (pa_cons (pv 3) pa_nil)))) (pg_name (i := 5) nd rfl (.inl rfl))
            (pss_one (ps_if (pt_cmpR (r := rIn K true) op_notIn_seq (pv 5) (pv 1) rfl)
                (pss_one (ps_expr (pe_bm PySem.F.plainAttrs_list PySem.F.slot_list_append PySem.F.type_list_append mt_append (pv 1) (pa_cons (pv 5) pa_nil))))
                pss_nil)))))
      (pss_one (ps_ret (pv 1)))), ?_⟩
    refine ⟨by show 0 ≤ sizeLine; decide, fun R nR => ?_⟩
    refine ⟨.ref l, rfl, l, rfl, ⟨_, sl_map (el.same (same_new nR)).lst⟩, for_list (xs := ts.map fun t => V.ref t.1) (fun i σ H' => ∃ (y2 y3 y4 y5 : Option V), σ = [some (.ref l), some (.ref R), y2, y3, y4, y5] ∧ Same H H' ∧ H' R = some (.lst ((enames ((eds ts).take i)).map V.str)))
      ⟨none, none, none, none, rfl, same_new nR, upd_same⟩ (fun i σ H' _ h => by obtain ⟨_, _, _, _, _, s, _⟩ := h; exact sl_map (el.same s).lst) ?_ ?_⟩
    · rintro i x σ H1 hx ⟨y2, y3, y4, y5, rfl, s1, eR⟩
      rw [List.getElem?_map] at hx
      obtain ⟨t, ht, rfl⟩ := Option.map_eq_some_iff.mp hx
      have hi := (List.getElem?_eq_some_iff.mp ht).1
      have et := (el.same s1).tup t (List.mem_of_getElem? ht)
      have sn := enames_snoc (eds_at ht)
      have le := enames_take (es := eds ts) i
      have la := addN_len (enames ((eds ts).take i)) t.2.1
      rw [show (eds ts).length = ts.length from List.length_map _] at le
      refine ⟨t.1, _, rfl, .inl (.inl et), rfl, _, _, rfl, _, _, rfl, _, _, rfl, rfl, ?_⟩
      refine ⟨_, rfl, _, rfl, by show 2 ≤ sizeLine; decide, fun T nT => ?_⟩
      have nTR : T ≠ R := fun z => by rw [z, eR] at nT; cases nT
      have sT := same_new (o := HO.tup [V.str t.2.1, V.str t.2.2.1]) nT
      obtain ⟨g, hg⟩ : ∃ g : Nat → List Str, g = fun j => if j = 0 then enames ((eds ts).take i) else if j = 1 then addN (enames ((eds ts).take i)) t.2.1 else addE (enames ((eds ts).take i)) t.2 := ⟨_, rfl⟩
      refine ⟨T, rfl, ⟨_, .inl (.inl upd_same)⟩, for_tup (xs := [V.str t.2.1, V.str t.2.2.1]) (fun j σ H' => ∃ (y5 : Option V), σ = [some (.ref l), some (.ref R), some (.str t.2.1), some (.str t.2.2.1), some (.int t.2.2.2), y5] ∧ Same H H' ∧ H' T = some (.tup [V.str t.2.1, V.str t.2.2.1]) ∧ H' R = some (.lst ((g j).map V.str)))
        ⟨_, rfl, s1.trans sT, upd_same, by rw [hg]; exact sT _ _ eR⟩ (fun j σ H' _ h => by obtain ⟨_, _, _, h, _⟩ := h; exact .inl (.inl h)) ?_ ?_⟩
      · rintro j x σ H2 hx ⟨y5, rfl, s2, eT, eR2⟩
        obtain ⟨z, hz, gz, gl⟩ : ∃ z, x = .str z ∧ g (j + 1) = addN (g j) z ∧ (g j).length ≤ 801 := by
          rw [hg]
          match j, hx with
          | 0, hx => exact ⟨t.2.1, (Option.some.inj hx).symm, rfl, by show (enames ((eds ts).take i)).length ≤ 801; omega⟩
          | 1, hx => exact ⟨t.2.2.1, (Option.some.inj hx).symm, rfl, by show (addN (enames ((eds ts).take i)) t.2.1).length ≤ 801; omega⟩
          | k + 2, hx => cases hx
        subst hz
        refine ⟨_, rfl, _, rfl, R, _, rfl, .inl (sl_map eR2), rfl, flats_str _, _, rfl, ?_⟩
        rw [if_pos rfl, in_strs]
        refine ite_both (fun c => ⟨_, rfl, .inl ⟨rfl, _, sl_map eR2⟩, _, rfl, R, _, _, rfl, rfl, eR2, by rw [List.length_map]; exact small1000 (by omega), _, rfl, same_at s2 nR, by rw [upd_ne nTR]; exact eT, ?_⟩) fun c => ⟨_, rfl, s2, eT, ?_⟩
        · rw [upd_same, gz]
          unfold addN
          rw [if_neg (by simpa using c), List.map_append] <;> rfl
        · rw [gz]
          unfold addN
          rw [if_pos (by simpa using c)]; exact eR2
      · rintro σ H2 ⟨y5, rfl, s2, eT, eR2⟩
        rw [hg] at eR2
        exact ⟨_, _, _, _, rfl, s2, by rw [sn]; exact eR2⟩
    · rintro σ H1 ⟨y2, y3, y4, y5, rfl, s1, eR⟩
      rw [List.length_map, show ts.length = (eds ts).length from (List.length_map _).symm, List.take_length] at eR
      exact ⟨_, rfl, q H1 R s1 nR eR⟩
end
end K15

set_option Elab.async false
set_option linter.all false
set_option maxRecDepth 100000
set_option maxHeartbeats 4000000
namespace K15
open PySem PySem.Spec PyProof.Rows L2 Cs CsX
structure VF (A : List (Str × Int)) (names : List Str) (f : Str → Int) : Prop where
  keys : A.map (·.1) = names
  val : ∀ x ∈ names, aget A x = some (f x)
theorem VF.put {A : List (Str × Int)} {names : List Str} {f : Str → Int} {x : Str} {v : Int} (h : VF A names f) (hx : x ∈ names) : VF (putA A x v) names (fun y => if y = x then v else f y) := by
  refine ⟨by rw [putA_keys (by rw [h.keys]; exact hx), h.keys], fun y hy => ?_⟩
  rw [aget_put]
  by_cases c : x = y
  · rw [if_pos c, if_pos c.symm]
  · rw [if_neg c, if_neg fun z => c z.symm]; exact h.val y hy
structure LBk (L : List (Str × Int)) (names : List Str) (lb : Str → Option Nat) : Prop where
  nd : (L.map (·.1)).Nodup
  val : ∀ x, aget L x = (lb x).map fun i => (i : Int)
  sub : ∀ x ∈ L.map (·.1), x ∈ names
theorem LBk.put {L : List (Str × Int)} {names : List Str} {lb : Str → Option Nat} {x : Str} {i : Nat} (h : LBk L names lb) (hx : x ∈ names) : LBk (putA L x (i : Int)) names (fun y => if y = x then some i else lb y) := by
  refine ⟨putA_nd h.nd, fun y => ?_, fun y hy => ?_⟩
  · rw [aget_put]
    by_cases c : x = y
    · rw [if_pos c, if_pos c.symm] <;> rfl
    · rw [if_neg c, if_neg fun z => c z.symm]; exact h.val y
  · rcases putA_mem.mp hy with z | z
    · rw [z]; exact hx
    · exact h.sub y z
theorem LBk.few {L : List (Str × Int)} {names : List Str} {lb : Str → Option Nat} (h : LBk L names lb) : L.length ≤ names.length := by
  have := len_le h.nd h.sub
  rwa [List.length_map] at this
theorem VF.few {A : List (Str × Int)} {names : List Str} {f : Str → Int} (h : VF A names f) : A.length = names.length := by rw [← h.keys, List.length_map]
def lowV : Option Str → V
  | none => .non
  | some x => .str x
theorem dgetI {H : Hp} {d : Addr} {A : List (Str × Int)} {x : Str} {v : Int} (h : H d = some (.dK (intK A))) (hv : aget A x = some v) : DGet H d (.str x) (some (.int v)) := by
  have := Ax.get (H := H) (d := d) (A := A) ⟨.inl h⟩ x
  rwa [hv] at this
def wayI (es : List Edg) (x : Str) (m : Nat) : List Int := (way es x m).map fun w : Nat => (w : Int)
theorem wayI_mem {es : List Edg} {x : Str} {m i : Nat} : (i : Int) ∈ wayI es x m ↔ i ∈ way es x m := by
  unfold wayI
  rw [List.mem_map]
  constructor
  · rintro ⟨j, hj, e⟩
    have : j = i := by omega
    rw [← this]; exact hj
  · exact fun h => ⟨i, h, rfl⟩
theorem wayI_len (es : List Edg) (x : Str) (m : Nat) : (wayI es x m).length = m := by unfold wayI; rw [List.length_map, way_len]
theorem index_at {es : List Edg} {x : Str} {m i : Nat} (W : OnWay es x m) (h : i ∈ way es x m) : ∃ k, k < m ∧ wa es x k = i ∧ ∀ j, j < k → (wayI es x m)[j]? ≠ some (i : Int) := by
  obtain ⟨k, hk⟩ := List.mem_iff_getElem?.mp h
  have k1 := (List.getElem?_eq_some_iff.mp hk).1
  rw [way_len] at k1
  refine ⟨k, k1, Option.some.inj ((way_at k1).symm.trans hk), fun j hj z => ?_⟩
  unfold wayI at z
  rw [List.getElem?_map] at z
  obtain ⟨w, hw, e⟩ := Option.map_eq_some_iff.mp z
  have : w = i := by omega
  subst this
  have := nd_ix W.nd hw hk
  omega
section
variable {P : Program} {w : World} {K : PySem.W.Frag} {mg : Str → Option Value} {base : Heap}
abbrev sCyb : Stmt := topS 4
abbrev nCyb : List Str := ["edges", "lowered_by", "name", "way"]
theorem scCyb : FnScope nCyb ["edges", "lowered_by", "name"] (defScope sCyb) := ⟨rfl, rfl, rfl, by decide +kernel, rfl, by decide +kernel, by decide +kernel⟩
def spCyb : Sp := fun vs H Q _ => ∃ (l b : Addr) (x : Str) (ts : List (Addr × Edg)) (L : List (Str × Int)), vs = [.ref l, .ref b, .str x] ∧ EdL H l ts ∧ ts.length ≤ 400 ∧ H b = some (.dK (intK L)) ∧ LBk L (enames (eds ts)) (fin (eds ts)).lb ∧ (fin (eds ts)).low = some x ∧
  ∀ (H' : Hp) (r : Addr) (m k : Nat), Same H H' → H r = none → Cyc (eds ts) x m k → m ≤ (enames (eds ts)).length → H' r = some (.lst (((wayI (eds ts) x m).drop k).map V.int)) → Q (.ref r) H'
theorem ok_Cyb {f  : Addr} {fd  : FuncData} (F : Fun K "_cycle_behind" "_cycle_behind" sCyb f fd) (B : Bt mg) :
    FnOk P w K mg base CX0 1 f fd ["edges", "lowered_by", "name"] spCyb := by
  refine F.ok scCyb (fun vs H Q E h => ?_) (fun cdv A outer s H vs Q E hr h => ?_)
  · obtain ⟨l, b, x, ts, L, rfl, _⟩ := h
    rfl
  · obtain ⟨l, b, x, ts, L, rfl, el, few, eb, lk, low, q⟩ := h
    have hu := hu_of hr
    have nd := scCyb.nd
    refine ⟨_, pss_cons (ps_set (i := 3) nd rfl (.inl rfl) (pe_lst pa_nil))
      (pss_cons (ps_while PassesOwn.never (pt_cmpR (r := rIn K true) op_notIn_seq (pe_dget hu (pv 1) (pv 2) (fun _ _ => rfl)) (pv 3) rfl)
        (pss_cons (ps_expr (pe_bm PySem.F.plainAttrs_list PySem.F.slot_list_append PySem.F.type_list_append mt_append (pv 3) (pa_cons (pe_dget hu (pv 1) (pv 2) (fun _ _ => rfl)) pa_nil)))
          (pss_one (ps_set (i := 2) nd rfl (.inl rfl) (pe_ix ix_tup (pe_ix ix_list (pv 0) (pe_dget hu (pv 1) (pv 2) (fun _ _ => rfl)) (fun _ _ => rfl)) pe_int (fun _ _ => rfl))))))
      (pss_one (ps_ret (pe_slice sl_list (pv 3) (po_some (pe_bm PySem.F.plainAttrs_list PySem.F.slot_list_index PySem.F.type_list_index mt_index (pv 3) (pa_cons (pe_dget hu (pv 1) (pv 2) (fun _ _ => rfl)) pa_nil))) po_none)))), ?_⟩
    have nl := enames_len (eds ts)
    rw [show (eds ts).length = ts.length from List.length_map _] at nl
    refine ⟨by show 0 ≤ sizeLine; decide, fun R nR => ?_⟩
    refine ⟨fun n σ H' => ∃ m : Nat, n = (enames (eds ts)).length - m ∧ m ≤ (enames (eds ts)).length ∧ OnWay (eds ts) x m ∧ σ = [some (.ref l), some (.ref b), some (.str (xa (eds ts) x m)), some (.ref R)] ∧ Same H H' ∧ H' R = some (.lst ((wayI (eds ts) x m).map V.int)),
      ⟨_, 0, rfl, Nat.zero_le _, .start low, rfl, same_new nR, upd_same⟩, ?_⟩
    rintro n σ H1 ⟨m, rfl, mle, W, rfl, s1, eR⟩
    obtain ⟨i, hi, mi⟩ := W.known
    have hv : aget L (xa (eds ts) x m) = some (i : Int) := by rw [lk.val, hi] <;> rfl
    have gv := dgetI (s1 _ _ eb) hv
    have wl := wayI_len (eds ts) x m
    refine ⟨_, rfl, _, rfl, b, .int (i : Int), rfl, gv, _, rfl, R, _, rfl, .inl (sl_map eR), rfl, flat_ints _, _, rfl, ?_⟩
    rw [if_pos rfl, in_ints]
    refine ite_both (fun c => ?_) fun c => ?_
    · have ni : i ∉ way (eds ts) x m := fun z => by rw [decide_eq_true (wayI_mem.mpr z)] at c; cases c
      obtain ⟨W2, ew⟩ := W.next hi ni
      have mlt := mi.resolve_right ni
      obtain ⟨e, he, ee⟩ := lb_edge hi
      obtain ⟨t, ht, te⟩ : ∃ t, ts[i]? = some t ∧ t.2 = e := by
        rw [List.getElem?_map] at he
        exact Option.map_eq_some_iff.mp he
      have et := (el.same s1).tup t (List.mem_of_getElem? ht)
      have el1 := (el.same s1).lst
      have nRl : l ≠ R := fun z => by rw [z] at el; rw [el.lst] at nR; cases nR
      have nRb : b ≠ R := fun z => by rw [← z, eb] at nR; cases nR
      have ntR : t.1 ≠ R := fun z => by rw [z, eR] at et; cases et
      refine ⟨fun σ' H' => ∃ m' : Nat, m' = m + 1 ∧ OnWay (eds ts) x m' ∧ σ' = [some (.ref l), some (.ref b), some (.str (xa (eds ts) x m')), some (.ref R)] ∧ Same H H' ∧ H' R = some (.lst ((wayI (eds ts) x m').map V.int)), ?_, ?_⟩
      · rintro σ' H' ⟨m', rfl, w', e1, e2, e3⟩
        exact ⟨_, by omega, m + 1, rfl, by omega, w', e1, e2, e3⟩
      · refine ⟨_, rfl, .inl ⟨rfl, _, sl_map eR⟩, _, rfl, _, rfl, b, .int (i : Int), rfl, gv, R, _, _, rfl, rfl, eR, by rw [List.length_map, wl]; exact small1000 (by omega), ?_⟩
        have gv2 : DGet (upd H1 R (.lst ((wayI (eds ts) x m).map V.int ++ [V.int (i : Int)]))) b (.str (xa (eds ts) x m)) (some (.int (i : Int))) := dgetI (by rw [upd_ne nRb]; exact s1 _ _ eb) hv
        refine ⟨_, rfl, _, rfl, _, rfl, b, .int (i : Int), rfl, gv2, l, _, _, .ref t.1, rfl, rfl, sl_map (by rw [upd_ne nRl]; exact el1), atI_nat (j := i) (by rw [List.getElem?_map, ht] <;> rfl), t.1, _, _, .str t.2.2.1, rfl, rfl, .inl (.inl (by rw [upd_ne ntR]; exact et)), atI_nat (j := 1) rfl, m + 1, rfl, W2, ?_, same_at s1 nR, ?_⟩
        · have h3 := W2.lb m (by omega)
          rw [xa_next h3, ew, eg_of he, ← te] <;> rfl
        · rw [upd_same]
          unfold wayI
          rw [way_succ, ew, List.map_append, List.map_append] <;> rfl
    · have ii : i ∈ way (eds ts) x m := by
        refine Decidable.byContradiction fun z => ?_
        rw [decide_eq_false fun w => z (wayI_mem.mp w)] at c
        cases c
      obtain ⟨k, k1, k2, k3⟩ := index_at W ii
      have cy : Cyc (eds ts) x m k := ⟨W, k1, by rw [hi, k2]⟩
      refine ⟨_, rfl, _, rfl, .inl ⟨rfl, _, sl_map eR⟩, _, rfl, _, rfl, b, .int (i : Int), rfl, gv, R, _, _, k, .int (i : Int), rfl, rfl, sl_map eR, rfl, flat_ints _, ?_, by show ((i : Int) == (i : Int)) = true; exact beq_self_eq_true _, fun j z hj hz => ?_, _, rfl, R, _, rfl, sl_map eR, fun r nr => ?_⟩
      · unfold wayI
        rw [List.getElem?_map, List.getElem?_map, way_at k1, k2] <;> rfl
      · rw [List.getElem?_map] at hz
        obtain ⟨w, hw, rfl⟩ := Option.map_eq_some_iff.mp hz
        show (w == (i : Int)) = false
        exact beq_eq_false_iff_ne.mpr fun z => k3 j hj (by rw [hw, z])
      · rw [cutV_from, ← List.map_drop]
        exact q _ r m k (s1.trans (same_new nr)) (s1.free nr) cy mle upd_same
end
end K15

set_option Elab.async false
set_option linter.all false
set_option maxRecDepth 100000
set_option maxHeartbeats 4000000
namespace K15
open PySem PySem.Spec PyProof.Rows L2 Cs CsX
section
variable {P : Program} {w : World} {K : PySem.W.Frag} {mg : Str → Option Value} {base : Heap}
abbrev sLoo : Stmt := topS 3
abbrev nLoo : List Str := ["edges", "names", "values", "lowered_by", "lowered", "_", "position", "first", "second", "gap", "name"]
theorem scLoo : FnScope nLoo ["edges"] (defScope sLoo) := ⟨rfl, rfl, rfl, by decide +kernel, rfl, by decide +kernel, by decide +kernel⟩
def spLoo : Sp := fun vs H Q _ => ∃ (l : Addr) (ts : List (Addr × Edg)), vs = [.ref l] ∧ EdL H l ts ∧ ts.length ≤ 400 ∧
  (∀ (H' : Hp) (T d : Addr) (A : List (Str × Int)), Same H H' → H T = none → H' T = some (.tup [.str "values", .ref d]) → H d = none → H' d = some (.dK (intK A)) → (fin (eds ts)).low = none → VF A (enames (eds ts)) (fin (eds ts)).f → Q (.ref T) H') ∧
  (∀ (H' : Hp) (T r : Addr) (x : Str) (m k : Nat), Same H H' → H T = none → H' T = some (.tup [.str "cycle", .ref r]) → H r = none → H' r = some (.lst (((wayI (eds ts) x m).drop k).map V.int)) → Cyc (eds ts) x m k → m ≤ (enames (eds ts)).length → Q (.ref T) H')
theorem putA_int (A : List (Str × Int)) (x : Str) (v : Int) : putK (intK A) (.inr x) (V.int v) = intK (putA A x v) := putK_int A x v
theorem ok_Loo {f f0 f1 : Addr} {fd fd0 fd1 : FuncData} (F : Fun K "loosest" "loosest" sLoo f fd) (B : Bt mg) (zenum : mg "enumerate" = none) (CEdn : Call P w K mg base 1 "edge_names" f0 fd0 ["edges"] spEdn) (CCyb : Call P w K mg base 1 "_cycle_behind" f1 fd1 ["edges", "lowered_by", "name"] spCyb) :
    FnOk P w K mg base CX0 2 f fd ["edges"] spLoo := by
  refine F.ok scLoo (fun vs H Q E h => ?_) (fun cdv A outer s H vs Q E hr h => ?_)
  · obtain ⟨l, ts, rfl, _⟩ := h
    rfl
  · obtain ⟨l, ts, rfl, el, few, q1, q2⟩ := h
    have hu := hu_of hr
    have nd := scLoo.nd
    refine ⟨_, pss_cons (ps_set (i := 1) nd rfl (.inl rfl) (pe_call CEdn.ok (hr.mono (by decide)) (by rfl) CEdn.at_ CEdn.kp CEdn.bd .nil pass0 (pa_cons (pv 0) pa_nil)))
      (pss_cons (ps_setDc (i := 2) (own := [("name", 10)]) (g := gName 10) (tt := tYes) (tk := tVar 10) rfl nd rfl rfl (by rfl) (pi_list (pv 1)) (blkOk_by (N := nLoo) (sc := defScope sLoo) (by decide +kernel)) (fun _ _ _ _ _ => pg_name (i := 10) nd rfl (.inl rfl)) (fun _ _ _ _ _ => pts_nil)
          (fun _ _ _ _ _ => (pv 10)) (fun _ _ _ _ _ => pe_int))
      (pss_cons (ps_set (i := 3) nd rfl (.inl rfl) pe_dnewK)
      (pss_cons (ps_set (i := 4) nd rfl (.inl rfl) pe_non)
      (pss_cons (ps_for PassesOwn.never rfl (pi_list (pv 1)) (pg_name (i := 5) nd rfl (.inl rfl))
        (pss_cons (ps_set (i := 4) nd rfl (.inl rfl) pe_non)
          (pss_cons (ps_for PassesOwn.never rfl (pi_enum (by rfl) zenum (pa_cons (pv 0) pa_nil)) (pg_tup (by rfl) (pgs_cons (pg_name (i := 6) nd rfl (.inl rfl)) (pgs_cons (pg_tup (by rfl) (pgs_cons (pg_name (i := 7) nd rfl (.inl rfl)) (pgs_cons (pg_name (i := 8) nd rfl (.inl rfl)) (pgs_cons (pg_name (i := 9) nd rfl (.inl rfl)) pgs_nil)))) pgs_nil)))
            (pss_one (ps_if (pt_cmpR op_gt (pe_dget hu (pv 2) (pv 7) (fun _ _ => rfl)) (pe_op op_add (pe_dget hu (pv 2) (pv 8) (fun _ _ => rfl)) (pv 9)) rfl)
                (pss_cons (ps_dput hu (pv 2) (pv 7) (pe_op op_add (pe_dget hu (pv 2) (pv 8) (fun _ _ => rfl)) (pv 9)) rfl)
                  (pss_cons (ps_dput hu (pv 3) (pv 7) (pv 6) rfl)
                  (pss_one (ps_set (i := 4) nd rfl (.inl rfl) (pv 7)))))
                pss_nil)))
          (pss_one (ps_if (pt_cmp (pc_isN (pv 4)))
            (pss_one (ps_break))
            pss_nil)))))
      (pss_cons (ps_if (pt_cmp (pc_isN (pv 4)))
        (pss_one (ps_ret (pe_tup (pa_cons pe_str (pa_cons (pv 2) pa_nil)))))
        pss_nil)
      (pss_one (ps_ret (pe_tup (pa_cons pe_str (pa_cons (pe_call CCyb.ok (hr.mono (by decide)) (by rfl) CCyb.at_ CCyb.kp CCyb.bd .nil pass0 (pa_cons (pv 0) (pa_cons (pv 3) (pa_cons (pv 4) pa_nil)))) pa_nil)))))))))), ?_⟩
    have nl := enames_len (eds ts)
    rw [show (eds ts).length = ts.length from List.length_map _] at nl
    refine ⟨.ref l, rfl, l, ts, rfl, el, few, fun H1 R s1 nR eR => ?_⟩
    have nn := enames_nd (eds ts)
    have em : ∀ {i : Nat} {t : Addr × Edg}, ts[i]? = some t → t.2.1 ∈ enames (eds ts) ∧ t.2.2.1 ∈ enames (eds ts) := fun {i t} ht => by
      have := List.mem_of_getElem? (eds_at ht)
      exact ⟨enames_mem.mpr ⟨_, this, .inl rfl⟩, enames_mem.mpr ⟨_, this, .inr rfl⟩⟩
    obtain ⟨ns, hns⟩ : ∃ ns, ns = enames (eds ts) := ⟨_, rfl⟩
    rw [← hns] at eR nl nn em q1 q2
    have s00 : VF (ns.map fun x => (x, (0 : Int))) ns s0.f := by
      refine ⟨by rw [List.map_map] <;> exact List.map_id _, fun x hx => ?_⟩
      refine (aget_iff (by rw [List.map_map]; exact (List.map_id ns).symm ▸ nn) x 0).mpr (List.mem_map.mpr ⟨x, hx, rfl⟩)
    refine ⟨.ref R, rfl, R, rfl, ⟨_, sl_map eR⟩, fun d nd1 => dc_it (walk_list (xs := ns.map V.str)) (fun i H' => Same H1 H' ∧ H' d = some (.dK (intK ((ns.take i).map fun x => (x, (0 : Int)))))) ⟨same_new nd1, upd_same⟩ (fun i H' _ h => sl_map (h.1 _ _ eR)) ?_ ?_⟩
    · rintro i x H2 H3 hi ⟨s2, ed⟩ ⟨rfl, hx0⟩
      rw [List.getElem?_map] at hx0
      obtain ⟨x, hx, rfl⟩ := Option.map_eq_some_iff.mp hx0
      have hi' := (List.getElem?_eq_some_iff.mp hx).1
      have xn : x ∉ ((ns.take i).map fun x => (x, (0 : Int))).map (·.1) := by
        rw [List.map_map]
        intro z
        obtain ⟨y, hy, e⟩ := List.mem_map.mp z
        exact not_take nn hx (by rw [← show y = x from e]; exact hy)
      refine ⟨rfl, .str x, rfl, _, .inr x, rfl, ed, by rw [intK_len, List.length_map, List.length_take]; exact small1000 (by omega), same_at s2 nd1, ?_⟩
      rw [upd_same]
      show some (HO.dK (putK _ (.inr x) (V.int 0))) = _
      rw [putK_int, putA_new xn, take_snoc hx, List.map_append] <;> rfl
    · rintro H2 ⟨s2, ed⟩
      rw [List.length_map, List.take_length] at ed
      intro b nb
      have s3 := s2.trans (same_new (o := HO.dK []) nb)
      have S3 := s1.trans s3
      have eR3 := s3 _ _ eR
      have ed3 := same_new (o := HO.dK []) nb _ _ ed
      have eb3 : (upd H2 b (.dK [])) b = some (.dK (intK [])) := upd_same
      have ndb : d ≠ b := fun z => by rw [← z, ed] at nb; cases nb
      have nd0 := s1.free nd1
      have nb0 := (s1.trans s2).free nb
      generalize upd H2 b (.dK []) = H3 at S3 eR3 ed3 eb3
      have l0 : LBk [] ns s0.lb := ⟨List.Pairwise.nil, (fun x => rfl), (fun x h => nomatch h)⟩
      refine' with_restS (fun σ H' => ∃ (y5 y6 y7 y8 y9 : Option V) (A L : List (Str × Int)), σ = [some (.ref l), some (.ref R), some (.ref d), some (.ref b), some (lowV (fin (eds ts)).low), y5, y6, y7, y8, y9, none] ∧ Same H H' ∧ H' d = some (.dK (intK A)) ∧ VF A ns (fin (eds ts)).f ∧ H' b = some (.dK (intK L)) ∧ LBk L ns (fin (eds ts)).lb) ?r
        (fun rest => ⟨.ref R, rfl, R, rfl, ⟨_, sl_map eR3⟩, for_list (xs := ns.map V.str) (fun i σ H' => ∃ (y5 y6 y7 y8 y9 : Option V) (A L : List (Str × Int)) (s : Sta), σ = [some (.ref l), some (.ref R), some (.ref d), some (.ref b), some (lowV s.low), y5, y6, y7, y8, y9, none] ∧ Same H H' ∧ H' R = some (.lst (ns.map V.str)) ∧ H' d = some (.dK (intK A)) ∧ VF A ns s.f ∧ H' b = some (.dK (intK L)) ∧ LBk L ns s.lb ∧ fin (eds ts) = lp (eds ts) (ns.length - i) s)
          ⟨none, none, none, none, none, _, [], s0, rfl, S3, eR3, ed3, s00, eb3, l0, by rw [hns] <;> rfl⟩ (fun i σ H' _ h => by obtain ⟨_, _, _, _, _, _, _, _, _, _, h, _⟩ := h; exact sl_map h) ?turn (fun σ H' h => ?done)⟩)
      case done =>
        obtain ⟨y5, y6, y7, y8, y9, A', L, s, rfl, s4, eR4, ed4, vf, eb4, lk, fe⟩ := h
        rw [List.length_map, Nat.sub_self] at fe
        have fe' : fin (eds ts) = s := fe
        exact rest _ _ ⟨y5, y6, y7, y8, y9, A', L, by rw [fe'], s4, ed4, by rw [fe']; exact vf, eb4, by rw [fe']; exact lk⟩
      case turn =>
        rintro i x σ H4 hx0 ⟨y5, y6, y7, y8, y9, A', L, s, rfl, s4, eR4, ed4, vf, eb4, lk, fe⟩
        rw [List.getElem?_map] at hx0
        obtain ⟨x, hx, rfl⟩ := Option.map_eq_some_iff.mp hx0
        have hi := (List.getElem?_eq_some_iff.mp hx).1
        refine ⟨.ref l, rfl, l, _, rfl, sl_map (el.same s4).lst, for_it walk_enum (fun j σ H' => ∃ (y6 y7 y8 y9 : Option V) (A L : List (Str × Int)), σ = [some (.ref l), some (.ref R), some (.ref d), some (.ref b), some (lowV (pasN (eds ts) s j).low), some (.str x), y6, y7, y8, y9, none] ∧ Same H H' ∧ H' R = some (.lst (ns.map V.str)) ∧ H' d = some (.dK (intK A)) ∧ VF A ns (pasN (eds ts) s j).f ∧ H' b = some (.dK (intK L)) ∧ LBk L ns (pasN (eds ts) s j).lb)
          ⟨y6, y7, y8, y9, A', L, rfl, s4, eR4, ed4, vf, eb4, lk⟩ (fun j σ H' _ h => by obtain ⟨_, _, _, _, _, _, _, h, _⟩ := h; exact sl_map (el.same h).lst) ?_ ?_⟩
        · rintro j z σ H5 H6 hj ⟨y6, y7, y8, y9, A', L, rfl, s5, eR5, ed5, vf, eb5, lk⟩ ⟨T, x1, x2, rfl, nT, rfl, g1, g2⟩
          replace g2 : (ts.map fun t => V.ref t.1)[j]? = some x2 := g2
          rw [List.getElem?_map] at g2
          obtain ⟨t, ht, rfl⟩ := Option.map_eq_some_iff.mp g2
          obtain rfl := Option.some.inj g1
          have sT := same_new (o := HO.tup [V.int (j : Nat), V.ref t.1]) nT
          have s6 := s5.trans sT
          have et := (el.same s6).tup t (List.mem_of_getElem? ht)
          have eR6 := sT _ _ eR5
          have ed6 := sT _ _ ed5
          have eb6 := sT _ _ eb5
          obtain ⟨u1, u2⟩ := em ht
          refine ⟨T, _, rfl, .inl (.inl upd_same), rfl, _, _, rfl, _, _, rfl, ⟨t.1, _, rfl, .inl (.inl et), rfl, _, _, rfl, _, _, rfl, _, _, rfl, rfl, rfl, ?_⟩⟩
          generalize upd H5 T (HO.tup [V.int (j : Nat), V.ref t.1]) = H7 at s6 eR6 ed6 eb6
          have gu := dgetI ed6 (vf.val _ u1)
          have gv := dgetI ed6 (vf.val _ u2)
          have ps : pasN (eds ts) s (j + 1) = rlx (pasN (eds ts) s j) j t.2 := by
            show rlx (pasN (eds ts) s j) j (eg (eds ts) j) = _
            rw [eg_of (eds_at ht)]
          have nRd : R ≠ d := fun z => by rw [z, ed6] at eR6; cases eR6
          have nRb : R ≠ b := fun z => by rw [z, eb6] at eR6; cases eR6
          refine ⟨_, rfl, _, rfl, d, .int ((pasN (eds ts) s j).f t.2.1), rfl, gu, _, rfl, _, rfl, d, .int ((pasN (eds ts) s j).f t.2.2.1), rfl, gv, _, rfl, _, _, rfl, rfl, _, _, rfl, rfl, _, rfl, ite_both (fun c => ?_) fun c => ?_⟩
          · have c' := of_decide_eq_true c
            have lA := vf.few
            have lL := lk.few
            refine ⟨_, rfl, _, rfl, d, .int ((pasN (eds ts) s j).f t.2.2.1), rfl, gv, _, rfl, _, _, rfl, rfl, _, rfl, _, rfl, d, _, rfl, DPut.k (k := .inr t.2.1) ed6 (by rw [intK_len]; exact small1000 (by omega)), ?_⟩
            rw [putA_int]
            refine ⟨_, rfl, _, rfl, _, rfl, b, _, rfl, DPut.k (k := .inr t.2.1) (by rw [upd_ne ndb.symm]; exact eb6) (by rw [intK_len]; exact small1000 (by omega)), ?_⟩
            rw [putA_int]
            rw [ps]
            unfold rlx
            rw [if_pos c']
            exact ⟨_, rfl, _, _, _, _, _, _, rfl, same_at (same_at s6 nd0) nb0, by rw [upd_ne nRb, upd_ne nRd]; exact eR6, by rw [upd_ne ndb, upd_same], vf.put u1, upd_same, lk.put u1⟩
          · have c' := of_decide_eq_false c
            rw [ps]
            unfold rlx
            rw [if_neg c']
            exact ⟨_, _, _, _, A', L, rfl, s6, eR6, ed6, vf, eb6, lk⟩
        · rintro σ H5 ⟨y6, y7, y8, y9, A', L, rfl, s5, eR5, ed5, vf, eb5, lk⟩
          have lt : (ts.map fun t => V.ref t.1).length = (eds ts).length := by rw [List.length_map, List.length_map]
          rw [lt] at vf lk ⊢
          have vf' : VF A' ns (pas (eds ts) s).f := vf
          have lk' : LBk L ns (pas (eds ts) s).lb := lk
          have fe2 : fin (eds ts) = if (pas (eds ts) s).low = none then pas (eds ts) s else lp (eds ts) (ns.length - (i + 1)) (pas (eds ts) s) := by
            rw [fe, show ns.length - i = (ns.length - (i + 1)) + 1 by omega] <;> rfl
          have el2 : (pasN (eds ts) s (eds ts).length).low = (pas (eds ts) s).low := rfl
          rw [el2]
          cases hl : (pas (eds ts) s).low with
          | none =>
            rw [if_pos hl] at fe2
            exact ⟨_, rfl, _, rfl, iteT (rest _ _ ⟨_, _, _, _, _, A', L, by rw [fe2, hl], s5, ed5, by rw [fe2]; exact vf', eb5, by rw [fe2]; exact lk'⟩)⟩
          | some w =>
            rw [if_neg (by rw [hl]; exact fun z => nomatch z)] at fe2
            exact ⟨_, rfl, _, rfl, iteF ⟨_, _, _, _, _, A', L, pas (eds ts) s, by rw [hl], s5, eR5, ed5, vf', eb5, lk', fe2⟩⟩
      rintro σ H4 ⟨y5, y6, y7, y8, y9, A', L, rfl, s4, ed4, vf, eb4, lk⟩
      cases hl : (fin (eds ts)).low with
      | none =>
        refine ⟨_, rfl, _, rfl, iteT ⟨_, rfl, by show 2 ≤ sizeLine; decide, fun T nT => ?_⟩⟩
        have sT := same_new (o := HO.tup [V.str "values", V.ref d]) nT
        exact q1 _ T d A' (s4.trans sT) (s4.free nT) upd_same nd0 (sT _ _ ed4) hl vf
      | some w =>
        refine ⟨_, rfl, _, rfl, iteF ⟨_, rfl, _, rfl, _, rfl, l, b, w, ts, L, rfl, el.same s4, few, eb4, by rw [← hns]; exact lk, hl, fun H5 r m k s5 nr cy mle er => ⟨by show 2 ≤ sizeLine; decide, fun T nT => ?_⟩⟩⟩
        have sT := same_new (o := HO.tup [V.str "cycle", V.ref r]) nT
        have S5 := s4.trans s5
        rw [← hns] at mle
        exact q2 _ T r w m k (S5.trans sT) (S5.free nT) upd_same (s4.free nr) (sT _ _ er) cy mle
end
end K15

set_option Elab.async false
set_option linter.all false
set_option maxRecDepth 100000
set_option maxHeartbeats 4000000
namespace K15
open PySem PySem.Spec PyProof.Rows L2 Cs CsX
/-! ### what is reached -/
section
variable (f : Str → Int)
def canR (R : List Str) (e : Edg) : Bool := decide (e.1 ∉ R) && (decide (e.2.1 ∈ R) && decide (f e.1 = f e.2.1 + e.2.2))
def rE (R : List Str) (e : Edg) : List Str := if canR f R e = true then R ++ [e.1] else R
def rT (es : List Edg) (R : List Str) : List Str := es.foldl (rE f) R
def rN (es : List Edg) (R : List Str) : Nat → List Str
  | 0 => R
  | n + 1 => rT f es (rN es R n)
end
theorem rE_sub (f : Str → Int) (R : List Str) (e : Edg) : ∀ x ∈ R, x ∈ rE f R e := fun x hx => by
  unfold rE
  split
  · exact List.mem_append_left _ hx
  · exact hx
theorem rE_nd {f : Str → Int} {R : List Str} {e : Edg} (h : R.Nodup) : (rE f R e).Nodup := by
  unfold rE
  split
  · next c =>
    unfold canR at c
    rw [Bool.and_eq_true, decide_eq_true_iff] at c
    exact nd_snoc h c.1
  · exact h
theorem rT_sub (f : Str → Int) : ∀ (es : List Edg) (R : List Str), ∀ x ∈ R, x ∈ rT f es R
  | [], _, _, h => h
  | e :: es, R, x, h => rT_sub f es _ x (rE_sub f R e x h)
theorem rT_nd {f : Str → Int} : ∀ (es : List Edg) {R : List Str}, R.Nodup → (rT f es R).Nodup
  | [], _, h => h
  | e :: es, R, h => rT_nd es (rE_nd h)
theorem rT_in {f : Str → Int} {names : List Str} : ∀ (es : List Edg) {R : List Str}, (∀ e ∈ es, e.1 ∈ names) → (∀ x ∈ R, x ∈ names) → ∀ x ∈ rT f es R, x ∈ names
  | [], _, _, h => h
  | e :: es, R, he, h => rT_in es (fun g hg => he g (List.mem_cons_of_mem _ hg)) (fun x hx => by
      unfold rE at hx
      split at hx
      · rcases List.mem_append.mp hx with z | z
        · exact h x z
        · rw [List.mem_singleton.mp z]; exact he e List.mem_cons_self
      · exact h x hx)
theorem rE_len (f : Str → Int) (R : List Str) (e : Edg) : R.length ≤ (rE f R e).length := by
  unfold rE
  split
  · rw [List.length_append]; omega
  · exact Nat.le_refl _
theorem rT_len (f : Str → Int) : ∀ (es : List Edg) (R : List Str), R.length ≤ (rT f es R).length
  | [], _ => Nat.le_refl _
  | e :: es, R => Nat.le_trans (rE_len f R e) (rT_len f es _)
theorem rT_still {f : Str → Int} : ∀ (es : List Edg) {R : List Str}, (rT f es R).length = R.length → ∀ e ∈ es, canR f R e = false
  | [], _, _, _, h => nomatch h
  | e :: es, R, h, g, hg => by
    have h1 := rT_len f es (rE f R e)
    have h2 := rE_len f R e
    have h3 : (rT f es (rE f R e)).length = R.length := h
    cases c : canR f R e with
    | true =>
      unfold rE at h1 h3
      rw [if_pos c] at h1 h3
      rw [List.length_append] at h1
      have : ([e.1] : List Str).length = 1 := rfl
      omega
    | false =>
      have r : rE f R e = R := by unfold rE; rw [c, if_neg (by decide)]
      rw [r] at h3
      rcases List.mem_cons.mp hg with z | z
      · rw [z]; exact c
      · exact rT_still es h3 g z
theorem rT_same {f : Str → Int} : ∀ (es : List Edg) {R : List Str}, (∀ e ∈ es, canR f R e = false) → rT f es R = R
  | [], _, _ => rfl
  | e :: es, R, h => by
    have r : rE f R e = R := by unfold rE; rw [h e List.mem_cons_self, if_neg (by decide)]
    show rT f es (rE f R e) = R
    rw [r]
    exact rT_same es fun g hg => h g (List.mem_cons_of_mem _ hg)
theorem reach_all {es : List Edg} {f : Str → Int} {R : List Str} (z : ∀ x ∈ enames es, f x = 0 → x ∈ R) (st : ∀ e ∈ es, canR f R e = false) {x : Str} (h : TR es f x) : x ∈ enames es → x ∈ R := by
  induction h with
  | zero h => exact fun hx => z _ hx h
  | step he h1 _ ih =>
    intro hx
    have h2 := ih (enames_mem.mpr ⟨_, he, .inr rfl⟩)
    refine Decidable.byContradiction fun n => ?_
    have := st _ he
    unfold canR at this
    simp [n, h2, h1] at this
theorem rN_end {es : List Edg} {f : Str → Int} {R0 : List Str} (nd0 : R0.Nodup) (in0 : ∀ x ∈ R0, x ∈ enames es) (z0 : ∀ x ∈ enames es, f x = 0 → x ∈ R0) (tr : ∀ x, TR es f x) : (rN f es R0 (enames es).length).length = (enames es).length := by
  have props : ∀ n, (rN f es R0 n).Nodup ∧ (∀ x ∈ rN f es R0 n, x ∈ enames es) ∧ (∀ x ∈ enames es, f x = 0 → x ∈ rN f es R0 n) ∧ ((∀ e ∈ es, canR f (rN f es R0 n) e = false) ∨ n ≤ (rN f es R0 n).length) := by
    intro n
    induction n with
    | zero => exact ⟨nd0, in0, z0, .inr (Nat.zero_le _)⟩
    | succ n ih =>
      obtain ⟨i1, i2, i3, i4⟩ := ih
      refine ⟨rT_nd es i1, rT_in es (fun e he => enames_mem.mpr ⟨e, he, .inl rfl⟩) i2, fun x hx h => rT_sub f es _ x (i3 x hx h), ?_⟩
      rcases i4 with i4 | i4
      · left
        show ∀ e ∈ es, canR f (rT f es (rN f es R0 n)) e = false
        rw [rT_same es i4]; exact i4
      · have h1 := rT_len f es (rN f es R0 n)
        by_cases c : (rT f es (rN f es R0 n)).length = (rN f es R0 n).length
        · left
          have h2 := rT_still es c
          show ∀ e ∈ es, canR f (rT f es (rN f es R0 n)) e = false
          rw [rT_same es h2]; exact h2
        · right
          show n + 1 ≤ (rT f es (rN f es R0 n)).length
          omega
  obtain ⟨h1, h2, h3, h4⟩ := props (enames es).length
  have le := List.Nodup.length_le_of_subset h1 fun x hx => h2 x hx
  rcases h4 with h4 | h4
  · have ge := List.Nodup.length_le_of_subset (enames_nd es) fun x hx => reach_all h3 h4 (tr x) hx
    omega
  · omega
theorem rT_snoc (f : Str → Int) (R : List Str) {es : List Edg} {i : Nat} {e : Edg} (h : es[i]? = some e) : rT f (es.take (i + 1)) R = rE f (rT f (es.take i) R) e := by
  unfold rT
  rw [take_snoc h, List.foldl_append] <;> rfl
section
variable {P : Program} {w : World} {K : PySem.W.Frag} {mg : Str → Option Value} {base : Heap}
abbrev sLen : Stmt := topS 10
abbrev nLen : List Str := ["_law_edges", "_law_names_here", "_law_edge", "_law_k"]
theorem scLen : FnScope nLen ["_law_edges"] (defScope sLen) := ⟨rfl, rfl, rfl, by decide +kernel, rfl, by decide +kernel, by decide +kernel⟩
theorem ok_Len {f  : Addr} {fd  : FuncData} (F : Fun K "_law_edge_names" "_law_edge_names" sLen f fd) (B : Bt mg) :
    FnOk P w K mg base CX0 1 f fd ["_law_edges"] spEdn := by
  refine F.ok scLen (fun vs H Q E h => ?_) (fun cdv A outer s H vs Q E hr h => ?_)
  · obtain ⟨l, ts, rfl, _⟩ := h
    rfl
  · obtain ⟨l, ts, rfl, el, few, q⟩ := h
    have nd := scLen.nd
    refine ⟨_, pss_cons (ps_set (i := 1) nd rfl (.inl rfl) (pe_lst pa_nil))
      (pss_cons (ps_for PassesOwn.never rfl (pi_list (pv 0)) (pg_name (i := 2) nd rfl (.inl rfl))
        (pss_one (ps_for PassesOwn.never rfl (pi_range1 (by rfl) B.range (pa_cons pe_int pa_nil)) (pg_name (i := 3) nd rfl (.inl rfl))
            (pss_one (ps_if (pt_cmpR (r := rIn K true) op_notIn_seq (pe_ix ix_tup (pv 2) (pv 3) (fun _ _ => rfl)) (pv 1) rfl)
                (pss_one (ps_expr (pe_bm PySem.F.plainAttrs_list PySem.F.slot_list_append PySem.F.type_list_append mt_append (pv 1) (pa_cons (pe_ix ix_tup (pv 2) (pv 3) (fun _ _ => rfl)) pa_nil))))
                pss_nil)))))
      (pss_one (ps_ret (pv 1)))), ?_⟩
    refine ⟨by show 0 ≤ sizeLine; decide, fun R nR => ?_⟩
    refine ⟨.ref l, rfl, l, rfl, ⟨_, sl_map (el.same (same_new nR)).lst⟩, for_list (xs := ts.map fun t => V.ref t.1) (fun i σ H' => ∃ (y2 y3 : Option V), σ = [some (.ref l), some (.ref R), y2, y3] ∧ Same H H' ∧ H' R = some (.lst ((enames ((eds ts).take i)).map V.str)))
      ⟨none, none, rfl, same_new nR, upd_same⟩ (fun i σ H' _ h => by obtain ⟨_, _, _, s, _⟩ := h; exact sl_map (el.same s).lst) ?_ ?_⟩
    · rintro i x σ H1 hx ⟨y2, y3, rfl, s1, eR⟩
      rw [List.getElem?_map] at hx
      obtain ⟨t, ht, rfl⟩ := Option.map_eq_some_iff.mp hx
      have hi := (List.getElem?_eq_some_iff.mp ht).1
      have sn := enames_snoc (eds_at ht)
      have le := enames_take (es := eds ts) i
      have la := addN_len (enames ((eds ts).take i)) t.2.1
      rw [show (eds ts).length = ts.length from List.length_map _] at le
      obtain ⟨g, hg⟩ : ∃ g : Nat → List Str, g = fun j => if j = 0 then enames ((eds ts).take i) else if j = 1 then addN (enames ((eds ts).take i)) t.2.1 else addE (enames ((eds ts).take i)) t.2 := ⟨_, rfl⟩
      refine ⟨2, rfl, by decide, by decide, for_range (lo := 0) (n := 2) (fun j σ H' => ∃ (y3 : Option V), σ = [some (.ref l), some (.ref R), some (.ref t.1), y3] ∧ Same H H' ∧ H' R = some (.lst ((g j).map V.str)))
        ⟨_, rfl, s1, by rw [hg]; exact eR⟩ ?_ ?_⟩
      · rintro j σ H2 hj ⟨y5, rfl, s2, eR2⟩
        have et := (el.same s2).tup t (List.mem_of_getElem? ht)
        obtain ⟨z, hz, gz, gl⟩ : ∃ z, [V.str t.2.1, .str t.2.2.1, .int t.2.2.2][j]? = some (V.str z) ∧ g (j + 1) = addN (g j) z ∧ (g j).length ≤ 801 := by
          rw [hg]
          match j, hj with
          | 0, hx => exact ⟨t.2.1, rfl, rfl, by show (enames ((eds ts).take i)).length ≤ 801; omega⟩
          | 1, hx => exact ⟨t.2.2.1, rfl, rfl, by show (addN (enames ((eds ts).take i)) t.2.1).length ≤ 801; omega⟩
          | k + 2, hx => omega
        refine ⟨_, rfl, _, rfl, t.1, _, _, .str z, rfl, rfl, .inl (.inl et), at_eq (by omega) hz, _, rfl, R, _, rfl, .inl (sl_map eR2), rfl, flats_str _, _, rfl, ?_⟩
        rw [if_pos rfl, in_strs]
        refine ite_both (fun c => ⟨_, rfl, .inl ⟨rfl, _, sl_map eR2⟩, _, rfl, _, rfl, t.1, _, _, .str z, rfl, rfl, .inl (.inl et), at_eq (by omega) hz, R, _, _, rfl, rfl, eR2, by rw [List.length_map]; exact small1000 (by omega), _, rfl, same_at s2 nR, ?_⟩) fun c => ⟨_, rfl, s2, ?_⟩
        · rw [upd_same, gz]
          unfold addN
          rw [if_neg (by simpa using c), List.map_append] <;> rfl
        · rw [gz]
          unfold addN
          rw [if_pos (by simpa using c)]; exact eR2
      · rintro σ H2 ⟨y5, rfl, s2, eR2⟩
        rw [hg] at eR2
        exact ⟨_, _, rfl, s2, by rw [sn]; exact eR2⟩
    · rintro σ H1 ⟨y2, y3, rfl, s1, eR⟩
      rw [List.length_map, show ts.length = (eds ts).length from (List.length_map _).symm, List.take_length] at eR
      exact ⟨_, rfl, q H1 R s1 nR eR⟩
abbrev sGrt : Stmt := topS 13
abbrev nGrt : List Str := ["_law_values", "_law_edges", "_law_names_here", "_law_name", "_law_edge", "_law_reached", "_law_turn"]
theorem scGrt : FnScope nGrt ["_law_values", "_law_edges"] (defScope sGrt) := ⟨rfl, rfl, rfl, by decide +kernel, rfl, by decide +kernel, by decide +kernel⟩
def spGrt : Sp := fun vs H Q _ => ∃ (d l : Addr) (A : List (Str × Int)) (ts : List (Addr × Edg)) (f : Str → Int), vs = [.ref d, .ref l] ∧ H d = some (.dK (intK A)) ∧ VF A (enames (eds ts)) f ∧ EdL H l ts ∧ ts.length ≤ 400 ∧ Met (eds ts) f ∧ (∀ x, f x ≤ 0) ∧ (∀ x, TR (eds ts) f x) ∧
  ∀ H', Same H H' → Q (.bl true) H'
theorem ok_Grt {f f0 f1 : Addr} {fd fd0 fd1 : FuncData} (F : Fun K "_law_greatest" "_law_greatest" sGrt f fd) (B : Bt mg) (CLen : Call P w K mg base 1 "_law_edge_names" f0 fd0 ["_law_edges"] spEdn) (Cii : Call P w K mg base 1 "_law_is_integer" f1 fd1 ["_law_actual"] spIsInt) :
    FnOk P w K mg base CX0 2 f fd ["_law_values", "_law_edges"] spGrt := by
  refine F.ok scGrt (fun vs H Q E h => ?_) (fun cdv A outer s H vs Q E hr h => ?_)
  · obtain ⟨d, l, A, ts, f, rfl, _⟩ := h
    rfl
  · obtain ⟨d, l, A', ts, f, rfl, ed, vf, el, few, met, neg, tr, q⟩ := h
    have hu := hu_of hr
    have nd := scGrt.nd
    refine ⟨_, pss_cons (ps_set (i := 2) nd rfl (.inl rfl) (pe_call CLen.ok (hr.mono (by decide)) (by rfl) CLen.at_ CLen.kp CLen.bd .nil pass0 (pa_cons (pv 1) pa_nil)))
      (pss_cons (ps_if (PW.pt (pw_or (pt_not (pt_val (pe_callB call_isi (by rfl) B.isi PyProof.Rows.boot_isinstance (pa_cons (pv 0) (pa_cons (pe_bltn (by rfl) B.dict PyProof.Rows.boot_dict (v := .ty "dict") rfl) pa_nil))))) (pw_or1 (pt_cmpR op_ne (pe_callB call_lenD (by rfl) B.len PySem.boot_len (pa_cons (pv 0) pa_nil)) (pe_callB call_len_seq (by rfl) B.len PySem.boot_len (pa_cons (pv 2) pa_nil)) rfl))))
        (pss_one (ps_ret pe_bl))
        pss_nil)
      (pss_cons (ps_for PassesOwn.never rfl (pi_list (pv 2)) (pg_name (i := 3) nd rfl (.inl rfl))
        (pss_one (ps_if (PW.pt (pw_or (pt_cmp (pc_dnotin hu (pv 3) (pv 0))) (pw_or (pt_not (pt_val (pe_call Cii.ok (hr.mono (by decide)) (by rfl) Cii.at_ Cii.kp Cii.bd .nil pass0 (pa_cons (pe_dget hu (pv 0) (pv 3) (fun _ _ => rfl)) pa_nil)))) (pw_or1 (pt_cmpR op_gt (pe_dget hu (pv 0) (pv 3) (fun _ _ => rfl)) pe_int rfl)))))
            (pss_one (ps_ret pe_bl))
            pss_nil)))
      (pss_cons (ps_for PassesOwn.never rfl (pi_list (pv 1)) (pg_name (i := 4) nd rfl (.inl rfl))
        (pss_one (ps_if (pt_cmpR op_gt (pe_op op_sub (pe_dget hu (pv 0) (pe_ix ix_tup (pv 4) pe_int (fun _ _ => rfl)) (fun _ _ => rfl)) (pe_dget hu (pv 0) (pe_ix ix_tup (pv 4) pe_int (fun _ _ => rfl)) (fun _ _ => rfl))) (pe_ix ix_tup (pv 4) pe_int (fun _ _ => rfl)) rfl)
            (pss_one (ps_ret pe_bl))
            pss_nil)))
      (pss_cons (ps_setLc (i := 5) (own := [("_law_name", 3)]) (g := gName 3) (tt := _) (te := tVar 3) rfl nd rfl rfl (by rfl) (pi_list (pv 2)) (blkOk_by (N := nGrt) (sc := defScope sGrt) (by decide +kernel)) (fun _ _ _ _ _ => pg_name (i := 3) nd rfl (.inl rfl)) (fun _ _ _ _ _ => pts_one (pt_cmpR op_eq (pe_dget hu (pv 0) (pv 3) (fun _ _ => rfl)) pe_int rfl))
          (fun _ _ _ _ _ => (pv 3)))
      (pss_cons (ps_for PassesOwn.never rfl (pi_range1 (by rfl) B.range (pa_cons (pe_callB call_len_seq (by rfl) B.len PySem.boot_len (pa_cons (pv 2) pa_nil)) pa_nil)) (pg_name (i := 6) nd rfl (.inl rfl))
        (pss_one (ps_for PassesOwn.never rfl (pi_list (pv 1)) (pg_name (i := 4) nd rfl (.inl rfl))
            (pss_one (ps_if (PW.pt (pw_and (pt_cmpR (r := rIn K true) op_notIn_seq (pe_ix ix_tup (pv 4) pe_int (fun _ _ => rfl)) (pv 5) rfl) (pw_and (pt_cmpR (r := rIn K false) op_in_seq (pe_ix ix_tup (pv 4) pe_int (fun _ _ => rfl)) (pv 5) rfl) (pw_and1 (pt_cmpR op_eq (pe_dget hu (pv 0) (pe_ix ix_tup (pv 4) pe_int (fun _ _ => rfl)) (fun _ _ => rfl)) (pe_op op_add (pe_dget hu (pv 0) (pe_ix ix_tup (pv 4) pe_int (fun _ _ => rfl)) (fun _ _ => rfl)) (pe_ix ix_tup (pv 4) pe_int (fun _ _ => rfl))) rfl)))))
                (pss_one (ps_expr (pe_bm PySem.F.plainAttrs_list PySem.F.slot_list_append PySem.F.type_list_append mt_append (pv 5) (pa_cons (pe_ix ix_tup (pv 4) pe_int (fun _ _ => rfl)) pa_nil))))
                pss_nil)))))
      (pss_one (ps_ret (pe_cmpR op_eq (pe_callB call_len_seq (by rfl) B.len PySem.boot_len (pa_cons (pv 5) pa_nil)) (pe_callB call_len_seq (by rfl) B.len PySem.boot_len (pa_cons (pv 2) pa_nil)) rfl)))))))), ?_⟩
    have nl := enames_len (eds ts)
    rw [show (eds ts).length = ts.length from List.length_map _] at nl
    have nn := enames_nd (eds ts)
    have em : ∀ {i : Nat} {t : Addr × Edg}, ts[i]? = some t → t.2.1 ∈ enames (eds ts) ∧ t.2.2.1 ∈ enames (eds ts) := fun {i t} ht => by
      have := List.mem_of_getElem? (eds_at ht)
      exact ⟨enames_mem.mpr ⟨_, this, .inl rfl⟩, enames_mem.mpr ⟨_, this, .inr rfl⟩⟩
    refine ⟨.ref l, rfl, l, ts, rfl, el, few, fun H1 R s1 nR eR => ?_⟩
    obtain ⟨ns, hns⟩ : ∃ ns, ns = enames (eds ts) := ⟨_, rfl⟩
    have rend := fun {R0} (a : R0.Nodup) b c => rN_end (es := eds ts) (f := f) (R0 := R0) a b c tr
    rw [← hns] at eR nl nn em vf rend
    have ed1 := s1 _ _ ed
    have fA := vf.few
    refine ⟨_, rfl, .ref d, .ty "dict", .type "dict", .type "dict", true, rfl, .ty _, .base (.dK ed1), kit_ty (by decide +kernel), true, rfl, iteF ?_⟩
    refine ⟨_, rfl, d, _, rfl, ed1, _, rfl, R, _, rfl, .inl (sl_map eR), rfl, _, rfl, ite_both (fun c => absurd c ?_) fun _ => ?_⟩
    · rw [intK_len, List.length_map, fA, decide_eq_true rfl]; decide
    refine ⟨_, rfl, R, rfl, ⟨_, sl_map eR⟩, for_list (xs := ns.map V.str) (fun i σ H' => ∃ (y3 : Option V), σ = [some (.ref d), some (.ref l), some (.ref R), y3, none, none, none] ∧ Same H1 H') ⟨_, rfl, Same.refl _⟩ (fun i σ H' _ h => by obtain ⟨_, _, h⟩ := h; exact sl_map (h _ _ eR)) ?_ ?_⟩
    · rintro i x σ H2 hx0 ⟨y3, rfl, s2⟩
      rw [List.getElem?_map] at hx0
      obtain ⟨x, hx, rfl⟩ := Option.map_eq_some_iff.mp hx0
      have gv := dgetI (s2 _ _ ed1) (vf.val x (List.mem_of_getElem? hx))
      refine ⟨_, rfl, _, rfl, d, _, rfl, gv, _, rfl, iteF ?_⟩
      refine ⟨_, rfl, _, rfl, d, .int (f x), rfl, gv, f x, rfl, _, rfl, iteF ⟨_, rfl, _, rfl, d, .int (f x), rfl, gv, _, _, rfl, rfl, _, rfl, ite_both (fun c => ?_) fun _ => ⟨_, rfl, s2⟩⟩⟩
      have := of_decide_eq_true c
      have := neg x
      omega
    rintro σ H2 ⟨y3, rfl, s2⟩
    have eR2 := s2 _ _ eR
    have ed2 := s2 _ _ ed1
    have S2 := s1.trans s2
    have el2 := el.same S2
    clear s2
    refine ⟨_, rfl, l, rfl, ⟨_, sl_map el2.lst⟩, for_list (xs := ts.map fun t => V.ref t.1) (fun i σ H' => ∃ (y4 : Option V), σ = [some (.ref d), some (.ref l), some (.ref R), y3, y4, none, none] ∧ Same H2 H') ⟨_, rfl, Same.refl _⟩ (fun i σ H' _ h => by obtain ⟨_, _, h⟩ := h; exact sl_map (h _ _ el2.lst)) ?_ ?_⟩
    · rintro i x σ H3 hx0 ⟨y4, rfl, s3⟩
      rw [List.getElem?_map] at hx0
      obtain ⟨t, ht, rfl⟩ := Option.map_eq_some_iff.mp hx0
      obtain ⟨u1, u2⟩ := em ht
      have et := (el2.same s3).tup t (List.mem_of_getElem? ht)
      have g1 := dgetI (s3 _ _ ed2) (vf.val _ u1)
      have g2 := dgetI (s3 _ _ ed2) (vf.val _ u2)
      refine ⟨_, rfl, _, rfl, t.1, _, _, .str t.2.1, rfl, rfl, .inl (.inl et), atI_nat (j := 0) rfl, d, .int (f t.2.1), rfl, g1, _, rfl, _, rfl, t.1, _, _, .str t.2.2.1, rfl, rfl, .inl (.inl et), atI_nat (j := 1) rfl, d, .int (f t.2.2.1), rfl, g2, _, _, rfl, rfl, _, rfl, t.1, _, _, .int t.2.2.2, rfl, rfl, .inl (.inl et), atI_nat (j := 2) rfl, _, _, rfl, rfl, _, rfl, ite_both (fun c => ?_) fun _ => ⟨_, rfl, s3⟩⟩
      have c' := of_decide_eq_true c
      have := met t.2 (List.mem_of_getElem? (eds_at ht))
      omega
    rintro σ H3 ⟨y4, rfl, s3⟩
    have eR3 := s3 _ _ eR2
    have ed3 := s3 _ _ ed2
    have S3 := S2.trans s3
    have el3 := el.same S3
    clear s3
    refine ⟨_, rfl, R, rfl, ⟨_, sl_map eR3⟩, fun Z nZ => lc_list (xs := ns.map V.str) (fun i H' => Same H3 H' ∧ H' Z = some (.lst (((ns.take i).filter fun x => decide (f x = 0)).map V.str))) ⟨same_new nZ, upd_same⟩ (fun i H' _ h => sl_map (h.1 _ _ eR3)) ?_ ?_⟩
    · rintro i x H4 hx0 ⟨s4, eZ⟩
      rw [List.getElem?_map] at hx0
      obtain ⟨x, hx, rfl⟩ := Option.map_eq_some_iff.mp hx0
      have hi := (List.getElem?_eq_some_iff.mp hx).1
      have gv := dgetI (s4 _ _ ed3) (vf.val x (List.mem_of_getElem? hx))
      have fs := filter_snoc (p := fun x => decide (f x = 0)) hx
      have fl := filter_len ns (fun x => decide (f x = 0)) i
      refine ⟨rfl, _, rfl, _, rfl, d, .int (f x), rfl, gv, rfl, _, rfl, ite_both (fun c => ⟨_, rfl, _, eZ, by rw [List.length_map]; exact small1000 (by omega), same_at s4 nZ, ?_⟩) fun c => ⟨s4, ?_⟩⟩
      · have c' : f x = 0 := V.int.inj (of_decide_eq_true c)
        rw [fs, if_pos (decide_eq_true c'), upd_same, List.map_append] <;> rfl
      · have c' : ¬ f x = 0 := fun z => of_decide_eq_false c (by rw [z])
        rw [fs, if_neg (by rw [decide_eq_false c']; decide), List.append_nil]; exact eZ
    rintro H4 ⟨s4, eZ⟩
    rw [List.length_map, List.take_length] at eZ
    obtain ⟨R0, hR0⟩ : ∃ R0, R0 = ns.filter fun x => decide (f x = 0) := ⟨_, rfl⟩
    rw [← hR0] at eZ
    have nd0 : R0.Nodup := by rw [hR0]; exact List.Nodup.sublist List.filter_sublist nn
    have in0 : ∀ x ∈ R0, x ∈ ns := fun x hx => by rw [hR0] at hx; exact (List.mem_filter.mp hx).1
    have z0 : ∀ x ∈ ns, f x = 0 → x ∈ R0 := fun x hx hz => by rw [hR0]; exact List.mem_filter.mpr ⟨hx, decide_eq_true hz⟩
    have fin := rend nd0 in0 z0
    have eR4 := s4 _ _ eR3
    have ed4 := s4 _ _ ed3
    have nZ0 := S3.free nZ
    have el4 := el3.same s4
    have zR : R ≠ Z := fun z => by rw [z] at eR3; rw [eR3] at nZ; cases nZ
    have zd : d ≠ Z := fun z => by rw [z] at ed3; rw [ed3] at nZ; cases nZ
    have bound : ∀ (k j : Nat), (rT f ((eds ts).take j) (rN f (eds ts) R0 k)).length ≤ ns.length := by
      have inn : ∀ k, (rN f (eds ts) R0 k).Nodup ∧ ∀ x ∈ rN f (eds ts) R0 k, x ∈ ns := by
        intro k
        induction k with
        | zero => exact ⟨nd0, in0⟩
        | succ k ih => exact ⟨rT_nd _ ih.1, rT_in _ (fun e he => by rw [hns]; exact enames_mem.mpr ⟨e, he, .inl rfl⟩) ih.2⟩
      intro k j
      exact List.Nodup.length_le_of_subset (rT_nd _ (inn k).1) (rT_in _ (fun e he => by rw [hns]; exact enames_mem.mpr ⟨e, List.mem_of_mem_take he, .inl rfl⟩) (inn k).2)
    have S4 := S3.trans s4
    clear s4
    refine ⟨_, rfl, R, _, rfl, .inl (sl_map eR4), _, rfl, ?_, ?_, for_range (lo := 0) (fun i σ H' => ∃ (y4 y6 : Option V), σ = [some (.ref d), some (.ref l), some (.ref R), y3, y4, some (.ref Z), y6] ∧ Same H H' ∧ EdL H' l ts ∧ H' d = some (.dK (intK A')) ∧ H' R = some (.lst (ns.map V.str)) ∧ H' Z = some (.lst ((rN f (eds ts) R0 i).map V.str))) ⟨_, none, rfl, S4, el4, ed4, eR4, eZ⟩ ?_ ?_⟩
    · rw [List.length_map]; omega
    · rw [List.length_map]; omega
    · rintro i σ H5 hi ⟨y4, y6, rfl, s5, el5, ed5, eR5, eZ5⟩
      refine ⟨_, rfl, l, rfl, ⟨_, sl_map el5.lst⟩, for_list (xs := ts.map fun t => V.ref t.1) (fun j σ H' => ∃ (y4 : Option V), σ = [some (.ref d), some (.ref l), some (.ref R), y3, y4, some (.ref Z), some (.int (0 + (i : Int)))] ∧ Same H H' ∧ EdL H' l ts ∧ H' d = some (.dK (intK A')) ∧ H' R = some (.lst (ns.map V.str)) ∧ H' Z = some (.lst ((rT f ((eds ts).take j) (rN f (eds ts) R0 i)).map V.str))) ⟨_, rfl, s5, el5, ed5, eR5, eZ5⟩ (fun j σ H' _ h => by obtain ⟨_, _, _, h, _⟩ := h; exact sl_map h.lst) ?_ ?_⟩
      · rintro j x σ H6 hx0 ⟨y4, rfl, s6, el6, ed6, eR6, eZ6⟩
        rw [List.getElem?_map] at hx0
        obtain ⟨t, ht, rfl⟩ := Option.map_eq_some_iff.mp hx0
        obtain ⟨u1, u2⟩ := em ht
        have et := el6.tup t (List.mem_of_getElem? ht)
        have g1 := dgetI ed6 (vf.val _ u1)
        have g2 := dgetI ed6 (vf.val _ u2)
        have sn := rT_snoc f (rN f (eds ts) R0 i) (eds_at ht)
        have bd := bound i j
        have same : canR f (rT f ((eds ts).take j) (rN f (eds ts) R0 i)) t.2 = false → H6 Z = some (.lst ((rT f ((eds ts).take (j + 1)) (rN f (eds ts) R0 i)).map V.str)) := fun h => by
          rw [sn]
          unfold rE
          rw [h, if_neg (by decide)]; exact eZ6
        have ntZ : ∀ t ∈ ts, t.1 ≠ Z := fun t ht z => by
          have := el6.tup t ht
          rw [z, eZ6] at this
          cases this
        have nlZ : l ≠ Z := fun z => by
          have h1 := el.lst
          rw [z, nZ0] at h1
          cases h1
        refine ⟨_, rfl, t.1, _, _, .str t.2.1, rfl, rfl, .inl (.inl et), atI_nat (j := 0) rfl, _, rfl, Z, _, rfl, .inl (sl_map eZ6), rfl, flats_str _, _, rfl, ?_⟩
        rw [if_pos rfl, in_strs]
        refine ite_both (fun c1 => ?_) fun c1 => iteF ⟨_, rfl, s6, el6, ed6, eR6, same ?_⟩
        rotate_left
        · unfold canR
          rw [show decide (t.2.1 ∉ rT f ((eds ts).take j) (rN f (eds ts) R0 i)) = false by simpa using c1] <;> rfl
        refine ⟨_, rfl, t.1, _, _, .str t.2.2.1, rfl, rfl, .inl (.inl et), atI_nat (j := 1) rfl, _, rfl, Z, _, rfl, .inl (sl_map eZ6), rfl, flats_str _, _, rfl, ?_⟩
        rw [if_neg (by decide), in_strs]
        refine ite_both (fun c2 => ?_) fun c2 => iteF ⟨_, rfl, s6, el6, ed6, eR6, same ?_⟩
        rotate_left
        · unfold canR
          rw [c2]; simp
        refine ⟨_, rfl, _, rfl, t.1, _, _, .str t.2.1, rfl, rfl, .inl (.inl et), atI_nat (j := 0) rfl, d, .int (f t.2.1), rfl, g1, _, rfl, _, rfl, t.1, _, _, .str t.2.2.1, rfl, rfl, .inl (.inl et), atI_nat (j := 1) rfl, d, .int (f t.2.2.1), rfl, g2, _, rfl, t.1, _, _, .int t.2.2.2, rfl, rfl, .inl (.inl et), atI_nat (j := 2) rfl, _, _, rfl, rfl, rfl, _, rfl, ite_both (fun c3 => ?_) fun c3 => ⟨_, rfl, s6, el6, ed6, eR6, same ?_⟩⟩
        rotate_left
        · unfold canR
          have : ¬ f t.2.1 = f t.2.2.1 + t.2.2.2 := fun z => of_decide_eq_false c3 (by rw [z])
          simp [this]
        have c3' : f t.2.1 = f t.2.2.1 + t.2.2.2 := V.int.inj (of_decide_eq_true c3)
        refine ⟨_, rfl, .inl ⟨rfl, _, sl_map eZ6⟩, _, rfl, t.1, _, _, .str t.2.1, rfl, rfl, .inl (.inl et), atI_nat (j := 0) rfl, Z, _, _, rfl, rfl, eZ6, by rw [List.length_map]; exact small1000 (by omega), _, rfl, same_at s6 nZ0, ⟨by rw [upd_ne nlZ]; exact el6.lst, fun t ht => by rw [upd_ne (ntZ t ht)]; exact el6.tup t ht⟩, by rw [upd_ne zd]; exact ed6, by rw [upd_ne zR]; exact eR6, ?_⟩
        rw [upd_same, sn]
        unfold rE canR
        have d1 : decide (t.2.1 ∉ rT f ((eds ts).take j) (rN f (eds ts) R0 i)) = true := by simpa using c1
        rw [d1, c2, decide_eq_true c3', if_pos (by rfl), List.map_append] <;> rfl
      · rintro σ H6 ⟨y4, rfl, s6, el6, ed6, eR6, eZ6⟩
        rw [List.length_map, show ts.length = (eds ts).length from (List.length_map _).symm, List.take_length] at eZ6
        exact ⟨_, _, rfl, s6, el6, ed6, eR6, eZ6⟩
    · rintro σ H5 ⟨y4, y6, rfl, s5, el5, ed5, eR5, eZ5⟩
      rw [List.length_map, show ((ns.length : Int)).toNat = ns.length by omega] at eZ5
      refine ⟨_, rfl, Z, _, rfl, .inl (sl_map eZ5), _, rfl, R, _, rfl, .inl (sl_map eR5), rfl, ?_⟩
      rw [List.length_map, List.length_map, fin, decide_eq_true rfl]
      exact q _ s5
end
end K15

set_option Elab.async false
set_option linter.all false
set_option maxRecDepth 100000
set_option maxHeartbeats 4000000
namespace K15
open PySem PySem.Spec PyProof.Rows L2 Cs CsX
theorem cyc_at {es : List Edg} {x : Str} {m k q : Nat} (h : k + q < m) : ((wayI es x m).drop k)[q]? = some ((wa es x (k + q) : Nat) : Int) := by
  rw [List.getElem?_drop]
  unfold wayI
  rw [List.getElem?_map, way_at h] <;> rfl
theorem cyc_len (es : List Edg) (x : Str) (m k : Nat) : ((wayI es x m).drop k).length = m - k := by rw [List.length_drop, wayI_len]
theorem at_neg {xs : List V} {v : V} {n : Nat} (hn : xs.length = n + 1) (h : xs[n]? = some v) : atI xs (-1) = some v := by
  have hl := (List.getElem?_eq_some_iff.mp h).1
  have e : xs = xs.take n ++ [v] := by
    rw [← take_snoc h, ← hn, List.take_length]
  rw [e]
  exact atI_last _ _
theorem cyc_nd {es : List Edg} {x : Str} {m k : Nat} (c : Cyc es x m k) {q : Nat} (h : k + q < m) : ((wa es x (k + q) : Nat) : Int) ∉ ((wayI es x m).drop k).take q := fun z => by
  obtain ⟨j, hj⟩ := List.mem_iff_getElem?.mp z
  rw [List.getElem?_take] at hj
  split at hj
  · next lt =>
    rw [cyc_at (by omega)] at hj
    have : wa es x (k + j) = wa es x (k + q) := by have := Option.some.inj hj; omega
    have h1 := way_at (es := es) (x := x) (m := m) (j := k + j) (by omega)
    have h2 := way_at (es := es) (x := x) (m := m) h
    rw [this] at h1
    have := nd_ix c.nd h1 h2
    omega
  · cases hj
section
variable {P : Program} {w : World} {K : PySem.W.Frag} {mg : Str → Option Value} {base : Heap}
abbrev sFls : Stmt := topS 14
abbrev nFls : List Str := ["_law_cycle", "_law_edges", "_law_k", "_law_total"]
theorem scFls : FnScope nFls ["_law_cycle", "_law_edges"] (defScope sFls) := ⟨rfl, rfl, rfl, by decide +kernel, rfl, by decide +kernel, by decide +kernel⟩
def spFls : Sp := fun vs H Q _ => ∃ (r l : Addr) (ts : List (Addr × Edg)) (x : Str) (m k : Nat), vs = [.ref r, .ref l] ∧ H r = some (.lst (((wayI (eds ts) x m).drop k).map V.int)) ∧ Cyc (eds ts) x m k ∧ m ≤ 1000 ∧ EdL H l ts ∧ ts.length ≤ 400 ∧
  ∀ H', Same H H' → Q (.bl true) H'
theorem ok_Fls {f f0 : Addr} {fd fd0 : FuncData} (F : Fun K "_law_falls" "_law_falls" sFls f fd) (B : Bt mg) (Cii : Call P w K mg base 1 "_law_is_integer" f0 fd0 ["_law_actual"] spIsInt) :
    FnOk P w K mg base CX0 2 f fd ["_law_cycle", "_law_edges"] spFls := by
  refine F.ok scFls (fun vs H Q E h => ?_) (fun cdv A outer s H vs Q E hr h => ?_)
  · obtain ⟨r, l, ts, x, m, k, rfl, _⟩ := h
    rfl
  · obtain ⟨r, l, ts, x, m, k, rfl, er, cy, m1, el, few, q⟩ := h
    have nd := scFls.nd
    refine ⟨_, pss_cons (ps_if (PW.pt (pw_or (pt_not (pt_val (pe_callB call_isi (by rfl) B.isi PyProof.Rows.boot_isinstance (pa_cons (pv 0) (pa_cons (pe_bltn (by rfl) B.list PyProof.Rows.boot_list (v := .ty "list") rfl) pa_nil))))) (pw_or1 (pt_cmpR op_eq (pe_callB call_len_seq (by rfl) B.len PySem.boot_len (pa_cons (pv 0) pa_nil)) pe_int rfl))))
        (pss_one (ps_ret pe_bl))
        pss_nil)
      (pss_cons (ps_for PassesOwn.never rfl (pi_range1 (by rfl) B.range (pa_cons (pe_callB call_len_seq (by rfl) B.len PySem.boot_len (pa_cons (pv 0) pa_nil)) pa_nil)) (pg_name (i := 2) nd rfl (.inl rfl))
        (pss_one (ps_if (PW.pt (pw_or (pt_not (pt_val (pe_call Cii.ok (hr.mono (by decide)) (by rfl) Cii.at_ Cii.kp Cii.bd .nil pass0 (pa_cons (pe_ix ix_list (pv 0) (pv 2) (fun _ _ => rfl)) pa_nil)))) (pw_or (pt_cmpR op_lt (pe_ix ix_list (pv 0) (pv 2) (fun _ _ => rfl)) pe_int rfl) (pw_or (pt_cmpR op_ge (pe_ix ix_list (pv 0) (pv 2) (fun _ _ => rfl)) (pe_callB call_len_seq (by rfl) B.len PySem.boot_len (pa_cons (pv 1) pa_nil)) rfl) (pw_or1 (pt_cmpR (r := rIn K false) op_in_seq (pe_ix ix_list (pv 0) (pv 2) (fun _ _ => rfl)) (pe_slice sl_list (pv 0) po_none (po_some (pv 2))) rfl))))))
            (pss_one (ps_ret pe_bl))
            pss_nil)))
      (pss_cons (ps_set (i := 3) nd rfl (.inl rfl) pe_int)
      (pss_cons (ps_for PassesOwn.never rfl (pi_range1 (by rfl) B.range (pa_cons (pe_callB call_len_seq (by rfl) B.len PySem.boot_len (pa_cons (pv 0) pa_nil)) pa_nil)) (pg_name (i := 2) nd rfl (.inl rfl))
        (pss_cons (ps_set (i := 3) nd rfl (.inl rfl) (pe_op op_add (pv 3) (pe_ix ix_tup (pe_ix ix_list (pv 1) (pe_ix ix_list (pv 0) (pv 2) (fun _ _ => rfl)) (fun _ _ => rfl)) pe_int (fun _ _ => rfl))))
          (pss_one (ps_if (pt_cmpR op_ne (pe_ix ix_tup (pe_ix ix_list (pv 1) (pe_ix ix_list (pv 0) (pe_op op_sub (pv 2) pe_int) (fun _ _ => rfl)) (fun _ _ => rfl)) pe_int (fun _ _ => rfl)) (pe_ix ix_tup (pe_ix ix_list (pv 1) (pe_ix ix_list (pv 0) (pv 2) (fun _ _ => rfl)) (fun _ _ => rfl)) pe_int (fun _ _ => rfl)) rfl)
            (pss_one (ps_ret pe_bl))
            pss_nil))))
      (pss_one (ps_ret (pe_cmpR op_lt (pv 3) pe_int rfl)))))), ?_⟩
    have km := cy.km
    obtain ⟨C, hC⟩ : ∃ C, C = (wayI (eds ts) x m).drop k := ⟨_, rfl⟩
    have Cat : ∀ q, k + q < m → C[q]? = some ((wa (eds ts) x (k + q) : Nat) : Int) := fun q h => by rw [hC]; exact cyc_at h
    have CatV : ∀ q, k + q < m → (C.map V.int)[q]? = some (.int ((wa (eds ts) x (k + q) : Nat) : Int)) := fun q h => by rw [List.getElem?_map, Cat q h] <;> rfl
    have Cl : C.length = m - k := by rw [hC]; exact cyc_len _ _ _ _
    have Cnd : ∀ q, k + q < m → ((wa (eds ts) x (k + q) : Nat) : Int) ∉ C.take q := fun q h => by rw [hC]; exact cyc_nd cy h
    rw [← hC] at er
    have ed : ∀ j, j < m → ∃ t, ts[wa (eds ts) x j]? = some t ∧ t.2 = eg (eds ts) (wa (eds ts) x j) := fun j hj => by
      have h := cy.inE hj
      rw [List.length_map] at h
      refine ⟨ts[wa (eds ts) x j], List.getElem?_eq_getElem h, ?_⟩
      rw [eg_of (eds_at (List.getElem?_eq_getElem h))]
    refine ⟨_, rfl, .ref r, .ty "list", .type "list", .type "list", true, rfl, .ty _, .base (.lst er), kit_ty (by decide +kernel), true, rfl, iteF ?_⟩
    refine ⟨_, rfl, r, _, rfl, .inl (sl_map er), rfl, _, rfl, ite_both (fun c => ?_) fun _ => ?_⟩
    · have := V.int.inj (of_decide_eq_true c)
      rw [List.length_map, Cl] at this
      omega
    refine ⟨_, rfl, r, _, rfl, .inl (sl_map er), _, rfl, ?_, ?_, for_range (lo := 0) (fun i σ H' => ∃ (y2 : Option V), σ = [some (.ref r), some (.ref l), y2, none] ∧ Same H H') ⟨_, rfl, Same.refl _⟩ ?_ ?_⟩
    · rw [List.length_map]; omega
    · rw [List.length_map]; omega
    · rintro i σ H1 hi ⟨y2, rfl, s1⟩
      rw [List.length_map, Cl] at hi
      have hi' : k + i < m := by omega
      have ca := CatV i hi'
      have er1 := s1 _ _ er
      have el1 := el.same s1
      have ie := cy.inE hi'
      rw [List.length_map] at ie
      refine ⟨_, rfl, _, rfl, r, _, _, _, rfl, rfl, sl_map er1, at_eq (by omega) ca, _, rfl, true, rfl, iteF ?_⟩
      refine ⟨_, rfl, _, rfl, r, _, _, _, rfl, rfl, sl_map er1, at_eq (by omega) ca, _, _, rfl, rfl, _, rfl, ite_both (fun c => absurd (of_decide_eq_true c) (by omega)) fun _ => ?_⟩
      refine ⟨_, rfl, _, rfl, r, _, _, _, rfl, rfl, sl_map er1, at_eq (by omega) ca, _, rfl, l, _, rfl, .inl (sl_map el1.lst), _, _, rfl, rfl, _, rfl, ite_both (fun c => absurd (of_decide_eq_true c) (by rw [List.length_map]; omega)) fun _ => ?_⟩
      refine ⟨_, rfl, _, rfl, r, _, _, _, rfl, rfl, sl_map er1, at_eq (by omega) ca, _, rfl, _, rfl, _, rfl, r, _, rfl, sl_map er1, fun p np => ?_⟩
      rw [show (0 + (i : Int)) = (i : Int) by omega, cutV_to, ← List.map_take]
      refine ⟨p, _, rfl, .inl (sl_map upd_same), rfl, flat_ints _, _, rfl, ?_⟩
      rw [if_neg (by decide), in_ints, decide_eq_false (Cnd i hi')]
      exact iteF ⟨_, rfl, same_at s1 (s1.free np)⟩
    rintro σ H1 ⟨y2, rfl, s1⟩
    have er1 := s1 _ _ er
    have el1 := el.same s1
    refine ⟨_, rfl, r, _, rfl, .inl (sl_map er1), _, rfl, ?_, ?_, for_range (lo := 0) (fun i σ H' => ∃ (y2 : Option V), σ = [some (.ref r), some (.ref l), y2, some (.int (gaps (eds ts) x k i))] ∧ Same H1 H') ⟨_, rfl, Same.refl _⟩ ?_ ?_⟩
    · rw [List.length_map]; omega
    · rw [List.length_map]; omega
    · rintro i σ H2 hi ⟨y2, rfl, s2⟩
      rw [List.length_map, Cl] at hi
      have hi' : k + i < m := by omega
      have ca := CatV i hi'
      have er2 := s2 _ _ er1
      have el2 := el1.same s2
      obtain ⟨t, ht, et⟩ := ed (k + i) hi'
      have tup := el2.tup t (List.mem_of_getElem? ht)
      have tat : (ts.map fun t => V.ref t.1)[wa (eds ts) x (k + i)]? = some (.ref t.1) := by rw [List.getElem?_map, ht] <;> rfl
      obtain ⟨u, hu, eu, au⟩ : ∃ u, (∃ w, ts[w]? = some u ∧ atI (C.map V.int) (0 + (i : Int) - 1) = some (.int (w : Nat))) ∧ u.2.2.1 = t.2.1 ∧ True := by
        rcases Nat.eq_zero_or_pos i with z | z
        · subst z
          obtain ⟨u, hu, eu⟩ := ed (m - 1) (by omega)
          refine ⟨u, ⟨_, hu, ?_⟩, ?_, trivial⟩
          · have := CatV (m - 1 - k) (by omega)
            rw [show k + (m - 1 - k) = m - 1 by omega] at this
            exact at_neg (by rw [List.length_map, Cl]; omega) this
          · rw [eu, et, Nat.add_zero]
            exact cy.close
        · obtain ⟨u, hu, eu⟩ := ed (k + (i - 1)) (by omega)
          refine ⟨u, ⟨_, hu, at_eq (j := i - 1) (by omega) (CatV (i - 1) (by omega))⟩, ?_, trivial⟩
          rw [eu, et, show k + (i - 1) = k + i - 1 by omega]
          exact cy.link (by omega) hi'
      obtain ⟨w, hw, aw⟩ := hu
      have tupu := el2.tup u (List.mem_of_getElem? hw)
      have uat : (ts.map fun t => V.ref t.1)[w]? = some (.ref u.1) := by rw [List.getElem?_map, hw] <;> rfl
      refine ⟨_, rfl, _, rfl, _, rfl, _, rfl, r, _, _, _, rfl, rfl, sl_map er2, at_eq (by omega) ca, l, _, _, _, rfl, rfl, sl_map el2.lst, atI_nat tat, t.1, _, _, .int t.2.2.2, rfl, rfl, .inl (.inl tup), atI_nat (j := 2) rfl, _, _, rfl, rfl, ?_⟩
      refine ⟨_, rfl, _, rfl, _, rfl, _, _, rfl, rfl, r, _, _, _, rfl, rfl, sl_map er2, aw, l, _, _, _, rfl, rfl, sl_map el2.lst, atI_nat uat, u.1, _, _, .str u.2.2.1, rfl, rfl, .inl (.inl tupu), atI_nat (j := 1) rfl, _, rfl, _, rfl, _, rfl, r, _, _, _, rfl, rfl, sl_map er2, at_eq (by omega) ca, l, _, _, _, rfl, rfl, sl_map el2.lst, atI_nat tat, t.1, _, _, .str t.2.1, rfl, rfl, .inl (.inl tup), atI_nat (j := 0) rfl, rfl, _, rfl, ite_both (fun c => absurd c ?_) fun _ => ⟨some (.int (0 + (i : Int))), ?_, s2⟩⟩
      · rw [eu, decide_eq_true rfl]; decide
      · show [some (V.ref r), some (V.ref l), _, some (V.int (gaps (eds ts) x k i + t.2.2.2))] = _
        rw [et] <;> rfl
    · rintro σ H2 ⟨y2, rfl, s2⟩
      refine ⟨_, rfl, _, _, rfl, rfl, ?_⟩
      have := cy.neg
      rw [List.length_map, Cl, show ((m - k : Nat) : Int).toNat = m - k by omega]
      show Q (.bl (decide (gaps (eds ts) x k (m - k) < 0))) H2
      rw [decide_eq_true this]
      exact q _ (s1.trans s2)
abbrev sGd : Stmt := topS 15
abbrev nGd : List Str := ["_law_actual", "_law_edges"]
theorem scGd : FnScope nGd ["_law_actual", "_law_edges"] (defScope sGd) := ⟨rfl, rfl, rfl, by decide +kernel, rfl, by decide +kernel, by decide +kernel⟩
inductive Told (H : Hp) (T : Addr) (es : List Edg) : Prop
  | values (d : Addr) (A : List (Str × Int)) (e : H T = some (.tup [.str "values", .ref d])) (ed : H d = some (.dK (intK A))) (low : (fin es).low = none) (vf : VF A (enames es) (fin es).f) : Told H T es
  | cycle (r : Addr) (x : Str) (m k : Nat) (e : H T = some (.tup [.str "cycle", .ref r])) (er : H r = some (.lst (((wayI es x m).drop k).map V.int))) (cy : Cyc es x m k) (mle : m ≤ (enames es).length) : Told H T es
def spGd : Sp := fun vs H Q _ => ∃ (T l : Addr) (ts : List (Addr × Edg)), vs = [.ref T, .ref l] ∧ Told H T (eds ts) ∧ EdL H l ts ∧ ts.length ≤ 400 ∧ ∀ H', Same H H' → Q (.bl true) H'
theorem ok_Gd {f f0 f1 : Addr} {fd fd0 fd1 : FuncData} (F : Fun K "_law_good" "_law_good" sGd f fd) (B : Bt mg) (zstr : mg "str" = none) (ztuple : mg "tuple" = none) (CGrt : Call P w K mg base 2 "_law_greatest" f0 fd0 ["_law_values", "_law_edges"] spGrt) (CFls : Call P w K mg base 2 "_law_falls" f1 fd1 ["_law_cycle", "_law_edges"] spFls) :
    FnOk P w K mg base CX0 3 f fd ["_law_actual", "_law_edges"] spGd := by
  refine F.ok scGd (fun vs H Q E h => ?_) (fun cdv A outer s H vs Q E hr h => ?_)
  · obtain ⟨T, l, ts, rfl, _⟩ := h
    rfl
  · obtain ⟨T, l, ts, rfl, told, el, few, q⟩ := h
    have nd := scGd.nd
    have nl := enames_len (eds ts)
    rw [show (eds ts).length = ts.length from List.length_map _] at nl
    refine ⟨_, pss_cons (ps_if (PW.pt (pw_or (pt_not (pt_val (pe_callB call_isi (by rfl) B.isi PyProof.Rows.boot_isinstance (pa_cons (pv 0) (pa_cons (pe_bltn (by rfl) ztuple PyProof.Rows.boot_tuple (v := .ty "tuple") rfl) pa_nil))))) (pw_or (pt_cmpR op_ne (pe_callB call_len_seq (by rfl) B.len PySem.boot_len (pa_cons (pv 0) pa_nil)) pe_int rfl) (pw_or1 (pt_not (pt_val (pe_callB call_isi (by rfl) B.isi PyProof.Rows.boot_isinstance (pa_cons (pe_ix ix_tup (pv 0) pe_int (fun _ _ => rfl)) (pa_cons (pe_bltn (by rfl) zstr PyProof.Rows.boot_str (v := .ty "str") rfl) pa_nil)))))))))
        (pss_one (ps_ret pe_bl))
        pss_nil)
      (pss_cons (ps_if (pt_cmpR op_eq (pe_ix ix_tup (pv 0) pe_int (fun _ _ => rfl)) pe_str rfl)
        (pss_one (ps_ret (pe_call CGrt.ok (hr.mono (by decide)) (by rfl) CGrt.at_ CGrt.kp CGrt.bd .nil pass0 (pa_cons (pe_ix ix_tup (pv 0) pe_int (fun _ _ => rfl)) (pa_cons (pv 1) pa_nil)))))
        pss_nil)
      (pss_one (ps_ret (pe_and (pe_cmpR op_eq (pe_ix ix_tup (pv 0) pe_int (fun _ _ => rfl)) pe_str rfl) (pe_one (pe_call CFls.ok (hr.mono (by decide)) (by rfl) CFls.at_ CFls.kp CFls.bd .nil pass0 (pa_cons (pe_ix ix_tup (pv 0) pe_int (fun _ _ => rfl)) (pa_cons (pv 1) pa_nil)))))))), ?_⟩
    cases told with
    | values d A' e ed low vf =>
      refine ⟨_, rfl, .ref T, .ty "tuple", .type "tuple", .type "tuple", true, rfl, .ty _, .base (.tup e), kit_ty (by decide +kernel), true, rfl, iteF ?_⟩
      refine ⟨_, rfl, T, _, rfl, .inr (.inl (.inl e)), rfl, _, rfl, iteF ?_⟩
      refine ⟨_, rfl, T, _, _, .str "values", rfl, rfl, .inl (.inl e), atI_nat (j := 0) rfl, .str "values", .ty "str", .type "str", .type "str", true, rfl, .ty _, .base (.str _), kit_ty (by decide +kernel), true, rfl, iteF ?_⟩
      refine ⟨_, rfl, T, _, _, .str "values", rfl, rfl, .inl (.inl e), atI_nat (j := 0) rfl, rfl, _, rfl, ite_both (fun _ => ?_) fun c => absurd (decide_eq_true rfl) (by rw [c]; decide)⟩
      obtain ⟨m, n, t⟩ := fin_tr low
      exact ⟨_, rfl, T, _, _, .ref d, rfl, rfl, .inl (.inl e), atI_nat (j := 1) rfl, _, rfl, d, l, A', ts, (fin (eds ts)).f, rfl, ed, vf, el, few, m, n, t, q⟩
    | cycle r x m k e er cy mle =>
      refine ⟨_, rfl, .ref T, .ty "tuple", .type "tuple", .type "tuple", true, rfl, .ty _, .base (.tup e), kit_ty (by decide +kernel), true, rfl, iteF ?_⟩
      refine ⟨_, rfl, T, _, rfl, .inr (.inl (.inl e)), rfl, _, rfl, iteF ?_⟩
      refine ⟨_, rfl, T, _, _, .str "cycle", rfl, rfl, .inl (.inl e), atI_nat (j := 0) rfl, .str "cycle", .ty "str", .type "str", .type "str", true, rfl, .ty _, .base (.str _), kit_ty (by decide +kernel), true, rfl, iteF ?_⟩
      refine ⟨_, rfl, T, _, _, .str "cycle", rfl, rfl, .inl (.inl e), atI_nat (j := 0) rfl, rfl, _, rfl, ite_both (fun c => ?_) fun _ => ?_⟩
      · exact absurd c (by decide +kernel)
      refine ⟨_, rfl, T, _, _, .str "cycle", rfl, rfl, .inl (.inl e), atI_nat (j := 0) rfl, rfl, _, rfl, ite_both (fun _ => ?_) fun c => absurd (decide_eq_true rfl) (by rw [c]; decide)⟩
      exact ⟨_, rfl, T, _, _, .ref r, rfl, rfl, .inl (.inl e), atI_nat (j := 1) rfl, _, rfl, r, l, ts, x, m, k, rfl, er, cy, by omega, el, few, q⟩
end
end K15

set_option Elab.async false
set_option linter.all false
set_option maxRecDepth 100000
set_option maxHeartbeats 4000000
namespace K15
open PySem PySem.Spec PyProof.Rows L2 Cs CsX
theorem at_any {α : Type} {xs : List α} {d : Int} (h0 : 0 ≤ d) (h1 : d < (xs.length : Nat)) : ∃ v ∈ xs, atI xs d = some v := by
  have h : d.toNat < xs.length := by omega
  refine ⟨xs[d.toNat], List.getElem_mem h, ?_⟩
  have := atI_nat (List.getElem?_eq_getElem h)
  rwa [show ((d.toNat : Nat) : Int) = d by omega] at this
theorem EdL.keep {H H' : Hp} {p l : Addr} {ts : List (Addr × Edg)} (B : EdL H l ts) (st : Strm H p) (hl : l ≠ p) (k : Keep p H H') : EdL H' l ts :=
  ⟨k _ _ hl B.lst, fun t ht => k _ _ (fun z => by
    obtain ⟨x, y, w, e⟩ := st
    have := B.tup t ht
    rw [z, e] at this
    cases this) (B.tup t ht)⟩
theorem EdL.push {H : Hp} {l T : Addr} {ts : List (Addr × Edg)} {e : Edg} (B : EdL H l ts) (hT : H T = some (.tup [.str e.1, .str e.2.1, .int e.2.2])) : EdL (upd H l (.lst ((ts.map fun t => V.ref t.1) ++ [.ref T]))) l (ts ++ [(T, e)]) := by
  have ne : ∀ {a : Addr} {xs : List V}, H a = some (.tup xs) → a ≠ l := fun h z => by rw [z, B.lst] at h; cases h
  refine ⟨by rw [upd_same, List.map_append] <;> rfl, fun t ht => ?_⟩
  rcases List.mem_append.mp ht with h | h
  · rw [upd_ne (ne (B.tup t h))]; exact B.tup t h
  · rw [List.mem_singleton.mp h, upd_ne (ne hT)]; exact hT
theorem EdL.other {H : Hp} {l q : Addr} {o : HO} {ys : List V} {ts : List (Addr × Edg)} (B : EdL H l ts) (hq : H q = some (.lst ys)) (h : l ≠ q) : EdL (upd H q o) l ts :=
  ⟨by rw [upd_ne h]; exact B.lst, fun t ht => by
    have h1 := B.tup t ht
    have : t.1 ≠ q := fun z => by rw [z, hq] at h1; cases h1
    rw [upd_ne this]; exact h1⟩
theorem EdL.new {H : Hp} {l q : Addr} {o : HO} {ts : List (Addr × Edg)} (B : EdL H l ts) (hq : H q = none) : EdL (upd H q o) l ts := B.same (same_new hq)
/-- what the wide ring is made of -/
structure Wr (H : Hp) (s nm sm : Addr) (xs : List Str) (ss : List Int) : Prop where
  st : Strm H s
  enm : H nm = some (.lst (xs.map V.str))
  esm : H sm = some (.lst (ss.map V.int))
  n1 : nm ≠ s
  n2 : sm ≠ s
theorem Wr.keep {H H' : Hp} {s nm sm : Addr} {xs : List Str} {ss : List Int} (W : Wr H s nm sm xs ss) (k : Keep s H H') (st : Strm H' s) : Wr H' s nm sm xs ss := ⟨st, k _ _ W.n1 W.enm, k _ _ W.n2 W.esm, W.n1, W.n2⟩
theorem Wr.oth {H H' : Hp} {s nm sm : Addr} {xs : List Str} {ss : List Int} (W : Wr H s nm sm xs ss) (k : Oth s H H') (st : Strm H' s) : Wr H' s nm sm xs ss := W.keep ((Keep.refl s H).oth k) st
theorem Wr.new {H : Hp} {s nm sm q : Addr} {o : HO} {xs : List Str} {ss : List Int} (W : Wr H s nm sm xs ss) (n : H q = none) : Wr (upd H q o) s nm sm xs ss := W.keep (Keep.same (same_new n)) (W.st.upd fun z => W.st.some (z ▸ n))
theorem Wr.other {H : Hp} {s nm sm q : Addr} {o : HO} {xs : List Str} {ss : List Int} (W : Wr H s nm sm xs ss) (h1 : nm ≠ q) (h2 : sm ≠ q) (h3 : s ≠ q) : Wr (upd H q o) s nm sm xs ss := ⟨W.st.upd h3, by rw [upd_ne h1]; exact W.enm, by rw [upd_ne h2]; exact W.esm, W.n1, W.n2⟩
theorem EdL.oth {H H' : Hp} {p l : Addr} {ts : List (Addr × Edg)} (B : EdL H l ts) (st : Strm H p) (hl : l ≠ p) (k : Oth p H H') : EdL H' l ts := B.keep st hl ((Keep.refl p H).oth k)
theorem tup_mem {ts us : List (Addr × Edg)} {H : Hp} {l l' : Addr} (B : EdL H l ts) (h : ∀ u ∈ us, u ∈ ts) (e : H l' = some (.lst (us.map fun t => V.ref t.1))) : EdL H l' us := ⟨e, fun u hu => B.tup u (h u hu)⟩
def lettersW : Str := "abcdefghijklmnopqrstuvwxyz"
theorem lettersW_len : lettersW.cps.toList.length = 26 := by decide +kernel
def scl (v : Int) : Prop := v = 1 ∨ v = 1000000000000000000
theorem scl_of {v : Int} (h : v ∈ [1, 1, 1, 1, 1, 1, 1, (10 : Int) ^ (18 : Int).toNat]) : scl v := by
  have e : (10 : Int) ^ (18 : Int).toNat = 1000000000000000000 := by decide
  rw [e] at h
  simp only [List.mem_cons, List.not_mem_nil, or_false] at h
  unfold scl
  rcases h with h | h | h | h | h | h | h | h <;> simp [h]
theorem scl_lo {v : Int} (h : scl v) : -(2 ^ 64) < v := by rcases h with rfl | rfl <;> decide
theorem scl_hi {v : Int} (h : scl v) : v < 2 ^ 64 := by rcases h with rfl | rfl <;> decide
section
variable {P : Program} {w : World} {K : PySem.W.Frag} {mg : Str → Option Value} {base : Heap}
abbrev sWrg : Stmt := topS 11
abbrev nWrg : List Str := ["_law_stream_here", "_law_second", "_law_count", "_law_letters", "_law_shift", "_law_scale", "_law_k", "_law_names_here", "_law_whole", "_law_sums", "_law_ring", "_law_start", "_law_turned", "_law_edges", "_law_edge", "_law_turn", "_law_at", "_law_other", "_law_span"]
theorem scWrg : FnScope nWrg ["_law_stream_here", "_law_second", "_law_count"] (defScope sWrg) := ⟨rfl, rfl, rfl, by decide +kernel, rfl, by decide +kernel, by decide +kernel⟩
def spWrg : Sp := fun vs H Q _ => ∃ (p s : Addr) (n : Nat), vs = [.ref p, .ref s, .int (n : Int)] ∧ Strm H p ∧ Strm H s ∧ p ≠ s ∧ 2 ≤ n ∧ n ≤ 20 ∧
  ∀ (H' : Hp) (l : Addr) (ts : List (Addr × Edg)), EdL H' l ts → ts.length ≤ 200 → Q (.ref l) H'
theorem ok_Wrg {f f0 : Addr} {fd fd0 : FuncData} (F : Fun K "_law_wide_ring" "_law_wide_ring" sWrg f fd) (B : Bt mg) (zmin : mg "min" = none) (D : Call P w K mg base 1 "_law_next" f0 fd0 ["_law_stream_here", "_law_size"] spDraw) :
    FnOk P w K mg base CX0 2 f fd ["_law_stream_here", "_law_second", "_law_count"] spWrg := by
  refine F.ok scWrg (fun vs H Q E h => ?_) (fun cdv A outer s H vs Q E hr h => ?_)
  · obtain ⟨p, s, n, rfl, _⟩ := h
    rfl
  · obtain ⟨p, s, n, rfl, hp, hs, ps, n2, n20, q⟩ := h
    have nd := scWrg.nd
    refine ⟨_, pss_cons (ps_set (i := 3) nd rfl (.inr rfl) pe_str)
      (pss_cons (ps_set (i := 4) nd rfl (.inr rfl) (pe_call D.ok (hr.mono (by decide)) (by rfl) D.at_ D.kp D.bd .nil pass0 (pa_cons (pv 0) (pa_cons pe_int pa_nil))))
      (pss_cons (ps_set (i := 5) nd rfl (.inr rfl) (pe_ix ix_list (pe_lst (pa_cons pe_int (pa_cons pe_int (pa_cons pe_int (pa_cons pe_int (pa_cons pe_int (pa_cons pe_int (pa_cons pe_int (pa_cons (pe_op op_pow pe_int pe_int) pa_nil))))))))) (pe_call D.ok (hr.mono (by decide)) (by rfl) D.at_ D.kp D.bd .nil pass0 (pa_cons (pv 0) (pa_cons pe_int pa_nil))) (fun _ _ => rfl)))
      (pss_cons (ps_set (i := 7) nd rfl (.inr rfl) (pe_lc (own := [("_law_k", 6)]) (g := gName 6) (tt := tYes)  rfl nd (pi_range1 (by rfl) B.range (pa_cons (pv 2) pa_nil)) (blkOk_by (N := nWrg) (sc := defScope sWrg) (by decide +kernel)) (fun _ _ _ _ _ => pg_name (i := 6) nd rfl (.inl rfl)) (fun _ _ _ _ _ => pts_nil)
          (fun _ _ _ _ _ => (pe_op op_add_str (pe_ix ix_str (pv 3) (pe_op op_mod (pe_callTy call_int1 (by rfl) B.int PyProof.Rows.boot_int (pa_cons (pe_op op_add (pe_op op_mul pe_int (pv 6)) (pv 4)) pa_nil)) pe_int) (fun _ _ => rfl)) (pe_ix (r := rIxL K) ix_list (pe_lst (pa_cons pe_str (pa_cons pe_str (pa_cons pe_str pa_nil)))) (pe_op op_mod (pe_callTy call_int1 (by rfl) B.int PyProof.Rows.boot_int (pa_cons (pv 6) pa_nil)) pe_int) (fun _ _ => rfl))))))
      (pss_cons (ps_set (i := 8) nd rfl (.inl rfl) (pe_op op_sub (pe_call D.ok (hr.mono (by decide)) (by rfl) D.at_ D.kp D.bd .nil pass0 (pa_cons (pv 1) (pa_cons pe_int pa_nil))) pe_int))
      (pss_cons (ps_set (i := 9) nd rfl (.inr rfl) (pe_lst (pa_cons pe_int pa_nil)))
      (pss_cons (ps_for PassesOwn.never rfl (pi_range1 (by rfl) B.range (pa_cons (pe_op op_sub (pv 2) pe_int) pa_nil)) (pg_name (i := 6) nd rfl (.inl rfl))
        (pss_one (ps_expr (pe_bm PySem.F.plainAttrs_list PySem.F.slot_list_append PySem.F.type_list_append mt_append (pv 9) (pa_cons (pe_op op_sub (pe_op op_add (pe_ix ix_list (pv 9) (pv 6) (fun _ _ => rfl)) (pe_call D.ok (hr.mono (by decide)) (by rfl) D.at_ D.kp D.bd .nil pass0 (pa_cons (pv 1) (pa_cons pe_int pa_nil)))) pe_int) pa_nil)))))
      (pss_cons (ps_expr (pe_bm PySem.F.plainAttrs_list PySem.F.slot_list_append PySem.F.type_list_append mt_append (pv 9) (pa_cons (pv 8) pa_nil)))
      (pss_cons (ps_setLc (i := 10) (own := [("_law_k", 6)]) (g := gName 6) (tt := tYes)  rfl nd rfl rfl (by rfl) (pi_range1 (by rfl) B.range (pa_cons (pv 2) pa_nil)) (blkOk_by (N := nWrg) (sc := defScope sWrg) (by decide +kernel)) (fun _ _ _ _ _ => pg_name (i := 6) nd rfl (.inl rfl)) (fun _ _ _ _ _ => pts_nil)
          (fun _ _ _ _ _ => (pe_tup (pa_cons (pe_ix (r := rIxL K) ix_list (pv 7) (pv 6) (fun _ _ => rfl)) (pa_cons (pe_ix (r := rIxL K) ix_list (pv 7) (pe_op op_mod (pe_callTy call_int1 (by rfl) B.int PyProof.Rows.boot_int (pa_cons (pe_op op_add (pv 6) pe_int) pa_nil)) (pv 2)) (fun _ _ => rfl)) (pa_cons (pe_op op_mul (pe_op op_sub (pe_ix (r := rIxL K) ix_list (pv 9) (pe_op op_add (pv 6) pe_int) (fun _ _ => rfl)) (pe_ix (r := rIxL K) ix_list (pv 9) (pv 6) (fun _ _ => rfl))) (pv 5)) pa_nil))))))
      (pss_cons (ps_set (i := 11) nd rfl (.inl rfl) (pe_call D.ok (hr.mono (by decide)) (by rfl) D.at_ D.kp D.bd .nil pass0 (pa_cons (pv 1) (pa_cons (pv 2) pa_nil))))
      (pss_cons (ps_set (i := 12) nd rfl (.inr rfl) (pe_op op_cat (pe_slice sl_list (pv 10) (po_some (pv 11)) po_none) (pe_slice sl_list (pv 10) po_none (po_some (pv 11)))))
      (pss_cons (ps_set (i := 13) nd rfl (.inl rfl) (pe_callTy call_list_of (by rfl) B.list PyProof.Rows.boot_list (pa_cons (pv 12) pa_nil)))
      (pss_cons (ps_if (pt_cmpR op_eq (pe_call D.ok (hr.mono (by decide)) (by rfl) D.at_ D.kp D.bd .nil pass0 (pa_cons (pv 1) (pa_cons pe_int pa_nil))) pe_int rfl)
        (pss_one (ps_setLc (i := 13) (own := [("_law_k", 6)]) (g := gName 6) (tt := tYes)  rfl nd rfl rfl (by rfl) (pi_range1 (by rfl) B.range (pa_cons (pv 2) pa_nil)) (blkOk_by (N := nWrg) (sc := defScope sWrg) (by decide +kernel)) (fun _ _ _ _ _ => pg_name (i := 6) nd rfl (.inl rfl)) (fun _ _ _ _ _ => pts_nil)
              (fun _ _ _ _ _ => (pe_ix (r := rIxL K) ix_list (pv 12) (pe_op op_sub (pe_op op_sub (pv 2) pe_int) (pv 6)) (fun _ _ => rfl)))))
        pss_nil)
      (pss_cons (ps_for PassesOwn.never rfl (pi_list (pe_slice sl_list (pv 12) po_none (po_some (pe_op op_mul (pv 2) (pe_call D.ok (hr.mono (by decide)) (by rfl) D.at_ D.kp D.bd .nil pass0 (pa_cons (pv 1) (pa_cons pe_int pa_nil))))))) (pg_name (i := 14) nd rfl (.inl rfl))
        (pss_one (ps_for PassesOwn.never rfl (pi_range1 (by rfl) B.range (pa_cons (pe_call D.ok (hr.mono (by decide)) (by rfl) D.at_ D.kp D.bd .nil pass0 (pa_cons (pv 1) (pa_cons pe_int pa_nil))) pa_nil)) (pg_name (i := 15) nd rfl (.inl rfl))
            (pss_one (ps_expr (pe_bm PySem.F.plainAttrs_list PySem.F.slot_list_append PySem.F.type_list_append mt_append (pv 13) (pa_cons (pe_tup (pa_cons (pe_ix ix_tup (pv 14) pe_int (fun _ _ => rfl)) (pa_cons (pe_ix ix_tup (pv 14) pe_int (fun _ _ => rfl)) (pa_cons (pe_op op_add (pe_ix ix_tup (pv 14) pe_int (fun _ _ => rfl)) (pe_op op_mul (pe_call D.ok (hr.mono (by decide)) (by rfl) D.at_ D.kp D.bd .nil pass0 (pa_cons (pv 1) (pa_cons pe_int pa_nil))) (pv 5))) pa_nil)))) pa_nil)))))))
      (pss_cons (ps_for PassesOwn.never rfl (pi_range1 (by rfl) B.range (pa_cons (pe_callB (call_min2 rfl) (by rfl) zmin PyProof.Rows.boot_min (pa_cons (pe_call D.ok (hr.mono (by decide)) (by rfl) D.at_ D.kp D.bd .nil pass0 (pa_cons (pv 1) (pa_cons pe_int pa_nil))) (pa_cons (pe_op op_sub pe_int (pe_callB call_len_seq (by rfl) B.len PySem.boot_len (pa_cons (pv 13) pa_nil))) pa_nil))) pa_nil)) (pg_name (i := 6) nd rfl (.inl rfl))
        (pss_cons (ps_set (i := 16) nd rfl (.inl rfl) (pe_call D.ok (hr.mono (by decide)) (by rfl) D.at_ D.kp D.bd .nil pass0 (pa_cons (pv 1) (pa_cons (pv 2) pa_nil))))
          (pss_cons (ps_set (i := 17) nd rfl (.inl rfl) (pe_call D.ok (hr.mono (by decide)) (by rfl) D.at_ D.kp D.bd .nil pass0 (pa_cons (pv 1) (pa_cons (pv 2) pa_nil))))
          (pss_cons (ps_set (i := 18) nd rfl (.inl rfl) (pe_op op_sub (pe_ix ix_list (pv 9) (pv 17) (fun _ _ => rfl)) (pe_ix ix_list (pv 9) (pv 16) (fun _ _ => rfl))))
          (pss_cons (ps_if (pt_cmpR op_le (pv 17) (pv 16) rfl)
            (pss_one (ps_set (i := 18) nd rfl (.inl rfl) (pe_op op_add (pv 18) (pv 8))))
            pss_nil)
          (pss_one (ps_expr (pe_bm PySem.F.plainAttrs_list PySem.F.slot_list_append PySem.F.type_list_append mt_append (pv 13) (pa_cons (pe_tup (pa_cons (pe_ix ix_list (pv 7) (pv 16) (fun _ _ => rfl)) (pa_cons (pe_ix ix_list (pv 7) (pv 17) (fun _ _ => rfl)) (pa_cons (pe_op op_mul (pe_op op_sub (pe_op op_add (pv 18) (pe_call D.ok (hr.mono (by decide)) (by rfl) D.at_ D.kp D.bd .nil pass0 (pa_cons (pv 1) (pa_cons pe_int pa_nil)))) pe_int) (pv 5)) pa_nil)))) pa_nil)))))))))
      (pss_one (ps_ret (pv 13))))))))))))))))), ?_⟩
    refine ⟨_, rfl, p, 26, rfl, hp, by decide, by decide, fun H1 sh o1 st1 s0 s1 => ?_⟩
    have ss1 : Strm H1 s := hs.keep ((Keep.refl p H).oth o1) ps.symm
    refine ⟨_, _, rfl, rfl, ⟨by decide, by decide, by decide⟩, by show 8 ≤ sizeLine; decide, fun L nL => ?_⟩
    have pL : p ≠ L := fun z => st1.some (z ▸ nL)
    have sL : s ≠ L := fun z => ss1.some (z ▸ nL)
    refine ⟨_, rfl, p, 8, rfl, st1.upd pL, by decide, by decide, fun H2 c o2 st2 c0 c1 => ?_⟩
    obtain ⟨sc, scm, sca⟩ := at_in (ns := [1, 1, 1, 1, 1, 1, 1, (10 : Int) ^ (18 : Int).toNat]) c0 c1
    have hsc := scl_of scm
    have ss2 : Strm H2 s := (ss1.upd sL).keep ((Keep.refl p _).oth o2) ps.symm
    refine ⟨L, _, _, .int sc, rfl, rfl, sl_map ((o2 L pL.symm).trans upd_same), sca, ?_⟩
    clear o2 o1 st1 ss1 st2 hp hs
    refine ⟨_, rfl, (n : Int), rfl, by omega, by omega, fun nm nnm => ?_⟩
    have snm : s ≠ nm := fun z => ss2.some (z ▸ nnm)
    refine lc_range (lo := 0) (n := n) (fun i H' => Strm H' s ∧ ∃ xs : List Str, H' nm = some (.lst (xs.map V.str)) ∧ xs.length = i) ⟨ss2.upd snm, [], upd_same, rfl⟩ ?_ ?_
    · rintro i H3 hi ⟨ss3, xs, enm, lx⟩
      obtain ⟨ch, _, hch⟩ := at_any (xs := lettersW.cps.toList) (d := (5 * (0 + (i : Int)) + sh) % 26) (by omega) (by rw [lettersW_len]; omega)
      refine ⟨rfl, _, rfl, _, rfl, _, _, rfl, rfl, .inl ⟨by decide, by decide⟩, _, rfl, _, _, rfl, rfl, .inl ⟨_, rfl, _, _, rfl, rfl, by show (0 : Int) < 26; decide, lettersW, _, ch, rfl, rfl, by decide +kernel, hch, ?_⟩⟩
      refine ⟨by show 3 ≤ sizeLine; decide, fun M nM => ?_⟩
      have snM : s ≠ M := fun z => ss3.some (z ▸ nM)
      have nmM : nm ≠ M := fun z => by rw [z] at enm; rw [enm] at nM; cases nM
      obtain ⟨w, wm, aw⟩ := at_inS (ns := ["", "7", "_up"]) (d := (0 + (i : Int)) % 3) (by omega) (by show _ < ((3 : Nat) : Int); omega)
      have lw : w.length ≤ 3 := by
        simp only [List.mem_cons, List.not_mem_nil, or_false] at wm
        rcases wm with rfl | rfl | rfl <;> decide +kernel
      refine ⟨_, rfl, .inl ⟨_, rfl, _, _, rfl, rfl, by show (0 : Int) < 3; decide, M, _, _, .str w, rfl, rfl, sl_map upd_same, aw, _, _, rfl, rfl, Nat.le_of_lt (small1000 (by show 1 + w.length ≤ 1000; omega)), xs.map V.str, by rw [upd_ne nmM]; exact enm, by rw [List.length_map]; exact small1000 (by omega), (ss3.upd snM).upd snm, xs ++ [⟨#[ch]⟩ ++ w], by rw [upd_same, List.map_append] <;> rfl, by rw [List.length_append, lx] <;> rfl⟩⟩
    · rintro H3 ⟨ss3, xs, enm, lx⟩
      refine ⟨_, rfl, s, 3, rfl, ss3, by decide, by decide, fun H4 wh o4 ss4 w0 w1 => ⟨_, _, rfl, rfl, ?_⟩⟩
      have enm4 := (o4 nm snm.symm).trans enm
      refine ⟨by show 1 ≤ sizeLine; decide, fun sm nsm => ?_⟩
      have ssm : s ≠ sm := fun z => ss4.some (z ▸ nsm)
      have nmsm : nm ≠ sm := fun z => by rw [z] at enm4; rw [enm4] at nsm; cases nsm
      have W0 : Wr (upd H4 sm (.lst ([(0 : Int)].map V.int))) s nm sm xs [0] := ⟨ss4.upd ssm, by rw [upd_ne nmsm]; exact enm4, upd_same, snm.symm, ssm.symm⟩
      refine ⟨_, rfl, _, _, rfl, rfl, ((n - 1 : Nat) : Int), by show [V.int ((n : Int) - 1)] = _; rw [show ((n - 1 : Nat) : Int) = (n : Int) - 1 by omega], by omega, by omega, for_range (lo := 0) (n := n - 1) (fun i σ H' => ∃ (y6 : Option V) (ss : List Int), σ = [some (.ref p), some (.ref s), some (.int (n : Int)), some (.str lettersW), some (.int sh), some (.int sc), y6, some (.ref nm), some (.int (wh - 1)), some (.ref sm), none, none, none, none, none, none, none, none, none] ∧ Wr H' s nm sm xs ss ∧ ss.length = i + 1) ⟨none, [0], rfl, W0, rfl⟩ ?_ ?_⟩
      · rintro i σ H5 hi ⟨y6, ss, rfl, W, ls⟩
        obtain ⟨v, _, av⟩ := at_in (ns := ss) (d := 0 + (i : Int)) (by omega) (by omega)
        refine ⟨_, rfl, .inl ⟨rfl, _, sl_map W.esm⟩, _, rfl, _, rfl, sm, _, _, .int v, rfl, rfl, sl_map W.esm, av, _, rfl, s, 7, rfl, W.st, by decide, by decide, fun H6 d o6 ss6 d0 d1 => ⟨_, _, rfl, rfl, _, _, rfl, rfl, ?_⟩⟩
        have W6 := W.oth o6 ss6
        refine ⟨sm, _, _, rfl, rfl, W6.esm, by rw [List.length_map]; exact small1000 (by omega), _, ss ++ [v + d - 3], rfl, ⟨ss6.upd ssm, by rw [upd_ne nmsm]; exact W6.enm, by rw [upd_same, List.map_append] <;> rfl, snm.symm, ssm.symm⟩, by rw [List.length_append, ls] <;> rfl⟩
      rintro σ H5 ⟨y6, ss, rfl, W, ls⟩
      refine ⟨_, rfl, .inl ⟨rfl, _, sl_map W.esm⟩, _, rfl, sm, _, _, rfl, rfl, W.esm, by rw [List.length_map]; exact small1000 (by omega), ?_⟩
      obtain ⟨us, hus⟩ : ∃ us, us = ss ++ [wh - 1] := ⟨_, rfl⟩
      have lu : us.length = n + 1 := by rw [hus, List.length_append, ls]; show n - 1 + 1 + 1 = _; omega
      have W6 : Wr (upd H5 sm (.lst (ss.map V.int ++ [V.int (wh - 1)]))) s nm sm xs us := ⟨W.st.upd ssm, by rw [upd_ne nmsm]; exact W.enm, by rw [upd_same, hus, List.map_append] <;> rfl, snm.symm, ssm.symm⟩
      generalize upd H5 sm (.lst (ss.map V.int ++ [V.int (wh - 1)])) = H6 at W6
      clear W H5 W0 o4 ss4 enm4 nsm H4 ss3 enm H3
      refine ⟨_, rfl, (n : Int), rfl, by omega, by omega, fun rg nrg => ?_⟩
      have srg : s ≠ rg := fun z => W6.st.some (z ▸ nrg)
      have mrg : nm ≠ rg := fun z => by have := W6.enm; rw [z, nrg] at this; cases this
      have urg : sm ≠ rg := fun z => by have := W6.esm; rw [z, nrg] at this; cases this
      refine lc_range (lo := 0) (n := n) (fun i H' => Wr H' s nm sm xs us ∧ ∃ ts : List (Addr × Edg), EdL H' rg ts ∧ ts.length = i) ⟨W6.new nrg, [], ⟨upd_same, (fun _ h => nomatch h)⟩, rfl⟩ ?_ ?_
      · rintro i H7 hi ⟨W7, ts, el, lt⟩
        obtain ⟨a, _, aa⟩ := at_inS (ns := xs) (d := 0 + (i : Int)) (by omega) (by omega)
        obtain ⟨b, _, ab⟩ := at_inS (ns := xs) (d := (0 + (i : Int) + 1) % (n : Int)) (Int.emod_nonneg _ (by omega)) (by have := Int.emod_lt_of_pos (0 + (i : Int) + 1) (show (0 : Int) < (n : Int) by omega); omega)
        obtain ⟨u, _, au⟩ := at_in (ns := us) (d := 0 + (i : Int) + 1) (by omega) (by omega)
        obtain ⟨v, _, av⟩ := at_in (ns := us) (d := 0 + (i : Int)) (by omega) (by omega)
        refine ⟨rfl, _, rfl, _, rfl, nm, _, _, .str a, rfl, rfl, sl_map W7.enm, aa, _, rfl, _, rfl, _, _, rfl, rfl, .inl ⟨_, rfl, _, rfl, _, _, rfl, rfl, by omega, nm, _, _, .str b, rfl, rfl, sl_map W7.enm, ab, ?_⟩⟩
        refine ⟨_, rfl, _, rfl, _, _, rfl, rfl, sm, _, _, .int u, rfl, rfl, sl_map W7.esm, au, _, rfl, _, rfl, sm, _, _, .int v, rfl, rfl, sl_map W7.esm, av, _, _, rfl, rfl, _, rfl, _, _, rfl, rfl, .inr ⟨scl_lo hsc, scl_hi hsc⟩, by show 3 ≤ sizeLine; decide, fun T nT => ?_⟩
        have el2 := el.new (o := HO.tup [V.str a, .str b, .int ((u - v) * sc)]) nT
        refine ⟨_, el2.lst, by rw [List.length_map]; exact small1000 (by omega), (W7.new nT).other mrg urg srg, ts ++ [(T, (a, b, (u - v) * sc))], el2.push upd_same, by rw [List.length_append, lt] <;> rfl⟩
      rintro H7 ⟨W7, ts, el, lt⟩
      refine ⟨_, rfl, _, rfl, s, _, rfl, W7.st, by omega, by omega, fun H8 st o8 ss8 t0 t1 => ?_⟩
      obtain ⟨k, rfl⟩ : ∃ k : Nat, st = (k : Int) := ⟨st.toNat, by omega⟩
      have W8 := W7.oth o8 ss8
      have el8 := el.oth W7.st srg.symm o8
      refine ⟨_, rfl, _, rfl, _, rfl, rg, _, rfl, sl_map el8.lst, fun p1 np1 => ?_⟩
      have W9 := W8.new (o := HO.lst (cutV (ts.map fun t => V.ref t.1) (some (k : Int)) none)) np1
      have el9 := el8.new (o := HO.lst (cutV (ts.map fun t => V.ref t.1) (some (k : Int)) none)) np1
      refine ⟨_, rfl, _, rfl, _, rfl, rg, _, rfl, sl_map el9.lst, fun p2 np2 => ?_⟩
      have W10 := W9.new (o := HO.lst (cutV (ts.map fun t => V.ref t.1) none (some (k : Int)))) np2
      have el10 := el9.new (o := HO.lst (cutV (ts.map fun t => V.ref t.1) none (some (k : Int)))) np2
      have e12 : p1 ≠ p2 := fun z => by rw [← z, upd_same] at np2; cases np2
      have ep1 : (upd (upd H8 p1 (HO.lst (cutV (ts.map fun t => V.ref t.1) (some (k : Int)) none))) p2 (HO.lst (cutV (ts.map fun t => V.ref t.1) none (some (k : Int))))) p1 = some (HO.lst (cutV (ts.map fun t => V.ref t.1) (some (k : Int)) none)) := by rw [upd_ne e12, upd_same]
      have ep2 : (upd (upd H8 p1 (HO.lst (cutV (ts.map fun t => V.ref t.1) (some (k : Int)) none))) p2 (HO.lst (cutV (ts.map fun t => V.ref t.1) none (some (k : Int))))) p2 = some (HO.lst (cutV (ts.map fun t => V.ref t.1) none (some (k : Int)))) := upd_same
      generalize upd (upd H8 p1 (HO.lst (cutV (ts.map fun t => V.ref t.1) (some (k : Int)) none))) p2 (HO.lst (cutV (ts.map fun t => V.ref t.1) none (some (k : Int)))) = H10 at W10 el10 ep1 ep2
      refine ⟨p1, p2, _, _, rfl, rfl, ep1, ep2, ?_, fun tn ntn => ?_⟩
      · rw [cutV_from, cutV_to, List.length_drop, List.length_take, List.length_map]
        exact Nat.le_of_lt (small1000 (by omega))
      obtain ⟨vs, hvs⟩ : ∃ vs, vs = ts.drop k ++ ts.take k := ⟨_, rfl⟩
      have evs : cutV (ts.map fun t => V.ref t.1) (some (k : Int)) none ++ cutV (ts.map fun t => V.ref t.1) none (some (k : Int)) = vs.map fun t => V.ref t.1 := by
        rw [cutV_from, cutV_to, hvs, List.map_append, List.map_drop, List.map_take]
      have lv : vs.length = n := by rw [hvs, List.length_append, List.length_drop, List.length_take]; omega
      rw [evs]
      have stn : s ≠ tn := fun z => W10.st.some (z ▸ ntn)
      have W11 := W10.new (o := HO.lst (vs.map fun t => V.ref t.1)) ntn
      have tl : EdL (upd H10 tn (.lst (vs.map fun t => V.ref t.1))) tn vs := tup_mem (el10.new ntn) (fun u hu => by
        rw [hvs] at hu
        rcases List.mem_append.mp hu with h | h
        · exact List.mem_of_mem_drop h
        · exact List.mem_of_mem_take h) upd_same
      generalize upd H10 tn (.lst (vs.map fun t => V.ref t.1)) = H11 at W11 tl
      clear el10 ep1 ep2 W10 W9 el9 W8 el8 o8 ss8 W7 el ntn H10 np1 np2 e12 p1 p2 H8 H7 W6 H6 nrg
      refine ⟨_, rfl, tn, _, rfl, .inl (sl_map tl.lst), fun ed ned => ?_⟩
      have en : ∀ {H : Hp} {e : Addr}, Wr H s nm sm xs us → EdL H tn vs → H e = none → s ≠ e ∧ nm ≠ e ∧ sm ≠ e ∧ tn ≠ e := fun {H e} W t h => ⟨(fun z => W.st.some (z ▸ h)), (fun z => by have := W.enm; rw [z, h] at this; cases this), (fun z => by have := W.esm; rw [z, h] at this; cases this), (fun z => by have := t.lst; rw [z, h] at this; cases this)⟩
      refine' with_restS (fun σ H' => ∃ (ed : Addr) (y6 : Option V) (ws : List (Addr × Edg)), σ = [some (.ref p), some (.ref s), some (.int (n : Int)), some (.str lettersW), some (.int sh), some (.int sc), y6, some (.ref nm), some (.int (wh - 1)), some (.ref sm), some (.ref rg), some (.int (k : Int)), some (.ref tn), some (.ref ed), none, none, none, none, none] ∧ Wr H' s nm sm xs us ∧ EdL H' tn vs ∧ EdL H' ed ws ∧ ws.length = n ∧ s ≠ ed ∧ nm ≠ ed ∧ sm ≠ ed ∧ tn ≠ ed) ?r1
        (fun rest => ⟨_, rfl, s, 2, rfl, (W11.new ned).st, by decide, by decide, fun H12 c o12 ss12 c0 c1 => ⟨rfl, _, rfl, ite_both (fun _ => ?cA) (fun _ => rest _ _ ⟨ed, y6, vs, rfl, (W11.new ned).oth o12 ss12, (tl.new ned).oth (W11.new ned).st stn.symm o12, (show EdL _ ed vs from tup_mem (tl.new ned) (fun u h => h) upd_same).oth (W11.new ned).st (en W11 tl ned).1.symm o12, lv, en W11 tl ned⟩)⟩⟩)
      case cA =>
        have W12 := (W11.new (o := HO.lst (vs.map fun t => V.ref t.1)) ned).oth o12 ss12
        have tl12 := (tl.new (o := HO.lst (vs.map fun t => V.ref t.1)) ned).oth (W11.new ned).st stn.symm o12
        refine ⟨_, rfl, (n : Int), rfl, by omega, by omega, fun e2 ne2 => ?_⟩
        refine lc_range (lo := 0) (n := n) (fun i H' => Wr H' s nm sm xs us ∧ EdL H' tn vs ∧ ∃ ws : List (Addr × Edg), EdL H' e2 ws ∧ ws.length = i) ⟨W12.new ne2, tl12.new ne2, [], ⟨upd_same, (fun _ h => nomatch h)⟩, rfl⟩ ?_ ?_
        · rintro i H13 hi ⟨W13, tl13, ws, ew, lw⟩
          obtain ⟨g, gm, ga⟩ := at_any (xs := vs) (d := (n : Int) - 1 - (0 + (i : Int))) (by omega) (by omega)
          have ga' : atI (vs.map fun t => V.ref t.1) ((n : Int) - 1 - (0 + (i : Int))) = some (.ref g.1) := by
            have h : ((n : Int) - 1 - (0 + (i : Int))).toNat < vs.length := by omega
            have := atI_nat (List.getElem?_eq_getElem h)
            rw [show ((((n : Int) - 1 - (0 + (i : Int))).toNat : Nat) : Int) = (n : Int) - 1 - (0 + (i : Int)) by omega, ga] at this
            exact at_int (by omega) (by rw [List.getElem?_map, List.getElem?_eq_getElem h, ← Option.some.inj this] <;> rfl)
          obtain ⟨d1, d2, d3, d4⟩ := en W12 tl12 ne2
          refine ⟨rfl, _, rfl, _, rfl, _, _, rfl, rfl, _, rfl, _, _, rfl, rfl, tn, _, _, .ref g.1, rfl, rfl, sl_map tl13.lst, ga', _, ew.lst, by rw [List.length_map]; exact small1000 (by omega), W13.other d2 d3 d1, tl13.other ew.lst d4, ws ++ [g], ?_, by rw [List.length_append, lw] <;> rfl⟩
          have := ew.push (T := g.1) (e := g.2) (tl13.tup g gm)
          exact this
        · rintro H13 ⟨W13, tl13, ws, ew, lw⟩
          exact rest _ _ ⟨e2, y6, ws, rfl, W13, tl13, ew, lw, en W12 tl12 ne2⟩
      rintro σ H12 ⟨ed, y6, ws, rfl, W12, tl12, ew, lw, d1, d2, d3, d4⟩
      clear W11 tl ned H11
      refine ⟨_, rfl, _, rfl, _, rfl, s, 2, rfl, W12.st, by decide, by decide, fun H13 c o13 ss13 c0 c1 => ⟨_, _, rfl, rfl, .inl ⟨by omega, by omega⟩, ?_⟩⟩
      have W13 := W12.oth o13 ss13
      have tl13 := tl12.oth W12.st stn.symm o13
      have ew13 := ew.oth W12.st d1.symm o13
      obtain ⟨c, rfl⟩ : ∃ m : Nat, c = (m : Int) := ⟨c.toNat, by omega⟩
      refine ⟨((n * c : Nat) : Int), by rw [Int.natCast_mul], tn, _, rfl, sl_map tl13.lst, fun rs nrs => ?_⟩
      rw [cutV_to, ← List.map_take]
      have W14 := W13.new (o := HO.lst ((vs.take (n * c)).map fun t => V.ref t.1)) nrs
      have ew14 := ew13.new (o := HO.lst ((vs.take (n * c)).map fun t => V.ref t.1)) nrs
      have rl : EdL (upd H13 rs (.lst ((vs.take (n * c)).map fun t => V.ref t.1))) rs (vs.take (n * c)) := tup_mem (tl13.new nrs) (fun u hu => List.mem_of_mem_take hu) upd_same
      have rse : rs ≠ ed := fun z => by have := ew13.lst; rw [← z, nrs] at this; cases this
      have rss : rs ≠ s := fun z => W13.st.some (z ▸ nrs)
      generalize upd H13 rs (.lst ((vs.take (n * c)).map fun t => V.ref t.1)) = H14 at W14 ew14 rl
      have lrs : (vs.take (n * c)).length ≤ 20 := by rw [List.length_take]; omega
      refine ⟨rs, rfl, ⟨_, sl_map rl.lst⟩, for_list (xs := (vs.take (n * c)).map fun t => V.ref t.1) (fun i σ H' => ∃ (y6 y14 y15 : Option V) (ws : List (Addr × Edg)), σ = [some (.ref p), some (.ref s), some (.int (n : Int)), some (.str lettersW), some (.int sh), some (.int sc), y6, some (.ref nm), some (.int (wh - 1)), some (.ref sm), some (.ref rg), some (.int (k : Int)), some (.ref tn), some (.ref ed), y14, y15, none, none, none] ∧ Wr H' s nm sm xs us ∧ EdL H' rs (vs.take (n * c)) ∧ EdL H' ed ws ∧ ws.length ≤ n + 4 * i) ⟨y6, none, none, ws, rfl, W14, rl, ew14, by omega⟩ (fun i σ H' _ h => by obtain ⟨_, _, _, _, _, _, h, _⟩ := h; exact sl_map h.lst) ?_ ?_⟩
      · rintro i x σ H15 hx0 ⟨y6, y14, y15, ws, rfl, W15, rl15, ew15, lw15⟩
        rw [List.getElem?_map] at hx0
        obtain ⟨t, ht, rfl⟩ := Option.map_eq_some_iff.mp hx0
        have tm := List.mem_of_getElem? ht
        have hi := (List.getElem?_eq_some_iff.mp ht).1
        refine ⟨_, rfl, s, 4, rfl, W15.st, by decide, by decide, fun H16 m o16 ss16 m0 m1 => ?_⟩
        obtain ⟨m, rfl⟩ : ∃ j : Nat, m = (j : Int) := ⟨m.toNat, by omega⟩
        refine ⟨(m : Int), rfl, by omega, by omega, for_range (lo := 0) (n := m) (fun j σ H' => ∃ (y15 : Option V) (ws : List (Addr × Edg)), σ = [some (.ref p), some (.ref s), some (.int (n : Int)), some (.str lettersW), some (.int sh), some (.int sc), y6, some (.ref nm), some (.int (wh - 1)), some (.ref sm), some (.ref rg), some (.int (k : Int)), some (.ref tn), some (.ref ed), some (.ref t.1), y15, none, none, none] ∧ Wr H' s nm sm xs us ∧ EdL H' rs (vs.take (n * c)) ∧ EdL H' ed ws ∧ ws.length ≤ n + 4 * i + j) ⟨y15, ws, rfl, W15.oth o16 ss16, rl15.oth W15.st rss o16, ew15.oth W15.st d1.symm o16, by omega⟩ ?_ ?_⟩
        · rintro j σ H17 hj ⟨y15, ws, rfl, W17, rl17, ew17, lw17⟩
          have tt := rl17.tup t tm
          have sT : t.1 ≠ s := fun z => by obtain ⟨x, y, w, e⟩ := W17.st; rw [z, e] at tt; cases tt
          refine ⟨_, rfl, .inl ⟨rfl, _, sl_map ew17.lst⟩, _, rfl, t.1, _, _, .str t.2.1, rfl, rfl, .inl (.inl tt), atI_nat (j := 0) rfl, _, rfl, t.1, _, _, .str t.2.2.1, rfl, rfl, .inl (.inl tt), atI_nat (j := 1) rfl, _, rfl, t.1, _, _, .int t.2.2.2, rfl, rfl, .inl (.inl tt), atI_nat (j := 2) rfl, _, rfl, s, 3, rfl, W17.st, by decide, by decide, fun H18 v o18 ss18 v0 v1 => ⟨_, rfl, _, _, rfl, rfl, .inl ⟨by omega, by omega⟩, _, _, rfl, rfl, by show 3 ≤ sizeLine; decide, fun T nT => ?_⟩⟩
          have W18 := W17.oth o18 ss18
          have rl18 := rl17.oth W17.st rss o18
          have ew18 := (ew17.oth W17.st d1.symm o18).new (o := HO.tup [V.str t.2.1, .str t.2.2.1, .int (t.2.2.2 + v * sc)]) nT
          exact ⟨ed, _, _, rfl, rfl, ew18.lst, by rw [List.length_map]; exact small1000 (by omega), _, ws ++ [(T, (t.2.1, t.2.2.1, t.2.2.2 + v * sc))], rfl, (W18.new nT).other d2 d3 d1, (rl18.new nT).other ew18.lst rse, ew18.push upd_same, by rw [List.length_append]; show ws.length + 1 ≤ _; omega⟩
        · rintro σ H17 ⟨y15, ws, rfl, W17, rl17, ew17, lw17⟩
          exact ⟨_, _, _, ws, rfl, W17, rl17, ew17, by omega⟩
      rintro σ H15 ⟨y6, y14, y15, ws, rfl, W15, rl15, ew15, lw15⟩
      rw [List.length_map] at lw15
      clear rl15 rl ew14 W14 ew13 tl13 W13 o13 ss13 ew tl12 W12
      refine ⟨_, rfl, s, 9, rfl, W15.st, by decide, by decide, fun H16 c o16 ss16 c0 c1 => ?_⟩
      have W16 := W15.oth o16 ss16
      have ew16 := ew15.oth W15.st d1.symm o16
      refine ⟨_, rfl, ed, _, rfl, .inl (sl_map ew16.lst), _, _, rfl, rfl, _, _, rfl, ?_⟩
      obtain ⟨z, hz⟩ : ∃ z : Int, z = (if 64 - (((ws.map fun t => V.ref t.1).length : Nat) : Int) < c then 64 - (((ws.map fun t => V.ref t.1).length : Nat) : Int) else c) := ⟨_, rfl⟩
      rw [← hz]
      rw [List.length_map] at hz
      have z9 : -1000 ≤ z ∧ z < 9 := by split at hz <;> omega
      refine ⟨z, rfl, by omega, by omega, for_range (lo := 0) (n := z.toNat) (fun j σ H' => ∃ (y6 y16 y17 y18 : Option V) (ws : List (Addr × Edg)), σ = [some (.ref p), some (.ref s), some (.int (n : Int)), some (.str lettersW), some (.int sh), some (.int sc), y6, some (.ref nm), some (.int (wh - 1)), some (.ref sm), some (.ref rg), some (.int (k : Int)), some (.ref tn), some (.ref ed), y14, y15, y16, y17, y18] ∧ Wr H' s nm sm xs us ∧ EdL H' ed ws ∧ ws.length ≤ 150 + j) ⟨y6, none, none, none, ws, rfl, W16, ew16, by omega⟩ ?_ ?_⟩
      · rintro j σ H17 hj ⟨y6, y16, y17, y18, ws, rfl, W17, ew17, lw17⟩
        refine ⟨_, rfl, _, rfl, s, _, rfl, W17.st, by omega, by omega, fun H18 a o18 ss18 a0 a1 => ?_⟩
        have W18 := W17.oth o18 ss18
        have ew18 := ew17.oth W17.st d1.symm o18
        refine ⟨_, rfl, _, rfl, s, _, rfl, W18.st, by omega, by omega, fun H19 b o19 ss19 b0 b1 => ?_⟩
        have W19 := W18.oth o19 ss19
        have ew19 := ew18.oth W18.st d1.symm o19
        obtain ⟨ua, _, aua⟩ := at_in (ns := us) a0 (by omega)
        obtain ⟨ub, _, aub⟩ := at_in (ns := us) b0 (by omega)
        obtain ⟨xa, _, axa⟩ := at_inS (ns := xs) a0 (by omega)
        obtain ⟨xb, _, axb⟩ := at_inS (ns := xs) b0 (by omega)
        refine ⟨_, rfl, _, rfl, sm, _, _, .int ub, rfl, rfl, sl_map W19.esm, aub, _, rfl, _, rfl, sm, _, _, .int ua, rfl, rfl, sl_map W19.esm, aua, _, _, rfl, rfl, ?_⟩
        refine' with_restS (fun σ H' => H' = H19 ∧ ∃ sp : Int, σ = [some (.ref p), some (.ref s), some (.int (n : Int)), some (.str lettersW), some (.int sh), some (.int sc), some (.int (0 + (j : Int))), some (.ref nm), some (.int (wh - 1)), some (.ref sm), some (.ref rg), some (.int (k : Int)), some (.ref tn), some (.ref ed), y14, y15, some (.int a), some (.int b), some (.int sp)]) ?r2
          (fun rest => ⟨_, rfl, _, rfl, _, _, rfl, rfl, _, rfl, ite_both (fun _ => ?cB) (fun _ => rest _ _ ⟨rfl, _, rfl⟩)⟩)
        case cB => exact ⟨_, rfl, _, rfl, _, _, rfl, rfl, rest _ _ ⟨rfl, _, rfl⟩⟩
        rintro σ H' ⟨rfl, sp, rfl⟩
        refine ⟨_, rfl, .inl ⟨rfl, _, sl_map ew19.lst⟩, _, rfl, _, rfl, nm, _, _, .str xa, rfl, rfl, sl_map W19.enm, axa, _, rfl, _, rfl, nm, _, _, .str xb, rfl, rfl, sl_map W19.enm, axb, _, rfl, _, rfl, s, 4, rfl, W19.st, by decide, by decide, fun H20 d o20 ss20 e0 e1 => ⟨_, _, rfl, rfl, _, _, rfl, rfl, _, rfl, _, _, rfl, rfl, .inr ⟨scl_lo hsc, scl_hi hsc⟩, by show 3 ≤ sizeLine; decide, fun T nT => ?_⟩⟩
        have W20 := W19.oth o20 ss20
        have ew20 := (ew19.oth W19.st d1.symm o20).new (o := HO.tup [V.str xa, .str xb, .int ((sp + d - 1) * sc)]) nT
        exact ⟨ed, _, _, rfl, rfl, ew20.lst, by rw [List.length_map]; exact small1000 (by omega), _, _, _, _, ws ++ [(T, (xa, xb, (sp + d - 1) * sc))], rfl, (W20.new nT).other d2 d3 d1, ew20.push upd_same, by rw [List.length_append]; show ws.length + 1 ≤ _; omega⟩
      · rintro σ H17 ⟨y6, y16, y17, y18, ws, rfl, W17, ew17, lw17⟩
        exact ⟨_, rfl, q H17 ed ws ew17 (by omega)⟩
end
end K15

set_option Elab.async false
set_option linter.all false
set_option maxRecDepth 100000
set_option maxHeartbeats 4000000
namespace K15
open PySem PySem.Spec PyProof.Rows L2 Cs CsX
theorem eq_dict {K : PySem.W.Frag} {H : Hp} {a b : Addr} {M : List (Str × Int)} (nd : (M.map (·.1)).Nodup) (ha : H a = some (.dK (intK M))) (hb : H b = some (.dK (intK M))) : EqR K H (EqV K H 1) (.ref a) (.ref b) := by
  refine .inr ⟨a, b, _, _, rfl, rfl, ha, hb, rfl, fun p hp => ?_⟩
  unfold intK at hp
  obtain ⟨e, he, rfl⟩ := List.mem_map.mp hp
  refine ⟨.int e.2, ?_, .inl ⟨rfl, rfl⟩⟩
  show valV (intK M) (Sum.inr e.1) = _
  rw [valV_int, (aget_iff nd e.1 e.2).mpr he] <;> rfl
theorem VF.one {A B : List (Str × Int)} {names : List Str} {f : Str → Int} (a : VF A names f) (b : VF B names f) (nd : names.Nodup) : A = B := by
  have key : ∀ (A : List (Str × Int)), VF A names f → A = names.map fun x => (x, f x) := fun A a => by
    have ndA : (A.map (·.1)).Nodup := by rw [a.keys]; exact nd
    rw [← a.keys, List.map_map]
    conv => lhs; rw [← List.map_id A]
    refine List.map_congr_left fun e he => ?_
    have h1 := (aget_iff ndA e.1 e.2).mpr he
    have h2 := a.val e.1 (by rw [← a.keys]; exact List.mem_map_of_mem he)
    rw [h1] at h2
    show e = (e.1, f e.1)
    rw [← Option.some.inj h2]
  rw [key A a, key B b]
section
variable {P : Program} {w : World} {K : PySem.W.Frag} {mg : Str → Option Value} {base : Heap}
abbrev sCas : Stmt := topS 12
abbrev nCas : List Str := ["_law_script", "_law_stream_here", "_law_large", "_law_count", "_law_second", "_law_names_here", "_law_scale", "_law_edges", "_law_k", "_law_at", "_law_other", "_law_twin"]
theorem scCas : FnScope nCas ["_law_script"] (defScope sCas) := ⟨rfl, rfl, rfl, by decide +kernel, rfl, by decide +kernel, by decide +kernel⟩
def spCas (K : PySem.W.Frag) : Sp := fun vs H Q _ => ∃ (a : Addr) (ns : List Int), vs = [.ref a] ∧ SqL K H a (ns.map V.int) ∧
  ∀ (H' : Hp) (l : Addr) (ts : List (Addr × Edg)), EdL H' l ts → ts.length ≤ 200 → Q (.ref l) H'
theorem ok_Cas {f f0 f1 f2 f3 : Addr} {fd fd0 fd1 fd2 fd3 : FuncData} (F : Fun K "_law_case" "_law_case" sCas f fd) (B : Bt mg) (Cst : Call P w K mg base 1 "_law_stream" f0 fd0 ["_law_script", "_law_k"] (spStream K)) (Cna : Call P w K mg base 2 "_law_names" f1 fd1 ["_law_stream_here", "_law_count"] spNames) (D : Call P w K mg base 1 "_law_next" f2 fd2 ["_law_stream_here", "_law_size"] spDraw) (CWrg : Call P w K mg base 2 "_law_wide_ring" f3 fd3 ["_law_stream_here", "_law_second", "_law_count"] spWrg) :
    FnOk P w K mg base CX0 3 f fd ["_law_script"] (spCas K) := by
  refine F.ok scCas (fun vs H Q E h => ?_) (fun cdv A outer s H vs Q E hr h => ?_)
  · obtain ⟨a, ns, rfl, _⟩ := h
    rfl
  · obtain ⟨a, cs, rfl, ha, q⟩ := h
    have nd := scCas.nd
    refine ⟨_, pss_cons (ps_set (i := 1) nd rfl (.inl rfl) (pe_call Cst.ok (hr.mono (by decide)) (by rfl) Cst.at_ Cst.kp Cst.bd .nil pass0 (pa_cons (pv 0) (pa_cons pe_int pa_nil))))
      (pss_cons (ps_set (i := 2) nd rfl (.inl rfl) (pe_cmpR op_eq (pe_call D.ok (hr.mono (by decide)) (by rfl) D.at_ D.kp D.bd .nil pass0 (pa_cons (pv 1) (pa_cons pe_int pa_nil))) pe_int rfl))
      (pss_cons (ps_set (i := 3) nd rfl (.inl rfl) (pe_op op_add pe_int (pe_call D.ok (hr.mono (by decide)) (by rfl) D.at_ D.kp D.bd .nil pass0 (pa_cons (pv 1) (pa_cons pe_int pa_nil)))))
      (pss_cons (ps_set (i := 4) nd rfl (.inl rfl) (pe_call Cst.ok (hr.mono (by decide)) (by rfl) Cst.at_ Cst.kp Cst.bd .nil pass0 (pa_cons (pv 0) (pa_cons pe_int pa_nil))))
      (pss_cons (ps_if (pt_val (pv 2))
        (pss_one (ps_ret (pe_call CWrg.ok (hr.mono (by decide)) (by rfl) CWrg.at_ CWrg.kp CWrg.bd .nil pass0 (pa_cons (pv 1) (pa_cons (pv 4) (pa_cons (pe_op op_add pe_int (pv 3)) pa_nil))))))
        pss_nil)
      (pss_cons (ps_set (i := 5) nd rfl (.inl rfl) (pe_call Cna.ok (hr.mono (by decide)) (by rfl) Cna.at_ Cna.kp Cna.bd .nil pass0 (pa_cons (pv 1) (pa_cons (pv 3) pa_nil))))
      (pss_cons (ps_set (i := 6) nd rfl (.inl rfl) (pe_ix ix_list (pe_lst (pa_cons pe_int (pa_cons pe_int (pa_cons pe_int (pa_cons pe_int (pa_cons pe_int (pa_cons pe_int (pa_cons pe_int (pa_cons (pe_op op_pow pe_int pe_int) pa_nil))))))))) (pe_call D.ok (hr.mono (by decide)) (by rfl) D.at_ D.kp D.bd .nil pass0 (pa_cons (pv 1) (pa_cons pe_int pa_nil))) (fun _ _ => rfl)))
      (pss_cons (ps_set (i := 7) nd rfl (.inl rfl) (pe_lst pa_nil))
      (pss_cons (ps_for PassesOwn.never rfl (pi_range1 (by rfl) B.range (pa_cons (pe_call D.ok (hr.mono (by decide)) (by rfl) D.at_ D.kp D.bd .nil pass0 (pa_cons (pv 4) (pa_cons pe_int pa_nil))) pa_nil)) (pg_name (i := 8) nd rfl (.inl rfl))
        (pss_cons (ps_set (i := 9) nd rfl (.inl rfl) (pe_call D.ok (hr.mono (by decide)) (by rfl) D.at_ D.kp D.bd .nil pass0 (pa_cons (pv 4) (pa_cons (pv 3) pa_nil))))
          (pss_cons (ps_set (i := 10) nd rfl (.inl rfl) (pe_call D.ok (hr.mono (by decide)) (by rfl) D.at_ D.kp D.bd .nil pass0 (pa_cons (pv 4) (pa_cons (pv 3) pa_nil))))
          (pss_one (ps_expr (pe_bm PySem.F.plainAttrs_list PySem.F.slot_list_append PySem.F.type_list_append mt_append (pv 7) (pa_cons (pe_tup (pa_cons (pe_ix ix_list (pv 5) (pv 9) (fun _ _ => rfl)) (pa_cons (pe_ix ix_list (pv 5) (pv 10) (fun _ _ => rfl)) (pa_cons (pe_op op_mul (pe_op op_sub (pe_call D.ok (hr.mono (by decide)) (by rfl) D.at_ D.kp D.bd .nil pass0 (pa_cons (pv 4) (pa_cons pe_int pa_nil))) pe_int) (pv 6)) pa_nil)))) pa_nil)))))))
      (pss_cons (ps_if (PW.pt (pw_and (pt_cmpR op_gt (pe_callB call_len_seq (by rfl) B.len PySem.boot_len (pa_cons (pv 7) pa_nil)) pe_int rfl) (pw_and1 (pt_cmpR op_eq (pe_call D.ok (hr.mono (by decide)) (by rfl) D.at_ D.kp D.bd .nil pass0 (pa_cons (pv 4) (pa_cons pe_int pa_nil))) pe_int rfl))))
        (pss_cons (ps_set (i := 11) nd rfl (.inl rfl) (pe_ix ix_list (pv 7) (pe_call D.ok (hr.mono (by decide)) (by rfl) D.at_ D.kp D.bd .nil pass0 (pa_cons (pv 4) (pa_cons (pe_callB call_len_seq (by rfl) B.len PySem.boot_len (pa_cons (pv 7) pa_nil)) pa_nil))) (fun _ _ => rfl)))
          (pss_one (ps_expr (pe_bm PySem.F.plainAttrs_list PySem.F.slot_list_append PySem.F.type_list_append mt_append (pv 7) (pa_cons (pe_tup (pa_cons (pe_ix ix_tup (pv 11) pe_int (fun _ _ => rfl)) (pa_cons (pe_ix ix_tup (pv 11) pe_int (fun _ _ => rfl)) (pa_cons (pe_op op_add (pe_ix ix_tup (pv 11) pe_int (fun _ _ => rfl)) (pe_op op_mul (pe_op op_sub (pe_call D.ok (hr.mono (by decide)) (by rfl) D.at_ D.kp D.bd .nil pass0 (pa_cons (pv 4) (pa_cons pe_int pa_nil))) pe_int) (pv 6))) pa_nil)))) pa_nil)))))
        pss_nil)
      (pss_one (ps_ret (pv 7)))))))))))), ?_⟩
    refine ⟨_, rfl, a, cs, 0, rfl, ha, fun H1 p s1 np st1 => ?_⟩
    refine ⟨_, rfl, p, 6, rfl, st1, by decide, by decide, fun H2 g o2 st2 g0 g1 => ⟨rfl, ?_⟩⟩
    generalize decide (V.int g = V.int 0) = lg
    refine ⟨_, rfl, p, 5, rfl, st2, by decide, by decide, fun H3 c o3 st3 c0 c1 => ⟨_, _, rfl, rfl, ?_⟩⟩
    obtain ⟨c, rfl⟩ : ∃ j : Nat, c = (j : Int) := ⟨c.toNat, by omega⟩
    have k3 : Keep p H H3 := ((Keep.same s1).oth o2).oth o3
    refine ⟨_, rfl, a, cs, 1, rfl, sq_keep ha np k3, fun H4 s s4 ns st4 => ?_⟩
    have ps : p ≠ s := fun z => st3.some (z ▸ ns)
    have pt4 : Strm H4 p := st3.keep (Keep.same (p := s) s4) ps
    refine ⟨_, rfl, lg, rfl, ite_both (fun _ => ?_) fun _ => ?_⟩
    · exact ⟨_, rfl, _, rfl, _, rfl, _, _, rfl, rfl, p, s, 11 + (1 + c), rfl, pt4, st4, ps, by omega, by omega, q⟩
    obtain ⟨n, hn⟩ : ∃ n : Nat, n = 1 + c := ⟨_, rfl⟩
    refine ⟨_, rfl, _, rfl, p, n, by rw [hn] <;> rfl, pt4, by omega, fun H5 nm xs k5 nnm st5 enm xnd lx _ => ?_⟩
    have ss5 : Strm H5 s := st4.keep k5 ps.symm
    have pnm : p ≠ nm := fun z => pt4.some (z ▸ nnm)
    have snm : s ≠ nm := fun z => st4.some (z ▸ nnm)
    refine ⟨_, _, rfl, rfl, ⟨by decide, by decide, by decide⟩, by show 8 ≤ sizeLine; decide, fun L nL => ?_⟩
    have pL : p ≠ L := fun z => st5.some (z ▸ nL)
    have sL : s ≠ L := fun z => ss5.some (z ▸ nL)
    have mL : nm ≠ L := fun z => by rw [z, nL] at enm; cases enm
    refine ⟨_, rfl, p, 8, rfl, st5.upd pL, by decide, by decide, fun H6 d o6 st6 d0 d1 => ?_⟩
    obtain ⟨sc, scm, sca⟩ := at_in (ns := [1, 1, 1, 1, 1, 1, 1, (10 : Int) ^ (18 : Int).toNat]) d0 d1
    have hsc := scl_of scm
    have ss6 : Strm H6 s := (ss5.upd sL).keep ((Keep.refl p _).oth o6) ps.symm
    have enm6 : H6 nm = some (.lst (xs.map V.str)) := (o6 nm pnm.symm).trans (by rw [upd_ne mL]; exact enm)
    refine ⟨L, _, _, .int sc, rfl, rfl, sl_map ((o6 L pL.symm).trans upd_same), sca, ?_⟩
    clear o6 st6 enm ss5 st5 k5 pt4 st4 s4
    refine ⟨by show 0 ≤ sizeLine; decide, fun ed ned => ?_⟩
    have sed : s ≠ ed := fun z => ss6.some (z ▸ ned)
    have med : nm ≠ ed := fun z => by rw [z, ned] at enm6; cases enm6
    refine ⟨_, rfl, s, 8, rfl, ss6.upd sed, by decide, by decide, fun H7 m o7 ss7 m0 m1 => ?_⟩
    obtain ⟨m, rfl⟩ : ∃ j : Nat, m = (j : Int) := ⟨m.toNat, by omega⟩
    refine ⟨(m : Int), rfl, by omega, by omega, for_range (lo := 0) (n := m) (fun i σ H' => ∃ (y8 y9 y10 : Option V) (ws : List (Addr × Edg)), σ = [some (.ref a), some (.ref p), some (.bl lg), some (.int (1 + (c : Int))), some (.ref s), some (.ref nm), some (.int sc), some (.ref ed), y8, y9, y10, none] ∧ Strm H' s ∧ H' nm = some (.lst (xs.map V.str)) ∧ EdL H' ed ws ∧ ws.length = i) ⟨none, none, none, [], rfl, ss7, (o7 nm snm.symm).trans (by rw [upd_ne med]; exact enm6), ⟨(o7 ed sed.symm).trans upd_same, (fun _ h => nomatch h)⟩, rfl⟩ ?_ ?_⟩
    · rintro i σ H8 hi ⟨y8, y9, y10, ws, rfl, ss8, enm8, el8, lw⟩
      refine ⟨_, rfl, _, rfl, s, _, rfl, ss8, by omega, by omega, fun H9 u o9 ss9 u0 u1 => ?_⟩
      have el9 := el8.oth ss8 sed.symm o9
      have enm9 := (o9 nm snm.symm).trans enm8
      refine ⟨_, rfl, _, rfl, s, _, rfl, ss9, by omega, by omega, fun H10 v o10 ss10 v0 v1 => ?_⟩
      have el10 := el9.oth ss9 sed.symm o10
      have enm10 := (o10 nm snm.symm).trans enm9
      obtain ⟨xa, _, axa⟩ := at_inS (ns := xs) u0 (by omega)
      obtain ⟨xb, _, axb⟩ := at_inS (ns := xs) v0 (by omega)
      refine ⟨_, rfl, .inl ⟨rfl, _, sl_map el10.lst⟩, _, rfl, _, rfl, nm, _, _, .str xa, rfl, rfl, sl_map enm10, axa, _, rfl, _, rfl, nm, _, _, .str xb, rfl, rfl, sl_map enm10, axb, _, rfl, s, 9, rfl, ss10, by decide, by decide, fun H11 d o11 ss11 d0 d1 => ⟨_, _, rfl, rfl, _, rfl, _, _, rfl, rfl, .inr ⟨scl_lo hsc, scl_hi hsc⟩, by show 3 ≤ sizeLine; decide, fun T nT => ?_⟩⟩
      have el11 := (el10.oth ss10 sed.symm o11).new (o := HO.tup [V.str xa, .str xb, .int ((d - 3) * sc)]) nT
      have enm11 := (o11 nm snm.symm).trans enm10
      have nmT : nm ≠ T := fun z => by rw [z, nT] at enm11; cases enm11
      have sT : s ≠ T := fun z => ss11.some (z ▸ nT)
      exact ⟨ed, _, _, rfl, rfl, el11.lst, by rw [List.length_map]; exact small1000 (by omega), _, _, _, ws ++ [(T, (xa, xb, (d - 3) * sc))], rfl, (ss11.upd sT).upd sed, by rw [upd_ne med, upd_ne nmT]; exact enm11, el11.push upd_same, by rw [List.length_append, lw] <;> rfl⟩
    rintro σ H8 ⟨y8, y9, y10, ws, rfl, ss8, enm8, el8, lw⟩
    have lws : ((ws.map fun t => V.ref t.1).length : Int) = (m : Int) := by rw [List.length_map, lw]
    refine' with_restS (fun σ H' => ∃ (y11 : Option V) (ws : List (Addr × Edg)), σ = [some (.ref a), some (.ref p), some (.bl lg), some (.int (1 + (c : Int))), some (.ref s), some (.ref nm), some (.int sc), some (.ref ed), y8, y9, y10, y11] ∧ EdL H' ed ws ∧ ws.length ≤ 100) ?r1
      (fun rest => ⟨_, rfl, ed, _, rfl, .inl (sl_map el8.lst), _, _, rfl, rfl, _, rfl, ite_both (fun c1 => ?cA) (fun _ => iteF (rest _ _ ⟨none, ws, rfl, el8, by omega⟩))⟩)
    case cA =>
      have c1' := of_decide_eq_true c1
      refine ⟨_, rfl, s, 3, rfl, ss8, by decide, by decide, fun H9 d o9 ss9 d0 d1 => ⟨rfl, _, rfl, ite_both (fun _ => ?_) fun _ => rest _ _ ⟨none, ws, rfl, el8.oth ss8 sed.symm o9, by omega⟩⟩⟩
      have el9 := el8.oth ss8 sed.symm o9
      refine ⟨_, rfl, _, rfl, _, rfl, ed, _, rfl, .inl (sl_map el9.lst), s, _, rfl, ss9, by omega, by omega, fun H10 e o10 ss10 e0 e1 => ?_⟩
      have el10 := el9.oth ss9 sed.symm o10
      obtain ⟨j, rfl⟩ : ∃ j : Nat, e = (j : Int) := ⟨e.toNat, by omega⟩
      obtain ⟨t, ht⟩ : ∃ t, ws[j]? = some t := ⟨_, List.getElem?_eq_getElem (by omega)⟩
      have tt := el10.tup t (List.mem_of_getElem? ht)
      have tts : t.1 ≠ s := fun z => by obtain ⟨x, y, w, e⟩ := ss10; rw [z, e] at tt; cases tt
      refine ⟨ed, _, _, .ref t.1, rfl, rfl, sl_map el10.lst, atI_nat (j := j) (by rw [List.getElem?_map, ht] <;> rfl), ?_⟩
      refine ⟨_, rfl, .inl ⟨rfl, _, sl_map el10.lst⟩, _, rfl, t.1, _, _, .str t.2.1, rfl, rfl, .inl (.inl tt), atI_nat (j := 0) rfl, _, rfl, t.1, _, _, .str t.2.2.1, rfl, rfl, .inl (.inl tt), atI_nat (j := 1) rfl, _, rfl, t.1, _, _, .int t.2.2.2, rfl, rfl, .inl (.inl tt), atI_nat (j := 2) rfl, _, rfl, s, 3, rfl, ss10, by decide, by decide, fun H11 d o11 ss11 d0 d1 => ⟨_, _, rfl, rfl, _, rfl, _, _, rfl, rfl, .inr ⟨scl_lo hsc, scl_hi hsc⟩, _, _, rfl, rfl, by show 3 ≤ sizeLine; decide, fun T nT => ?_⟩⟩
      have el11 := (el10.oth ss10 sed.symm o11).new (o := HO.tup [V.str t.2.1, .str t.2.2.1, .int (t.2.2.2 + (d - 1) * sc)]) nT
      exact ⟨ed, _, _, rfl, rfl, el11.lst, by rw [List.length_map]; exact small1000 (by omega), rest _ _ ⟨_, ws ++ [(T, (t.2.1, t.2.2.1, t.2.2.2 + (d - 1) * sc))], rfl, el11.push upd_same, by rw [List.length_append]; show ws.length + 1 ≤ _; omega⟩⟩
    rintro σ H9 ⟨y11, ws, rfl, el9, lw9⟩
    exact ⟨_, rfl, q H9 ed ws el9 (by omega)⟩
abbrev sLaw : Stmt := topS 16
abbrev nLaw : List Str := ["_law_script", "_law_edges", "_law_handed", "_law_actual", "_law_told", "_law_kept", "_law_again"]
theorem scLaw : FnScope nLaw ["_law_script"] (defScope sLaw) := ⟨rfl, rfl, rfl, by decide +kernel, rfl, by decide +kernel, by decide +kernel⟩
def spLaw (K : PySem.W.Frag) : Sp := fun vs H Q _ => ∃ (a : Addr) (ns : List Int), vs = [.ref a] ∧ SqL K H a (ns.map V.int) ∧ ns.length ≤ 63 ∧ ∀ H', Q (.bl true) H'
theorem ok_Law {f f0 f1 f2 : Addr} {fd fd0 fd1 fd2 : FuncData} (F : Fun K "law" "law" sLaw f fd) (B : Bt mg) (CCas : Call P w K mg base 3 "_law_case" f0 fd0 ["_law_script"] (spCas K)) (CLoo : Call P w K mg base 2 "loosest" f1 fd1 ["edges"] spLoo) (CGd : Call P w K mg base 3 "_law_good" f2 fd2 ["_law_actual", "_law_edges"] spGd) :
    FnOk P w K mg base CX0 4 f fd ["_law_script"] (spLaw K) := by
  refine F.ok scLaw (fun vs H Q E h => ?_) (fun cdv A outer s H vs Q E hr h => ?_)
  · obtain ⟨a, ns, rfl, _⟩ := h
    rfl
  · obtain ⟨a, cs, rfl, ha, ln, q⟩ := h
    have nd := scLaw.nd
    refine ⟨_, pss_cons (ps_set (i := 1) nd rfl (.inl rfl) (pe_call CCas.ok (hr.mono (by decide)) (by rfl) CCas.at_ CCas.kp CCas.bd .nil pass0 (pa_cons (pv 0) pa_nil)))
      (pss_cons (ps_set (i := 2) nd rfl (.inl rfl) (pe_callTy call_list_of (by rfl) B.list PyProof.Rows.boot_list (pa_cons (pv 1) pa_nil)))
      (pss_cons (ps_set (i := 3) nd rfl (.inl rfl) (pe_call CLoo.ok (hr.mono (by decide)) (by rfl) CLoo.at_ CLoo.kp CLoo.bd .nil pass0 (pa_cons (pv 2) pa_nil)))
      (pss_cons (ps_if (PW.pt (pw_or (pt_not (pt_val (pe_call CGd.ok (hr.mono (by decide)) (by rfl) CGd.at_ CGd.kp CGd.bd .nil pass0 (pa_cons (pv 3) (pa_cons (pv 1) pa_nil))))) (pw_or1 (pt_cmpR (op_neV hr.units) (pv 2) (pv 1) rfl))))
        (pss_one (ps_ret pe_bl))
        pss_nil)
      (pss_cons (ps_set (i := 4) nd rfl (.inl rfl) (pe_ix ix_tup (pv 3) pe_int (fun _ _ => rfl)))
      (pss_cons (ps_if (pt_cmpR op_eq (pe_ix ix_tup (pv 3) pe_int (fun _ _ => rfl)) pe_str rfl)
        (pss_one (ps_set (i := 5) nd rfl (.inl rfl) (pe_callTy call_dictD (by rfl) B.dict PyProof.Rows.boot_dict (pa_cons (pv 4) pa_nil))))
        (pss_one (ps_set (i := 5) nd rfl (.inl rfl) (pe_callTy call_list_of (by rfl) B.list PyProof.Rows.boot_list (pa_cons (pv 4) pa_nil)))))
      (pss_cons (ps_expr (pe_or (pe_dclear (pv 4)) (pe_bm0 PySem.F.plainAttrs_list PySem.F.slot_list_clear PySem.F.type_list_clear mt_clear (pv 4))))
      (pss_cons (ps_set (i := 6) nd rfl (.inl rfl) (pe_call CLoo.ok (hr.mono (by decide)) (by rfl) CLoo.at_ CLoo.kp CLoo.bd .nil pass0 (pa_cons (pv 2) pa_nil)))
      (pss_one (ps_ret (pe_and (pe_call CGd.ok (hr.mono (by decide)) (by rfl) CGd.at_ CGd.kp CGd.bd .nil pass0 (pa_cons (pv 6) (pa_cons (pv 1) pa_nil))) (pe_and (pe_cmpR op_eq (pe_ix ix_tup (pv 6) pe_int (fun _ _ => rfl)) (pe_ix ix_tup (pv 3) pe_int (fun _ _ => rfl)) rfl) (pe_and (pe_cmpR (op_eqV hr.units) (pe_ix ix_tup (pv 6) pe_int (fun _ _ => rfl)) (pv 5) rfl) (pe_one (pe_cmpR (op_eqV hr.units) (pv 2) (pv 1) rfl)))))))))))))), ?_⟩
    refine ⟨_, rfl, a, cs, rfl, ha, fun H1 l ts el few => ?_⟩
    refine ⟨_, rfl, l, _, rfl, .inl (sl_map el.lst), fun g ng => ?_⟩
    have el2 := el.new (o := HO.lst (ts.map fun t => V.ref t.1)) ng
    have gl2 : EdL (upd H1 g (.lst (ts.map fun t => V.ref t.1))) g ts := tup_mem el2 (fun u h => h) upd_same
    generalize upd H1 g (.lst (ts.map fun t => V.ref t.1)) = H2 at el2 gl2
    have same : ∀ {H : Hp}, EdL H l ts → EdL H g ts → ∀ {K : PySem.W.Frag}, SqL K H g ((ts.map (·.1)).map V.ref) ∧ SqL K H l ((ts.map (·.1)).map V.ref) := fun {H} e1 e2 {K} => by
      rw [List.map_map]; exact ⟨sl_map e2.lst, sl_map e1.lst⟩
    have nn := enames_nd (eds ts)
    refine ⟨_, rfl, g, ts, rfl, gl2, by omega, fun H3 T d A' s3 nT eT nd3 ed low vf => ?_, fun H3 T r x m k s3 nT eT nr er cy mle => ?_⟩
    · have el3 := el2.same s3
      have gl3 := gl2.same s3
      have dT : d ≠ T := fun z => by rw [← z, ed] at eT; cases eT
      refine ⟨_, rfl, _, rfl, T, l, ts, rfl, .values d A' eT ed low vf, el3, by omega, fun H4 s4 => ⟨true, rfl, iteF ?_⟩⟩
      have el4 := el3.same s4
      have gl4 := gl3.same s4
      have eT4 := s4 _ _ eT
      have ed4 := s4 _ _ ed
      obtain ⟨q1, q2⟩ := same el4 gl4 (K := K)
      refine ⟨_, rfl, _, rfl, g, l, _, _, rfl, rfl, q1, q2, ⟨1, by decide, paired_same _⟩, false, rfl, iteF ?_⟩
      refine ⟨_, rfl, T, _, _, .ref d, rfl, rfl, .inl (.inl eT4), atI_nat (j := 1) rfl, ?_⟩
      refine ⟨_, rfl, T, _, _, .str "values", rfl, rfl, .inl (.inl eT4), atI_nat (j := 0) rfl, rfl, _, rfl, ite_both (fun _ => ?_) fun c => absurd (decide_eq_true rfl) (by rw [c]; decide)⟩
      refine ⟨_, rfl, d, _, rfl, .inl ed4, fun kp nkp => ?_⟩
      have el5 := el4.new (o := HO.dK (intK A')) nkp
      have gl5 := gl4.new (o := HO.dK (intK A')) nkp
      have eT5 := same_new (o := HO.dK (intK A')) nkp _ _ eT4
      have ed5 := same_new (o := HO.dK (intK A')) nkp _ _ ed4
      have ek5 := upd_same (H := H4) (a := kp) (o := HO.dK (intK A'))
      have kd : kp ≠ d := fun z => by rw [z, ed4] at nkp; cases nkp
      generalize upd H4 kp (.dK (intK A')) = H5 at el5 gl5 eT5 ed5 ek5
      have dk : ∀ {H : Hp} {l : Addr}, H d = some (.dK (intK A')) → EdL H l ts → EdL (upd H d (.dK [])) l ts := fun {H l} e B => ⟨by
        have : l ≠ d := fun z => by have := B.lst; rw [z, e] at this; cases this
        rw [upd_ne this]; exact B.lst, fun t ht => by
        have h1 := B.tup t ht
        have : t.1 ≠ d := fun z => by rw [z, e] at h1; cases h1
        rw [upd_ne this]; exact h1⟩
      have el6 := dk ed5 el5
      have gl6 := dk ed5 gl5
      refine .inl ⟨_, rfl, .inr (.inr (.inl ⟨rfl, .inl ⟨_, ed5⟩⟩)), d, _, rfl, rfl, ed5, ?_⟩
      have eT6 : (upd H5 d (.dK [])) T = some (.tup [.str "values", .ref d]) := by rw [upd_ne dT.symm]; exact eT5
      have ek6 : (upd H5 d (.dK [])) kp = some (.dK (intK A')) := by rw [upd_ne kd]; exact ek5
      generalize upd H5 d (.dK []) = H6 at el6 gl6 eT6 ek6
      refine ⟨_, rfl, g, ts, rfl, gl6, by omega, fun H7 T2 d2 A2 s7 nT2 eT2 nd7 ed2 _ vf2 => ?_, fun H7 T2 r x m k s7 nT2 eT2 nr er cy mle => ?_⟩
      · obtain rfl := vf2.one vf nn
        refine ⟨_, rfl, _, rfl, T2, l, ts, rfl, .values d2 A2 eT2 ed2 low vf, el6.same s7, by omega, fun H8 s8 => ⟨true, rfl, iteT ?_⟩⟩
        have eT8 := s8 _ _ (s7 _ _ eT6)
        have eT28 := s8 _ _ eT2
        have ed28 := s8 _ _ ed2
        have ek8 := s8 _ _ (s7 _ _ ek6)
        refine ⟨_, rfl, T2, _, _, .str "values", rfl, rfl, .inl (.inl eT28), atI_nat (j := 0) rfl, _, rfl, T, _, _, .str "values", rfl, rfl, .inl (.inl eT8), atI_nat (j := 0) rfl, rfl, _, rfl, ite_both (fun _ => ?_) fun c => absurd (decide_eq_true rfl) (by rw [c]; decide)⟩
        refine ⟨_, rfl, T2, _, _, .ref d2, rfl, rfl, .inl (.inl eT28), atI_nat (j := 1) rfl, _, rfl, 1, by decide, eq_dict (by rw [vf.keys]; exact nn) ed28 ek8, true, rfl, iteT ?_⟩
        obtain ⟨q3, q4⟩ := same ((el6.same s7).same s8) ((gl6.same s7).same s8) (K := K)
        exact ⟨_, rfl, _, rfl, 1, by decide, .inl ⟨g, l, _, _, rfl, rfl, q3, q4, paired_same _⟩, q _⟩
      · have := cy.low
        rw [low] at this
        cases this
    · have el3 := el2.same s3
      have gl3 := gl2.same s3
      have rT : r ≠ T := fun z => by rw [← z, er] at eT; cases eT
      have rl : l ≠ r := fun z => by have := el2.lst; rw [z, nr] at this; cases this
      have rg : g ≠ r := fun z => by have := gl2.lst; rw [z, nr] at this; cases this
      refine ⟨_, rfl, _, rfl, T, l, ts, rfl, .cycle r x m k eT er cy mle, el3, by omega, fun H4 s4 => ⟨true, rfl, iteF ?_⟩⟩
      have el4 := el3.same s4
      have gl4 := gl3.same s4
      have eT4 := s4 _ _ eT
      have er4 := s4 _ _ er
      obtain ⟨q1, q2⟩ := same el4 gl4 (K := K)
      refine ⟨_, rfl, _, rfl, g, l, _, _, rfl, rfl, q1, q2, ⟨1, by decide, paired_same _⟩, false, rfl, iteF ?_⟩
      refine ⟨_, rfl, T, _, _, .ref r, rfl, rfl, .inl (.inl eT4), atI_nat (j := 1) rfl, ?_⟩
      refine ⟨_, rfl, T, _, _, .str "cycle", rfl, rfl, .inl (.inl eT4), atI_nat (j := 0) rfl, rfl, _, rfl, ite_both (fun c => absurd c (by decide +kernel)) fun _ => ?_⟩
      refine ⟨_, rfl, r, _, rfl, .inl (sl_map er4), fun kp nkp => ?_⟩
      obtain ⟨C, hC⟩ : ∃ C, C = (wayI (eds ts) x m).drop k := ⟨_, rfl⟩
      rw [← hC] at er4 ⊢
      have el5 := el4.new (o := HO.lst (C.map V.int)) nkp
      have gl5 := gl4.new (o := HO.lst (C.map V.int)) nkp
      have eT5 := same_new (o := HO.lst (C.map V.int)) nkp _ _ eT4
      have er5 := same_new (o := HO.lst (C.map V.int)) nkp _ _ er4
      have ek5 := upd_same (H := H4) (a := kp) (o := HO.lst (C.map V.int))
      have kr : kp ≠ r := fun z => by rw [z, er4] at nkp; cases nkp
      generalize upd H4 kp (.lst (C.map V.int)) = H5 at el5 gl5 eT5 er5 ek5
      have el6 := el5.other (o := HO.lst []) er5 rl
      have gl6 := gl5.other (o := HO.lst []) er5 rg
      refine .inr ⟨_, rfl, .inl ⟨rfl, _, sl_map er5⟩, r, _, rfl, rfl, er5, ?_⟩
      have eT6 : (upd H5 r (.lst [])) T = some (.tup [.str "cycle", .ref r]) := by rw [upd_ne rT.symm]; exact eT5
      have ek6 : (upd H5 r (.lst [])) kp = some (.lst (C.map V.int)) := by rw [upd_ne kr]; exact ek5
      generalize upd H5 r (.lst []) = H6 at el6 gl6 eT6 ek6
      refine ⟨_, rfl, g, ts, rfl, gl6, by omega, fun H7 T2 d2 A2 s7 nT2 eT2 nd7 ed2 low _ => ?_, fun H7 T2 r2 x2 m2 k2 s7 nT2 eT2 nr2 er2 cy2 mle2 => ?_⟩
      · have := cy.low
        rw [low] at this
        cases this
      · obtain ⟨e1, e2, e3⟩ := cy2.one cy
        subst e1 e2 e3
        refine ⟨_, rfl, _, rfl, T2, l, ts, rfl, .cycle r2 x2 m2 k2 eT2 er2 cy mle, el6.same s7, by omega, fun H8 s8 => ⟨true, rfl, iteT ?_⟩⟩
        have eT8 := s8 _ _ (s7 _ _ eT6)
        have eT28 := s8 _ _ eT2
        have er28 := s8 _ _ er2
        rw [← hC] at er28
        have ek8 := s8 _ _ (s7 _ _ ek6)
        refine ⟨_, rfl, T2, _, _, .str "cycle", rfl, rfl, .inl (.inl eT28), atI_nat (j := 0) rfl, _, rfl, T, _, _, .str "cycle", rfl, rfl, .inl (.inl eT8), atI_nat (j := 0) rfl, rfl, _, rfl, ite_both (fun _ => ?_) fun c => absurd (decide_eq_true rfl) (by rw [c]; decide)⟩
        refine ⟨_, rfl, T2, _, _, .ref r2, rfl, rfl, .inl (.inl eT28), atI_nat (j := 1) rfl, _, rfl, 1, by decide, .inl ⟨r2, kp, _, _, rfl, rfl, sl_map er28, sl_map ek8, paired_flat _ fun v hv => by obtain ⟨z, _, rfl⟩ := List.mem_map.mp hv; rfl⟩, true, rfl, iteT ?_⟩
        obtain ⟨q3, q4⟩ := same ((el6.same s7).same s8) ((gl6.same s7).same s8) (K := K)
        exact ⟨_, rfl, _, rfl, 1, by decide, .inl ⟨g, l, _, _, rfl, rfl, q3, q4, paired_same _⟩, q _⟩
end
end K15

set_option Elab.async false
set_option linter.all false
set_option maxRecDepth 100000
set_option maxHeartbeats 4000000
namespace K15
open PySem PySem.Spec PyProof.Rows L2 Cs CsX
/-! ### what the top has written -/
theorem all_mk {l : PySem.W.OpenLaw} {w : World} {K : PySem.W.Frag} {h : Heap} {mg : Str → Option Value} {fa f1 f2 f3 f4 f5 f6 f7 f8 f9 f10 f11 f12 f13 f14 : Addr} (X : K.In h) (G : h.Ns mainGlobals mg) (hfa : mg "law" = some (.ref fa))
    {od1 an1 od2 an2 od3 an3 od4 an4 od5 an5 od6 an6 od7 an7 od8 an8 od9 an9 od10 an10 od11 an11 od12 an12 od13 an13 od14 an14 : Option Addr} {sl1 sl2 sl3 sl4 sl5 sl6 sl7 sl8 sl9 sl10 sl11 sl12 sl13 sl14 : Array (Option Value)}
    {oc1 kV1 dc1 pm1 cd1 ct1 oc2 kV2 dc2 pm2 cd2 ct2 oc3 kV3 dc3 pm3 cd3 ct3 oc4 kV4 dc4 pm4 cd4 ct4 oc5 kV5 dc5 pm5 cd5 ct5 oc6 kV6 dc6 pm6 cd6 ct6 oc7 kV7 dc7 pm7 cd7 ct7 oc8 kV8 dc8 pm8 cd8 ct8 oc9 kV9 dc9 pm9 cd9 ct9 oc10 kV10 dc10 pm10 cd10 ct10 oc11 kV11 dc11 pm11 cd11 ct11 oc12 kV12 dc12 pm12 cd12 ct12 oc13 kV13 dc13 pm13 cd13 ct13 oc14 kV14 dc14 pm14 cd14 ct14 : Value}
    (a1 : PySem.W.nsIn K mainGlobals "_law_is_integer" = some (some (.ref f1))) (l1 : K.lookup f1 = some ⟨oc1, od1, .func (PySem.W.fnOf "_law_is_integer" "_law_is_integer" (defArgs sIsInt) (defBody sIsInt) (defScope sIsInt) .none kV1 dc1 pm1 an1 cd1 ct1), sl1⟩) (c1 : PySem.W.codeIn K cd1 "_law_is_integer" = true) (k1 : PySem.W.keepIn K (.ref f1) = true)
    (a2 : PySem.W.nsIn K mainGlobals "_law_stream" = some (some (.ref f2))) (l2 : K.lookup f2 = some ⟨oc2, od2, .func (PySem.W.fnOf "_law_stream" "_law_stream" (defArgs sStream) (defBody sStream) (defScope sStream) .none kV2 dc2 pm2 an2 cd2 ct2), sl2⟩) (c2 : PySem.W.codeIn K cd2 "_law_stream" = true) (k2 : PySem.W.keepIn K (.ref f2) = true)
    (a3 : PySem.W.nsIn K mainGlobals "_law_next" = some (some (.ref f3))) (l3 : K.lookup f3 = some ⟨oc3, od3, .func (PySem.W.fnOf "_law_next" "_law_next" (defArgs sDraw) (defBody sDraw) (defScope sDraw) .none kV3 dc3 pm3 an3 cd3 ct3), sl3⟩) (c3 : PySem.W.codeIn K cd3 "_law_next" = true) (k3 : PySem.W.keepIn K (.ref f3) = true)
    (a4 : PySem.W.nsIn K mainGlobals "_law_names" = some (some (.ref f4))) (l4 : K.lookup f4 = some ⟨oc4, od4, .func (PySem.W.fnOf "_law_names" "_law_names" (defArgs sNames) (defBody sNames) (defScope sNames) .none kV4 dc4 pm4 an4 cd4 ct4), sl4⟩) (c4 : PySem.W.codeIn K cd4 "_law_names" = true) (k4 : PySem.W.keepIn K (.ref f4) = true)
    (a5 : PySem.W.nsIn K mainGlobals "edge_names" = some (some (.ref f5))) (l5 : K.lookup f5 = some ⟨oc5, od5, .func (PySem.W.fnOf "edge_names" "edge_names" (defArgs sEdn) (defBody sEdn) (defScope sEdn) .none kV5 dc5 pm5 an5 cd5 ct5), sl5⟩) (c5 : PySem.W.codeIn K cd5 "edge_names" = true) (k5 : PySem.W.keepIn K (.ref f5) = true)
    (a6 : PySem.W.nsIn K mainGlobals "_cycle_behind" = some (some (.ref f6))) (l6 : K.lookup f6 = some ⟨oc6, od6, .func (PySem.W.fnOf "_cycle_behind" "_cycle_behind" (defArgs sCyb) (defBody sCyb) (defScope sCyb) .none kV6 dc6 pm6 an6 cd6 ct6), sl6⟩) (c6 : PySem.W.codeIn K cd6 "_cycle_behind" = true) (k6 : PySem.W.keepIn K (.ref f6) = true)
    (a7 : PySem.W.nsIn K mainGlobals "loosest" = some (some (.ref f7))) (l7 : K.lookup f7 = some ⟨oc7, od7, .func (PySem.W.fnOf "loosest" "loosest" (defArgs sLoo) (defBody sLoo) (defScope sLoo) .none kV7 dc7 pm7 an7 cd7 ct7), sl7⟩) (c7 : PySem.W.codeIn K cd7 "loosest" = true) (k7 : PySem.W.keepIn K (.ref f7) = true)
    (a8 : PySem.W.nsIn K mainGlobals "_law_edge_names" = some (some (.ref f8))) (l8 : K.lookup f8 = some ⟨oc8, od8, .func (PySem.W.fnOf "_law_edge_names" "_law_edge_names" (defArgs sLen) (defBody sLen) (defScope sLen) .none kV8 dc8 pm8 an8 cd8 ct8), sl8⟩) (c8 : PySem.W.codeIn K cd8 "_law_edge_names" = true) (k8 : PySem.W.keepIn K (.ref f8) = true)
    (a9 : PySem.W.nsIn K mainGlobals "_law_greatest" = some (some (.ref f9))) (l9 : K.lookup f9 = some ⟨oc9, od9, .func (PySem.W.fnOf "_law_greatest" "_law_greatest" (defArgs sGrt) (defBody sGrt) (defScope sGrt) .none kV9 dc9 pm9 an9 cd9 ct9), sl9⟩) (c9 : PySem.W.codeIn K cd9 "_law_greatest" = true) (k9 : PySem.W.keepIn K (.ref f9) = true)
    (a10 : PySem.W.nsIn K mainGlobals "_law_falls" = some (some (.ref f10))) (l10 : K.lookup f10 = some ⟨oc10, od10, .func (PySem.W.fnOf "_law_falls" "_law_falls" (defArgs sFls) (defBody sFls) (defScope sFls) .none kV10 dc10 pm10 an10 cd10 ct10), sl10⟩) (c10 : PySem.W.codeIn K cd10 "_law_falls" = true) (k10 : PySem.W.keepIn K (.ref f10) = true)
    (a11 : PySem.W.nsIn K mainGlobals "_law_good" = some (some (.ref f11))) (l11 : K.lookup f11 = some ⟨oc11, od11, .func (PySem.W.fnOf "_law_good" "_law_good" (defArgs sGd) (defBody sGd) (defScope sGd) .none kV11 dc11 pm11 an11 cd11 ct11), sl11⟩) (c11 : PySem.W.codeIn K cd11 "_law_good" = true) (k11 : PySem.W.keepIn K (.ref f11) = true)
    (a12 : PySem.W.nsIn K mainGlobals "_law_wide_ring" = some (some (.ref f12))) (l12 : K.lookup f12 = some ⟨oc12, od12, .func (PySem.W.fnOf "_law_wide_ring" "_law_wide_ring" (defArgs sWrg) (defBody sWrg) (defScope sWrg) .none kV12 dc12 pm12 an12 cd12 ct12), sl12⟩) (c12 : PySem.W.codeIn K cd12 "_law_wide_ring" = true) (k12 : PySem.W.keepIn K (.ref f12) = true)
    (a13 : PySem.W.nsIn K mainGlobals "_law_case" = some (some (.ref f13))) (l13 : K.lookup f13 = some ⟨oc13, od13, .func (PySem.W.fnOf "_law_case" "_law_case" (defArgs sCas) (defBody sCas) (defScope sCas) .none kV13 dc13 pm13 an13 cd13 ct13), sl13⟩) (c13 : PySem.W.codeIn K cd13 "_law_case" = true) (k13 : PySem.W.keepIn K (.ref f13) = true)
    (a14 : PySem.W.nsIn K mainGlobals "law" = some (some (.ref f14))) (l14 : K.lookup f14 = some ⟨oc14, od14, .func (PySem.W.fnOf "law" "law" (defArgs sLaw) (defBody sLaw) (defScope sLaw) .none kV14 dc14 pm14 an14 cd14 ct14), sl14⟩) (c14 : PySem.W.codeIn K cd14 "law" = true) (k14 : PySem.W.keepIn K (.ref f14) = true)
    (z1 : PySem.W.nsIn K mainGlobals "sorted" = some none) (z2 : PySem.W.nsIn K mainGlobals "set" = some none) (z3 : PySem.W.nsIn K mainGlobals "len" = some none) (z4 : PySem.W.nsIn K mainGlobals "isinstance" = some none) (z5 : PySem.W.nsIn K mainGlobals "int" = some none) (z6 : PySem.W.nsIn K mainGlobals "bool" = some none) (z7 : PySem.W.nsIn K mainGlobals "list" = some none) (z8 : PySem.W.nsIn K mainGlobals "all" = some none) (z9 : PySem.W.nsIn K mainGlobals "range" = some none) (z10 : PySem.W.nsIn K mainGlobals "dict" = some none) (z11 : PySem.W.nsIn K mainGlobals "enumerate" = some none) (z12 : PySem.W.nsIn K mainGlobals "str" = some none) (z13 : PySem.W.nsIn K mainGlobals "tuple" = some none) (z14 : PySem.W.nsIn K mainGlobals "min" = some none) :
    ∃ fd : FuncData, (∀ (s : Shared) (v : Value), BindsTo s fd ⟨[v], []⟩ [("_law_script", v)]) ∧ ∀ base : Heap, K.In base → base.Ns mainGlobals mg → FnOk l.prog w K mg base CX0 4 fa fd ["_law_script"] (spLaw K) := by
  have e := hfa.symm.trans (PySem.W.mg_of X G a14)
  cases e
  have B : Bt mg := ⟨PySem.W.mg_none_of X G z1, PySem.W.mg_none_of X G z2, PySem.W.mg_none_of X G z3, PySem.W.mg_none_of X G z4, PySem.W.mg_none_of X G z5, PySem.W.mg_none_of X G z6, PySem.W.mg_none_of X G z7, PySem.W.mg_none_of X G z8, PySem.W.mg_none_of X G z9, PySem.W.mg_none_of X G z10⟩
  have F1 := fun_mk (st := sIsInt) l1 c1 k1
  have b1 := F1.binds (ps := ["_law_actual"]) fun _ _ _ _ _ _ us hl => match us, hl with | [_], _ => rfl
  have F2 := fun_mk (st := sStream) l2 c2 k2
  have b2 := F2.binds (ps := ["_law_script", "_law_k"]) fun _ _ _ _ _ _ us hl => match us, hl with | [_, _], _ => rfl
  have F3 := fun_mk (st := sDraw) l3 c3 k3
  have b3 := F3.binds (ps := ["_law_stream_here", "_law_size"]) fun _ _ _ _ _ _ us hl => match us, hl with | [_, _], _ => rfl
  have F4 := fun_mk (st := sNames) l4 c4 k4
  have b4 := F4.binds (ps := ["_law_stream_here", "_law_count"]) fun _ _ _ _ _ _ us hl => match us, hl with | [_, _], _ => rfl
  have F5 := fun_mk (st := sEdn) l5 c5 k5
  have b5 := F5.binds (ps := ["edges"]) fun _ _ _ _ _ _ us hl => match us, hl with | [_], _ => rfl
  have F6 := fun_mk (st := sCyb) l6 c6 k6
  have b6 := F6.binds (ps := ["edges", "lowered_by", "name"]) fun _ _ _ _ _ _ us hl => match us, hl with | [_, _, _], _ => rfl
  have F7 := fun_mk (st := sLoo) l7 c7 k7
  have b7 := F7.binds (ps := ["edges"]) fun _ _ _ _ _ _ us hl => match us, hl with | [_], _ => rfl
  have F8 := fun_mk (st := sLen) l8 c8 k8
  have b8 := F8.binds (ps := ["_law_edges"]) fun _ _ _ _ _ _ us hl => match us, hl with | [_], _ => rfl
  have F9 := fun_mk (st := sGrt) l9 c9 k9
  have b9 := F9.binds (ps := ["_law_values", "_law_edges"]) fun _ _ _ _ _ _ us hl => match us, hl with | [_, _], _ => rfl
  have F10 := fun_mk (st := sFls) l10 c10 k10
  have b10 := F10.binds (ps := ["_law_cycle", "_law_edges"]) fun _ _ _ _ _ _ us hl => match us, hl with | [_, _], _ => rfl
  have F11 := fun_mk (st := sGd) l11 c11 k11
  have b11 := F11.binds (ps := ["_law_actual", "_law_edges"]) fun _ _ _ _ _ _ us hl => match us, hl with | [_, _], _ => rfl
  have F12 := fun_mk (st := sWrg) l12 c12 k12
  have b12 := F12.binds (ps := ["_law_stream_here", "_law_second", "_law_count"]) fun _ _ _ _ _ _ us hl => match us, hl with | [_, _, _], _ => rfl
  have F13 := fun_mk (st := sCas) l13 c13 k13
  have b13 := F13.binds (ps := ["_law_script"]) fun _ _ _ _ _ _ us hl => match us, hl with | [_], _ => rfl
  have F14 := fun_mk (st := sLaw) l14 c14 k14
  refine ⟨PySem.W.fnOf "law" "law" (defArgs sLaw) (defBody sLaw) (defScope sLaw) .none kV14 dc14 pm14 an14 cd14 ct14, fun s v => .of_eq rfl, fun base _ _ => ?_⟩
  have Cii : Call l.prog w K mg base 1 "_law_is_integer" f1 _ ["_law_actual"] spIsInt := ⟨ok_isInt F1 B, PySem.W.mg_of X G a1, k1, b1⟩
  have Cst : Call l.prog w K mg base 1 "_law_stream" f2 _ ["_law_script", "_law_k"] (spStream K) := ⟨ok_stream F2 B, PySem.W.mg_of X G a2, k2, b2⟩
  have D : Call l.prog w K mg base 1 "_law_next" f3 _ ["_law_stream_here", "_law_size"] spDraw := ⟨ok_draw F3 B, PySem.W.mg_of X G a3, k3, b3⟩
  have Cna : Call l.prog w K mg base 2 "_law_names" f4 _ ["_law_stream_here", "_law_count"] spNames := ⟨ok_names F4 B D, PySem.W.mg_of X G a4, k4, b4⟩
  have CEdn : Call l.prog w K mg base 1 "edge_names" f5 _ ["edges"] spEdn := ⟨ok_Edn F5 B  , PySem.W.mg_of X G a5, k5, b5⟩
  have CCyb : Call l.prog w K mg base 1 "_cycle_behind" f6 _ ["edges", "lowered_by", "name"] spCyb := ⟨ok_Cyb F6 B  , PySem.W.mg_of X G a6, k6, b6⟩
  have CLoo : Call l.prog w K mg base 2 "loosest" f7 _ ["edges"] spLoo := ⟨ok_Loo F7 B (PySem.W.mg_none_of X G z11) CEdn CCyb, PySem.W.mg_of X G a7, k7, b7⟩
  have CLen : Call l.prog w K mg base 1 "_law_edge_names" f8 _ ["_law_edges"] spEdn := ⟨ok_Len F8 B  , PySem.W.mg_of X G a8, k8, b8⟩
  have CGrt : Call l.prog w K mg base 2 "_law_greatest" f9 _ ["_law_values", "_law_edges"] spGrt := ⟨ok_Grt F9 B  CLen Cii, PySem.W.mg_of X G a9, k9, b9⟩
  have CFls : Call l.prog w K mg base 2 "_law_falls" f10 _ ["_law_cycle", "_law_edges"] spFls := ⟨ok_Fls F10 B  Cii, PySem.W.mg_of X G a10, k10, b10⟩
  have CGd : Call l.prog w K mg base 3 "_law_good" f11 _ ["_law_actual", "_law_edges"] spGd := ⟨ok_Gd F11 B (PySem.W.mg_none_of X G z12) (PySem.W.mg_none_of X G z13) CGrt CFls, PySem.W.mg_of X G a11, k11, b11⟩
  have CWrg : Call l.prog w K mg base 2 "_law_wide_ring" f12 _ ["_law_stream_here", "_law_second", "_law_count"] spWrg := ⟨ok_Wrg F12 B (PySem.W.mg_none_of X G z14) D, PySem.W.mg_of X G a12, k12, b12⟩
  have CCas : Call l.prog w K mg base 3 "_law_case" f13 _ ["_law_script"] (spCas K) := ⟨ok_Cas F13 B  Cst Cna D CWrg, PySem.W.mg_of X G a13, k13, b13⟩
  exact ok_Law F14 B  CCas CLoo CGd
theorem walk {l : PySem.W.OpenLaw} {q : Program} {loose : List Str} {XP : (Str → Option Value) → Heap → Prop} {YP : World → Heap → Prop} {d : DefRec} {K : Params → PySem.W.Frag} (hn : l.most = some 63) (hdf : d.params.defaults = [])
    (hY : ∀ (w : World) (h : Heap), YP w h → (K w.params).In h)
    (F : ∀ (w : World) (mg : Str → Option Value) (fa : Addr) (h : Heap), (K w.params).In h → h.Ns mainGlobals mg → mg d.name = some (.ref fa) →
      ∃ fd : FuncData, (∀ (s : Shared) (u : Value), BindsTo s fd ⟨[u], []⟩ [("_law_script", u)]) ∧ ∀ base : Heap, (K w.params).In base → base.Ns mainGlobals mg → FnOk l.prog w (K w.params) mg base CX0 4 fa fd ["_law_script"] (spLaw (K w.params))) :
    PySem.W.WalkO q loose XP YP l.row.toRowW d [] (fun f vs => PySem.call f vs) :=
  L2.walk_of (n := 63) (k := 4) (x := "_law_script") (CX := fun _ => CX0) (sp := fun w => spLaw (K w.params)) hn (by decide) hdf ⟨rfl, by decide, by decide⟩ hY F (fun _ _ a ns hl _ hS => ⟨a, ns, rfl, hS, hl, fun _ => rfl⟩) fun _ _ _ _ _ z => z
end K15

set_option Elab.async false
set_option linter.all false
open PySem PySem.W PyProof.Rows
set_option maxRecDepth 100000 in
set_option maxHeartbeats 0 in
theorem PySem.Challenge.cw_curbdesk_k15_loosest_or_cycle_holds : PySem.Challenge.rw_curbdesk_k15_loosest_or_cycle.Holds := by
  w_on; o_law; k_head; (case hw => w_witness2)
  k_fill
  refine K15.walk (l := PySem.Challenge.rw_curbdesk_k15_loosest_or_cycle) rfl rfl (fun w h Y => PySem.W.kIn_of Y) ?F
  case F =>
    intro w mg fa h KX G hmg
    refine' K15.all_mk KX G hmg ?a1 ?l1 ?c1 ?k1 ?a2 ?l2 ?c2 ?k2 ?a3 ?l3 ?c3 ?k3 ?a4 ?l4 ?c4 ?k4 ?a5 ?l5 ?c5 ?k5 ?a6 ?l6 ?c6 ?k6 ?a7 ?l7 ?c7 ?k7 ?a8 ?l8 ?c8 ?k8 ?a9 ?l9 ?c9 ?k9 ?a10 ?l10 ?c10 ?k10 ?a11 ?l11 ?c11 ?k11 ?a12 ?l12 ?c12 ?k12 ?a13 ?l13 ?c13 ?k13 ?a14 ?l14 ?c14 ?k14 ?z1 ?z2 ?z3 ?z4 ?z5 ?z6 ?z7 ?z8 ?z9 ?z10 ?z11 ?z12 ?z13 ?z14
    (case a1 => k_is)
    (case l1 => k_is)
    (case c1 => k_is)
    (case k1 => k_is)
    (case a2 => k_is)
    (case l2 => k_is)
    (case c2 => k_is)
    (case k2 => k_is)
    (case a3 => k_is)
    (case l3 => k_is)
    (case c3 => k_is)
    (case k3 => k_is)
    (case a4 => k_is)
    (case l4 => k_is)
    (case c4 => k_is)
    (case k4 => k_is)
    (case a5 => k_is)
    (case l5 => k_is)
    (case c5 => k_is)
    (case k5 => k_is)
    (case a6 => k_is)
    (case l6 => k_is)
    (case c6 => k_is)
    (case k6 => k_is)
    (case a7 => k_is)
    (case l7 => k_is)
    (case c7 => k_is)
    (case k7 => k_is)
    (case a8 => k_is)
    (case l8 => k_is)
    (case c8 => k_is)
    (case k8 => k_is)
    (case a9 => k_is)
    (case l9 => k_is)
    (case c9 => k_is)
    (case k9 => k_is)
    (case a10 => k_is)
    (case l10 => k_is)
    (case c10 => k_is)
    (case k10 => k_is)
    (case a11 => k_is)
    (case l11 => k_is)
    (case c11 => k_is)
    (case k11 => k_is)
    (case a12 => k_is)
    (case l12 => k_is)
    (case c12 => k_is)
    (case k12 => k_is)
    (case a13 => k_is)
    (case l13 => k_is)
    (case c13 => k_is)
    (case k13 => k_is)
    (case a14 => k_is)
    (case l14 => k_is)
    (case c14 => k_is)
    (case k14 => k_is)
    (case z1 => k_is)
    (case z2 => k_is)
    (case z3 => k_is)
    (case z4 => k_is)
    (case z5 => k_is)
    (case z6 => k_is)
    (case z7 => k_is)
    (case z8 => k_is)
    (case z9 => k_is)
    (case z10 => k_is)
    (case z11 => k_is)
    (case z12 => k_is)
    (case z13 => k_is)
    (case z14 => k_is)
