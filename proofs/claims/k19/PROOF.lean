import PyProof.Rows.All
import Wide.All
import OpenK.AllK
import Wide.FinOn
import HandS.ForMost
import HandS.Strs
import HandS.Set
import HandS.SetFor
import HandS.TupSets
import HandS.IsInst
import HandS.Flow
import HandS.Style
import HandS.Zip
import HandS.SortInts
import HandS.DeepEq
import HandS.SetBool
import HandS.SetKeys
import HandS.ExcInit
import HandS.ExcField
import HandS.ExcOwn
import HandS.WordsExc
import HandS.ExcIs
import KE.KExcIs
import HandS.DictComp
import HandS.OwnEq
import HandS.Walk
import HandS.Finally
import PySem.Challenge.RW_curbdesk_k19_wanted_fit
set_option Elab.async false
set_option linter.all false
set_option maxRecDepth 100000
/-! Tables of sets that are laid anew, for the masks that merging asks for. -/
namespace Cs
open PySem PySem.Spec PyProof.Rows

def hop (m : Nat) (q : Nat × Nat) : Nat × Nat := SetTable.leap m q.1 q.2
def hops (m : Nat) : Nat → Nat × Nat → Nat × Nat
  | 0, q => q
  | n + 1, q => hops m n (hop m q)
abbrev own (ow : Array (Option Nat)) (j : Nat) : Option Nat := ow.getD j (some 0)

theorem free_step (m : Nat) (ow : Array (Option Nat)) (f : Nat) (q : Nat × Nat) : SetTable.layClean.free m ow (f + 1) q.1 q.2 =
    (match (List.range (SetTable.runEnd m q.1 + 1 - q.1)).find? (fun k => (own ow (q.1 + k)).isNone) with
      | some k => some (q.1 + k)
      | none => SetTable.layClean.free m ow f (hop m q).1 (hop m q).2) := rfl
theorem run_ge (m i : Nat) : i ≤ SetTable.runEnd m i := by
  unfold SetTable.runEnd
  split <;> omega
theorem run_le {m i : Nat} (h : i ≤ m) : SetTable.runEnd m i ≤ m := by
  unfold SetTable.runEnd
  split <;> omega
theorem hop_le (m : Nat) (q : Nat × Nat) : (hop m q).1 ≤ m := Nat.le_of_lt_succ (Nat.mod_lt _ (Nat.succ_pos m))

theorem free_none (m : Nat) (ow : Array (Option Nat)) : ∀ (f : Nat) (q : Nat × Nat), SetTable.layClean.free m ow f q.1 q.2 = none → ∀ n, n < f → (own ow (hops m n q).1).isNone = false
  | 0, _, _, n, h => absurd h (Nat.not_lt_zero n)
  | f + 1, q, e, n, h => by
    rw [free_step] at e
    cases c : (List.range (SetTable.runEnd m q.1 + 1 - q.1)).find? (fun k => (own ow (q.1 + k)).isNone) with
    | some k => rw [c] at e; exact nomatch e
    | none =>
      rw [c] at e
      cases n with
      | zero =>
        have z := List.find?_eq_none.mp c 0 (List.mem_range.mpr (by have := run_ge m q.1; omega))
        have z2 : ¬ ((own ow q.1).isNone = true) := z
        exact Bool.eq_false_iff.mpr z2
      | succ n => exact free_none m ow f (hop m q) e n (by omega)

theorem free_some (m : Nat) (ow : Array (Option Nat)) : ∀ (f : Nat) (q : Nat × Nat) (j : Nat), SetTable.layClean.free m ow f q.1 q.2 = some j → q.1 ≤ m → j ≤ m ∧ (own ow j).isNone = true
  | 0, _, _, e, _ => nomatch e
  | f + 1, q, j, e, hq => by
    rw [free_step] at e
    cases c : (List.range (SetTable.runEnd m q.1 + 1 - q.1)).find? (fun k => (own ow (q.1 + k)).isNone) with
    | some k =>
      rw [c] at e
      have ej : q.1 + k = j := Option.some.inj e
      have h1 := List.mem_of_find?_eq_some c
      have h2 := List.find?_some c
      have h3 := List.mem_range.mp h1
      have h4 := run_le hq
      rw [← ej]
      exact ⟨by omega, h2⟩
    | none =>
      rw [c] at e
      exact free_some m ow f (hop m q) j e (hop_le m q)

theorem hops_back (m : Nat) : ∀ (n : Nat) (q : Nat × Nat), hops m (n + 1) q = hop m (hops m n q)
  | 0, _ => rfl
  | n + 1, q => hops_back m n (hop m q)
theorem hops_add (m : Nat) (a : Nat) : ∀ (k : Nat) (q : Nat × Nat), hops m (a + k) q = hops m k (hops m a q)
  | 0, _ => rfl
  | k + 1, q => by
    rw [show a + (k + 1) = (a + k) + 1 from rfl, hops_back, hops_back, hops_add m a k q]
theorem hops_snd (m : Nat) : ∀ (n : Nat) (q : Nat × Nat), (hops m n q).2 = q.2 / 32 ^ n
  | 0, q => (Nat.div_one q.2).symm
  | n + 1, q => by
    rw [hops_back]
    show (hops m n q).2 / 32 = _
    rw [hops_snd m n q, Nat.div_div_eq_div_mul, Nat.pow_succ]
theorem hops_fst_le (m : Nat) {q : Nat × Nat} (hq : q.1 ≤ m) : ∀ n, (hops m n q).1 ≤ m
  | 0 => hq
  | n + 1 => by rw [hops_back]; exact hop_le m _
theorem hops_zero (m i : Nat) : ∀ k, hops m k (i, 0) = (L2.lcgI m i k, 0)
  | 0 => rfl
  | k + 1 => by
    rw [hops_back, hops_zero m i k]
    show ((L2.lcgI m i k * 5 + 1 + 0 / 32) % (m + 1), 0 / 32) = _
    rw [Nat.zero_div, Nat.add_zero] <;> rfl

def Msk (m : Nat) : Prop := m = 7 ∨ m = 15 ∨ m = 31 ∨ m = 63 ∨ m = 127
def meetsAll (m : Nat) : Bool := (List.range (m + 1)).all fun i => (List.range (m + 1)).all fun j => (List.range (m + 1)).any fun k => L2.lcgI m i k == j
theorem lcg_of {m : Nat} (h : meetsAll m = true) {i j : Nat} (hi : i ≤ m) (hj : j ≤ m) : ∃ k, k ≤ m ∧ L2.lcgI m i k = j := by
  have h1 := List.all_eq_true.mp (List.all_eq_true.mp h i (List.mem_range.mpr (by omega))) j (List.mem_range.mpr (by omega))
  obtain ⟨k, hk, e⟩ := List.any_eq_true.mp h1
  exact ⟨k, Nat.le_of_lt_succ (List.mem_range.mp hk), eq_of_beq e⟩
/- one round from 0, then the shift -/
theorem all15 : ((List.range 16).all fun j => (List.range 16).any fun b => L2.lcgN 15 b == j) = true := by decide +kernel
theorem all63 : ((List.range 64).all fun j => (List.range 64).any fun b => L2.lcgN 63 b == j) = true := by decide +kernel
theorem round15 : L2.lcgN 15 16 = 0 := by decide +kernel
theorem round63 : L2.lcgN 63 64 = 0 := by decide +kernel
theorem turn_mod {m : Nat} (h : L2.lcgN m (m + 1) = 0) : ∀ k, L2.lcgN m (m + 1 + k) = L2.lcgN m k
  | 0 => h
  | k + 1 => by
    show (L2.lcgN m (m + 1 + k) * 5 + 1) % (m + 1) = (L2.lcgN m k * 5 + 1) % (m + 1)
    rw [turn_mod h k]
theorem lcg_by {m : Nat} (hr : L2.lcgN m (m + 1) = 0) (ha : ((List.range (m + 1)).all fun j => (List.range (m + 1)).any fun b => L2.lcgN m b == j) = true) {i j : Nat} (hi : i ≤ m) (hj : j ≤ m) :
    ∃ k, k ≤ m ∧ L2.lcgI m i k = j := by
  have at0 : ∀ x, x ≤ m → ∃ b, b ≤ m ∧ L2.lcgN m b = x := fun x hx => by
    obtain ⟨b, hb, e⟩ := List.any_eq_true.mp (List.all_eq_true.mp ha x (List.mem_range.mpr (by omega)))
    exact ⟨b, Nat.le_of_lt_succ (List.mem_range.mp hb), eq_of_beq e⟩
  obtain ⟨a, la, ea⟩ := at0 i hi
  obtain ⟨b, lb, eb⟩ := at0 j hj
  subst ea
  by_cases c : a ≤ b
  · exact ⟨b - a, by omega, by rw [L2.lcgN_add, Nat.add_sub_cancel' c]; exact eb⟩
  · refine ⟨m + 1 + b - a, by omega, ?_⟩
    rw [L2.lcgN_add, Nat.add_sub_cancel' (by omega), turn_mod hr]
    exact eb
theorem lcg_meets {m : Nat} (hm : Msk m) {i j : Nat} (hi : i ≤ m) (hj : j ≤ m) : ∃ k, k ≤ m ∧ L2.lcgI m i k = j := by
  rcases hm with e | e | e | e | e
  · exact L2.lcgI_all (.inl e) hi hj
  · subst e; exact lcg_by round15 all15 hi hj
  · exact L2.lcgI_all (.inr (.inl e)) hi hj
  · subst e; exact lcg_by round63 all63 hi hj
  · exact L2.lcgI_all (.inr (.inr e)) hi hj

theorem free_there {m : Nat} (hm : Msk m) (ow : Array (Option Nat)) (h : Int) {j0 : Nat} (hj : j0 ≤ m) (hf : (own ow j0).isNone = true) :
    ∃ j, SetTable.layClean.free m ow (SetTable.turns m) (SetTable.bits h % (m + 1)) (SetTable.bits h) = some j ∧ j ≤ m ∧ (own ow j).isNone = true := by
  have hq : SetTable.bits h % (m + 1) ≤ m := Nat.le_of_lt_succ (Nat.mod_lt _ (Nat.succ_pos m))
  cases e : SetTable.layClean.free m ow (SetTable.turns m) (SetTable.bits h % (m + 1)) (SetTable.bits h) with
  | some j => exact ⟨j, rfl, free_some m ow _ (SetTable.bits h % (m + 1), SetTable.bits h) j e hq⟩
  | none =>
    exfalso
    have all := free_none m ow _ (SetTable.bits h % (m + 1), SetTable.bits h) e
    have z : (hops m 13 (SetTable.bits h % (m + 1), SetTable.bits h)).2 = 0 := by
      rw [hops_snd]
      refine Nat.div_eq_of_lt (Nat.lt_trans (L2.bits_lt h) ?_)
      decide
    have le := hops_fst_le m (q := (SetTable.bits h % (m + 1), SetTable.bits h)) hq 13
    obtain ⟨k, hk, ek⟩ := lcg_meets hm le hj
    have q := all (13 + k) (by show 13 + k < m + 15; omega)
    have e2 : hops m 13 (SetTable.bits h % (m + 1), SetTable.bits h) = ((hops m 13 (SetTable.bits h % (m + 1), SetTable.bits h)).1, 0) := by
      rw [← z]
    rw [hops_add, e2, hops_zero] at q
    rw [ek] at q
    rw [hf] at q
    cases q

/-! ### who sits where -/
theorem put_perm : ∀ (l : List (Option Nat)) (j k : Nat), l[j]? = some none → ((l.set j (some k)).filterMap id).Perm (k :: l.filterMap id)
  | [], j, k, h => by simp at h
  | x :: l, 0, k, h => by
    have e : x = none := by simpa using h
    subst e
    simp
  | x :: l, j + 1, k, h => by
    have ih := put_perm l j k (by simpa using h)
    cases x with
    | none => simpa using ih
    | some y =>
      simp only [List.set_cons_succ, List.filterMap_cons, id]
      exact (ih.cons y).trans (List.Perm.swap k y _)
theorem gap : ∀ l : List (Option Nat), (l.filterMap id).length < l.length → ∃ j : Nat, j < l.length ∧ l[j]? = some none
  | [], h => by simp at h
  | none :: l, h => ⟨0, by simp, rfl⟩
  | some y :: l, h => by
    obtain ⟨j, hj, e⟩ := gap l (by simpa using h)
    exact ⟨j + 1, by simpa using hj, by simpa using e⟩
structure Sit (m k : Nat) (ow : Array (Option Nat)) : Prop where
  sz : ow.size = m + 1
  pm : (ow.toList.filterMap id).Perm (List.range k)
theorem Sit.start (m : Nat) : Sit m 0 (Array.replicate (m + 1) none) := ⟨by simp, by simp⟩
theorem Sit.next {m k : Nat} {ow : Array (Option Nat)} (S : Sit m k ow) (hm : Msk m) (hk : k ≤ m) (h : Int) :
    ∃ j, SetTable.layClean.free m ow (SetTable.turns m) (SetTable.bits h % (m + 1)) (SetTable.bits h) = some j ∧ Sit m (k + 1) (ow.setIfInBounds j (some k)) := by
  have l1 := S.pm.length_eq
  rw [List.length_range] at l1
  obtain ⟨j0, h0, e0⟩ := gap ow.toList (by rw [l1, Array.length_toList, S.sz]; omega)
  rw [Array.length_toList, S.sz] at h0
  have f0 : (own ow j0).isNone = true := by
    have : ow[j0]? = some none := by rw [← Array.getElem?_toList]; exact e0
    simp [own, Array.getD_eq_getD_getElem?, this]
  obtain ⟨j, ej, hj, hn⟩ := free_there hm ow h (by omega) f0
  have hjs : j < ow.size := by rw [S.sz]; omega
  have en : ow.toList[j]? = some none := by
    have : own ow j = none := by simpa using hn
    rw [Array.getElem?_toList]
    simp only [own, Array.getD_eq_getD_getElem?, Array.getElem?_eq_getElem hjs, Option.getD_some] at this
    rw [Array.getElem?_eq_getElem hjs, this]
  refine ⟨j, ej, by rw [Array.size_setIfInBounds]; exact S.sz, ?_⟩
  rw [Array.toList_setIfInBounds]
  refine (put_perm ow.toList j k en).trans ?_
  rw [List.range_succ]
  exact (S.pm.cons k).trans (List.perm_append_singleton k _).symm
theorem sit_all {m : Nat} (hm : Msk m) : ∀ (hs : List Int) (k : Nat) (ow : Array (Option Nat)), Sit m k ow → k + hs.length ≤ m →
    ∃ ow', hs.foldl (L2.stepF m) (some (ow, k)) = some (ow', k + hs.length) ∧ Sit m (k + hs.length) ow'
  | [], k, ow, S, _ => ⟨ow, rfl, S⟩
  | h :: hs, k, ow, S, hl => by
    rw [List.length_cons] at hl
    obtain ⟨j, ej, S2⟩ := S.next hm (by omega) h
    obtain ⟨ow', e, S3⟩ := sit_all hm hs (k + 1) _ S2 (by omega)
    refine ⟨ow', ?_, ?_⟩
    · rw [List.foldl_cons, L2.stepF_some ej, e, List.length_cons]
      exact congrArg (fun n => some (ow', n)) (by omega)
    · rw [List.length_cons, show k + (hs.length + 1) = k + 1 + hs.length by omega]
      exact S3
theorem lay_ok {m : Nat} (hm : Msk m) {hs : Array Int} (hn : hs.size ≤ m) : ∃ ow, SetTable.layClean m hs = some ow ∧ Sit m hs.size ow := by
  obtain ⟨ow, e, S⟩ := sit_all hm hs.toList 0 _ (Sit.start m) (by rw [Array.length_toList]; omega)
  rw [Nat.zero_add, Array.length_toList] at S
  refine ⟨ow, ?_, S⟩
  rw [L2.layClean_eq, e] <;> rfl

def liveAt (m : Nat) (ow : Array (Option Nat)) : List (Nat × Nat) := (List.range (m + 1)).filterMap fun j => (ow.getD j none).map (j, ·)
theorem live_snd {m : Nat} {ow : Array (Option Nat)} (hz : ow.size = m + 1) : (liveAt m ow).map (·.2) = ow.toList.filterMap id := by
  unfold liveAt
  rw [List.map_filterMap, ← hz]
  have e1 : (fun j => ((ow.getD j none).map (j, ·)).map (·.2)) = fun j => (ow[j]?).bind id := by
    funext j
    rw [Array.getD_eq_getD_getElem?]
    cases ow[j]? with
    | none => rfl
    | some y => cases y <;> rfl
  have e2 := filterMap_getElem?_range ow
  rw [e1, ← e2, List.filterMap_filterMap]
theorem laid_ok {m : Nat} (hm : Msk m) {hs : Array Int} (hn : hs.size ≤ m) (fi mv : Nat) (ld pl : Bool) :
    ∃ t order, SetTable.laid m fi mv ld pl hs = some (t, order) ∧ order.toList.Perm (List.range hs.size) ∧ t.mask = m ∧ t.dummies = #[] ∧ t.led = ld ∧ L2.Ris t.place.toList ∧ t.place.size = hs.size := by
  obtain ⟨ow, e, S⟩ := lay_ok hm hn
  have p : ((liveAt m ow).map (·.2)).Perm (List.range hs.size) := by
    rw [live_snd S.sz]
    exact S.pm
  refine ⟨_, _, by unfold SetTable.laid; rw [e]; rfl, p, rfl, rfl, rfl, ?_, ?_⟩
  · refine (L2.ris_live (fun j => ow.getD j none) (List.range (m + 1)) ?_).1
    unfold L2.Ris
    first | exact List.pairwise_lt_range | exact List.pairwise_lt_range _
  · have l := p.length_eq
    rw [List.length_map, List.length_range] at l
    show ((liveAt m ow).map (·.1)).toArray.size = hs.size
    rw [List.size_toArray, List.length_map]
    exact l
theorem above_msk : ((List.range 128).all fun n => (SetTable.sizeAbove n == 8 || SetTable.sizeAbove n == 16 || SetTable.sizeAbove n == 32 || SetTable.sizeAbove n == 64 || SetTable.sizeAbove n == 128) && decide (n < SetTable.sizeAbove n)) = true := by
  decide +kernel
theorem above_ok {n : Nat} (h : n < 128) : Msk (SetTable.sizeAbove n - 1) ∧ n ≤ SetTable.sizeAbove n - 1 ∧ SetTable.sizeAbove n ≤ 128 := by
  have q := List.all_eq_true.mp above_msk n (List.mem_range.mpr h)
  simp only [Bool.and_eq_true, Bool.or_eq_true, beq_iff_eq, decide_eq_true_eq] at q
  obtain ⟨q1, q2⟩ := q
  refine ⟨?_, by omega, by omega⟩
  unfold Msk
  omega
end Cs

set_option Elab.async false
set_option linter.all false
set_option maxRecDepth 100000
set_option maxHeartbeats 1000000
namespace Cs
open PySem PySem.Spec PyProof.Rows L2

/-- a set of ints, written out -/
structure SetX (w : World) (h : Heap) (a : Addr) (es : Array (Int × Value)) (ep : Nat) (t : SetTable) : Prop where
  obj : h.get? a = some { cls := .type "set", dict := none, data := .set es ep t, slots := #[] }
  good : ∀ e ∈ es.toList, GoodE e
  nd : (es.toList.map keyOf).Nodup
  few : es.size < scanBound
  fits : t.fits es.size = true
  ris : Ris t.place.toList
  led : w.params.followText "set-order" = true ∨ t.led = true
section
variable {w : World} {h h' : Heap} {a : Addr} {S : Int → Bool} {n : Nat} {es : Array (Int × Value)} {ep : Nat} {t : SetTable}
theorem SetX.toR (R : SetX w h a es ep t) (hS : ∀ k, S k = true ↔ k ∈ es.toList.map keyOf) (hn : es.size = n) : SetR w h a S n :=
  ⟨_, es, ep, t, R.obj, ⟨rfl, rfl, rfl⟩, rfl, R.good, R.nd, hS, R.few, R.fits, hn, R.ris, R.led⟩
theorem xOf (R : SetR w h a S n) : ∃ es ep t, SetX w h a es ep t ∧ (∀ k, S k = true ↔ k ∈ es.toList.map keyOf) ∧ es.size = n := by
  obtain ⟨⟨c, d, dt, sl⟩, es, ep, t, ho, ⟨e1, e2, e3⟩, hd, g, nd, m, fw, ft, hn, r, l⟩ := R
  simp only at e1 e2 e3 hd
  subst e1 e2 e3 hd
  exact ⟨es, ep, t, ⟨ho, g, nd, fw, ft, r, l⟩, m, hn⟩
theorem SetX.move (R : SetX w h a es ep t) (k : ∀ o, h.get? a = some o → h'.get? a = some o) : SetX w h' a es ep t :=
  ⟨k _ R.obj, R.good, R.nd, R.few, R.fits, R.ris, R.led⟩
theorem SetX.perm {es' : Array (Int × Value)} {t' : SetTable} {ep' : Nat} (R : SetX w h a es ep t) (p : es'.toList.Perm es.toList)
    (o : h'.get? a = some { cls := .type "set", dict := none, data := .set es' ep' t', slots := #[] }) (f : t'.fits es'.size = true) (r : Ris t'.place.toList) (l : w.params.followText "set-order" = true ∨ t'.led = true) : SetX w h' a es' ep' t' :=
  ⟨o, fun e he => R.good e (p.mem_iff.mp he), (p.map keyOf).nodup_iff.mpr R.nd, by
    have q := p.length_eq
    rw [Array.length_toList, Array.length_toList] at q
    rw [q]; exact R.few, f, r, l⟩
end
theorem order_perm {es : Array (Int × Value)} {order : Array Nat} (p : order.toList.Perm (List.range es.size)) : (order.filterMap (es[·]?)).toList.Perm es.toList := by
  have q := p.filterMap (fun i => es[i]?)
  rw [filterMap_getElem?_range] at q
  rw [Array.toList_filterMap]
  exact q
theorem perm_size {α : Type} {x y : Array α} (p : x.toList.Perm y.toList) : x.size = y.size := by
  have q := p.length_eq
  rw [Array.length_toList, Array.length_toList] at q
  exact q
section
variable {P : Program} {w : World} {A : Around} {E : Value → Shared → Prop} {s : Shared} {a : Addr} {es : Array (Int × Value)} {ep : Nat} {t : SetTable}

theorem relay_x {wanted : Nat} {Q : Unit → Shared → Prop} (R : SetX w s.heap a es ep t) (hw : wanted < 128) (hn : es.size ≤ wanted)
    (hQ : ∀ h' es' t', Heap.SameBut a s.heap h' → SetX w h' a es' (ep + 1) t' → es'.toList.Perm es.toList → t'.mask = SetTable.sizeAbove wanted - 1 → t'.dummies = #[] → t'.place.size = es.size → Q () { s with heap := h' }) :
    wpAny (model P w) A (setRelay a wanted) Q E s := by
  obtain ⟨hM, hMn, h128⟩ := above_ok hw
  obtain ⟨t', order, e, hp, em, ed, el, er, ez⟩ := laid_ok hM (hs := es.map (·.1)) (by rw [Array.size_map]; omega) t.finger (t.movedTo (SetTable.sizeAbove wanted - 1)) t.led t.plain
  rw [Array.size_map] at hp ez
  have p2 := order_perm hp
  have z2 := perm_size p2
  have fit : t'.fits (order.filterMap (es[·]?)).size = true := by
    unfold SetTable.fits SetTable.fill
    rw [ed, z2, ez, em, Bool.and_eq_true, beq_iff_eq, decide_eq_true_eq]
    exact ⟨rfl, by show es.size + 0 ≤ _; omega⟩
  have e' : t.relaid (es.map (·.1)) wanted = some (t', order) := e
  unfold setRelay
  refine wpAny_bind (wpAny_setState_of R.obj rfl R.fits ?_)
  dsimp only
  refine wp_if_neg (by rw [sizeLine_eq]; omega) ?_
  try refine wpAny_bind (wpAny_pure ?_)
  rw [e']
  refine wpAny_bind ?_
  refine wp_if_neg (c := ((order.filterMap (es[·]?)).size != es.size) = true) (by rw [z2]; simp) ?_
  try refine wpAny_bind (wpAny_pure ?_)
  refine wpAny_pure ?_
  dsimp only
  refine wpAny_storeSet_of R.obj rfl ?_ (fits_of_scanBound (by rw [z2]; exact R.few))
  have sb : Heap.SameBut a s.heap (s.heap.update a (Obj.putSet (order.filterMap (es[·]?)) t')) := Heap.SameBut.update ..
  exact hQ _ _ t' sb (R.perm p2 (store_at R.obj rfl) fit er (R.led.imp id fun z => el.trans z)) p2 em ed ez

/-! ### walking -/
theorem walk_x {Q : Array (Int × Value) → Shared → Prop} (R : SetX w s.heap a es ep t) (hQ : ∀ ys d, ys.toList.Perm es.toList → Q ys { s with drawn := d }) : wpAny (model P w) A (setWalk a) Q E s := by
  have rf : Q es s := hQ es s.drawn (List.Perm.refl _)
  unfold setWalk
  refine wpAny_bind (wpAny_setState_of R.obj rfl R.fits ?_)
  dsimp only
  refine wpAny_bind (wpAny_byText ?_)
  by_cases hb : w.params.followText "set-order" = true
  · refine wp_if_pos hb ?_
    refine wpAny_bind (wpAny_askSetting ?_)
    exact wpAny_pure (hQ _ s.drawn (pick_perm _ es))
  · refine wp_if_neg hb ?_
    by_cases hd : (!t.plain && decide (es.size > 1)) = true
    · refine wp_if_pos (c := (!t.plain && decide (es.size > 1)) = true) hd ?_
      refine wpAny_bind (drawOrder_at _ _ _ _ (Nat.le_of_eq Array.length_toList) fun ys d p => wpAny_pure (hQ _ d ?_))
      simpa using p
    · refine wp_if_neg (c := (!t.plain && decide (es.size > 1)) = true) hd ?_
      have hl : t.led = true := R.led.resolve_left hb
      refine wpAny_bind (m := (_ : Sem Unit)) ?_
      refine wp_if_neg (c := (!t.led && decide (es.size > 1)) = true) (by rw [hl]; simp) ?_
      exact wpAny_pure (wpAny_pure rf)
end
end Cs

set_option Elab.async false
set_option linter.all false
set_option maxRecDepth 100000
set_option maxHeartbeats 1000000
namespace Cs
open PySem PySem.Spec PyProof.Rows L2
section
variable {P : Program} {w : World} {A : Around} {E : Value → Shared → Prop} {s : Shared} {a : Addr} {es : Array (Int × Value)} {ep : Nat} {t : SetTable}

theorem quiet_x {Q : Bool → Shared → Prop} : ∀ (l : List Addr), (∀ b ∈ l, ∃ es ep t, SetX w s.heap b es ep t) → Q true s → wpAny (model P w) A (setsQuiet l) Q E s := by
  intro l hl hq
  unfold setsQuiet
  refine wpAny_bind (wpAny_forIn_list _ (fun rest b s' => b.1 = none ∧ s' = s ∧ ∀ x ∈ rest, ∃ es ep t, SetX w s.heap x es ep t) _ ?turn ?fin l _ ⟨rfl, rfl, hl⟩)
  case fin =>
    rintro ⟨b1, b2⟩ s' ⟨h1, rfl, _⟩
    cases h1
    exact wpAny_pure hq
  case turn =>
    rintro x rest ⟨b1, b2⟩ s' ⟨h1, rfl, h2⟩
    cases h1
    obtain ⟨es, ep, t, R⟩ := h2 x List.mem_cons_self
    unfold setEntries
    refine wpAny_bind (wpAny_bind (wpAny_setState_of R.obj rfl R.fits (wpAny_pure ?_)))
    refine wpAny_bind (MeetsSeq2.wpAny_forIn_array _ (fun rest' b s'' => b.1 = none ∧ s'' = s' ∧ ∀ e ∈ rest', GoodE e) _ ?t2 ?f2 es _ ⟨rfl, rfl, R.good⟩)
    case f2 =>
      rintro ⟨b1, b2⟩ s' ⟨h1, rfl, _⟩
      cases h1
      exact wpAny_pure ⟨rfl, rfl, fun y hy => h2 y (List.mem_cons_of_mem _ hy)⟩
    case t2 =>
      rintro ⟨hh, v⟩ rest' ⟨b1, b2⟩ s' ⟨h1, rfl, hg⟩
      cases h1
      obtain ⟨k, tk, e1, _⟩ := hg _ List.mem_cons_self
      have e2 : v = .int k tk := e1
      subst e2
      dsimp only
      refine wpAny_pure ⟨rfl, rfl, fun y hy => hg y (List.mem_cons_of_mem _ hy)⟩
end
end Cs

set_option Elab.async false
set_option linter.all false
set_option maxRecDepth 100000
set_option maxHeartbeats 1000000
namespace Cs
open PySem PySem.Spec PyProof.Rows L2
section
variable {P : Program} {w : World} {A : Around} {E : Value → Shared → Prop} {s : Shared} {a : Addr} {es : Array (Int × Value)} {ep : Nat} {t : SetTable}
theorem unseen_x {others : List Addr} {f : Addr} {ef : Array (Int × Value)} {pf : Nat} {tf : SetTable} {Q : Array (Int × Value) → Shared → Prop} (R : SetX w s.heap a es ep t)
    (ho : ∀ b ∈ others, ∃ es ep t, SetX w s.heap b es ep t) (F : SetX w s.heap f ef pf tf)
    (hQ : ∀ ys d h' pf' tf', ys.toList.Perm es.toList → Heap.SameBut f s.heap h' → SetX w h' f ef pf' tf' → Q ys { s with heap := h', drawn := d }) :
    wpAny (model P w) A (setWalkUnseen a others (some f)) Q E s := by
  have rf : ∀ ys d, ys.toList.Perm es.toList → Q ys { s with drawn := d } := fun ys d p => hQ ys d s.heap pf tf p (Heap.SameBut.refl f s.heap) F
  unfold setWalkUnseen
  refine wpAny_bind (wpAny_setState_of R.obj rfl R.fits ?_)
  dsimp only
  refine wpAny_bind (wpAny_byText ?_)
  by_cases hb : (w.params.followText "set-order" || (t.led && t.plain) || decide (es.size ≤ 1)) = true
  · refine wp_if_pos (c := (w.params.followText "set-order" || (t.led && t.plain) || decide (es.size ≤ 1)) = true) hb ?_
    exact walk_x R rf
  · refine wp_if_neg (c := (w.params.followText "set-order" || (t.led && t.plain) || decide (es.size ≤ 1)) = true) hb ?_
    have hnt : ¬ w.params.followText "set-order" = true := fun z => hb (by rw [z] <;> rfl)
    have hl : t.led = true := R.led.resolve_left hnt
    try refine wpAny_bind (wpAny_pure ?_)
    refine wpAny_bind (quiet_x _ (fun b hb' => (List.mem_cons.mp hb').elim (fun z => ⟨es, ep, t, z ▸ R⟩) (ho b)) ?_)
    refine wp_if_neg (c := (!true) = true) (by simp) ?_
    try refine wpAny_bind (wpAny_pure ?_)
    refine wpAny_bind (wpAny_rule ?_)
    try dsimp only
    refine wpAny_bind (wpAny_setState_of F.obj rfl F.fits ?_)
    dsimp only
    split
    · refine wpAny_bind (wpAny_storeSet_of F.obj rfl ?_ (fits_of_scanBound F.few))
      refine wpAny_pure ?_
      refine hQ es s.drawn _ _ _ (List.Perm.refl _) (Heap.SameBut.update s.heap f _) (F.perm (List.Perm.refl _) (store_at F.obj rfl) ?_ F.ris ?_)
      · exact F.fits
      · refine F.led.imp id fun z => ?_
        show (tf.led && t.led) = true
        rw [z, hl] <;> rfl
    · try refine wpAny_bind (wpAny_pure ?_)
      exact wpAny_pure (rf es s.drawn (List.Perm.refl _))
theorem unseen_n {others : List Addr} {Q : Array (Int × Value) → Shared → Prop} (R : SetX w s.heap a es ep t)
    (ho : ∀ b ∈ others, ∃ es ep t, SetX w s.heap b es ep t)
    (rf : ∀ ys d, ys.toList.Perm es.toList → Q ys { s with drawn := d }) :
    wpAny (model P w) A (setWalkUnseen a others none) Q E s := by
  unfold setWalkUnseen
  refine wpAny_bind (wpAny_setState_of R.obj rfl R.fits ?_)
  dsimp only
  refine wpAny_bind (wpAny_byText ?_)
  by_cases hb : (w.params.followText "set-order" || (t.led && t.plain) || decide (es.size ≤ 1)) = true
  · refine wp_if_pos (c := (w.params.followText "set-order" || (t.led && t.plain) || decide (es.size ≤ 1)) = true) hb ?_
    exact walk_x R rf
  · refine wp_if_neg (c := (w.params.followText "set-order" || (t.led && t.plain) || decide (es.size ≤ 1)) = true) hb ?_
    try refine wpAny_bind (wpAny_pure ?_)
    refine wpAny_bind (quiet_x _ (fun b hb' => (List.mem_cons.mp hb').elim (fun z => ⟨es, ep, t, z ▸ R⟩) (ho b)) ?_)
    refine wp_if_neg (c := (!true) = true) (by simp) ?_
    try refine wpAny_bind (wpAny_pure ?_)
    refine wpAny_bind (wpAny_rule ?_)
    try dsimp only
    try refine wpAny_bind (wpAny_pure ?_)
    exact wpAny_pure (rf es s.drawn (List.Perm.refl _))

theorem room_x {more : Nat} {Q : Unit → Shared → Prop} (R : SetX w s.heap a es ep t) (hm : (es.size + more) * 2 < 128)
    (hQ : ∀ h' es' ep' t', Heap.SameBut a s.heap h' → SetX w h' a es' ep' t' → es'.toList.Perm es.toList →
      ((t' = t ∧ (t.fill + more) * 5 < t.mask * 3) ∨ (t'.mask = SetTable.sizeAbove ((es.size + more) * 2) - 1 ∧ t'.dummies = #[])) → Q () { s with heap := h' }) :
    wpAny (model P w) A (setRoomFor a more) Q E s := by
  have hz : t.place.size = es.size := by
    have f := R.fits
    unfold SetTable.fits at f
    rw [Bool.and_eq_true, beq_iff_eq] at f
    exact f.1
  unfold setRoomFor
  refine wpAny_bind (wpAny_setState_of R.obj rfl R.fits ?_)
  dsimp only
  by_cases c : (t.fill + more) * 5 ≥ t.mask * 3
  · have e : t.roomFor more = some ((t.place.size + more) * 2) := if_pos c
    rw [e]
    dsimp only
    rw [hz]
    refine relay_x R hm (by omega) fun h' es' t' sb X p em ed _ => hQ h' es' _ t' sb X p (.inr ⟨em, ed⟩)
  · have e : t.roomFor more = none := if_neg c
    rw [e]
    dsimp only
    exact wpAny_pure (hQ s.heap es ep t (Heap.SameBut.refl a s.heap) R (List.Perm.refl _) (.inl ⟨rfl, by omega⟩))
end
end Cs

set_option Elab.async false
set_option linter.all false
set_option maxRecDepth 100000
set_option maxHeartbeats 1000000
namespace Cs
open PySem PySem.Spec PyProof.Rows L2
section
variable {P : Program} {w : World} {A : Around} {E : Value → Shared → Prop} {s : Shared}
abbrev keys (es : Array (Int × Value)) : List Int := es.toList.map keyOf
theorem keys_perm {x y : Array (Int × Value)} (p : x.toList.Perm y.toList) (k : Int) : k ∈ keys x ↔ k ∈ keys y := (p.map keyOf).mem_iff
theorem sb_trans {a : Addr} {h1 h2 h3 : Heap} (x : Heap.SameBut a h1 h2) (y : Heap.SameBut a h2 h3) : Heap.SameBut a h1 h3 := x.trans y
theorem sx_other {h h' : Heap} {a b : Addr} {es : Array (Int × Value)} {ep : Nat} {t : SetTable} (R : SetX w h b es ep t) (sb : Heap.SameBut a h h') (hne : b ≠ a) : SetX w h' b es ep t :=
  R.move fun o e => (sb.2 b hne).trans e
theorem sr_other {h h' : Heap} {a b : Addr} {S : Int → Bool} {n : Nat} (R : SetR w h b S n) (sb : Heap.SameBut a h h') (hne : b ≠ a) : SetR w h' b S n :=
  R.at fun o e => (sb.2 b hne).trans e

/-- adding the members of a walk, one by one -/
theorem add_all {r : Addr} (f : (Int × Value) → PUnit → Sem (ForInStep PUnit)) (K : Shared → Prop) (hK : ∀ s1 h', Heap.SameBut r s1.heap h' → K s1 → K { s1 with heap := h' })
    (hf : ∀ e k tk s1 Q', e = (hashInt k, Value.int k tk) → K s1 → (wpAny (model P w) A (setAddHashed r (.int k tk) (hashInt k)) (fun _ s2 => K s2 ∧ Q' (.yield ⟨⟩) s2) E s1) → wpAny (model P w) A (f e ⟨⟩) Q' E s1)
    (ys : Array (Int × Value)) (g : ∀ e ∈ ys.toList, GoodE e) {S : Int → Bool} {n : Nat} (R : SetR w s.heap r S n) (hn : n + ys.size + 1 < scanBound) (hs : K s) {Q : PUnit → Shared → Prop}
    (hQ : ∀ h' S' n', SetR w h' r S' n' → (∀ k, S' k = true ↔ S k = true ∨ k ∈ keys ys) → n' ≤ n + ys.size → Heap.SameBut r s.heap h' → K { s with heap := h' } → Q ⟨⟩ { s with heap := h' }) :
    wpAny (model P w) A (forIn ys ⟨⟩ f) Q E s := by
  refine MeetsSeq2.wpAny_forIn_array f (fun rest _ s' => ∃ h' S' n', s' = { s with heap := h' } ∧ SetR w h' r S' n' ∧ (∀ k, (S' k = true ∨ k ∈ rest.map keyOf) ↔ (S k = true ∨ k ∈ keys ys)) ∧ n' + rest.length ≤ n + ys.size ∧
    Heap.SameBut r s.heap h' ∧ K { s with heap := h' } ∧ ∀ e ∈ rest, GoodE e) Q ?turn ?fin ys ⟨⟩ ⟨s.heap, S, n, rfl, R, fun k => Iff.rfl, by rw [Array.length_toList]; exact Nat.le_refl _, Heap.SameBut.refl r s.heap, hs, g⟩
  case fin =>
    rintro ⟨⟩ s' ⟨h', S', n', rfl, R', m, l, sb, k, _⟩
    exact hQ h' S' n' R' (fun k => by simpa using m k) (by simpa using l) sb k
  case turn =>
    rintro e rest ⟨⟩ s' ⟨h', S', n', rfl, R', m, l, sb, kk, g'⟩
    obtain ⟨k, tk, e1, e2⟩ := g' e List.mem_cons_self
    obtain ⟨eh, ev⟩ := e
    simp only at e1 e2
    subst e1 e2
    rw [List.length_cons] at l
    refine hf _ k tk _ _ rfl kk ?_
    refine setR_add_hashed (s := { s with heap := h' }) R' (by omega) fun h2 sb2 R2 => ?_
    have k2 : K { s with heap := h2 } := hK { s with heap := h' } h2 sb2 kk
    refine ⟨k2, h2, _, _, rfl, R2, fun j => ?_, ?_, sb_trans sb sb2, k2, fun e he => g' e (List.mem_cons_of_mem _ he)⟩
    · rw [← m j, List.map_cons, List.mem_cons, Bool.or_eq_true, decide_eq_true_eq]
      show ((S' j = true ∨ j = k) ∨ _) ↔ (S' j = true ∨ (j = k ∨ _))
      exact or_assoc
    · have : (if S' k = true then n' else n' + 1) ≤ n' + 1 := by split <;> omega
      omega

/-- what is merged into a set with members -/
theorem merge_more {r o : Addr} {each : Sem Unit} {er eo : Array (Int × Value)} {pr po : Nat} {tr to : SetTable} {Q : Unit → Shared → Prop} (hro : o ≠ r) (R : SetX w s.heap r er pr tr) (O : SetX w s.heap o eo po to)
    (hne : er.size ≠ 0) (hroom : (er.size + eo.size) * 2 < 128)
    (heach : ∀ s' Q', SetX w s'.heap o eo po to → Q' () s' → wpAny (model P w) A each Q' E s')
    (hQ : ∀ h' d' S' n', SetR w h' r S' n' → (∀ k, S' k = true ↔ k ∈ keys er ∨ k ∈ keys eo) → n' ≤ er.size + eo.size → Heap.SameBut r s.heap h' → Q () { s with heap := h', drawn := d' }) :
    wpAny (model P w) A (setMerge r o each) Q E s := by
  unfold setMerge
  refine wp_if_neg (c := (r == o) = true) (by simpa using Ne.symm hro) ?_
  try refine wpAny_bind (wpAny_pure ?_)
  refine wpAny_bind (wpAny_setState_of O.obj rfl O.fits ?_)
  dsimp only
  by_cases he : eo.isEmpty = true
  · refine wp_if_pos (c := eo.isEmpty = true) he ?_
    refine wpAny_pure (hQ s.heap s.drawn _ _ (R.toR (S := fun k => decide (k ∈ keys er)) (fun k => decide_eq_true_iff) rfl) (fun k => ?_) (by omega) (Heap.SameBut.refl r s.heap))
    have : eo = #[] := by simpa using he
    subst this
    simp
  · refine wp_if_neg (c := eo.isEmpty = true) he ?_
    try refine wpAny_bind (wpAny_pure ?_)
    refine wpAny_bind (room_x R hroom fun h1 er1 pr1 tr1 sb1 R1 p1 _ => ?_)
    have O1 := sx_other O sb1 hro
    refine wpAny_bind (wpAny_setState_of R1.obj rfl R1.fits ?_)
    dsimp only
    have z1 := perm_size p1
    have hfill : (tr1.fill != 0) = true := by
      have f := R1.fits
      unfold SetTable.fits at f
      rw [Bool.and_eq_true, beq_iff_eq] at f
      have : tr1.fill ≠ 0 := by
        unfold SetTable.fill
        omega
      simpa using this
    have er' : tr1.road to = .oneByOne := if_pos hfill
    rw [er']
    dsimp only
    refine wpAny_bind (unseen_x (s := { s with heap := h1 }) O1 (fun b hb => by rw [List.mem_singleton.mp hb]; exact ⟨_, _, _, R1⟩) R1 fun ys d h2 pf tf py sb2 R2 => ?_)
    have O2 := sx_other O1 sb2 hro
    have zy := perm_size py
    refine wpAny_bind (add_all (s := { s with heap := h2, drawn := d }) (P := P) (A := A) (E := E) _ (fun s1 => SetX w s1.heap o eo po to) (fun s1 h' sb k => sx_other k sb hro) ?hf ys (fun e he => O.good e (py.mem_iff.mp he))
      (R2.toR (S := fun k => decide (k ∈ keys er1)) (fun k => decide_eq_true_iff) rfl) (by have : scanBound = 4096 := rfl; omega) O2 ?hQ)
    case hQ =>
      intro h3 S' n' R3 m3 l3 sb3 _
      refine wpAny_pure (hQ h3 d S' n' R3 (fun k => ?_) (by omega) (sb_trans sb1 (sb_trans sb2 sb3)))
      rw [m3 k, decide_eq_true_iff, keys_perm p1 k, keys_perm py k]
    case hf =>
      intro e k tk s1 Q' ee kk hwp
      subst ee
      dsimp only
      refine wpAny_bind (wpAny_holding (wpAny_mono hwp (fun b s2 hs2 => ?_) fun _ _ z => z))
      obtain ⟨k2, q2⟩ := hs2
      refine wpAny_bind (heach s2 _ k2 ?_)
      refine wpAny_bind (wpAny_setState_of k2.obj rfl k2.fits ?_)
      refine wp_if_neg (c := (po != po) = true) (by simp) ?_
      exact wpAny_pure q2
end
end Cs

set_option Elab.async false
set_option linter.all false
set_option maxRecDepth 100000
set_option maxHeartbeats 1000000
namespace Cs
open PySem PySem.Spec PyProof.Rows L2
section
variable {P : Program} {w : World} {A : Around} {E : Value → Shared → Prop} {s : Shared}
theorem SetX.permTo {h h' : Heap} {a b : Addr} {es es' : Array (Int × Value)} {t t' : SetTable} {ep ep' : Nat} (R : SetX w h a es ep t) (p : es'.toList.Perm es.toList)
    (o : h'.get? b = some { cls := .type "set", dict := none, data := .set es' ep' t', slots := #[] }) (f : t'.fits es'.size = true) (r : Ris t'.place.toList) (l : w.params.followText "set-order" = true ∨ t'.led = true) : SetX w h' b es' ep' t' :=
  ⟨o, fun e he => R.good e (p.mem_iff.mp he), (p.map keyOf).nodup_iff.mpr R.nd, by rw [perm_size p]; exact R.few, f, r, l⟩
theorem nil_of_perm {es : Array (Int × Value)} (p : es.toList.Perm (#[] : Array (Int × Value)).toList) : es = #[] := by
  have q := List.perm_nil.mp p
  simpa using q
theorem merge_fresh {r o : Addr} {each : Sem Unit} {eo : Array (Int × Value)} {pr po : Nat} {tr to : SetTable} {Q : Unit → Shared → Prop} (hro : o ≠ r) (R : SetX w s.heap r #[] pr tr)
    (hm : tr.mask = 7) (hdm : tr.dummies = #[]) (O : SetX w s.heap o eo po to) (h63 : eo.size ≤ 63)
    (hQ : ∀ h' es' ep' t', SetX w h' r es' ep' t' → es'.toList.Perm eo.toList → Heap.SameBut r s.heap h' → Q () { s with heap := h' }) :
    wpAny (model P w) A (setMerge r o each) Q E s := by
  unfold setMerge
  refine wp_if_neg (c := (r == o) = true) (by simpa using Ne.symm hro) ?_
  try refine wpAny_bind (wpAny_pure ?_)
  refine wpAny_bind (wpAny_setState_of O.obj rfl O.fits ?_)
  dsimp only
  by_cases he : eo.isEmpty = true
  · refine wp_if_pos (c := eo.isEmpty = true) he ?_
    have e0 : eo = #[] := by simpa using he
    subst e0
    exact wpAny_pure (hQ s.heap _ _ _ R (List.Perm.refl _) (Heap.SameBut.refl r s.heap))
  · refine wp_if_neg (c := eo.isEmpty = true) he ?_
    try refine wpAny_bind (wpAny_pure ?_)
    have fr : tr.fill = 0 := by
      have f := R.fits
      unfold SetTable.fits at f
      rw [Bool.and_eq_true, beq_iff_eq] at f
      have f1 : tr.place.size = 0 := f.1
      unfold SetTable.fill
      rw [hdm, f1]
      rfl
    refine wpAny_bind (room_x R (by show (0 + eo.size) * 2 < 128; omega) fun h1 er1 pr1 tr1 sb1 R1 p1 alt => ?_)
    have e1 := nil_of_perm p1
    subst e1
    have O1 := sx_other O sb1 hro
    have hM : Msk tr1.mask ∧ eo.size ≤ tr1.mask ∧ tr1.dummies = #[] := by
      rcases alt with ⟨et, hlt⟩ | ⟨em, ed⟩
      · subst et
        rw [fr, hm] at hlt
        exact ⟨.inl hm, by rw [hm]; omega, hdm⟩
      · have z : (#[] : Array (Int × Value)).size = 0 := rfl
        rw [z] at em
        obtain ⟨a1, a2, a3⟩ := above_ok (n := (0 + eo.size) * 2) (by omega)
        exact ⟨em ▸ a1, by omega, ed⟩
    obtain ⟨hM1, hM2, hM3⟩ := hM
    have fr1 : tr1.fill = 0 := by
      have f := R1.fits
      unfold SetTable.fits at f
      rw [Bool.and_eq_true, beq_iff_eq] at f
      have f1 : tr1.place.size = 0 := f.1
      unfold SetTable.fill
      rw [hM3, f1]
      rfl
    refine wpAny_bind (wpAny_setState_of R1.obj rfl R1.fits ?_)
    dsimp only
    have led : w.params.followText "set-order" = true ∨ (tr1.led && to.led) = true := by
      rcases R1.led with z | z
      · exact .inl z
      · rcases O1.led with y | y
        · exact .inl y
        · exact .inr (by rw [z, y] <;> rfl)
    have er : tr1.road to = if (tr1.mask == to.mask && to.dummies.isEmpty) = true then .slotForSlot else .clean := if_neg (by rw [fr1]; simp)
    by_cases c : (tr1.mask == to.mask && to.dummies.isEmpty) = true
    · rw [er, if_pos c]
      dsimp only
      refine wpAny_storeSet_of R1.obj rfl ?_ (fits_of_scanBound O.few)
      refine hQ _ _ _ _ (O1.permTo (List.Perm.refl _) (store_at R1.obj rfl) ?_ O1.ris led) (List.Perm.refl _) (sb_trans sb1 (Heap.SameBut.update h1 r _))
      exact O1.fits
    · rw [er, if_neg c]
      dsimp only
      obtain ⟨t', order, e, hp, em, ed, el, eR, ez⟩ := laid_ok hM1 (hs := eo.map (·.1)) (by rw [Array.size_map]; exact hM2) tr1.finger tr1.moves (tr1.led && to.led) (tr1.plain && to.plain)
      rw [Array.size_map] at hp ez
      have p2 := order_perm hp
      have z2 := perm_size p2
      rw [e]
      refine wpAny_bind ?_
      refine wp_if_neg (c := ((order.filterMap (eo[·]?)).size != eo.size) = true) (by rw [z2]; simp) ?_
      try refine wpAny_bind (wpAny_pure ?_)
      refine wpAny_pure ?_
      dsimp only
      refine wpAny_storeSet_of R1.obj rfl ?_ (fits_of_scanBound (by rw [z2]; exact O.few))
      refine hQ _ _ _ _ (O1.permTo p2 (store_at R1.obj rfl) ?_ eR (by rw [el]; exact led)) p2 (sb_trans sb1 (Heap.SameBut.update h1 r _))
      unfold SetTable.fits SetTable.fill
      rw [ed, z2, ez, em, Bool.and_eq_true, beq_iff_eq, decide_eq_true_eq]
      exact ⟨rfl, by show eo.size + 0 ≤ _; omega⟩

/-! ### the words of the class -/
abbrev newObjOf (w : World) : Obj := { cls := .type "set", dict := none, data := .set #[] 0 (.fresh 0 0 (!w.params.followText "set-order")) }
theorem fresh_x (h : Heap) : SetX w (h.push (newObjOf w)) h.objs.size #[] 0 (.fresh 0 0 (!w.params.followText "set-order")) :=
  ⟨Heap.get?_push_size _ rfl, fun e he => by simp at he, by simp, by decide, rfl, List.Pairwise.nil, by
    show _ ∨ (!w.params.followText "set-order") = true
    cases w.params.followText "set-order" <;> simp⟩
theorem SetX.ty {h : Heap} {a : Addr} {es : Array (Int × Value)} {ep : Nat} {t : SetTable} (R : SetX w h a es ep t) {s : Shared} (e : s.heap = h) : s.TypeIs (.ref a) "set" :=
  ⟨_, by rw [e]; exact R.obj, rfl⟩
theorem base_x {a : Addr} {Q : Value → Shared → Prop} (hT : s.TypeIs (.ref a) "set") (q : Q (.type "set") s) : wpAny (model P w) A (Builtin.Frozenset.baseOf a) Q E s := by
  unfold Builtin.Frozenset.baseOf
  refine wpAny_bind (wpAny_isInstance (b := true) hT sub_set_self ?_)
  exact wpAny_pure q
theorem any_x {a : Addr} {Q : Bool → Shared → Prop} (hT : s.TypeIs (.ref a) "set") (q : Q true s) : wpAny (model P w) A (Builtin.Frozenset.isAnySet (.ref a)) Q E s := by
  unfold Builtin.Frozenset.isAnySet
  refine wpAny_bind (wpAny_isInstance (b := true) hT sub_set_self ?_)
  exact wpAny_pure q
theorem new_x {Q : Value → Shared → Prop} (q : Q (.ref s.heap.objs.size) { s with heap := s.heap.push (newObjOf w) }) : wpAny (model P w) A (newSet (.type "set")) Q E s := by
  unfold newSet
  refine wpAny_bind (wpAny_byText ?_)
  dsimp only
  simp only [newObj]
  exact wpAny_bind (wpAny_alloc (wpAny_pure q))
theorem size_x {a : Addr} {es : Array (Int × Value)} {ep : Nat} {t : SetTable} {Q : Nat → Shared → Prop} (R : SetX w s.heap a es ep t) (q : Q es.size s) : wpAny (model P w) A (Builtin.Frozenset.sizeOf a) Q E s := by
  unfold Builtin.Frozenset.sizeOf setEntries
  exact wpAny_bind (wpAny_bind (wpAny_setState_of R.obj rfl R.fits (wpAny_pure (wpAny_pure q))))
theorem unchanged_x {id : String} {a : Addr} {es : Array (Int × Value)} {ep : Nat} {t : SetTable} {Q : Unit → Shared → Prop} (R : SetX w s.heap a es ep t) (q : Q () s) : wpAny (model P w) A (Builtin.Frozenset.unchanged id a ep) Q E s := by
  unfold Builtin.Frozenset.unchanged
  refine wpAny_bind (wpAny_setEpoch_of R.obj rfl R.fits ?_)
  exact wp_if_neg (c := (ep != ep) = true) (by simp) (wpAny_pure q)

/-- heaps in which all is as it was but what is new -/
def Old (h h' : Heap) : Prop := ∀ b o, h.get? b = some o → h'.get? b = some o
theorem old_push (h : Heap) (o : Obj) : Old h (h.push o) := fun _ _ e => Heap.get?_push_of_some o e
theorem old_but {h h' : Heap} {o : Obj} (sb : Heap.SameBut h.objs.size (h.push o) h') : Old h h' := fun b u e => by
  rw [sb.2 b (Nat.ne_of_lt (Heap.lt_size e))]
  exact Heap.get?_push_of_some o e
theorem copy_x {a : Addr} {es : Array (Int × Value)} {ep : Nat} {t : SetTable} {Q : Value → Shared → Prop} (R : SetX w s.heap a es ep t) (h63 : es.size ≤ 63)
    (hQ : ∀ h' es' ep' t', SetX w h' s.heap.objs.size es' ep' t' → es'.toList.Perm es.toList → Heap.SameBut s.heap.objs.size (s.heap.push (newObjOf w)) h' → Q (.ref s.heap.objs.size) { s with heap := h' }) :
    wpAny (model P w) A (Builtin.Frozenset.copyOf a) Q E s := by
  unfold Builtin.Frozenset.copyOf
  refine wpAny_bind (base_x (R.ty rfl) ?_)
  refine wpAny_bind (new_x ?_)
  refine wpAny_bind (wpAny_pure ?_)
  have hne : a ≠ s.heap.objs.size := Nat.ne_of_lt (Heap.lt_size R.obj)
  refine wpAny_bind (merge_fresh (s := { s with heap := s.heap.push (newObjOf w) }) hne (fresh_x s.heap) rfl rfl (R.move fun o e => old_push _ _ _ _ e) h63 fun h' es' ep' t' X p sb => ?_)
  exact wpAny_pure (hQ h' es' ep' t' X p sb)
end
end Cs

set_option Elab.async false
set_option linter.all false
set_option maxRecDepth 100000
set_option maxHeartbeats 1000000
namespace Cs
open PySem PySem.Spec PyProof.Rows L2
section
variable {P : Program} {w : World} {A : Around} {E : Value → Shared → Prop} {s : Shared}
/-- adding those of a walk that a test lets in -/
theorem add_some {r : Addr} (C : Int → Bool) (f : (Int × Value) → PUnit → Sem (ForInStep PUnit)) (K : Shared → Prop) (hK : ∀ s1 h', Heap.SameBut r s1.heap h' → K s1 → K { s1 with heap := h' })
    (hf : ∀ e k tk s1 Q', e = (hashInt k, Value.int k tk) → K s1 → (C k = true → wpAny (model P w) A (setAddHashed r (.int k tk) (hashInt k)) (fun _ s2 => K s2 ∧ Q' (.yield ⟨⟩) s2) E s1) → (C k = false → Q' (.yield ⟨⟩) s1) →
      wpAny (model P w) A (f e ⟨⟩) Q' E s1)
    (ys : Array (Int × Value)) (g : ∀ e ∈ ys.toList, GoodE e) {S : Int → Bool} {n : Nat} (R : SetR w s.heap r S n) (hn : n + ys.size + 1 < scanBound) (hs : K s) {Q : PUnit → Shared → Prop}
    (hQ : ∀ h' S' n', SetR w h' r S' n' → (∀ k, S' k = true ↔ S k = true ∨ (k ∈ keys ys ∧ C k = true)) → n' ≤ n + ys.size → Heap.SameBut r s.heap h' → K { s with heap := h' } → Q ⟨⟩ { s with heap := h' }) :
    wpAny (model P w) A (forIn ys ⟨⟩ f) Q E s := by
  refine MeetsSeq2.wpAny_forIn_array f (fun rest _ s' => ∃ h' S' n', s' = { s with heap := h' } ∧ SetR w h' r S' n' ∧ (∀ k, (S' k = true ∨ (k ∈ rest.map keyOf ∧ C k = true)) ↔ (S k = true ∨ (k ∈ keys ys ∧ C k = true))) ∧ n' + rest.length ≤ n + ys.size ∧
    Heap.SameBut r s.heap h' ∧ K { s with heap := h' } ∧ ∀ e ∈ rest, GoodE e) Q ?turn ?fin ys ⟨⟩ ⟨s.heap, S, n, rfl, R, fun k => Iff.rfl, by rw [Array.length_toList]; exact Nat.le_refl _, Heap.SameBut.refl r s.heap, hs, g⟩
  case fin =>
    rintro ⟨⟩ s' ⟨h', S', n', rfl, R', m, l, sb, k, _⟩
    exact hQ h' S' n' R' (fun k => by simpa using m k) (by simpa using l) sb k
  case turn =>
    rintro e rest ⟨⟩ s' ⟨h', S', n', rfl, R', m, l, sb, kk, g'⟩
    obtain ⟨k, tk, e1, e2⟩ := g' e List.mem_cons_self
    obtain ⟨eh, ev⟩ := e
    simp only at e1 e2
    subst e1 e2
    rw [List.length_cons] at l
    refine hf _ k tk _ _ rfl kk (fun hc => ?_) (fun hc => ?_)
    · refine setR_add_hashed (s := { s with heap := h' }) R' (by omega) fun h2 sb2 R2 => ?_
      have k2 : K { s with heap := h2 } := hK { s with heap := h' } h2 sb2 kk
      refine ⟨k2, h2, _, _, rfl, R2, fun j => ?_, ?_, sb_trans sb sb2, k2, fun e he => g' e (List.mem_cons_of_mem _ he)⟩
      · rw [← m j, List.map_cons, List.mem_cons, Bool.or_eq_true, decide_eq_true_eq]
        show ((S' j = true ∨ j = k) ∨ _) ↔ (S' j = true ∨ ((j = k ∨ _) ∧ _))
        constructor
        · rintro ((z | z) | ⟨z, z2⟩)
          · exact .inl z
          · exact .inr ⟨.inl z, z ▸ hc⟩
          · exact .inr ⟨.inr z, z2⟩
        · rintro (z | ⟨z | z, z2⟩)
          · exact .inl (.inl z)
          · exact .inl (.inr z)
          · exact .inr ⟨z, z2⟩
      · have : (if S' k = true then n' else n' + 1) ≤ n' + 1 := by split <;> omega
        omega
    · refine ⟨h', S', n', rfl, R', fun j => ?_, by omega, sb, kk, fun e he => g' e (List.mem_cons_of_mem _ he)⟩
      rw [← m j, List.map_cons, List.mem_cons]
      show (S' j = true ∨ _) ↔ (S' j = true ∨ ((j = k ∨ _) ∧ _))
      constructor
      · rintro (z | ⟨z, z2⟩)
        · exact .inl z
        · exact .inr ⟨.inr z, z2⟩
      · rintro (z | ⟨z | z, z2⟩)
        · exact .inl z
        · rw [z, hc] at z2
          cases z2
        · exact .inr ⟨z, z2⟩

theorem find_x {a : Addr} {es : Array (Int × Value)} {ep : Nat} {t : SetTable} {k : Int} {tk : Tok} {Q : Option Nat → Shared → Prop} (R : SetX w s.heap a es ep t)
    (h : ∀ i : Option Nat, (i = none ∧ k ∉ keys es ∨ ∃ j, i = some j ∧ (keys es)[j]? = some k) → Q i s) : wpAny (model P w) A (setFind a (.int k tk) (hashInt k)) Q E s := by
  have hkey : (intKind P w).is k (.int k tk) = true := intKind_is P w k tk
  have hel : ElemsOf (intKind P w) es.toList := good_elems R.good
  unfold setFind setFindIn
  refine wpAny_bind (wpAny_setState_of R.obj rfl R.fits ?_)
  dsimp only
  rw [byScan_of (x := .int k tk) rfl R.few hel]
  simp only [↓reduceIte]
  refine wpAny_bind (wpAny_rule ?_)
  refine wpAny_bind (wpAny_setScan_of (knd := intKind P w) hkey R.obj rfl R.fits hel ?_)
  cases hr : List.findIdx? (fun e => (intKind P w).is k e.2) es.toList with
  | none =>
    dsimp only
    refine wpAny_pure (h none (.inl ⟨rfl, fun z => ?_⟩))
    obtain ⟨e, he, q⟩ := (good_mem (P := P) (w := w) R.good k).1 z
    have c := List.findIdx?_eq_none_iff.mp hr e he
    rw [q] at c
    cases c
  | some j =>
    dsimp only
    obtain ⟨hj, pj, _⟩ := List.findIdx?_eq_some_iff_getElem.mp hr
    refine wpAny_pure (h (some (0 + j)) (.inr ⟨0 + j, rfl, ?_⟩))
    rw [Nat.zero_add, List.getElem?_map, List.getElem?_eq_getElem hj]
    have := (good_is (P := P) (w := w) (R.good _ (List.getElem_mem hj)) k).1 pj
    exact congrArg some this
theorem found_x {a : Addr} {es : Array (Int × Value)} {ep : Nat} {t : SetTable} {k : Int} {tk : Tok} {Q : Option Nat → Shared → Prop} (R : SetX w s.heap a es ep t)
    (h : ∀ i : Option Nat, i.isSome = decide (k ∈ keys es) → Q i s) : wpAny (model P w) A (setFind a (.int k tk) (hashInt k)) Q E s := by
  refine find_x R fun i hi => h i ?_
  rcases hi with ⟨rfl, z⟩ | ⟨j, rfl, z⟩
  · simp [z]
  · have : k ∈ keys es := List.mem_of_getElem? z
    simp [this]

/-- a & b -/
theorem and_x {id : String} {a b : Addr} {ea eb : Array (Int × Value)} {pa pb : Nat} {ta tb : SetTable} {Q : Value → Shared → Prop} (hne : b ≠ a) (RA : SetX w s.heap a ea pa ta) (RB : SetX w s.heap b eb pb tb)
    (hl : ea.size ≤ 63) (hl2 : eb.size ≤ 63)
    (hQ : ∀ h' d' S n, SetR w h' s.heap.objs.size S n → (∀ k, S k = true ↔ k ∈ keys ea ∧ k ∈ keys eb) → n ≤ 63 → Old s.heap h' → Q (.ref s.heap.objs.size) { s with heap := h', drawn := d' }) :
    wpAny (model P w) A (Builtin.Frozenset.intersection id a (.ref b)) Q E s := by
  have hsb : scanBound = 4096 := rfl
  have na : a ≠ s.heap.objs.size := Nat.ne_of_lt (Heap.lt_size RA.obj)
  have nb : b ≠ s.heap.objs.size := Nat.ne_of_lt (Heap.lt_size RB.obj)
  unfold Builtin.Frozenset.intersection
  refine wp_if_neg (c := ((Value.ref b == Value.ref a) = true)) (by simpa using hne) ?_
  try refine wpAny_bind (wpAny_pure ?_)
  refine wpAny_bind (base_x (RA.ty rfl) ?_)
  refine wpAny_bind (new_x ?_)
  refine wpAny_bind (wpAny_pure ?_)
  have RA1 : SetX w (s.heap.push (newObjOf w)) a ea pa ta := RA.move fun o e => old_push _ _ _ _ e
  have RB1 : SetX w (s.heap.push (newObjOf w)) b eb pb tb := RB.move fun o e => old_push _ _ _ _ e
  have R1 := fresh_x (w := w) s.heap
  refine wpAny_bind (wpAny_holding ?_)
  refine wpAny_bind (any_x (RB1.ty rfl) ?_)
  refine wp_if_pos (c := (true = true)) rfl ?_
  refine wpAny_bind (wpAny_pure ?_)
  refine wpAny_bind (size_x (s := { s with heap := s.heap.push (newObjOf w) }) RB1 ?_)
  refine wpAny_bind (size_x (s := { s with heap := s.heap.push (newObjOf w) }) RA1 ?_)
  have key : ∀ (q v : Addr) (eq ev : Array (Int × Value)) (pq pv : Nat) (tq tv : SetTable), SetX w (s.heap.push (newObjOf w)) q eq pq tq → SetX w (s.heap.push (newObjOf w)) v ev pv tv → ev.size ≤ 63 → q ≠ s.heap.objs.size → v ≠ s.heap.objs.size →
      (∀ k, k ∈ keys ev ∧ k ∈ keys eq ↔ k ∈ keys ea ∧ k ∈ keys eb) → wpAny (model P w) A (do
        let was ← setEpoch v
        for (h, x) in ← setWalkUnseen v [q, s.heap.objs.size] (some s.heap.objs.size) do
          holding [x] do
            if (← setFind q x h).isSome then
              let _ ← setAddHashed s.heap.objs.size x h
          Builtin.Frozenset.unchanged id v was) (fun _ s' => wpAny (model P w) A (pure (Value.ref s.heap.objs.size)) Q E s') E { s with heap := s.heap.push (newObjOf w) } := by
    intro q v eq ev pq pv tq tv RQ RV hv nq nv hk
    refine wpAny_bind (wpAny_setEpoch_of RV.obj rfl RV.fits ?_)
    refine wpAny_bind (unseen_x (s := { s with heap := s.heap.push (newObjOf w) }) RV (fun c hc => ?_) R1 fun ys d h2 pf tf py sb2 R2 => ?_)
    · rcases List.mem_cons.mp hc with z | z
      · exact ⟨_, _, _, z ▸ RQ⟩
      · rw [List.mem_singleton.mp z]
        exact ⟨_, _, _, R1⟩
    have RQ2 := sx_other RQ sb2 nq
    have RV2 := sx_other RV sb2 nv
    have zy := perm_size py
    refine wpAny_bind (add_some (P := P) (A := A) (E := E) (s := { s with heap := h2, drawn := d }) (r := s.heap.objs.size) (fun k => decide (k ∈ keys eq)) _ (fun s1 => SetX w s1.heap q eq pq tq ∧ SetX w s1.heap v ev pv tv) (fun s1 h' sb k => ⟨sx_other k.1 sb nq, sx_other k.2 sb nv⟩) ?hf ys
      (fun e he => RV.good e (py.mem_iff.mp he)) (R2.toR (S := fun _ => false) (fun k => by simp) rfl) (by show 0 + ys.size + 1 < scanBound; omega) ⟨RQ2, RV2⟩ ?hQ)
    case hQ =>
      intro h3 S' n' R3 m3 l3 sb3 _
      refine wpAny_pure (wpAny_pure (hQ h3 d S' n' R3 (fun k => ?_) ?_ ?_))
      · rw [m3 k, keys_perm py k, decide_eq_true_iff, ← hk k]
        simp
      · have : n' ≤ 0 + ys.size := l3
        omega
      · exact old_but (sb_trans sb2 sb3)
    case hf =>
      intro e k tk s1 Q' ee kk h1 h0
      subst ee
      dsimp only
      refine wpAny_bind (wpAny_holding ?_)
      refine wpAny_bind (found_x kk.1 fun i hi => ?_)
      by_cases c : k ∈ keys eq
      · refine wp_if_pos (by rw [hi]; exact decide_eq_true c) ?_
        refine wpAny_bind (wpAny_mono (h1 (decide_eq_true c)) (fun b s2 hs2 => ?_) fun _ _ z => z)
        refine wpAny_pure ?_
        refine wpAny_bind (unchanged_x hs2.1.2 ?_)
        exact wpAny_pure hs2.2
      · refine wp_if_neg (by rw [hi]; simpa using c) ?_
        refine wpAny_pure ?_
        refine wpAny_bind (unchanged_x kk.2 ?_)
        exact wpAny_pure (h0 (decide_eq_false c))
  by_cases c : eb.size > ea.size
  · rw [if_pos c]
    exact key b a eb ea pb pa tb ta RB1 RA1 hl nb na (fun k => Iff.rfl)
  · rw [if_neg c]
    exact key a b ea eb pa pb ta tb RA1 RB1 hl2 na nb (fun k => And.comm)
end
end Cs

set_option Elab.async false
set_option linter.all false
set_option maxRecDepth 100000
set_option maxHeartbeats 1000000
namespace Cs
open PySem PySem.Spec PyProof.Rows L2
section
variable {P : Program} {w : World} {A : Around} {E : Value → Shared → Prop} {s : Shared}
theorem map_out {α β : Type} (f : α → β) : ∀ (l : List α) (i : Nat), (l.map f).eraseIdx i = (l.eraseIdx i).map f
  | [], i => by simp
  | x :: l, 0 => by simp
  | x :: l, i + 1 => by simp [map_out f l i]
/-- a | b -/
theorem union_x {id : String} {a b : Addr} {ea eb : Array (Int × Value)} {pa pb : Nat} {ta tb : SetTable} {Q : Unit → Shared → Prop} (hne : b ≠ a) (RA : SetX w s.heap a ea pa ta) (RB : SetX w s.heap b eb pb tb)
    (ha : ea.size ≠ 0 ∨ (ea = #[] ∧ ta.mask = 7 ∧ ta.dummies = #[])) (hl : (ea.size + eb.size) * 2 < 128)
    (hQ : ∀ h' d' S n, SetR w h' a S n → (∀ k, S k = true ↔ k ∈ keys ea ∨ k ∈ keys eb) → n ≤ ea.size + eb.size → Heap.SameBut a s.heap h' → Q () { s with heap := h', drawn := d' }) :
    wpAny (model P w) A (Builtin.Frozenset.updateFrom id a (.ref b)) Q E s := by
  unfold Builtin.Frozenset.updateFrom
  refine wpAny_bind (any_x (RB.ty rfl) ?_)
  refine wp_if_pos (c := (true = true)) rfl ?_
  refine wpAny_bind (wpAny_pure ?_)
  refine wpAny_bind (wpAny_setEpoch_of RB.obj rfl RB.fits ?_)
  rcases ha with ha | ⟨e0, em, ed⟩
  · refine merge_more hne RA RB ha hl (fun s' Q' k q => unchanged_x k q) fun h' d' S' n' R m l sb => ?_
    exact hQ h' d' S' n' R m l sb
  · subst e0
    have z0 : (#[] : Array (Int × Value)).size = 0 := rfl
    refine merge_fresh hne RA em ed RB (by omega) fun h' es' ep' t' X p sb => ?_
    have z := perm_size p
    exact hQ h' s.drawn _ _ (X.toR (S := fun k => decide (k ∈ keys es')) (fun k => decide_eq_true_iff) rfl) (fun k => by rw [decide_eq_true_iff, keys_perm p k]; simp) (by omega) sb

/-- what is struck out -/
theorem discard_x {a : Addr} {es : Array (Int × Value)} {ep : Nat} {t : SetTable} {k : Int} {tk : Tok} {Q : Bool → Shared → Prop} (R : SetX w s.heap a es ep t)
    (hQ : ∀ b h' es' ep' t', SetX w h' a es' ep' t' → (∀ j, j ∈ keys es' ↔ j ∈ keys es ∧ j ≠ k) → es'.size ≤ es.size → Heap.SameBut a s.heap h' → Q b { s with heap := h' }) :
    wpAny (model P w) A (setDiscardHashed a (.int k tk) (hashInt k)) Q E s := by
  unfold setDiscardHashed
  refine wpAny_bind (find_x R fun i hi => ?_)
  rcases hi with ⟨rfl, z⟩ | ⟨i, rfl, z⟩
  · exact wpAny_pure (hQ false s.heap es ep t R (fun j => ⟨fun q => ⟨q, fun e => z (e ▸ q)⟩, fun q => q.1⟩) (Nat.le_refl _) (Heap.SameBut.refl a s.heap))
  · dsimp only
    refine wpAny_bind (wpAny_setState_of R.obj rfl R.fits ?_)
    dsimp only
    have hf := R.fits
    unfold SetTable.fits SetTable.fill at hf
    rw [Bool.and_eq_true, beq_iff_eq, decide_eq_true_eq] at hf
    have hi : i < es.toList.length := by
      have := (List.getElem?_eq_some_iff.mp z).1
      rw [List.length_map] at this
      exact this
    have hi2 : i < t.place.size := by rw [hf.1, ← Array.length_toList]; exact hi
    have er : ∀ {α : Type} (xs : Array α), (SetTable.eraseAt xs i).toList = xs.toList.eraseIdx i := fun xs => by
      unfold SetTable.eraseAt
      rw [List.eraseIdx_eq_take_drop_succ]
      simp [List.extract_eq_take_drop, List.take_of_length_le]
    have ed : t.drop i = { t with place := SetTable.eraseAt t.place i, dummies := SetTable.insertAt t.dummies (SetTable.below t.dummies t.place[i]) t.place[i] } := by
      unfold SetTable.drop
      rw [Array.getElem?_eq_getElem hi2]
    have l1 : (SetTable.eraseAt es i).size + 1 = es.size := by
      rw [← Array.length_toList, er, List.length_eraseIdx, if_pos hi, Array.length_toList]
      rw [Array.length_toList] at hi
      omega
    have l2 : (SetTable.eraseAt t.place i).size + 1 = t.place.size := by
      rw [← Array.length_toList, er, List.length_eraseIdx, Array.length_toList, if_pos hi2]
      omega
    have l3 : ∀ p x, (SetTable.insertAt t.dummies p x).size = t.dummies.size + 1 := fun p x => by
      have := (SetTable.insertAt_perm t.dummies p x).length_eq
      rw [Array.length_toList, Array.length_toList, Array.size_push] at this
      exact this
    refine wpAny_bind (wpAny_storeSet_of R.obj rfl ?_ (fits_of_scanBound (by have := R.few; omega)))
    refine wpAny_bind (wpAny_point ?_)
    have ek : keys (SetTable.eraseAt es i) = (keys es).eraseIdx i := by
      show (SetTable.eraseAt es i).toList.map keyOf = _
      rw [er]
      exact (map_out keyOf es.toList i).symm
    have pk : (k :: (keys es).eraseIdx i).Perm (keys es) := erase_perm (keys es) i k z
    have nd : (k :: (keys es).eraseIdx i).Nodup := pk.nodup_iff.mpr R.nd
    refine wpAny_pure (hQ true _ _ _ _ ⟨store_at R.obj rfl, fun e he => R.good e ?_, ?_, ?_, ?_, ?_, ?_⟩ (fun j => ?_) (by omega) (Heap.SameBut.update s.heap a _))
    · rw [er] at he
      exact List.mem_of_mem_eraseIdx he
    · show (keys (SetTable.eraseAt es i)).Nodup
      rw [ek]
      exact (List.nodup_cons.mp nd).2
    · have := R.few
      omega
    · rw [ed]
      unfold SetTable.fits SetTable.fill
      rw [Bool.and_eq_true, beq_iff_eq, decide_eq_true_eq]
      simp only
      rw [l3]
      exact ⟨by omega, by omega⟩
    · rw [ed]
      show Ris (SetTable.eraseAt t.place i).toList
      rw [er]
      exact List.Pairwise.sublist (List.eraseIdx_sublist _ _) R.ris
    · rw [ed]
      exact R.led
    · rw [ek, ← (pk.mem_iff (a := j)), List.mem_cons]
      constructor
      · intro q
        exact ⟨.inr q, fun e => (List.nodup_cons.mp nd).1 (e ▸ q)⟩
      · rintro ⟨q | q, q2⟩
        · exact absurd q q2
        · exact q

theorem strike_all {r : Addr} (f : (Int × Value) → PUnit → Sem (ForInStep PUnit)) (K : Shared → Prop) (hK : ∀ s1 h', Heap.SameBut r s1.heap h' → K s1 → K { s1 with heap := h' })
    (hf : ∀ e k tk s1 Q', e = (hashInt k, Value.int k tk) → K s1 → (wpAny (model P w) A (setDiscardHashed r (.int k tk) (hashInt k)) (fun _ s2 => K s2 ∧ Q' (.yield ⟨⟩) s2) E s1) → wpAny (model P w) A (f e ⟨⟩) Q' E s1)
    (ys : Array (Int × Value)) (g : ∀ e ∈ ys.toList, GoodE e) {es : Array (Int × Value)} {ep : Nat} {t : SetTable} (R : SetX w s.heap r es ep t) (hs : K s) {Q : PUnit → Shared → Prop}
    (hQ : ∀ h' es' ep' t', SetX w h' r es' ep' t' → (∀ k, k ∈ keys es' ↔ k ∈ keys es ∧ k ∉ keys ys) → es'.size ≤ es.size → Heap.SameBut r s.heap h' → K { s with heap := h' } → Q ⟨⟩ { s with heap := h' }) :
    wpAny (model P w) A (forIn ys ⟨⟩ f) Q E s := by
  refine MeetsSeq2.wpAny_forIn_array f (fun rest _ s' => ∃ h' es' ep' t', s' = { s with heap := h' } ∧ SetX w h' r es' ep' t' ∧ (∀ k, (k ∈ keys es' ∧ k ∉ rest.map keyOf) ↔ (k ∈ keys es ∧ k ∉ keys ys)) ∧ es'.size ≤ es.size ∧
    Heap.SameBut r s.heap h' ∧ K { s with heap := h' } ∧ ∀ e ∈ rest, GoodE e) Q ?turn ?fin ys ⟨⟩ ⟨s.heap, es, ep, t, rfl, R, fun k => Iff.rfl, Nat.le_refl _, Heap.SameBut.refl r s.heap, hs, g⟩
  case fin =>
    rintro ⟨⟩ s' ⟨h', es', ep', t', rfl, R', m, l, sb, k, _⟩
    exact hQ h' es' ep' t' R' (fun k => by simpa using m k) l sb k
  case turn =>
    rintro e rest ⟨⟩ s' ⟨h', es', ep', t', rfl, R', m, l, sb, kk, g'⟩
    obtain ⟨k, tk, e1, e2⟩ := g' e List.mem_cons_self
    obtain ⟨eh, ev⟩ := e
    simp only at e1 e2
    subst e1 e2
    refine hf _ k tk _ _ rfl kk ?_
    refine discard_x (s := { s with heap := h' }) R' fun b h2 es2 ep2 t2 R2 m2 l2 sb2 => ?_
    have k2 : K { s with heap := h2 } := hK { s with heap := h' } h2 sb2 kk
    refine ⟨k2, h2, _, _, _, rfl, R2, fun j => ?_, by omega, sb_trans sb sb2, k2, fun e he => g' e (List.mem_cons_of_mem _ he)⟩
    rw [← m j, List.map_cons, List.mem_cons, m2 j]
    show ((j ∈ keys es' ∧ j ≠ k) ∧ _) ↔ (j ∈ keys es' ∧ ¬ (j = k ∨ _))
    constructor
    · rintro ⟨⟨z1, z2⟩, z3⟩
      exact ⟨z1, fun z => z.elim z2 z3⟩
    · rintro ⟨z1, z2⟩
      exact ⟨⟨z1, fun z => z2 (.inl z)⟩, fun z => z2 (.inr z)⟩

theorem tidy_x {a : Addr} {es : Array (Int × Value)} {ep : Nat} {t : SetTable} {Q : Unit → Shared → Prop} (R : SetX w s.heap a es ep t) (hl : es.size ≤ 31)
    (hQ : ∀ h' es' ep' t', SetX w h' a es' ep' t' → es'.toList.Perm es.toList → Heap.SameBut a s.heap h' → Q () { s with heap := h' }) :
    wpAny (model P w) A (setTidy a) Q E s := by
  unfold setTidy
  refine wpAny_bind (wpAny_setState_of R.obj rfl R.fits ?_)
  dsimp only
  have eg : SetTable.grown es.size = es.size * 4 := if_neg (by omega)
  split
  · rw [eg]
    exact relay_x R (by omega) (by omega) fun h' es' t' sb X p _ _ _ => hQ h' es' _ t' X p sb
  · exact wpAny_pure (hQ s.heap es ep t R (List.Perm.refl _) (Heap.SameBut.refl a s.heap))
end
end Cs

set_option Elab.async false
set_option linter.all false
set_option maxRecDepth 100000
set_option maxHeartbeats 2000000
namespace Cs
open PySem PySem.Spec PyProof.Rows L2
section
variable {P : Program} {w : World} {A : Around} {E : Value → Shared → Prop} {s : Shared}
/-- a - b -/
theorem sub_x {id : String} {a b : Addr} {ea eb : Array (Int × Value)} {pa pb : Nat} {ta tb : SetTable} {Q : Value → Shared → Prop} (hne : b ≠ a) (RA : SetX w s.heap a ea pa ta) (RB : SetX w s.heap b eb pb tb)
    (hl : ea.size ≤ 31) (hl2 : eb.size ≤ 63)
    (hQ : ∀ h' d' S n, SetR w h' s.heap.objs.size S n → (∀ k, S k = true ↔ k ∈ keys ea ∧ k ∉ keys eb) → n ≤ 31 → Old s.heap h' → Q (.ref s.heap.objs.size) { s with heap := h', drawn := d' }) :
    wpAny (model P w) A (Builtin.Frozenset.difference id a (.ref b)) Q E s := by
  have hsb : scanBound = 4096 := rfl
  have na : a ≠ s.heap.objs.size := Nat.ne_of_lt (Heap.lt_size RA.obj)
  have nb : b ≠ s.heap.objs.size := Nat.ne_of_lt (Heap.lt_size RB.obj)
  unfold Builtin.Frozenset.difference
  dsimp only
  refine wpAny_bind (any_x (RB.ty rfl) ?_)
  refine wp_if_neg (c := ((!true) = true)) (by simp) ?_
  try refine wpAny_bind (wpAny_pure ?_)
  try refine wpAny_bind (wpAny_pure ?_)
  refine wp_if_neg (c := ((!true && b == sysModules) = true)) (by simp) ?_
  try refine wpAny_bind (wpAny_pure ?_)
  refine wp_if_pos (c := (true = true)) rfl ?_
  refine wpAny_bind (size_x RB ?_)
  refine wpAny_bind (size_x RA ?_)
  by_cases c : ea.size / 4 > eb.size
  · refine wp_if_pos c ?_
    refine wpAny_bind (wpAny_rule ?_)
    refine wpAny_bind (copy_x RA (by omega) fun h1 es1 ep1 t1 X1 p1 sb1 => ?_)
    have z1 := perm_size p1
    have RB1 : SetX w h1 b eb pb tb := RB.move fun o e => old_but sb1 _ _ e
    refine wpAny_bind (wpAny_pure ?_)
    refine wpAny_bind (wpAny_holding ?_)
    unfold Builtin.Frozenset.differenceUpdate
    refine wp_if_neg (c := ((Value.ref b == Value.ref s.heap.objs.size) = true)) (by simpa using nb) ?_
    try refine wpAny_bind (wpAny_pure ?_)
    refine wpAny_bind (any_x (RB1.ty rfl) ?_)
    refine wp_if_pos (c := (true = true)) rfl ?_
    refine wpAny_bind (wpAny_pure ?_)
    dsimp only
    refine wpAny_bind (size_x (s := { s with heap := h1 }) RB1 ?_)
    refine wpAny_bind (size_x (s := { s with heap := h1 }) X1 ?_)
    refine wp_if_neg (by omega) ?_
    try refine wpAny_bind (wpAny_pure ?_)
    refine wpAny_bind (wpAny_setEpoch_of RB1.obj rfl RB1.fits ?_)
    refine wpAny_bind (wpAny_holding ?_)
    refine wpAny_bind (unseen_n (s := { s with heap := h1 }) RB1 (fun x hx => by rw [List.mem_singleton.mp hx]; exact ⟨_, _, _, X1⟩) fun ys d py => ?_)
    refine wpAny_bind (strike_all (P := P) (A := A) (E := E) (s := { s with heap := h1, drawn := d }) (r := s.heap.objs.size) _ (fun s1 => SetX w s1.heap b eb pb tb) (fun s1 h' sb k => sx_other k sb nb) ?hf ys
      (fun e he => RB.good e (py.mem_iff.mp he)) X1 RB1 ?hQ)
    case hf =>
      intro e k tk s1 Q' ee kk hwp
      subst ee
      dsimp only
      refine wpAny_bind (wpAny_holding (wpAny_mono hwp (fun b s2 hs2 => ?_) fun _ _ z => z))
      obtain ⟨k2, q2⟩ := hs2
      refine wpAny_bind (unchanged_x k2 ?_)
      exact wpAny_pure q2
    case hQ =>
      intro h2 es2 ep2 t2 X2 m2 l2 sb2 _
      refine wpAny_pure ?_
      refine tidy_x (s := { s with heap := h2, drawn := d }) X2 (by omega) fun h3 es3 ep3 t3 X3 p3 sb3 => ?_
      have z3 := perm_size p3
      refine wpAny_pure (hQ h3 d _ _ (X3.toR (S := fun k => decide (k ∈ keys es3)) (fun k => decide_eq_true_iff) rfl) (fun k => ?_) (by omega) ?_)
      · rw [decide_eq_true_iff, keys_perm p3 k, m2 k, keys_perm p1 k, keys_perm py k]
      · exact old_but (sb_trans sb1 (sb_trans sb2 sb3))
  · refine wp_if_neg c ?_
    try refine wpAny_bind (wpAny_pure ?_)
    refine wpAny_bind (base_x (RA.ty rfl) ?_)
    refine wpAny_bind (new_x ?_)
    refine wpAny_bind (wpAny_pure ?_)
    have RA1 : SetX w (s.heap.push (newObjOf w)) a ea pa ta := RA.move fun o e => old_push _ _ _ _ e
    have RB1 : SetX w (s.heap.push (newObjOf w)) b eb pb tb := RB.move fun o e => old_push _ _ _ _ e
    have R1 := fresh_x (w := w) s.heap
    refine wpAny_bind (wpAny_setEpoch_of RA1.obj rfl RA1.fits ?_)
    refine wpAny_bind (wpAny_holding ?_)
    refine wpAny_bind (wp_if_pos (c := (true = true)) rfl ?_)
    refine unseen_x (s := { s with heap := s.heap.push (newObjOf w) }) RA1 (fun x hx => ?_) R1 fun ys d h2 pf tf py sb2 R2 => ?_
    · rcases List.mem_cons.mp hx with z | z
      · exact ⟨_, _, _, z ▸ RB1⟩
      · rw [List.mem_singleton.mp z]
        exact ⟨_, _, _, R1⟩
    have RA2 := sx_other RA1 sb2 na
    have RB2 := sx_other RB1 sb2 nb
    have zy := perm_size py
    refine wpAny_bind (add_some (P := P) (A := A) (E := E) (s := { s with heap := h2, drawn := d }) (r := s.heap.objs.size) (fun k => decide (k ∉ keys eb)) _ (fun s1 => SetX w s1.heap b eb pb tb ∧ SetX w s1.heap a ea pa ta)
      (fun s1 h' sb k => ⟨sx_other k.1 sb nb, sx_other k.2 sb na⟩) ?hf ys
      (fun e he => RA.good e (py.mem_iff.mp he)) (R2.toR (S := fun _ => false) (fun k => by simp) rfl) (by show 0 + ys.size + 1 < scanBound; omega) ⟨RB2, RA2⟩ ?hQ)
    case hQ =>
      intro h3 S' n' R3 m3 l3 sb3 _
      refine wpAny_pure (wpAny_pure (hQ h3 d S' n' R3 (fun k => ?_) ?_ ?_))
      · rw [m3 k, keys_perm py k, decide_eq_true_iff]
        simp
      · have : n' ≤ 0 + ys.size := l3
        omega
      · exact old_but (sb_trans sb2 sb3)
    case hf =>
      intro e k tk s1 Q' ee kk h1 h0
      subst ee
      dsimp only
      refine wpAny_bind (wpAny_holding ?_)
      refine wp_if_pos (c := (true = true)) rfl ?_
      refine wpAny_bind (found_x kk.1 fun i hi => ?_)
      refine wpAny_bind (wpAny_pure ?_)
      try refine wpAny_bind (wpAny_pure ?_)
      by_cases c : k ∈ keys eb
      · refine wp_if_neg (by rw [hi]; simp [c]) ?_
        refine wpAny_pure ?_
        refine wpAny_bind (unchanged_x kk.2 ?_)
        exact wpAny_pure (h0 (by simp [c]))
      · refine wp_if_pos (by rw [hi]; simp [c]) ?_
        refine wpAny_bind (wpAny_mono (h1 (decide_eq_true c)) (fun b s2 hs2 => ?_) fun _ _ z => z)
        refine wpAny_pure ?_
        refine wpAny_bind (unchanged_x hs2.1.2 ?_)
        exact wpAny_pure hs2.2
end
end Cs

set_option Elab.async false
set_option linter.all false
set_option maxRecDepth 100000
set_option maxHeartbeats 2000000
namespace Cs
open PySem PySem.Spec PyProof.Rows L2
theorem entry_and : entryFor table "set.__and__" = some Builtin.«frozenset.__and__» := entryFor_alias (id' := "frozenset.__and__") (by kernel_rfl) rfl (by decide +kernel) (by kernel_rfl)
theorem entry_or : entryFor table "set.__or__" = some Builtin.«frozenset.__or__» := entryFor_alias (id' := "frozenset.__or__") (by kernel_rfl) rfl (by decide +kernel) (by kernel_rfl)
theorem entry_sub : entryFor table "set.__sub__" = some Builtin.«frozenset.__sub__» := entryFor_alias (id' := "frozenset.__sub__") (by kernel_rfl) rfl (by decide +kernel) (by kernel_rfl)
end Cs

set_option Elab.async false
set_option linter.all false
set_option maxRecDepth 100000
set_option maxHeartbeats 2000000
namespace Cs
open PySem PySem.Spec PyProof.Rows L2
section
variable {P : Program} {w : World} {A : Around} {E : Value → Shared → Prop} {s : Shared}
theorem slot1_x {name : String} {v u : Value} {Q : Value × Value → Shared → Prop} (q : Q (v, u) s) : wpAny (model P w) A (Builtin.Frozenset.slot1 name ⟨[v, u], []⟩) Q E s := by
  unfold Builtin.Frozenset.slot1 slotArgs
  exact wpAny_pure q
theorem op_and_x {a b : Addr} {SA SB : Int → Bool} {na nb : Nat} {Q : Value → Shared → Prop} (hne : b ≠ a) (RA : SetR w s.heap a SA na) (RB : SetR w s.heap b SB nb) (hl : na ≤ 63) (hl2 : nb ≤ 63)
    (hQ : ∀ h' d' S n, SetR w h' s.heap.objs.size S n → (∀ k, S k = true ↔ SA k = true ∧ SB k = true) → n ≤ 63 → Old s.heap h' → Q (.ref s.heap.objs.size) { s with heap := h', drawn := d' }) :
    wpAny (model P w) A (binaryOp .BitAnd (.ref a) (.ref b)) Q E s := by
  obtain ⟨ea, pa, ta, XA, mA, zA⟩ := xOf RA
  obtain ⟨eb, pb, tb, XB, mB, zB⟩ := xOf RB
  have TA : s.TypeIs (.ref a) "set" := XA.ty rfl
  have TB : s.TypeIs (.ref b) "set" := XB.ty rfl
  refine wpAny_binaryOp_same (op := .BitAnd) TA TB F.fills_set_and F.slot_set_and ?_
  refine wpAny_call_entry F.slot_set_and TA entry_and ?_ (F.args_set_and_2 _ _)
  refine wpAny_bind (slot1_x ?_)
  dsimp only
  refine wpAny_bind (wpAny_bind (any_x TA ?_))
  show wpAny _ _ (Builtin.Frozenset.isAnySet (.ref b)) _ _ _
  refine any_x TB ?_
  refine wp_if_neg (c := ((!true) = true)) (by simp) ?_
  refine wpAny_bind (wpAny_pure ?_)
  refine wpAny_bind (and_x hne XA XB (by omega) (by omega) fun h' d' S n R m l o => ?_)
  refine wpAny_pure ⟨_, rfl, (fun z => nomatch z), hQ h' d' S n R (fun k => ?_) l o⟩
  rw [m k, mA k, mB k]
theorem op_or_x {a b : Addr} {SA SB : Int → Bool} {na nb : Nat} {Q : Value → Shared → Prop} (hne : b ≠ a) (RA : SetR w s.heap a SA na) (RB : SetR w s.heap b SB nb) (hl : na + nb ≤ 63)
    (hQ : ∀ h' d' S n, SetR w h' s.heap.objs.size S n → (∀ k, S k = true ↔ SA k = true ∨ SB k = true) → n ≤ na + nb → Old s.heap h' → Q (.ref s.heap.objs.size) { s with heap := h', drawn := d' }) :
    wpAny (model P w) A (binaryOp .BitOr (.ref a) (.ref b)) Q E s := by
  obtain ⟨ea, pa, ta, XA, mA, zA⟩ := xOf RA
  obtain ⟨eb, pb, tb, XB, mB, zB⟩ := xOf RB
  have TA : s.TypeIs (.ref a) "set" := XA.ty rfl
  have TB : s.TypeIs (.ref b) "set" := XB.ty rfl
  have hbs : b ≠ s.heap.objs.size := Nat.ne_of_lt (Heap.lt_size XB.obj)
  refine wpAny_binaryOp_same (op := .BitOr) TA TB F.fills_set_or F.slot_set_or ?_
  refine wpAny_call_entry F.slot_set_or TA entry_or ?_ (F.args_set_or_2 _ _)
  refine wpAny_bind (slot1_x ?_)
  dsimp only
  refine wpAny_bind (wpAny_bind (any_x TA ?_))
  show wpAny _ _ (Builtin.Frozenset.isAnySet (.ref b)) _ _ _
  refine any_x TB ?_
  refine wp_if_neg (c := ((!true) = true)) (by simp) ?_
  refine wpAny_bind (wpAny_pure ?_)
  refine wpAny_bind ?_
  by_cases he : ea = #[]
  · subst he
    refine wpAny_bind (m := Builtin.Frozenset.copyOf a) ?_
    unfold Builtin.Frozenset.copyOf
    refine wpAny_bind (base_x TA ?_)
    refine wpAny_bind (new_x ?_)
    refine wpAny_bind (wpAny_pure ?_)
    have hae : a ≠ s.heap.objs.size := Nat.ne_of_lt (Heap.lt_size XA.obj)
    have XA1 : SetX w (s.heap.push (newObjOf w)) a #[] pa ta := XA.move fun o e => old_push _ _ _ _ e
    have XB1 : SetX w (s.heap.push (newObjOf w)) b eb pb tb := XB.move fun o e => old_push _ _ _ _ e
    refine wpAny_bind ?_
    unfold setMerge
    refine wp_if_neg (c := (s.heap.objs.size == a) = true) (by simpa using hae.symm) ?_
    try refine wpAny_bind (wpAny_pure ?_)
    refine wpAny_bind (wpAny_setState_of XA1.obj rfl XA1.fits ?_)
    dsimp only
    refine wp_if_pos (c := (#[] : Array (Int × Value)).isEmpty = true) rfl ?_
    refine wpAny_pure (wpAny_pure ?_)
    refine wp_if_pos (c := ((Value.ref b != Value.ref a) = true)) (by simpa using hne) ?_
    refine wpAny_bind (wpAny_pure ?_)
    have z0 : (#[] : Array (Int × Value)).size = 0 := rfl
    refine wpAny_bind (wpAny_holding (union_x (s := { s with heap := s.heap.push (newObjOf w) }) hbs (fresh_x s.heap) XB1 (.inr ⟨rfl, rfl, rfl⟩) (by omega) fun h' d' S n R m l sb => ?_))
    refine wpAny_pure (wpAny_pure ⟨_, rfl, (fun z => nomatch z), hQ h' d' S n R (fun k => ?_) (by omega) (old_but sb)⟩)
    rw [m k, mA k, mB k]
  · have hz : ea.size ≠ 0 := fun z => he (by simpa using z)
    refine wpAny_bind (m := Builtin.Frozenset.copyOf a) (copy_x XA (by omega) fun h1 es1 ep1 t1 X1 p1 sb1 => ?_)
    have z1 := perm_size p1
    have XB1 : SetX w h1 b eb pb tb := XB.move fun o e => old_but sb1 _ _ e
    refine wp_if_pos (c := ((Value.ref b != Value.ref a) = true)) (by simpa using hne) ?_
    refine wpAny_bind (wpAny_pure ?_)
    refine wpAny_bind (wpAny_holding (union_x (s := { s with heap := h1 }) hbs X1 XB1 (.inl (by omega)) (by omega) fun h' d' S n R m l sb => ?_))
    refine wpAny_pure (wpAny_pure ⟨_, rfl, (fun z => nomatch z), hQ h' d' S n R (fun k => ?_) (by omega) (old_but (sb_trans sb1 sb))⟩)
    rw [m k, keys_perm p1 k, mA k, mB k]
theorem op_sub_x {a b : Addr} {SA SB : Int → Bool} {na nb : Nat} {Q : Value → Shared → Prop} (hne : b ≠ a) (RA : SetR w s.heap a SA na) (RB : SetR w s.heap b SB nb) (hl : na ≤ 31) (hl2 : nb ≤ 63)
    (hQ : ∀ h' d' S n, SetR w h' s.heap.objs.size S n → (∀ k, S k = true ↔ SA k = true ∧ SB k = false) → n ≤ 31 → Old s.heap h' → Q (.ref s.heap.objs.size) { s with heap := h', drawn := d' }) :
    wpAny (model P w) A (binaryOp .Sub (.ref a) (.ref b)) Q E s := by
  obtain ⟨ea, pa, ta, XA, mA, zA⟩ := xOf RA
  obtain ⟨eb, pb, tb, XB, mB, zB⟩ := xOf RB
  have TA : s.TypeIs (.ref a) "set" := XA.ty rfl
  have TB : s.TypeIs (.ref b) "set" := XB.ty rfl
  refine wpAny_binaryOp_same (op := .Sub) TA TB F.fills_set_sub F.slot_set_sub ?_
  refine wpAny_call_entry F.slot_set_sub TA entry_sub ?_ (F.args_set_sub_2 _ _)
  refine wpAny_bind (slot1_x ?_)
  dsimp only
  refine wpAny_bind (wpAny_bind (any_x TA ?_))
  show wpAny _ _ (Builtin.Frozenset.isAnySet (.ref b)) _ _ _
  refine any_x TB ?_
  refine wp_if_neg (c := ((!true) = true)) (by simp) ?_
  refine wpAny_bind (wpAny_pure ?_)
  refine wpAny_bind (sub_x hne XA XB (by omega) (by omega) fun h' d' S n R m l o => ?_)
  refine wpAny_pure ⟨_, rfl, (fun z => nomatch z), hQ h' d' S n R (fun k => ?_) l o⟩
  rw [m k, mA k, ← mB k]
  simp
end
end Cs

set_option Elab.async false
set_option linter.all false
set_option maxRecDepth 100000
set_option maxHeartbeats 3200000
namespace Cs
open PySem PySem.Spec PyProof.Rows L2
section
variable {P : Program} {w : World} {A : Around} {E : Value → Shared → Prop} {s : Shared}
/-- set(l), l a list of ints: made empty, then its items one by one -/
theorem set_of_list {l : Addr} {items : Array Value} (ns : List Int) {Q : Value → Shared → Prop} (quiet : A.handled = none) (isl : s.heap.IsList l items) (hints : IntsAre items.toList ns) (room : ns.length + 1 < scanBound)
    (fin : ∀ (h' : Heap) (tk c : Nat), SetR w h' s.heap.objs.size (fun j => decide (j ∈ ns)) c → c ≤ ns.length → Old s.heap h' → Q (.ref s.heap.objs.size) { s with heap := h', toks := tk }) :
    wpAny (model P w) A (call (.type "set") [.ref l]) Q E s := by
  have many : items.size = ns.length := (Array.length_toList (xs := items)).symm.trans (IntsAre.length hints)
  have cs := F.called_set
  obtain ⟨mc, mt, mro⟩ := cs.mro
  have made := cs.made
  have under := cs.sub
  refine wpAny_call (codeAny_of_tree ?_)
  show wpAny _ _ (callAny (.type "set") ⟨[.ref l], []⟩) _ _ _
  refine wpAny_pure ⟨Code.quiet_builtin _ (by decide +kernel), ?_⟩
  refine codeAny_builtin F.entry_type_call ?_
  rw [Around.under_plain (weight_type_call_type "set" [Value.ref l] []) rfl]
  have k1 := cs.notType
  have k2 := cs.canCreate
  have k3 := F.typeCall_set_1 (.ref l)
  repeat (any_goals (first | assumption | wp_step))
  refine codeAny_mono (code_set_led1 (.ref l) (E := E) (Q₁ := fun o z => o = .ref s.heap.objs.size ∧ z = { s with heap := s.heap.push (newObjOf w) }) ⟨rfl, rfl⟩) fun r z hz => ?_
  cases r with
  | error e => exact hz
  | ok fl =>
    cases fl with
    | ret o =>
      obtain ⟨rfl, rfl⟩ := hz
      have here : (s.heap.push (newObjOf w)).get? s.heap.objs.size = some (newObjOf w) := Heap.get?_push_size _ rfl
      have ty : Shared.TypeIs { s with heap := s.heap.push (newObjOf w) } (.ref s.heap.objs.size) "set" := ⟨_, here, rfl⟩
      have k4 := cs.init.lookup
      have k5 := cs.init.bind (.ref s.heap.objs.size)
      repeat (any_goals (first | assumption | wp_step))
      refine codeAny_mono (codeAny_call_builtin (R := wants (fun r y => r = .none ∧ ∃ h' tk c, y = { s with heap := h', toks := tk } ∧ SetR w h' s.heap.objs.size (fun j => decide (j ∈ ns)) c ∧ c ≤ ns.length ∧ Old s.heap h') E)
        cs.init.plain F.entry_set_init (check_set_init_1 ty ?_)) fun r2 y hy => ?_
      · obtain ⟨⟨oc, od, oda, osl⟩, lo, lc, ln, ld⟩ := isl
        simp only at lc ld
        subst lc ld
        have isl2 : (s.heap.push (newObjOf w)).IsList l items := ⟨_, Heap.get?_push_of_some _ lo, rfl, ln, rfl⟩
        have ll : l < s.heap.objs.size := Heap.lt_size lo
        have isl3 := Heap.get?_push_of_some (newObjOf w) lo
        have n1 := PySem.F.sub_list_set
        have n2 := PySem.F.sub_list_frozenset
        have n3 : (Value.type "list" == Value.type "dict") = false := by decide
        unfold Builtin.«set.__init__» noKeywords Builtin.Frozenset.updateFrom
        generalize hp : pyIter = iterOf
        wp_walk
        subst hp
        refine wpAny_pyIter_list isl2 ?_
        refine wpAny_bind (wpAny_runValue ?_)
        have q3 : A.in1.in1.in1.handled = none := by simp [quiet]
        have sz : (s.heap.push (newObjOf w)).objs.size = s.heap.objs.size + 1 := Heap.size_push ..
        have apart : l ≠ (s.heap.push (newObjOf w)).objs.size := by
          rw [sz]
          exact Nat.ne_of_lt (Nat.lt_succ_of_lt ll)
        have away : s.heap.objs.size ∉ [(s.heap.push (newObjOf w)).objs.size, l] := by
          rw [sz]
          simp only [List.mem_cons, List.not_mem_nil, or_false, not_or]
          exact ⟨Nat.ne_of_lt (Nat.lt_succ_self _), Nat.ne_of_gt ll⟩
        have val : ∀ (i : Nat) (v : Value), items[i]? = some v → ∃ k t, ns[i]? = some k ∧ v = .int k t := fun i v hv => by
          have hi : i < ns.length := by rw [← many]; exact (Array.getElem?_eq_some_iff.mp hv).1
          obtain ⟨t, e⟩ := IntsAre.int_at hints i v (by rw [Array.getElem?_toList]; exact hv)
          exact ⟨ns[i], t, List.getElem?_eq_getElem hi, by rw [e, List.getD_eq_getElem?_getD, List.getElem?_eq_getElem hi] <;> rfl⟩
        refine set_update_ints ((Walks.list q3 _ l apart items).toS) s.heap.objs.size away ns many room val (items.size - 0) 0 _ (by omega) (Nat.zero_le _) ⟨⟨_, Heap.get?_push_size _ rfl, rfl, rfl⟩, (isl2.push _)⟩ ?start ?stop
        case start => exact ⟨0, Nat.le_refl 0, setR_new_at (Heap.get?_push_of_some _ here)⟩
        case stop =>
          intro s2 c2 hm hc hS
          obtain ⟨h2, g2, d2, t2, o2⟩ := s2
          have eg : g2 = s.gens := hm.gens
          have ed : d2 = s.drawn := hm.drawn
          have eo : o2 = s.os := hm.os
          subst eg ed eo
          show wpAny _ _ _ _ _ _
          refine wpAny_pure ?_
          show wpAny _ _ (ret Value.none) _ _ _
          refine wpAny_pure ⟨rfl, h2, t2, c2, rfl, hS, by omega, fun b u e => ?_⟩
          have hb := Heap.lt_size e
          refine hm.heap b u ?_ (Heap.get?_push_of_some _ (Heap.get?_push_of_some _ e))
          rw [sz]
          simp only [List.mem_cons, List.not_mem_nil, or_false, not_or]
          exact ⟨Nat.ne_of_lt hb, Nat.ne_of_lt (Nat.lt_succ_of_lt hb)⟩
      · cases r2 with
        | error e => exact hy
        | ok f2 =>
          cases f2 with
          | ret r =>
            obtain ⟨rfl, h', tk, c, rfl, hS, hc, old⟩ := hy
            repeat (any_goals (first | assumption | wp_step))
            exact fin h' tk c hS hc old
          | _ => exact hy.elim
    | _ => exact hz.elim
end
end Cs

set_option Elab.async false
set_option linter.all false
set_option maxRecDepth 100000
set_option maxHeartbeats 2000000
namespace Cs
open PySem PySem.Spec PyProof.Rows L2
section
variable {X : Cx}
/-- set(l) -/
def rSetI (K : PySem.W.Frag) (w : World) : List V → Hp → VK → Prop := fun xs H Q => ∃ (l : Addr) (ns : List Int), xs = [V.ref l] ∧ SqL K H l (ns.map V.int) ∧ ns.length ≤ 4000 ∧
  ∀ (p : Addr) (c : Nat), H p = none → c ≤ ns.length → Q (.ref p) (upd H p (SetO w p (fun j => decide (j ∈ ns)) c))
theorem cr_setI (hc : X.calm = true) : CallR X (.type "set") (rSetI X.K X.w) := by
  intro pins s σ H xs us Q I r h
  obtain ⟨l, ns, rfl, hq, hl, q⟩ := h
  rw [Vals.ref1 r]
  obtain ⟨its, rv, pl, hz⟩ := I.list hq
  refine set_of_list ns (I.ok.hd hc) pl.isList (by simpa using ints_of_vals rv) (by have : scanBound = 4096 := rfl; omega) fun h' tk c hS hcn old => ?_
  exact ⟨.ref _, upd H s.heap.objs.size (SetO X.w s.heap.objs.size (fun j => decide (j ∈ ns)) c), I.laid (t' := tk) old (Nat.le_refl _) (setO_new hS), rfl, q _ c (I.hok.fresh (Nat.le_refl _)) hcn⟩
theorem laidD {pins : List (Addr × Obj)} {σ : L2.St} {H : Hp} {s : Shared} {h' : Heap} {d' : Drawn} {S : Int → Bool} {n : Nat} (I : Inv X pins σ H s) (old : Old s.heap h') (R : SetR X.w h' s.heap.objs.size S n) :
    Inv X pins σ (upd H s.heap.objs.size (SetO X.w s.heap.objs.size S n)) { s with heap := h', drawn := d' } :=
  I.call (ch := []) (g' := s.gens) (t' := s.toks) (Un.laid old (Nat.le_refl _) (I.hok.fresh (Nat.le_refl _))) (I.hok.laid old (Nat.le_refl _) (setO_new R)) I.bare (fun _ z => nomatch z)
/-- a & b, a | b, a - b of two sets of ints -/
def rSetOp (w : World) (most : Nat → Nat → Prop) (mem : (Int → Bool) → (Int → Bool) → Int → Prop) : V → V → Hp → VK → Prop := fun x y H Q => ∃ (a b : Addr) (SA SB : Int → Bool) (na nb : Nat), x = V.ref a ∧ y = V.ref b ∧ b ≠ a ∧
  H a = some (SetO w a SA na) ∧ H b = some (SetO w b SB nb) ∧ most na nb ∧
  ∀ (p : Addr) (S : Int → Bool) (n : Nat), H p = none → (∀ k, S k = true ↔ mem SA SB k) → n ≤ 63 → Q (.ref p) (upd H p (SetO w p S n))
abbrev mAnd : Nat → Nat → Prop := fun na nb => na ≤ 63 ∧ nb ≤ 63
abbrev mOr : Nat → Nat → Prop := fun na nb => na + nb ≤ 63
abbrev mSub : Nat → Nat → Prop := fun na nb => na ≤ 31 ∧ nb ≤ 63
abbrev eAnd : (Int → Bool) → (Int → Bool) → Int → Prop := fun A B k => A k = true ∧ B k = true
abbrev eOr : (Int → Bool) → (Int → Bool) → Int → Prop := fun A B k => A k = true ∨ B k = true
abbrev eSub : (Int → Bool) → (Int → Bool) → Int → Prop := fun A B k => A k = true ∧ B k = false
theorem op_sand : OpR X (binaryOp .BitAnd) (rSetOp X.w mAnd eAnd) := by
  intro pins s σ H x y v u Q I rx ry h
  obtain ⟨a, b, SA, SB, na, nb, rfl, rfl, hne, ha, hb, hm, q⟩ := h
  cases rx
  cases ry
  exact op_and_x hne (setO_get I ha) (setO_get I hb) hm.1 hm.2 fun h' d' S n R m l old => ⟨.ref _, _, laidD I old R, rfl, q _ S n (I.hok.fresh (Nat.le_refl _)) m l⟩
theorem op_sor : OpR X (binaryOp .BitOr) (rSetOp X.w mOr eOr) := by
  intro pins s σ H x y v u Q I rx ry h
  obtain ⟨a, b, SA, SB, na, nb, rfl, rfl, hne, ha, hb, hm, q⟩ := h
  cases rx
  cases ry
  have hm' : na + nb ≤ 63 := hm
  exact op_or_x hne (setO_get I ha) (setO_get I hb) hm fun h' d' S n R m l old => ⟨.ref _, _, laidD I old R, rfl, q _ S n (I.hok.fresh (Nat.le_refl _)) m (by omega)⟩
theorem op_ssub : OpR X (binaryOp .Sub) (rSetOp X.w mSub eSub) := by
  intro pins s σ H x y v u Q I rx ry h
  obtain ⟨a, b, SA, SB, na, nb, rfl, rfl, hne, ha, hb, hm, q⟩ := h
  cases rx
  cases ry
  exact op_sub_x hne (setO_get I ha) (setO_get I hb) hm.1 hm.2 fun h' d' S n R m l old => ⟨.ref _, _, laidD I old R, rfl, q _ S n (I.hok.fresh (Nat.le_refl _)) m (by omega)⟩
/-- len(s) of a set of ints: none where it has no members -/
def rLenSet (w : World) : List V → Hp → VK → Prop := fun xs H Q => ∃ (a : Addr) (S : Int → Bool) (n : Nat), xs = [V.ref a] ∧ H a = some (SetO w a S n) ∧ (∀ c : Nat, (c = 0 ↔ ∀ k, S k = false) → Q (.int (c : Int)) H)
theorem call_len_sI : CallR X (.builtin "len") (rLenSet X.w) := by
  intro pins s σ H xs us Q I r h
  obtain ⟨a, S, n, rfl, ha, q⟩ := h
  rw [Vals.ref1 r]
  obtain ⟨es, ep, t, R, m, hn⟩ := xOf (setO_get I ha)
  refine call_len_set R.obj ⟨rfl, rfl, rfl⟩ rfl R.fits (by have := R.few; have : scanBound = 4096 := rfl; omega) ⟨.int (es.size : Nat), H, I.tok _, ⟨_, rfl⟩, q _ ?_⟩
  constructor
  · intro z k
    have e : es = #[] := by simpa using z
    subst e
    cases c : S k with
    | false => rfl
    | true => exact absurd ((m k).1 c) (by simp)
  · intro z
    cases c : es.toList with
    | nil =>
      rw [← Array.length_toList, c]
      rfl
    | cons e r =>
      have : S (keyOf e) = true := (m _).2 (by rw [c]; simp)
      rw [z] at this
      cases this
end
end Cs

set_option Elab.async false
set_option linter.all false
set_option maxRecDepth 100000
set_option maxHeartbeats 2000000
/-! != of two lists whose items are equal, deep -/
namespace Cs
open PySem PySem.Spec PyProof.Rows L2
open AutoSeq1 (wpAny_loadPart')
open MeetsSeq MeetsSeq2 MeetsSeq3 SeqRoads2 SeqAt
section
variable {prog : Program} {w : World}
abbrev seqO (us : Array Value) (n : Nat) (dd : Option Addr) (sl : Array (Option Value)) : Obj := { cls := .type "list", dict := dd, data := .seq us n, slots := sl }
abbrev AllP (prog : Program) (w : World) (A : Around) (s : Shared) (us ws : Array Value) : Prop := ∀ j (h1 : j < us.size) (h2 : j < ws.size), EqP prog w A s us[j] ws[j] true
theorem ne_stepP (a c : Addr) (us ws : Array Value) (n m : Nat) (d1 d2 : Option Addr) (s1 s2 : Array (Option Value)) (eq : us.size = ws.size) :
    ∀ (k i : Nat), us.size - i = k → MeetsIn prog w (Builtin.«list.__eq__.loop» ⟨[.ref a, .ref c, rawInt i, rawInt 3], []⟩)
      (fun A R s => s.heap.get? a = some (seqO us n d1 s1) ∧ s.heap.get? c = some (seqO ws m d2 s2) ∧ AllP prog w A.in1 s us ws ∧ R (.ok (.ret (.bool false))) s) := by
  intro k
  induction k with
  | zero =>
    intro i le A R s h
    obtain ⟨hp, g, d, tk, os⟩ := s
    obtain ⟨ha, hc, _, q⟩ := h
    wp_walk using wpAny_loadPart' ha, wpAny_loadPart' hc
    rw [show us[((i : Nat) : Int).toNat]? = none by simp; omega, show ws[((i : Nat) : Int).toNat]? = none by simp; omega]
    wp_walk using wpAny_loadPart' ha, wpAny_loadPart' hc
    show R (.ok (.ret (.bool (us.size != ws.size)))) _
    rw [eq]
    simpa using q
  | succ k ih =>
    intro i le A R s h
    obtain ⟨hp, g, d, tk, os⟩ := s
    obtain ⟨ha, hc, al, q⟩ := h
    have i1 : i < us.size := by omega
    have i2 : i < ws.size := by omega
    wp_walk using wpAny_loadPart' ha, wpAny_loadPart' hc
    rw [show us[((i : Nat) : Int).toNat]? = some us[i] by simp [i1], show ws[((i : Nat) : Int).toNat]? = some ws[i] by simp [i2]]
    refine wpAny_bind (al i i1 i2 _ _ ?_)
    wp_walk
    rw [show ((i : Int) + 1) = ((i + 1 : Nat) : Int) by push_cast; rfl]
    refine ⟨plainId_quiet plain_eq_loop _, codeAny_builtin entry_eq_loop ?_⟩
    rw [Around.under_plainId plain_eq_loop _]
    exact ih (i + 1) (by omega) A R _ ⟨ha, hc, al, q⟩
theorem ne_listP (a c : Addr) (us ws : Array Value) (n m : Nat) (d1 d2 : Option Addr) (s1 s2 : Array (Option Value)) (eq : us.size = ws.size) :
    MeetsIn prog w (Builtin.«list.__ne__» ⟨[.ref a, .ref c], []⟩)
      (fun A R s => s.heap.get? a = some (seqO us n d1 s1) ∧ s.heap.get? c = some (seqO ws m d2 s2) ∧ AllP prog w A.in1 s us ws ∧ R (.ok (.ret (.bool false))) s) := by
  intro A R s h
  obtain ⟨hp, g, d, tk, os⟩ := s
  obtain ⟨ha, hc, al, q⟩ := h
  have sub := AutoSeq1.sub_list_list
  have same : ¬ (us.size != ws.size) = true := by simp [eq]
  wp_walk using wpAny_loadPart' ha, wpAny_loadPart' hc
  refine ⟨plainId_quiet plain_eq_loop _, codeAny_builtin entry_eq_loop ?_⟩
  rw [Around.under_plainId plain_eq_loop _]
  exact ne_stepP a c us ws n m d1 d2 s1 s2 eq _ 0 rfl A R _ ⟨ha, hc, al, q⟩
theorem rc_neP {A : Around} {s : Shared} {a c : Addr} {us ws : Array Value} (ha : s.heap.IsList a us) (hc : s.heap.IsList c ws) (eq : us.size = ws.size) (hu : A.units < cLine)
    (al : AllP prog w A.in1 s us ws) (E Q : Value → Shared → Prop) (q : Q (.bool false) s) : wpAny (model prog w) A (richCompare .NotEq (.ref a) (.ref c)) Q E s := by
  obtain ⟨⟨c1, d1, x1, s1⟩, o1, e1, n, f1⟩ := id ha
  obtain ⟨⟨c2, d2, x2, s2⟩, o2, e2, m, f2⟩ := id hc
  simp only at e1 f1 e2 f2
  subst e1 f1 e2 f2
  have ta : s.TypeIs (.ref a) "list" := ⟨_, o1, rfl⟩
  have tc : s.TypeIs (.ref c) "list" := ⟨_, o2, rfl⟩
  exact wpAny_richCompare_same_room (op := .NotEq) ta tc F.slot_list_ne (call_meetsIn F.slot_list_ne ta F.entry_list_ne (F.args_list_ne_2 _ _) (ne_listP a c us ws n m d1 d2 s1 s2 eq)
    ⟨o1, o2, al, show Value.bool false ≠ Value.notImplemented ∧ Q (.bool false) s from ⟨(fun x => nomatch x), q⟩⟩) hu
end
section
variable {X : Cx}
/-- a != b, two lists that are equal -/
def rNeV (K : PySem.W.Frag) : R2 := fun x y H Q => ∃ a b xs ys, x = .ref a ∧ y = .ref b ∧ SqL K H a xs ∧ SqL K H b ys ∧ (∃ n, n ≤ 60 ∧ Paired (EqV K H n) xs ys) ∧ Q (.bl false) H
theorem op_neV (hu : X.A.units + 64 < cLine) : OpR X (compareOp .NotEq) (rNeV X.K) := by
  intro pins s σ H x y v u Q I rx ry h
  obtain ⟨a, b, xs, ys, rfl, rfl, ha, hb, ⟨n, hn, hp⟩, q⟩ := h
  cases (show v = Value.ref a from rx)
  cases (show u = Value.ref b from ry)
  obtain ⟨us, r1, p1, _⟩ := I.list ha
  obtain ⟨ws, r2, p2, _⟩ := I.list hb
  have hsz : us.toArray.size = ws.toArray.size := by
    rw [List.size_toArray, List.size_toArray, ← r1.length, ← r2.length]
    exact Paired.length hp
  refine rc_neP p1.isList p2.isList hsz (by omega) (fun j h1 h2 => ?_) _ _ ⟨.bl false, H, I, rfl, q⟩
  have k := items_run (eqV_run I n X.A.in1 (by show X.A.units + 1 + n < cLine; omega)) hp r1 r2 j (by simpa using h1) (by simpa using h2)
  simpa using k
end
end Cs

set_option Elab.async false
set_option linter.all false
set_option maxRecDepth 100000
set_option maxHeartbeats 4000000
/-! Sets of keys by a comprehension: {x for .. in ..}, the members ints or texts. -/
namespace Cs
open PySem PySem.Spec PyProof.Rows L2 PpSet
section
variable {X : Cx}
abbrev noK : Key → Bool := fun _ => false
abbrev withK (S : Key → Bool) (k : Key) : Key → Bool := fun j => S j || decide (j = k)
/-- one member more -/
theorem addK {pins : List (Addr × Obj)} {σ : L2.St} {H : Hp} {s : Shared} {E : Value → Shared → Prop} {D : Addr} {S : Key → Bool} {n : Nat} {k : Key} {u : Value} {Q : Value → Shared → Prop} (I : Inv X pins σ H s) (at_ : H D = some (SetK X.prog X.w D S n)) (few : n + 1 < scanBound) (r : RelV (kV k) u)
    (q : ∀ s', Inv X pins σ (upd H D (SetK X.prog X.w D (withK S k) (if S k = true then n else n + 1))) s' → Q .none s') : wpAny (model X.prog X.w) X.A (call (.builtin "set.add") [.ref D, u]) Q E s :=
  call_set_add (kV_is r) (key_scan r) (setK_get I at_) few fun h' sb new => q _ (I.write (e := D) (t' := s.toks + 1) (by rw [at_]; trivial) (.inl rfl) (fun b o hb ho => (sb.2 b hb).trans ho) (let ⟨o, _, _, _, ho, _⟩ := new; ⟨o, ho⟩) (setK_new new))
/-- what a comprehension asks: its walk, and a set that grows -/
def tScK (P : Program) (w : World) (wi : TI) (g : TG) (tt : TT) (te : TE) (vs : List Nat) : TE := fun σ H Q => wi σ H fun J H1 => ∀ D, H1 D = none → ∃ W : Nat → Nat → Hp → Prop, (∃ m, W 0 m (upd H1 D (SetK P w D noK 0))) ∧ ∀ i m H, W i m H →
  (J.stop i H ∧ Q (.ref D) H) ∨ (J.go i H ∧ ∃ Nx : Hp → Prop, (∀ H', Nx H' → ∃ m', m' < m ∧ W (i + 1) m' H') ∧ ∀ x H', J.yld i H x H' → g x (wipe σ vs) H' fun σ2 H2 => wipe σ2 vs = wipe σ vs ∧ tt σ2 H2 fun b H3 =>
    if b = true then te σ2 H3 fun y H4 => ∃ (k : Key) (S : Key → Bool) (n : Nat), y = kV k ∧ H4 D = some (SetK P w D S n) ∧ n + 1 < scanBound ∧ Nx (upd H4 D (SetK P w D (withK S k) (if S k = true then n else n + 1))) else Nx H3)
theorem scK_core {pins : List (Addr × Obj)} {s : Shared} {σ : L2.St} {H : Hp} {Q : VK} {el tg it : Expr} {cs : List Expr} {scope : Scope} {own : List (PySem.Str × Nat)} {pos pos' : Pos} {wi : TI} {g : TG} {tt : TT} {te : TE} {use : Option (Value → Sem Unit)} {Qf : Value → Shared → Prop}
    (hc : X.calm = true) (hN : X.N.Nodup) (I : Inv X pins σ H s) (hi : PI X tg it wi) (ok : BlkOk X.N X.env.scope scope own)
    (hg : ∀ (s : Shared) (H : Hp) (C : Addr) (cl : List (PySem.Str × Addr)) (fp : List Addr), PG (X.blk s H scope (compEnvC scope cl C X.env) fp) tg g)
    (ht : ∀ (s : Shared) (H : Hp) (C : Addr) (cl : List (PySem.Str × Addr)) (fp : List Addr), PTs (X.blk s H scope (compEnvC scope cl C X.env) fp) cs tt)
    (he : ∀ (s : Shared) (H : Hp) (C : Addr) (cl : List (PySem.Str × Addr)) (fp : List Addr), PE (X.blk s H scope (compEnvC scope cl C X.env) fp) el te)
    (hs : ∀ x, foldedSetIterable it X.env x = pure x) (h : tScK X.prog X.w wi g tt te (own.map (·.2)) σ H Q)
    (done : ∀ D C s' m H', Inv X pins σ H' s' → Q (.ref D) H' → s'.heap.Ns C m → FpOk X pins H' C → compPost (model X.prog X.w) X.A X.xe use Qf (.ref D) C (.ok .next) s') :
    wpAny (model X.prog X.w) X.A (comprehension (.SetComp el [⟨tg, it, cs, 0⟩] scope pos) scope X.env pos' (newSet (.type "set")) false (eval it X.env) use) Qf X.xe s := by
  refine wpAny_comprehension_free (use := use) rfl hs (closure_ok fun y hy e => (ok.free y hy e).elim (fun k => I.ok.has _ (.inl k)) fun k => I.ok.has _ (.inr k)) ok.kind (fun y hy e => by rw [ok.uniq y hy, e])
    (thn (hi.run pins s σ H _ I h) fun xv s1 hx => thn hx fun itv s2 ⟨ia, fp, tn, J, H2, eq, I2, T, st2, f2, q⟩ => ?_)
  subst eq
  refine newSet_ok (newEnv_comp ?_)
  generalize eD : s2.heap.objs.size = D
  have free : H2 D = none := I2.hok.fresh (Nat.le_of_eq eD)
  obtain ⟨W, ⟨m0, w0⟩, turn⟩ := q D free
  generalize e3 : ({ s2 with heap := s2.heap.push { cls := .type "set", dict := none, data := .set #[] 0 (.fresh 0 0 (!X.w.params.followText "set-order")) } } : Shared) = s3
  have heap3 : s3.heap = s2.heap.push { cls := .type "set", dict := none, data := .set #[] 0 (.fresh 0 0 (!X.w.params.followText "set-order")) } := by rw [← e3]
  have I3 : Inv X pins σ (upd H2 D (SetK X.prog X.w D noK 0)) s3 := by
    rw [← e3, ← eD]
    exact I2.laid (t' := s2.toks) (fun b o e => Heap.get?_push_of_some _ e) (Nat.le_refl _) (setK_new ⟨_, #[], 0, _, Heap.get?_push_size _ rfl, ⟨rfl, rfl, rfl⟩, rfl, (fun e he => by simp at he), (fun k => by simp), (by decide), (by rfl), rfl⟩)
  have below : ∀ b ∈ fp, b < s2.heap.objs.size := fun b hb => let ⟨o, e, _⟩ := T.obj _ _ st2 b hb; Heap.lt_size e
  have f3 : ∀ b ∈ fp, FpOk X pins (upd H2 D (SetK X.prog X.w D noK 0)) b ∧ b < s3.heap.objs.size := fun b hb =>
    ⟨⟨by rw [upd_ne (by rw [← eD]; exact Nat.ne_of_lt (below b hb))]; exact (f2 b hb).1, (f2 b hb).2⟩, by rw [heap3, Heap.size_push]; exact Nat.lt_succ_of_lt (below b hb)⟩
  have I4 := block_start I3 ok hN f3
  have pg := hg s3 (upd H2 D (SetK X.prog X.w D noK 0)) s3.heap.objs.size (cellsFrom (s3.heap.objs.size + 1) scope.names (cloFrom X.env.cells scope.names [])) fp
  have pt := ht s3 (upd H2 D (SetK X.prog X.w D noK 0)) s3.heap.objs.size (cellsFrom (s3.heap.objs.size + 1) scope.names (cloFrom X.env.cells scope.names [])) fp
  have pe := he s3 (upd H2 D (SetK X.prog X.w D noK 0)) s3.heap.objs.size (cellsFrom (s3.heap.objs.size + 1) scope.names (cloFrom X.env.cells scope.names [])) fp
  show codeAny _ _ (.compStart (.SetComp el [⟨tg, it, cs, 0⟩] scope pos) 0 (.ref ia) (.ref D) (compEnvC scope (cellsFrom (s3.heap.objs.size + 1) scope.names (cloFrom X.env.cells scope.names [])) s3.heap.objs.size X.env)) (compPost (model X.prog X.w) X.A X.xe use Qf (.ref D) s3.heap.objs.size) { s3 with heap := pushCells (s3.heap.push { cls := .type "dict", data := .dict #[] }) scope.names }
  have none3 : ∀ b ∈ fp, (upd H2 D (SetK X.prog X.w D noK 0)) b = none := fun b hb => (f3 b hb).1.1
  generalize ec : compEnvC scope (cellsFrom (s3.heap.objs.size + 1) scope.names (cloFrom X.env.cells scope.names [])) s3.heap.objs.size X.env = ce at I4 pg pt pe ⊢
  have loc : ce.locals = s3.heap.objs.size := by subst ec; rfl
  generalize upd H2 D (SetK X.prog X.w D noK 0) = H3 at I3 I4 pg pt pe w0 none3 f3
  generalize e4 : ({ s3 with heap := pushCells (s3.heap.push { cls := .type "dict", data := .dict #[] }) scope.names } : Shared) = s4 at I4 ⊢
  have st3 : tn 0 s3.heap := T.keep _ _ _ st2 fun b _ o e => by rw [heap3]; exact Heap.get?_push_of_some _ e
  have st4 : tn 0 s4.heap := T.keep _ _ _ st3 fun b _ o e => by rw [← e4]; exact pushCells_keeps _ _ _ _ (Heap.get?_push_of_some _ e)
  have still : ∀ {σ' : L2.St} {H' : Hp} {s' : Shared}, Inv (X.blk s3 H3 scope ce fp) [] σ' H' s' → (∀ b ∈ fp, H' b = none) → ∀ b ∈ fp, FpOk (X.blk s3 H3 scope ce fp) [] H' b := fun I' hn b hb =>
    ⟨hn b hb, (I'.ok.exf b hb).1, I'.ok.exfs b hb, .inl hb, fun x c e => (I'.ok.exf b hb).2 x c e, fun p hp => absurd (show p ∈ ([] : List (Addr × Obj)) ++ [] from hp) (by simp)⟩
  have loop : codeAny (model X.prog X.w) X.A (.compLoop (.SetComp el [⟨tg, it, cs, 0⟩] scope pos) 0 (.ref ia) (.ref D) ce) (compPost (model X.prog X.w) X.A X.xe use Qf (.ref D) s3.heap.objs.size) s4 := by
    refine compLoopS_any (fun n s' => ∃ i H', Inv (X.blk s3 H3 scope ce fp) [] (wipe σ (own.map (·.2))) H' s' ∧ tn i s'.heap ∧ (∀ b ∈ fp, H' b = none) ∧ W i n H') ?_ m0 ⟨0, H3, I4, st4, none3, w0⟩
    rintro n s5 ⟨i, H5, I5, st5, n5, w5⟩
    rcases turn i n H5 w5 with ⟨stop, last⟩ | ⟨go, Nx, next, step⟩
    · refine thnF (T.done (X.blk s3 H3 scope ce fp) rfl rfl rfl hc i [] s5 _ H5 (fun _ _ => False) I5 (still I5 n5) st5 stop) fun r s6 ⟨er, I6⟩ => ?_
      subst er
      have unused : H5 ce.locals = none := I6.free
      obtain ⟨m, ns, _⟩ := I6.loc
      have ns : s6.heap.Ns ce.locals m := ns
      rw [loc] at ns unused
      exact done D s3.heap.objs.size s6 m H5 (I3.call' (ch := fp) I6.os I6.base I6.hok I6.bare fun b hb => ⟨(f3 b hb).1.2.2.2.1, (f3 b hb).1.2.1, (f3 b hb).1.2.2.2.2.1, (f3 b hb).1.2.2.2.2.2⟩) last ns (I3.fpOk (Nat.le_refl _) unused)
    · refine thnF (T.item (X.blk s3 H3 scope ce fp) rfl rfl rfl hc i [] s5 _ H5 (fun _ _ => False) I5 (still I5 n5) st5 go) fun r s6 ⟨u, er, h6⟩ => ?_
      subst er
      refine thnF h6 fun _ s7 ⟨x, H7, I7, r7, y7, st7, n7⟩ => ?_
      refine thnF (pg.run _ s7 _ H7 x u _ (I7.pinned (still I7 n7) (T.obj _ _ st7)) r7 (step x H7 y7)) fun _ s8 ⟨σ8, H8, I8, w8, q8⟩ => ?_
      refine thnF (pt.run _ s8 σ8 H8 _ I8 q8) fun b s9 ⟨H9, I9, q9⟩ => ?_
      have round : ∀ {s' : Shared} {H' : Hp}, Inv (X.blk s3 H3 scope ce fp) ([] ++ pinsAt fp s7.heap) σ8 H' s' → Nx H' → ∃ m, m < n ∧ ∃ i H', Inv (X.blk s3 H3 scope ce fp) [] (wipe σ (own.map (·.2))) H' s' ∧ tn i s'.heap ∧ (∀ b ∈ fp, H' b = none) ∧ W i m H' := fun {s' H'} I' nx => by
        obtain ⟨m', lt, w'⟩ := next H' nx
        have held : ∀ b ∈ fp, ∀ o, s7.heap.get? b = some o → s'.heap.get? b = some o ∧ H' b = none := fun b hb o e => let z := I'.pin (b, o) (List.mem_append_right _ (List.mem_append_right _ (mem_pinsAt hb e))); ⟨z.1, z.2.1⟩
        refine ⟨m', lt, i + 1, H', (I'.unpinned (pins := [])).weak (by rw [← w8, wipe_length]) (fun j v e => ?_), T.keep _ _ _ st7 fun b hb o e => (held b hb o e).1, fun b hb => ?_, w'⟩
        · rw [← w8] at e
          exact (wipe_some e).1
        · obtain ⟨o, e, _⟩ := T.obj _ _ st7 b hb
          exact (held b hb o e).2
      cases b with
      | false =>
        simp only [Bool.false_eq_true, if_false] at q9 ⊢
        exact round I9 q9
      | true =>
        simp only [if_true] at q9 ⊢
        refine thnF (pe.run _ s9 σ8 H9 _ I9 q9) fun z s10 ⟨y, H10, I10, r10, k, S, n0, ey, at10, few, nx⟩ => ?_
        subst ey
        exact addK (X := X.blk s3 H3 scope ce fp) I10 at10 few r10 fun s11 I11 => round I11 nx
  exact codeAny_compStart_set loop (T.self X.A 0 _ _ _ st4 loop)
/-- name = {..} on one line, the name a local -/
theorem ps_setScK {i : Nat} {y : Str} {py : Pos} {el tg it : Expr} {cs : List Expr} {scope : Scope} {own : List (PySem.Str × Nat)} {pos spos : Pos} {wi : TI} {g : TG} {tt : TT} {te : TE} (hc : X.calm = true) (hN : X.N.Nodup) (hy : X.N[i]? = some y) (hyl : X.env.scope.names.lookup y = some .local)
    (hsw : swapsWith (.SetComp el [⟨tg, it, cs, 0⟩] scope pos) (some (.Name y py)) spos.line X.env = pure true) (hi : PI X tg it wi) (ok : BlkOk X.N X.env.scope scope own)
    (hg : ∀ (s : Shared) (H : Hp) (C : Addr) (cl : List (PySem.Str × Addr)) (fp : List Addr), PG (X.blk s H scope (compEnvC scope cl C X.env) fp) tg g)
    (ht : ∀ (s : Shared) (H : Hp) (C : Addr) (cl : List (PySem.Str × Addr)) (fp : List Addr), PTs (X.blk s H scope (compEnvC scope cl C X.env) fp) cs tt)
    (he : ∀ (s : Shared) (H : Hp) (C : Addr) (cl : List (PySem.Str × Addr)) (fp : List Addr), PE (X.blk s H scope (compEnvC scope cl C X.env) fp) el te)
    (hs : ∀ x, foldedSetIterable it X.env x = pure x := by intro _; rfl) :
    PS X (.Assign [.Name y py] (.SetComp el [⟨tg, it, cs, 0⟩] scope pos) spos) (tAsg (tScK X.prog X.w wi g tt te (own.map (·.2))) (gName i)) := by
  refine ⟨fun pins s σ H D I h => ?_⟩
  rw [exec_Assign_Name_used _ _ _ _ hsw]
  refine wpAny_bind (wpAny_standAt (wpAny_bind ?_))
  show wpAny _ X.A (do let _ ← comprehension (.SetComp el [⟨tg, it, cs, 0⟩] scope pos) scope X.env (firstIterPos [⟨tg, it, cs, 0⟩] pos) (newSet (.type "set")) false (eval it X.env) (some (assign (.Name y py) X.env))) _ _ s
  have h : tScK X.prog X.w wi g tt te (own.map (·.2)) σ H (fun x H1 => gName i x σ H1 D.nx) := h
  refine wpAny_bind (thn (scK_core (Qf := fun _ s' => SP X pins D .next s') hc hN I hi ok hg ht he hs h fun L C s' m H' I' q hn f => ?_) fun _ s' hq => wpAny_pure (wpAny_pure hq))
  obtain ⟨f0, f1, f2, f3, f4, f5⟩ := f
  show wpAny _ _ (assign (.Name y py) X.env (.ref L)) _ _ _
  refine wpAny_assign_Name (store_ok2 (v := V.ref L) I' hN hy (.inl hyl) rfl (fun s2 I2 ⟨a, sb, ha⟩ => ?_) (.inr hyl))
  have apart : C ≠ a := ha.elim (fun z => z ▸ f1) fun z e => f4 y a z e.symm
  exact ⟨m, hn.sameBut sb apart, fun h3 sb3 => ⟨_, H', I2.turned (t' := s2.toks) (fun b o hb e => (sb3.2 b hb).trans e) f0 f1 f3 f4 f5, q⟩⟩
end
end Cs

set_option Elab.async false
set_option linter.all false
set_option maxRecDepth 100000
set_option maxHeartbeats 400000
/-! != of two dicts that are equal, deep -/
namespace Cs
open PySem PySem.Spec PyProof.Rows L2
section
variable {X : Cx}
def rNeDV (K : PySem.W.Frag) : R2 := fun x y H Q => ∃ a b ks ls, x = .ref a ∧ y = .ref b ∧ H a = some (.dK ks) ∧ H b = some (.dK ls) ∧ ks.length = ls.length ∧ (∃ n, n ≤ 60 ∧ ∀ p ∈ ks, ∃ u, valV ls p.1 = some u ∧ EqV K H n p.2 u) ∧ Q (.bl false) H
theorem op_neDV (hu : X.A.units + 64 < cLine) : OpR X (compareOp .NotEq) (rNeDV X.K) := by
  intro pins s σ H x y v u Q I rx ry h
  obtain ⟨a, b, ks, ls, rfl, rfl, ea, eb, len, ⟨n, hn, hp⟩, q⟩ := h
  cases (show v = Value.ref a from rx)
  cases (show u = Value.ref b from ry)
  obtain ⟨_, ya, va, ra, da⟩ := (show ObjOk X.prog X.w H s.heap a (.dK ks) from I.hok a _ ea)
  obtain ⟨_, yb, vb, rb, db⟩ := (show ObjOk X.prog X.w H s.heap b (.dK ls) from I.hok b _ eb)
  have e : va.length = vb.length := by rw [← ra.length, ← rb.length]; exact len
  have hits := hits_run (eqV_run I n X.A.in1 (by show X.A.units + 1 + n < cLine; omega)) rb ra hp
  refine wpAny_richCompare_same_room (op := .NotEq) da.typeIs db.typeIs PySem.F.slot_dict_ne (wpAny_call_entry PySem.F.slot_dict_ne da.typeIs PySem.F.entry_dict_ne ?_ (PySem.F.args_dict_ne_2 _ _)) (by omega)
  show wpAny _ _ (Builtin.Dict.dictSlotArgs "__ne__" ⟨[.ref a, .ref b], []⟩ >>= _) _ _ s
  unfold Builtin.Dict.dictSlotArgs
  refine wpAny_bind (wpAny_bind (wpAny_notOrdered_dict da.typeIs ?_))
  show wpAny _ _ (pure (Value.ref a, Value.ref b)) _ _ s
  refine wpAny_pure (wpAny_bind (wpAny_isInstance (T := "dict") db.typeIs PySem.F.sub_dict_dict ?_))
  simp only [Bool.not_true, Bool.false_eq_true, if_false]
  refine wpAny_bind (wpAny_pure (wpAny_bind (wpAny_pure ?_)))
  refine wpAny_bind (PySem.W.samePairsP (r := true) ya yb da db (fun _ => hits) ?_)
  have w0 : ((va.length == vb.length && true) == false) = false := by rw [e]; simp
  refine wpAny_pure ⟨_, rfl, ?_, ?_⟩
  · intro x
    cases x
  · have z : EP X pins σ Q (.bool false) s := ⟨.bl false, H, I, rfl, q⟩
    rw [← w0] at z
    exact z
end
end Cs

set_option Elab.async false
set_option linter.all false
set_option maxRecDepth 100000
set_option maxHeartbeats 4000000
/-! Exceptions of own classes with fields: made, raised while a dict is walked, caught, asked for their class. -/
namespace CsX
open PySem PySem.Spec PyProof.Rows L2
/-- a block that is not reached -/
theorem pss_any {X : Cx} {l : List Stmt} : PSs X l (fun _ _ _ => False) := ⟨fun _ _ _ _ _ _ h => h.elim⟩
/-- a raise while the thing at d is locked -/
theorem Takes.lock {X : Cx} {W : WX} {d : Addr} (tk : Takes X W) (hn : ∀ o' u', X.H_0 d ≠ some (.frz o' u')) : Takes X (fun cls dd σ H => ∃ od u, H d = some (.frz od u) ∧ W cls dd σ (upd H d u)) :=
  fun u s' ⟨a, B, sI, pins, σ, H, cls, dd, e, I, nb, up, sky, na, os, ag, od, uu, hd, w⟩ =>
    tk u s' ⟨a, B, sI, pins, σ, upd H d uu, cls, dd, e, I.unlock hd hn, nb, up, sky, (by rw [upd_ne (fun z => by rw [z, hd] at na; cases na)]; exact na), os, ag, w⟩
/-- __init__(self, f): self.f = f -/
def spIni (C : Addr) (f : Str) : Sp := fun vs H Q _ => ∃ (a : Addr) (v : V), vs = [.ref a, v] ∧ H a = some (exo a C none) ∧
  ∀ dx, H dx = none → dx ≠ a → Q .non (upd (upd H dx (exd dx [(f, v)])) a (exo a C (some dx)))
/-- __init__(self, f, g): self.f = f; self.g = g -/
def spIni2 (C : Addr) (f g : Str) : Sp := fun vs H Q _ => ∃ (a : Addr) (v u : V), vs = [.ref a, v, u] ∧ H a = some (exo a C none) ∧
  ∀ dx, H dx = none → dx ≠ a → Q .non (upd (upd (upd H dx (exd dx [(f, v)])) a (exo a C (some dx))) dx (exd dx [(g, u), (f, v)]))
/-- what the top has written of an own error with the fields fs, its __init__ at fI -/
structure Own (K : PySem.W.Frag) (mg : Str → Option Value) (x : Str) (C fI : Addr) (fs : List Str) : Prop where
  gC : mg x = some (.ref C)
  oex : OexC K C
  xf : XfC K C
  no : ∀ f ∈ fs, PySem.W.findIn K (.ref C) f = some none
  iC : PySem.W.findIn K (.ref C) "__init__" = some (some (.ref fI))
  tI : PySem.W.typeIn K (.ref fI) = some (.type "function")
  ex : ExcC K C
  te : PySem.W.exmOne K (.ref C) (.ref C) = some true
theorem same_upd {H : Hp} {p : Addr} {o : HO} (h : H p = none) : Same H (upd H p o) := fun b x e => by
  rw [upd_ne (ne_of_none e h)]
  exact e
/-- what is asked of C(v) -/
theorem mk_one {C : Addr} {f : Str} {H1 : Hp} {v : V} {Q : XK} (h : ∀ d H2, H1 d = none → Same H1 H2 → H2 d = some (.xd [(f, v)]) → Q (.ref C) (some d) H2) :
    [v].length ≤ 1000 ∧ ∀ a, H1 a = none → spIni C f (V.ref a :: ([v] ++ [])) (upd H1 a (exo a C none)) (fun x H2 => x = .non ∧ ∃ (d : Addr) (fs : List (Str × V)), H2 a = some (exo a C (some d)) ∧ H2 d = some (exd d fs) ∧ H1 d = none ∧ Q (.ref C) (some d) (upd (del H2 a) d (.xd fs))) (fun _ _ _ => False) := by
  refine ⟨by show 1 ≤ 1000; decide, fun a na => ⟨a, v, rfl, upd_same, fun dx n ne => ?_⟩⟩
  have n1 : H1 dx = none := by rw [upd_ne ne] at n; exact n
  refine ⟨rfl, dx, _, upd_same, by rw [upd_ne ne, upd_same], n1, h dx _ n1 (fun b o e => ?_) upd_same⟩
  have hb : b ≠ dx := ne_of_none e n1
  have ha : b ≠ a := ne_of_none e na
  rw [upd_ne hb, del_ne ha, upd_ne ha, upd_ne hb, upd_ne ha]
  exact e
/-- what is asked of C(v, u) -/
theorem mk_two {C : Addr} {f g : Str} {H1 : Hp} {v u : V} {Q : XK} (h : ∀ d H2, H1 d = none → Same H1 H2 → H2 d = some (.xd [(g, u), (f, v)]) → Q (.ref C) (some d) H2) :
    [v, u].length ≤ 1000 ∧ ∀ a, H1 a = none → spIni2 C f g (V.ref a :: ([v, u] ++ [])) (upd H1 a (exo a C none)) (fun x H2 => x = .non ∧ ∃ (d : Addr) (fs : List (Str × V)), H2 a = some (exo a C (some d)) ∧ H2 d = some (exd d fs) ∧ H1 d = none ∧ Q (.ref C) (some d) (upd (del H2 a) d (.xd fs))) (fun _ _ _ => False) := by
  refine ⟨by show 2 ≤ 1000; decide, fun a na => ⟨a, v, u, rfl, upd_same, fun dx n ne => ?_⟩⟩
  have n1 : H1 dx = none := by rw [upd_ne ne] at n; exact n
  refine ⟨rfl, dx, _, by rw [upd_ne (Ne.symm ne), upd_same], upd_same, n1, h dx _ n1 (fun b o e => ?_) upd_same⟩
  have hb : b ≠ dx := ne_of_none e n1
  have ha : b ≠ a := ne_of_none e na
  rw [upd_ne hb, del_ne ha, upd_ne hb, upd_ne ha, upd_ne hb, upd_ne ha]
  exact e
/-- isinstance(e, c), isinstance(e, (c, ..)): e the exception that the suite holds, with fields -/
def rIsED (K : PySem.W.Frag) (a : Addr) (cls : Value) (d : Option Addr) : List V → Hp → VK → Prop := fun xs H Q => ∃ (C dd : Addr) (fs : List (Str × V)) (c : V) (b : Bool), xs = [.ref a, c] ∧ cls = .ref C ∧ d = some dd ∧ H dd = some (.xd fs) ∧ ExcC K C ∧
  ((∃ cv, (∀ u, RelV c u → u = cv) ∧ PySem.W.kitOne K (.ref C) cv = some b) ∨ ∃ (t : Addr) (cs : List Addr), c = .ref t ∧ H t = some (.tup (cs.map V.ref)) ∧ PySem.W.kitAny K (.ref C) (cs.map Value.ref) = some b) ∧ Q (.bl b) H
theorem vals_refs : ∀ {cs : List Addr} {us : List Value}, Vals (cs.map V.ref) us → us = cs.map Value.ref
  | [], _, h => by cases h; rfl
  | c :: cs, _, h => by
    cases h with
    | cons a b =>
      cases a
      exact congrArg (Value.ref c :: ·) (vals_refs b)
theorem call_isED {X : Cx} {a : Addr} {cls : Value} {d : Option Addr} {oe : Obj} {pn : List (Addr × Obj)} (hz : Zc cls d oe) (hf : ∃ vs, oe.data = .fields vs) : CallR (X.suite a ((a, oe) :: pn)) (.builtin "isinstance") (rIsED X.K a cls d) := by
  intro pins s σ H xs us Q I r h
  obtain ⟨D, dd, fs, c, b, rfl, rfl, rfl, hdd, C, hc, q⟩ := h
  cases r with
  | cons rx rr =>
    cases rr with
    | cons rt rr =>
      cases rr
      cases rx
      obtain ⟨hget, _⟩ := I.pin (a, oe) (List.mem_append.mpr (.inl List.mem_cons_self))
      obtain ⟨vs, hv⟩ := hf
      have hx : ObjOk X.prog X.w H s.heap dd (.xd fs) := I.hok dd _ hdd
      obtain ⟨mA, hns, hr⟩ := hx
      obtain ⟨od, ho, hl⟩ := lookIn_ns hns
      have J : PySem.W.InstAt s.heap a oe D (some od) := ⟨hget, hz.1, by unfold PySem.W.notCls; rw [hv] <;> rfl, by rw [hz.2]; exact ho⟩
      have cl : (PySem.W.clsIn X.K D).isSome = true := by
        obtain ⟨cd, e, _⟩ := PySem.W.any_some C.hd
        rw [e]; rfl
      have Z := fun (od : Option Obj) => PySem.W.kitx_exc (x := a) (ox := oe) (od := od) cl C.hg C.hk C.hs C.ha C.hn C.ht C.hm
      rcases hc with ⟨cv, hcv, e⟩ | ⟨t, cs, rfl, ht, e⟩
      · have ec := hcv _ rt
        subst ec
        exact PySem.W.kia_one (Z _) I.kIn J e (fun z => nomatch z) fun tk => ⟨.bl b, H, I.kept (t' := tk) fun _ _ z => z, rfl, q⟩
      · cases rt
        obtain ⟨_, its, rv, o, ho2, hcls, n, hdat⟩ := (show ObjOk X.prog X.w H s.heap t (.tup (cs.map V.ref)) from I.hok t _ ht)
        obtain ⟨oc, oda, odt, osl⟩ := o
        dsimp only at hcls hdat
        subst hcls hdat
        rw [← vals_refs rv] at e
        exact PySem.W.kia_tup (Z _) I.kIn J ho2 e (fun z => nomatch z) fun tk => ⟨.bl b, H, I.kept (t' := tk) fun _ _ z => z, rfl, q⟩
end CsX

set_option Elab.async false
set_option linter.all false
set_option maxRecDepth 100000
set_option maxHeartbeats 4000000
/-! name = {k: v for ..} as a statement. -/
namespace Cs
open PySem PySem.Spec PyProof.Rows L2
section
variable {X : Cx}
theorem ps_setDc {i : Nat} {y : Str} {py : Pos} {kx vx tg it : Expr} {cs : List Expr} {scope : Scope} {own : List (PySem.Str × Nat)} {pos spos : Pos} {wi : TI} {g : TG} {tt : TT} {tk tv : TE} (hc : X.calm = true) (hN : X.N.Nodup) (hy : X.N[i]? = some y) (hyl : X.env.scope.names.lookup y = some .local)
    (hsw : swapsWith (.DictComp kx vx [⟨tg, it, cs, 0⟩] scope pos) (some (.Name y py)) spos.line X.env = pure true) (hi : PI X tg it wi) (ok : BlkOk X.N X.env.scope scope own)
    (hg : ∀ (s : Shared) (H : Hp) (C : Addr) (cl : List (PySem.Str × Addr)) (fp : List Addr), PG (X.blk s H scope (compEnvC scope cl C X.env) fp) tg g)
    (ht : ∀ (s : Shared) (H : Hp) (C : Addr) (cl : List (PySem.Str × Addr)) (fp : List Addr), PTs (X.blk s H scope (compEnvC scope cl C X.env) fp) cs tt)
    (hk : ∀ (s : Shared) (H : Hp) (C : Addr) (cl : List (PySem.Str × Addr)) (fp : List Addr), PE (X.blk s H scope (compEnvC scope cl C X.env) fp) kx tk)
    (he : ∀ (s : Shared) (H : Hp) (C : Addr) (cl : List (PySem.Str × Addr)) (fp : List Addr), PE (X.blk s H scope (compEnvC scope cl C X.env) fp) vx tv)
    (hs : ∀ x, foldedSetIterable it X.env x = pure x := by intro _; rfl) :
    PS X (.Assign [.Name y py] (.DictComp kx vx [⟨tg, it, cs, 0⟩] scope pos) spos) (tAsg (tDc wi g tt tk tv (own.map (·.2))) (gName i)) := by
  refine ⟨fun pins s σ H D I h => ?_⟩
  rw [exec_Assign_Name_used _ _ _ _ hsw]
  refine wpAny_bind (wpAny_standAt (wpAny_bind ?_))
  have h : tDc wi g tt tk tv (own.map (·.2)) σ H (fun x H1 => gName i x σ H1 D.nx) := h
  refine wpAny_bind (thn (dc_core (Qf := fun _ s' => SP X pins D .next s') hc hN I hi ok hg ht hk he hs h fun L C s' m H' I' q hn f => ?_) fun _ s' hq => wpAny_pure (wpAny_pure hq))
  obtain ⟨f0, f1, f2, f3, f4, f5⟩ := f
  show wpAny _ _ (assign (.Name y py) X.env (.ref L)) _ _ _
  refine wpAny_assign_Name (store_ok2 (v := V.ref L) I' hN hy (.inl hyl) rfl (fun s2 I2 ⟨a, sb, ha⟩ => ?_) (.inr hyl))
  have apart : C ≠ a := ha.elim (fun z => z ▸ f1) fun z e => f4 y a z e.symm
  exact ⟨m, hn.sameBut sb apart, fun h3 sb3 => ⟨_, H', I2.turned (t' := s2.toks) (fun b o hb e => (sb3.2 b hb).trans e) f0 f1 f3 f4 f5, q⟩⟩
end
end Cs

set_option Elab.async false
set_option linter.all false
set_option maxRecDepth 100000
set_option maxHeartbeats 4000000
/-! == of two tuples that are equal, deep. -/
namespace Cs
open PySem PySem.Spec PyProof.Rows L2
def rEqT (K : PySem.W.Frag) : R2 := fun x y H Q => ∃ a b xs ys, x = .ref a ∧ y = .ref b ∧ SqT K H a xs ∧ SqT K H b ys ∧ Paired (EqV K H 2) xs ys ∧ Q (.bl true) H
theorem op_eqT {X : Cx} (hu : X.A.units + 64 < cLine) : OpR X (compareOp .Eq) (rEqT X.K) := by
  intro pins s σ H x y v u Q I rx ry h
  obtain ⟨a, b, xs, ys, rfl, rfl, ha, hb, hp, q⟩ := h
  cases (show v = Value.ref a from rx)
  cases (show u = Value.ref b from ry)
  obtain ⟨its, r, e, z⟩ := I.tuple ha
  obtain ⟨its2, r2, e2, z2⟩ := I.tuple hb
  have hsz : its.toArray.size = its2.toArray.size := by rw [List.size_toArray, List.size_toArray, ← r.length, ← r2.length]; exact Paired.length hp
  refine GQ.rc_tupG hsz (by omega) (fun _ s' => s' = s) e e2 (fun i h1 h2 s' hs => ?_) (fun s' hs => ?_) rfl
  · subst hs
    have k := items_run (A := X.A.in1) (eqV_run I 2 X.A.in1 (by show X.A.units + 1 + 2 < cLine; omega)) hp r r2 i (by simpa using h1) (by simpa using h2)
    have k2 : SeqAt.EqP X.prog X.w X.A.in1 s' its.toArray[i] its2.toArray[i] true := by simpa using k
    exact k2 _ _ ⟨rfl, rfl⟩
  · subst hs
    exact ⟨.bl true, H, I, rfl, q⟩
end Cs

set_option Elab.async false
set_option linter.all false
set_option maxRecDepth 100000
set_option maxHeartbeats 4000000
namespace K19
open PySem PySem.Spec PyProof.Rows L2 Cs
def topS (i : Nat) : Stmt := PySem.Challenge.pw_curbdesk_k19_wanted_fit.main.body.getD i (.Pass ⟨0, 0, 0, 0⟩)
structure Bt (mg : Str → Option Value) : Prop where
  sorted : mg "sorted" = none
  set : mg "set" = none
  len : mg "len" = none
  isi : mg "isinstance" = none
  int : mg "int" = none
  bool : mg "bool" = none
  list : mg "list" = none
  all : mg "all" = none
  range : mg "range" = none
  dict : mg "dict" = none
abbrev Srt (ms : List Int) : Prop := ms.Pairwise (· < ·)
theorem same_new {H : Hp} {p : Addr} {o : HO} (h : H p = none) : Same H (upd H p o) := fun b x e => by
  rw [upd_ne (ne_of_none e h)]
  exact e
theorem same_at {H H' : Hp} {p : Addr} {o : HO} (s : Same H H') (h : H p = none) : Same H (upd H' p o) := fun b x e => by
  rw [upd_ne (ne_of_none e h)]
  exact s _ _ e
theorem sl_map {K : PySem.W.Frag} {H : Hp} {a : Addr} {xs : List V} (h : H a = some (.lst xs)) : SqL K H a xs := .inl (.inl h)
theorem and_iff (ns ks : List Int) (k : Int) : eAnd (fun j => decide (j ∈ ns)) (fun j => decide (j ∈ ks)) k ↔ k ∈ ns ∧ k ∈ ks := by
  show (decide (k ∈ ns) = true ∧ decide (k ∈ ks) = true) ↔ _
  simp
theorem or_iff' (ns ks : List Int) (k : Int) : eOr (fun j => decide (j ∈ ns)) (fun j => decide (j ∈ ks)) k ↔ k ∈ ns ∨ k ∈ ks := by
  show (decide (k ∈ ns) = true ∨ decide (k ∈ ks) = true) ↔ _
  simp
theorem sub_iff (ns ks : List Int) (k : Int) : eSub (fun j => decide (j ∈ ns)) (fun j => decide (j ∈ ks)) k ↔ k ∈ ns ∧ k ∉ ks := by
  show (decide (k ∈ ns) = true ∧ decide (k ∈ ks) = false) ↔ _
  simp
section
variable {P : Program} {w : World} {K : PySem.W.Frag} {mg : Str → Option Value} {base : Heap}
/-! ### the program: sides -/
/-- two lists, and what is said of the members -/
def spTwo (K : PySem.W.Frag) (mem : List Int → List Int → Int → Prop) : Sp := fun vs H Q _ => ∃ (a b : Addr) (ns ks : List Int), vs = [.ref a, .ref b] ∧ SqL K H a (ns.map V.int) ∧ SqL K H b (ks.map V.int) ∧ ns.length ≤ 31 ∧ ks.length ≤ 31 ∧
  ∀ H' p ms, Same H H' → H p = none → H' p = some (.lst (ms.map V.int)) → Srt ms → (∀ k, k ∈ ms ↔ mem ns ks k) → ms.length ≤ 63 → Q (.ref p) H'
end
section
variable {P : Program} {w : World} {K : PySem.W.Frag} {mg : Str → Option Value} {base : Heap}
abbrev sIsInt : Stmt := topS 7
abbrev sStream : Stmt := topS 8
abbrev sDraw : Stmt := topS 9
theorem scIsInt : FnScope ["_law_actual"] ["_law_actual"] (defScope sIsInt) := ⟨rfl, rfl, rfl, by decide +kernel, rfl, by decide +kernel, by decide +kernel⟩
theorem scStream : FnScope ["_law_script", "_law_k", "_law_cell"] ["_law_script", "_law_k"] (defScope sStream) := ⟨rfl, rfl, rfl, by decide +kernel, rfl, by decide +kernel, by decide +kernel⟩
theorem scDraw : FnScope ["_law_stream_here", "_law_size", "_law_digit", "_law_mixed"] ["_law_stream_here", "_law_size"] (defScope sDraw) := ⟨rfl, rfl, rfl, by decide +kernel, rfl, by decide +kernel, by decide +kernel⟩
def spIsInt : Sp := fun vs H Q _ => ∃ k : Int, vs = [.int k] ∧ Q (.bl true) H
theorem ok_isInt {f : Addr} {fd : FuncData} {k : Nat} (F : Fun K "_law_is_integer" "_law_is_integer" sIsInt f fd) (B : Bt mg) : FnOk P w K mg base CX0 (k + 1) f fd ["_law_actual"] spIsInt := by
  refine F.ok scIsInt (fun vs H Q E h => ?_) (fun cdv A outer s H vs Q E hr h => ?_)
  · obtain ⟨a, rfl, _⟩ := h
    rfl
  · obtain ⟨a, rfl, q⟩ := h
    refine ⟨_, pss_one (ps_ret (pe_and (pe_callB call_isi (by rfl) B.isi PyProof.Rows.boot_isinstance (pa_cons (pv 0) (pa_cons (pe_bltn (by rfl) B.int PyProof.Rows.boot_int (v := .ty "int") rfl) pa_nil)))
      (pe_one (pe_not (pe_callB call_isi (by rfl) B.isi PyProof.Rows.boot_isinstance (pa_cons (pv 0) (pa_cons (pe_bltn (by rfl) B.bool PyProof.Rows.boot_bool (v := .ty "bool") rfl) pa_nil))))))), ?_⟩
    refine ⟨.int a, rfl, .int a, .ty "int", .type "int", .type "int", true, rfl, .ty _, .base (.int a), kit_ty (by decide +kernel), true, rfl, iteT ?_⟩
    exact ⟨.int a, rfl, .int a, .ty "bool", .type "int", .type "bool", false, rfl, .ty _, .base (.int a), kit_ty (by decide +kernel), false, rfl, q⟩

/-- a stream: three ints -/
def Strm (H : Hp) (p : Addr) : Prop := ∃ x y z : Int, H p = some (.lst [.int x, .int y, .int z])
def spStream (K : PySem.W.Frag) : Sp := fun vs H Q _ => ∃ (a : Addr) (ns : List Int) (k : Nat), vs = [.ref a, .int (k : Int)] ∧ SqL K H a (ns.map V.int) ∧
  ∀ H' p, Same H H' → H p = none → Strm H' p → Q (.ref p) H'
theorem ok_stream {f : Addr} {fd : FuncData} {k : Nat} (F : Fun K "_law_stream" "_law_stream" sStream f fd) (B : Bt mg) : FnOk P w K mg base CX0 (k + 1) f fd ["_law_script", "_law_k"] (spStream K) := by
  refine F.ok scStream (fun vs H Q E h => ?_) (fun cdv A outer s H vs Q E hr h => ?_)
  · obtain ⟨a, ns, k, rfl, _⟩ := h
    rfl
  · obtain ⟨a, ns, k, rfl, hS, q⟩ := h
    refine ⟨_, pss_cons (ps_set (i := 2) scStream.nd rfl (.inl rfl) pe_int)
      (pss_cons (ps_if (pt_cmpR op_lt (pv 1) (pe_callB call_len_seq (by rfl) B.len PySem.boot_len (pa_cons (pv 0) pa_nil)) (nomark _))
        (pss_one (ps_set (i := 2) scStream.nd rfl (.inl rfl) (pe_ix ix_list (pv 0) (pv 1) (fun _ _ => rfl)))) pss_nil)
      (pss_one (ps_ret (pe_lst (pa_cons (pe_op op_mul (pv 2) (pe_callTy call_int1 (by rfl) B.int PyProof.Rows.boot_int (pa_cons (pe_cmpR op_ge (pv 2) (pe_op op_pow pe_int pe_int) (nomark _)) pa_nil))) (pa_cons pe_int (pa_cons (pv 2) pa_nil))))))), ?_⟩
    have tail : ∀ (c : Int) (b : Bool), -(2 ^ 64) < (if b = true then (1 : Int) else 0) ∧ (if b = true then (1 : Int) else 0) < 2 ^ 64 := fun c b => by cases b <;> decide
    refine ⟨.int k, rfl, .ref a, rfl, a, _, rfl, .inl hS, (k : Int), _, rfl, rfl, _, rfl, ite2 (fun c => ?_) (fun c => ?_)⟩
    · have hk : k < ns.length := by
        have := of_decide_eq_true c
        rw [List.length_map] at this
        omega
      have g : (ns.map V.int)[k]? = some (.int ns[k]) := by
        rw [List.getElem?_map, List.getElem?_eq_getElem hk]
        rfl
      refine ⟨.ref a, rfl, .int k, rfl, a, _, (k : Int), _, rfl, rfl, hS, atI_nat g, ?_⟩
      refine ⟨.int ns[k], rfl, .int ns[k], rfl, 10, 18, rfl, rfl, ⟨by decide, by decide, by decide⟩, ns[k], _, rfl, rfl, .inr ⟨_, rfl, ns[k], _, rfl, rfl, .inr (tail 0 _), .int ns[k], rfl, by show 3 ≤ sizeLine; decide, fun l hl => ?_⟩⟩
      exact q _ l (same_new hl) hl ⟨_, _, _, upd_same⟩
    · refine ⟨.int 0, rfl, .int 0, rfl, 10, 18, rfl, rfl, ⟨by decide, by decide, by decide⟩, 0, _, rfl, rfl, .inr ⟨_, rfl, 0, _, rfl, rfl, .inr (tail 0 _), .int 0, rfl, by show 3 ≤ sizeLine; decide, fun l hl => ?_⟩⟩
      exact q _ l (same_new hl) hl ⟨_, _, _, upd_same⟩
/-- all but the one at p is as it was -/
def Oth (p : Addr) (H H' : Hp) : Prop := ∀ b, b ≠ p → H' b = H b
def spDraw : Sp := fun vs H Q _ => ∃ (p : Addr) (m : Int), vs = [.ref p, .int m] ∧ Strm H p ∧ 0 < m ∧ m < 1073741824 ∧
  ∀ H' d, Oth p H H' → Strm H' p → 0 ≤ d → d < m → Q (.int d) H'
theorem at0 {x y z : V} : atI [x, y, z] (0 : Int) = some x := atI_nat (j := 0) rfl
theorem at1 {x y z : V} : atI [x, y, z] (1 : Int) = some y := atI_nat (j := 1) rfl
theorem at2 {x y z : V} : atI [x, y, z] (2 : Int) = some z := atI_nat (j := 2) rfl
theorem ok_draw {f : Addr} {fd : FuncData} {k : Nat} (F : Fun K "_law_next" "_law_next" sDraw f fd) (B : Bt mg) : FnOk P w K mg base CX0 (k + 1) f fd ["_law_stream_here", "_law_size"] spDraw := by
  refine F.ok scDraw (fun vs H Q E h => ?_) (fun cdv A outer s H vs Q E hr h => ?_)
  · obtain ⟨p, m, rfl, _⟩ := h
    rfl
  · obtain ⟨p, m, rfl, ⟨x, y, z, hp⟩, m0, m1, q⟩ := h
    refine ⟨_, pss_cons (ps_asg (pe_op op_add (pe_ix ix_list (pv 0) pe_int (fun _ _ => rfl)) pe_int) (pg_sub (pv 0) pe_int set_list))
      (pss_cons (ps_if (pt_cmpR op_gt (pe_ix ix_list (pv 0) pe_int (fun _ _ => rfl)) pe_int (nomark _))
        (pss_cons (ps_set (i := 2) scDraw.nd rfl (.inl rfl) (pe_op op_mod (pe_callTy call_int1 (by rfl) B.int PyProof.Rows.boot_int (pa_cons (pe_ix ix_list (pv 0) pe_int (fun _ _ => rfl)) pa_nil)) (pv 1)))
          (pss_cons (ps_asg (pe_op op_fdiv (pe_ix ix_list (pv 0) pe_int (fun _ _ => rfl)) (pv 1)) (pg_sub (pv 0) pe_int set_list))
          (pss_one (ps_ret (pv 2))))) pss_nil)
      (pss_cons (ps_set (i := 3) scDraw.nd rfl (.inl rfl) (pe_op op_mod (pe_callTy call_int1 (by rfl) B.int PyProof.Rows.boot_int (pa_cons
          (pe_op op_add (pe_op op_add (pe_ix ix_list (pv 0) pe_int (fun _ _ => rfl)) (pe_op op_mul pe_int (pe_ix ix_list (pv 0) pe_int (fun _ _ => rfl)))) pe_int) pa_nil)) pe_int))
      (pss_cons (ps_set (i := 3) scDraw.nd rfl (.inl rfl) (pe_op op_mod (pe_callTy call_int1 (by rfl) B.int PyProof.Rows.boot_int (pa_cons
          (pe_op op_mul (pv 3) (pe_op op_add (pv 3) pe_int)) pa_nil)) pe_int))
      (pss_cons (ps_set (i := 3) scDraw.nd rfl (.inl rfl) (pe_op op_mod (pe_callTy call_int1 (by rfl) B.int PyProof.Rows.boot_int (pa_cons
          (pe_op op_add (pe_op op_mul (pv 3) (pe_op op_add (pv 3) pe_int)) (pe_op op_mul pe_int (pe_ix ix_list (pv 0) pe_int (fun _ _ => rfl)))) pa_nil)) pe_int))
      (pss_one (ps_ret (pe_op op_mod (pe_callTy call_int1 (by rfl) B.int PyProof.Rows.boot_int (pa_cons (pe_op op_fdiv (pv 3) pe_int) pa_nil)) (pv 1)))))))), ?_⟩
    have pos1 : (0 : Int) < 2147483647 := by decide
    have pos2 : (0 : Int) < 2147483629 := by decide
    -- stream[1] = stream[1] + 1
    refine ⟨.ref p, rfl, p, _, 1, .int y, rfl, rfl, sl_map hp, at1, y, 1, rfl, rfl, .ref p, rfl, p, _, 1, 1, rfl, rfl, hp, rfl, ?_⟩
    have h1 : ∀ o, (upd H p o) p = some o := fun o => upd_same
    -- if stream[0] > 0
    refine ⟨.ref p, rfl, p, _, 0, .int x, rfl, rfl, sl_map upd_same, at0, x, 0, rfl, rfl, _, rfl, ite2 (fun c => ?_) (fun c => ?_)⟩
    · refine ⟨.ref p, rfl, p, _, 0, .int x, rfl, rfl, sl_map upd_same, at0, .inl ⟨x, rfl, .int m, rfl, x, m, rfl, rfl, m0, ?_⟩⟩
      refine ⟨.ref p, rfl, p, _, 0, .int x, rfl, rfl, sl_map upd_same, at0, .int m, rfl, x, m, rfl, rfl, ⟨m0, m1⟩, .ref p, rfl, p, _, 0, 0, rfl, rfl, upd_same, rfl, ?_⟩
      refine ⟨.int (x % m), rfl, q _ _ (fun b hb => by rw [upd_ne hb, upd_ne hb]) ⟨_, _, _, upd_same⟩ (Int.emod_nonneg _ (by omega)) (Int.emod_lt_of_pos _ m0)⟩
    · refine ⟨.ref p, rfl, p, _, 2, .int z, rfl, rfl, sl_map upd_same, at2, .ref p, rfl, p, _, 1, .int (y + 1), rfl, rfl, sl_map upd_same, at1, 7919, y + 1, rfl, rfl, .inl ⟨by decide, by decide⟩, z, _, rfl, rfl, _, 13, rfl, rfl,
        .inl ⟨_, rfl, _, 2147483647, rfl, rfl, pos1, ?_⟩⟩
      have r1 : ∀ u : Int, 0 ≤ u % 2147483647 ∧ u % 2147483647 < 2147483647 := fun u => ⟨Int.emod_nonneg _ (by decide), Int.emod_lt_of_pos _ (by decide)⟩
      have r2 : ∀ u : Int, 0 ≤ u % 2147483629 ∧ u % 2147483629 < 2147483629 := fun u => ⟨Int.emod_nonneg _ (by decide), Int.emod_lt_of_pos _ (by decide)⟩
      have big : (2147483647 : Int) < 2 ^ 64 := by decide
      have big2 : (-(2 ^ 64) : Int) < 0 := by decide
      have b1 := r1 (z + 7919 * (y + 1) + 13)
      refine ⟨_, rfl, _, rfl, (z + 7919 * (y + 1) + 13) % 2147483647, 48271, rfl, rfl, (z + 7919 * (y + 1) + 13) % 2147483647, _, rfl, rfl, .inl ⟨by omega, by omega⟩, .inl ⟨_, rfl, _, 2147483629, rfl, rfl, pos2, ?_⟩⟩
      have b2 := r2 ((z + 7919 * (y + 1) + 13) % 2147483647 * ((z + 7919 * (y + 1) + 13) % 2147483647 + 48271))
      refine ⟨_, rfl, _, rfl, _, 69621, rfl, rfl, (z + 7919 * (y + 1) + 13) % 2147483647 * ((z + 7919 * (y + 1) + 13) % 2147483647 + 48271) % 2147483629, _, rfl, rfl, .inl ⟨?_, ?_⟩, .ref p, rfl, p, _, 1, .int (y + 1), rfl, rfl, sl_map upd_same, at1, 31, y + 1, rfl, rfl, .inl ⟨by decide, by decide⟩, _, _, rfl, rfl,
        .inl ⟨_, rfl, _, 2147483647, rfl, rfl, pos1, ?_⟩⟩
      · generalize (z + 7919 * (y + 1) + 13) % 2147483647 * ((z + 7919 * (y + 1) + 13) % 2147483647 + 48271) % 2147483629 = v at b2
        omega
      · generalize (z + 7919 * (y + 1) + 13) % 2147483647 * ((z + 7919 * (y + 1) + 13) % 2147483647 + 48271) % 2147483629 = v at b2
        omega
      refine ⟨_, rfl, _, 9, rfl, rfl, ⟨by decide, by decide⟩, .inl ⟨_, rfl, .int m, rfl, _, m, rfl, rfl, m0, ?_⟩⟩
      exact q _ _ (fun b hb => by rw [upd_ne hb]) ⟨_, _, _, upd_same⟩ (Int.emod_nonneg _ (by omega)) (Int.emod_lt_of_pos _ m0)
/-- a def that stands, with its promise -/
structure Call (P : Program) (w : World) (K : PySem.W.Frag) (mg : Str → Option Value) (base : Heap) (k : Nat) (x : Str) (f : Addr) (fd : FuncData) (ps : List Str) (sp : Sp) : Prop where
  ok : FnOk P w K mg base CX0 k f fd ps sp
  at_ : mg x = some (.ref f)
  kp : PySem.W.keepIn K (.ref f) = true
  bd : Binds K fd ps []
abbrev sIsSide : Stmt := topS 20
abbrev nIsSide : List Str := ["_law_actual", "_law_value", "_law_k"]
theorem scIsSide : FnScope nIsSide ["_law_actual"] (defScope sIsSide) := ⟨rfl, rfl, rfl, by decide +kernel, rfl, by decide +kernel, by decide +kernel⟩
def spIsSide : Sp := fun vs H Q _ => ∃ (a : Addr) (ns : List Int), vs = [.ref a] ∧ H a = some (.lst (ns.map V.int)) ∧ Srt ns ∧ ns.length ≤ 1000 ∧ ∀ H', Same H H' → Q (.bl true) H'
theorem all_rep (n : Nat) : (List.replicate n true).all id = true := by simp
theorem ok_isSide {f fI : Addr} {fd fdI : FuncData} (F : Fun K "_law_is_side" "_law_is_side" sIsSide f fd) (B : Bt mg) (I : Call P w K mg base 1 "_law_is_integer" fI fdI ["_law_actual"] spIsInt) :
    FnOk P w K mg base CX0 2 f fd ["_law_actual"] spIsSide := by
  refine F.ok scIsSide (fun vs H Q E h => ?_) (fun cdv A outer s H vs Q E hr h => ?_)
  · obtain ⟨a, ns, rfl, _⟩ := h
    rfl
  · obtain ⟨a, ns, rfl, ha, hs, hl, q⟩ := h
    refine ⟨_, pss_cons (ps_if (PW.pt (pw_or (pt_not (pt_val (pe_callB call_isi (by rfl) B.isi PyProof.Rows.boot_isinstance (pa_cons (pv 0) (pa_cons (pe_bltn (by rfl) B.list PyProof.Rows.boot_list (v := .ty "list") rfl) pa_nil)))))
        (pw_or1 (pt_not (pt_val (pe_callB (cr_all rfl) (by rfl) B.all PyProof.Rows.boot_all (pa_cons
          (pe_lc (own := [("_law_value", 1)]) (g := gName 1) (tt := tYes) rfl scIsSide.nd (pi_list (pv 0)) (blkOk_by (N := nIsSide) (sc := defScope sIsSide) (by decide +kernel)) (fun _ _ _ _ _ => pg_name (i := 1) scIsSide.nd rfl (Or.inl rfl)) (fun _ _ _ _ _ => pts_nil)
            (fun _ _ _ _ _ => pe_call I.ok hr (by rfl) I.at_ I.kp I.bd .nil pass0 (pa_cons (pv 1) pa_nil))) pa_nil)))))))
        (pss_one (ps_ret pe_bl)) pss_nil)
      (pss_one (ps_ret (pe_callB (cr_all rfl) (by rfl) B.all PyProof.Rows.boot_all (pa_cons
          (pe_lc (own := [("_law_k", 2)]) (g := gName 2) (tt := tYes) rfl scIsSide.nd (pi_range1 (by rfl) B.range (pa_cons (pe_op op_sub (pe_callB call_len_seq (by rfl) B.len PySem.boot_len (pa_cons (pv 0) pa_nil)) pe_int) pa_nil))
            (blkOk_by (N := nIsSide) (sc := defScope sIsSide) (by decide +kernel)) (fun _ _ _ _ _ => pg_name (i := 2) scIsSide.nd rfl (Or.inl rfl)) (fun _ _ _ _ _ => pts_nil)
            (fun _ _ _ _ _ => pe_cmpR op_lt (pe_ix (r := rIxL K) ix_list (pv 0) (pv 2) (fun _ _ => rfl)) (pe_ix (r := rIxL K) ix_list (pv 0) (pe_op op_add (pv 2) pe_int) (fun _ _ => rfl)) (nomark _))) pa_nil)))), ?_⟩
    refine ⟨.ref a, rfl, .ref a, .ty "list", .type "list", .type "list", true, rfl, .ty _, .base (.lst ha), kit_ty (by decide +kernel), true, rfl, iteF ?_⟩
    refine ⟨.ref a, rfl, a, rfl, ⟨_, sl_map ha⟩, fun D hD => lc_list (xs := ns.map V.int) (fun i H' => Same H H' ∧ H' D = some (.lst ((List.replicate i true).map V.bl))) ⟨same_new hD, upd_same⟩ (fun i H' _ h => h.1.seq (sl_map ha)) ?_ ?_⟩
    · rintro i x H' hx ⟨sm, hd⟩
      rw [List.getElem?_map] at hx
      obtain ⟨v, hv, rfl⟩ := Option.map_eq_some_iff.mp hx
      have hi : i < ns.length := (List.getElem?_eq_some_iff.mp hv).1
      refine ⟨rfl, ?_⟩
      refine ⟨_, rfl, v, rfl, _, hd, ?_, same_at sm hD, ?_⟩
      · rw [List.length_map, List.length_replicate]
        exact small1000 (by omega)
      · rw [upd_same, List.replicate_succ', List.map_append]
        rfl
    · rintro H' ⟨sm, hd⟩
      rw [List.length_map] at hd
      refine ⟨D, _, rfl, sl_map hd, _, rfl, ?_⟩
      rw [all_rep]
      refine iteF ?_
      -- all([.. < ..])
      refine ⟨.ref a, rfl, a, _, rfl, .inl (sm.seq (sl_map ha)), ((ns.map V.int).length : Int), 1, rfl, rfl, _, rfl, ?_, ?_, fun D2 hD2 => lc_range (lo := 0) (fun i H2 => Same H H2 ∧ H2 D2 = some (.lst ((List.replicate i true).map V.bl))) ⟨same_at sm (sm.free hD2), upd_same⟩ ?_ ?_⟩
      · rw [List.length_map]; omega
      · rw [List.length_map]; omega
      · rintro i H2 hi ⟨sm2, hd2⟩
        rw [List.length_map] at hi
        have h1 : i < ns.length := by omega
        have h2 : i + 1 < ns.length := by omega
        have g1 : (ns.map V.int)[i]? = some (.int ns[i]) := by
          rw [List.getElem?_map, List.getElem?_eq_getElem h1]
          rfl
        have g2 : (ns.map V.int)[i + 1]? = some (.int ns[i + 1]) := by
          rw [List.getElem?_map, List.getElem?_eq_getElem h2]
          rfl
        refine ⟨rfl, ?_⟩
        refine ⟨.ref a, rfl, _, rfl, a, _, _, _, rfl, rfl, sm2.seq (sl_map ha), at_of (by omega) g1, .ref a, rfl, _, rfl, _, 1, rfl, rfl, a, _, _, _, rfl, rfl, sm2.seq (sl_map ha), at_of (j := i + 1) (by omega) g2, _, _, rfl, rfl, _, hd2, ?_, same_at sm2 (sm.free hD2), ?_⟩
        · rw [List.length_map, List.length_replicate]
          exact small1000 (by omega)
        · have lt : ns[i] < ns[i + 1] := List.pairwise_iff_getElem.mp hs i (i + 1) h1 h2 (Nat.lt_succ_self i)
          have e : (fun i j : Int => V.bl (decide (i < j))) ns[i] ns[i + 1] = V.bl true := congrArg V.bl (decide_eq_true lt)
          rw [upd_same, e, List.replicate_succ', List.map_append]
          rfl
      · rintro H2 ⟨sm2, hd2⟩
        refine ⟨D2, _, rfl, sl_map hd2, ?_⟩
        rw [all_rep]
        exact q _ sm2
/-- what was tracked, but for the one at p, is as it was -/
def Keep (p : Addr) (H H' : Hp) : Prop := ∀ b o, b ≠ p → H b = some o → H' b = some o
theorem Keep.refl (p : Addr) (H : Hp) : Keep p H H := fun _ _ _ e => e
theorem Keep.oth {p : Addr} {H H1 H2 : Hp} (k : Keep p H H1) (o : Oth p H1 H2) : Keep p H H2 := fun b u hb e => (o b hb).trans (k b u hb e)
theorem Keep.trans {p : Addr} {H H1 H2 : Hp} (k : Keep p H H1) (k2 : Keep p H1 H2) : Keep p H H2 := fun b u hb e => k2 b u hb (k b u hb e)
theorem Keep.at_ {p q : Addr} {o : HO} {H H1 : Hp} (k : Keep p H H1) (n : H q = none) : Keep p H (upd H1 q o) := fun b u hb e => by
  rw [upd_ne (ne_of_none e n)]
  exact k b u hb e
theorem Keep.same {p : Addr} {H H1 : Hp} (s : Same H H1) : Keep p H H1 := fun b u _ e => s b u e
theorem Strm.some {H : Hp} {p : Addr} (s : Strm H p) : H p ≠ none := fun z => by
  obtain ⟨x, y, z', e⟩ := s
  rw [z] at e
  cases e
theorem Strm.keep {H H' : Hp} {p q : Addr} (s : Strm H p) (k : Keep q H H') (h : p ≠ q) : Strm H' p := by
  obtain ⟨x, y, z, e⟩ := s
  exact ⟨x, y, z, k _ _ h e⟩
theorem Strm.upd {H : Hp} {p q : Addr} {o : HO} (s : Strm H p) (h : p ≠ q) : Strm (upd H q o) p := by
  obtain ⟨x, y, z, e⟩ := s
  exact ⟨x, y, z, by rw [upd_ne h]; exact e⟩
theorem Keep.free {p q : Addr} {H H1 : Hp} (k : Keep p H H1) (s : Strm H1 p) (n : H1 q = none) : H q = none := by
  have hp : q ≠ p := fun z => s.some (z ▸ n)
  cases c : H q with
  | none => rfl
  | some o =>
    rw [k q o hp c] at n
    cases n
end
theorem srt_ext : ∀ {xs ys : List Int}, Srt xs → Srt ys → (∀ k, k ∈ xs ↔ k ∈ ys) → xs = ys
  | [], [], _, _, _ => rfl
  | [], y :: ys, _, _, h => absurd ((h y).2 List.mem_cons_self) (by simp)
  | x :: xs, [], _, _, h => absurd ((h x).1 List.mem_cons_self) (by simp)
  | x :: xs, y :: ys, sx, sy, h => by
    obtain ⟨x1, x2⟩ := List.pairwise_cons.mp sx
    obtain ⟨y1, y2⟩ := List.pairwise_cons.mp sy
    have e : x = y := by
      rcases List.mem_cons.mp ((h x).1 List.mem_cons_self) with a | a
      · exact a
      · rcases List.mem_cons.mp ((h y).2 List.mem_cons_self) with b | b
        · exact b.symm
        · have := x1 y b
          have := y1 x a
          omega
    subst e
    have t : ∀ k, k ∈ xs ↔ k ∈ ys := fun k => by
      constructor
      · intro hk
        rcases List.mem_cons.mp ((h k).1 (List.mem_cons_of_mem _ hk)) with a | a
        · have := x1 k hk
          omega
        · exact a
      · intro hk
        rcases List.mem_cons.mp ((h k).2 (List.mem_cons_of_mem _ hk)) with a | a
        · have := y1 k hk
          omega
        · exact a
    rw [srt_ext x2 y2 t]
/-! ### lists of ints as data -/
abbrev dI (ns : List Int) : PyData := .list (ns.map PyData.int)
theorem dp_all {K : PySem.W.Frag} {H : Hp} : ∀ ns : List Int, DpAll K H (ns.map V.int) (ns.map PyData.int)
  | [] => .nil
  | n :: ns => .cons (.int n) (dp_all ns)
theorem dpI {K : PySem.W.Frag} {H : Hp} {a : Addr} {ns : List Int} (h : SqL K H a (ns.map V.int)) : Dp K H (.ref a) (dI ns) := .lst h (dp_all ns)
theorem lay_all : ∀ ns : List Int, PyData.canLayAll0 (ns.map PyData.int) = true
  | [] => rfl
  | n :: ns => by
    show (PyData.canLay0 (.int n) && PyData.canLayAll0 (ns.map PyData.int)) = true
    rw [lay_all ns] <;> rfl
theorem layI (ns : List Int) : (dI ns).canLay0 = true := lay_all ns
theorem deep_all : ∀ ns : List Int, PyData.depthAll (ns.map PyData.int) ≤ 1
  | [] => by simp [PyData.depthAll]
  | n :: ns => by
    have := deep_all ns
    simp only [List.map_cons, PyData.depthAll, PyData.depth]
    omega
theorem deepI (ns : List Int) : (dI ns).depth ≤ 2 := by
  have := deep_all ns
  simp only [dI, PyData.depth]
  omega
theorem shI (ns : List Int) : SeqAt.shaped (dI ns) = true := by
  unfold SeqAt.shaped
  rw [layI]
  have := deepI ns
  simp
  omega
theorem eqI (ns : List Int) : PyData.eqv (dI ns) (dI ns) = true := SeqAt.eqv_refl _ (layI ns)
theorem lay2 (ns ks : List Int) : (PyData.list [dI ns, dI ks]).canLay0 = true := by
  show (PyData.canLay0 (dI ns) && (PyData.canLay0 (dI ks) && true)) = true
  rw [layI, layI]
  rfl
theorem sh2 (ns ks : List Int) : SeqAt.shaped (.list [dI ns, dI ks]) = true := by
  unfold SeqAt.shaped
  rw [lay2]
  have h1 := deepI ns
  have h2 := deepI ks
  have : (PyData.list [dI ns, dI ks]).depth ≤ 3 := by
    simp only [PyData.depth, PyData.depthAll] at *
    omega
  simp
  omega
theorem eq2 (ns ks : List Int) : PyData.eqv (.list [dI ns, dI ks]) (.list [dI ns, dI ks]) = true := SeqAt.eqv_refl _ (lay2 ns ks)
/-! ### boxes: dicts from texts to lists of ints -/
abbrev Ent := Str × Addr × List Int
def entK (L : List Ent) : List (Key × V) := L.map fun e => (Sum.inr e.1, V.ref e.2.1)
def getE (L : List Ent) (x : Str) : Option Ent := L.find? fun e => decide (e.1 = x)
def look (L : List Ent) (x : Str) : Option (List Int) := (getE L x).map (·.2.2)
theorem getE_nil (x : Str) : getE [] x = none := rfl
theorem getE_pos {e : Ent} {L : List Ent} {x : Str} (h : e.1 = x) : getE (e :: L) x = some e := by simp [getE, List.find?_cons, h]
theorem getE_neg {e : Ent} {L : List Ent} {x : Str} (h : ¬ e.1 = x) : getE (e :: L) x = getE L x := by simp [getE, List.find?_cons, h]
theorem getE_mem {L : List Ent} {x : Str} {e : Ent} (h : getE L x = some e) : e ∈ L ∧ e.1 = x :=
  ⟨List.mem_of_find?_eq_some h, of_decide_eq_true (List.find?_some (p := fun e : Ent => decide (e.1 = x)) h)⟩
theorem getE_of : ∀ {L : List Ent} {e : Ent}, (L.map (·.1)).Nodup → e ∈ L → getE L e.1 = some e
  | [], _, _, h => by cases h
  | a :: L, e, nd, h => by
    rw [List.map_cons, List.nodup_cons] at nd
    rcases List.mem_cons.mp h with z | z
    · rw [z]; exact getE_pos rfl
    · have ne : ¬ a.1 = e.1 := fun q => nd.1 (q ▸ List.mem_map_of_mem z)
      rw [getE_neg ne]
      exact getE_of nd.2 z
theorem getE_none {L : List Ent} {x : Str} : getE L x = none ↔ x ∉ L.map (·.1) := by
  unfold getE
  rw [List.find?_eq_none]
  constructor
  · intro h hx
    obtain ⟨e, he, q⟩ := List.mem_map.mp hx
    exact h e he (decide_eq_true q)
  · intro h e he q
    exact h (of_decide_eq_true q ▸ List.mem_map_of_mem he)
theorem look_mem {L : List Ent} {e : Ent} (nd : (L.map (·.1)).Nodup) (h : e ∈ L) : look L e.1 = some e.2.2 := by
  unfold look
  rw [getE_of nd h]
  rfl
theorem valV_ent (x : Str) : ∀ L : List Ent, valV (entK L) (.inr x) = (getE L x).map fun e => V.ref e.2.1
  | [] => rfl
  | e :: L => by
    by_cases h : e.1 = x
    · rw [getE_pos h]
      exact valV_pos (congrArg Sum.inr h)
    · rw [getE_neg h]
      have : valV (entK (e :: L)) (.inr x) = valV (entK L) (.inr x) := valV_neg (fun z => h (Sum.inr.inj z))
      rw [this]
      exact valV_ent x L
structure Bx (H : Hp) (d : Addr) (L : List Ent) : Prop where
  rd : Rd H d (.dK (entK L))
  sides : ∀ e ∈ L, H e.2.1 = some (.lst (e.2.2.map V.int))
  nd : (L.map (·.1)).Nodup
  few : L.length ≤ 40
theorem Rd.same {H H' : Hp} {a : Addr} {u : HO} (s : Same H H') (r : Rd H a u) : Rd H' a u := r.elim (fun h => .inl (s _ _ h)) fun ⟨o, h⟩ => .inr ⟨o, s _ _ h⟩
theorem Bx.same {H H' : Hp} {d : Addr} {L : List Ent} (B : Bx H d L) (s : Same H H') : Bx H' d L := ⟨Rd.same s B.rd, fun e he => s _ _ (B.sides e he), B.nd, B.few⟩
theorem Bx.get {H : Hp} {d : Addr} {L : List Ent} (B : Bx H d L) (x : Str) : DGet H d (.str x) ((getE L x).map fun e => V.ref e.2.1) := .inl ⟨entK L, .inr x, B.rd, rfl, (valV_ent x L).symm⟩
/-- a locked dict is read as before -/
theorem Bx.lock {H : Hp} {d d' : Addr} {L L' : List Ent} {od : Obj} (B : Bx H d L) (h : H d' = some (.dK (entK L'))) : Bx (upd H d' (.frz od (.dK (entK L')))) d L := by
  refine ⟨?_, fun e he => ?_, B.nd, B.few⟩
  · by_cases z : d = d'
    · subst z
      have : entK L' = entK L := by
        rcases B.rd with q | ⟨o, q⟩
        · rw [h] at q
          exact HO.dK.inj (Option.some.inj q)
        · rw [h] at q; cases q
      rw [← this]
      exact .inr ⟨od, upd_same⟩
    · rcases B.rd with q | ⟨o, q⟩
      · exact .inl (by rw [upd_ne z]; exact q)
      · exact .inr ⟨o, by rw [upd_ne z]; exact q⟩
  · have : e.2.1 ≠ d' := fun z => by have q := B.sides e he; rw [z, h] at q; cases q
    rw [upd_ne this]
    exact B.sides e he
theorem unlock {H H' : Hp} {d : Addr} {u : HO} {od : Obj} (h : H d = some u) (s : Same (upd H d (.frz od u)) H') : Same H (upd H' d u) := fun b o e => by
  by_cases z : b = d
  · subst z
    rw [upd_same]
    exact h.symm.trans e
  · rw [upd_ne z]
    exact s b o (by rw [upd_ne z]; exact e)
/-- put -/
def putE (L : List Ent) (x : Str) (a : Addr) (s : List Int) : List Ent := if (L.any fun e => decide (e.1 = x)) = true then L.map (fun e => if e.1 = x then (x, a, s) else e) else L ++ [(x, a, s)]
theorem any_ent (L : List Ent) (x : Str) : ((entK L).any fun kv => decide (kv.1 = Sum.inr x)) = L.any fun e => decide (e.1 = x) := by
  unfold entK
  rw [List.any_map]
  congr 1
  funext e
  simp
theorem putK_ent (L : List Ent) (x : Str) (a : Addr) (s : List Int) : putK (entK L) (.inr x) (V.ref a) = entK (putE L x a s) := by
  unfold putK putE
  rw [any_ent]
  by_cases h : (L.any fun e => decide (e.1 = x)) = true
  · rw [if_pos h, if_pos h]
    unfold entK
    rw [List.map_map, List.map_map]
    congr 1
    funext e
    by_cases z : e.1 = x
    · simp [z]
    · simp [z]
  · rw [if_neg h, if_neg h]
    unfold entK
    rw [List.map_append]
    rfl
theorem any_iff {L : List Ent} {x : Str} : (L.any fun e => decide (e.1 = x)) = true ↔ x ∈ L.map (·.1) := by
  rw [List.any_eq_true, List.mem_map]
  constructor
  · rintro ⟨e, he, q⟩; exact ⟨e, he, of_decide_eq_true q⟩
  · rintro ⟨e, he, q⟩; exact ⟨e, he, decide_eq_true q⟩
theorem putE_keys (L : List Ent) (x : Str) (a : Addr) (s : List Int) : (putE L x a s).map (·.1) = if x ∈ L.map (·.1) then L.map (·.1) else L.map (·.1) ++ [x] := by
  unfold putE
  by_cases h : (L.any fun e => decide (e.1 = x)) = true
  · rw [if_pos h, if_pos (any_iff.mp h), List.map_map]
    congr 1
    funext e
    by_cases z : e.1 = x
    · simp [z]
    · simp [z]
  · rw [if_neg h, if_neg (fun z => h (any_iff.mpr z)), List.map_append]
    rfl
theorem putE_nd {L : List Ent} {x : Str} {a : Addr} {s : List Int} (nd : (L.map (·.1)).Nodup) : ((putE L x a s).map (·.1)).Nodup := by
  rw [putE_keys]
  split
  · exact nd
  · rename_i h
    rw [List.nodup_append]
    exact ⟨nd, by simp, fun y hy z hz => by rw [List.mem_singleton.mp hz]; exact fun e => h (e ▸ hy)⟩
theorem putE_len (L : List Ent) (x : Str) (a : Addr) (s : List Int) : (putE L x a s).length ≤ L.length + 1 := by
  unfold putE
  split
  · rw [List.length_map]; omega
  · rw [List.length_append]; exact Nat.le_refl _
theorem putE_mem {L : List Ent} {x : Str} {a : Addr} {s : List Int} {e : Ent} (h : e ∈ putE L x a s) : e = (x, a, s) ∨ (e ∈ L ∧ e.1 ≠ x) := by
  unfold putE at h
  split at h
  · obtain ⟨f, hf, q⟩ := List.mem_map.mp h
    by_cases z : f.1 = x
    · rw [if_pos z] at q; exact .inl q.symm
    · rw [if_neg z] at q; exact .inr (q ▸ ⟨hf, z⟩)
  · rename_i g
    rcases List.mem_append.mp h with q | q
    · exact .inr ⟨q, fun z => g (any_iff.mpr (z ▸ List.mem_map_of_mem q))⟩
    · exact .inl (List.mem_singleton.mp q)
theorem find_map_at {x y : Str} {a : Addr} {s : List Int} (h : ¬ x = y) : ∀ L : List Ent, getE (L.map (fun e => if e.1 = x then (x, a, s) else e)) y = getE L y
  | [] => rfl
  | e :: L => by
    rw [List.map_cons]
    by_cases z : e.1 = x
    · rw [if_pos z, getE_neg (show ¬ (x, a, s).1 = y from h), getE_neg (fun q => h (z.symm.trans q))]
      exact find_map_at h L
    · rw [if_neg z]
      by_cases q : e.1 = y
      · rw [getE_pos q, getE_pos q]
      · rw [getE_neg q, getE_neg q]
        exact find_map_at h L
theorem find_map_self {x : Str} {a : Addr} {s : List Int} : ∀ L : List Ent, x ∈ L.map (·.1) → getE (L.map (fun e => if e.1 = x then (x, a, s) else e)) x = some (x, a, s)
  | [], h => by cases h
  | e :: L, h => by
    rw [List.map_cons]
    by_cases z : e.1 = x
    · rw [if_pos z]; exact getE_pos rfl
    · rw [if_neg z, getE_neg z]
      rw [List.map_cons] at h
      exact find_map_self L ((List.mem_cons.mp h).elim (fun q => absurd q.symm z) id)
theorem getE_app (L M : List Ent) (y : Str) : getE (L ++ M) y = (getE L y).or (getE M y) := List.find?_append
theorem getE_put (L : List Ent) (x y : Str) (a : Addr) (s : List Int) : getE (putE L x a s) y = if y = x then some (x, a, s) else getE L y := by
  unfold putE
  by_cases h : (L.any fun e => decide (e.1 = x)) = true
  · rw [if_pos h]
    by_cases z : y = x
    · rw [if_pos z, z]
      exact find_map_self L (any_iff.mp h)
    · rw [if_neg z]
      exact find_map_at (fun q => z q.symm) L
  · rw [if_neg h, getE_app]
    by_cases z : y = x
    · rw [if_pos z, z, getE_none.mpr (fun q => h (any_iff.mpr q))]
      exact getE_pos rfl
    · rw [if_neg z, show getE [(x, a, s)] y = none from getE_neg (fun q => z q.symm)]
      cases getE L y <;> rfl
theorem look_put (L : List Ent) (x y : Str) (a : Addr) (s : List Int) : look (putE L x a s) y = if y = x then some s else look L y := by
  unfold look
  rw [getE_put]
  by_cases z : y = x
  · rw [if_pos z, if_pos z]; rfl
  · rw [if_neg z, if_neg z]
/-- drop -/
def dropE (L : List Ent) (x : Str) : List Ent := L.filter fun e => decide (e.1 ≠ x)
theorem dropK_ent (L : List Ent) (x : Str) : dropK (entK L) (.inr x) = entK (dropE L x) := by
  unfold dropK dropE entK
  rw [List.filter_map]
  congr 1
  apply List.filter_congr
  intro e _
  simp
theorem getE_drop (x y : Str) : ∀ L : List Ent, getE (dropE L x) y = if y = x then none else getE L y
  | [] => by unfold dropE; simp [getE]
  | e :: L => by
    have ih := getE_drop x y L
    unfold dropE at ih ⊢
    by_cases z : e.1 = x
    · rw [List.filter_cons_of_neg (by simp [z]), ih]
      by_cases q : y = x
      · rw [if_pos q, if_pos q]
      · rw [if_neg q, if_neg q, getE_neg (fun w => q (w.symm.trans z))]
    · rw [List.filter_cons_of_pos (by simp [z])]
      by_cases w : e.1 = y
      · rw [getE_pos w, getE_pos w, if_neg (fun q => z (w.trans q))]
      · rw [getE_neg w, getE_neg w, ih]
theorem look_drop (L : List Ent) (x y : Str) : look (dropE L x) y = if y = x then none else look L y := by
  unfold look
  rw [getE_drop]
  by_cases q : y = x
  · rw [if_pos q, if_pos q]; rfl
  · rw [if_neg q, if_neg q]
theorem dropE_nd {L : List Ent} {x : Str} (nd : (L.map (·.1)).Nodup) : ((dropE L x).map (·.1)).Nodup := List.Pairwise.sublist (List.Sublist.map _ List.filter_sublist) nd
theorem dropE_mem {L : List Ent} {x : Str} {e : Ent} (h : e ∈ dropE L x) : e ∈ L := (List.mem_filter.mp h).1
theorem dropE_len (L : List Ent) (x : Str) : (dropE L x).length ≤ L.length := List.length_filter_le _ _
/-- two boxes that say the same -/
def SameB (L M : List Ent) : Prop := ∀ x, look L x = look M x
theorem look_isSome {L : List Ent} {x : Str} : (look L x).isSome = true ↔ x ∈ L.map (·.1) := by
  unfold look
  rw [Option.isSome_map]
  cases h : getE L x with
  | none => simp [getE_none.mp h]
  | some e => simp only [Option.isSome_some, true_iff]; obtain ⟨a, b⟩ := getE_mem h; exact b ▸ List.mem_map_of_mem a
theorem len_le {α : Type} [DecidableEq α] : ∀ {l m : List α}, l.Nodup → (∀ x ∈ l, x ∈ m) → l.length ≤ m.length
  | [], _, _, _ => Nat.zero_le _
  | x :: l, m, nd, h => by
    rw [List.nodup_cons] at nd
    have hx := h x List.mem_cons_self
    have ih := len_le (m := m.erase x) nd.2 (fun y hy => (List.mem_erase_of_ne (fun (e : y = x) => nd.1 (by rw [← e]; exact hy))).2 (h y (List.mem_cons_of_mem _ hy)))
    rw [List.length_erase_of_mem hx] at ih
    have : 0 < m.length := List.length_pos_of_mem hx
    rw [List.length_cons]
    omega
theorem SameB.len {L M : List Ent} (s : SameB L M) (n1 : (L.map (·.1)).Nodup) (n2 : (M.map (·.1)).Nodup) : L.length = M.length := by
  have h1 := len_le n1 (fun x hx => look_isSome.mp (by rw [← s x]; exact look_isSome.mpr hx))
  have h2 := len_le n2 (fun x hx => look_isSome.mp (by rw [s x]; exact look_isSome.mpr hx))
  rw [List.length_map, List.length_map] at h1 h2
  omega
/-- v in ks, as the model asks it -/
theorem in_ints (ks : List Int) (v : Int) : inV (.int v) (ks.map V.int) = decide (v ∈ ks) := by
  unfold inV
  induction ks with
  | nil => simp
  | cons k ks ih =>
    rw [List.map_cons, List.any_cons, ih]
    have e : eqV (.int k) (.int v) = decide (k = v) := by
      by_cases c : k = v
      · subst c; simp [eqV]
      · simp [eqV, c]
    rw [e]
    by_cases c : k = v
    · subst c; simp
    · have c2 : ¬ v = k := fun z => c z.symm
      simp [c, c2]
theorem flat_ints (ks : List Int) : (ks.map V.int).all flatV = true := by
  rw [List.all_map]
  exact List.all_eq_true.mpr fun _ _ => rfl
section
variable {P : Program} {w : World} {K : PySem.W.Frag} {mg : Str → Option Value} {base : Heap}
/-! ### the program: boxes -/
/-- a box that no walk has locked -/
structure Bu (H : Hp) (d : Addr) (L : List Ent) : Prop extends Bx H d L where
  un : H d = some (.dK (entK L))
theorem Bu.same' {H H' : Hp} {d : Addr} {L : List Ent} (B : Bu H d L) (s : Same H H') : Bu H' d L := ⟨B.toBx.same s, s _ _ B.un⟩
theorem upd_back {H : Hp} {d : Addr} {u x : HO} (h : H d = some u) : upd (upd H d x) d u = H := by
  funext b
  by_cases z : b = d
  · rw [z, upd_same, h]
  · rw [upd_ne z, upd_ne z]
theorem entK_get {L : List Ent} {i : Nat} : (entK L)[i]? = (L[i]?).map fun e => (Sum.inr e.1, V.ref e.2.1) := by
  unfold entK
  rw [List.getElem?_map]
/-! ### holds -/
def intK (A : List (Str × Int)) : List (Key × V) := A.map fun e => (Sum.inr e.1, V.int e.2)
def aget (A : List (Str × Int)) (x : Str) : Option Int := (A.find? fun e => decide (e.1 = x)).map (·.2)
theorem valV_int (x : Str) : ∀ A : List (Str × Int), valV (intK A) (.inr x) = (aget A x).map V.int
  | [] => rfl
  | e :: A => by
    by_cases h : e.1 = x
    · have : aget (e :: A) x = some e.2 := by simp [aget, List.find?_cons, h]
      rw [this]
      exact valV_pos (congrArg Sum.inr h)
    · have : aget (e :: A) x = aget A x := by simp [aget, List.find?_cons, h]
      rw [this]
      have : valV (intK (e :: A)) (.inr x) = valV (intK A) (.inr x) := valV_neg (fun z => h (Sum.inr.inj z))
      rw [this]
      exact valV_int x A
/-- an assignment: a dict from texts to ints -/
structure Ax (H : Hp) (d : Addr) (A : List (Str × Int)) : Prop where
  rd : Rd H d (.dK (intK A))
theorem Ax.same {H H' : Hp} {d : Addr} {A : List (Str × Int)} (B : Ax H d A) (s : Same H H') : Ax H' d A := ⟨Rd.same s B.rd⟩
theorem Ax.get {H : Hp} {d : Addr} {A : List (Str × Int)} (B : Ax H d A) (x : Str) : DGet H d (.str x) ((aget A x).map V.int) := .inl ⟨intK A, .inr x, B.rd, rfl, (valV_int x A).symm⟩
def inSide (A : List (Str × Int)) (e : Ent) : Bool := match aget A e.1 with
  | some v => decide (v ∈ e.2.2)
  | none => true
def holdsE (L : List Ent) (A : List (Str × Int)) : Bool := L.all (inSide A)
theorem same_frz {H H' : Hp} {d : Addr} {u : HO} {od : Obj} (h : H d = some u) (s : Same H H') : Same (upd H d (.frz od u)) (upd H' d (.frz od u)) := fun b o e => by
  by_cases z : b = d
  · subst z
    rw [upd_same] at e ⊢
    exact e
  · rw [upd_ne z] at e ⊢
    exact s _ _ e
theorem take_all {α : Type} {L : List α} {i : Nat} {e : α} {p : α → Bool} (h : L[i]? = some e) : (L.take (i + 1)).all p = ((L.take i).all p && p e) := by
  rw [List.take_add_one, h, List.all_append]
  simp
theorem not_all {α : Type} {L : List α} {i : Nat} {e : α} {p : α → Bool} (h : L[i]? = some e) (q : p e = false) : L.all p = false := by
  rw [List.all_eq_false]
  exact ⟨e, List.mem_of_getElem? h, by simp [q]⟩
theorem Ax.frz {H : Hp} {v d : Addr} {A : List (Str × Int)} {u : HO} (B : Ax H v A) (h : v ≠ d) : Ax (upd H d u) v A := ⟨B.rd.elim (fun q => .inl (by rw [upd_ne h]; exact q)) fun ⟨o, q⟩ => .inr ⟨o, by rw [upd_ne h]; exact q⟩⟩
theorem entK_len (L : List Ent) : (entK L).length = L.length := by unfold entK; rw [List.length_map]
theorem items_at {L : List Ent} {i : Nat} {x1 x2 : V} (g1 : ((entK L)[i]?.map fun kv => kV kv.1) = some x1) (g2 : ((entK L)[i]?.map Prod.snd) = some x2) : ∃ e, L[i]? = some e ∧ x1 = .str e.1 ∧ x2 = .ref e.2.1 := by
  rw [entK_get] at g1 g2
  cases c : L[i]? with
  | none => rw [c] at g1; cases g1
  | some e => rw [c] at g1 g2; exact ⟨e, rfl, (Option.some.inj g1).symm, (Option.some.inj g2).symm⟩
theorem keys_at {L : List Ent} {i : Nat} {k : Key} {v : V} (h : (entK L)[i]? = some (k, v)) : ∃ e, L[i]? = some e ∧ k = .inr e.1 ∧ v = .ref e.2.1 := by
  rw [entK_get] at h
  obtain ⟨e, he, q⟩ := Option.map_eq_some_iff.mp h
  cases q
  exact ⟨e, he, rfl, rfl⟩
/-! ### box_within -/
end
/-- a new box with sides of its own -/
structure Nb (H0 H : Hp) (d : Addr) (L : List Ent) : Prop extends Bu H d L where
  fresh : H0 d = none
  freshS : ∀ e ∈ L, H0 e.2.1 = none
  inj : (L.map (·.2.1)).Nodup
theorem Nb.pull {H H0 H1 : Hp} {d : Addr} {L : List Ent} (N : Nb H0 H1 d L) (s : Same H H0) : Nb H H1 d L := ⟨N.toBu, s.free N.fresh, fun e he => s.free (N.freshS e he), N.inj⟩
theorem Nb.push {H0 H1 H2 : Hp} {d : Addr} {L : List Ent} (N : Nb H0 H1 d L) (s : Same H1 H2) : Nb H0 H2 d L := ⟨N.toBu.same' s, N.fresh, N.freshS, N.inj⟩
abbrev shape (L : List Ent) : List (Str × List Int) := L.map fun e => (e.1, e.2.2)
theorem look_shape : ∀ {L M : List Ent}, shape L = shape M → SameB L M
  | [], [], _, _ => rfl
  | [], _ :: _, h, _ => by cases h
  | _ :: _, [], h, _ => by cases h
  | e :: L, f :: M, h, x => by
    simp only [shape, List.map_cons, List.cons.injEq, Prod.mk.injEq] at h
    obtain ⟨⟨h1, h2⟩, h3⟩ := h
    have ih := look_shape (L := L) (M := M) h3 x
    unfold look at ih ⊢
    by_cases z : e.1 = x
    · rw [getE_pos z, getE_pos (h1 ▸ z)]
      exact congrArg some h2
    · rw [getE_neg z, getE_neg (fun q => z (h1.trans q))]
      exact ih
theorem shape_keys {L M : List Ent} (h : shape L = shape M) : L.map (·.1) = M.map (·.1) := by
  have q := congrArg (List.map Prod.fst) h
  unfold shape at q
  rw [List.map_map, List.map_map] at q
  exact q
theorem putE_new {L : List Ent} {x : Str} {a : Addr} {s : List Int} (h : x ∉ L.map (·.1)) : putE L x a s = L ++ [(x, a, s)] := if_neg fun z => h (any_iff.mp z)
theorem nd_snoc {α : Type} {l : List α} {x : α} (nd : l.Nodup) (h : x ∉ l) : (l ++ [x]).Nodup := by
  rw [List.nodup_append]
  exact ⟨nd, by simp, fun y hy z hz => by rw [List.mem_singleton.mp hz]; exact fun e => h (e ▸ hy)⟩
theorem dc_it {J : It} {n : Nat} {G : Hp → Prop} {Y : Nat → Hp → V → Hp → Prop} (w : Walk J n G Y) {g : TG} {tt : TT} {tk tv : TE} {vs : List Nat} {σ : L2.St} {H1 : Hp} {D : Addr} {Qd : Hp → Prop} (Pv : Nat → Hp → Prop) (start : Pv 0 (upd H1 D (.dK []))) (stays : ∀ i H, i ≤ n → Pv i H → G H)
    (turn : ∀ i x H H', i < n → Pv i H → Y i H x H' → g x (wipe σ vs) H' fun σ2 H2 => wipe σ2 vs = wipe σ vs ∧ tt σ2 H2 fun b H3 =>
      if b = true then tk σ2 H3 fun y H4 => tv σ2 H4 fun z H5 => ∃ kvs k, y = kV k ∧ H5 D = some (.dK kvs) ∧ kvs.length < sizeLine ∧ Pv (i + 1) (upd H5 D (.dK (putK kvs k z))) else Pv (i + 1) H3) (after : ∀ H, Pv n H → Qd H) :
    ∃ W : Nat → Nat → Hp → Prop, (∃ m, W 0 m (upd H1 D (.dK []))) ∧ ∀ i m H, W i m H →
      (J.stop i H ∧ Qd H) ∨ (J.go i H ∧ ∃ Nx : Hp → Prop, (∀ H', Nx H' → ∃ m', m' < m ∧ W (i + 1) m' H') ∧ ∀ x H', J.yld i H x H' → g x (wipe σ vs) H' fun σ2 H2 => wipe σ2 vs = wipe σ vs ∧ tt σ2 H2 fun b H3 =>
        if b = true then tk σ2 H3 fun y H4 => tv σ2 H4 fun z H5 => ∃ kvs k, y = kV k ∧ H5 D = some (.dK kvs) ∧ kvs.length < sizeLine ∧ Nx (upd H5 D (.dK (putK kvs k z))) else Nx H3) := by
  refine ⟨fun i m H => m = n - i ∧ i ≤ n ∧ Pv i H, ⟨n, rfl, Nat.zero_le _, start⟩, fun i m H h => ?_⟩
  obtain ⟨em, le, pv⟩ := h
  by_cases lt : i < n
  · exact .inr ⟨w.goes i H lt (stays i H le pv), Pv (i + 1), fun H' p => ⟨n - (i + 1), by omega, rfl, lt, p⟩, fun x H' y => turn i x H H' lt pv (w.yields i H x H' lt (stays i H le pv) y)⟩
  · obtain rfl : i = n := by omega
    exact .inl ⟨w.stops H (stays _ H le pv), after H pv⟩
section
variable {P : Program} {w : World} {K : PySem.W.Frag} {mg : Str → Option Value} {base : Heap}
abbrev rLst (K : PySem.W.Frag) : List V → Hp → VK → Prop := fun xs H Q => ∃ p ys, xs = [.ref p] ∧ (SqL K H p ys ∨ SqT K H p ys) ∧ ∀ l, H l = none → Q (.ref l) (upd H l (.lst ys))
def spCopy : Sp := fun vs H Q _ => ∃ (d : Addr) (L : List Ent), vs = [.ref d] ∧ Bu H d L ∧ ∀ (H' : Hp) (d' : Addr) (M : List Ent), Same H H' → Nb H H' d' M → shape M = shape L → Q (.ref d') H'
end
/-! ### what two sorted lists have together -/
def ins (k : Int) : List Int → List Int
  | [] => [k]
  | x :: l => if k < x then k :: x :: l else if k = x then x :: l else x :: ins k l
theorem ins_mem (k j : Int) : ∀ l : List Int, j ∈ ins k l ↔ j = k ∨ j ∈ l
  | [] => by simp [ins]
  | x :: l => by
    unfold ins
    by_cases a : k < x
    · rw [if_pos a]; simp
    · rw [if_neg a]
      by_cases b : k = x
      · rw [if_pos b, b]; simp
      · rw [if_neg b, List.mem_cons, ins_mem k j l, List.mem_cons]
        constructor
        · rintro (h | h | h)
          · exact .inr (.inl h)
          · exact .inl h
          · exact .inr (.inr h)
        · rintro (h | h | h)
          · exact .inr (.inl h)
          · exact .inl h
          · exact .inr (.inr h)
theorem ins_srt (k : Int) : ∀ l : List Int, Srt l → Srt (ins k l)
  | [], _ => List.pairwise_singleton _ _
  | x :: l, s => by
    obtain ⟨s1, s2⟩ := List.pairwise_cons.mp s
    unfold ins
    by_cases a : k < x
    · rw [if_pos a]
      refine List.pairwise_cons.mpr ⟨fun y hy => ?_, s⟩
      rcases List.mem_cons.mp hy with h | h
      · rw [h]; exact a
      · have := s1 y h; omega
    · rw [if_neg a]
      by_cases b : k = x
      · rw [if_pos b]; exact s
      · rw [if_neg b]
        refine List.pairwise_cons.mpr ⟨fun y hy => ?_, ins_srt k l s2⟩
        rcases (ins_mem k y l).mp hy with h | h
        · rw [h]; omega
        · exact s1 y h
theorem ins_len (k : Int) : ∀ l : List Int, (ins k l).length ≤ l.length + 1
  | [] => Nat.le_refl _
  | x :: l => by
    have := ins_len k l
    unfold ins
    split
    · simp
    · split
      · simp
      · simp only [List.length_cons]; omega
def uni (a b : List Int) : List Int := b.foldr ins a
theorem uni_mem (a : List Int) (j : Int) : ∀ b : List Int, j ∈ uni a b ↔ j ∈ a ∨ j ∈ b
  | [] => by simp [uni]
  | k :: b => by
    have ih := uni_mem a j b
    show j ∈ ins k (uni a b) ↔ _
    rw [ins_mem, ih, List.mem_cons]
    constructor
    · rintro (h | h | h)
      · exact .inr (.inl h)
      · exact .inl h
      · exact .inr (.inr h)
    · rintro (h | h | h)
      · exact .inr (.inl h)
      · exact .inl h
      · exact .inr (.inr h)
theorem uni_srt {a : List Int} (s : Srt a) : ∀ b : List Int, Srt (uni a b)
  | [] => s
  | k :: b => ins_srt k _ (uni_srt s b)
theorem uni_len (a : List Int) : ∀ b : List Int, (uni a b).length ≤ a.length + b.length
  | [] => Nat.le_refl _
  | k :: b => by
    have h1 := ins_len k (uni a b)
    have h2 := uni_len a b
    show (ins k (uni a b)).length ≤ a.length + (b.length + 1)
    omega
def both (a s : List Int) : List Int := a.filter fun k => decide (k ∈ s)
theorem both_srt {a s : List Int} (h : Srt a) : Srt (both a s) := List.Pairwise.filter _ h
theorem both_mem (a s : List Int) (k : Int) : k ∈ both a s ↔ k ∈ a ∧ k ∈ s := by
  unfold both
  rw [List.mem_filter, decide_eq_true_iff]
theorem look_snoc (L : List Ent) (e : Ent) (y : Str) (h : e.1 ∉ L.map (·.1)) : look (L ++ [e]) y = if y = e.1 then some e.2.2 else look L y := by
  unfold look
  rw [getE_app]
  by_cases z : y = e.1
  · rw [if_pos z, z, getE_none.mpr h, getE_pos rfl]
    rfl
  · rw [if_neg z, getE_neg (fun q => z q.symm), getE_nil]
    cases getE L y <;> rfl
theorem take_keys {L : List Ent} {i : Nat} {e : Ent} (nd : (L.map (·.1)).Nodup) (he : L[i]? = some e) : e.1 ∉ (L.take i).map (·.1) := by
  intro z
  obtain ⟨g, hg, eg⟩ := List.mem_map.mp z
  obtain ⟨j, hj⟩ := List.mem_iff_getElem?.mp hg
  rw [List.getElem?_take] at hj
  split at hj
  · rename_i hji
    have a1 : (L.map (·.1))[j]? = some e.1 := by rw [List.getElem?_map, hj]; exact congrArg some eg
    have a2 : (L.map (·.1))[i]? = some e.1 := by rw [List.getElem?_map, he]; rfl
    have := nd_ix nd a1 a2
    omega
  · cases hj
theorem look_take {L : List Ent} {i : Nat} {e : Ent} (nd : (L.map (·.1)).Nodup) (he : L[i]? = some e) (y : Str) : look (L.take (i + 1)) y = if y = e.1 then some e.2.2 else look (L.take i) y := by
  rw [List.take_add_one, he]
  exact look_snoc (L.take i) e y (take_keys nd he)
structure Sz (L : List Ent) (n : Nat) : Prop where
  srt : ∀ e ∈ L, Srt e.2.2
  len : ∀ e ∈ L, e.2.2.length ≤ n
theorem look_of {L : List Ent} {x : Str} {s : List Int} (h : look L x = some s) : ∃ e ∈ L, e.1 = x ∧ e.2.2 = s := by
  unfold look at h
  obtain ⟨e, he, q⟩ := Option.map_eq_some_iff.mp h
  obtain ⟨a, b⟩ := getE_mem he
  exact ⟨e, a, b, q⟩
/-- what a new box needs when one more side is put -/
theorem Nb.put {H0 H H3 : Hp} {d l : Addr} {M : List Ent} {x : Str} {s : List Int} (N : Nb H0 H d M) (n0 : H0 l = none) (nl : H l = none) (s3 : Same H H3) (el : H3 l = some (.lst (s.map V.int))) (few : M.length + 1 ≤ 40) :
    Nb H0 (upd H3 d (.dK (entK (putE M x l s)))) d (putE M x l s) := by
  have nld : l ≠ d := fun z => by rw [z, N.un] at nl; cases nl
  have sd : ∀ e ∈ putE M x l s, (upd H3 d (.dK (entK (putE M x l s)))) e.2.1 = some (.lst (e.2.2.map V.int)) := fun e he => by
    rcases putE_mem he with z | ⟨z, _⟩
    · rw [z, upd_ne nld]
      exact el
    · have h1 := N.sides e z
      have h2 : e.2.1 ≠ d := fun w => by rw [w, N.un] at h1; cases h1
      rw [upd_ne h2]
      exact s3 _ _ h1
  refine ⟨⟨⟨.inl upd_same, sd, putE_nd N.nd, by have := putE_len M x l s; omega⟩, upd_same⟩, N.fresh, fun e he => ?_, ?_⟩
  · rcases putE_mem he with z | ⟨z, _⟩
    · rw [z]; exact n0
    · exact N.freshS e z
  · have lM : l ∉ M.map (·.2.1) := fun w => by
      obtain ⟨g, hg, eg⟩ := List.mem_map.mp w
      have eg' : g.2.1 = l := eg
      have h1 := N.sides g hg
      rw [eg', nl] at h1
      cases h1
    unfold putE
    split
    · rw [List.map_map]
      have key : ∀ L : List Ent, (L.map (·.1)).Nodup → (L.map (·.2.1)).Nodup → l ∉ L.map (·.2.1) → (L.map ((fun e : Ent => e.2.1) ∘ fun e => if e.1 = x then (x, l, s) else e)).Nodup ∧ ∀ q ∈ L.map ((fun e : Ent => e.2.1) ∘ fun e => if e.1 = x then (x, l, s) else e), q ∈ L.map (·.2.1) ∨ (q = l ∧ x ∈ L.map (·.1)) := by
        intro L
        induction L with
        | nil => intro _ _ _; exact ⟨List.Pairwise.nil, fun q hq => by cases hq⟩
        | cons e L ih =>
          intro n1 n2 n3
          rw [List.map_cons, List.nodup_cons] at n1 n2
          rw [List.map_cons, List.mem_cons, not_or] at n3
          obtain ⟨i1, i2⟩ := ih n1.2 n2.2 n3.2
          rw [List.map_cons, List.nodup_cons]
          by_cases c : e.1 = x
          · have ef : ((fun e : Ent => e.2.1) ∘ fun e => if e.1 = x then (x, l, s) else e) e = l := by simp [c]
            rw [ef]
            refine ⟨⟨fun w => ?_, i1⟩, fun q hq => ?_⟩
            · rcases i2 l w with z | ⟨_, z⟩
              · exact n3.2 z
              · exact n1.1 (c ▸ z)
            · rcases List.mem_cons.mp hq with z | z
              · exact .inr ⟨z, by rw [List.map_cons, c]; exact List.mem_cons_self⟩
              · rcases i2 q z with y | ⟨y1, y2⟩
                · exact .inl (List.mem_cons_of_mem _ y)
                · exact .inr ⟨y1, List.mem_cons_of_mem _ y2⟩
          · have ef : ((fun e : Ent => e.2.1) ∘ fun e => if e.1 = x then (x, l, s) else e) e = e.2.1 := by simp [c]
            rw [ef]
            refine ⟨⟨fun w => ?_, i1⟩, fun q hq => ?_⟩
            · rcases i2 _ w with z | ⟨z, _⟩
              · exact n2.1 z
              · exact n3.1 z.symm
            · rcases List.mem_cons.mp hq with z | z
              · exact .inl (by rw [z]; exact List.mem_cons_self)
              · rcases i2 q z with y | ⟨y1, y2⟩
                · exact .inl (List.mem_cons_of_mem _ y)
                · exact .inr ⟨y1, List.mem_cons_of_mem _ y2⟩
      exact (key M N.nd N.inj lM).1
    · rw [List.map_append]
      exact nd_snoc N.inj lM
theorem Same.unl {H H' : Hp} {d : Addr} {u : HO} {od : Obj} (h : H d = some u) (s : Same (upd H d (.frz od u)) H') : Same H (upd H' d u) := unlock h s
/-- a new box behind a lock elsewhere -/
theorem Nb.unl {H0 H' : Hp} {b d : Addr} {u : HO} {M : List Ent} {od : Obj} (N : Nb H0 H' d M) (hb : H0 b = some u) (eF : H' b = some (.frz od u)) : Nb H0 (upd H' b u) d M := by
  have db : d ≠ b := fun z => by have := N.un; rw [z, eF] at this; cases this
  have away : ∀ g ∈ M, g.2.1 ≠ b := fun g hg z => by have := N.sides g hg; rw [z, eF] at this; cases this
  exact ⟨⟨⟨.inl (by rw [upd_ne db]; exact N.un), fun g hg => by rw [upd_ne (away g hg)]; exact N.sides g hg, N.nd, N.few⟩, by rw [upd_ne db]; exact N.un⟩, N.fresh, N.freshS, N.inj⟩
theorem Nb.lck {H0 H : Hp} {b d : Addr} {u : HO} {M : List Ent} {od : Obj} (N : Nb H0 H d M) (hb : H0 b ≠ none) : Nb H0 (upd H b (.frz od u)) d M := by
  have db : d ≠ b := fun z => hb (z ▸ N.fresh)
  have away : ∀ g ∈ M, g.2.1 ≠ b := fun g hg z => hb (z ▸ N.freshS g hg)
  exact ⟨⟨⟨.inl (by rw [upd_ne db]; exact N.un), fun g hg => by rw [upd_ne (away g hg)]; exact N.sides g hg, N.nd, N.few⟩, by rw [upd_ne db]; exact N.un⟩, N.fresh, N.freshS, N.inj⟩
section
variable {P : Program} {w : World} {K : PySem.W.Frag} {mg : Str → Option Value} {base : Heap}
end
theorem ne_some' {H : Hp} {p q : Addr} {o : HO} (h : H p = some o) (n : H q = none) : p ≠ q := fun e => by rw [e, n] at h; cases h
section
variable {P : Program} {w : World} {K : PySem.W.Frag} {mg : Str → Option Value} {base : Heap}
/-! ### the pool, a part of it -/
abbrev sPool : Stmt := topS 11
abbrev nPool : List Str := ["_law_stream_here", "_law_count", "_law_pool_here", "_law_k", "_law_scale", "_law_value"]
abbrev nPart : List Str := ["_law_stream_here", "_law_side", "_law_value"]
theorem scPool : FnScope nPool ["_law_stream_here", "_law_count"] (defScope sPool) := ⟨rfl, rfl, rfl, by decide +kernel, rfl, by decide +kernel, by decide +kernel⟩
theorem srt_snoc {ss : List Int} {v : Int} (s : Srt ss) (h : ∀ k ∈ ss, k < v) : Srt (ss ++ [v]) :=
  List.pairwise_append.mpr ⟨s, List.pairwise_singleton _ _, fun a ha b hb => by rw [List.mem_singleton.mp hb]; exact h a ha⟩
def spPool : Sp := fun vs H Q _ => ∃ (p : Addr) (m : Nat), vs = [.ref p, .int (m : Int)] ∧ Strm H p ∧ 1 ≤ m ∧ m ≤ 100 ∧
  ∀ (H' : Hp) (l : Addr) (ns : List Int), Keep p H H' → H l = none → Strm H' p → H' l = some (.lst (ns.map V.int)) → Srt ns → ns.length = m → Q (.ref l) H'
theorem ok_pool {f fD : Addr} {fd fdD : FuncData} (F : Fun K "_law_pool" "_law_pool" sPool f fd) (B : Bt mg) (D : Call P w K mg base 1 "_law_next" fD fdD ["_law_stream_here", "_law_size"] spDraw) :
    FnOk P w K mg base CX0 2 f fd ["_law_stream_here", "_law_count"] spPool := by
  refine F.ok scPool (fun vs H Q E h => ?_) (fun cdv A outer s H vs Q E hr h => ?_)
  · obtain ⟨p, m, rfl, _⟩ := h
    rfl
  · obtain ⟨p, m, rfl, hp, m0, m1, q⟩ := h
    have nd := scPool.nd
    refine ⟨_, pss_cons (ps_set (i := 2) nd rfl (.inl rfl) (pe_lst (pa_cons (pe_op op_sub (pe_call D.ok hr (by rfl) D.at_ D.kp D.bd .nil pass0 (pa_cons (pv 0) (pa_cons pe_int pa_nil))) pe_int) pa_nil)))
      (pss_cons (ps_for PassesOwn.never rfl (pi_range1 (by rfl) B.range (pa_cons (pe_op op_sub (pv 1) pe_int) pa_nil)) (pg_name (i := 3) nd rfl (.inl rfl))
        (pss_one (ps_expr (pe_bm PySem.F.plainAttrs_list PySem.F.slot_list_append PySem.F.type_list_append mt_append (pv 2) (pa_cons
          (pe_op op_add (pe_op op_add (pe_ix ix_list (pv 2) (pv 3) (fun _ _ => rfl)) pe_int) (pe_op op_mul pe_int (pe_op op_fdiv (pe_call D.ok hr (by rfl) D.at_ D.kp D.bd .nil pass0 (pa_cons (pv 0) (pa_cons pe_int pa_nil))) pe_int))) pa_nil)))))
      (pss_cons (ps_set (i := 4) nd rfl (.inr rfl) (pe_ix ix_list (pe_lst (pa_cons pe_int (pa_cons pe_int (pa_cons pe_int (pa_cons pe_int (pa_cons pe_int (pa_cons pe_int (pa_cons pe_int (pa_cons (pe_op op_pow pe_int pe_int) pa_nil)))))))))
          (pe_call D.ok hr (by rfl) D.at_ D.kp D.bd .nil pass0 (pa_cons (pv 0) (pa_cons pe_int pa_nil))) (fun _ _ => rfl)))
      (pss_one (ps_ret (pe_lc (own := [("_law_value", 5)]) (g := gName 5) (tt := tYes) rfl nd (pi_list (pv 2)) (blkOk_by (N := nPool) (sc := defScope sPool) (by decide +kernel)) (fun _ _ _ _ _ => pg_name (i := 5) nd rfl (Or.inl rfl)) (fun _ _ _ _ _ => pts_nil)
        (fun _ _ _ _ _ => pe_op op_mul (pv 5) (pv 4))))))), ?_⟩
    refine ⟨.ref p, rfl, p, 9, rfl, hp, by decide, by decide, fun H1 d o1 st1 d0 d1 => ⟨d, 4, rfl, rfl, by show 1 ≤ sizeLine; decide, fun l nl1 => ?_⟩⟩
    have npl : p ≠ l := fun z => st1.some (z ▸ nl1)
    have nl : H l = none := by rw [← o1 l npl.symm]; exact nl1
    refine ⟨.int (m : Int), rfl, (m : Int), 1, rfl, rfl, (m : Int) - 1, rfl, by omega, by omega, for_range (lo := 0) (n := ((m : Int) - 1).toNat) (fun i σ H' => ∃ (y3 : Option V) (ns : List Int), σ = [some (.ref p), some (.int (m : Int)), some (.ref l), y3, none, none] ∧ Keep p H H' ∧ Strm H' p ∧ H' l = some (.lst (ns.map V.int)) ∧ Srt ns ∧ ns.length = i + 1 ∧ ∃ z, ns = ns.take i ++ [z])
      ⟨none, [d - 4], rfl, ((Keep.refl p H).oth o1).at_ nl, st1.upd npl, upd_same, List.pairwise_singleton _ _, rfl, d - 4, rfl⟩ ?_ ?_⟩
    · rintro i σ H' hi ⟨y3, ns, rfl, kp, st, el, so, len, z, ez⟩
      have gz : (ns.map V.int)[i]? = some (.int z) := by
        rw [ez, List.map_append, List.getElem?_append_right (by rw [List.length_map, List.length_take]; omega)]
        rw [List.length_map, List.length_take, show i - min i ns.length = 0 by omega]
        rfl
      refine ⟨.ref l, rfl, .inl ⟨rfl, _, sl_map el⟩, .ref l, rfl, .int (0 + (i : Int)), rfl, l, _, _, _, rfl, rfl, sl_map el, at_of (by omega) gz, z, 1, rfl, rfl, .ref p, rfl, p, 4, rfl, st, by decide, by decide, fun H2 e o2 st2 e0 e1 => ?_⟩
      refine ⟨e, 3, rfl, rfl, ⟨by decide, by decide⟩, 2, e / 3, rfl, rfl, .inl ⟨by decide, by decide⟩, z + 1, 2 * (e / 3), rfl, rfl, l, _, _, rfl, rfl, (o2 l npl.symm).trans el, ?_, ?_⟩
      · rw [List.length_map]
        exact small1000 (by omega)
      · have e3 : 0 ≤ e / 3 := Int.ediv_nonneg e0 (by decide)
        refine ⟨_, ns ++ [z + 1 + 2 * (e / 3)], rfl, (kp.oth o2).at_ nl, st2.upd npl, by rw [upd_same, List.map_append]; rfl, srt_snoc so fun k hk => ?_, by rw [List.length_append, len]; rfl, z + 1 + 2 * (e / 3), ?_⟩
        · rw [ez] at hk so
          rcases List.mem_append.mp hk with h | h
          · have := (List.pairwise_append.mp so).2.2 k h z (List.mem_singleton.mpr rfl)
            omega
          · have := List.mem_singleton.mp h
            omega
        · rw [List.take_append_of_le_length (by omega), List.take_of_length_le (by omega)]
    · rintro σ H' ⟨y3, ns, rfl, kp, st, el, so, len, z, ez⟩
      refine ⟨10, 9, rfl, rfl, ⟨by decide, by decide, by decide⟩, by show 8 ≤ sizeLine; decide, fun t nt => ?_⟩
      have npt : p ≠ t := fun e => st.some (e ▸ nt)
      have nlt : l ≠ t := ne_some' el nt
      refine ⟨.ref p, rfl, p, 8, rfl, st.upd npt, by decide, by decide, fun H2 e o2 st2 e0 e1 => ?_⟩
      have et : H2 t = some (.lst [V.int 1, V.int 1, V.int 1, V.int 1, V.int 1, V.int 1, V.int 7, V.int (10 ^ (9 : Int).toNat)]) := (o2 t npt.symm).trans upd_same
      obtain ⟨sc, hsc, sc0, sc1⟩ : ∃ sc : Int, atI [V.int 1, V.int 1, V.int 1, V.int 1, V.int 1, V.int 1, V.int 7, V.int (10 ^ (9 : Int).toNat)] e = some (.int sc) ∧ 0 < sc ∧ sc < 2 ^ 64 := by
        have : e = 0 ∨ e = 1 ∨ e = 2 ∨ e = 3 ∨ e = 4 ∨ e = 5 ∨ e = 6 ∨ e = 7 := by omega
        rcases this with h | h | h | h | h | h | h | h
        · exact ⟨_, by rw [h]; exact atI_nat (j := 0) rfl, by decide, by decide⟩
        · exact ⟨_, by rw [h]; exact atI_nat (j := 1) rfl, by decide, by decide⟩
        · exact ⟨_, by rw [h]; exact atI_nat (j := 2) rfl, by decide, by decide⟩
        · exact ⟨_, by rw [h]; exact atI_nat (j := 3) rfl, by decide, by decide⟩
        · exact ⟨_, by rw [h]; exact atI_nat (j := 4) rfl, by decide, by decide⟩
        · exact ⟨_, by rw [h]; exact atI_nat (j := 5) rfl, by decide, by decide⟩
        · exact ⟨_, by rw [h]; exact atI_nat (j := 6) rfl, by decide, by decide⟩
        · exact ⟨_, by rw [h]; exact atI_nat (j := 7) rfl, by decide, by decide⟩
      refine ⟨t, _, e, .int sc, rfl, rfl, sl_map et, hsc, ?_⟩
      have el2 : H2 l = some (.lst (ns.map V.int)) := by rw [o2 l npl.symm, upd_ne nlt]; exact el
      have kp2 : Keep p H H2 := (kp.at_ (kp.free st nt)).oth o2
      refine ⟨.ref l, rfl, l, rfl, ⟨_, sl_map el2⟩, fun R nR => lc_list (xs := ns.map V.int) (fun i H3 => Same H2 H3 ∧ H3 R = some (.lst (((ns.take i).map (· * sc)).map V.int))) ⟨same_new nR, upd_same⟩ (fun i H3 _ h => h.1.seq (sl_map el2)) ?_ ?_⟩
      · rintro i x H3 hx ⟨sm, eR⟩
        rw [List.getElem?_map] at hx
        obtain ⟨v, hv, rfl⟩ := Option.map_eq_some_iff.mp hx
        have hi := (List.getElem?_eq_some_iff.mp hv).1
        refine ⟨rfl, .int v, rfl, .int sc, rfl, v, sc, rfl, rfl, .inr ⟨by omega, by omega⟩, _, eR, ?_, same_at sm nR, ?_⟩
        · rw [List.length_map, List.length_map, List.length_take]
          exact small1000 (by omega)
        · rw [upd_same, List.take_add_one, hv, List.map_append, List.map_append]
          rfl
      · rintro H3 ⟨sm, eR⟩
        rw [List.length_map, List.take_length] at eR
        refine q H3 R _ (fun b u hb e => sm _ _ (kp2 b u hb e)) (kp2.free st2 nR) (st2.keep (Keep.same (p := R) sm) (fun z => st2.some (z ▸ nR))) eR ?_ ?_
        · unfold Srt
          rw [List.pairwise_map]
          exact so.imp fun h => Int.mul_lt_mul_of_pos_right h sc0
        · rw [List.length_map]
          omega
def spPart (K : PySem.W.Frag) : Sp := fun vs H Q _ => ∃ (p a : Addr) (ns : List Int), vs = [.ref p, .ref a] ∧ Strm H p ∧ H a = some (.lst (ns.map V.int)) ∧ p ≠ a ∧ ns.length ≤ 1000 ∧
  ∀ (H' : Hp) (l : Addr) (ms : List Int), Keep p H H' → H l = none → Strm H' p → H' l = some (.lst (ms.map V.int)) → ms.Sublist ns → Q (.ref l) H'
end
/-! ### names -/
def plainN : List Str := ["x", "yard", "z", "u", "wide_one", "q", "pp", "t"]
def lettersN : Str := "qwertyuiopasdfghjklzxcvbnm_zyx"
def digitsN : Str := "7305186429"
theorem plain_nodup : ((List.range 8).all fun s => decide (((List.range 8).map fun k => plainN.getD ((k * 3 + s) % 8) "x").Nodup)) = true := by decide +kernel
def isDig (c : Nat) : Bool := decide (48 ≤ c) && decide (c ≤ 57)
def mark (z : Str) : Option Nat := z.cps.toList.find? isDig
theorem letters_none : (lettersN.cps.toList.all fun c => !isDig c) = true := by decide +kernel
theorem digits_are : (digitsN.cps.toList.all isDig) = true := by decide +kernel
theorem digits_nodup : digitsN.cps.toList.Nodup := by decide +kernel
theorem digits_len : digitsN.cps.toList.length = 10 := by decide +kernel
theorem letters_len : lettersN.length = 30 := by decide +kernel
theorem cut_letters (lo hi : Option Int) : ∀ c ∈ (cutS lettersN lo hi).cps.toList, isDig c = false := fun c hc => by
  have h1 : c ∈ lettersN.cps.toList := by
    have : (cutS lettersN lo hi).cps.toList = (lettersN.cps.toList.drop (HT.sIx lettersN.length 0 lo)).take (HT.sIx lettersN.length lettersN.length hi - HT.sIx lettersN.length 0 lo) := by
      unfold cutS
      simp
    rw [this] at hc
    exact List.mem_of_mem_drop (List.mem_of_mem_take hc)
  have := List.all_eq_true.mp letters_none c h1
  simpa using this
theorem cut_len (lo hi : Option Int) : (cutS lettersN lo hi).length ≤ 30 := by
  have h : (cutS lettersN lo hi).cps.toList.length ≤ 30 := by
    unfold cutS
    simp only [List.toList_toArray]
    have l : lettersN.cps.toList.length = 30 := letters_len
    rw [List.length_take, List.length_drop]
    omega
  exact h
theorem mark_of (x t : Str) (c : Nat) (hx : ∀ d ∈ x.cps.toList, isDig d = false) (hc : isDig c = true) : mark (x ++ ⟨#[c]⟩ ++ t) = some c := by
  unfold mark
  have e : (x ++ ⟨#[c]⟩ ++ t).cps.toList = x.cps.toList ++ [c] ++ t.cps.toList := by
    show ((x.cps ++ #[c]) ++ t.cps).toList = _
    simp
  rw [e, List.append_assoc, List.find?_append]
  have : x.cps.toList.find? isDig = none := List.find?_eq_none.mpr fun d hd => by rw [hx d hd]; simp
  rw [this]
  show (([c] ++ t.cps.toList).find? isDig) = some c
  simp [hc]
theorem ok_of {x : Str} (h : ∀ c ∈ x.cps.toList, c < 0x110000) : PyData.strOk x = true := by
  unfold PyData.strOk
  rw [← Array.all_toList]
  exact List.all_eq_true.mpr fun c hc => decide_eq_true (h c hc)
theorem plain_ok : (plainN.all fun x => PyData.strOk x) = true := by decide +kernel
theorem letters_low : (lettersN.cps.toList.all fun c => decide (c < 0x110000)) = true := by decide +kernel
theorem digits_low : (digitsN.cps.toList.all fun c => decide (c < 0x110000)) = true := by decide +kernel
theorem cut_low (lo hi : Option Int) : ∀ c ∈ (cutS lettersN lo hi).cps.toList, c < 0x110000 := fun c hc => by
  have h1 : c ∈ lettersN.cps.toList := by
    have : (cutS lettersN lo hi).cps.toList = (lettersN.cps.toList.drop (HT.sIx lettersN.length 0 lo)).take (HT.sIx lettersN.length lettersN.length hi - HT.sIx lettersN.length 0 lo) := by
      unfold cutS
      simp
    rw [this] at hc
    exact List.mem_of_mem_drop (List.mem_of_mem_take hc)
  exact of_decide_eq_true (List.all_eq_true.mp letters_low c h1)
theorem name_ok (lo hi lo2 hi2 : Option Int) (c : Nat) (hc : c ∈ digitsN.cps.toList) : PyData.strOk (cutS lettersN lo hi ++ ⟨#[c]⟩ ++ cutS lettersN lo2 hi2) = true := ok_of fun d hd => by
  have e : (cutS lettersN lo hi ++ ⟨#[c]⟩ ++ cutS lettersN lo2 hi2).cps.toList = (cutS lettersN lo hi).cps.toList ++ [c] ++ (cutS lettersN lo2 hi2).cps.toList := by
    show (((cutS lettersN lo hi).cps ++ #[c]) ++ (cutS lettersN lo2 hi2).cps).toList = _
    simp
  rw [e] at hd
  rcases List.mem_append.mp hd with h | h
  · rcases List.mem_append.mp h with h | h
    · exact cut_low lo hi d h
    · rw [List.mem_singleton.mp h]
      exact of_decide_eq_true (List.all_eq_true.mp digits_low c hc)
  · exact cut_low lo2 hi2 d h
theorem str_one (c : Nat) : (⟨#[c]⟩ : Str).length = 1 := rfl
theorem len_app (x y : Str) : (x ++ y).length = x.length + y.length := by
  show (x.cps ++ y.cps).size = _
  exact Array.size_append
section
variable {P : Program} {w : World} {K : PySem.W.Frag} {mg : Str → Option Value} {base : Heap}
abbrev sNames : Stmt := topS 10
abbrev nNames : List Str := ["_law_stream_here", "_law_count", "_law_shift", "_law_plain", "_law_k", "_law_letters", "_law_names_here", "_law_at", "_law_size", "_law_tail"]
theorem scNames : FnScope nNames ["_law_stream_here", "_law_count"] (defScope sNames) := ⟨rfl, rfl, rfl, by decide +kernel, rfl, by decide +kernel, by decide +kernel⟩
def spNames : Sp := fun vs H Q _ => ∃ (p : Addr) (m : Nat), vs = [.ref p, .int (m : Int)] ∧ Strm H p ∧ m ≤ 8 ∧
  ∀ (H' : Hp) (l : Addr) (xs : List Str), Keep p H H' → H l = none → Strm H' p → H' l = some (.lst (xs.map V.str)) → xs.Nodup → xs.length = m → (∀ x ∈ xs, PyData.strOk x = true) → Q (.ref l) H'
theorem ok_names {f fD : Addr} {fd fdD : FuncData} (F : Fun K "_law_names" "_law_names" sNames f fd) (B : Bt mg) (D : Call P w K mg base 1 "_law_next" fD fdD ["_law_stream_here", "_law_size"] spDraw) :
    FnOk P w K mg base CX0 2 f fd ["_law_stream_here", "_law_count"] spNames := by
  refine F.ok scNames (fun vs H Q E h => ?_) (fun cdv A outer s H vs Q E hr h => ?_)
  · obtain ⟨p, m, rfl, _⟩ := h
    rfl
  · obtain ⟨p, m, rfl, hp, m8, q⟩ := h
    have nd := scNames.nd
    refine ⟨_, pss_cons (ps_if (pt_cmpR op_eq (pe_call D.ok hr (by rfl) D.at_ D.kp D.bd .nil pass0 (pa_cons (pv 0) (pa_cons pe_int pa_nil))) pe_int (nomark _))
        (pss_cons (ps_set (i := 2) nd rfl (.inr rfl) (pe_call D.ok hr (by rfl) D.at_ D.kp D.bd .nil pass0 (pa_cons (pv 0) (pa_cons pe_int pa_nil))))
        (pss_cons (ps_set (i := 3) nd rfl (.inr rfl) (pe_lst (pa_cons pe_str (pa_cons pe_str (pa_cons pe_str (pa_cons pe_str (pa_cons pe_str (pa_cons pe_str (pa_cons pe_str (pa_cons pe_str pa_nil))))))))))
        (pss_one (ps_ret (pe_lc (own := [("_law_k", 4)]) (g := gName 4) (tt := tYes) rfl nd (pi_range1 (by rfl) B.range (pa_cons (pv 1) pa_nil)) (blkOk_by (N := nNames) (sc := defScope sNames) (by decide +kernel)) (fun _ _ _ _ _ => pg_name (i := 4) nd rfl (Or.inl rfl)) (fun _ _ _ _ _ => pts_nil)
          (fun _ _ _ _ _ => pe_ix (r := rIxL K) ix_list (pv 3) (pe_op op_mod (pe_callTy call_int1 (by rfl) B.int PyProof.Rows.boot_int (pa_cons (pe_op op_add (pe_op op_mul (pv 4) pe_int) (pv 2)) pa_nil)) pe_int) (fun _ _ => rfl))))))) pss_nil)
      (pss_cons (ps_set (i := 5) nd rfl (.inl rfl) pe_str)
      (pss_cons (ps_set (i := 6) nd rfl (.inl rfl) (pe_lst pa_nil))
      (pss_cons (ps_for PassesOwn.never rfl (pi_range1 (by rfl) B.range (pa_cons (pv 1) pa_nil)) (pg_name (i := 4) nd rfl (.inl rfl))
        (pss_cons (ps_set (i := 7) nd rfl (.inl rfl) (pe_call D.ok hr (by rfl) D.at_ D.kp D.bd .nil pass0 (pa_cons (pv 0) (pa_cons pe_int pa_nil))))
        (pss_cons (ps_set (i := 8) nd rfl (.inl rfl) (pe_op op_add pe_int (pe_call D.ok hr (by rfl) D.at_ D.kp D.bd .nil pass0 (pa_cons (pv 0) (pa_cons pe_int pa_nil)))))
        (pss_cons (ps_set (i := 9) nd rfl (.inl rfl) (pe_slice sl_str (pv 5) (po_some (pe_op op_sub pe_int (pe_call D.ok hr (by rfl) D.at_ D.kp D.bd .nil pass0 (pa_cons (pv 0) (pa_cons pe_int pa_nil))))) (po_some pe_int)))
        (pss_one (ps_expr (pe_bm PySem.F.plainAttrs_list PySem.F.slot_list_append PySem.F.type_list_append mt_append (pv 6) (pa_cons
          (pe_op op_add_str (pe_op op_add_str (pe_slice sl_str (pv 5) (po_some (pv 7)) (po_some (pe_op op_add (pv 7) (pv 8)))) (pe_ix ix_str pe_str (pv 4) (fun _ _ => rfl))) (pv 9)) pa_nil))))))))
      (pss_one (ps_ret (pv 6)))))), ?_⟩
    refine ⟨.ref p, rfl, p, 3, rfl, hp, by decide, by decide, fun H1 d o1 st1 d0 d1 => ⟨rfl, _, rfl, ite2 (fun c => ?_) (fun c => ?_)⟩⟩
    · -- the plain names
      refine ⟨.ref p, rfl, p, 8, rfl, st1, by decide, by decide, fun H2 s o2 st2 s0 s1 => ?_⟩
      refine ⟨by show 8 ≤ sizeLine; decide, fun pl npl => ?_⟩
      have npp : p ≠ pl := fun z => st2.some (z ▸ npl)
      have epl : (upd H2 pl (.lst (plainN.map V.str))) pl = some (.lst (plainN.map V.str)) := upd_same
      refine ⟨.int (m : Int), rfl, (m : Int), rfl, by omega, by omega, fun R nR => ?_⟩
      have fin : ∀ k : Nat, k < m → (plainN.map V.str)[(k * 3 + s.toNat) % 8]? = some (.str (plainN.getD ((k * 3 + s.toNat) % 8) "x")) := fun k hk => by
        have : (k * 3 + s.toNat) % 8 < plainN.length := Nat.mod_lt _ (by decide)
        rw [List.getElem?_map, List.getD_eq_getElem?_getD, List.getElem?_eq_getElem this]
        rfl
      refine lc_range (lo := 0) (fun i H' => Same (upd H2 pl (.lst (plainN.map V.str))) H' ∧ H' R = some (.lst (((List.range i).map fun k => plainN.getD ((k * 3 + s.toNat) % 8) "x").map V.str))) ⟨same_new nR, upd_same⟩ ?_ ?_
      · rintro i H' hi ⟨sm, eR⟩
        have hi' : i < m := by omega
        refine ⟨rfl, .ref pl, rfl, .int (0 + (i : Int)), rfl, 0 + (i : Int), 3, rfl, rfl, .inr ⟨by decide, by decide⟩, .int s, rfl, (0 + (i : Int)) * 3, s, rfl, rfl, .inl ⟨_, rfl, (0 + (i : Int)) * 3 + s, 8, rfl, rfl, ?_, ?_⟩⟩
        · show (0 : Int) < 8
          decide
        · refine ⟨pl, _, _, _, rfl, rfl, sl_map (sm _ _ epl), at_of (j := (i * 3 + s.toNat) % 8) (by omega) (fin i hi'), _, eR, ?_, same_at sm nR, ?_⟩
          · rw [List.length_map, List.length_map, List.length_range]
            exact small1000 (by omega)
          · rw [upd_same, List.range_succ, List.map_append, List.map_append]
            rfl
      · rintro H' ⟨sm, eR⟩
        have smH : Keep p H2 H' := fun b u hb e => sm _ _ (by rw [upd_ne (ne_of_none e npl)]; exact e)
        have nR2 : H2 R = none := (same_new npl).free nR
        have st' : Strm H' p := by
          obtain ⟨x, y, z, e⟩ := st2
          exact ⟨x, y, z, sm _ _ (by rw [upd_ne npp]; exact e)⟩
        refine q H' R _ ((((Keep.refl p H).oth o1).oth o2).trans smH) ((((Keep.refl p H).oth o1).oth o2).free st2 nR2) st' eR ?_ ?_ ?_
        · have h8 := List.all_eq_true.mp plain_nodup s.toNat (List.mem_range.mpr (by omega))
          have h9 := of_decide_eq_true h8
          have e8 : (List.range (m : Int).toNat) = (List.range 8).take m := by
            rw [List.take_range, show min m 8 = (m : Int).toNat by omega]
          rw [e8, List.map_take]
          exact List.Pairwise.sublist (List.take_sublist _ _) h9
        · rw [List.length_map, List.length_range]
          omega
        · intro x hx
          obtain ⟨k, _, rfl⟩ := List.mem_map.mp hx
          have lt : (k * 3 + s.toNat) % 8 < plainN.length := Nat.mod_lt _ (by decide)
          rw [List.getD_eq_getElem?_getD, List.getElem?_eq_getElem lt]
          exact List.all_eq_true.mp plain_ok _ (List.getElem_mem lt)
    · -- letters, a digit, letters
      refine ⟨Nat.zero_le _, fun l nl1 => ?_⟩
      have npl : p ≠ l := fun z => st1.some (z ▸ nl1)
      have nl : H l = none := by rw [← o1 l npl.symm]; exact nl1
      refine ⟨.int (m : Int), rfl, (m : Int), rfl, by omega, by omega, for_range (lo := 0) (n := ((m : Int)).toNat) (fun i σ H' => ∃ (y4 y7 y8 y9 : Option V) (xs : List Str), σ = [some (.ref p), some (.int (m : Int)), none, none, y4, some (.str lettersN), some (.ref l), y7, y8, y9] ∧ Keep p H H' ∧ Strm H' p ∧ H' l = some (.lst (xs.map V.str)) ∧ xs.length = i ∧ (∀ x ∈ xs, PyData.strOk x = true) ∧ ∀ j x, xs[j]? = some x → mark x = digitsN.cps.toList[j]?)
        ⟨none, none, none, none, [], rfl, ((Keep.refl p H).oth o1).at_ nl, st1.upd npl, upd_same, rfl, (fun _ h => nomatch h), fun j x h => absurd ((List.getElem?_nil (α := Str) (i := j)).symm.trans h) (by simp)⟩ ?_ ?_⟩
      · rintro i σ H' hi ⟨y4, y7, y8, y9, xs, rfl, kp, st, el, len, sok, mk⟩
        have hi' : i < m := by omega
        refine ⟨.ref p, rfl, p, 26, rfl, st, by decide, by decide, fun H2 a o2 st2 a0 a1 => ?_⟩
        refine ⟨.ref p, rfl, p, 3, rfl, st2, by decide, by decide, fun H3 b o3 st3 b0 b1 => ⟨1, b, rfl, rfl, ?_⟩⟩
        refine ⟨_, rfl, .ref p, rfl, p, 3, rfl, st3, by decide, by decide, fun H4 t o4 st4 t0 t1 => ⟨26, t, rfl, rfl, _, rfl, 26, rfl, lettersN, rfl, by decide +kernel, ?_⟩⟩
        have el4 : H4 l = some (.lst (xs.map V.str)) := by rw [o4 l npl.symm, o3 l npl.symm, o2 l npl.symm]; exact el
        have hd : i < digitsN.cps.toList.length := by rw [digits_len]; omega
        have gd : digitsN.cps.toList[i]? = some digitsN.cps.toList[i] := List.getElem?_eq_getElem hd
        refine ⟨.ref l, rfl, .inl ⟨rfl, _, sl_map el4⟩, _, rfl, .int a, rfl, a, rfl, .int a, rfl, _, rfl, a, _, rfl, rfl, _, rfl, lettersN, rfl, by decide +kernel, .int (0 + (i : Int)), rfl, digitsN, _, digitsN.cps.toList[i], rfl, rfl, by decide +kernel, (by rw [show (0 : Int) + (i : Int) = ((i : Nat) : Int) by omega]; exact atI_nat gd), _, _, rfl, rfl, ?_, _, rfl, _, _, rfl, rfl, ?_, l, _, _, rfl, rfl, el4, ?_, ?_⟩
        · exact by have := cut_len (some a) (some (a + (1 + b))); rw [str_one]; exact Nat.le_trans (Nat.add_le_add_right this 1) (by decide)
        · exact by have := cut_len (some a) (some (a + (1 + b))); have h2 := cut_len (some (26 - t)) (some 26); rw [len_app, str_one]; exact Nat.le_trans (Nat.add_le_add (Nat.add_le_add_right this 1) h2) (by decide)
        · rw [List.length_map]
          exact small1000 (by omega)
        · have dg : isDig digitsN.cps.toList[i] = true := List.all_eq_true.mp digits_are _ (List.getElem_mem hd)
          refine ⟨_, _, _, _, xs ++ [cutS lettersN (some a) (some (a + (1 + b))) ++ ⟨#[digitsN.cps.toList[i]]⟩ ++ cutS lettersN (some (26 - t)) (some 26)], rfl, (((kp.oth o2).oth o3).oth o4).at_ nl, st4.upd npl, ?_, ?_, ?_, ?_⟩
          · rw [upd_same, List.map_append]
            rfl
          · rw [List.length_append, len]
            rfl
          · intro x hx
            rcases List.mem_append.mp hx with h | h
            · exact sok x h
            · rw [List.mem_singleton.mp h]
              exact name_ok _ _ _ _ _ (List.getElem_mem hd)
          · intro j x hj
            rcases Nat.lt_or_ge j i with c | c
            · rw [List.getElem?_append_left (by omega)] at hj
              exact mk j x hj
            · rw [List.getElem?_append_right (by omega)] at hj
              have ej : j = i := by
                have := (List.getElem?_eq_some_iff.mp hj).1
                rw [List.length_singleton] at this
                omega
              subst ej
              rw [show j - xs.length = 0 by omega] at hj
              have : _ = x := Option.some.inj hj
              rw [← this, gd]
              exact mark_of _ _ _ (cut_letters _ _) dg
      · rintro σ H' ⟨y4, y7, y8, y9, xs, rfl, kp, st, el, len, sok, mk⟩
        refine ⟨_, rfl, q H' l xs kp nl st el ?_ (by omega) sok⟩
        refine List.pairwise_iff_getElem.mpr fun j k hj hk hjk he => ?_
        have e1 := mk j _ (List.getElem?_eq_getElem hj)
        have e2 := mk k _ (List.getElem?_eq_getElem hk)
        rw [he] at e1
        have hk' : k < digitsN.cps.toList.length := by rw [digits_len]; omega
        have hj' : j < digitsN.cps.toList.length := by rw [digits_len]; omega
        have e3 := e1.symm.trans e2
        rw [List.getElem?_eq_getElem hj', List.getElem?_eq_getElem hk'] at e3
        exact List.pairwise_iff_getElem.mp digits_nodup j k hj' hk' hjk (Option.some.inj e3)
end
section
variable {P : Program} {w : World} {K : PySem.W.Frag} {mg : Str → Option Value} {base : Heap}
/-! ### a copy, by a loop -/
abbrev sCopied : Stmt := topS 19
abbrev nCopied : List Str := ["_law_sides_here", "_law_copied_here", "_law_name"]
theorem scCopied : FnScope nCopied ["_law_sides_here"] (defScope sCopied) := ⟨rfl, rfl, rfl, by decide +kernel, rfl, by decide +kernel, by decide +kernel⟩
theorem Nb.nil {H H' : Hp} {D : Addr} (n : H D = none) (h : H' D = some (.dK [])) : Nb H H' D [] := ⟨⟨⟨.inl h, (fun _ he => nomatch he), .nil, Nat.zero_le _⟩, h⟩, n, (fun _ he => nomatch he), .nil⟩
theorem shape_len {L M : List Ent} (h : shape L = shape M) : L.length = M.length := by have := congrArg List.length h; simpa [shape] using this
theorem shape_take {L M : List Ent} {i : Nat} {e : Ent} {l : Addr} (h : shape M = shape (L.take i)) (he : L[i]? = some e) : shape (M ++ [(e.1, l, e.2.2)]) = shape (L.take (i + 1)) := by
  rw [List.take_add_one, he]
  unfold shape at h ⊢
  rw [List.map_append, List.map_append, h]
  rfl
theorem ok_copied {f : Addr} {fd : FuncData} {k : Nat} (F : Fun K "_law_copied" "_law_copied" sCopied f fd) (B : Bt mg) : FnOk P w K mg base CX0 (k + 1) f fd ["_law_sides_here"] spCopy := by
  refine F.ok scCopied (fun vs H Q E h => ?_) (fun cdv A outer s H vs Q E hr h => ?_)
  · obtain ⟨d, L, rfl, _⟩ := h
    rfl
  · obtain ⟨d, L, rfl, bx, q⟩ := h
    have hu := hu_of hr
    have nd := scCopied.nd
    refine ⟨_, pss_cons (ps_set (i := 1) nd rfl (.inl rfl) pe_dnewK)
      (pss_cons (ps_lock (ps_for PassesOwn.never rfl (pi_keys (pv 0)) (pg_name (i := 2) nd rfl (.inl rfl))
        (pss_one (ps_dput hu (pv 1) (pv 2) (pe_callTy call_list_of (by rfl) B.list PyProof.Rows.boot_list (pa_cons (pe_dget hu (pv 0) (pv 2) (fun _ _ => rfl)) pa_nil)) rfl))))
      (pss_one (ps_ret (pv 1)))), ?_⟩
    intro D nD
    have s0 := same_new (o := HO.dK []) nD
    have bx0 := bx.same' s0
    refine ⟨d, _, bx0.un, trivial, fun od => ?_⟩
    have hd : H d ≠ none := by rw [bx.un]; exact fun z => by cases z
    have nDd : D ≠ d := fun z => hd (z ▸ nD)
    refine ⟨.ref d, rfl, d, od, rfl, .inl ⟨entK L, upd_same, for_it walk_keys (fun i σ H' => ∃ (M : List Ent) (y : Option V), σ = [some (.ref d), some (.ref D), y] ∧ Same (upd H d (.frz od (.dK (entK L)))) H' ∧ Nb H H' D M ∧ shape M = shape (L.take i))
      ⟨[], none, rfl, ?_, ?_, rfl⟩ (fun i σ H' _ h => by obtain ⟨M, y, _, e, _⟩ := h; exact e _ _ upd_same) ?_ ?_⟩⟩
    · intro b o e
      by_cases z : b = d
      · rw [z, upd_same] at e ⊢; exact e
      · rw [upd_ne z] at e ⊢
        exact s0 _ _ e
    · exact Nb.nil nD (by rw [upd_ne nDd]; exact upd_same)
    · rintro i x σ H' H'' hi ⟨M, y, rfl, sm, nb, sh⟩ ⟨rfl, k1, v1, hk, rfl⟩
      obtain ⟨e, he, rfl, rfl⟩ := keys_at hk
      have em := List.mem_of_getElem? he
      have bl := (bx.toBx.lock (od := od) bx.un).same sm
      have gv := bl.get e.1
      rw [getE_of bx.nd em] at gv
      rw [entK_len] at hi
      have few := bx.few
      have lM := shape_len sh
      rw [List.length_take] at lM
      refine ⟨.ref d, rfl, .str e.1, rfl, d, .ref e.2.1, rfl, gv, e.2.1, _, rfl, .inl (sl_map (bl.sides e em)), fun l nl => ?_⟩
      have sl := same_new (o := HO.lst (e.2.2.map V.int)) nl
      have nl0 : H l = none := by
        have := sm.free nl
        cases c : H l with
        | none => rfl
        | some o =>
          by_cases z : l = d
          · rw [z, upd_same] at this; cases this
          · rw [upd_ne z, c] at this; cases this
      have xnew : e.1 ∉ M.map (·.1) := by rw [shape_keys sh]; exact take_keys bx.nd he
      refine ⟨.ref D, rfl, .str e.1, rfl, D, _, rfl, DPut.k (k := .inr e.1) (sl _ _ nb.un) (by rw [entK_len]; exact small1000 (by omega)), ?_⟩
      refine ⟨putE M e.1 l e.2.2, some (.str e.1), rfl, ?_, ?_, ?_⟩
      · refine same_at (sm.trans sl) ?_
        rw [upd_ne nDd]
        exact nD
      · rw [putK_ent (s := e.2.2)]
        exact nb.put nl0 nl sl upd_same (by omega)
      · rw [putE_new xnew]
        exact shape_take sh he
    · rintro σ H' ⟨M, y, rfl, sm, nb, sh⟩
      rw [entK_len, List.take_length] at sh
      have eF := sm _ _ (upd_same (H := H) (a := d) (o := HO.frz od (.dK (entK L))))
      exact ⟨eF, _, rfl, q _ D M (unlock bx.un sm) (nb.unl bx.un eF) sh⟩
/-! ### _law_holds, _law_within, _law_is -/
end
theorem Nb.alias {H0 H : Hp} {d l : Addr} {M : List Ent} {x : Str} {s : List Int} (N : Nb H0 H d M) (n0 : H0 l = none) (el : H l = some (.lst (s.map V.int))) (nx : x ∉ M.map (·.1)) (nl : l ∉ M.map (·.2.1)) (few : M.length + 1 ≤ 40) :
    Nb H0 (upd H d (.dK (entK (M ++ [(x, l, s)])))) d (M ++ [(x, l, s)]) := by
  have ld : ∀ {c : Addr} {ys : List V}, H c = some (.lst ys) → c ≠ d := fun h z => by rw [z, N.un] at h; cases h
  refine ⟨⟨⟨.inl upd_same, fun e he => ?_, ?_, by rw [List.length_append]; exact few⟩, upd_same⟩, N.fresh, fun e he => ?_, ?_⟩
  · rcases List.mem_append.mp he with z | z
    · have h1 := N.sides e z
      rw [upd_ne (ld h1)]
      exact h1
    · rw [List.mem_singleton.mp z, upd_ne (ld el)]
      exact el
  · rw [List.map_append]
    exact nd_snoc N.nd nx
  · rcases List.mem_append.mp he with z | z
    · exact N.freshS e z
    · rw [List.mem_singleton.mp z]; exact n0
  · rw [List.map_append]
    exact nd_snoc N.inj nl
theorem Nb.unl' {H0 H' : Hp} {b d : Addr} {u : HO} {M : List Ent} {od : Obj} (N : Nb H0 H' d M) (eF : H' b = some (.frz od u)) : Nb H0 (upd H' b u) d M := by
  have db : d ≠ b := fun z => by have := N.un; rw [z, eF] at this; cases this
  have away : ∀ g ∈ M, g.2.1 ≠ b := fun g hg z => by have := N.sides g hg; rw [z, eF] at this; cases this
  exact ⟨⟨⟨.inl (by rw [upd_ne db]; exact N.un), fun g hg => by rw [upd_ne (away g hg)]; exact N.sides g hg, N.nd, N.few⟩, by rw [upd_ne db]; exact N.un⟩, N.fresh, N.freshS, N.inj⟩
section
variable {P : Program} {w : World} {K : PySem.W.Frag} {mg : Str → Option Value} {base : Heap}
end
/-- all that was there, but what stands at one of these -/
def KeepL (as : List Addr) (H H' : Hp) : Prop := ∀ b o, b ∉ as → H b = some o → H' b = some o
theorem KeepL.refl (as : List Addr) (H : Hp) : KeepL as H H := fun _ _ _ e => e
theorem KeepL.same {as : List Addr} {H H1 H2 : Hp} (k : KeepL as H H1) (s : Same H1 H2) : KeepL as H H2 := fun b o h e => s _ _ (k b o h e)
theorem KeepL.trans {as : List Addr} {H H1 H2 : Hp} (k : KeepL as H H1) (s : KeepL as H1 H2) : KeepL as H H2 := fun b o h e => s b o h (k b o h e)
abbrev big : Int := 10 ^ (13 : Int).toNat
def grown (ks : List Str) (e : Ent) : List Int := if e.1 ∈ ks then e.2.2 ++ [big] else e.2.2
theorem SameB.get {L M : List Ent} (s : SameB L M) {e : Ent} (nd : (M.map (·.1)).Nodup) (h : e ∈ M) : ∃ t ∈ L, t.1 = e.1 ∧ t.2.2 = e.2.2 ∧ getE L e.1 = some t := by
  have q := s e.1
  rw [look_mem nd h] at q
  unfold look at q
  obtain ⟨t, ht, eq⟩ := Option.map_eq_some_iff.mp q
  obtain ⟨m1, m2⟩ := getE_mem ht
  exact ⟨t, m1, m2, eq, ht⟩
theorem inj_eq {L : List Ent} (nd : (L.map (·.2.1)).Nodup) {e g : Ent} (he : e ∈ L) (hg : g ∈ L) (h : e.2.1 = g.2.1) : e = g := by
  obtain ⟨i, hi⟩ := List.mem_iff_getElem?.mp he
  obtain ⟨j, hj⟩ := List.mem_iff_getElem?.mp hg
  have a1 : (L.map (·.2.1))[i]? = some e.2.1 := by rw [List.getElem?_map, hi]; rfl
  have a2 : (L.map (·.2.1))[j]? = some e.2.1 := by rw [List.getElem?_map, hj, h]; rfl
  have := nd_ix nd a1 a2
  subst this
  exact Option.some.inj (hi.symm.trans hj)
theorem key_eq {L : List Ent} (nd : (L.map (·.1)).Nodup) {e g : Ent} (he : e ∈ L) (hg : g ∈ L) (h : e.1 = g.1) : e = g := by
  have a := getE_of nd he
  rw [h, getE_of nd hg] at a
  exact (Option.some.inj a).symm
section
variable {P : Program} {w : World} {K : PySem.W.Frag} {mg : Str → Option Value} {base : Heap}
abbrev nLNew : List Str := ["_law_told", "_law_expected", "_law_name"]
def spLNew : Sp := fun vs H Q _ => ∃ (t e : Addr) (T E : List Ent), vs = [.ref t, .ref e] ∧ Bu H t T ∧ (T.map (·.2.1)).Nodup ∧ Bu H e E ∧ SameB T E ∧ (∀ x ∈ E, x.2.1 ∉ T.map (·.2.1)) ∧ t ≠ e ∧ (∀ x ∈ E, x.2.2.length ≤ 100) ∧
  ∀ H', KeepL (T.map (·.2.1)) H H' → Q (.bl true) H'
end
section
variable {P : Program} {w : World} {K : PySem.W.Frag} {mg : Str → Option Value} {base : Heap}
abbrev sSame : Stmt := topS 21
abbrev nSame : List Str := ["_law_actual", "_law_expected", "_law_found", "_law_name"]
theorem scSame : FnScope nSame ["_law_actual", "_law_expected"] (defScope sSame) := ⟨rfl, rfl, rfl, by decide +kernel, rfl, by decide +kernel, by decide +kernel⟩
def spSame : Sp := fun vs H Q _ => ∃ (a e : Addr) (M E : List Ent), vs = [.ref a, .ref e] ∧ Bu H a M ∧ Bu H e E ∧ SameB M E ∧ (∀ g ∈ M, Srt g.2.2 ∧ g.2.2.length ≤ 1000) ∧ ∀ H', Same H H' → Q (.bl true) H'
theorem ok_same {f fI : Addr} {fd fdI : FuncData} (F : Fun K "_law_same_sides" "_law_same_sides" sSame f fd) (B : Bt mg) (I : Call P w K mg base 2 "_law_is_side" fI fdI ["_law_actual"] spIsSide) :
    FnOk P w K mg base CX0 3 f fd ["_law_actual", "_law_expected"] spSame := by
  refine F.ok scSame (fun vs H Q E h => ?_) (fun cdv A outer s H vs Q E hr h => ?_)
  · obtain ⟨a, e, M, E, rfl, _⟩ := h
    rfl
  · obtain ⟨a, e, M, X, rfl, bm, be, same, ok, q⟩ := h
    have hu := hu_of hr
    have hu64 : (A.deeper (envOfC "_law_same_sides" (defScope sSame) s.heap.objs.size f cdv)).units + 64 < cLine := by have := hr.un; omega
    have nd := scSame.nd
    refine ⟨_, pss_cons (ps_if (PW.pt (pw_or (pt_not (pt_val (pe_callB call_isi (by rfl) B.isi PyProof.Rows.boot_isinstance (pa_cons (pv 0) (pa_cons (pe_bltn (by rfl) B.dict PyProof.Rows.boot_dict (v := .ty "dict") rfl) pa_nil)))))
        (pw_or1 (pt_cmpR op_ne (pe_callB call_lenD (by rfl) B.len PySem.boot_len (pa_cons (pv 0) pa_nil)) (pe_callB call_lenD (by rfl) B.len PySem.boot_len (pa_cons (pv 1) pa_nil)) rfl)))) (pss_one (ps_ret pe_bl)) pss_nil)
      (pss_cons (ps_lock (ps_setLc (i := 2) (own := [("_law_name", 3)]) (g := gName 3) (te := tVar 3) rfl nd rfl rfl (by rfl) (pi_keys (pv 1)) (blkOk_by (N := nSame) (sc := defScope sSame) (by decide +kernel)) (fun _ _ _ _ _ => pg_name (i := 3) nd rfl (Or.inl rfl))
          (fun _ _ _ _ _ => pts_one (PW.pt (pw_and (pt_cmp (pc_din hu (pv 3) (pv 0))) (pw_and1 (pt_val (pe_call I.ok hr (by rfl) I.at_ I.kp I.bd .nil pass0 (pa_cons (pe_dget hu (pv 0) (pv 3) (fun _ _ => rfl)) pa_nil))))))) (fun _ _ _ _ _ => pv 3)))
      (pss_one (ps_ret (pe_and (pe_cmpR op_eq (pe_callB call_len_seq (by rfl) B.len PySem.boot_len (pa_cons (pv 2) pa_nil)) (pe_callB call_lenD (by rfl) B.len PySem.boot_len (pa_cons (pv 1) pa_nil)) rfl)
        (pe_one (pe_callB (cr_all rfl) (by rfl) B.all PyProof.Rows.boot_all (pa_cons
          (pe_lc (own := [("_law_name", 3)]) (g := gName 3) (tt := tYes) rfl nd (pi_list (pv 2)) (blkOk_by (N := nSame) (sc := defScope sSame) (by decide +kernel)) (fun _ _ _ _ _ => pg_name (i := 3) nd rfl (Or.inl rfl)) (fun _ _ _ _ _ => pts_nil)
            (fun _ _ _ _ _ => pe_cmpR (r := rEqD K) (op_eqD hu64) (pe_dget hu (pv 0) (pv 3) (fun _ _ => rfl)) (pe_dget hu (pv 1) (pv 3) (fun _ _ => rfl)) rfl)) pa_nil))))))), ?_⟩
    have lens : M.length = X.length := same.len bm.nd be.nd
    refine ⟨.ref a, rfl, .ref a, .ty "dict", .type "dict", .type "dict", true, rfl, .ty _, .base (.dK bm.un), kit_ty (by decide +kernel), true, rfl, iteF ?_⟩
    refine ⟨.ref a, rfl, a, _, rfl, bm.un, .ref e, rfl, e, _, rfl, be.un, rfl, ?_⟩
    rw [entK_len, entK_len, lens, decide_eq_true rfl]
    refine ⟨false, rfl, iteF ?_⟩
    refine ⟨e, _, be.un, trivial, fun od => ?_⟩
    have bel := be.toBx.lock (od := od) be.un
    have bml := bm.toBx.lock (od := od) be.un
    refine ⟨.ref e, rfl, e, od, rfl, .inl ⟨entK X, upd_same, fun D nD => lc_it walk_keys (fun i H' => Same (upd H e (.frz od (.dK (entK X)))) H' ∧ H' D = some (.lst (((X.take i).map (·.1)).map V.str))) ⟨same_new nD, upd_same⟩ (fun i H' _ h => h.1 _ _ upd_same) ?_ ?_⟩⟩
    · rintro i x Hz H' hi ⟨sm, eD⟩ ⟨rfl, k1, v1, hk, rfl⟩
      obtain ⟨x, hx, rfl, rfl⟩ := keys_at hk
      have xm := List.mem_of_getElem? hx
      obtain ⟨g, gm, g1, g2, g3⟩ := same.get be.nd xm
      have gv := (bml.same sm).get x.1
      rw [g3] at gv
      obtain ⟨so, ln⟩ := ok g gm
      have isu : H' a = some (.dK (entK M)) ∨ H' a = some (.frz od (.dK (entK X))) := by
        by_cases z : a = e
        · right; rw [z]; exact sm _ _ upd_same
        · left; exact sm _ _ (by rw [upd_ne z]; exact bm.un)
      refine ⟨rfl, .str x.1, rfl, .ref a, rfl, a, _, rfl, gv, true, rfl, iteT ?_⟩
      refine ⟨.ref a, rfl, .str x.1, rfl, a, .ref g.2.1, rfl, gv, g.2.1, g.2.2, rfl, sm _ _ (bml.sides g gm), so, ln, fun H4 s4 => ⟨true, rfl, iteT ⟨.str x.1, rfl, _, s4 _ _ eD, ?_, same_at (sm.trans s4) nD, ?_⟩⟩⟩
      · rw [List.length_map, List.length_map, List.length_take]
        have := be.few
        exact small1000 (by omega)
      · rw [upd_same, List.take_add_one, hx, List.map_append, List.map_append]
        rfl
    · rintro H' ⟨sm, eD⟩
      rw [entK_len, List.take_length] at eD
      have eF := sm _ _ (upd_same (H := H) (a := e) (o := HO.frz od (.dK (entK X))))
      have nDe : D ≠ e := fun z => by rw [z, eF] at eD; cases eD
      refine ⟨eF, ?_⟩
      have s2 : Same H (upd H' e (.dK (entK X))) := unlock be.un sm
      have eD2 : (upd H' e (.dK (entK X))) D = some (.lst ((X.map (·.1)).map V.str)) := by rw [upd_ne nDe]; exact eD
      generalize upd H' e (.dK (entK X)) = H2 at s2 eD2 ⊢
      clear sm eD eF H'
      refine ⟨.ref D, rfl, D, _, rfl, .inl (sl_map eD2), .ref e, rfl, e, _, rfl, s2 _ _ be.un, rfl, ?_⟩
      rw [entK_len, List.length_map, List.length_map, decide_eq_true rfl]
      refine ⟨true, rfl, iteT ?_⟩
      refine ⟨.ref D, rfl, D, rfl, ⟨_, sl_map eD2⟩, fun R nR => lc_list (xs := (X.map (·.1)).map V.str) (fun i H' => Same H2 H' ∧ H' R = some (.lst ((List.replicate i true).map V.bl))) ⟨same_new nR, upd_same⟩ (fun i H' _ h => h.1.seq (sl_map eD2)) ?_ ?_⟩
      · rintro i z H' hz ⟨sm, hd⟩
        rw [List.getElem?_map, List.getElem?_map] at hz
        obtain ⟨v, hv, rfl⟩ := Option.map_eq_some_iff.mp hz
        obtain ⟨x, hx, rfl⟩ := Option.map_eq_some_iff.mp hv
        have xm := List.mem_of_getElem? hx
        obtain ⟨g, gm, g1, g2, g3⟩ := same.get be.nd xm
        have s3 := s2.trans sm
        have gv := (bm.toBx.same s3).get x.1
        rw [g3] at gv
        have ev := (be.toBx.same s3).get x.1
        rw [getE_of be.nd xm] at ev
        have few := be.few
        have hi := (List.getElem?_eq_some_iff.mp hx).1
        have e1 := s3 _ _ (bm.sides g gm)
        rw [g2] at e1
        refine ⟨rfl, .ref a, rfl, .str x.1, rfl, a, .ref g.2.1, rfl, gv, .ref e, rfl, .str x.1, rfl, e, .ref x.2.1, rfl, ev, dI x.2.2, dI x.2.2, dpI (sl_map e1), dpI (sl_map (s3 _ _ (be.sides x xm))), shI _, shI _, ?_⟩
        rw [eqI]
        refine ⟨_, hd, ?_, same_at sm nR, ?_⟩
        · rw [List.length_map, List.length_replicate]
          exact small1000 (by omega)
        · rw [upd_same, List.replicate_succ', List.map_append]
          rfl
      · rintro H' ⟨sm, hd⟩
        refine ⟨R, _, rfl, sl_map hd, ?_⟩
        rw [all_rep]
        exact q _ (s2.trans sm)
end
theorem cutV_to (xs : List V) (j : Nat) : cutV xs none (some (j : Int)) = xs.take j := by
  unfold cutV
  rw [HT.sIx_none, HT.sIx_nat, List.drop_zero, Nat.sub_zero]
  by_cases h : j ≤ xs.length
  · rw [Nat.min_eq_left h]
  · rw [Nat.min_eq_right (by omega), List.take_of_length_le (Nat.le_refl _), List.take_of_length_le (by omega)]
theorem cutV_from (xs : List V) (j : Nat) : cutV xs (some (j : Int)) none = xs.drop j := by
  unfold cutV
  rw [HT.sIx_none, HT.sIx_nat]
  by_cases h : j ≤ xs.length
  · rw [Nat.min_eq_left h, List.take_of_length_le (by rw [List.length_drop]; exact Nat.le_refl _)]
  · rw [Nat.min_eq_right (by omega), List.drop_length, List.drop_of_length_le (by omega)]
    simp
theorem Nb.keep {H0 H H' : Hp} {p d : Addr} {M : List Ent} (N : Nb H0 H d M) (hp : H0 p ≠ none) (k : Keep p H H') : Nb H0 H' d M := by
  have pd : d ≠ p := fun z => hp (z ▸ N.fresh)
  have away : ∀ g ∈ M, g.2.1 ≠ p := fun g hg z => hp (z ▸ N.freshS g hg)
  exact ⟨⟨⟨.inl (k _ _ pd N.un), fun g hg => k _ _ (away g hg) (N.sides g hg), N.nd, N.few⟩, k _ _ pd N.un⟩, N.fresh, N.freshS, N.inj⟩
theorem Bu.keep {H H' : Hp} {p d : Addr} {M : List Ent} (N : Bu H d M) (s : Strm H p) (k : Keep p H H') (away : ∀ g ∈ M, g.2.1 ≠ p) : Bu H' d M := by
  have pd : d ≠ p := fun z => by
    obtain ⟨x, y, w, e⟩ := s
    have := N.un
    rw [z, e] at this
    cases this
  exact ⟨⟨.inl (k _ _ pd N.un), fun g hg => k _ _ (away g hg) (N.sides g hg), N.nd, N.few⟩, k _ _ pd N.un⟩
theorem with_rest2 {R : Hp → Prop} {G : Prop} (C : Hp → Prop) (r : ∀ H, C H → R H) (g : (∀ H, C H → R H) → G) : G := g r
section
variable {P : Program} {w : World} {K : PySem.W.Frag} {mg : Str → Option Value} {base : Heap}
end
theorem with_rest {R G : Prop} (r : R) (g : R → G) : G := g r
theorem Bu.aput {H : Hp} {d l : Addr} {M : List Ent} {x : Str} {s : List Int} (B : Bu H d M) (el : H l = some (.lst (s.map V.int))) (few : M.length + 1 ≤ 40) : Bu (upd H d (.dK (entK (putE M x l s)))) d (putE M x l s) := by
  have ld : ∀ {c : Addr} {ys : List V}, H c = some (.lst ys) → c ≠ d := fun h z => by rw [z, B.un] at h; cases h
  refine ⟨⟨.inl upd_same, fun e he => ?_, putE_nd B.nd, by have := putE_len M x l s; omega⟩, upd_same⟩
  rcases putE_mem he with z | ⟨z, _⟩
  · rw [z, upd_ne (ld el)]
    exact el
  · have h1 := B.sides e z
    rw [upd_ne (ld h1)]
    exact h1
section
variable {P : Program} {w : World} {K : PySem.W.Frag} {mg : Str → Option Value} {base : Heap}
end
theorem small10k {n : Nat} (h : n ≤ 10000) : n < sizeLine := Nat.lt_of_le_of_lt h (by decide)
section
variable {P : Program} {w : World} {K : PySem.W.Frag} {mg : Str → Option Value} {base : Heap}
end
/-! ### equal boxes, deep -/
theorem paired_flat {K : PySem.W.Frag} {H : Hp} {n : Nat} : ∀ xs : List V, (∀ x ∈ xs, flatB x = true) → Paired (EqV K H (n + 1)) xs xs
  | [], _ => .nil
  | x :: xs, h => .cons (.inl ⟨rfl, h x List.mem_cons_self⟩) (paired_flat xs fun y hy => h y (List.mem_cons_of_mem _ hy))
theorem eqL {K : PySem.W.Frag} {H : Hp} {a b : Addr} {ns : List Int} (ha : H a = some (.lst (ns.map V.int))) (hb : H b = some (.lst (ns.map V.int))) : EqV K H 2 (.ref a) (.ref b) :=
  .inr (.inr (.inl ⟨a, b, _, _, rfl, rfl, sl_map ha, sl_map hb, paired_flat _ fun x hx => by obtain ⟨k, _, rfl⟩ := List.mem_map.mp hx; rfl⟩))
theorem eqB {K : PySem.W.Frag} {H : Hp} {d e : Addr} {M X : List Ent} (bd : Bu H d M) (be : Bu H e X) (s : SameB M X) : EqR K H (EqV K H 2) (.ref d) (.ref e) := by
  refine .inr ⟨d, e, _, _, rfl, rfl, bd.un, be.un, by rw [entK_len, entK_len]; exact s.len bd.nd be.nd, fun p hp => ?_⟩
  unfold entK at hp
  obtain ⟨g, hg, rfl⟩ := List.mem_map.mp hp
  have s' : SameB X M := fun x => (s x).symm
  obtain ⟨t, tm, t1, t2, t3⟩ := s'.get bd.nd hg
  refine ⟨.ref t.2.1, ?_, ?_⟩
  · show valV (entK X) (Sum.inr g.1) = _
    rw [valV_ent, t3]
    rfl
  · have h1 := be.sides t tm
    rw [t2] at h1
    exact eqL (bd.sides g hg) h1
theorem shape_same {L M : List Ent} (h : shape L = shape M) : SameB L M := look_shape h
theorem Sz.look {L : List Ent} {n : Nat} (z : Sz L n) {x : Str} {s : List Int} (h : look L x = some s) : Srt s ∧ s.length ≤ n := by
  obtain ⟨e, em, _, rfl⟩ := look_of h
  exact ⟨z.srt e em, z.len e em⟩
theorem sides_ok {M : List Ent} {n : Nat} (nd : (M.map (·.1)).Nodup) (f : Str → Option (List Int)) (h : ∀ x, look M x = f x) (ok : ∀ x s, f x = some s → Srt s ∧ s.length ≤ n) : Sz M n :=
  ⟨fun e he => (ok e.1 _ ((h e.1).symm.trans (look_mem nd he))).1, fun e he => (ok e.1 _ ((h e.1).symm.trans (look_mem nd he))).2⟩
theorem Sz.shape {L M : List Ent} {n : Nat} (z : Sz L n) (h : shape M = shape L) : Sz M n := by
  have q : ∀ e ∈ M, ∃ g ∈ L, g.2.2 = e.2.2 := fun e he => by
    have : (e.1, e.2.2) ∈ K19.shape L := h ▸ List.mem_map_of_mem (f := fun e : Ent => (e.1, e.2.2)) he
    obtain ⟨g, hg, eq⟩ := List.mem_map.mp this
    exact ⟨g, hg, (Prod.mk.inj eq).2⟩
  refine ⟨fun e he => ?_, fun e he => ?_⟩
  · obtain ⟨g, hg, eq⟩ := q e he
    exact eq ▸ z.srt g hg
  · obtain ⟨g, hg, eq⟩ := q e he
    exact eq ▸ z.len g hg
/-- what a change of fresh sides leaves -/
theorem keepL_same {H0 H1 H2 : Hp} {as : List Addr} (s : Same H0 H1) (k : KeepL as H1 H2) (f : ∀ a ∈ as, H0 a = none) : Same H0 H2 := fun b o e => k b o (fun z => by rw [f b z] at e; cases e) (s _ _ e)
theorem Bu.keepL {H H' : Hp} {d : Addr} {M : List Ent} {as : List Addr} (B : Bu H d M) (k : KeepL as H H') (h1 : d ∉ as) (h2 : ∀ e ∈ M, e.2.1 ∉ as) : Bu H' d M :=
  ⟨⟨.inl (k _ _ h1 B.un), fun e he => k _ _ (h2 e he) (B.sides e he), B.nd, B.few⟩, k _ _ h1 B.un⟩
theorem not_side {H : Hp} {d : Addr} {as : List Addr} (n : H d = none) (sd : ∀ a ∈ as, H a ≠ none) : d ∉ as := fun z => sd d z n
theorem side_some {H : Hp} {M : List Ent} (sd : ∀ e ∈ M, H e.2.1 = some (.lst (e.2.2.map V.int))) : ∀ a ∈ M.map (·.2.1), H a ≠ none := fun a ha z => by
  obtain ⟨e, he, rfl⟩ := List.mem_map.mp ha
  have := sd e he
  rw [z] at this
  cases this
section
variable {P : Program} {w : World} {K : PySem.W.Frag} {mg : Str → Option Value} {base : Heap}
end
/-! ### what the meet and the join hold -/
theorem Sz.mono {L : List Ent} {n m : Nat} (z : Sz L n) (h : n ≤ m) : Sz L m := ⟨z.srt, fun e he => Nat.le_trans (z.len e he) h⟩
theorem sq_keep {K : PySem.W.Frag} {H H' : Hp} {a p : Addr} {xs : List V} (h : SqL K H a xs) (np : H p = none) (k : Keep p H H') : SqL K H' a xs := by
  have ap : ∀ o, H a = some o → a ≠ p := fun o e z => by rw [z, np] at e; cases e
  rcases h with (h | ⟨o, h⟩) | h
  · exact .inl (.inl (k _ _ (ap _ h) h))
  · exact .inl (.inr ⟨o, k _ _ (ap _ h) h⟩)
  · exact .inr h
/-! ### domains: a list of pairs of a name and a side -/
abbrev DomE := Addr × Ent
structure Doms (H : Hp) (l : Addr) (ds : List DomE) : Prop where
  lst : H l = some (.lst (ds.map fun d => V.ref d.1))
  tup : ∀ d ∈ ds, H d.1 = some (.tup [V.str d.2.1, V.ref d.2.2.1])
  side : ∀ d ∈ ds, H d.2.2.1 = some (.lst (d.2.2.2.map V.int))
theorem Doms.same {H H' : Hp} {l : Addr} {ds : List DomE} (D : Doms H l ds) (s : Same H H') : Doms H' l ds := ⟨s _ _ D.lst, fun d h => s _ _ (D.tup d h), fun d h => s _ _ (D.side d h)⟩
theorem Srt.sub {a b : List Int} (s : Srt b) (h : a.Sublist b) : Srt a := List.Pairwise.sublist h s
theorem Doms.keep {H H' : Hp} {p l : Addr} {ds : List DomE} (D : Doms H l ds) (k : Keep p H H') (hl : l ≠ p) (h : ∀ d ∈ ds, d.1 ≠ p ∧ d.2.2.1 ≠ p) : Doms H' l ds :=
  ⟨k _ _ hl D.lst, fun d hd => k _ _ (h d hd).1 (D.tup d hd), fun d hd => k _ _ (h d hd).2 (D.side d hd)⟩
theorem refs_ints {ds : List DomE} {ns : List Int} (h : (ds.map fun d => V.ref d.1) = ns.map V.int) : ds = [] := by
  cases ds with
  | nil => rfl
  | cons d ds =>
    cases ns with
    | nil => cases h
    | cons n ns =>
      rw [List.map_cons, List.map_cons] at h
      cases (List.cons.inj h).1
/-- a pair more -/
theorem Doms.snoc {H : Hp} {l T Z : Addr} {ds : List DomE} {x : Str} {zs : List Int} (D : Doms H l ds) (hT : H T = some (.tup [V.str x, V.ref Z])) (hZ : H Z = some (.lst (zs.map V.int))) (nZ : Z ≠ l) :
    Doms (upd H l (.lst ((ds.map fun d => V.ref d.1) ++ [V.ref T]))) l (ds ++ [(T, x, Z, zs)]) := by
  have tl : ∀ {c : Addr} {vs : List V}, H c = some (.tup vs) → c ≠ l := fun h z => by rw [z, D.lst] at h; cases h
  refine ⟨by rw [upd_same, List.map_append]; rfl, fun d hd => ?_, fun d hd => ?_⟩
  · rcases List.mem_append.mp hd with h | h
    · rw [upd_ne (tl (D.tup d h))]
      exact D.tup d h
    · rw [List.mem_singleton.mp h, upd_ne (tl hT)]
      exact hT
  · rcases List.mem_append.mp hd with h | h
    · have q := D.side d h
      have : d.2.2.1 ≠ l := fun z => by
        rw [z, D.lst] at q
        have e := refs_ints (HO.lst.inj (Option.some.inj q))
        rw [e] at h
        cases h
      rw [upd_ne this]
      exact q
    · rw [List.mem_singleton.mp h, upd_ne nZ]
      exact hZ
theorem with_restA {α : Type} {R : α → Hp → Prop} {G : Prop} (C : α → Hp → Prop) (r : ∀ a H, C a H → R a H) (g : (∀ a H, C a H → R a H) → G) : G := g r
section
variable {P : Program} {w : World} {K : PySem.W.Frag} {mg : Str → Option Value} {base : Heap}
abbrev sDoms : Stmt := topS 12
abbrev nDoms : List Str := ["_law_stream_here", "_law_names_here", "_law_pool_here", "_law_most", "_law_domains_here", "_law_name", "_law_side", "_law_value"]
theorem scDoms : FnScope nDoms ["_law_stream_here", "_law_names_here", "_law_pool_here", "_law_most"] (defScope sDoms) := ⟨rfl, rfl, rfl, by decide +kernel, rfl, by decide +kernel, by decide +kernel⟩
def spDoms : Sp := fun vs H Q _ => ∃ (p nm pl : Addr) (xs : List Str) (ns : List Int) (m : Nat), vs = [.ref p, .ref nm, .ref pl, .int (m : Int)] ∧ Strm H p ∧ H nm = some (.lst (xs.map V.str)) ∧ H pl = some (.lst (ns.map V.int)) ∧ p ≠ nm ∧ p ≠ pl ∧ Srt ns ∧ 1 ≤ ns.length ∧ ns.length ≤ 100 ∧ xs.length ≤ 100 ∧
  ∀ (H' : Hp) (l : Addr) (ds : List DomE), Keep p H H' → H l = none → Strm H' p → Doms H' l ds → ds.map (·.2.1) = xs → (∀ d ∈ ds, Srt d.2.2.2 ∧ d.2.2.2.length ≤ max m 1 ∧ H d.1 = none ∧ H d.2.2.1 = none ∧ ∀ v ∈ d.2.2.2, v ∈ ns) → (ds.map (·.2.2.1)).Nodup → Q (.ref l) H'
theorem ok_doms {f fD : Addr} {fd fdD : FuncData} (F : Fun K "_law_domains" "_law_domains" sDoms f fd) (B : Bt mg) (D : Call P w K mg base 1 "_law_next" fD fdD ["_law_stream_here", "_law_size"] spDraw) :
    FnOk P w K mg base CX0 2 f fd ["_law_stream_here", "_law_names_here", "_law_pool_here", "_law_most"] spDoms := by
  refine F.ok scDoms (fun vs H Q E h => ?_) (fun cdv A outer s H vs Q E hr h => ?_)
  · obtain ⟨p, nm, pl, xs, ns, m, rfl, _⟩ := h
    rfl
  · obtain ⟨p, nm, pl, xs, ns, m, rfl, hp, enm, epl, pnm, ppl, so, n1, nl, xl, q⟩ := h
    have nd := scDoms.nd
    refine ⟨_, pss_cons (ps_set (i := 4) nd rfl (.inl rfl) (pe_lst pa_nil))
      (pss_cons (ps_for PassesOwn.never rfl (pi_list (pv 1)) (pg_name (i := 5) nd rfl (.inl rfl))
        (pss_cons (ps_set (i := 6) nd rfl (.inl rfl) (pe_slice sl_list (pe_lc (own := [("_law_value", 7)]) (g := gName 7) (te := tVar 7) rfl nd (pi_list (pv 2)) (blkOk_by (N := nDoms) (sc := defScope sDoms) (by decide +kernel)) (fun _ _ _ _ _ => pg_name (i := 7) nd rfl (Or.inl rfl))
            (fun _ _ _ _ _ => pts_one (pt_cmpR op_gt (pe_call D.ok hr (by rfl) D.at_ D.kp D.bd .nil pass0 (pa_cons (pv 0) (pa_cons pe_int pa_nil))) pe_int (nomark _))) (fun _ _ _ _ _ => pv 7)) po_none (po_some (pv 3))))
        (pss_cons (ps_if (pt_cmpR op_eq (pe_callB call_len_seq (by rfl) B.len PySem.boot_len (pa_cons (pv 6) pa_nil)) pe_int rfl)
          (pss_one (ps_set (i := 6) nd rfl (.inl rfl) (pe_lst (pa_cons (pe_ix ix_list (pv 2) (pe_call D.ok hr (by rfl) D.at_ D.kp D.bd .nil pass0 (pa_cons (pv 0) (pa_cons (pe_callB call_len_seq (by rfl) B.len PySem.boot_len (pa_cons (pv 2) pa_nil)) pa_nil))) (fun _ _ => rfl)) pa_nil)))) pss_nil)
        (pss_one (ps_expr (pe_bm PySem.F.plainAttrs_list PySem.F.slot_list_append PySem.F.type_list_append mt_append (pv 4) (pa_cons (pe_tup (pa_cons (pv 5) (pa_cons
          (pe_slice sl_list (pv 6) po_none (po_some (pe_op op_mul (pe_callB call_len_seq (by rfl) B.len PySem.boot_len (pa_cons (pv 6) pa_nil))
            (pe_callTy call_int1 (by rfl) B.int PyProof.Rows.boot_int (pa_cons (pe_cmpR op_ne (pe_call D.ok hr (by rfl) D.at_ D.kp D.bd .nil pass0 (pa_cons (pv 0) (pa_cons pe_int pa_nil))) pe_int (nomark _)) pa_nil))))) pa_nil))) pa_nil)))))))
      (pss_one (ps_ret (pv 4)))), ?_⟩
    refine ⟨by show 0 ≤ sizeLine; decide, fun l nl0 => ?_⟩
    have npl : p ≠ l := fun z => hp.some (z ▸ nl0)
    have hpn : H p ≠ none := hp.some
    refine ⟨.ref nm, rfl, nm, rfl, ⟨_, sl_map (same_new nl0 _ _ enm)⟩, for_list (xs := xs.map V.str) (fun i σ H' => ∃ (ds : List DomE) (y5 y6 : Option V), σ = [some (.ref p), some (.ref nm), some (.ref pl), some (.int (m : Int)), some (.ref l), y5, y6, none] ∧ Keep p H H' ∧ Strm H' p ∧ Doms H' l ds ∧ ds.map (·.2.1) = xs.take i ∧ (∀ d ∈ ds, Srt d.2.2.2 ∧ d.2.2.2.length ≤ max m 1 ∧ H d.1 = none ∧ H d.2.2.1 = none ∧ ∀ v ∈ d.2.2.2, v ∈ ns) ∧ (ds.map (·.2.2.1)).Nodup)
      ⟨[], none, none, rfl, (Keep.refl p H).at_ nl0, hp.upd npl, ⟨upd_same, (fun _ h => nomatch h), (fun _ h => nomatch h)⟩, rfl, (fun _ h => nomatch h), List.Pairwise.nil⟩ (fun i σ H' _ h => by obtain ⟨ds, y5, y6, _, k, _⟩ := h; exact sl_map (k _ _ pnm.symm enm)) ?_ ?_⟩
    · rintro i x σ H' hx ⟨ds, y5, y6, rfl, kp, st, dm, keys, ok, inj⟩
      rw [List.getElem?_map] at hx
      obtain ⟨x, hv, rfl⟩ := Option.map_eq_some_iff.mp hx
      have hi := (List.getElem?_eq_some_iff.mp hv).1
      have ld : ds.length = i := by
        have := congrArg List.length keys
        rw [List.length_map, List.length_take] at this
        omega
      have er : H' pl = some (.lst (ns.map V.int)) := kp _ _ ppl.symm epl
      refine ⟨.ref pl, rfl, pl, rfl, ⟨_, sl_map er⟩, fun R nR => ?_⟩
      have npR : p ≠ R := fun z => st.some (z ▸ nR)
      have apart : ∀ d ∈ ds, d.1 ≠ p ∧ d.2.2.1 ≠ p := fun d hd => ⟨fun z => hpn (z ▸ (ok d hd).2.2.1), fun z => hpn (z ▸ (ok d hd).2.2.2.1)⟩
      refine lc_list (xs := ns.map V.int) (fun j H1 => Keep p H' H1 ∧ Strm H1 p ∧ ∃ ms : List Int, H1 R = some (.lst (ms.map V.int)) ∧ ms.Sublist (ns.take j)) ?_ ?_ ?_ ?_
      · exact ⟨(Keep.refl p H').at_ nR, st.upd npR, [], upd_same, List.Sublist.refl _⟩
      · rintro j H1 _ ⟨k, _⟩
        exact sl_map (k _ _ ppl.symm er)
      · rintro j v H1 hv1 ⟨k1, st1, ms, eR, sub⟩
        rw [List.getElem?_map] at hv1
        obtain ⟨v, hv2, rfl⟩ := Option.map_eq_some_iff.mp hv1
        have hj := (List.getElem?_eq_some_iff.mp hv2).1
        have len := sub.length_le
        rw [List.length_take] at len
        refine ⟨rfl, .ref p, rfl, p, 4, rfl, st1, by decide, by decide, fun H2 e o2 st2 e0 e1 => ?_⟩
        refine ⟨e, 0, rfl, rfl, _, rfl, ?_⟩
        have eR2 : H2 R = some (.lst (ms.map V.int)) := (o2 R npR.symm).trans eR
        have tk : ns.take (j + 1) = ns.take j ++ [v] := by rw [List.take_add_one, hv2]; rfl
        refine ite2 (fun _ => ?_) (fun _ => ?_)
        · refine ⟨.int v, rfl, _, eR2, ?_, fun b o hb e => ?_, st2.upd npR, ms ++ [v], by rw [upd_same, List.map_append]; rfl, by rw [tk]; exact sub.append (List.Sublist.refl _)⟩
          · rw [List.length_map]
            exact small1000 (by omega)
          · have : b ≠ R := fun z => by rw [z, nR] at e; cases e
            rw [upd_ne this]
            exact (k1.oth o2) b o hb e
        · exact ⟨k1.oth o2, st2, ms, eR2, by rw [tk]; exact sub.trans (List.sublist_append_left _ _)⟩
      · rintro H1 ⟨k1, st1, ms, eR, sub⟩
        rw [List.length_map, List.take_length] at sub
        have K1 : Keep p H H1 := kp.trans k1
        have nR0 : H R = none := kp.free st nR
        have dm1 : Doms H1 l ds := dm.keep k1 npl.symm apart
        refine' with_restA (fun S' H3 => ∃ ts : List Int, Keep p H H3 ∧ Strm H3 p ∧ Doms H3 l ds ∧ H3 S' = some (.lst (ts.map V.int)) ∧ H S' = none ∧ Srt ts ∧ ts.length ≤ max m 1 ∧ ts.length ≤ 100 ∧ ∀ v ∈ ts, v ∈ ns) ?r (fun rest => ⟨_, rfl, _, rfl, R, _, rfl, sl_map eR, fun S nS => ?k⟩)
        case' k =>
          have ec : cutV (ms.map V.int) none (some (m : Int)) = (ms.take m).map V.int := by rw [cutV_to, List.map_take]
          rw [ec]
          have sS := same_new (o := HO.lst ((ms.take m).map V.int)) nS
          have npS : p ≠ S := fun z => st1.some (z ▸ nS)
          have subS : (ms.take m).Sublist ns := (List.take_sublist m ms).trans sub
          have er2 : (upd H1 S (HO.lst ((ms.take m).map V.int))) pl = some (.lst (ns.map V.int)) := sS _ _ (k1 _ _ ppl.symm er)
          have eS0 := upd_same (H := H1) (a := S) (o := HO.lst ((ms.take m).map V.int))
          have stS := st1.upd (o := HO.lst ((ms.take m).map V.int)) npS
          have dmS := dm1.same sS
          have KS := K1.at_ (o := HO.lst ((ms.take m).map V.int)) (K1.free st1 nS)
          have nS0 : H S = none := K1.free st1 nS
          generalize upd H1 S (HO.lst ((ms.take m).map V.int)) = G1 at er2 eS0 stS dmS KS ⊢
          clear sS
          refine ⟨.ref S, rfl, S, _, rfl, .inl (sl_map eS0), rfl, _, rfl, ite2 (fun c => ?g) (fun c => rest S G1 ?h)⟩
          case h =>
            refine ⟨ms.take m, KS, stS, dmS, eS0, nS0, so.sub subS, ?_, ?_, fun v hv => subS.subset hv⟩
            · rw [List.length_take]; omega
            · have := subS.length_le; omega
          case g =>
            refine ⟨.ref pl, rfl, .ref p, rfl, .ref pl, rfl, pl, _, rfl, .inl (sl_map er2), p, _, rfl, stS, ?_, ?_, fun H2 e o2 st2 e0 e1 => ?_⟩
            · rw [List.length_map]; omega
            · rw [List.length_map]; omega
            rw [List.length_map] at e1
            obtain ⟨e, rfl⟩ : ∃ n : Nat, e = (n : Int) := ⟨e.toNat, by omega⟩
            have he : e < ns.length := by omega
            have ge : (ns.map V.int)[e]? = some (.int ns[e]) := by rw [List.getElem?_map, List.getElem?_eq_getElem he]; rfl
            have er3 : H2 pl = some (.lst (ns.map V.int)) := (o2 pl ppl.symm).trans er2
            have K2 : Keep p H H2 := KS.oth o2
            have dm2 : Doms H2 l ds := dmS.keep ((Keep.refl p _).oth o2) npl.symm apart
            refine ⟨pl, _, _, .int ns[e], rfl, rfl, sl_map er3, atI_nat (j := e) ge, by show 1 ≤ sizeLine; decide, fun Z nZ => rest Z _ ⟨[ns[e]], K2.at_ (K2.free st2 nZ), st2.upd (fun z => st2.some (z ▸ nZ)), dm2.same (same_new nZ), upd_same, K2.free st2 nZ, List.pairwise_singleton _ _, by show 1 ≤ max m 1; omega, by show 1 ≤ 100; omega, fun v hv => ?_⟩⟩
            rw [List.mem_singleton.mp hv]
            exact List.getElem_mem he
        case r =>
          rintro S' H3 ⟨ts, K3, st3, dm3, eS, nS', soT, l1, l2, mem⟩
          have npS' : p ≠ S' := fun z => hpn (z ▸ nS')
          refine ⟨.ref l, rfl, .inl ⟨rfl, _, sl_map dm3.lst⟩, .str x, rfl, .ref S', rfl, .ref S', rfl, S', _, rfl, .inl (sl_map eS), .ref p, rfl, p, 60, rfl, st3, by decide, by decide, fun H4 e o4 st4 e0 e1 => ?_⟩
          have eS4 : H4 S' = some (.lst (ts.map V.int)) := (o4 S' npS'.symm).trans eS
          have tail : ∀ (b : Bool), -(2 ^ 64) < (if b = true then (1 : Int) else 0) ∧ (if b = true then (1 : Int) else 0) < 2 ^ 64 := fun b => by cases b <;> decide
          refine ⟨rfl, .inr ⟨_, rfl, _, _, rfl, rfl, .inr (tail _), _, rfl, S', _, rfl, sl_map eS4, fun Z nZ => ?_⟩⟩
          generalize (!decide (V.int e = V.int 7)) = bit
          have ez : cutV (ts.map V.int) none (some (((ts.map V.int).length : Int) * (if bit = true then (1 : Int) else 0))) = ((if bit = true then ts else []).map V.int) := by
            cases bit with
            | true =>
              rw [if_pos rfl, if_pos rfl, Int.mul_one, cutV_to, List.take_length]
            | false =>
              rw [if_neg Bool.false_ne_true, if_neg Bool.false_ne_true, Int.mul_zero]
              exact cutV_to _ 0
          rw [ez]
          have hz : (if bit = true then ts else []).Sublist ts := by cases bit with
            | true => exact List.Sublist.refl _
            | false => exact List.nil_sublist _
          generalize (if bit = true then ts else []) = zs at hz
          have K4 := K3.oth o4
          have npZ : p ≠ Z := fun z => st4.some (z ▸ nZ)
          have sZ := same_new (o := HO.lst (zs.map V.int)) nZ
          have nZ0 : H Z = none := K4.free st4 nZ
          have dm4 : Doms H4 l ds := dm3.keep ((Keep.refl p _).oth o4) npl.symm apart
          refine ⟨by show 2 ≤ sizeLine; decide, fun T nT => ?_⟩
          have npT : p ≠ T := fun z => st4.some (z ▸ sZ.free nT)
          have sT := same_new (o := HO.tup [V.str x, V.ref Z]) nT
          have nT0 : H T = none := K4.free st4 (sZ.free nT)
          have nZl : Z ≠ l := fun z => by rw [z, dm4.lst] at nZ; cases nZ
          have dmT := (dm4.same sZ).same sT
          have hsub := hz.length_le
          have newZ : Z ∉ ds.map (·.2.2.1) := fun z => by
            obtain ⟨d, hd, e⟩ := List.mem_map.mp z
            have e' : d.2.2.1 = Z := e
            have := dm4.side d hd
            rw [e', nZ] at this
            cases this
          refine ⟨l, _, _, rfl, rfl, dmT.lst, ?_, ds ++ [(T, x, Z, zs)], _, _, rfl, ((K4.at_ nZ0).at_ nT0).at_ nl0, ((st4.upd npZ).upd npT).upd npl, dmT.snoc upd_same (sT _ _ upd_same) nZl, ?_, fun d hd => ?_, ?_⟩
          · rw [List.length_map]
            exact small1000 (by omega)
          · rw [List.map_append, keys, List.take_add_one, hv]
            rfl
          · rcases List.mem_append.mp hd with h | h
            · exact ok d h
            · rw [List.mem_singleton.mp h]
              exact ⟨soT.sub hz, Nat.le_trans hsub l1, nT0, nZ0, fun v hv => mem v (hz.subset hv)⟩
          · rw [List.map_append]
            exact nd_snoc inj newZ
    · rintro σ H' ⟨ds, y5, y6, rfl, kp, st, dm, keys, ok, inj⟩
      rw [List.length_map, List.take_length] at keys
      exact ⟨_, rfl, q H' l ds kp nl0 st dm keys ok inj⟩
end
end K19

set_option Elab.async false
set_option linter.all false
set_option maxRecDepth 100000
set_option maxHeartbeats 4000000
namespace K19
open PySem PySem.Spec PyProof.Rows L2 Cs CsX
/-! ### facts of the heap, for grind; small helpers -/
@[grind =] theorem g_upd (H : Hp) (a b : Addr) (o : HO) : upd H a o b = if b = a then some o else H b := rfl
@[grind =] theorem g_same (H H' : Hp) : Same H H' ↔ (∀ a o, H a = some o → H' a = some o) ∧ ∀ a, H' a = none → H a = none := ⟨fun s => ⟨s, fun a h => s.free h⟩, fun h => h.1⟩
@[grind =] theorem g_keep (p : Addr) (H H' : Hp) : Keep p H H' ↔ (∀ a o, a ≠ p → H a = some o → H' a = some o) ∧ ∀ a, a ≠ p → H' a = none → H a = none := ⟨fun s => ⟨s, fun a hp h => by
  cases c : H a with
  | none => rfl
  | some o => rw [s a o hp c] at h; cases h⟩, fun h => h.1⟩
@[grind =] theorem g_oth (p : Addr) (H H' : Hp) : Oth p H H' ↔ ∀ a, a ≠ p → H' a = H a := Iff.rfl
@[grind =] theorem g_strm (H : Hp) (p : Addr) : Strm H p ↔ ∃ x y z : Int, H p = some (.lst [.int x, .int y, .int z]) := Iff.rfl
theorem g_new {H : Hp} {q : Addr} {o : HO} (n : H q = none) : Same H (upd H q o) := same_new n
grind_pattern g_new => upd H q o
@[grind =] theorem g_keepL (as : List Addr) (H H' : Hp) : KeepL as H H' ↔ ∀ b o, b ∉ as → H b = some o → H' b = some o := Iff.rfl
theorem ite_both {A B : Prop} {c : Bool} (h1 : c = true → A) (h2 : c = false → B) : if c = true then A else B := by
  cases c with
  | true => rw [if_pos rfl]; exact h1 rfl
  | false => rw [if_neg (by decide)]; exact h2 rfl
theorem at_int {xs : List V} {i : Int} {v : V} (h0 : 0 ≤ i) (h : xs[i.toNat]? = some v) : atI xs i = some v := by
  have := atI_nat h
  rw [show ((i.toNat : Nat) : Int) = i by omega] at this
  exact this
theorem at_eq {xs : List V} {i : Int} {j : Nat} {v : V} (h : i = (j : Int)) (hx : xs[j]? = some v) : atI xs i = some v := by
  rw [h]; exact atI_nat hx
theorem at_in {ns : List Int} {d : Int} (h0 : 0 ≤ d) (h1 : d < (ns.length : Nat)) : ∃ v ∈ ns, atI (ns.map V.int) d = some (.int v) := by
  have h : d.toNat < ns.length := by omega
  exact ⟨ns[d.toNat], List.getElem_mem h, at_int h0 (by rw [List.getElem?_map, List.getElem?_eq_getElem h] <;> rfl)⟩
theorem at_inS {ns : List Str} {d : Int} (h0 : 0 ≤ d) (h1 : d < (ns.length : Nat)) : ∃ v ∈ ns, atI (ns.map V.str) d = some (.str v) := by
  have h : d.toNat < ns.length := by omega
  exact ⟨ns[d.toNat], List.getElem_mem h, at_int h0 (by rw [List.getElem?_map, List.getElem?_eq_getElem h] <;> rfl)⟩
theorem ixN_nat {n j : Nat} (h : j < n) : ixN n (j : Int) = some j := by
  unfold ixN
  rw [if_pos (by omega), if_pos (by omega)]; simp
theorem with_restS {R : L2.St → Hp → Prop} {G : Prop} (C : L2.St → Hp → Prop) (r : ∀ σ H, C σ H → R σ H) (g : (∀ σ H, C σ H → R σ H) → G) : G := g r
theorem nd_ix {α : Type} {l : List α} (nd : l.Nodup) {i j : Nat} {x : α} (hi : l[i]? = some x) (hj : l[j]? = some x) : i = j :=
  (List.getElem?_inj (List.getElem?_eq_some_iff.mp hi).1 nd).mp (hi.trans hj.symm)
theorem not_take {α : Type} {l : List α} (nd : l.Nodup) {i : Nat} {x : α} (hi : l[i]? = some x) : x ∉ l.take i := fun z => by
  obtain ⟨j, hj⟩ := List.mem_iff_getElem?.mp z
  rw [List.getElem?_take] at hj
  split at hj
  · next c => exact absurd (nd_ix nd hj hi) (by omega)
  · cases hj
theorem srt_nd {l : List Int} (s : Srt l) : l.Nodup := List.Pairwise.imp (fun h z => by rw [z] at h; exact absurd h (Int.lt_irrefl _)) s
theorem filter_snoc {α : Type} {s : List α} {j : Nat} {v : α} {p : α → Bool} (h : s[j]? = some v) : (s.take (j + 1)).filter p = (s.take j).filter p ++ (if p v = true then [v] else []) := by
  rw [List.take_add_one, h, List.filter_append]
  congr 1
  show List.filter p [v] = _
  rw [List.filter_cons] <;> rfl
theorem filter_len {α : Type} (s : List α) (p : α → Bool) (j : Nat) : ((s.take j).filter p).length ≤ s.length := by
  have h1 := List.length_filter_le p (s.take j)
  rw [List.length_take] at h1
  omega
theorem take_snoc {α : Type} {s : List α} {j : Nat} {v : α} (h : s[j]? = some v) : s.take (j + 1) = s.take j ++ [v] := by
  rw [List.take_add_one, h] <;> rfl
theorem pe_or {X : Cx} {e : Expr} {t u : TE} (a : PE X e t) (b : PE X e u) : PE X e (fun σ H Q => t σ H Q ∨ u σ H Q) :=
  ⟨fun pins s σ H Q I h => h.elim (fun h => a.run pins s σ H Q I h) fun h => b.run pins s σ H Q I h⟩
theorem paired_same {K : PySem.W.Frag} {H : Hp} {n : Nat} : ∀ as : List Addr, Paired (EqV K H (n + 1)) (as.map V.ref) (as.map V.ref)
  | [] => .nil
  | a :: as => .cons (.inr (.inl ⟨a, rfl, rfl⟩)) (paired_same as)
theorem in_strs (ks : List Str) (v : Str) : inV (.str v) (ks.map V.str) = decide (v ∈ ks) := by
  unfold inV
  induction ks with
  | nil => simp
  | cons k ks ih =>
    rw [List.map_cons, List.any_cons, ih]
    have e : eqV (.str k) (.str v) = decide (k = v) := by
      by_cases c : k = v
      · subst c; simp [eqV]
      · simp [eqV, c]
    rw [e]
    by_cases c : k = v
    · subst c; simp
    · have : ¬ v = k := fun z => c z.symm
      simp [c, this]
theorem flats_str (xs : List Str) : (xs.map V.str).all flatV = true := by
  rw [List.all_eq_true]
  intro v hv
  obtain ⟨x, _, rfl⟩ := List.mem_map.mp hv
  rfl
/-! ### dicts of values -/
def putA (A : List (Str × Int)) (x : Str) (v : Int) : List (Str × Int) := if (A.any fun e => decide (e.1 = x)) = true then A.map (fun e => if e.1 = x then (x, v) else e) else A ++ [(x, v)]
theorem any_int (A : List (Str × Int)) (x : Str) : ((intK A).any fun kv => decide (kv.1 = Sum.inr x)) = A.any fun e => decide (e.1 = x) := by
  unfold intK
  rw [List.any_map]
  congr 1
  funext e
  simp
theorem putK_int (A : List (Str × Int)) (x : Str) (v : Int) : putK (intK A) (.inr x) (V.int v) = intK (putA A x v) := by
  unfold putK putA
  rw [any_int]
  by_cases h : (A.any fun e => decide (e.1 = x)) = true
  · rw [if_pos h, if_pos h]
    unfold intK
    rw [List.map_map, List.map_map]
    congr 1
    funext e
    by_cases z : e.1 = x
    · simp [z]
    · simp [z]
  · rw [if_neg h, if_neg h]
    unfold intK
    rw [List.map_append]
    rfl
theorem anyA {A : List (Str × Int)} {x : Str} : (A.any fun e => decide (e.1 = x)) = true ↔ x ∈ A.map (·.1) := by
  rw [List.any_eq_true, List.mem_map]
  constructor
  · rintro ⟨e, he, h⟩; exact ⟨e, he, of_decide_eq_true h⟩
  · rintro ⟨e, he, h⟩; exact ⟨e, he, decide_eq_true h⟩
theorem putA_new {A : List (Str × Int)} {x : Str} {v : Int} (h : x ∉ A.map (·.1)) : putA A x v = A ++ [(x, v)] := if_neg fun z => h (anyA.mp z)
theorem putA_keys {A : List (Str × Int)} {x : Str} {v : Int} (h : x ∈ A.map (·.1)) : (putA A x v).map (·.1) = A.map (·.1) := by
  unfold putA
  rw [if_pos (anyA.mpr h), List.map_map]
  refine List.map_congr_left fun e _ => ?_
  show (if e.1 = x then (x, v) else e).1 = e.1
  split
  · next z => exact z.symm
  · rfl
theorem aget_cons (e : Str × Int) (A : List (Str × Int)) (y : Str) : aget (e :: A) y = if e.1 = y then some e.2 else aget A y := by
  unfold aget
  rw [List.find?_cons]
  by_cases h : e.1 = y
  · simp [h]
  · simp [h]
theorem aget_app {A : List (Str × Int)} {x : Str} {v : Int} (h : x ∉ A.map (·.1)) (y : Str) : aget (A ++ [(x, v)]) y = if x = y then some v else aget A y := by
  induction A with
  | nil => rw [List.nil_append, aget_cons] <;> rfl
  | cons e A ih =>
    rw [List.cons_append, aget_cons, aget_cons, ih fun z => h (List.mem_cons_of_mem _ z)]
    by_cases c : e.1 = y
    · rw [if_pos c, if_pos c]
      by_cases d : x = y
      · exact absurd (by rw [d, ← c]; exact List.mem_cons_self) h
      · rw [if_neg d]
    · rw [if_neg c, if_neg c]
theorem aget_rep (x : Str) (v : Int) (y : Str) : ∀ A : List (Str × Int), aget (A.map fun e => if e.1 = x then (x, v) else e) y = if x = y then (if x ∈ A.map (·.1) then some v else none) else aget A y
  | [] => by split <;> rfl
  | e :: A => by
    rw [List.map_cons, aget_cons, aget_cons, aget_rep x v y A]
    by_cases c : e.1 = x
    · rw [if_pos c]
      by_cases d : x = y
      · rw [if_pos d, if_pos d, if_pos (by rw [List.map_cons, c]; exact List.mem_cons_self)]
      · have h1 : ¬ e.1 = y := fun z => d (c.symm.trans z)
        simp [d, h1]
    · rw [if_neg c]
      by_cases d : x = y
      · have h1 : ¬ e.1 = y := fun z => c (z.trans d.symm)
        rw [if_neg h1, if_pos d, if_pos d]
        have : x ∈ (e :: A).map (·.1) ↔ x ∈ A.map (·.1) := by
          rw [List.map_cons, List.mem_cons]
          exact ⟨fun h => h.elim (fun z => absurd z.symm c) id, .inr⟩
        by_cases m : x ∈ A.map (·.1)
        · rw [if_pos m, if_pos (this.mpr m)]
        · rw [if_neg m, if_neg fun z => m (this.mp z)]
      · rw [if_neg d, if_neg d]
theorem aget_put {A : List (Str × Int)} {x : Str} {v : Int} (y : Str) : aget (putA A x v) y = if x = y then some v else aget A y := by
  by_cases h : x ∈ A.map (·.1)
  · unfold putA
    rw [if_pos (anyA.mpr h), aget_rep, if_pos h]
  · rw [putA_new h, aget_app h]
theorem aget_mem {A : List (Str × Int)} {x : Str} : (aget A x).isSome = true ↔ x ∈ A.map (·.1) := by
  induction A with
  | nil => simp [aget]
  | cons e A ih =>
    rw [aget_cons, List.map_cons, List.mem_cons, ← ih]
    by_cases c : e.1 = x
    · rw [if_pos c]; simp [c]
    · rw [if_neg c]; simp [Ne.symm c]
/-- a dict of values -/
structure Vd (H : Hp) (d : Addr) (A : List (Str × Int)) : Prop where
  un : H d = some (.dK (intK A))
  nd : (A.map (·.1)).Nodup
  few : A.length ≤ 40
theorem Vd.same {H H' : Hp} {d : Addr} {A : List (Str × Int)} (B : Vd H d A) (s : Same H H') : Vd H' d A := ⟨s _ _ B.un, B.nd, B.few⟩
theorem Vd.ax {H : Hp} {d : Addr} {A : List (Str × Int)} (B : Vd H d A) : Ax H d A := ⟨.inl B.un⟩
theorem intK_len (A : List (Str × Int)) : (intK A).length = A.length := by unfold intK; rw [List.length_map]
theorem aget_iff {A : List (Str × Int)} (nd : (A.map (·.1)).Nodup) (x : Str) (v : Int) : aget A x = some v ↔ (x, v) ∈ A := by
  induction A with
  | nil => simp [aget]
  | cons e A ih =>
    obtain ⟨n1, n2⟩ := List.nodup_cons.mp nd
    rw [aget_cons, List.mem_cons]
    by_cases c : e.1 = x
    · rw [if_pos c]
      constructor
      · intro h
        left
        have := Option.some.inj h
        rw [← c, ← this]
      · rintro (h | h)
        · rw [← h]
        · rw [← c] at h
          exact absurd (List.mem_map_of_mem (f := fun e : Str × Int => e.1) h) n1
    · rw [if_neg c, ih n2]
      constructor
      · exact .inr
      · rintro (h | h)
        · exact absurd (congrArg Prod.fst h).symm c
        · exact h
def SameA (L M : List (Str × Int)) : Prop := ∀ x, aget L x = aget M x
theorem SameA.keys {L M : List (Str × Int)} (s : SameA L M) {x : Str} (h : x ∈ L.map (·.1)) : x ∈ M.map (·.1) := by
  rw [← aget_mem] at h ⊢
  rw [← s x]
  exact h
theorem SameA.len {L M : List (Str × Int)} (s : SameA L M) (n1 : (L.map (·.1)).Nodup) (n2 : (M.map (·.1)).Nodup) : L.length = M.length := by
  have h1 := List.Nodup.length_le_of_subset n1 fun x hx => s.keys hx
  have h2 := List.Nodup.length_le_of_subset n2 fun x hx => SameA.keys (fun y => (s y).symm) hx
  rw [List.length_map, List.length_map] at h1 h2
  omega
theorem keysI {L : List (Str × Int)} {i : Nat} {k : Key} {v : V} (h : (intK L)[i]? = some (k, v)) : ∃ e, L[i]? = some e ∧ k = .inr e.1 ∧ v = .int e.2 := by
  unfold intK at h
  rw [List.getElem?_map] at h
  obtain ⟨e, he, q⟩ := Option.map_eq_some_iff.mp h
  exact ⟨e, he, (Prod.mk.inj q).1.symm, (Prod.mk.inj q).2.symm⟩
theorem all_repl (n : Nat) : (List.replicate n true).all id = true := by simp

theorem putA_mem {A : List (Str × Int)} {x y : Str} {v : Int} : y ∈ (putA A x v).map (·.1) ↔ y = x ∨ y ∈ A.map (·.1) := by
  rw [← aget_mem, aget_put, ← aget_mem]
  by_cases c : x = y
  · rw [if_pos c]; simp [c]
  · rw [if_neg c]; simp [Ne.symm c]
theorem putA_nd {A : List (Str × Int)} {x : Str} {v : Int} (nd : (A.map (·.1)).Nodup) : ((putA A x v).map (·.1)).Nodup := by
  by_cases h : x ∈ A.map (·.1)
  · rw [putA_keys h]; exact nd
  · rw [putA_new h, List.map_append]
    exact nd_snoc nd h
theorem putA_len (A : List (Str × Int)) (x : Str) (v : Int) : (putA A x v).length ≤ A.length + 1 := by
  unfold putA
  split
  · rw [List.length_map]; omega
  · rw [List.length_append] <;> exact Nat.le_refl _
end K19

set_option Elab.async false
set_option linter.all false
set_option maxRecDepth 100000
set_option maxHeartbeats 4000000
namespace K19
open PySem PySem.Spec PyProof.Rows L2 Cs CsX
/-! ### dicts with numbers as keys -/
section
variable {β : Type}
def zK (g : β → V) (L : List (Int × β)) : List (Key × V) := L.map fun e => (Sum.inl e.1, g e.2)
def zget (L : List (Int × β)) (v : Int) : Option β := (L.find? fun e => decide (e.1 = v)).map (·.2)
def putZ (L : List (Int × β)) (v : Int) (b : β) : List (Int × β) := if (L.any fun e => decide (e.1 = v)) = true then L.map (fun e => if e.1 = v then (v, b) else e) else L ++ [(v, b)]
theorem zget_cons (e : Int × β) (L : List (Int × β)) (v : Int) : zget (e :: L) v = if e.1 = v then some e.2 else zget L v := by
  unfold zget
  rw [List.find?_cons]
  by_cases h : e.1 = v
  · simp [h]
  · simp [h]
theorem zval (g : β → V) (v : Int) : ∀ L : List (Int × β), valV (zK g L) (.inl v) = (zget L v).map g
  | [] => rfl
  | e :: L => by
    have ih := zval g v L
    rw [zget_cons]
    unfold valV zK at *
    rw [List.map_cons, List.find?_cons]
    by_cases c : e.1 = v
    · simp [c]
    · rw [show decide ((Sum.inl e.1 : Key) = Sum.inl v) = false by simp [c], if_neg c]
      exact ih
theorem z_any (g : β → V) (L : List (Int × β)) (v : Int) : ((zK g L).any fun kv => decide (kv.1 = Sum.inl v)) = L.any fun e => decide (e.1 = v) := by
  unfold zK
  rw [List.any_map]
  congr 1
  funext e
  simp
theorem zput (g : β → V) (L : List (Int × β)) (v : Int) (b : β) : putK (zK g L) (.inl v) (g b) = zK g (putZ L v b) := by
  unfold putK putZ
  rw [z_any]
  by_cases h : (L.any fun e => decide (e.1 = v)) = true
  · rw [if_pos h, if_pos h]
    unfold zK
    rw [List.map_map, List.map_map]
    congr 1
    funext e
    by_cases z : e.1 = v
    · simp [z]
    · simp [z]
  · rw [if_neg h, if_neg h]
    unfold zK
    rw [List.map_append]
    rfl
theorem z_iff {L : List (Int × β)} {v : Int} : (L.any fun e => decide (e.1 = v)) = true ↔ v ∈ L.map (·.1) := by
  rw [List.any_eq_true, List.mem_map]
  constructor
  · rintro ⟨e, he, h⟩; exact ⟨e, he, of_decide_eq_true h⟩
  · rintro ⟨e, he, h⟩; exact ⟨e, he, decide_eq_true h⟩
theorem putZ_new {L : List (Int × β)} {v : Int} {b : β} (h : v ∉ L.map (·.1)) : putZ L v b = L ++ [(v, b)] := if_neg fun z => h (z_iff.mp z)
theorem putZ_keys (L : List (Int × β)) (v : Int) (b : β) : (putZ L v b).map (·.1) = if v ∈ L.map (·.1) then L.map (·.1) else L.map (·.1) ++ [v] := by
  unfold putZ
  by_cases h : v ∈ L.map (·.1)
  · rw [if_pos (z_iff.mpr h), if_pos h, List.map_map]
    refine List.map_congr_left fun e _ => ?_
    show (if e.1 = v then (v, b) else e).1 = e.1
    split
    · next z => exact z.symm
    · rfl
  · rw [if_neg fun z => h (z_iff.mp z), if_neg h, List.map_append] <;> rfl
theorem putZ_nd {L : List (Int × β)} {v : Int} {b : β} (nd : (L.map (·.1)).Nodup) : ((putZ L v b).map (·.1)).Nodup := by
  rw [putZ_keys]
  split
  · exact nd
  · next h => exact nd_snoc nd h
theorem putZ_len (L : List (Int × β)) (v : Int) (b : β) : (putZ L v b).length ≤ L.length + 1 := by
  unfold putZ
  split
  · rw [List.length_map]; omega
  · rw [List.length_append] <;> exact Nat.le_refl _
theorem zmem {L : List (Int × β)} {v : Int} : (zget L v).isSome = true ↔ v ∈ L.map (·.1) := by
  induction L with
  | nil => simp [zget]
  | cons e L ih =>
    rw [zget_cons, List.map_cons, List.mem_cons, ← ih]
    by_cases c : e.1 = v
    · rw [if_pos c]; simp [c]
    · rw [if_neg c]; simp [Ne.symm c]
theorem zget_at {L : List (Int × β)} (nd : (L.map (·.1)).Nodup) {i : Nat} {v : Int} {b : β} (h : L[i]? = some (v, b)) : zget L v = some b := by
  induction L generalizing i with
  | nil => cases h
  | cons e L ih =>
    obtain ⟨n1, n2⟩ := List.nodup_cons.mp nd
    rw [zget_cons]
    cases i with
    | zero =>
      rw [Option.some.inj h, if_pos rfl]
    | succ i =>
      rw [List.getElem?_cons_succ] at h
      have : e.1 ≠ v := fun z => n1 (List.mem_map.mpr ⟨(v, b), List.mem_of_getElem? h, z.symm⟩)
      rw [if_neg this]; exact ih n2 h
end
/-! ### who has taken a value -/
def tk (A : List (Str × Int)) (v : Int) : List Str := (A.filter fun e => decide (e.2 = v)).map (·.1)
def cnt (A : List (Str × Int)) (v : Int) : Nat := (tk A v).length
theorem cnt_cons (e : Str × Int) (A : List (Str × Int)) (v : Int) : cnt (e :: A) v = (if e.2 = v then 1 else 0) + cnt A v := by
  unfold cnt tk
  rw [List.filter_cons]
  by_cases c : e.2 = v
  · rw [if_pos (decide_eq_true c), if_pos c, List.map_cons, List.length_cons]; omega
  · rw [if_neg (by simpa using c), if_neg c]; omega
theorem cnt_app (A B : List (Str × Int)) (v : Int) : cnt (A ++ B) v = cnt A v + cnt B v := by
  unfold cnt tk
  rw [List.filter_append, List.map_append, List.length_append]
theorem tk_mem {A : List (Str × Int)} (nd : (A.map (·.1)).Nodup) {v : Int} {x : Str} : x ∈ tk A v ↔ aget A x = some v := by
  unfold tk
  rw [List.mem_map, aget_iff nd]
  constructor
  · rintro ⟨e, he, rfl⟩
    obtain ⟨h1, h2⟩ := List.mem_filter.mp he
    rw [← of_decide_eq_true h2]; exact h1
  · exact fun h => ⟨(x, v), List.mem_filter.mpr ⟨h, decide_eq_true rfl⟩, rfl⟩
theorem tk_nd {A : List (Str × Int)} (nd : (A.map (·.1)).Nodup) (v : Int) : (tk A v).Nodup := List.Pairwise.sublist (List.Sublist.map _ List.filter_sublist) nd
theorem cnt_rep {x : Str} {v u : Int} : ∀ {A : List (Str × Int)}, (A.map (·.1)).Nodup → x ∈ A.map (·.1) → cnt (A.map fun e => if e.1 = x then (x, v) else e) u + (if aget A x = some u then 1 else 0) = cnt A u + (if u = v then 1 else 0)
  | [], _, h => nomatch h
  | e :: A, nd, h => by
    obtain ⟨n1, n2⟩ := List.nodup_cons.mp nd
    rw [List.map_cons, cnt_cons, cnt_cons, aget_cons]
    by_cases c : e.1 = x
    · rw [if_pos c, if_pos c]
      have same : (A.map fun e => if e.1 = x then (x, v) else e) = A := by
        conv => rhs; rw [← List.map_id A]
        refine List.map_congr_left fun g hg => ?_
        have : g.1 ≠ x := fun z => n1 (by show e.1 ∈ _; rw [c, ← z]; exact List.mem_map_of_mem (f := fun e : Str × Int => e.1) hg)
        rw [if_neg this] <;> rfl
      rw [same]
      show (if v = u then 1 else 0) + cnt A u + (if some e.2 = some u then 1 else 0) = _
      by_cases a : e.2 = u
      · by_cases b : u = v
        · simp [a, b]
        · have : ¬ v = u := fun z => b z.symm
          simp [a, b, this]; omega
      · by_cases b : u = v
        · subst b; simp [a]; omega
        · have : ¬ v = u := fun z => b z.symm
          simp [a, b, this]
    · rw [if_neg c, if_neg c]
      rcases List.mem_cons.mp h with z | z
      · exact absurd z.symm c
      · have := cnt_rep (x := x) (v := v) (u := u) n2 z
        omega
theorem cnt_put {A : List (Str × Int)} (nd : (A.map (·.1)).Nodup) (x : Str) (v u : Int) : cnt (putA A x v) u + (if aget A x = some u then 1 else 0) = cnt A u + (if u = v then 1 else 0) := by
  by_cases h : x ∈ A.map (·.1)
  · unfold putA
    rw [if_pos (anyA.mpr h)]
    exact cnt_rep nd h
  · rw [putA_new h, cnt_app, cnt_cons]
    have : aget A x = none := by
      cases q : aget A x with
      | none => rfl
      | some v => exact absurd (aget_mem.mp (by rw [q] <;> rfl)) h
    rw [this]
    show cnt A u + ((if v = u then 1 else 0) + cnt [] u) + _ = _
    have z : cnt [] u = 0 := rfl
    rw [z]
    by_cases b : u = v
    · subst b; simp
    · have : ¬ v = u := fun z => b z.symm
      simp [b, this]
end K19

set_option Elab.async false
set_option linter.all false
set_option maxRecDepth 100000
set_option maxHeartbeats 4000000
namespace K19
open PySem PySem.Spec PyProof.Rows L2 Cs CsX
/-! ### the search -/
structure Se where
  W : List Int
  G : List (Int × Str)
  C : List (Str × Int)
section
variable (A : List (Str × Int)) (S : Str → List Int)
def hit (s : Se) (w : Int) (x : Str) : Bool := decide (x ∉ s.C.map (·.1)) && decide (w ∈ S x)
def scan (w : Int) (s : Se) : List Str → (Se × Str) ⊕ Se
  | [] => .inr s
  | x :: xs => if hit S s w x = true then
      match aget A x with
      | none => .inl (⟨s.W, s.G, s.C ++ [(x, w)]⟩, x)
      | some u => if u ∈ s.W then scan w ⟨s.W, s.G, s.C ++ [(x, w)]⟩ xs else scan w ⟨s.W ++ [u], s.G ++ [(u, x)], s.C ++ [(x, w)]⟩ xs
    else scan w s xs
inductive Run (ns : List Str) : Se → Nat → (Se × Str) ⊕ List Int → Prop
  | stop {s : Se} {p : Nat} : s.W.length ≤ p → Run ns s p (.inr s.W)
  | found {s : Se} {p : Nat} {w : Int} {r : Se × Str} : s.W[p]? = some w → scan A S w s ns = .inl r → Run ns s p (.inl r)
  | more {s t : Se} {p : Nat} {w : Int} {r : (Se × Str) ⊕ List Int} : s.W[p]? = some w → scan A S w s ns = .inr t → Run ns t (p + 1) r → Run ns s p r
inductive Up (s : Se) : List (Str × Int) → Option Str → List (Str × Int) → Prop
  | done {M : List (Str × Int)} : Up s M none M
  | step {M M' : List (Str × Int)} {w : Int} {x : Str} : aget s.C x = some w → Up s (putA M x w) (zget s.G w) M' → Up s M (some x) M'
inductive Wit (ns : List Str) (v : Int) : List (Str × Int) ⊕ List Int → Prop
  | want {W : List Int} : Run A S ns ⟨[v], [], []⟩ 0 (.inr W) → Wit ns v (.inr W)
  | fit {s : Se} {x : Str} {M : List (Str × Int)} : Run A S ns ⟨[v], [], []⟩ 0 (.inl (s, x)) → Up s A (some x) M → Wit ns v (.inl M)
end
inductive Sup (S : Str → List Int) (ns : List Str) : List (Int × Int) → List (Str × Int) → List (Str × Int) ⊕ List Int → Prop
  | nil {A : List (Str × Int)} : Sup S ns [] A (.inl A)
  | next {A : List (Str × Int)} {v k : Int} {hs : List (Int × Int)} {r : List (Str × Int) ⊕ List Int} : k ≤ (cnt A v : Int) → Sup S ns hs A r → Sup S ns ((v, k) :: hs) A r
  | fit {A M : List (Str × Int)} {v k : Int} {hs : List (Int × Int)} {r : List (Str × Int) ⊕ List Int} : (cnt A v : Int) < k → Wit A S ns v (.inl M) → Sup S ns ((v, k) :: hs) M r → Sup S ns ((v, k) :: hs) A r
  | want {A : List (Str × Int)} {v k : Int} {hs : List (Int × Int)} {W : List Int} : (cnt A v : Int) < k → Wit A S ns v (.inr W) → Sup S ns ((v, k) :: hs) A (.inr W)
section
variable {A : List (Str × Int)} {S : Str → List Int} {ns : List Str}
theorem Run.one {s : Se} {p : Nat} {r q : (Se × Str) ⊕ List Int} (a : Run A S ns s p r) (b : Run A S ns s p q) : r = q := by
  induction a with
  | stop h1 =>
    cases b with
    | stop h2 => rfl
    | found h2 _ => have := (List.getElem?_eq_some_iff.mp h2).1; omega
    | more h2 _ _ => have := (List.getElem?_eq_some_iff.mp h2).1; omega
  | found h1 h2 =>
    cases b with
    | stop h3 => have := (List.getElem?_eq_some_iff.mp h1).1; omega
    | found h3 h4 =>
      obtain rfl := Option.some.inj (h1.symm.trans h3)
      rw [h2] at h4; rw [Sum.inl.inj h4]
    | more h3 h4 _ =>
      obtain rfl := Option.some.inj (h1.symm.trans h3)
      rw [h2] at h4; cases h4
  | more h1 h2 _ ih =>
    cases b with
    | stop h3 => have := (List.getElem?_eq_some_iff.mp h1).1; omega
    | found h3 h4 =>
      obtain rfl := Option.some.inj (h1.symm.trans h3)
      rw [h2] at h4; cases h4
    | more h3 h4 r2 =>
      obtain rfl := Option.some.inj (h1.symm.trans h3)
      rw [h2] at h4
      obtain rfl := Sum.inr.inj h4
      exact ih r2
theorem Up.one {s : Se} {M N N' : List (Str × Int)} {o : Option Str} (a : Up s M o N) (b : Up s M o N') : N = N' := by
  induction a with
  | done => cases b; rfl
  | step h1 _ ih =>
    cases b with
    | step h2 r2 =>
      obtain rfl := Option.some.inj (h1.symm.trans h2)
      exact ih r2
theorem Wit.one {v : Int} {r q : List (Str × Int) ⊕ List Int} (a : Wit A S ns v r) (b : Wit A S ns v q) : r = q := by
  cases a with
  | want r1 =>
    cases b with
    | want r2 => rw [Sum.inr.inj (r1.one r2)]
    | fit r2 _ => cases r1.one r2
  | fit r1 u1 =>
    cases b with
    | want r2 => cases r1.one r2
    | fit r2 u2 =>
      have := Sum.inl.inj (r1.one r2)
      obtain ⟨rfl, rfl⟩ := Prod.mk.inj this
      rw [u1.one u2]
theorem Sup.one {hs : List (Int × Int)} {r q : List (Str × Int) ⊕ List Int} (a : Sup S ns hs A r) (b : Sup S ns hs A q) : r = q := by
  induction a with
  | nil => cases b; rfl
  | next h1 _ ih =>
    cases b with
    | next _ r2 => exact ih r2
    | fit h2 _ _ => omega
    | want h2 _ => omega
  | fit h1 w1 _ ih =>
    cases b with
    | next h2 _ => omega
    | fit _ w2 r2 =>
      obtain rfl := Sum.inl.inj (w1.one w2)
      exact ih r2
    | want _ w2 => cases w1.one w2
  | want h1 w1 =>
    cases b with
    | next h2 _ => omega
    | fit _ w2 _ => cases w1.one w2
    | want _ w2 => rw [Sum.inr.inj (w1.one w2)]
end
/-! ### what holds -/
structure FitOk (ns : List Str) (S : Str → List Int) (h : Int → Option Int) (A : List (Str × Int)) : Prop where
  nd : (A.map (·.1)).Nodup
  sub : ∀ x ∈ A.map (·.1), x ∈ ns
  inS : ∀ x v, aget A x = some v → v ∈ S x
  le : ∀ v k, h v = some k → (cnt A v : Int) ≤ k
  inK : ∀ x v, aget A x = some v → (h v).isSome = true
structure Ck (A : List (Str × Int)) (h : Int → Option Int) (S : Str → List Int) (ns : List Str) (v0 : Int) (s : Se) : Prop where
  wnd : s.W.Nodup
  whd : s.W[0]? = some v0
  gk : s.G.map (·.1) = s.W.drop 1
  cnd : (s.C.map (·.1)).Nodup
  cl : ∀ x w, aget s.C x = some w → x ∈ ns ∧ w ∈ S x ∧ ∃ j : Nat, s.W[j]? = some w
  gv : ∀ w n, zget s.G w = some n → aget A n = some w ∧ ∃ (i j : Nat) (u : Int), s.W[i]? = some w ∧ aget s.C n = some u ∧ s.W[j]? = some u ∧ j < i
  inK : ∀ w ∈ s.W, (h w).isSome = true
/-- all who are called have taken a wanted value -/
def Tk (A : List (Str × Int)) (s : Se) : Prop := ∀ x ∈ s.C.map (·.1), ∃ u, aget A x = some u ∧ u ∈ s.W
section
variable {A : List (Str × Int)} {h : Int → Option Int} {S : Str → List Int} {ns : List Str} {v0 w : Int} {x : Str} {s : Se}
theorem aget_none {A : List (Str × Int)} {x : Str} (h : x ∉ A.map (·.1)) : aget A x = none := by
  cases q : aget A x with
  | none => rfl
  | some v => exact absurd (aget_mem.mp (by rw [q] <;> rfl)) h
theorem Ck.start (hv : (h v0).isSome = true) : Ck A h S ns v0 ⟨[v0], [], []⟩ ∧ Tk A ⟨[v0], [], []⟩ :=
  ⟨⟨List.pairwise_singleton _ _, rfl, rfl, List.Pairwise.nil, (fun _ _ h => nomatch h), (fun _ _ h => nomatch h), fun w hw => by rw [List.mem_singleton.mp hw]; exact hv⟩, fun _ h => nomatch h⟩
theorem Ck.call (I : Ck A h S ns v0 s) (hx : x ∈ ns) (hw : w ∈ S x) (ww : w ∈ s.W) (nx : x ∉ s.C.map (·.1)) : Ck A h S ns v0 ⟨s.W, s.G, s.C ++ [(x, w)]⟩ := by
  have get : ∀ y, aget (s.C ++ [(x, w)]) y = if x = y then some w else aget s.C y := fun y => aget_app nx y
  refine ⟨I.wnd, I.whd, I.gk, by rw [List.map_append]; exact nd_snoc I.cnd nx, fun y u hy => ?_, fun u n hn => ?_, I.inK⟩
  · replace hy : aget (s.C ++ [(x, w)]) y = some u := hy
    rw [get] at hy
    split at hy
    · next z => obtain rfl := Option.some.inj hy; rw [← z]; exact ⟨hx, hw, List.mem_iff_getElem?.mp ww⟩
    · exact I.cl y u hy
  · obtain ⟨h1, i, j, t, h2, h3, h4, h5⟩ := I.gv u n hn
    have : x ≠ n := fun z => nx (aget_mem.mp (by rw [z, h3] <;> rfl))
    exact ⟨h1, i, j, t, h2, by show aget (s.C ++ [(x, w)]) n = _; rw [get, if_neg this]; exact h3, h4, h5⟩
theorem Ck.add (F : FitOk ns S h A) (I : Ck A h S ns v0 s) (hx : x ∈ ns) (hw : w ∈ S x) (ww : w ∈ s.W) (nx : x ∉ s.C.map (·.1)) {u : Int} (hu : aget A x = some u) (nu : u ∉ s.W) : Ck A h S ns v0 ⟨s.W ++ [u], s.G ++ [(u, x)], s.C ++ [(x, w)]⟩ := by
  have J := I.call hx hw ww nx
  have w0 : 0 < s.W.length := (List.getElem?_eq_some_iff.mp I.whd).1
  have gk : (s.G ++ [(u, x)]).map (·.1) = (s.W ++ [u]).drop 1 := by
    rw [List.map_append, I.gk, List.drop_append_of_le_length (by omega)] <;> rfl
  have up : ∀ {i : Nat} {t : Int}, s.W[i]? = some t → (s.W ++ [u])[i]? = some t := fun {i t} h => by rw [List.getElem?_append_left (List.getElem?_eq_some_iff.mp h).1]; exact h
  refine ⟨nd_snoc I.wnd nu, up I.whd, gk, J.cnd, fun y t hy => ?_, fun t n hn => ?_, fun t ht => ?_⟩
  · obtain ⟨h1, h2, j, h3⟩ := J.cl y t hy
    exact ⟨h1, h2, j, up h3⟩
  · replace hn : zget (s.G ++ [(u, x)]) t = some n := hn
    have gn : u ∉ s.G.map (·.1) := by rw [I.gk]; exact fun z => nu (List.mem_of_mem_drop z)
    have split_ : zget (s.G ++ [(u, x)]) t = if u = t then some x else zget s.G t := by
      clear hn gk
      generalize s.G = G at gn
      induction G with
      | nil => rw [List.nil_append, zget_cons] <;> rfl
      | cons e G ih =>
        rw [List.cons_append, zget_cons, zget_cons, ih fun z => gn (List.mem_cons_of_mem _ z)]
        by_cases c : e.1 = t
        · rw [if_pos c, if_pos c]
          by_cases d : u = t
          · exact absurd (by rw [d, ← c]; exact List.mem_cons_self) gn
          · rw [if_neg d]
        · rw [if_neg c, if_neg c]
    rw [split_] at hn
    split at hn
    · next z =>
      obtain rfl := Option.some.inj hn
      subst z
      obtain ⟨j, hj⟩ := List.mem_iff_getElem?.mp ww
      refine ⟨hu, s.W.length, j, w, by rw [List.getElem?_append_right (Nat.le_refl _), Nat.sub_self] <;> rfl, ?_, up hj, (List.getElem?_eq_some_iff.mp hj).1⟩
      show aget (s.C ++ [(x, w)]) x = some w
      rw [aget_app nx, if_pos rfl]
    · obtain ⟨h1, i, j, q, h2, h3, h4, h5⟩ := J.gv t n hn
      exact ⟨h1, i, j, q, up h2, h3, up h4, h5⟩
  · rcases List.mem_append.mp ht with z | z
    · exact I.inK t z
    · rw [List.mem_singleton.mp z]; exact F.inK x u hu
theorem Tk.call (T : Tk A s) {u : Int} (hu : aget A x = some u) (hw : u ∈ s.W) : Tk A ⟨s.W, s.G, s.C ++ [(x, w)]⟩ := fun y hy => by
  replace hy : y ∈ (s.C ++ [(x, w)]).map (·.1) := hy
  rw [List.map_append] at hy
  rcases List.mem_append.mp hy with z | z
  · exact T y z
  · rw [List.mem_singleton.mp z]; exact ⟨u, hu, hw⟩
theorem Tk.add (T : Tk A s) {u : Int} (hu : aget A x = some u) : Tk A ⟨s.W ++ [u], s.G ++ [(u, x)], s.C ++ [(x, w)]⟩ := fun y hy => by
  replace hy : y ∈ (s.C ++ [(x, w)]).map (·.1) := hy
  rw [List.map_append] at hy
  rcases List.mem_append.mp hy with z | z
  · obtain ⟨t, h1, h2⟩ := T y z
    exact ⟨t, h1, List.mem_append_left _ h2⟩
  · rw [List.mem_singleton.mp z]; exact ⟨u, hu, List.mem_append_right _ (List.mem_singleton.mpr rfl)⟩
end
/-- too many are wanted -/
structure Want (h : Int → Option Int) (S : Str → List Int) (ns : List Str) (W : List Int) : Prop where
  nd : W.Nodup
  inK : ∀ w ∈ W, (h w).isSome = true
  few : ((ns.filter fun x => (S x).any fun v => decide (v ∈ W)).length : Int) < (W.map fun w => (h w).getD 0).sum
def tot (A : List (Str × Int)) : List Int → Nat
  | [] => 0
  | v :: vs => cnt A v + tot A vs
section
variable {A : List (Str × Int)} {h : Int → Option Int} {S : Str → List Int} {ns : List Str} {v0 w : Int} {x : Str} {s : Se}
theorem tot_in {A : List (Str × Int)} : ∀ {W : List Int}, W.Nodup → (A.filter fun e => decide (e.2 ∈ W)).length = tot A W := by
  intro W
  induction A with
  | nil =>
    intro _
    induction W with
    | nil => rfl
    | cons w W ih2 => show 0 = cnt [] w + tot [] W; rw [← ih2 (by rename_i n; exact (List.nodup_cons.mp n).2)] <;> rfl
  | cons e A ih =>
    intro nd
    have key : ∀ W : List Int, W.Nodup → tot (e :: A) W = (if e.2 ∈ W then 1 else 0) + tot A W := by
      intro W nd
      induction W with
      | nil => rfl
      | cons w W ih2 =>
        obtain ⟨n1, n2⟩ := List.nodup_cons.mp nd
        show cnt (e :: A) w + tot (e :: A) W = _ + (cnt A w + tot A W)
        rw [ih2 n2, cnt_cons]
        by_cases c : e.2 = w
        · have : e.2 ∉ W := fun z => n1 (c ▸ z)
          simp [c, n1]; omega
        · simp [c]; omega
    rw [key W nd, List.filter_cons]
    by_cases c : e.2 ∈ W
    · rw [if_pos (decide_eq_true c), if_pos c, List.length_cons, ih nd]; omega
    · rw [if_neg (by simpa using c), if_neg c, ih nd]; omega
theorem Ck.want (F : FitOk ns S h A) (nn : ns.Nodup) (I : Ck A h S ns v0 s) (T : Tk A s) (lt : ∃ k, h v0 = some k ∧ (cnt A v0 : Int) < k) (all : ∀ x ∈ ns, ∀ w ∈ s.W, w ∈ S x → x ∈ s.C.map (·.1)) : Want h S ns s.W := by
  refine ⟨I.wnd, I.inK, ?_⟩
  have h1 : (ns.filter fun x => (S x).any fun v => decide (v ∈ s.W)).length ≤ (A.filter fun e => decide (e.2 ∈ s.W)).length := by
    rw [← List.length_map (f := fun e : Str × Int => e.1) (as := A.filter _)]
    refine List.Nodup.length_le_of_subset (List.Nodup.sublist List.filter_sublist nn) fun x hx => ?_
    obtain ⟨h1, h2⟩ := List.mem_filter.mp hx
    obtain ⟨v, hv, hw⟩ := List.any_eq_true.mp h2
    obtain ⟨u, e1, e2⟩ := T x (all x h1 v (of_decide_eq_true hw) hv)
    exact List.mem_map.mpr ⟨(x, u), List.mem_filter.mpr ⟨(aget_iff F.nd x u).mp e1, decide_eq_true e2⟩, rfl⟩
  rw [tot_in I.wnd] at h1
  obtain ⟨k0, hk0, lt0⟩ := lt
  have key : ∀ W : List Int, (∀ w ∈ W, (h w).isSome = true) → (tot A W : Int) ≤ (W.map fun w => (h w).getD 0).sum ∧ (v0 ∈ W → (tot A W : Int) < (W.map fun w => (h w).getD 0).sum) := by
    intro W
    induction W with
    | nil => intro _; exact ⟨Int.le_refl _, fun z => nomatch z⟩
    | cons w W ih =>
      intro hW
      obtain ⟨i1, i2⟩ := ih fun u hu => hW u (List.mem_cons_of_mem _ hu)
      obtain ⟨k, hk⟩ := Option.isSome_iff_exists.mp (hW w List.mem_cons_self)
      have le := F.le w k hk
      rw [List.map_cons, List.sum_cons, hk]
      show ((cnt A w + tot A W : Nat) : Int) ≤ k + _ ∧ (_ → ((cnt A w + tot A W : Nat) : Int) < k + _)
      refine ⟨by omega, fun z => ?_⟩
      rcases List.mem_cons.mp z with q | q
      · subst q
        rw [hk0] at hk
        obtain rfl := Option.some.inj hk
        omega
      · have := i2 q; omega
  have := (key s.W I.inK).2 (List.mem_of_getElem? I.whd)
  omega
end
/-! ### calling up -/
structure UpI (A : List (Str × Int)) (S : Str → List Int) (ns : List Str) (v0 : Int) (s : Se) (M : List (Str × Int)) (pn : Option Str) : Prop where
  nd : (M.map (·.1)).Nodup
  sub : ∀ x ∈ M.map (·.1), x ∈ ns
  inS : ∀ x v, aget M x = some v → v ∈ S x
  inW : ∀ x v, aget M x = some v → aget A x = some v ∨ v ∈ s.W
  cs : ∀ x, pn = some x → (∀ u, cnt M u = cnt A u + (if aget A x = some u then 1 else 0)) ∧ ∃ (w : Int) (j : Nat), aget s.C x = some w ∧ s.W[j]? = some w ∧ ∀ y u i, aget s.C y = some u → s.W[i]? = some u → i ≤ j → aget M y = aget A y
  cn : pn = none → ∀ u, cnt M u = cnt A u + (if u = v0 then 1 else 0)
section
variable {A M : List (Str × Int)} {h : Int → Option Int} {S : Str → List Int} {ns : List Str} {v0 w : Int} {x : Str} {s : Se}
theorem UpI.start (F : FitOk ns S h A) (I : Ck A h S ns v0 s) (hx : aget s.C x = some w) (nx : aget A x = none) : UpI A S ns v0 s A (some x) := by
  obtain ⟨_, _, j, hj⟩ := I.cl x w hx
  refine ⟨F.nd, F.sub, F.inS, fun y v hy => .inl hy, fun y hy => ?_, fun z => nomatch z⟩
  obtain rfl := Option.some.inj hy
  exact ⟨fun u => by rw [nx] <;> rfl, w, j, hx, hj, fun _ _ _ _ _ _ => rfl⟩
theorem UpI.step (I : Ck A h S ns v0 s) (U : UpI A S ns v0 s M (some x)) : ∃ (w : Int) (j : Nat), aget s.C x = some w ∧ s.W[j]? = some w ∧ UpI A S ns v0 s (putA M x w) (zget s.G w) ∧ ∀ n, zget s.G w = some n → ∃ (u : Int) (i : Nat), aget s.C n = some u ∧ s.W[i]? = some u ∧ i < j := by
  obtain ⟨cs, w, j, hx, hj, un⟩ := U.cs x rfl
  obtain ⟨c1, c2, _⟩ := I.cl x w hx
  have unx := un x w j hx hj (Nat.le_refl _)
  have cn : ∀ u, cnt (putA M x w) u = cnt A u + (if u = w then 1 else 0) := fun u => by
    have h1 := cnt_put U.nd x w u
    have h2 := cs u
    rw [unx] at h1
    omega
  have low : ∀ n, zget s.G w = some n → ∃ (u : Int) (i : Nat), aget s.C n = some u ∧ s.W[i]? = some u ∧ i < j := fun n hn => by
    obtain ⟨_, i, i2, u, h2, h3, h4, h5⟩ := I.gv w n hn
    have := nd_ix I.wnd h2 hj
    exact ⟨u, i2, h3, h4, by omega⟩
  refine ⟨w, j, hx, hj, ⟨putA_nd U.nd, fun y hy => ?_, fun y u hy => ?_, fun y u hy => ?_, fun n hn => ?_, fun hn u => ?_⟩, low⟩
  · rcases putA_mem.mp hy with z | z
    · rw [z]; exact c1
    · exact U.sub y z
  · rw [aget_put] at hy
    split at hy
    · next z => rw [← Option.some.inj hy, ← z]; exact c2
    · exact U.inS y u hy
  · rw [aget_put] at hy
    split at hy
    · rw [← Option.some.inj hy]; exact .inr (List.mem_of_getElem? hj)
    · exact U.inW y u hy
  · obtain ⟨g1, _⟩ := I.gv w n hn
    obtain ⟨u, i, e1, e2, e3⟩ := low n hn
    refine ⟨fun t => ?_, u, i, e1, e2, fun y q k hy hk ki => ?_⟩
    · rw [cn t, g1]
      by_cases c : t = w
      · rw [if_pos c, if_pos (by rw [c])]
      · rw [if_neg c, if_neg fun z => c (Option.some.inj z).symm]
    · have xy : x ≠ y := fun z => by
        subst z
        rw [hx] at hy
        obtain rfl := Option.some.inj hy
        have := nd_ix I.wnd hk hj
        omega
      rw [aget_put, if_neg xy]
      exact un y q k hy hk (by omega)
  · have w0 : w = v0 := by
      refine Decidable.byContradiction fun z => ?_
      have : w ∈ s.W.drop 1 := by
        cases j with
        | zero => rw [I.whd] at hj; exact absurd (Option.some.inj hj).symm z
        | succ j =>
          refine List.mem_iff_getElem?.mpr ⟨j, ?_⟩
          rw [List.getElem?_drop, Nat.add_comm]; exact hj
      rw [← I.gk] at this
      have := zmem.mpr this
      rw [hn] at this; cases this
    rw [cn u, w0]
theorem UpI.done (F : FitOk ns S h A) (I : Ck A h S ns v0 s) (lt : ∃ k, h v0 = some k ∧ (cnt A v0 : Int) < k) (U : UpI A S ns v0 s M none) : FitOk ns S h M ∧ cnt M v0 = cnt A v0 + 1 ∧ ∀ u, u ≠ v0 → cnt M u = cnt A u := by
  have cn := U.cn rfl
  refine ⟨⟨U.nd, U.sub, U.inS, fun u k hk => ?_, fun x v hx => ?_⟩, by rw [cn, if_pos rfl], fun u hu => by rw [cn, if_neg hu, Nat.add_zero]⟩
  · rw [cn u]
    by_cases c : u = v0
    · subst c
      obtain ⟨k0, hk0, l0⟩ := lt
      rw [hk0] at hk
      obtain rfl := Option.some.inj hk
      rw [if_pos rfl]; omega
    · rw [if_neg c]
      exact F.le u k hk
  · rcases U.inW x v hx with z | z
    · exact F.inK x v z
    · exact I.inK v z
end
end K19

set_option Elab.async false
set_option linter.all false
set_option maxRecDepth 100000
set_option maxHeartbeats 4000000
namespace K19
open PySem PySem.Spec PyProof.Rows L2 Cs CsX
theorem zdget {β : Type} {g : β → V} {H : Hp} {d : Addr} {L : List (Int × β)} (h : H d = some (.dK (zK g L))) (v : Int) : DGet H d (.int v) ((zget L v).map g) :=
  .inl ⟨zK g L, .inl v, .inl h, rfl, (zval g v L).symm⟩
theorem zK_len {β : Type} (g : β → V) (L : List (Int × β)) : (zK g L).length = L.length := by unfold zK; rw [List.length_map]
def optS : Option Str → V
  | none => .non
  | some v => .str v
theorem optS_get (o : Option Str) : (o.map V.str).getD .non = optS o := by cases o <;> rfl
def Fit (L : List Ent) (ns : List Str) (S : Str → List Int) : Prop := ∀ x ∈ ns, look L x = some (S x)
theorem Fit.get {H : Hp} {b : Addr} {L : List Ent} {ns : List Str} {S : Str → List Int} (B : Bx H b L) (F : Fit L ns S) {x : Str} (hx : x ∈ ns) : ∃ a, DGet H b (.str x) (some (.ref a)) ∧ H a = some (.lst ((S x).map V.int)) := by
  have h := F x hx
  unfold look at h
  obtain ⟨e, he, e2⟩ := Option.map_eq_some_iff.mp h
  have g := B.get x
  rw [he] at g
  refine ⟨e.2.1, g, ?_⟩
  rw [← e2]; exact B.sides e (getE_mem he).1
theorem drop_at {α : Type} {xs : List α} {j : Nat} {a : α} (h : xs[j]? = some a) : xs.drop j = a :: xs.drop (j + 1) := by
  obtain ⟨h1, h2⟩ := List.getElem?_eq_some_iff.mp h
  rw [List.drop_eq_getElem_cons h1, h2]
theorem FitOk.few {ns : List Str} {S : Str → List Int} {h : Int → Option Int} {A : List (Str × Int)} (F : FitOk ns S h A) : A.length ≤ ns.length := by
  have := List.Nodup.length_le_of_subset F.nd fun x hx => F.sub x hx
  rwa [List.length_map] at this
section
variable {P : Program} {w : World} {K : PySem.W.Frag} {mg : Str → Option Value} {base : Heap}
abbrev sTk : Stmt := topS 2
abbrev nTk : List Str := ["fit", "value", "name"]
theorem scTk : FnScope nTk ["fit", "value"] (defScope sTk) := ⟨rfl, rfl, rfl, by decide +kernel, rfl, by decide +kernel, by decide +kernel⟩
def spTk : Sp := fun vs H Q _ => ∃ (d : Addr) (v : Int) (A : List (Str × Int)), vs = [.ref d, .int v] ∧ H d = some (.dK (intK A)) ∧ (A.map (·.1)).Nodup ∧ A.length ≤ 40 ∧
  ∀ (H' : Hp) (r : Addr), Same H H' → H r = none → H' r = some (.lst ((tk A v).map V.str)) → Q (.ref r) H'
theorem ok_Tk {f  : Addr} {fd  : FuncData} (F : Fun K "_takers" "_takers" sTk f fd) (B : Bt mg) :
    FnOk P w K mg base CX0 1 f fd ["fit", "value"] spTk := by
  refine F.ok scTk (fun vs H Q E h => ?_) (fun cdv A outer s H vs Q E hr h => ?_)
  · obtain ⟨d, v, A, rfl, _⟩ := h
    rfl
  · obtain ⟨d, v, A', rfl, ed, nA, few, q⟩ := h
    have hu := hu_of hr
    have nd := scTk.nd
    refine ⟨_, pss_one (ps_ret (pe_lock (pe_lc (own := [("name", 2)]) (g := gName 2) (tt := _) (te := tVar 2) rfl nd (pi_keys (pv 0)) (blkOk_by (N := nTk) (sc := defScope sTk) (by decide +kernel)) (fun _ _ _ _ _ => pg_name (i := 2) nd rfl (.inl rfl)) (fun _ _ _ _ _ => pts_one (pt_cmpR op_eq (pe_dget hu (pv 0) (pv 2) (fun _ _ => rfl)) (pv 1) rfl))
          (fun _ _ _ _ _ => (pv 2))))), ?_⟩
    refine ⟨d, _, ed, trivial, fun od => ?_⟩
    refine ⟨.ref d, rfl, d, od, rfl, .inl ⟨intK A', upd_same, fun D nD => lc_it walk_keys (fun i H' => Same (upd H d (.frz od (.dK (intK A')))) H' ∧ H' D = some (.lst ((((A'.take i).filter fun e => decide (e.2 = v)).map (·.1)).map V.str))) ⟨same_new nD, upd_same⟩ (fun i H' _ h => h.1 _ _ upd_same) ?_ ?_⟩⟩
    · rintro i x Hz H' hi ⟨sm, eD⟩ ⟨rfl, k1, v1, hk, rfl⟩
      obtain ⟨x, hx, rfl, rfl⟩ := keysI hk
      have xm := List.mem_of_getElem? hx
      have gx := (aget_iff nA x.1 x.2).mpr xm
      have gv := (Ax.get (H := H') (d := d) (A := A') ⟨.inr ⟨od, sm _ _ upd_same⟩⟩ x.1)
      rw [gx] at gv
      have fs := filter_snoc (p := fun e : Str × Int => decide (e.2 = v)) hx
      have fl := filter_len A' (fun e => decide (e.2 = v)) i
      refine ⟨rfl, _, rfl, _, rfl, d, .int x.2, rfl, gv, _, rfl, rfl, _, rfl, ite_both (fun c => ⟨_, rfl, _, eD, by rw [List.length_map, List.length_map]; exact small1000 (by omega), same_at sm nD, ?_⟩) fun c => ⟨sm, ?_⟩⟩
      · have c' : x.2 = v := V.int.inj (of_decide_eq_true c)
        rw [fs, if_pos (decide_eq_true c'), upd_same, List.map_append, List.map_append] <;> rfl
      · have c' : ¬ x.2 = v := fun z => of_decide_eq_false c (by rw [z])
        rw [fs, if_neg (by rw [decide_eq_false c']; decide), List.append_nil]; exact eD
    · rintro H' ⟨sm, eD⟩
      rw [intK_len, List.take_length] at eD
      have eF := sm _ _ (upd_same (H := H) (a := d) (o := HO.frz od (.dK (intK A'))))
      have nDe : D ≠ d := fun z => by rw [z, eF] at eD; cases eD
      refine ⟨eF, ?_⟩
      exact q _ D (unlock ed sm) (by have := nD; rwa [upd_ne nDe] at this) (by rw [upd_ne nDe]; exact eD)
abbrev sMu : Stmt := topS 5
abbrev nMu : List Str := ["fit", "callers", "giving", "name", "moved"]
theorem scMu : FnScope nMu ["fit", "callers", "giving", "name"] (defScope sMu) := ⟨rfl, rfl, rfl, by decide +kernel, rfl, by decide +kernel, by decide +kernel⟩
def spMu : Sp := fun vs H Q _ => ∃ (d b g : Addr) (x : Str) (A : List (Str × Int)) (s : Se) (S : Str → List Int) (ns : List Str) (v0 w : Int) (h : Int → Option Int), vs = [.ref d, .ref b, .ref g, .str x] ∧ H d = some (.dK (intK A)) ∧ H b = some (.dK (intK s.C)) ∧ H g = some (.dK (zK V.str s.G)) ∧ Ck A h S ns v0 s ∧ FitOk ns S h A ∧ aget s.C x = some w ∧ aget A x = none ∧ ns.length ≤ 40 ∧ (∃ k, h v0 = some k ∧ (cnt A v0 : Int) < k) ∧
  ∀ (H' : Hp) (r : Addr) (M : List (Str × Int)), Same H H' → H r = none → H' r = some (.dK (intK M)) → Up s A (some x) M → FitOk ns S h M → cnt M v0 = cnt A v0 + 1 → (∀ u, u ≠ v0 → cnt M u = cnt A u) → Q (.ref r) H'
theorem ok_Mu {f  : Addr} {fd  : FuncData} (F : Fun K "_called_up" "_called_up" sMu f fd) (B : Bt mg) :
    FnOk P w K mg base CX0 1 f fd ["fit", "callers", "giving", "name"] spMu := by
  refine F.ok scMu (fun vs H Q E h => ?_) (fun cdv A outer s H vs Q E hr h => ?_)
  · obtain ⟨d, b, g, x, A, s, S, ns, v0, w, h, rfl, _⟩ := h
    rfl
  · obtain ⟨d, b, g, x, A', sk, S, ns, v0, w0, h, rfl, ed, eb, eg, I1, F1, hx, nx, few, lt, q⟩ := h
    have hu := hu_of hr
    have nd := scMu.nd
    refine ⟨_, pss_cons (ps_set (i := 4) nd rfl (.inl rfl) (pe_callTy call_dictD (by rfl) B.dict PyProof.Rows.boot_dict (pa_cons (pv 0) pa_nil)))
      (pss_cons (ps_while PassesOwn.never (pt_cmp (pc_notN (pv 3)))
        (pss_cons (ps_dput hu (pv 4) (pv 3) (pe_dget hu (pv 1) (pv 3) (fun _ _ => rfl)) rfl)
          (pss_one (ps_set (i := 3) nd rfl (.inl rfl) (pe_dget1 hu (pv 2) (pe_dget hu (pv 1) (pv 3) (fun _ _ => rfl)) ⟨rfl, rfl, rfl, rfl⟩)))))
      (pss_one (ps_ret (pv 4)))), ?_⟩
    refine ⟨_, rfl, d, _, rfl, .inl ed, fun R nR => ?_⟩
    refine ⟨fun n σ H' => ∃ (M : List (Str × Int)) (pn : Option Str), ((pn = none ∧ n = 0) ∨ ∃ (x : Str) (w : Int) (i : Nat), pn = some x ∧ aget sk.C x = some w ∧ sk.W[i]? = some w ∧ n = i + 1) ∧ σ = [some (.ref d), some (.ref b), some (.ref g), some (optS pn), some (.ref R)] ∧ Same H H' ∧ H' R = some (.dK (intK M)) ∧ UpI A' S ns v0 sk M pn ∧ ∀ N, Up sk M pn N → Up sk A' (some x) N, ?start, ?_⟩
    case start =>
      obtain ⟨_, _, j, hj⟩ := I1.cl x w0 hx
      exact ⟨_, A', some x, .inr ⟨x, w0, j, rfl, hx, hj, rfl⟩, rfl, same_new nR, upd_same, UpI.start F1 I1 hx nx, fun N h => h⟩
    rintro n σ H1 ⟨M, pn, hn, rfl, s1, eR, U, up⟩
    cases pn with
    | none =>
      refine ⟨_, rfl, _, rfl, ?_⟩
      refine ite_both (fun c => absurd c (by decide)) fun _ => ?_
      obtain ⟨f1, f2, f3⟩ := U.done F1 I1 lt
      exact ⟨_, rfl, q _ R M s1 nR eR (up M .done) f1 f2 f3⟩
    | some y =>
      obtain ⟨w, j, hw, hj, U2, low⟩ := U.step I1
      have hn' : n = j + 1 := by
        rcases hn with ⟨z, _⟩ | ⟨y', w', i', z, h1, h2, h3⟩
        · cases z
        · obtain rfl := Option.some.inj z
          rw [hw] at h1
          obtain rfl := Option.some.inj h1
          have := nd_ix I1.wnd hj h2
          omega
      refine ⟨_, rfl, _, rfl, ?_⟩
      refine ite_both (fun _ => ?_) fun c => absurd c (by rw [show decide (optS (some y) = V.non) = false from decide_eq_false (fun z => nomatch z)]; decide)
      refine ⟨fun σ' H' => ∃ (n' : Nat) (M : List (Str × Int)) (pn : Option Str), n' < n ∧ ((pn = none ∧ n' = 0) ∨ ∃ (x : Str) (w : Int) (i : Nat), pn = some x ∧ aget sk.C x = some w ∧ sk.W[i]? = some w ∧ n' = i + 1) ∧ σ' = [some (.ref d), some (.ref b), some (.ref g), some (optS pn), some (.ref R)] ∧ Same H H' ∧ H' R = some (.dK (intK M)) ∧ UpI A' S ns v0 sk M pn ∧ ∀ N, Up sk M pn N → Up sk A' (some x) N, ?_, ?_⟩
      · rintro σ' H' ⟨n', M', pn', h1, h2, h3, h4, h5, h6, h7⟩
        exact ⟨n', h1, M', pn', h2, h3, h4, h5, h6, h7⟩
      have gb := Ax.get (H := H1) (d := b) (A := sk.C) ⟨.inl (s1 _ _ eb)⟩ y
      rw [hw] at gb
      have lM : M.length ≤ ns.length := by
        have := List.Nodup.length_le_of_subset U.nd fun x hx => U.sub x hx
        rwa [List.length_map] at this
      refine ⟨_, rfl, _, rfl, b, .int w, rfl, gb, _, rfl, _, rfl, R, _, rfl, DPut.k (k := .inr y) eR (by rw [intK_len]; exact small1000 (by omega)), ?_⟩
      rw [show putK (intK M) (Sum.inr y) (V.int w) = intK (putA M y w) from putK_int M y w]
      have s2 := same_at s1 nR (o := HO.dK (intK (putA M y w)))
      have gb2 := Ax.get (H := upd H1 R (.dK (intK (putA M y w)))) (d := b) (A := sk.C) ⟨.inl (s2 _ _ eb)⟩ y
      rw [hw] at gb2
      refine ⟨_, rfl, g, rfl, .inl ⟨_, .inl (s2 _ _ eg)⟩, _, rfl, _, rfl, b, .int w, rfl, gb2, _, zdget (s2 _ _ eg) w, ?_⟩
      rw [optS_get]
      cases e : zget sk.G w with
      | none =>
        rw [e] at U2
        exact ⟨0, putA M y w, none, by omega, .inl ⟨rfl, rfl⟩, rfl, s2, upd_same, U2, fun N h => up N (.step hw (by rw [e]; exact h))⟩
      | some n2 =>
        rw [e] at U2
        obtain ⟨u, i, h1, h2, h3⟩ := low n2 e
        exact ⟨i + 1, putA M y w, some n2, by omega, .inr ⟨n2, u, i, rfl, h1, h2, rfl⟩, rfl, s2, upd_same, U2, fun N h => up N (.step hw (by rw [e]; exact h))⟩
end
end K19

set_option Elab.async false
set_option linter.all false
set_option maxRecDepth 100000
set_option maxHeartbeats 4000000
namespace K19
open PySem PySem.Spec PyProof.Rows L2 Cs CsX
section
variable {A : List (Str × Int)} {S : Str → List Int} {w u : Int} {s : Se} {x : Str} {xs : List Str}
theorem hit_iff : hit S s w x = true ↔ x ∉ s.C.map (·.1) ∧ w ∈ S x := by unfold hit; simp
theorem scan_skip (h : ¬ (x ∉ s.C.map (·.1) ∧ w ∈ S x)) : scan A S w s (x :: xs) = scan A S w s xs := by
  show (if hit S s w x = true then _ else _) = _
  rw [if_neg fun z => h (hit_iff.mp z)]
theorem scan_free (h : x ∉ s.C.map (·.1) ∧ w ∈ S x) (n : aget A x = none) : scan A S w s (x :: xs) = .inl (⟨s.W, s.G, s.C ++ [(x, w)]⟩, x) := by
  show (if hit S s w x = true then (match aget A x with | none => _ | some u => _) else _) = _
  rw [if_pos (hit_iff.mpr h), n]
theorem scan_old (h : x ∉ s.C.map (·.1) ∧ w ∈ S x) (n : aget A x = some u) (m : u ∈ s.W) : scan A S w s (x :: xs) = scan A S w ⟨s.W, s.G, s.C ++ [(x, w)]⟩ xs := by
  show (if hit S s w x = true then (match aget A x with | none => _ | some u => if u ∈ s.W then _ else _) else _) = _
  rw [if_pos (hit_iff.mpr h), n]
  show (if u ∈ s.W then _ else _) = _
  rw [if_pos m]
theorem scan_add (h : x ∉ s.C.map (·.1) ∧ w ∈ S x) (n : aget A x = some u) (m : u ∉ s.W) : scan A S w s (x :: xs) = scan A S w ⟨s.W ++ [u], s.G ++ [(u, x)], s.C ++ [(x, w)]⟩ xs := by
  show (if hit S s w x = true then (match aget A x with | none => _ | some u => if u ∈ s.W then _ else _) else _) = _
  rw [if_pos (hit_iff.mpr h), n]
  show (if u ∈ s.W then _ else _) = _
  rw [if_neg m]
theorem Ck.few {h : Int → Option Int} {ns : List Str} {v0 : Int} (I : Ck A h S ns v0 s) : s.W.length ≤ A.length + 1 := by
  have := List.Nodup.length_le_of_subset I.wnd (l₂ := v0 :: A.map (·.2)) fun t ht => by
    obtain ⟨j, hj⟩ := List.mem_iff_getElem?.mp ht
    cases j with
    | zero => rw [I.whd] at hj; rw [← Option.some.inj hj]; exact List.mem_cons_self
    | succ j =>
      have hm : t ∈ s.G.map (·.1) := by
        rw [I.gk]
        exact List.mem_iff_getElem?.mpr ⟨j, by rw [List.getElem?_drop, Nat.add_comm]; exact hj⟩
      obtain ⟨n, hn⟩ := Option.isSome_iff_exists.mp (zmem.mpr hm)
      obtain ⟨h1, _⟩ := I.gv t n hn
      refine List.mem_cons_of_mem _ ?_
      unfold aget at h1
      obtain ⟨e, he, q⟩ := Option.map_eq_some_iff.mp h1
      rw [← q]
      exact List.mem_map_of_mem (f := fun e : Str × Int => e.2) (List.mem_of_find?_eq_some he)
  rwa [List.length_cons, List.length_map] at this
theorem Ck.fewC {h : Int → Option Int} {ns : List Str} {v0 : Int} (I : Ck A h S ns v0 s) : s.C.length ≤ ns.length := by
  have := List.Nodup.length_le_of_subset I.cnd fun x hx => by
    obtain ⟨w, hw⟩ := Option.isSome_iff_exists.mp (aget_mem.mpr hx)
    exact (I.cl x w hw).1
  rwa [List.length_map] at this
theorem Ck.fewG {h : Int → Option Int} {ns : List Str} {v0 : Int} (I : Ck A h S ns v0 s) : s.G.length ≤ s.W.length := by
  have := congrArg List.length I.gk
  rw [List.length_map, List.length_drop] at this
  omega
end
/-- the search at work -/
structure Hw (H' : Hp) (Wl Gd Cd : Addr) (s : Se) : Prop where
  eW : H' Wl = some (.lst (s.W.map V.int))
  eG : H' Gd = some (.dK (zK V.str s.G))
  eC : H' Cd = some (.dK (intK s.C))
section
variable {P : Program} {w : World} {K : PySem.W.Frag} {mg : Str → Option Value} {base : Heap}
abbrev sWn : Stmt := topS 4
abbrev nWn : List Str := ["box", "fit", "value", "wanted", "giving", "callers", "place", "caller", "name", "side"]
theorem scWn : FnScope nWn ["box", "fit", "value"] (defScope sWn) := ⟨rfl, rfl, rfl, by decide +kernel, rfl, by decide +kernel, by decide +kernel⟩
def spWn : Sp := fun vs H Q _ => ∃ (b d : Addr) (v : Int) (L : List Ent) (A : List (Str × Int)) (S : Str → List Int) (h : Int → Option Int), vs = [.ref b, .ref d, .int v] ∧ Bu H b L ∧ Fit L (L.map (·.1)) S ∧ H d = some (.dK (intK A)) ∧ b ≠ d ∧ FitOk (L.map (·.1)) S h A ∧ (∃ k, h v = some k ∧ (cnt A v : Int) < k) ∧
  (∀ (H' : Hp) (T r : Addr) (W : List Int), Same H H' → H T = none → H' T = some (.tup [.str "want", .ref r]) → H r = none → H' r = some (.lst (W.map V.int)) → Wit A S (L.map (·.1)) v (.inr W) → Want h S (L.map (·.1)) W → Q (.ref T) H') ∧
  (∀ (H' : Hp) (T r : Addr) (M : List (Str × Int)), Same H H' → H T = none → H' T = some (.tup [.str "fit", .ref r]) → H r = none → H' r = some (.dK (intK M)) → Wit A S (L.map (·.1)) v (.inl M) → FitOk (L.map (·.1)) S h M → cnt M v = cnt A v + 1 → (∀ u, u ≠ v → cnt M u = cnt A u) → Q (.ref T) H')
theorem ok_Wn {f f0 : Addr} {fd fd0 : FuncData} (F : Fun K "_with_taker" "_with_taker" sWn f fd) (B : Bt mg) (CMu : Call P w K mg base 1 "_called_up" f0 fd0 ["fit", "callers", "giving", "name"] spMu) :
    FnOk P w K mg base CX0 2 f fd ["box", "fit", "value"] spWn := by
  refine F.ok scWn (fun vs H Q E h => ?_) (fun cdv A outer s H vs Q E hr h => ?_)
  · obtain ⟨b, d, v, L, A, S, h, rfl, _⟩ := h
    rfl
  · obtain ⟨b, d, v0, L, A', S, h, rfl, bx, F1, ed, bd, fo, lt, q1, q2⟩ := h
    have hu := hu_of hr
    have nd := scWn.nd
    refine ⟨_, pss_cons (ps_set (i := 3) nd rfl (.inl rfl) (pe_lst (pa_cons (pv 2) pa_nil)))
      (pss_cons (ps_set (i := 4) nd rfl (.inl rfl) pe_dnewK)
      (pss_cons (ps_set (i := 5) nd rfl (.inl rfl) pe_dnewK)
      (pss_cons (ps_set (i := 6) nd rfl (.inl rfl) pe_int)
      (pss_cons (ps_while PassesOwn.never (pt_cmpR op_lt (pv 6) (pe_callB call_len_seq (by rfl) B.len PySem.boot_len (pa_cons (pv 3) pa_nil)) rfl)
        (pss_cons (ps_set (i := 7) nd rfl (.inl rfl) (pe_ix ix_list (pv 3) (pv 6) (fun _ _ => rfl)))
          (pss_cons (ps_lock (ps_for PassesOwn.never rfl (pi_items (pv 0)) (pg_tup (by rfl) (pgs_cons (pg_name (i := 8) nd rfl (.inl rfl)) (pgs_cons (pg_name (i := 9) nd rfl (.inl rfl)) pgs_nil)))
            (pss_one (ps_if (PW.pt (pw_and (pt_cmp (pc_dnotin hu (pv 8) (pv 5))) (pw_and1 (pt_cmpR (r := rIn K false) op_in_seq (pv 7) (pv 9) rfl))))
                (pss_cons (ps_dput hu (pv 5) (pv 8) (pv 7) rfl)
                  (pss_cons (ps_if (pt_cmp (pc_dnotin hu (pv 8) (pv 1)))
                    (pss_one (ps_ret (pe_tup (pa_cons pe_str (pa_cons (pe_call CMu.ok (hr.mono (by decide)) (by rfl) CMu.at_ CMu.kp CMu.bd .nil pass0 (pa_cons (pv 1) (pa_cons (pv 5) (pa_cons (pv 4) (pa_cons (pv 8) pa_nil))))) pa_nil)))))
                    pss_nil)
                  (pss_one (ps_if (pt_cmpR (r := rIn K true) op_notIn_seq (pe_dget hu (pv 1) (pv 8) (fun _ _ => rfl)) (pv 3) rfl)
                    (pss_cons (ps_dput hu (pv 4) (pe_dget hu (pv 1) (pv 8) (fun _ _ => rfl)) (pv 8) rfl)
                      (pss_one (ps_expr (pe_bm PySem.F.plainAttrs_list PySem.F.slot_list_append PySem.F.type_list_append mt_append (pv 3) (pa_cons (pe_dget hu (pv 1) (pv 8) (fun _ _ => rfl)) pa_nil)))))
                    pss_nil))))
                pss_nil))))
          (pss_one (ps_aug (i := 6) nd rfl (.inl rfl) pe_int ip_add)))))
      (pss_one (ps_ret (pe_tup (pa_cons pe_str (pa_cons (pv 3) pa_nil))))))))), ?_⟩
    have few := bx.few
    have nn := bx.nd
    obtain ⟨ns, hns⟩ : ∃ ns, ns = L.map (·.1) := ⟨_, rfl⟩
    have lns : ns.length = L.length := by rw [hns, List.length_map]
    rw [← hns] at F1 fo q1 q2 nn
    have fA : A'.length ≤ ns.length := by
      have := List.Nodup.length_le_of_subset fo.nd fun x hx => fo.sub x hx
      rwa [List.length_map] at this
    obtain ⟨k0, hk0, ltk⟩ := lt
    refine ⟨_, rfl, by show 1 ≤ sizeLine; decide, fun Wl nW => ?_⟩
    have t1 := same_new (o := HO.lst [V.int v0]) nW
    refine fun Gd nG => ?_
    have t2 := same_new (o := HO.dK []) nG
    have WG : Wl ≠ Gd := fun z => by rw [← z, upd_same] at nG; cases nG
    refine fun Cd nC => ?_
    have t3 := same_new (o := HO.dK []) nC
    have GC : Gd ≠ Cd := fun z => by rw [← z, upd_same] at nC; cases nC
    have WC : Wl ≠ Cd := fun z => by rw [← z, upd_ne WG, upd_same] at nC; cases nC
    have nGH := t1.free nG
    have nCH := t1.free (t2.free nC)
    have hw0 : Hw (upd (upd (upd H Wl (.lst [V.int v0])) Gd (.dK [])) Cd (.dK [])) Wl Gd Cd ⟨[v0], [], []⟩ := ⟨by rw [upd_ne WC, upd_ne WG, upd_same] <;> rfl, by rw [upd_ne GC, upd_same] <;> rfl, upd_same⟩
    have s0 := t1.trans (t2.trans t3)
    generalize upd (upd (upd H Wl (.lst [V.int v0])) Gd (.dK [])) Cd (.dK []) = H0 at hw0 s0 ⊢
    clear t1 t2 t3 nG nC
    have Wb : Wl ≠ b := fun z => by have := bx.un; rw [← z, nW] at this; cases this
    have Gb : Gd ≠ b := fun z => by have := bx.un; rw [← z, nGH] at this; cases this
    have Cb : Cd ≠ b := fun z => by have := bx.un; rw [← z, nCH] at this; cases this
    obtain ⟨I0, T0⟩ := Ck.start (A := A') (S := S) (ns := ns) (h := h) (v0 := v0) (by rw [hk0] <;> rfl)
    refine ⟨fun n σ H' => ∃ (s : Se) (p : Nat) (y7 y8 y9 : Option V), n = A'.length + 2 - p ∧ p ≤ s.W.length ∧ σ = [some (.ref b), some (.ref d), some (.int v0), some (.ref Wl), some (.ref Gd), some (.ref Cd), some (.int (p : Int)), y7, y8, y9] ∧ Same H H' ∧ Hw H' Wl Gd Cd s ∧ Ck A' h S ns v0 s ∧ Tk A' s ∧ (∀ (i : Nat) w, i < p → s.W[i]? = some w → ∀ x ∈ ns, w ∈ S x → x ∈ s.C.map (·.1)) ∧ ∀ r, Run A' S ns s p r → Run A' S ns ⟨[v0], [], []⟩ 0 r,
      ⟨_, ⟨[v0], [], []⟩, 0, none, none, none, rfl, Nat.zero_le _, rfl, s0, hw0, I0, T0, fun i w h => absurd h (by omega), fun r h => h⟩, ?_⟩
    rintro n σ H1 ⟨s, p, y7, y8, y9, rfl, pc, rfl, s1, hw1, I, T, old, run⟩
    have cle := I.few
    refine ⟨_, rfl, _, rfl, Wl, _, rfl, .inl (sl_map hw1.eW), _, _, rfl, rfl, _, rfl, ite_both (fun c1 => ?_) fun c1 => ?_⟩
    · have pl := of_decide_eq_true c1
      rw [List.length_map] at pl
      have pl' : p < s.W.length := by omega
      obtain ⟨w, hw⟩ : ∃ w, s.W[p]? = some w := ⟨_, List.getElem?_eq_getElem pl'⟩
      refine ⟨fun σ' H' => ∃ (s' : Se) (p' : Nat) (y7 y8 y9 : Option V), p' = p + 1 ∧ p' ≤ s'.W.length ∧ σ' = [some (.ref b), some (.ref d), some (.int v0), some (.ref Wl), some (.ref Gd), some (.ref Cd), some (.int (p' : Int)), y7, y8, y9] ∧ Same H H' ∧ Hw H' Wl Gd Cd s' ∧ Ck A' h S ns v0 s' ∧ Tk A' s' ∧ (∀ (i : Nat) w, i < p' → s'.W[i]? = some w → ∀ x ∈ ns, w ∈ S x → x ∈ s'.C.map (·.1)) ∧ ∀ r, Run A' S ns s' p' r → Run A' S ns ⟨[v0], [], []⟩ 0 r, ?_, ?_⟩
      · rintro σ' H' ⟨s', p', y7, y8, y9, h1, h2⟩
        exact ⟨_, by omega, s', p', y7, y8, y9, rfl, h2⟩
      refine ⟨_, rfl, _, rfl, Wl, _, _, .int w, rfl, rfl, sl_map hw1.eW, atI_nat (j := p) (by rw [List.getElem?_map, hw] <;> rfl), ?_⟩
      have b1 := s1 _ _ bx.un
      refine ⟨b, _, b1, trivial, fun od => ?_⟩
      have bxl := bx.toBx.lock (od := od) bx.un
      have eb0 := upd_same (H := H) (a := b) (o := HO.frz od (.dK (entK L)))
      have hwl : Hw (upd H1 b (.frz od (.dK (entK L)))) Wl Gd Cd s := ⟨by rw [upd_ne Wb]; exact hw1.eW, by rw [upd_ne Gb]; exact hw1.eG, by rw [upd_ne Cb]; exact hw1.eC⟩
      have lkn : ∀ {q : Addr}, q ≠ b → H q = none → (upd H b (.frz od (.dK (entK L)))) q = none := fun h n => by rw [upd_ne h]; exact n
      refine ⟨.ref b, rfl, b, od, entK L, rfl, upd_same, for_it walk_items (fun i σ' H' => ∃ (s' : Se) (y8 y9 : Option V), σ' = [some (.ref b), some (.ref d), some (.int v0), some (.ref Wl), some (.ref Gd), some (.ref Cd), some (.int (p : Int)), some (.int w), y8, y9] ∧ Same (upd H b (.frz od (.dK (entK L)))) H' ∧ Hw H' Wl Gd Cd s' ∧ Ck A' h S ns v0 s' ∧ Tk A' s' ∧ s'.W[p]? = some w ∧ (∀ (i : Nat) w, i < p → s'.W[i]? = some w → ∀ x ∈ ns, w ∈ S x → x ∈ s'.C.map (·.1)) ∧ (∀ x ∈ ns.take i, w ∈ S x → x ∈ s'.C.map (·.1)) ∧ scan A' S w s ns = scan A' S w s' (ns.drop i))
        ⟨s, y8, y9, rfl, same_frz bx.un s1, hwl, I, T, hw, old, (fun _ h => nomatch h), rfl⟩ (fun i σ' H' _ h => by obtain ⟨_, _, _, _, e, _⟩ := h; exact e _ _ eb0) ?_ ?_⟩
      · clear old I T hwl hw1 cle
        rintro i z σ3 H2 H3 hi ⟨s', y8, y9, rfl, s3, hw3, I, T, hx', old, tak, sek⟩ ⟨Tp, x1, x2, rfl, nT, rfl, g1, g2⟩
        obtain ⟨e, he, rfl, rfl⟩ := items_at g1 g2
        have hx : ns[i]? = some e.1 := by rw [hns, List.getElem?_map, he] <;> rfl
        have xn := List.mem_of_getElem? hx
        rw [drop_at hx] at sek
        have eS : e.2.2 = S e.1 := by
          have h1 := F1 e.1 xn
          have h2 := look_mem bx.nd (List.mem_of_getElem? he)
          rw [h2] at h1
          exact Option.some.inj h1
        have sT := same_new (o := HO.tup [V.str e.1, V.ref e.2.1]) nT
        have s4 := s3.trans sT
        have hw4 : Hw (upd H2 Tp (.tup [V.str e.1, V.ref e.2.1])) Wl Gd Cd s' := ⟨sT _ _ hw3.eW, sT _ _ hw3.eG, sT _ _ hw3.eC⟩
        have ea : (upd H2 Tp (.tup [V.str e.1, V.ref e.2.1])) e.2.1 = some (.lst ((S e.1).map V.int)) := by
          have := (bxl.same s4).sides e (List.mem_of_getElem? he)
          rwa [eS] at this
        refine ⟨Tp, _, rfl, .inl (.inl upd_same), rfl, _, _, rfl, _, _, rfl, rfl, ?_⟩
        generalize upd H2 Tp (.tup [V.str e.1, V.ref e.2.1]) = H4 at s4 hw4 ea ⊢
        have gC := Ax.get (H := H4) (d := Cd) (A := s'.C) ⟨.inl hw4.eC⟩ e.1
        have pl2 := (List.getElem?_eq_some_iff.mp hx').1
        have wW := List.mem_of_getElem? hx'
        have cW := I.few
        have cC := I.fewC
        have cG := I.fewG
        have skip : ¬ (e.1 ∉ s'.C.map (·.1) ∧ w ∈ S e.1) → ∃ (s'' : Se) (y8 y9 : Option V), [some (V.ref b), some (.ref d), some (.int v0), some (.ref Wl), some (.ref Gd), some (.ref Cd), some (.int (p : Int)), some (.int w), some (.str e.1), some (.ref e.2.1)] = [some (V.ref b), some (.ref d), some (.int v0), some (.ref Wl), some (.ref Gd), some (.ref Cd), some (.int (p : Int)), some (.int w), y8, y9] ∧ Same (upd H b (.frz od (.dK (entK L)))) H4 ∧ Hw H4 Wl Gd Cd s'' ∧ Ck A' h S ns v0 s'' ∧ Tk A' s'' ∧ s''.W[p]? = some w ∧ (∀ (i : Nat) w, i < p → s''.W[i]? = some w → ∀ x ∈ ns, w ∈ S x → x ∈ s''.C.map (·.1)) ∧ (∀ x ∈ ns.take (i + 1), w ∈ S x → x ∈ s''.C.map (·.1)) ∧ scan A' S w s ns = scan A' S w s'' (ns.drop (i + 1)) := fun nh => by
          refine ⟨s', _, _, rfl, s4, hw4, I, T, hx', old, fun y hy hwy => ?_, sek.trans (scan_skip nh)⟩
          rw [take_snoc hx] at hy
          rcases List.mem_append.mp hy with q | q
          · exact tak y q hwy
          · rw [List.mem_singleton.mp q] at hwy ⊢
            exact Decidable.byContradiction fun z => nh ⟨z, hwy⟩
        refine ⟨_, rfl, _, rfl, Cd, _, rfl, gC, _, rfl, ite_both (fun cn => ?_) (fun cn => iteF (skip fun z => ?_))⟩
        rotate_left
        · rw [aget_none z.1] at cn; cases cn
        have nx : e.1 ∉ s'.C.map (·.1) := fun z => by
          have := aget_mem.mpr z
          cases q : aget s'.C e.1 with
          | none => rw [q] at this; cases this
          | some y => rw [q] at cn; cases cn
        refine ⟨_, rfl, _, rfl, e.2.1, _, rfl, .inl (sl_map ea), rfl, flat_ints _, _, rfl, ?_⟩
        rw [if_neg (by decide), in_ints]
        refine ite_both (fun cw => ?_) (fun cw => skip fun z => of_decide_eq_false cw z.2)
        have hit_ : e.1 ∉ s'.C.map (·.1) ∧ w ∈ S e.1 := ⟨nx, of_decide_eq_true cw⟩
        clear skip
        refine ⟨_, rfl, _, rfl, _, rfl, Cd, _, rfl, DPut.k (k := .inr e.1) hw4.eC (by rw [intK_len]; exact small1000 (by omega)), ?_⟩
        rw [putK_int, putA_new nx]
        have s5 := same_at s4 (lkn Cb nCH) (o := HO.dK (intK (s'.C ++ [(e.1, w)])))
        have hw5 : Hw (upd H4 Cd (.dK (intK (s'.C ++ [(e.1, w)])))) Wl Gd Cd ⟨s'.W, s'.G, s'.C ++ [(e.1, w)]⟩ := ⟨by rw [upd_ne WC]; exact hw4.eW, by rw [upd_ne GC]; exact hw4.eG, upd_same⟩
        generalize upd H4 Cd (.dK (intK (s'.C ++ [(e.1, w)]))) = H5 at s5 hw5 ⊢
        have J := I.call xn hit_.2 wW nx
        have ed5 : H5 d = some (.dK (intK A')) := s5 _ _ (by rw [upd_ne bd.symm]; exact ed)
        have gd := Ax.get (H := H5) (d := d) (A := A') ⟨.inl ed5⟩ e.1
        have keys : ∀ {y : Str}, y ∈ (s'.C ++ [(e.1, w)]).map (·.1) ↔ y ∈ s'.C.map (·.1) ∨ y = e.1 := fun {y} => by rw [List.map_append, List.mem_append]; show _ ∨ y ∈ [e.1] ↔ _; rw [List.mem_singleton]
        have old' : ∀ (W2 : List Int), (∀ (i : Nat) w, i < p → W2[i]? = some w → s'.W[i]? = some w) → ∀ (i : Nat) w, i < p → W2[i]? = some w → ∀ x ∈ ns, w ∈ S x → x ∈ (s'.C ++ [(e.1, w)]).map (·.1) ∨ x ∈ s'.C.map (·.1) := fun W2 hW i w hi hw x hx hs => .inr (old i w hi (hW i w hi hw) x hx hs)
        have tak' : ∀ x ∈ ns.take (i + 1), w ∈ S x → x ∈ (s'.C ++ [(e.1, w)]).map (·.1) := fun y hy hwy => by
          rw [take_snoc hx] at hy
          rcases List.mem_append.mp hy with q | q
          · exact keys.mpr (.inl (tak y q hwy))
          · exact keys.mpr (.inr (List.mem_singleton.mp q))
        cases hA : aget A' e.1 with
        | none =>
          rw [hA] at gd
          refine ⟨_, rfl, _, rfl, d, _, rfl, gd, _, rfl, iteT ?_⟩
          rw [scan_free hit_ hA] at sek
          have hC : aget (s'.C ++ [(e.1, w)]) e.1 = some w := by rw [aget_app nx, if_pos rfl]
          refine ⟨_, rfl, _, rfl, _, rfl, _, rfl, d, Cd, Gd, e.1, A', ⟨s'.W, s'.G, s'.C ++ [(e.1, w)]⟩, S, ns, v0, w, h, rfl, ed5, hw5.eC, hw5.eG, J, fo, hC, hA, by omega, ⟨k0, hk0, ltk⟩, fun H6 r M s6 nr er up fM c1 c2 => ⟨by show 2 ≤ sizeLine; decide, fun TT nTT => ?_⟩⟩
          have tt := same_new (o := HO.tup [.str "fit", .ref r]) nTT
          have eb := s5 _ _ eb0
          have eb6 := s6 _ _ eb
          have rb : r ≠ b := fun z => by rw [z, eb] at nr; cases nr
          have Tb : TT ≠ b := fun z => by rw [z, eb6] at nTT; cases nTT
          have frH : ∀ {q : Addr}, q ≠ b → H5 q = none → H q = none := fun {q} h n => by
            have := s5.free n
            rwa [upd_ne h] at this
          have frH6 : H TT = none := frH Tb (s6.free nTT)
          refine ⟨tt _ _ eb6, q2 _ TT r M (unlock bx.un (s5.trans (s6.trans tt))) frH6 (by rw [upd_ne Tb, upd_same]) (frH rb nr) (by rw [upd_ne rb]; exact tt _ _ er) (.fit (run _ (.found ?_ sek)) up) fM c1 c2⟩
          assumption
        | some u =>
          rw [hA] at gd
          refine ⟨_, rfl, _, rfl, d, _, rfl, gd, _, rfl, iteF ?_⟩
          refine ⟨_, rfl, _, rfl, d, .int u, rfl, gd, _, rfl, Wl, _, rfl, .inl (sl_map hw5.eW), rfl, flat_ints _, _, rfl, ?_⟩
          rw [if_pos rfl, in_ints]
          refine ite_both (fun cu => ?_) (fun cu => ?_)
          · have nu : u ∉ s'.W := by simpa using cu
            have K := I.add fo xn hit_.2 wW nx hA nu
            have gn : u ∉ s'.G.map (·.1) := by rw [I.gk]; exact fun z => nu (List.mem_of_mem_drop z)
            refine ⟨_, rfl, _, rfl, _, rfl, _, rfl, d, .int u, rfl, gd, Gd, _, rfl, DPut.k (k := .inl u) hw5.eG (by rw [zK_len]; exact small1000 (by show s'.G.length ≤ 1000; omega)), ?_⟩
            rw [show putK (zK V.str s'.G) (Sum.inl u) (V.str e.1) = zK V.str (s'.G ++ [(u, e.1)]) by rw [zput, putZ_new gn]]
            have s6 := same_at s5 (lkn Gb nGH) (o := HO.dK (zK V.str (s'.G ++ [(u, e.1)])))
            have eW6 : (upd H5 Gd (.dK (zK V.str (s'.G ++ [(u, e.1)])))) Wl = some (.lst (s'.W.map V.int)) := by rw [upd_ne WG]; exact hw5.eW
            have eG6 : (upd H5 Gd (.dK (zK V.str (s'.G ++ [(u, e.1)])))) Gd = some (.dK (zK V.str (s'.G ++ [(u, e.1)]))) := upd_same
            have eC6 : (upd H5 Gd (.dK (zK V.str (s'.G ++ [(u, e.1)])))) Cd = some (.dK (intK (s'.C ++ [(e.1, w)]))) := by rw [upd_ne GC.symm]; exact hw5.eC
            generalize upd H5 Gd (.dK (zK V.str (s'.G ++ [(u, e.1)]))) = H6 at s6 eW6 eG6 eC6 ⊢
            have gd6 := Ax.get (H := H6) (d := d) (A := A') ⟨.inl (s6 _ _ (by rw [upd_ne bd.symm]; exact ed))⟩ e.1
            rw [hA] at gd6
            refine ⟨_, rfl, .inl ⟨rfl, _, sl_map eW6⟩, _, rfl, _, rfl, d, .int u, rfl, gd6, Wl, _, _, rfl, rfl, eW6, by rw [List.length_map]; exact small1000 (by omega), ⟨s'.W ++ [u], s'.G ++ [(u, e.1)], s'.C ++ [(e.1, w)]⟩, _, _, rfl, same_at s6 (lkn Wb nW), ⟨by rw [upd_same, List.map_append] <;> rfl, by rw [upd_ne WG.symm]; exact eG6, by rw [upd_ne WC.symm]; exact eC6⟩, K, T.add hA, ?_, fun i w' hi hw' x hx hs => ?_, tak', sek.trans (scan_add hit_ hA nu)⟩
            · show (s'.W ++ [u])[p]? = some w
              rw [List.getElem?_append_left pl2]; exact hx'
            · replace hw' : (s'.W ++ [u])[i]? = some w' := hw'
              rw [List.getElem?_append_left (by omega)] at hw'
              exact keys.mpr (.inl (old i w' hi hw' x hx hs))
          · have nu : u ∈ s'.W := by simpa using cu
            exact ⟨⟨s'.W, s'.G, s'.C ++ [(e.1, w)]⟩, _, _, rfl, s5, hw5, J, T.call hA nu, hx', fun i w' hi hw' x hx hs => keys.mpr (.inl (old i w' hi hw' x hx hs)), tak', sek.trans (scan_old hit_ hA nu)⟩
      · rintro σ3 H3 ⟨s', y8, y9, rfl, s3, hw3, I, T, hx', old, tak, sek⟩
        rw [entK_len, ← lns, List.take_length] at tak
        rw [entK_len, ← lns, List.drop_length] at sek
        have eb := s3 _ _ eb0
        have pl2 := (List.getElem?_eq_some_iff.mp hx').1
        refine ⟨eb, _, rfl, _, _, rfl, rfl, s', p + 1, _, y8, y9, rfl, by omega, rfl, unlock bx.un s3, ⟨by rw [upd_ne Wb]; exact hw3.eW, by rw [upd_ne Gb]; exact hw3.eG, by rw [upd_ne Cb]; exact hw3.eC⟩, I, T, fun i w' hi hw' => ?_, fun r h => run r (.more hw sek h)⟩
        rcases Nat.lt_or_ge i p with q | q
        · exact old i w' q hw'
        · rw [show i = p by omega, hx'] at hw'
          rw [← Option.some.inj hw']; exact tak
    · have pl := of_decide_eq_false c1
      rw [List.length_map] at pl
      have pl' : s.W.length ≤ p := by omega
      have wa := I.want fo nn T ⟨k0, hk0, ltk⟩ fun x hx w hw hs => by
        obtain ⟨i, hi⟩ := List.mem_iff_getElem?.mp hw
        exact old i w (by have := (List.getElem?_eq_some_iff.mp hi).1; omega) hi x hx hs
      refine ⟨_, rfl, by show 2 ≤ sizeLine; decide, fun T' nT => ?_⟩
      have t := same_new (o := HO.tup [.str "want", .ref Wl]) nT
      exact q1 _ T' Wl s.W (s1.trans t) (s1.free nT) upd_same nW (t _ _ hw1.eW) (.want (run _ (.stop pl'))) wa
end
end K19

set_option Elab.async false
set_option linter.all false
set_option maxRecDepth 100000
set_option maxHeartbeats 4000000
namespace K19
open PySem PySem.Spec PyProof.Rows L2 Cs CsX
/-- a box of sides and numbers for them -/
structure Wd (L : List Ent) (S : Str → List Int) (Hs : List (Int × Int)) (P : List Int) : Prop where
  fit : Fit L (L.map (·.1)) S
  pp : P.length ≤ 1000
  inP : ∀ x ∈ L.map (·.1), ∀ v ∈ S x, v ∈ P
  pos : ∀ v k, zget Hs v = some k → 0 ≤ k
  sz : ∀ x ∈ L.map (·.1), (S x).length ≤ 1000
theorem FitOk.start (ns : List Str) (S : Str → List Int) {h : Int → Option Int} (pos : ∀ v k, h v = some k → 0 ≤ k) : FitOk ns S h [] :=
  ⟨List.Pairwise.nil, (fun _ h => nomatch h), (fun _ _ h => nomatch h), (fun v k hk => by show ((0 : Nat) : Int) ≤ k; have := pos v k hk; omega), fun _ _ h => nomatch h⟩
theorem itemsZ {L : List (Int × Int)} {i : Nat} {x1 x2 : V} (g1 : ((zK V.int L)[i]?.map fun kv => kV kv.1) = some x1) (g2 : ((zK V.int L)[i]?.map Prod.snd) = some x2) : ∃ e, L[i]? = some e ∧ x1 = .int e.1 ∧ x2 = .int e.2 := by
  unfold zK at g1 g2
  rw [List.getElem?_map] at g1 g2
  cases c : L[i]? with
  | none => rw [c] at g1; cases g1
  | some e => rw [c] at g1 g2; exact ⟨e, rfl, (Option.some.inj g1).symm, (Option.some.inj g2).symm⟩
theorem Bu.off {H : Hp} {q d : Addr} {o : HO} {M : List Ent} (B : Bu H d M) (h1 : d ≠ q) (h2 : ∀ g ∈ M, g.2.1 ≠ q) : Bu (upd H q o) d M :=
  ⟨⟨.inl (by rw [upd_ne h1]; exact B.un), fun g hg => by rw [upd_ne (h2 g hg)]; exact B.sides g hg, B.nd, B.few⟩, by rw [upd_ne h1]; exact B.un⟩
/-- every number is met -/
def Eqs (Hs : List (Int × Int)) (M : List (Str × Int)) : Prop := ∀ e ∈ Hs, (cnt M e.1 : Int) = e.2
section
variable {P : Program} {w : World} {K : PySem.W.Frag} {mg : Str → Option Value} {base : Heap}
abbrev sGr : Stmt := topS 3
abbrev nGr : List Str := ["box", "lows", "start", "fit", "value", "low", "word", "content"]
theorem scGr : FnScope nGr ["box", "lows", "start"] (defScope sGr) := ⟨rfl, rfl, rfl, by decide +kernel, rfl, by decide +kernel, by decide +kernel⟩
def spGr : Sp := fun vs H Q _ => ∃ (b hd d : Addr) (L : List Ent) (Hs : List (Int × Int)) (S : Str → List Int) (P : List Int), vs = [.ref b, .ref hd, .ref d] ∧ Bu H b L ∧ H hd = some (.dK (zK V.int Hs)) ∧ (Hs.map (·.1)).Nodup ∧ H d = some (.dK []) ∧ b ≠ hd ∧ Wd L S Hs P ∧
  (∀ (H' : Hp) (T r : Addr) (c : List Int), Same H H' → H T = none → H' T = some (.tup [.str "want", .ref r]) → H r = none → H' r = some (.lst (c.map V.int)) → Sup S (L.map (·.1)) Hs [] (.inr c) → Want (zget Hs) S (L.map (·.1)) c → Q (.ref T) H') ∧
  (∀ (H' : Hp) (T r : Addr) (M : List (Str × Int)), Same H H' → H T = none → H' T = some (.tup [.str "fit", .ref r]) → H r = none → H' r = some (.dK (intK M)) → Sup S (L.map (·.1)) Hs [] (.inl M) → FitOk (L.map (·.1)) S (zget Hs) M → Eqs Hs M → Q (.ref T) H')
theorem ok_Gr {f f0 f1 : Addr} {fd fd0 fd1 : FuncData} (F : Fun K "_supplied" "_supplied" sGr f fd) (B : Bt mg) (CWn : Call P w K mg base 2 "_with_taker" f0 fd0 ["box", "fit", "value"] spWn) (CTk : Call P w K mg base 1 "_takers" f1 fd1 ["fit", "value"] spTk) :
    FnOk P w K mg base CX0 3 f fd ["box", "lows", "start"] spGr := by
  refine F.ok scGr (fun vs H Q E h => ?_) (fun cdv A outer s H vs Q E hr h => ?_)
  · obtain ⟨b, hd, d, L, Hs, S, P, rfl, _⟩ := h
    rfl
  · obtain ⟨b, hd, d, L, Hs, S, PP, rfl, bx, eh, nH, ed, bhd, W, q1, q2⟩ := h
    have hu := hu_of hr
    have nd := scGr.nd
    refine ⟨_, pss_cons (ps_set (i := 3) nd rfl (.inl rfl) (pe_callTy call_dictD (by rfl) B.dict PyProof.Rows.boot_dict (pa_cons (pv 2) pa_nil)))
      (pss_cons (ps_lock (ps_for PassesOwn.never rfl (pi_items (pv 1)) (pg_tup (by rfl) (pgs_cons (pg_name (i := 4) nd rfl (.inl rfl)) (pgs_cons (pg_name (i := 5) nd rfl (.inl rfl)) pgs_nil)))
        (pss_one (ps_while PassesOwn.never (pt_cmpR op_lt (pe_callB call_len_seq (by rfl) B.len PySem.boot_len (pa_cons (pe_call CTk.ok (hr.mono (by decide)) (by rfl) CTk.at_ CTk.kp CTk.bd .nil pass0 (pa_cons (pv 3) (pa_cons (pv 4) pa_nil))) pa_nil)) (pv 5) rfl)
            (pss_cons (ps_asg (pe_call CWn.ok (hr.mono (by decide)) (by rfl) CWn.at_ CWn.kp CWn.bd .nil pass0 (pa_cons (pv 0) (pa_cons (pv 3) (pa_cons (pv 4) pa_nil)))) (pg_tup (by rfl) (pgs_cons (pg_name (i := 6) nd rfl (.inl rfl)) (pgs_cons (pg_name (i := 7) nd rfl (.inl rfl)) pgs_nil))))
              (pss_cons (ps_if (pt_cmpR op_eq (pv 6) pe_str rfl)
                (pss_one (ps_ret (pe_tup (pa_cons pe_str (pa_cons (pv 7) pa_nil)))))
                pss_nil)
              (pss_one (ps_set (i := 3) nd rfl (.inl rfl) (pv 7)))))))))
      (pss_one (ps_ret (pe_tup (pa_cons pe_str (pa_cons (pv 3) pa_nil)))))), ?_⟩
    have few := bx.few
    obtain ⟨ns, hns⟩ : ∃ ns, ns = L.map (·.1) := ⟨_, rfl⟩
    have lns : ns.length = L.length := by rw [hns, List.length_map]
    have fitN : Fit L (L.map (·.1)) S := W.fit
    rw [← hns] at q1 q2
    refine ⟨_, rfl, d, _, rfl, .inl ed, fun F nF => ?_⟩
    have s0 := same_new (o := HO.dK []) nF
    have eF0 : (upd H F (.dK [])) F = some (.dK (intK [])) := upd_same
    have bx0 := bx.same' s0
    have eh0 := s0 _ _ eh
    have hF : hd ≠ F := fun z => by rw [z, nF] at eh; cases eh
    generalize upd H F (.dK []) = H0 at s0 eF0 bx0 eh0 ⊢
    refine ⟨hd, _, eh0, trivial, fun od => ?_⟩
    have bxl : Bu (upd H0 hd (.frz od (.dK (zK V.int Hs)))) b L := bx0.off bhd fun g hg z => by have := bx0.sides g hg; rw [z, eh0] at this; cases this
    have eb0 := upd_same (H := H0) (a := hd) (o := HO.frz od (.dK (zK V.int Hs)))
    refine ⟨.ref hd, rfl, hd, od, zK V.int Hs, rfl, upd_same, for_it walk_items (fun i σ H' => ∃ (A : List (Str × Int)) (F : Addr) (y4 y5 y6 y7 : Option V), σ = [some (.ref b), some (.ref hd), some (.ref d), some (.ref F), y4, y5, y6, y7] ∧ Same (upd H0 hd (.frz od (.dK (zK V.int Hs)))) H' ∧ H' F = some (.dK (intK A)) ∧ H F = none ∧ FitOk ns S (zget Hs) A ∧ Eqs (Hs.take i) A ∧ ∀ r, Sup S ns (Hs.drop i) A r → Sup S ns Hs [] r)
      ⟨[], F, none, none, none, none, rfl, (fun _ _ h => h), by rw [upd_ne hF.symm]; exact eF0, nF, FitOk.start ns S W.pos, (fun _ h => nomatch h), fun r h => h⟩ (fun i σ H' _ h => by obtain ⟨_, _, _, _, _, _, _, e, _⟩ := h; exact e _ _ eb0) ?_ ?_⟩
    · clear eF0 nF hF F
      rintro i x σ H1 H2 hi ⟨A', F, y4, y5, y6, y7, rfl, s1, eF, nF, fo, eqs, gr⟩ ⟨Tp, x1, x2, rfl, nT, rfl, g1, g2⟩
      obtain ⟨e, he, rfl, rfl⟩ := itemsZ g1 g2
      rw [drop_at he] at gr
      have hk : zget Hs e.1 = some e.2 := zget_at nH he
      have sT := same_new (o := HO.tup [V.int e.1, V.int e.2]) nT
      have s2 := s1.trans sT
      have eF2 := sT _ _ eF
      refine ⟨Tp, _, rfl, .inl (.inl upd_same), rfl, _, _, rfl, _, _, rfl, rfl, ?_⟩
      generalize upd H1 Tp (.tup [V.int e.1, V.int e.2]) = H3 at s2 eF2 ⊢
      have apart : ∀ j g, j < i → Hs[j]? = some g → g.1 ≠ e.1 := fun j g hj hg z => by
        have k1 : (Hs.map (·.1))[j]? = some e.1 := by rw [List.getElem?_map, hg, ← z] <;> rfl
        have k2 : (Hs.map (·.1))[i]? = some e.1 := by rw [List.getElem?_map, he] <;> rfl
        have := nd_ix nH k1 k2
        omega
      refine ⟨fun n σ H' => ∃ (A : List (Str × Int)) (F : Addr) (y6 y7 : Option V), n = ns.length + 1 - cnt A e.1 ∧ σ = [some (.ref b), some (.ref hd), some (.ref d), some (.ref F), some (.int e.1), some (.int e.2), y6, y7] ∧ Same (upd H0 hd (.frz od (.dK (zK V.int Hs)))) H' ∧ H' F = some (.dK (intK A)) ∧ H F = none ∧ FitOk ns S (zget Hs) A ∧ Eqs (Hs.take i) A ∧ ∀ r, Sup S ns (e :: Hs.drop (i + 1)) A r → Sup S ns Hs [] r,
        ⟨_, A', F, y6, y7, rfl, rfl, s2, eF2, nF, fo, eqs, gr⟩, ?_⟩
      clear eF2 eF nF fo eqs gr sT s2 s1 nT y6 y7 y4 y5
      rintro n σ H4 ⟨A', F, y6, y7, rfl, rfl, s4, eF, nF, fo, eqs, gr⟩
      have fA : A'.length ≤ ns.length := by
        have := List.Nodup.length_le_of_subset fo.nd fun x hx => fo.sub x hx
        rwa [List.length_map] at this
      have cle : cnt A' e.1 ≤ ns.length := by
        have : cnt A' e.1 ≤ A'.length := by unfold cnt tk; rw [List.length_map]; exact List.length_filter_le _ _
        omega
      refine ⟨_, rfl, _, rfl, F, e.1, A', rfl, eF, fo.nd, by omega, fun H5 Tl s5 nT eT => ?_⟩
      have s45 := s4.trans s5
      have eF5 := s5 _ _ eF
      refine ⟨Tl, _, rfl, .inl (sl_map eT), _, rfl, _, _, rfl, rfl, _, rfl, ite_both (fun c1 => ?_) fun c1 => ?_⟩
      · have lt : (cnt A' e.1 : Int) < e.2 := by
          have := of_decide_eq_true c1
          rw [List.length_map] at this
          exact this
        refine ⟨fun σ' H' => ∃ (A : List (Str × Int)) (F : Addr) (y6 y7 : Option V), cnt A e.1 = cnt A' e.1 + 1 ∧ cnt A e.1 ≤ ns.length ∧ σ' = [some (.ref b), some (.ref hd), some (.ref d), some (.ref F), some (.int e.1), some (.int e.2), y6, y7] ∧ Same (upd H0 hd (.frz od (.dK (zK V.int Hs)))) H' ∧ H' F = some (.dK (intK A)) ∧ H F = none ∧ FitOk ns S (zget Hs) A ∧ Eqs (Hs.take i) A ∧ ∀ r, Sup S ns (e :: Hs.drop (i + 1)) A r → Sup S ns Hs [] r, ?_, ?_⟩
        · rintro σ' H' ⟨A, F, y6, y7, h1, h2, h3⟩
          exact ⟨_, by omega, A, F, y6, y7, rfl, h3⟩
        have bx5 := bxl.same' s45
        have bF : b ≠ F := fun z => by have := bx.un; rw [z, nF] at this; cases this
        have fo' : FitOk (L.map (·.1)) S (zget Hs) A' := by rw [← hns]; exact fo
        have ehd := s45 _ _ eb0
        have frH : ∀ {q : Addr}, H5 q = none → H q = none := fun {q} n => by
          have qb : q ≠ hd := fun z => by rw [z, ehd] at n; cases n
          have := s45.free n
          rw [upd_ne qb] at this
          exact s0.free this
        refine ⟨_, rfl, _, rfl, _, rfl, b, F, e.1, L, A', S, zget Hs, rfl, bx5, fitN, eF5, bF, fo', ⟨e.2, hk, lt⟩, fun H6 T r c s6 nT6 eT6 nr6 er6 wi wa => ?_, fun H6 T r M s6 nT6 eT6 nr6 er6 wi fM c1 c2 => ?_⟩
        · refine ⟨T, _, rfl, .inl (.inl eT6), rfl, _, _, rfl, _, _, rfl, rfl, ?_⟩
          refine ⟨_, rfl, rfl, _, rfl, ite_both (fun _ => ?_) fun c => absurd (decide_eq_true rfl) (by rw [c]; decide)⟩
          refine ⟨_, rfl, by show 2 ≤ sizeLine; decide, fun Y nY => ?_⟩
          have t := same_new (o := HO.tup [.str "want", .ref r]) nY
          have Yb : Y ≠ hd := fun z => by rw [z, s6 _ _ ehd] at nY; cases nY
          have rb : r ≠ hd := fun z => by rw [z, ehd] at nr6; cases nr6
          rw [← hns] at wi wa
          exact ⟨t _ _ (s6 _ _ ehd), q1 _ Y r c (s0.trans (unlock eh0 (s45.trans (s6.trans t)))) (frH (s6.free nY)) (by rw [upd_ne Yb, upd_same]) (frH nr6) (by rw [upd_ne rb]; exact t _ _ er6) (gr _ (.want lt wi)) wa⟩
        · refine ⟨T, _, rfl, .inl (.inl eT6), rfl, _, _, rfl, _, _, rfl, rfl, ?_⟩
          refine ⟨_, rfl, rfl, _, rfl, ite_both (fun c => absurd c (by decide +kernel)) fun _ => ?_⟩
          rw [← hns] at wi fM
          have fM' : M.length ≤ ns.length := by
            have := List.Nodup.length_le_of_subset fM.nd fun x hx => fM.sub x hx
            rwa [List.length_map] at this
          have cM : cnt M e.1 ≤ ns.length := by
            have : cnt M e.1 ≤ M.length := by unfold cnt tk; rw [List.length_map]; exact List.length_filter_le _ _
            omega
          refine ⟨_, rfl, M, r, _, _, c1, cM, rfl, s45.trans s6, er6, frH nr6, fM, fun g hg => ?_, fun q h => gr q (.fit lt wi h)⟩
          obtain ⟨j, hj⟩ := List.mem_iff_getElem?.mp hg
          rw [List.getElem?_take] at hj
          split at hj
          · next ji =>
            rw [c2 _ (apart j g ji hj)]
            exact eqs g hg
          · cases hj
      · have ge : ¬ (cnt A' e.1 : Int) < e.2 := by
          have := of_decide_eq_false c1
          rw [List.length_map] at this
          exact this
        have le := fo.le _ _ hk
        refine ⟨A', F, _, _, y6, y7, rfl, s45, eF5, nF, fo, fun g hg => ?_, fun r h => gr r (.next (by omega) h)⟩
        rw [take_snoc he] at hg
        rcases List.mem_append.mp hg with z | z
        · exact eqs g z
        · rw [List.mem_singleton.mp z]; omega
    · rintro σ H1 ⟨A', F, y4, y5, y6, y7, rfl, s1, eF, nF, fo, eqs, gr⟩
      have eb1 := s1 _ _ eb0
      rw [zK_len, List.take_length] at eqs
      rw [zK_len, List.drop_length] at gr
      refine ⟨eb1, ?_⟩
      refine ⟨_, rfl, by show 2 ≤ sizeLine; decide, fun Y nY => ?_⟩
      have s3 := s0.trans (unlock eh0 s1)
      have Fb : F ≠ hd := fun z => by rw [z, eb1] at eF; cases eF
      have eF3 : (upd H1 hd (.dK (zK V.int Hs))) F = some (.dK (intK A')) := by rw [upd_ne Fb]; exact eF
      have t := same_new (o := HO.tup [.str "fit", .ref F]) nY
      exact q2 _ Y F A' (s3.trans t) (s3.free nY) upd_same nF (t _ _ eF3) (gr _ .nil) fo eqs
abbrev sFf : Stmt := topS 1
abbrev nFf : List Str := ["box", "lows"]
theorem scFf : FnScope nFf ["box", "lows"] (defScope sFf) := ⟨rfl, rfl, rfl, by decide +kernel, rfl, by decide +kernel, by decide +kernel⟩
def spFf : Sp := fun vs H Q _ => ∃ (b hd : Addr) (L : List Ent) (Hs : List (Int × Int)) (S : Str → List Int) (P : List Int), vs = [.ref b, .ref hd] ∧ Bu H b L ∧ H hd = some (.dK (zK V.int Hs)) ∧ (Hs.map (·.1)).Nodup ∧ b ≠ hd ∧ Wd L S Hs P ∧
  (∀ (H' : Hp) (T r : Addr) (c : List Int), Same H H' → H T = none → H' T = some (.tup [.str "want", .ref r]) → H r = none → H' r = some (.lst (c.map V.int)) → Sup S (L.map (·.1)) Hs [] (.inr c) → Want (zget Hs) S (L.map (·.1)) c → Q (.ref T) H') ∧
  (∀ (H' : Hp) (T r : Addr) (M : List (Str × Int)), Same H H' → H T = none → H' T = some (.tup [.str "fit", .ref r]) → H r = none → H' r = some (.dK (intK M)) → Sup S (L.map (·.1)) Hs [] (.inl M) → FitOk (L.map (·.1)) S (zget Hs) M → Eqs Hs M → Q (.ref T) H')
theorem ok_Ff {f f0 : Addr} {fd fd0 : FuncData} (F : Fun K "wanted_fit" "wanted_fit" sFf f fd) (B : Bt mg) (CGr : Call P w K mg base 3 "_supplied" f0 fd0 ["box", "lows", "start"] spGr) :
    FnOk P w K mg base CX0 4 f fd ["box", "lows"] spFf := by
  refine F.ok scFf (fun vs H Q E h => ?_) (fun cdv A outer s H vs Q E hr h => ?_)
  · obtain ⟨b, hd, L, Hs, S, P, rfl, _⟩ := h
    rfl
  · obtain ⟨b, hd, L, Hs, S, PP, rfl, bx, eh, nH, bhd, W, q1, q2⟩ := h
    have nd := scFf.nd
    refine ⟨_, pss_one (ps_ret (pe_call CGr.ok (hr.mono (by decide)) (by rfl) CGr.at_ CGr.kp CGr.bd .nil pass0 (pa_cons (pv 0) (pa_cons (pv 1) (pa_cons pe_dnewK pa_nil))))), ?_⟩
    refine ⟨_, rfl, _, rfl, fun d nd1 => ?_⟩
    have s := same_new (o := HO.dK []) nd1
    exact ⟨b, hd, d, L, Hs, S, PP, rfl, bx.same' s, s _ _ eh, nH, upd_same, bhd, W, fun H' T r c s2 nT eT nr er g cr => q1 H' T r c (s.trans s2) (s.free nT) eT (s.free nr) er g cr, fun H' T r M s2 nT eT nr er g f k => q2 H' T r M (s.trans s2) (s.free nT) eT (s.free nr) er g f k⟩
end
end K19

set_option Elab.async false
set_option linter.all false
set_option maxRecDepth 100000
set_option maxHeartbeats 4000000
namespace K19
open PySem PySem.Spec PyProof.Rows L2 Cs CsX
theorem zdgetF {β : Type} {g : β → V} {H : Hp} {d : Addr} {od : Obj} {L : List (Int × β)} (h : H d = some (.frz od (.dK (zK g L)))) (v : Int) : DGet H d (.int v) ((zget L v).map g) :=
  .inl ⟨zK g L, .inl v, .inr ⟨od, h⟩, rfl, (zval g v L).symm⟩
theorem keysZ {β : Type} {g : β → V} {L : List (Int × β)} {i : Nat} {k : Key} {v : V} (h : (zK g L)[i]? = some (k, v)) : ∃ e, L[i]? = some e ∧ k = .inl e.1 ∧ v = g e.2 := by
  unfold zK at h
  rw [List.getElem?_map] at h
  obtain ⟨e, he, q⟩ := Option.map_eq_some_iff.mp h
  exact ⟨e, he, (Prod.mk.inj q).1.symm, (Prod.mk.inj q).2.symm⟩
theorem cnt_is (M : List (Str × Int)) (u : Int) : (M.map (·.2)).count u = cnt M u := by
  unfold cnt tk
  rw [List.length_map, List.count_eq_countP, List.countP_map, List.countP_eq_length_filter]
  congr 1
section
variable {P : Program} {w : World} {K : PySem.W.Frag} {mg : Str → Option Value} {base : Heap}
abbrev sSv : Stmt := topS 22
abbrev nSv : List Str := ["_law_actual", "_law_expected", "_law_found", "_law_name"]
theorem scSv : FnScope nSv ["_law_actual", "_law_expected"] (defScope sSv) := ⟨rfl, rfl, rfl, by decide +kernel, rfl, by decide +kernel, by decide +kernel⟩
def spSv : Sp := fun vs H Q _ => ∃ (a e : Addr) (M : List (Int × Int)), vs = [.ref a, .ref e] ∧ H a = some (.dK (zK V.int M)) ∧ H e = some (.dK (zK V.int M)) ∧ (M.map (·.1)).Nodup ∧ M.length ≤ 1000 ∧ a ≠ e ∧ ∀ H', Same H H' → Q (.bl true) H'
theorem ok_Sv {f f0 : Addr} {fd fd0 : FuncData} (F : Fun K "_law_same_values" "_law_same_values" sSv f fd) (B : Bt mg) (Cii : Call P w K mg base 1 "_law_is_integer" f0 fd0 ["_law_actual"] spIsInt) :
    FnOk P w K mg base CX0 2 f fd ["_law_actual", "_law_expected"] spSv := by
  refine F.ok scSv (fun vs H Q E h => ?_) (fun cdv A outer s H vs Q E hr h => ?_)
  · obtain ⟨a, e, M, rfl, _⟩ := h
    rfl
  · obtain ⟨a, e, X, rfl, bm, be, nX, few, nae, q⟩ := h
    have hu := hu_of hr
    have nd := scSv.nd
    refine ⟨_, pss_cons (ps_if (PW.pt (pw_or (pt_not (pt_val (pe_callB call_isi (by rfl) B.isi PyProof.Rows.boot_isinstance (pa_cons (pv 0) (pa_cons (pe_bltn (by rfl) B.dict PyProof.Rows.boot_dict (v := .ty "dict") rfl) pa_nil))))) (pw_or1 (pt_cmpR op_ne (pe_callB call_lenD (by rfl) B.len PySem.boot_len (pa_cons (pv 0) pa_nil)) (pe_callB call_lenD (by rfl) B.len PySem.boot_len (pa_cons (pv 1) pa_nil)) rfl))))
        (pss_one (ps_ret pe_bl))
        pss_nil)
      (pss_cons (ps_lock (ps_setLc (i := 2) (own := [("_law_name", 3)]) (g := gName 3) (tt := _) (te := tVar 3) rfl nd rfl rfl (by rfl) (pi_keys (pv 1)) (blkOk_by (N := nSv) (sc := defScope sSv) (by decide +kernel)) (fun _ _ _ _ _ => pg_name (i := 3) nd rfl (.inl rfl)) (fun _ _ _ _ _ => pts_one (PW.pt (pw_and (pt_cmp (pc_din hu (pv 3) (pv 0))) (pw_and1 (pt_val (pe_call Cii.ok (hr.mono (by decide)) (by rfl) Cii.at_ Cii.kp Cii.bd .nil pass0 (pa_cons (pe_dget hu (pv 0) (pv 3) (fun _ _ => rfl)) pa_nil)))))))
          (fun _ _ _ _ _ => (pv 3))))
      (pss_one (ps_ret (pe_and (pe_cmpR op_eq (pe_callB call_len_seq (by rfl) B.len PySem.boot_len (pa_cons (pv 2) pa_nil)) (pe_callB call_lenD (by rfl) B.len PySem.boot_len (pa_cons (pv 1) pa_nil)) rfl) (pe_one (pe_callB (cr_all rfl) (by rfl) B.all PyProof.Rows.boot_all (pa_cons (pe_lc (own := [("_law_name", 3)]) (g := gName 3) (tt := tYes)  rfl nd (pi_list (pv 2)) (blkOk_by (N := nSv) (sc := defScope sSv) (by decide +kernel)) (fun _ _ _ _ _ => pg_name (i := 3) nd rfl (.inl rfl)) (fun _ _ _ _ _ => pts_nil)
        (fun _ _ _ _ _ => (pe_cmpR op_eq (pe_dget hu (pv 0) (pv 3) (fun _ _ => rfl)) (pe_dget hu (pv 1) (pv 3) (fun _ _ => rfl)) rfl))) pa_nil))))))), ?_⟩
    refine ⟨.ref a, rfl, .ref a, .ty "dict", .type "dict", .type "dict", true, rfl, .ty _, .base (.dK bm), kit_ty (by decide +kernel), true, rfl, iteF ?_⟩
    refine ⟨.ref a, rfl, a, _, rfl, bm, .ref e, rfl, e, _, rfl, be, rfl, ?_⟩
    rw [decide_eq_true rfl]
    refine ⟨false, rfl, iteF ?_⟩
    refine ⟨e, _, be, trivial, fun od => ?_⟩
    have ax0 : (upd H e (.frz od (.dK (zK V.int X)))) a = some (.dK (zK V.int X)) := by rw [upd_ne nae]; exact bm
    refine ⟨.ref e, rfl, e, od, rfl, .inl ⟨zK V.int X, upd_same, fun D nD => lc_it walk_keys (fun i H' => Same (upd H e (.frz od (.dK (zK V.int X)))) H' ∧ H' D = some (.lst (((X.take i).map (·.1)).map V.int))) ⟨same_new nD, upd_same⟩ (fun i H' _ h => h.1 _ _ upd_same) ?_ ?_⟩⟩
    · rintro i x Hz H' hi ⟨sm, eD⟩ ⟨rfl, k1, v1, hk, rfl⟩
      obtain ⟨x, hx, rfl, rfl⟩ := keysZ hk
      have gv := zdget (g := V.int) (sm _ _ ax0) x.1
      rw [zget_at nX hx] at gv
      refine ⟨rfl, .int x.1, rfl, .ref a, rfl, a, _, rfl, gv, true, rfl, iteT ?_⟩
      refine ⟨.ref a, rfl, .int x.1, rfl, a, .int x.2, rfl, gv, x.2, rfl, true, rfl, iteT ⟨.int x.1, rfl, _, eD, ?_, same_at sm nD, ?_⟩⟩
      · rw [List.length_map, List.length_map, List.length_take]
        exact small1000 (by omega)
      · rw [upd_same, List.take_add_one, hx, List.map_append, List.map_append]
        rfl
    · rintro H' ⟨sm, eD⟩
      rw [zK_len, List.take_length] at eD
      have eF := sm _ _ (upd_same (H := H) (a := e) (o := HO.frz od (.dK (zK V.int X))))
      have nDe : D ≠ e := fun z => by rw [z, eF] at eD; cases eD
      refine ⟨eF, ?_⟩
      have s2 : Same H (upd H' e (.dK (zK V.int X))) := unlock be sm
      have eD2 : (upd H' e (.dK (zK V.int X))) D = some (.lst ((X.map (·.1)).map V.int)) := by rw [upd_ne nDe]; exact eD
      generalize upd H' e (.dK (zK V.int X)) = H2 at s2 eD2 ⊢
      clear sm eD eF H'
      refine ⟨.ref D, rfl, D, _, rfl, .inl (sl_map eD2), .ref e, rfl, e, _, rfl, s2 _ _ be, rfl, ?_⟩
      rw [zK_len, List.length_map, List.length_map, decide_eq_true rfl]
      refine ⟨true, rfl, iteT ?_⟩
      refine ⟨.ref D, rfl, D, rfl, ⟨_, sl_map eD2⟩, fun R nR => lc_list (xs := (X.map (·.1)).map V.int) (fun i H' => Same H2 H' ∧ H' R = some (.lst ((List.replicate i true).map V.bl))) ⟨same_new nR, upd_same⟩ (fun i H' _ h => h.1.seq (sl_map eD2)) ?_ ?_⟩
      · rintro i z H' hz ⟨sm, hd⟩
        rw [List.getElem?_map, List.getElem?_map] at hz
        obtain ⟨v, hv, rfl⟩ := Option.map_eq_some_iff.mp hz
        obtain ⟨x, hx, rfl⟩ := Option.map_eq_some_iff.mp hv
        have s3 := s2.trans sm
        have gv := zdget (g := V.int) (s3 _ _ bm) x.1
        have ev := zdget (g := V.int) (s3 _ _ be) x.1
        rw [zget_at nX hx] at gv ev
        have hi := (List.getElem?_eq_some_iff.mp hx).1
        refine ⟨rfl, .ref a, rfl, .int x.1, rfl, a, .int x.2, rfl, gv, .ref e, rfl, .int x.1, rfl, e, .int x.2, rfl, ev, rfl, ?_⟩
        rw [decide_eq_true rfl]
        refine ⟨_, hd, ?_, same_at sm nR, ?_⟩
        · rw [List.length_map, List.length_replicate]
          exact small1000 (by omega)
        · rw [upd_same, List.replicate_succ', List.map_append]
          rfl
      · rintro H' ⟨sm, hd⟩
        refine ⟨R, _, rfl, sl_map hd, ?_⟩
        rw [all_repl]
        exact q _ (s2.trans sm)
abbrev sIf : Stmt := topS 23
abbrev nIf : List Str := ["_law_values", "_law_sides_here", "_law_numbers_here", "_law_name", "_law_taken", "_law_value"]
theorem scIf : FnScope nIf ["_law_values", "_law_sides_here", "_law_numbers_here"] (defScope sIf) := ⟨rfl, rfl, rfl, by decide +kernel, rfl, by decide +kernel, by decide +kernel⟩
def spIf : Sp := fun vs H Q _ => ∃ (r b hd : Addr) (M : List (Str × Int)) (L : List Ent) (Hs : List (Int × Int)) (S : Str → List Int) (P : List Int), vs = [.ref r, .ref b, .ref hd] ∧ H r = some (.dK (intK M)) ∧ Bu H b L ∧ H hd = some (.dK (zK V.int Hs)) ∧ (Hs.map (·.1)).Nodup ∧ r ≠ b ∧ r ≠ hd ∧ b ≠ hd ∧ Wd L S Hs P ∧ FitOk (L.map (·.1)) S (zget Hs) M ∧ Eqs Hs M ∧ ∀ H', Same H H' → Q (.bl true) H'
theorem ok_If {f f0 : Addr} {fd fd0 : FuncData} (F : Fun K "_law_is_fit" "_law_is_fit" sIf f fd) (B : Bt mg) (zstr : mg "str" = none) (Cii : Call P w K mg base 1 "_law_is_integer" f0 fd0 ["_law_actual"] spIsInt) :
    FnOk P w K mg base CX0 2 f fd ["_law_values", "_law_sides_here", "_law_numbers_here"] spIf := by
  refine F.ok scIf (fun vs H Q E h => ?_) (fun cdv A outer s H vs Q E hr h => ?_)
  · obtain ⟨r, b, hd, M, L, Hs, S, P, rfl, _⟩ := h
    rfl
  · obtain ⟨r, b, hd, M, L, Hs, S, PP, rfl, er, bx, eh, nH, rb, rh, bh, W, fo, eqs, q⟩ := h
    have hu := hu_of hr
    have nd := scIf.nd
    refine ⟨_, pss_cons (ps_if (pt_not (pt_val (pe_callB call_isi (by rfl) B.isi PyProof.Rows.boot_isinstance (pa_cons (pv 0) (pa_cons (pe_bltn (by rfl) B.dict PyProof.Rows.boot_dict (v := .ty "dict") rfl) pa_nil)))))
        (pss_one (ps_ret pe_bl))
        pss_nil)
      (pss_cons (ps_lock (ps_for PassesOwn.never rfl (pi_keys (pv 0)) (pg_name (i := 3) nd rfl (.inl rfl))
        (pss_cons (ps_if (PW.pt (pw_or (pt_not (pt_val (pe_callB call_isi (by rfl) B.isi PyProof.Rows.boot_isinstance (pa_cons (pv 3) (pa_cons (pe_bltn (by rfl) zstr PyProof.Rows.boot_str (v := .ty "str") rfl) pa_nil))))) (pw_or (pt_cmp (pc_dnotin hu (pv 3) (pv 1))) (pw_or1 (pt_not (pt_val (pe_call Cii.ok (hr.mono (by decide)) (by rfl) Cii.at_ Cii.kp Cii.bd .nil pass0 (pa_cons (pe_dget hu (pv 0) (pv 3) (fun _ _ => rfl)) pa_nil))))))))
            (pss_one (ps_ret pe_bl))
            pss_nil)
          (pss_one (ps_if (PW.pt (pw_or (pt_cmpR (r := rIn K true) op_notIn_seq (pe_dget hu (pv 0) (pv 3) (fun _ _ => rfl)) (pe_dget hu (pv 1) (pv 3) (fun _ _ => rfl)) rfl) (pw_or1 (pt_cmp (pc_dnotin hu (pe_dget hu (pv 0) (pv 3) (fun _ _ => rfl)) (pv 2))))))
            (pss_one (ps_ret pe_bl))
            pss_nil)))))
      (pss_cons (ps_lock (ps_setLc (i := 4) (own := [("_law_name", 3)]) (g := gName 3) (tt := tYes)  rfl nd rfl rfl (by rfl) (pi_keys (pv 0)) (blkOk_by (N := nIf) (sc := defScope sIf) (by decide +kernel)) (fun _ _ _ _ _ => pg_name (i := 3) nd rfl (.inl rfl)) (fun _ _ _ _ _ => pts_nil)
          (fun _ _ _ _ _ => (pe_dget hu (pv 0) (pv 3) (fun _ _ => rfl)))))
      (pss_cons (ps_lock (ps_for PassesOwn.never rfl (pi_keys (pv 2)) (pg_name (i := 5) nd rfl (.inl rfl))
        (pss_one (ps_if (pt_cmpR op_ne (pe_bm PySem.F.plainAttrs_list PySem.F.slot_list_count PySem.F.type_list_count mt_lcount (pv 4) (pa_cons (pv 5) pa_nil)) (pe_dget hu (pv 2) (pv 5) (fun _ _ => rfl)) rfl)
            (pss_one (ps_ret pe_bl))
            pss_nil))))
      (pss_one (ps_ret pe_bl))))), ?_⟩
    have few := bx.few
    have fM : M.length ≤ 40 := by
      have := List.Nodup.length_le_of_subset fo.nd fun x hx => fo.sub x hx
      rw [List.length_map, List.length_map] at this
      omega
    refine ⟨_, rfl, .ref r, .ty "dict", .type "dict", .type "dict", true, rfl, .ty _, .base (.dK er), kit_ty (by decide +kernel), true, rfl, iteF ?_⟩
    refine ⟨r, _, er, trivial, fun od => ?_⟩
    have er0 := upd_same (H := H) (a := r) (o := HO.frz od (.dK (intK M)))
    have bxl : Bu (upd H r (.frz od (.dK (intK M)))) b L := bx.off rb.symm fun g hg z => by have := bx.sides g hg; rw [z, er] at this; cases this
    have eh0 : (upd H r (.frz od (.dK (intK M)))) hd = some (.dK (zK V.int Hs)) := by rw [upd_ne rh.symm]; exact eh
    refine ⟨.ref r, rfl, r, od, rfl, .inl ⟨intK M, upd_same, for_it walk_keys (fun i σ H' => ∃ (y3 : Option V), σ = [some (.ref r), some (.ref b), some (.ref hd), y3, none, none] ∧ Same (upd H r (.frz od (.dK (intK M)))) H')
      ⟨none, rfl, fun _ _ h => h⟩ (fun i σ H' _ h => by obtain ⟨_, _, s⟩ := h; exact s _ _ upd_same) ?_ ?_⟩⟩
    · rintro i x σ H1 H2 hi ⟨y3, rfl, s1⟩ ⟨rfl, k1, v1, hk, rfl⟩
      obtain ⟨e, he, rfl, rfl⟩ := keysI hk
      have em := List.mem_of_getElem? he
      have gx := (aget_iff fo.nd e.1 e.2).mpr em
      have xn := fo.sub e.1 (List.mem_map_of_mem (f := fun e : Str × Int => e.1) em)
      have gv := Ax.get (H := H2) (d := r) (A := M) ⟨.inr ⟨od, s1 _ _ er0⟩⟩ e.1
      rw [gx] at gv
      obtain ⟨a, ga, ea⟩ := Fit.get (bxl.toBx.same s1) W.fit xn
      obtain ⟨kk, hkk⟩ := Option.isSome_iff_exists.mp (fo.inK _ _ gx)
      have gh := zdget (g := V.int) (s1 _ _ eh0) e.2
      rw [hkk] at gh
      refine ⟨_, rfl, .str e.1, .ty "str", .type "str", .type "str", true, rfl, .ty _, .base (.str _), kit_ty (by decide +kernel), true, rfl, iteF ?_⟩
      refine ⟨_, rfl, _, rfl, b, _, rfl, ga, false, rfl, iteF ?_⟩
      refine ⟨_, rfl, _, rfl, r, .int e.2, rfl, gv, _, rfl, true, rfl, iteF ?_⟩
      refine ⟨_, rfl, _, rfl, r, .int e.2, rfl, gv, _, rfl, _, rfl, b, .ref a, rfl, ga, a, _, rfl, .inl (sl_map ea), rfl, flat_ints _, _, rfl, ?_⟩
      rw [if_pos rfl, in_ints, decide_eq_true (fo.inS _ _ gx)]
      refine iteF ?_
      exact ⟨_, rfl, _, rfl, r, .int e.2, rfl, gv, _, rfl, hd, _, rfl, gh, false, rfl, iteF ⟨_, rfl, s1⟩⟩
    rintro σ H1 ⟨y3, rfl, s1⟩
    refine ⟨s1 _ _ upd_same, ?_⟩
    have s2 := unlock er s1
    generalize upd H1 r (.dK (intK M)) = H2 at s2 ⊢
    clear s1 er0 bxl eh0 od H1
    have er2 := s2 _ _ er
    refine ⟨r, _, er2, trivial, fun od => ?_⟩
    refine ⟨.ref r, rfl, r, od, rfl, .inl ⟨intK M, upd_same, fun Z nZ => lc_it walk_keys (fun i H' => Same (upd H2 r (.frz od (.dK (intK M)))) H' ∧ H' Z = some (.lst (((M.map (·.2)).take i).map V.int))) ⟨same_new nZ, upd_same⟩ (fun i H' _ h => h.1 _ _ upd_same) ?_ ?_⟩⟩
    · rintro i x Hz H' hi ⟨sm, eZ⟩ ⟨rfl, k1, v1, hk, rfl⟩
      obtain ⟨e, he, rfl, rfl⟩ := keysI hk
      have gx := (aget_iff fo.nd e.1 e.2).mpr (List.mem_of_getElem? he)
      have gv := Ax.get (H := H') (d := r) (A := M) ⟨.inr ⟨od, sm _ _ upd_same⟩⟩ e.1
      rw [gx] at gv
      have ai : (M.map (·.2))[i]? = some e.2 := by rw [List.getElem?_map, he] <;> rfl
      refine ⟨rfl, _, rfl, _, rfl, r, .int e.2, rfl, gv, _, eZ, by rw [List.length_map, List.length_take, List.length_map]; exact small1000 (by omega), same_at sm nZ, ?_⟩
      rw [upd_same, take_snoc ai, List.map_append] <;> rfl
    rintro H1 ⟨s1, eZ⟩
    have eb1 := s1 _ _ (upd_same (H := H2) (a := r) (o := HO.frz od (.dK (intK M))))
    rw [intK_len, show M.length = (M.map (·.2)).length from (List.length_map _).symm, List.take_length] at eZ
    have Zb : Z ≠ r := fun z => by rw [z, eb1] at eZ; cases eZ
    refine ⟨eb1, ?_⟩
    have s3 := s2.trans (unlock er2 s1)
    have eZ3 : (upd H1 r (.dK (intK M))) Z = some (.lst ((M.map (·.2)).map V.int)) := by rw [upd_ne Zb]; exact eZ
    generalize upd H1 r (.dK (intK M)) = H3 at s3 eZ3 ⊢
    clear s1 eb1 eZ nZ er2 od
    have eh3 := s3 _ _ eh
    refine ⟨hd, _, eh3, trivial, fun od => ?_⟩
    have Zh : Z ≠ hd := fun z => by rw [z, eh3] at eZ3; cases eZ3
    refine ⟨.ref hd, rfl, hd, od, rfl, .inl ⟨zK V.int Hs, upd_same, for_it walk_keys (fun i σ H' => ∃ (y5 : Option V), σ = [some (.ref r), some (.ref b), some (.ref hd), y3, some (.ref Z), y5] ∧ Same (upd H3 hd (.frz od (.dK (zK V.int Hs)))) H')
      ⟨none, rfl, fun _ _ h => h⟩ (fun i σ H' _ h => by obtain ⟨_, _, s⟩ := h; exact s _ _ upd_same) ?_ ?_⟩⟩
    · rintro i x σ H4 H5 hi ⟨y5, rfl, s4⟩ ⟨rfl, k1, v1, hk, rfl⟩
      obtain ⟨e, he, rfl, rfl⟩ := keysZ hk
      have gv := zdgetF (g := V.int) (s4 _ _ upd_same) e.1
      have zg := zget_at nH he
      rw [zg] at gv
      have eZ4 : H5 Z = some (.lst ((M.map (·.2)).map V.int)) := s4 _ _ (by rw [upd_ne Zh]; exact eZ3)
      have eq := eqs e (List.mem_of_getElem? he)
      refine ⟨_, rfl, .inl ⟨rfl, _, sl_map eZ4⟩, _, rfl, Z, _, e.1, rfl, rfl, sl_map eZ4, _, rfl, _, rfl, hd, .int e.2, rfl, gv, rfl, _, rfl, ?_⟩
      rw [cnt_is, eq, decide_eq_true rfl]
      exact iteF ⟨_, rfl, s4⟩
    · rintro σ H4 ⟨y5, rfl, s4⟩
      exact ⟨s4 _ _ upd_same, q _ (s3.trans (unlock eh3 s4))⟩
end
end K19

set_option Elab.async false
set_option linter.all false
set_option maxRecDepth 100000
set_option maxHeartbeats 4000000
namespace K19
open PySem PySem.Spec PyProof.Rows L2 Cs CsX
abbrev Out := List (Str × Int) ⊕ List Int
/-- the told pair -/
def Tel (H : Hp) (T r : Addr) : Out → Prop
  | .inl M => H T = some (.tup [.str "fit", .ref r]) ∧ H r = some (.dK (intK M))
  | .inr c => H T = some (.tup [.str "want", .ref r]) ∧ H r = some (.lst (c.map V.int))
theorem Tel.same {H H' : Hp} {T r : Addr} {o : Out} (t : Tel H T r o) (s : Same H H') : Tel H' T r o := by
  cases o with
  | inl M => exact ⟨s _ _ t.1, s _ _ t.2⟩
  | inr c => exact ⟨s _ _ t.1, s _ _ t.2⟩
theorem Tel.keepL {H H' : Hp} {T r : Addr} {o : Out} {as : List Addr} (t : Tel H T r o) (k : KeepL as H H') (h1 : T ∉ as) (h2 : r ∉ as) : Tel H' T r o := by
  cases o with
  | inl M => exact ⟨k _ _ h1 t.1, k _ _ h2 t.2⟩
  | inr c => exact ⟨k _ _ h1 t.1, k _ _ h2 t.2⟩
theorem Tel.some {H : Hp} {T r : Addr} {o : Out} (t : Tel H T r o) : H T ≠ none ∧ H r ≠ none := by
  cases o with
  | inl M => exact ⟨(by rw [t.1]; exact fun z => nomatch z), (by rw [t.2]; exact fun z => nomatch z)⟩
  | inr c => exact ⟨(by rw [t.1]; exact fun z => nomatch z), (by rw [t.2]; exact fun z => nomatch z)⟩
theorem filter_inI {s : List Int} {j : Nat} {v : Int} {ss : List Int} (h : s[j]? = some v) : (s.take (j + 1)).filter (fun w => decide (w ∈ ss)) = (s.take j).filter (fun w => decide (w ∈ ss)) ++ (if v ∈ ss then [v] else []) := by
  rw [filter_snoc h]
  by_cases c : v ∈ ss
  · rw [if_pos c, if_pos (decide_eq_true c)]
  · rw [if_neg c, if_neg (by simpa using c)]
section
variable {P : Program} {w : World} {K : PySem.W.Frag} {mg : Str → Option Value} {base : Heap}
abbrev sIc : Stmt := topS 24
abbrev nIc : List Str := ["_law_wanted", "_law_sides_here", "_law_numbers_here", "_law_wants", "_law_k", "_law_takers", "_law_name", "_law_value"]
theorem scIc : FnScope nIc ["_law_wanted", "_law_sides_here", "_law_numbers_here"] (defScope sIc) := ⟨rfl, rfl, rfl, by decide +kernel, rfl, by decide +kernel, by decide +kernel⟩
def spIc : Sp := fun vs H Q _ => ∃ (r b hd : Addr) (c : List Int) (L : List Ent) (Hs : List (Int × Int)) (S : Str → List Int) (P : List Int), vs = [.ref r, .ref b, .ref hd] ∧ H r = some (.lst (c.map V.int)) ∧ Bu H b L ∧ H hd = some (.dK (zK V.int Hs)) ∧ b ≠ hd ∧ Hs.length ≤ 1000 ∧ Wd L S Hs P ∧ Want (zget Hs) S (L.map (·.1)) c ∧ ∀ H', Same H H' → Q (.bl true) H'
theorem ok_Ic {f f0 : Addr} {fd fd0 : FuncData} (F : Fun K "_law_is_want" "_law_is_want" sIc f fd) (B : Bt mg) (Cii : Call P w K mg base 1 "_law_is_integer" f0 fd0 ["_law_actual"] spIsInt) :
    FnOk P w K mg base CX0 2 f fd ["_law_wanted", "_law_sides_here", "_law_numbers_here"] spIc := by
  refine F.ok scIc (fun vs H Q E h => ?_) (fun cdv A outer s H vs Q E hr h => ?_)
  · obtain ⟨r, b, hd, c, L, Hs, S, P, rfl, _⟩ := h
    rfl
  · obtain ⟨r, b, hd, c, L, Hs, S, PP, rfl, er, bx, eh, bh, hl, W, wa, q⟩ := h
    have hu := hu_of hr
    have nd := scIc.nd
    refine ⟨_, pss_cons (ps_if (pt_not (pt_val (pe_callB call_isi (by rfl) B.isi PyProof.Rows.boot_isinstance (pa_cons (pv 0) (pa_cons (pe_bltn (by rfl) B.list PyProof.Rows.boot_list (v := .ty "list") rfl) pa_nil)))))
        (pss_one (ps_ret pe_bl))
        pss_nil)
      (pss_cons (ps_set (i := 3) nd rfl (.inl rfl) pe_int)
      (pss_cons (ps_for PassesOwn.never rfl (pi_range1 (by rfl) B.range (pa_cons (pe_callB call_len_seq (by rfl) B.len PySem.boot_len (pa_cons (pv 0) pa_nil)) pa_nil)) (pg_name (i := 4) nd rfl (.inl rfl))
        (pss_cons (ps_if (PW.pt (pw_or (pt_not (pt_val (pe_call Cii.ok (hr.mono (by decide)) (by rfl) Cii.at_ Cii.kp Cii.bd .nil pass0 (pa_cons (pe_ix ix_list (pv 0) (pv 4) (fun _ _ => rfl)) pa_nil)))) (pw_or (pt_cmp (pc_dnotin hu (pe_ix ix_list (pv 0) (pv 4) (fun _ _ => rfl)) (pv 2))) (pw_or1 (pt_cmpR (r := rIn K false) op_in_seq (pe_ix ix_list (pv 0) (pv 4) (fun _ _ => rfl)) (pe_slice sl_list (pv 0) po_none (po_some (pv 4))) rfl)))))
            (pss_one (ps_ret pe_bl))
            pss_nil)
          (pss_one (ps_set (i := 3) nd rfl (.inl rfl) (pe_op op_add (pv 3) (pe_dget hu (pv 2) (pe_ix ix_list (pv 0) (pv 4) (fun _ _ => rfl)) (fun _ _ => rfl)))))))
      (pss_cons (ps_set (i := 5) nd rfl (.inl rfl) pe_int)
      (pss_cons (ps_lock (ps_for PassesOwn.never rfl (pi_keys (pv 1)) (pg_name (i := 6) nd rfl (.inl rfl))
        (pss_one (ps_if (pt_cmpR op_gt (pe_callB call_len_seq (by rfl) B.len PySem.boot_len (pa_cons (pe_lc (own := [("_law_value", 7)]) (g := gName 7) (tt := _) (te := tVar 7) rfl nd (pi_list (pe_dget hu (pv 1) (pv 6) (fun _ _ => rfl))) (blkOk_by (N := nIc) (sc := defScope sIc) (by decide +kernel)) (fun _ _ _ _ _ => pg_name (i := 7) nd rfl (.inl rfl)) (fun _ _ _ _ _ => pts_one (pt_cmpR (r := rIn K false) op_in_seq (pv 7) (pv 0) rfl))
        (fun _ _ _ _ _ => (pv 7))) pa_nil)) pe_int rfl)
            (pss_one (ps_set (i := 5) nd rfl (.inl rfl) (pe_op op_add (pv 5) pe_int)))
            pss_nil))))
      (pss_one (ps_ret (pe_cmpR op_gt (pv 3) (pv 5) rfl))))))), ?_⟩
    have few := bx.few
    have cl : c.length ≤ 1000 := by
      have := List.Nodup.length_le_of_subset wa.nd (l₂ := Hs.map (·.1)) fun w hw => zmem.mp (wa.inK w hw)
      rw [List.length_map] at this
      omega
    refine ⟨_, rfl, .ref r, .ty "list", .type "list", .type "list", true, rfl, .ty _, .base (.lst er), kit_ty (by decide +kernel), true, rfl, iteF ?_⟩
    refine ⟨_, rfl, r, _, rfl, .inl (sl_map er), _, rfl, ?_, ?_, for_range (lo := 0) (fun k σ H' => ∃ (y4 : Option V), σ = [some (.ref r), some (.ref b), some (.ref hd), some (.int ((c.take k).map fun w => (zget Hs w).getD 0).sum), y4, none, none, none] ∧ Same H H')
      ⟨none, rfl, Same.refl _⟩ ?_ ?_⟩
    · rw [List.length_map]; omega
    · rw [List.length_map]; omega
    · rintro k σ H1 hk ⟨y4, rfl, s1⟩
      rw [List.length_map] at hk
      have hk' : k < c.length := by omega
      obtain ⟨x, hx⟩ : ∃ x, c[k]? = some x := ⟨_, List.getElem?_eq_getElem hk'⟩
      obtain ⟨kk, hkk⟩ := Option.isSome_iff_exists.mp (wa.inK x (List.mem_of_getElem? hx))
      have er1 := s1 _ _ er
      have cx : (c.map V.int)[k]? = some (.int x) := by rw [List.getElem?_map, hx] <;> rfl
      have gh := zdget (g := V.int) (s1 _ _ eh) x
      rw [hkk] at gh
      refine ⟨_, rfl, _, rfl, r, _, _, .int x, rfl, rfl, sl_map er1, at_eq (j := k) (by omega) cx, _, rfl, true, rfl, iteF ?_⟩
      refine ⟨_, rfl, _, rfl, r, _, _, .int x, rfl, rfl, sl_map er1, at_eq (j := k) (by omega) cx, _, rfl, hd, _, rfl, gh, false, rfl, iteF ?_⟩
      refine ⟨_, rfl, _, rfl, r, _, _, .int x, rfl, rfl, sl_map er1, at_eq (j := k) (by omega) cx, _, rfl, _, rfl, _, rfl, r, _, rfl, sl_map er1, fun p np => ?_⟩
      rw [show (0 + (k : Int)) = (k : Int) by omega, cutV_to, ← List.map_take]
      refine ⟨p, _, rfl, .inl (sl_map upd_same), rfl, flat_ints _, _, rfl, ?_⟩
      rw [if_neg (by decide), in_ints, decide_eq_false (not_take wa.nd hx)]
      have s2 := same_at s1 (s1.free np) (o := HO.lst ((c.take k).map V.int))
      generalize upd H1 p (HO.lst ((c.take k).map V.int)) = H2 at s2 ⊢
      have gh2 := zdget (g := V.int) (s2 _ _ eh) x
      rw [hkk] at gh2
      refine iteF ⟨_, rfl, _, rfl, _, rfl, _, rfl, r, _, _, .int x, rfl, rfl, sl_map (s2 _ _ er), at_eq (j := k) (by omega) cx, hd, .int kk, rfl, gh2, _, _, rfl, rfl, some (.int (k : Int)), ?_, s2⟩
      rw [take_snoc hx, List.map_append, List.sum_append]
      show [some (V.ref r), some (.ref b), some (.ref hd), some (V.int (_ + kk)), _, none, none, none] = [_, _, _, some (V.int (_ + ((zget Hs x).getD 0 + 0))), _, none, none, none]
      rw [hkk]
      simp
    · rintro σ H1 ⟨y4, rfl, s1⟩
      rw [List.length_map, show ((c.length : Int)).toNat = c.length by omega, List.take_length]
      have bx1 := bx.same' s1
      refine ⟨b, _, bx1.un, trivial, fun od => ?_⟩
      have bxl := bx1.toBx.lock (od := od) bx1.un
      have rb : r ≠ b := fun z => by have := bx.un; rw [← z, er] at this; cases this
      have er0 : (upd H1 b (.frz od (.dK (entK L)))) r = some (.lst (c.map V.int)) := by rw [upd_ne rb]; exact s1 _ _ er
      obtain ⟨f, hf⟩ : ∃ f : Str → Bool, f = fun x => (S x).any fun v => decide (v ∈ c) := ⟨_, rfl⟩
      refine ⟨.ref b, rfl, b, od, rfl, .inl ⟨entK L, upd_same, for_it walk_keys (fun i σ H' => ∃ (y6 : Option V), σ = [some (.ref r), some (.ref b), some (.ref hd), some (.int (c.map fun w => (zget Hs w).getD 0).sum), y4, some (.int ((((L.map (·.1)).take i).filter f).length : Nat)), y6, none] ∧ Same (upd H1 b (.frz od (.dK (entK L)))) H')
        ⟨none, rfl, fun _ _ h => h⟩ (fun i σ H' _ h => by obtain ⟨_, _, s⟩ := h; exact s _ _ upd_same) ?_ ?_⟩⟩
      · rintro i x σ H2 H3 hi ⟨y6, rfl, s2⟩ ⟨rfl, k1, v1, hk, rfl⟩
        obtain ⟨e, he, rfl, rfl⟩ := keys_at hk
        have xi : (L.map (·.1))[i]? = some e.1 := by rw [List.getElem?_map, he] <;> rfl
        have xn := List.mem_of_getElem? xi
        obtain ⟨a, ga, ea⟩ := Fit.get (bxl.same s2) W.fit xn
        have fs := filter_snoc (p := f) xi
        refine ⟨_, rfl, _, rfl, b, .ref a, rfl, ga, a, rfl, ⟨_, sl_map ea⟩, fun Z nZ => lc_list (xs := (S e.1).map V.int) (fun j H' => Same H3 H' ∧ H' Z = some (.lst ((((S e.1).take j).filter fun w => decide (w ∈ c)).map V.int))) ⟨same_new nZ, upd_same⟩ (fun j H' _ h => sl_map (h.1 _ _ ea)) ?_ ?_⟩
        · rintro j x H5 hx0 ⟨s5, eW⟩
          rw [List.getElem?_map] at hx0
          obtain ⟨w, hw, rfl⟩ := Option.map_eq_some_iff.mp hx0
          have fs := filter_inI (ss := c) hw
          have fl := filter_len (S e.1) (fun w => decide (w ∈ c)) j
          have sl := W.sz e.1 xn
          refine ⟨rfl, _, rfl, _, rfl, r, _, rfl, .inl (sl_map (s5 _ _ (s2 _ _ er0))), rfl, flat_ints _, _, rfl, ?_⟩
          rw [if_neg (by decide), in_ints]
          refine ite_both (fun cc => ⟨_, rfl, _, eW, ?_, same_at s5 nZ, ?_⟩) fun cc => ⟨s5, ?_⟩
          · rw [List.length_map]
            exact small1000 (by omega)
          · rw [fs, if_pos (of_decide_eq_true cc), upd_same, List.map_append] <;> rfl
          · rw [fs, if_neg (of_decide_eq_false cc), List.append_nil]; exact eW
        · rintro H5 ⟨s5, eW⟩
          rw [List.length_map, List.take_length] at eW
          have s25 := s2.trans s5
          refine ⟨Z, _, rfl, .inl (sl_map eW), _, _, rfl, rfl, _, rfl, ?_⟩
          rw [List.length_map]
          have iff_ : 0 < ((S e.1).filter fun w => decide (w ∈ c)).length ↔ f e.1 = true := by
            rw [hf, List.length_pos_iff_exists_mem, List.any_eq_true]
            constructor
            · rintro ⟨w, hw⟩
              obtain ⟨h1, h2⟩ := List.mem_filter.mp hw
              exact ⟨w, h1, h2⟩
            · rintro ⟨w, h1, h2⟩
              exact ⟨w, List.mem_filter.mpr ⟨h1, h2⟩⟩
          refine ite_both (fun cc => ?_) fun cc => ?_
          · have c1 : (0 : Int) < (((S e.1).filter fun w => decide (w ∈ c)).length : Nat) := of_decide_eq_true cc
            have c2 := iff_.mp (by omega)
            refine ⟨_, rfl, _, _, rfl, rfl, some (.str e.1), ?_, s25⟩
            rw [fs, if_pos c2, List.length_append]
            rfl
          · have c1 : ¬ (0 : Int) < (((S e.1).filter fun w => decide (w ∈ c)).length : Nat) := of_decide_eq_false cc
            have c2 : ¬ f e.1 = true := fun z => c1 (by have := iff_.mpr z; omega)
            refine ⟨some (.str e.1), ?_, s25⟩
            rw [fs, if_neg c2, List.append_nil]
            rfl
      · rintro σ H2 ⟨y6, rfl, s2⟩
        refine ⟨s2 _ _ upd_same, ?_⟩
        rw [entK_len, show L.length = (L.map (·.1)).length from (List.length_map _).symm, List.take_length, hf]
        refine ⟨_, rfl, _, rfl, _, _, rfl, rfl, ?_⟩
        show Q (.bl (decide (_ < _))) _
        rw [decide_eq_true wa.few]
        exact q _ (s1.trans (unlock bx1.un s2))
abbrev sAh : Stmt := topS 25
abbrev nAh : List Str := ["_law_told", "_law_sides_here", "_law_numbers_here"]
theorem scAh : FnScope nAh ["_law_told", "_law_sides_here", "_law_numbers_here"] (defScope sAh) := ⟨rfl, rfl, rfl, by decide +kernel, rfl, by decide +kernel, by decide +kernel⟩
inductive Told (H : Hp) (T b hd : Addr) (L : List Ent) (S : Str → List Int) (Hs : List (Int × Int)) : Prop
  | want (r : Addr) (c : List Int) (e : H T = some (.tup [.str "want", .ref r])) (er : H r = some (.lst (c.map V.int))) (cr : Want (zget Hs) S (L.map (·.1)) c) : Told H T b hd L S Hs
  | fit (r : Addr) (M : List (Str × Int)) (e : H T = some (.tup [.str "fit", .ref r])) (er : H r = some (.dK (intK M))) (fo : FitOk (L.map (·.1)) S (zget Hs) M) (all : Eqs Hs M) (a1 : r ≠ b) (a2 : r ≠ hd) : Told H T b hd L S Hs
def spAh : Sp := fun vs H Q _ => ∃ (T b hd : Addr) (L : List Ent) (Hs : List (Int × Int)) (S : Str → List Int) (P : List Int), vs = [.ref T, .ref b, .ref hd] ∧ Told H T b hd L S Hs ∧ Bu H b L ∧ H hd = some (.dK (zK V.int Hs)) ∧ b ≠ hd ∧ (Hs.map (·.1)).Nodup ∧ Hs.length ≤ 1000 ∧ Wd L S Hs P ∧ ∀ H', Same H H' → Q (.bl true) H'
theorem ok_Ah {f f0 f1 : Addr} {fd fd0 fd1 : FuncData} (F : Fun K "_law_answer_holds" "_law_answer_holds" sAh f fd) (B : Bt mg) (zstr : mg "str" = none) (ztuple : mg "tuple" = none) (CIf : Call P w K mg base 2 "_law_is_fit" f0 fd0 ["_law_values", "_law_sides_here", "_law_numbers_here"] spIf) (CIc : Call P w K mg base 2 "_law_is_want" f1 fd1 ["_law_wanted", "_law_sides_here", "_law_numbers_here"] spIc) :
    FnOk P w K mg base CX0 3 f fd ["_law_told", "_law_sides_here", "_law_numbers_here"] spAh := by
  refine F.ok scAh (fun vs H Q E h => ?_) (fun cdv A outer s H vs Q E hr h => ?_)
  · obtain ⟨T, b, hd, L, Hs, S, P, rfl, _⟩ := h
    rfl
  · obtain ⟨T, b, hd, L, Hs, S, PP, rfl, told, bx, eh, bh, nH, hl, W, q⟩ := h
    have nd := scAh.nd
    refine ⟨_, pss_cons (ps_if (PW.pt (pw_or (pt_not (pt_val (pe_callB call_isi (by rfl) B.isi PyProof.Rows.boot_isinstance (pa_cons (pv 0) (pa_cons (pe_bltn (by rfl) ztuple PyProof.Rows.boot_tuple (v := .ty "tuple") rfl) pa_nil))))) (pw_or (pt_cmpR op_ne (pe_callB call_len_seq (by rfl) B.len PySem.boot_len (pa_cons (pv 0) pa_nil)) pe_int rfl) (pw_or1 (pt_not (pt_val (pe_callB call_isi (by rfl) B.isi PyProof.Rows.boot_isinstance (pa_cons (pe_ix ix_tup (pv 0) pe_int (fun _ _ => rfl)) (pa_cons (pe_bltn (by rfl) zstr PyProof.Rows.boot_str (v := .ty "str") rfl) pa_nil)))))))))
        (pss_one (ps_ret pe_bl))
        pss_nil)
      (pss_cons (ps_if (pt_cmpR op_eq (pe_ix ix_tup (pv 0) pe_int (fun _ _ => rfl)) pe_str rfl)
        (pss_one (ps_ret (pe_call CIf.ok (hr.mono (by decide)) (by rfl) CIf.at_ CIf.kp CIf.bd .nil pass0 (pa_cons (pe_ix ix_tup (pv 0) pe_int (fun _ _ => rfl)) (pa_cons (pv 1) (pa_cons (pv 2) pa_nil))))))
        pss_nil)
      (pss_one (ps_ret (pe_and (pe_cmpR op_eq (pe_ix ix_tup (pv 0) pe_int (fun _ _ => rfl)) pe_str rfl) (pe_one (pe_call CIc.ok (hr.mono (by decide)) (by rfl) CIc.at_ CIc.kp CIc.bd .nil pass0 (pa_cons (pe_ix ix_tup (pv 0) pe_int (fun _ _ => rfl)) (pa_cons (pv 1) (pa_cons (pv 2) pa_nil))))))))), ?_⟩
    cases told with
    | fit r M e er fo all a1 a2 =>
      refine ⟨_, rfl, .ref T, .ty "tuple", .type "tuple", .type "tuple", true, rfl, .ty _, .base (.tup e), kit_ty (by decide +kernel), true, rfl, iteF ?_⟩
      refine ⟨_, rfl, T, _, rfl, .inr (.inl (.inl e)), rfl, _, rfl, iteF ?_⟩
      refine ⟨_, rfl, T, _, _, .str "fit", rfl, rfl, .inl (.inl e), atI_nat (j := 0) rfl, .str "fit", .ty "str", .type "str", .type "str", true, rfl, .ty _, .base (.str _), kit_ty (by decide +kernel), true, rfl, iteF ?_⟩
      refine ⟨_, rfl, T, _, _, .str "fit", rfl, rfl, .inl (.inl e), atI_nat (j := 0) rfl, rfl, _, rfl, ite_both (fun _ => ?_) fun c => absurd (decide_eq_true rfl) (by rw [c]; decide)⟩
      exact ⟨_, rfl, T, _, _, .ref r, rfl, rfl, .inl (.inl e), atI_nat (j := 1) rfl, _, rfl, _, rfl, r, b, hd, M, L, Hs, S, PP, rfl, er, bx, eh, nH, a1, a2, bh, W, fo, all, q⟩
    | want r c e er cr =>
      refine ⟨_, rfl, .ref T, .ty "tuple", .type "tuple", .type "tuple", true, rfl, .ty _, .base (.tup e), kit_ty (by decide +kernel), true, rfl, iteF ?_⟩
      refine ⟨_, rfl, T, _, rfl, .inr (.inl (.inl e)), rfl, _, rfl, iteF ?_⟩
      refine ⟨_, rfl, T, _, _, .str "want", rfl, rfl, .inl (.inl e), atI_nat (j := 0) rfl, .str "want", .ty "str", .type "str", .type "str", true, rfl, .ty _, .base (.str _), kit_ty (by decide +kernel), true, rfl, iteF ?_⟩
      refine ⟨_, rfl, T, _, _, .str "want", rfl, rfl, .inl (.inl e), atI_nat (j := 0) rfl, rfl, _, rfl, ite_both (fun c => absurd c (by decide +kernel)) fun _ => ?_⟩
      refine ⟨_, rfl, T, _, _, .str "want", rfl, rfl, .inl (.inl e), atI_nat (j := 0) rfl, rfl, ?_⟩
      rw [decide_eq_true rfl]
      refine ⟨true, rfl, iteT ?_⟩
      exact ⟨_, rfl, T, _, _, .ref r, rfl, rfl, .inl (.inl e), atI_nat (j := 1) rfl, _, rfl, _, rfl, r, b, hd, c, L, Hs, S, PP, rfl, er, bx, eh, bh, hl, W, cr, q⟩
abbrev sKp : Stmt := topS 26
abbrev nKp : List Str := ["_law_told"]
theorem scKp : FnScope nKp ["_law_told"] (defScope sKp) := ⟨rfl, rfl, rfl, by decide +kernel, rfl, by decide +kernel, by decide +kernel⟩
def spKp : Sp := fun vs H Q _ => ∃ (T r : Addr) (o : Out), vs = [.ref T] ∧ Tel H T r o ∧ ∀ (H' : Hp) (T' r' : Addr), Same H H' → H T' = none → H r' = none → Tel H' T' r' o → Q (.ref T') H'
theorem ok_Kp {f  : Addr} {fd  : FuncData} (F : Fun K "_law_kept" "_law_kept" sKp f fd) (B : Bt mg) :
    FnOk P w K mg base CX0 1 f fd ["_law_told"] spKp := by
  refine F.ok scKp (fun vs H Q E h => ?_) (fun cdv A outer s H vs Q E hr h => ?_)
  · obtain ⟨T, r, o, rfl, _⟩ := h
    rfl
  · obtain ⟨T, r, o, rfl, tel, q⟩ := h
    have nd := scKp.nd
    refine ⟨_, pss_cons (ps_if (pt_val (pe_callB call_isi (by rfl) B.isi PyProof.Rows.boot_isinstance (pa_cons (pe_ix ix_tup (pv 0) pe_int (fun _ _ => rfl)) (pa_cons (pe_bltn (by rfl) B.dict PyProof.Rows.boot_dict (v := .ty "dict") rfl) pa_nil))))
        (pss_one (ps_ret (pe_tup (pa_cons (pe_ix ix_tup (pv 0) pe_int (fun _ _ => rfl)) (pa_cons (pe_callTy call_dictD (by rfl) B.dict PyProof.Rows.boot_dict (pa_cons (pe_ix ix_tup (pv 0) pe_int (fun _ _ => rfl)) pa_nil)) pa_nil)))))
        pss_nil)
      (pss_one (ps_ret (pe_tup (pa_cons (pe_ix ix_tup (pv 0) pe_int (fun _ _ => rfl)) (pa_cons (pe_callTy call_list_of (by rfl) B.list PyProof.Rows.boot_list (pa_cons (pe_ix ix_tup (pv 0) pe_int (fun _ _ => rfl)) pa_nil)) pa_nil))))), ?_⟩
    obtain ⟨w', hw⟩ : ∃ w' : Str, w' = (match o with | .inl _ => "fit" | .inr _ => "want") := ⟨_, rfl⟩
    cases o with
    | inl M =>
      obtain ⟨eT, er⟩ := tel
      replace hw : w' = "fit" := hw
      rw [← hw] at eT
      refine ⟨_, rfl, T, _, _, .ref r, rfl, rfl, .inl (.inl eT), atI_nat (j := 1) rfl, .ref r, .ty "dict", .type "dict", .type "dict", true, rfl, .ty _, .base (.dK er), kit_ty (by decide +kernel), _, rfl, iteT ?_⟩
      refine ⟨_, rfl, T, _, _, .str w', rfl, rfl, .inl (.inl eT), atI_nat (j := 0) rfl, _, rfl, T, _, _, .ref r, rfl, rfl, .inl (.inl eT), atI_nat (j := 1) rfl, r, _, rfl, .inl er, fun g ng => ?_⟩
      refine ⟨by show 2 ≤ sizeLine; decide, fun Y nY => ?_⟩
      have t1 := same_new (o := HO.dK (intK M)) ng
      have t2 := same_new (o := HO.tup [.str w', .ref g]) nY
      exact q _ Y g (t1.trans t2) (t1.free nY) ng ⟨by rw [← hw]; exact upd_same, t2 _ _ upd_same⟩
    | inr c =>
      obtain ⟨eT, er⟩ := tel
      replace hw : w' = "want" := hw
      rw [← hw] at eT
      refine ⟨_, rfl, T, _, _, .ref r, rfl, rfl, .inl (.inl eT), atI_nat (j := 1) rfl, .ref r, .ty "dict", .type "list", .type "dict", false, rfl, .ty _, .base (.lst er), kit_ty (by decide +kernel), _, rfl, iteF ?_⟩
      refine ⟨_, rfl, T, _, _, .str w', rfl, rfl, .inl (.inl eT), atI_nat (j := 0) rfl, _, rfl, T, _, _, .ref r, rfl, rfl, .inl (.inl eT), atI_nat (j := 1) rfl, r, _, rfl, .inl (sl_map er), fun g ng => ?_⟩
      refine ⟨by show 2 ≤ sizeLine; decide, fun Y nY => ?_⟩
      have t1 := same_new (o := HO.lst (c.map V.int)) ng
      have t2 := same_new (o := HO.tup [.str w', .ref g]) nY
      exact q _ Y g (t1.trans t2) (t1.free nY) ng ⟨by rw [← hw]; exact upd_same, t2 _ _ upd_same⟩
end
end K19

set_option Elab.async false
set_option linter.all false
set_option maxRecDepth 100000
set_option maxHeartbeats 4000000
namespace K19
open PySem PySem.Spec PyProof.Rows L2 Cs CsX
theorem digits2 : ∀ k ∈ List.range 16, (Str.ofString (toString ((k : Nat) : Int))).length ≤ 2 := by decide +kernel
theorem log16 : ∀ k ∈ List.range 16, ((k : Nat) : Int).natAbs.log2 < 1920 := by decide +kernel
theorem perm_at {α : Type} {ys : List α} {j : Nat} (h : j < ys.length) : (ys[j] :: ys.eraseIdx j).Perm ys := by
  have e : ys = ys.take j ++ ys[j] :: ys.drop (j + 1) := by rw [List.getElem_cons_drop, List.take_append_drop]
  rw [List.eraseIdx_eq_take_drop_succ]
  conv => rhs; rw [e]
  exact List.perm_middle.symm
theorem Doms.few {H : Hp} {l l2 : Addr} {ds us : List DomE} (D : Doms H l ds) (h : ∀ u ∈ us, u ∈ ds) (e : H l2 = some (.lst (us.map fun d => V.ref d.1))) : Doms H l2 us := ⟨e, fun d hd => D.tup d (h d hd), fun d hd => D.side d (h d hd)⟩
/-- a box of sides out of the pool -/
def BoxOk (L : List Ent) (ns : List Int) : Prop := ∀ g ∈ L, Srt g.2.2 ∧ g.2.2.length ≤ 1000 ∧ ∀ v ∈ g.2.2, v ∈ ns
section
variable {P : Program} {w : World} {K : PySem.W.Frag} {mg : Str → Option Value} {base : Heap}
abbrev sSf : Stmt := topS 14
abbrev nSf : List Str := ["_law_stream_here", "_law_things", "_law_rest", "_law_found", "_law_k", "_law_at"]
theorem scSf : FnScope nSf ["_law_stream_here", "_law_things"] (defScope sSf) := ⟨rfl, rfl, rfl, by decide +kernel, rfl, by decide +kernel, by decide +kernel⟩
def spSf : Sp := fun vs H Q _ => ∃ (α : Type) (g : α → V) (p nm : Addr) (xs : List α), vs = [.ref p, .ref nm] ∧ Strm H p ∧ H nm = some (.lst (xs.map g)) ∧ xs.length ≤ 30 ∧ p ≠ nm ∧
  ∀ (H' : Hp) (l : Addr) (zs : List α), Keep p H H' → H l = none → Strm H' p → H' l = some (.lst (zs.map g)) → zs.Perm xs → Q (.ref l) H'
theorem ok_Sf {f f0 : Addr} {fd fd0 : FuncData} (F : Fun K "_law_shuffled" "_law_shuffled" sSf f fd) (B : Bt mg) (D : Call P w K mg base 1 "_law_next" f0 fd0 ["_law_stream_here", "_law_size"] spDraw) :
    FnOk P w K mg base CX0 2 f fd ["_law_stream_here", "_law_things"] spSf := by
  refine F.ok scSf (fun vs H Q E h => ?_) (fun cdv A outer s H vs Q E hr h => ?_)
  · obtain ⟨α, g, p, nm, xs, rfl, _⟩ := h
    rfl
  · obtain ⟨α, g, p, nm, xs, rfl, hp, enm, xlen, pnm, q⟩ := h
    have nd := scSf.nd
    refine ⟨_, pss_cons (ps_set (i := 2) nd rfl (.inl rfl) (pe_callTy call_list_of (by rfl) B.list PyProof.Rows.boot_list (pa_cons (pv 1) pa_nil)))
      (pss_cons (ps_set (i := 3) nd rfl (.inl rfl) (pe_lst pa_nil))
      (pss_cons (ps_for PassesOwn.never rfl (pi_range1 (by rfl) B.range (pa_cons (pe_callB call_len_seq (by rfl) B.len PySem.boot_len (pa_cons (pv 1) pa_nil)) pa_nil)) (pg_name (i := 4) nd rfl (.inl rfl))
        (pss_cons (ps_set (i := 5) nd rfl (.inl rfl) (pe_call D.ok (hr.mono (by decide)) (by rfl) D.at_ D.kp D.bd .nil pass0 (pa_cons (pv 0) (pa_cons (pe_callB call_len_seq (by rfl) B.len PySem.boot_len (pa_cons (pv 2) pa_nil)) pa_nil))))
          (pss_cons (ps_expr (pe_bm PySem.F.plainAttrs_list PySem.F.slot_list_append PySem.F.type_list_append mt_append (pv 3) (pa_cons (pe_ix ix_list (pv 2) (pv 5) (fun _ _ => rfl)) pa_nil)))
          (pss_one (ps_set (i := 2) nd rfl (.inl rfl) (pe_op op_cat (pe_slice sl_list (pv 2) po_none (po_some (pv 5))) (pe_slice sl_list (pv 2) (po_some (pe_op op_add (pv 5) pe_int)) po_none)))))))
      (pss_one (ps_ret (pv 3))))), ?_⟩
    refine ⟨.ref nm, rfl, nm, _, rfl, .inl (sl_map enm), fun r nr => ⟨by show 0 ≤ sizeLine; decide, fun l nl0 => ?_⟩⟩
    have npr : p ≠ r := fun z => hp.some (z ▸ nr)
    have nlr : l ≠ r := fun z => by rw [z, upd_same] at nl0; cases nl0
    have nl1 : H l = none := by rw [upd_ne nlr] at nl0; exact nl0
    have npl : p ≠ l := fun z => hp.some (z ▸ nl1)
    have k0 : Keep p H (upd (upd H r (.lst (xs.map g))) l (.lst [])) := ((Keep.refl p H).at_ nr).at_ nl1
    refine ⟨.ref nm, rfl, nm, _, rfl, .inl (sl_map (k0 _ _ pnm.symm enm)), _, rfl, ?_, ?_, for_range (lo := 0) (n := ((xs.map g).length : Int).toNat) (fun i σ H' => ∃ (r' : Addr) (ys zs : List α) (y4 y5 : Option V), σ = [some (.ref p), some (.ref nm), some (.ref r'), some (.ref l), y4, y5] ∧ Keep p H H' ∧ Strm H' p ∧ H' r' = some (.lst (ys.map g)) ∧ H r' = none ∧ r' ≠ l ∧ ys.length + i = xs.length ∧ H' l = some (.lst (zs.map g)) ∧ zs.length = i ∧ (zs ++ ys).Perm xs)
      ⟨r, xs, [], none, none, rfl, k0, (hp.upd npr).upd npl, by rw [upd_ne nlr.symm, upd_same], nr, nlr.symm, rfl, upd_same, rfl, List.Perm.refl _⟩ ?_ ?_⟩
    · rw [List.length_map]; omega
    · rw [List.length_map]; omega
    · rintro i σ H' hi ⟨r', ys, zs, y4, y5, rfl, kp, st, er, nr', nrl, ylen, el, zl, pm⟩
      rw [List.length_map] at hi
      have hi' : i < xs.length := by omega
      have npr' : p ≠ r' := fun z => hp.some (z ▸ nr')
      refine ⟨.ref p, rfl, .ref r', rfl, r', _, rfl, .inl (sl_map er), p, _, rfl, st, ?_, ?_, fun H2 a o2 st2 a0 a1 => ?_⟩
      · rw [List.length_map]; omega
      · rw [List.length_map]; omega
      rw [List.length_map] at a1
      obtain ⟨j, rfl⟩ : ∃ j : Nat, a = (j : Int) := ⟨a.toNat, by omega⟩
      have hj : j < ys.length := by omega
      have gj : (ys.map g)[j]? = some (g ys[j]) := by rw [List.getElem?_map, List.getElem?_eq_getElem hj]; rfl
      have k2 := kp.oth o2
      have er2 : H2 r' = some (.lst (ys.map g)) := (o2 r' npr'.symm).trans er
      have el2 : H2 l = some (.lst (zs.map g)) := (o2 l npl.symm).trans el
      refine ⟨.ref l, rfl, .inl ⟨rfl, _, sl_map el2⟩, .ref r', rfl, .int j, rfl, r', _, j, g ys[j], rfl, rfl, sl_map er2, at_of (j := j) rfl gj, l, _, _, rfl, rfl, el2, ?_, ?_⟩
      · rw [List.length_map]
        exact small1000 (by omega)
      have el4 : (upd H2 l (.lst (zs.map g ++ [g ys[j]]))) l = some (.lst ((zs ++ [ys[j]]).map g)) := by rw [upd_same, List.map_append] <;> rfl
      have er4 : (upd H2 l (.lst (zs.map g ++ [g ys[j]]))) r' = some (.lst (ys.map g)) := by rw [upd_ne nrl]; exact er2
      have st4 : Strm (upd H2 l (.lst (zs.map g ++ [g ys[j]]))) p := st2.upd npl
      have k4 : Keep p H (upd H2 l (.lst (zs.map g ++ [g ys[j]]))) := k2.at_ nl1
      generalize upd H2 l (.lst (zs.map g ++ [g ys[j]])) = H4 at el4 er4 st4 k4 ⊢
      refine ⟨.ref r', rfl, _, rfl, _, rfl, r', _, rfl, sl_map er4, fun s1 ns1 => ?_⟩
      have t1 := same_new (o := HO.lst (cutV (ys.map g) none (some (j : Int)))) ns1
      refine ⟨.ref r', rfl, _, rfl, (j : Int), 1, rfl, rfl, _, rfl, r', _, rfl, sl_map (t1 _ _ er4), fun s2 ns2 => ?_⟩
      have n12 : s1 ≠ s2 := fun z => by rw [← z, upd_same] at ns2; cases ns2
      have c1 : cutV (ys.map g) none (some (j : Int)) = (ys.take j).map g := by rw [cutV_to, List.map_take]
      have c2 : cutV (ys.map g) (some ((j : Int) + 1)) none = (ys.drop (j + 1)).map g := by rw [show (j : Int) + 1 = ((j + 1 : Nat) : Int) by omega, cutV_from, List.map_drop]
      have t2 := t1.trans (same_new (o := HO.lst (cutV (ys.map g) (some ((j : Int) + 1)) none)) ns2)
      refine ⟨s1, s2, _, _, rfl, rfl, by rw [upd_ne n12]; exact upd_same, upd_same, ?_, fun r2 nr2 => ?_⟩
      · have a := cutV_length (ys.map g) none (some (j : Int))
        have b := cutV_length (ys.map g) (some ((j : Int) + 1)) none
        rw [List.length_map] at a b
        exact Nat.le_of_lt (small1000 (by show _ + (cutV (ys.map g) (some ((j : Int) + 1)) none).length ≤ 1000; omega))
      · have t3 := t2.trans (same_new (o := HO.lst (cutV (ys.map g) none (some (j : Int)) ++ cutV (ys.map g) (some ((j : Int) + 1)) none)) nr2)
        have nr4 : H4 r2 = none := t2.free nr2
        have st5 : Strm _ p := st4.keep (Keep.same (p := r2) t3) (fun z => st4.some (z ▸ nr4))
        have k5 : Keep p H _ := k4.trans (Keep.same t3)
        have r2l : r2 ≠ l := fun z => by rw [z, el4] at nr4; cases nr4
        refine ⟨r2, ys.eraseIdx j, zs ++ [ys[j]], _, _, rfl, k5, st5, ?_, k4.free st4 nr4, r2l, ?_, t3 _ _ el4, by rw [List.length_append, zl] <;> rfl, ?_⟩
        · have e5 : (ys.eraseIdx j).map g = cutV (ys.map g) none (some (j : Int)) ++ cutV (ys.map g) (some ((j : Int) + 1)) none := by
            rw [c1, c2, ← List.map_append, List.eraseIdx_eq_take_drop_succ]
          rw [e5]
          exact upd_same
        · rw [List.length_eraseIdx_of_lt hj]
          omega
        · rw [List.append_assoc]
          exact ((perm_at hj).append_left zs).trans pm
    · rintro σ H' ⟨r', ys, zs, y4, y5, rfl, kp, st, er, nr', nrl, ylen, el, zl, pm⟩
      have y0 : ys = [] := List.length_eq_zero_iff.mp (by rw [List.length_map] at ylen; omega)
      subst y0
      rw [List.append_nil] at pm
      exact ⟨_, rfl, q H' l zs kp nl1 st el pm⟩
abbrev sMn : Stmt := topS 15
abbrev nMn : List Str := ["_law_stream_here", "_law_count", "_law_head", "_law_tail", "_law_shift", "_law_k"]
theorem scMn : FnScope nMn ["_law_stream_here", "_law_count"] (defScope sMn) := ⟨rfl, rfl, rfl, by decide +kernel, rfl, by decide +kernel, by decide +kernel⟩
def spMn : Sp := fun vs H Q _ => ∃ (p : Addr) (m : Nat), vs = [.ref p, .int (m : Int)] ∧ Strm H p ∧ m ≤ 30 ∧
  ∀ (H' : Hp) (l : Addr) (xs : List Str), Keep p H H' → H l = none → Strm H' p → H' l = some (.lst (xs.map V.str)) → xs.length = m → Q (.ref l) H'
theorem ok_Mn {f f0 : Addr} {fd fd0 : FuncData} (F : Fun K "_law_many_names" "_law_many_names" sMn f fd) (B : Bt mg) (zstr : mg "str" = none) (D : Call P w K mg base 1 "_law_next" f0 fd0 ["_law_stream_here", "_law_size"] spDraw) :
    FnOk P w K mg base CX0 2 f fd ["_law_stream_here", "_law_count"] spMn := by
  refine F.ok scMn (fun vs H Q E h => ?_) (fun cdv A outer s H vs Q E hr h => ?_)
  · obtain ⟨p, m, rfl, _⟩ := h
    rfl
  · obtain ⟨p, m, rfl, hp, m30, q⟩ := h
    have nd := scMn.nd
    refine ⟨_, pss_cons (ps_set (i := 2) nd rfl (.inr rfl) (pe_ix ix_list (pe_lst (pa_cons pe_str (pa_cons pe_str (pa_cons pe_str (pa_cons pe_str pa_nil))))) (pe_call D.ok (hr.mono (by decide)) (by rfl) D.at_ D.kp D.bd .nil pass0 (pa_cons (pv 0) (pa_cons pe_int pa_nil))) (fun _ _ => rfl)))
      (pss_cons (ps_set (i := 3) nd rfl (.inr rfl) (pe_ix ix_list (pe_lst (pa_cons pe_str (pa_cons pe_str (pa_cons pe_str pa_nil)))) (pe_call D.ok (hr.mono (by decide)) (by rfl) D.at_ D.kp D.bd .nil pass0 (pa_cons (pv 0) (pa_cons pe_int pa_nil))) (fun _ _ => rfl)))
      (pss_cons (ps_set (i := 4) nd rfl (.inr rfl) (pe_call D.ok (hr.mono (by decide)) (by rfl) D.at_ D.kp D.bd .nil pass0 (pa_cons (pv 0) (pa_cons pe_int pa_nil))))
      (pss_one (ps_ret (pe_lc (own := [("_law_k", 5)]) (g := gName 5) (tt := tYes)  rfl nd (pi_range1 (by rfl) B.range (pa_cons (pv 1) pa_nil)) (blkOk_by (N := nMn) (sc := defScope sMn) (by decide +kernel)) (fun _ _ _ _ _ => pg_name (i := 5) nd rfl (.inl rfl)) (fun _ _ _ _ _ => pts_nil)
          (fun _ _ _ _ _ => (pe_op op_add_str (pe_op op_add_str (pv 2) (pe_callTy call_str_int (by rfl) zstr PyProof.Rows.boot_str (pa_cons (pe_op op_mod (pe_callTy call_int1 (by rfl) B.int PyProof.Rows.boot_int (pa_cons (pe_op op_add (pe_op op_mul (pv 5) pe_int) (pv 4)) pa_nil)) pe_int) pa_nil))) (pv 3)))))))), ?_⟩
    refine ⟨by show 4 ≤ sizeLine; decide, fun t nt => ?_⟩
    have npt : p ≠ t := fun z => hp.some (z ▸ nt)
    refine ⟨.ref p, rfl, p, 4, rfl, hp.upd npt, by decide, by decide, fun H2 e o2 st2 e0 e1 => ?_⟩
    have k2 : Keep p H H2 := ((Keep.refl p H).at_ nt).oth o2
    obtain ⟨hd, hhd, hdl⟩ : ∃ hd : Str, atI [V.str "n", V.str "item_", V.str "q7", V.str "x_y_z0"] e = some (.str hd) ∧ hd.length ≤ 6 := by
      have : e = 0 ∨ e = 1 ∨ e = 2 ∨ e = 3 := by omega
      rcases this with rfl | rfl | rfl | rfl
      · exact ⟨_, atI_nat (j := 0) rfl, by decide +kernel⟩
      · exact ⟨_, atI_nat (j := 1) rfl, by decide +kernel⟩
      · exact ⟨_, atI_nat (j := 2) rfl, by decide +kernel⟩
      · exact ⟨_, atI_nat (j := 3) rfl, by decide +kernel⟩
    have et := (o2 t npt.symm).trans (upd_same (H := H) (a := t) (o := HO.lst [V.str "n", V.str "item_", V.str "q7", V.str "x_y_z0"]))
    refine ⟨t, _, e, .str hd, rfl, rfl, sl_map et, hhd, ?_⟩
    refine ⟨by show 3 ≤ sizeLine; decide, fun u nu => ?_⟩
    have npu : p ≠ u := fun z => st2.some (z ▸ nu)
    refine ⟨.ref p, rfl, p, 3, rfl, st2.upd npu, by decide, by decide, fun H3 g o3 st3 g0 g1 => ?_⟩
    have k3 : Keep p H H3 := (k2.at_ (k2.free st2 nu)).oth o3
    obtain ⟨tl, htl, tll⟩ : ∃ tl : Str, atI [V.str "", V.str "a", V.str "_tail"] g = some (.str tl) ∧ tl.length ≤ 6 := by
      have : g = 0 ∨ g = 1 ∨ g = 2 := by omega
      rcases this with rfl | rfl | rfl
      · exact ⟨_, atI_nat (j := 0) rfl, by decide +kernel⟩
      · exact ⟨_, atI_nat (j := 1) rfl, by decide +kernel⟩
      · exact ⟨_, atI_nat (j := 2) rfl, by decide +kernel⟩
    have eu := (o3 u npu.symm).trans (upd_same (H := H2) (a := u) (o := HO.lst [V.str "", V.str "a", V.str "_tail"]))
    refine ⟨u, _, g, .str tl, rfl, rfl, sl_map eu, htl, ?_⟩
    refine ⟨.ref p, rfl, p, 16, rfl, st3, by decide, by decide, fun H4 s o4 st4 s0 s1 => ?_⟩
    have k4 := k3.oth o4
    refine ⟨.int (m : Int), rfl, (m : Int), rfl, by omega, by omega, fun R nR => ?_⟩
    refine lc_range (lo := 0) (fun i H' => Same H4 H' ∧ ∃ xs : List Str, xs.length = i ∧ H' R = some (.lst (xs.map V.str))) ⟨same_new nR, [], rfl, upd_same⟩ ?_ ?_
    · rintro i H' hi ⟨sm, xs, len, eR⟩
      refine ⟨rfl, .str hd, rfl, .int (0 + (i : Int)), rfl, 0 + (i : Int), 7, rfl, rfl, .inr ⟨by decide, by decide⟩, .int s, rfl, (0 + (i : Int)) * 7, s, rfl, rfl, .inl ⟨_, rfl, (0 + (i : Int)) * 7 + s, 16, rfl, rfl, ?_, ?_⟩⟩
      · show (0 : Int) < 16
        decide
      · obtain ⟨k, hk, hk16⟩ : ∃ k : Nat, ((0 + (i : Int)) * 7 + s) % 16 = (k : Int) ∧ k < 16 := ⟨(((0 + (i : Int)) * 7 + s) % 16).toNat, by omega, by omega⟩
        show ∃ j, [V.int (((0 + (i : Int)) * 7 + s) % 16)] = [V.int j] ∧ _
        rw [hk]
        refine ⟨(k : Int), rfl, log16 k (List.mem_range.mpr hk16), hd, _, rfl, rfl, ?_, .str tl, rfl, _, _, rfl, rfl, ?_, _, eR, ?_, same_at sm nR, xs ++ [hd ++ Str.ofString (toString (k : Int)) ++ tl], by rw [List.length_append, len] <;> rfl, ?_⟩
        · have := digits2 k (List.mem_range.mpr hk16)
          exact Nat.le_trans (Nat.add_le_add hdl this) (by decide)
        · have := digits2 k (List.mem_range.mpr hk16)
          rw [len_app]
          exact Nat.le_trans (Nat.add_le_add (Nat.add_le_add hdl this) tll) (by decide)
        · rw [List.length_map]
          exact small1000 (by omega)
        · rw [upd_same, List.map_append] <;> rfl
    · rintro H' ⟨sm, xs, len, eR⟩
      have nR0 : H R = none := k4.free st4 nR
      have npR : p ≠ R := fun z => hp.some (z ▸ nR0)
      refine q H' R xs (k4.trans (Keep.same sm)) nR0 ?_ eR (by omega)
      obtain ⟨x, y, z, ep⟩ := st4
      exact ⟨x, y, z, sm _ _ ep⟩
abbrev sSd : Stmt := topS 13
abbrev nSd : List Str := ["_law_domains_here", "_law_sides_here", "_law_domain"]
theorem scSd : FnScope nSd ["_law_domains_here"] (defScope sSd) := ⟨rfl, rfl, rfl, by decide +kernel, rfl, by decide +kernel, by decide +kernel⟩
def spSd : Sp := fun vs H Q _ => ∃ (dl : Addr) (ds : List DomE) (ns : List Int), vs = [.ref dl] ∧ Doms H dl ds ∧ ds.length ≤ 30 ∧ (∀ d ∈ ds, Srt d.2.2.2 ∧ d.2.2.2.length ≤ 1000 ∧ ∀ v ∈ d.2.2.2, v ∈ ns) ∧
  ∀ (H' : Hp) (b : Addr) (N : List Ent), Same H H' → H b = none → Bu H' b N → BoxOk N ns → Q (.ref b) H'
theorem ok_Sd {f  : Addr} {fd  : FuncData} (F : Fun K "_law_sides" "_law_sides" sSd f fd) (B : Bt mg) :
    FnOk P w K mg base CX0 1 f fd ["_law_domains_here"] spSd := by
  refine F.ok scSd (fun vs H Q E h => ?_) (fun cdv A outer s H vs Q E hr h => ?_)
  · obtain ⟨dl, ds, ns, rfl, _⟩ := h
    rfl
  · obtain ⟨dl, ds, ns, rfl, dm, dlen, dsz, q⟩ := h
    have hu := hu_of hr
    have nd := scSd.nd
    refine ⟨_, pss_cons (ps_set (i := 1) nd rfl (.inl rfl) pe_dnewK)
      (pss_cons (ps_for PassesOwn.never rfl (pi_list (pv 0)) (pg_name (i := 2) nd rfl (.inl rfl))
        (pss_one (ps_dput hu (pv 1) (pe_ix ix_tup (pv 2) pe_int (fun _ _ => rfl)) (pe_callTy call_list_of (by rfl) B.list PyProof.Rows.boot_list (pa_cons (pe_ix ix_tup (pv 2) pe_int (fun _ _ => rfl)) pa_nil)) rfl)))
      (pss_one (ps_ret (pv 1)))), ?_⟩
    intro D nD
    have s0 := same_new (o := HO.dK []) nD
    refine ⟨.ref dl, rfl, dl, rfl, ⟨_, sl_map (s0 _ _ dm.lst)⟩, for_list (xs := ds.map fun d : DomE => V.ref d.1) (fun i σ H' => ∃ (N : List Ent) (y2 : Option V), σ = [some (.ref dl), some (.ref D), y2] ∧ Same H H' ∧ Bu H' D N ∧ N.length ≤ i ∧ BoxOk N ns)
      ⟨[], none, rfl, s0, ⟨⟨.inl upd_same, (fun _ h => nomatch h), List.Pairwise.nil, Nat.zero_le _⟩, upd_same⟩, Nat.le_refl _, (fun _ h => nomatch h)⟩ (fun i σ H' _ h => by obtain ⟨_, _, _, h, _⟩ := h; exact sl_map (h _ _ dm.lst)) ?_ ?_⟩
    · rintro i x σ H' hx ⟨N, y2, rfl, sm, nb, lN, ok⟩
      rw [List.getElem?_map] at hx
      obtain ⟨d, hv, rfl⟩ := Option.map_eq_some_iff.mp hx
      have dmem := List.mem_of_getElem? hv
      have hi := (List.getElem?_eq_some_iff.mp hv).1
      have tt : SqT K H' d.1 [V.str d.2.1, V.ref d.2.2.1] := .inl (.inl (sm _ _ (dm.tup d dmem)))
      have sd := sl_map (K := K) (sm _ _ (dm.side d dmem))
      refine ⟨.ref d.1, rfl, d.1, _, _, .ref d.2.2.1, rfl, rfl, tt, atI_nat (j := 1) rfl, d.2.2.1, _, rfl, .inl sd, fun l nl => ?_⟩
      have sl := same_new (o := HO.lst (d.2.2.2.map V.int)) nl
      have nb2 := nb.same' sl
      have tt2 : SqT K (upd H' l (HO.lst (d.2.2.2.map V.int))) d.1 [V.str d.2.1, V.ref d.2.2.1] := .inl (.inl (sl _ _ (sm _ _ (dm.tup d dmem))))
      refine ⟨.ref D, rfl, .ref d.1, rfl, d.1, _, _, .str d.2.1, rfl, rfl, tt2, atI_nat (j := 0) rfl, D, _, rfl, DPut.k (k := .inr d.2.1) nb2.un (by rw [entK_len]; exact small1000 (by omega)), ?_⟩
      rw [putK_ent (s := d.2.2.2)]
      refine ⟨putE N d.2.1 l d.2.2.2, _, rfl, same_at (sm.trans sl) nD, nb2.aput upd_same (by omega), by have := putE_len N d.2.1 l d.2.2.2; omega, fun g hg => ?_⟩
      rcases putE_mem hg with z | ⟨z, _⟩
      · rw [z]; exact dsz d dmem
      · exact ok g z
    · rintro σ H' ⟨N, y2, rfl, sm, nb, lN, ok⟩
      exact ⟨_, rfl, q H' D N sm nD nb ok⟩
end
end K19

set_option Elab.async false
set_option linter.all false
set_option maxRecDepth 100000
set_option maxHeartbeats 4000000
namespace K19
open PySem PySem.Spec PyProof.Rows L2 Cs CsX
def DomOk (p : Addr) (ds : List DomE) (ns : List Int) : Prop := ∀ d ∈ ds, (Srt d.2.2.2 ∧ d.2.2.2.length ≤ 1000 ∧ ∀ v ∈ d.2.2.2, v ∈ ns) ∧ d.1 ≠ p ∧ d.2.2.1 ≠ p
theorem Doms.kept {H H' : Hp} {p l : Addr} {ds : List DomE} {ns : List Int} (D : Doms H l ds) (k : Keep p H H') (hl : l ≠ p) (h : DomOk p ds ns) : Doms H' l ds := D.keep k hl fun d hd => (h d hd).2
section
variable {P : Program} {w : World} {K : PySem.W.Frag} {mg : Str → Option Value} {base : Heap}
abbrev sCh : Stmt := topS 16
abbrev nCh : List Str := ["_law_stream_here", "_law_names_here", "_law_pool_here", "_law_domains_here", "_law_k", "_law_side", "_law_turn", "_law_value"]
theorem scCh : FnScope nCh ["_law_stream_here", "_law_names_here", "_law_pool_here"] (defScope sCh) := ⟨rfl, rfl, rfl, by decide +kernel, rfl, by decide +kernel, by decide +kernel⟩
def spCh : Sp := fun vs H Q _ => ∃ (p nm pl : Addr) (xs : List Str) (ns : List Int), vs = [.ref p, .ref nm, .ref pl] ∧ Strm H p ∧ H nm = some (.lst (xs.map V.str)) ∧ H pl = some (.lst (ns.map V.int)) ∧ p ≠ nm ∧ p ≠ pl ∧ Srt ns ∧ 1 ≤ xs.length ∧ xs.length ≤ 20 ∧ ns.length = xs.length ∧
  ∀ (H' : Hp) (l : Addr) (ds : List DomE), Keep p H H' → H l = none → Strm H' p → Doms H' l ds → ds.length ≤ 30 → DomOk p ds ns → Q (.ref l) H'
theorem ok_Ch {f f0 f1 : Addr} {fd fd0 fd1 : FuncData} (F : Fun K "_law_chain" "_law_chain" sCh f fd) (B : Bt mg) (CSf : Call P w K mg base 2 "_law_shuffled" f0 fd0 ["_law_stream_here", "_law_things"] spSf) (D : Call P w K mg base 1 "_law_next" f1 fd1 ["_law_stream_here", "_law_size"] spDraw) :
    FnOk P w K mg base CX0 3 f fd ["_law_stream_here", "_law_names_here", "_law_pool_here"] spCh := by
  refine F.ok scCh (fun vs H Q E h => ?_) (fun cdv A outer s H vs Q E hr h => ?_)
  · obtain ⟨p, nm, pl, xs, ns, rfl, _⟩ := h
    rfl
  · obtain ⟨p, nm, pl, xs, ns, rfl, hp, enm, epl, pnm, ppl, srt, x1, x20, nx, q⟩ := h
    have nd := scCh.nd
    refine ⟨_, pss_cons (ps_set (i := 3) nd rfl (.inl rfl) (pe_lst pa_nil))
      (pss_cons (ps_for PassesOwn.never rfl (pi_range1 (by rfl) B.range (pa_cons (pe_op op_sub (pe_callB call_len_seq (by rfl) B.len PySem.boot_len (pa_cons (pv 1) pa_nil)) pe_int) pa_nil)) (pg_name (i := 4) nd rfl (.inl rfl))
        (pss_cons (ps_set (i := 5) nd rfl (.inr rfl) (pe_lst (pa_cons (pe_ix ix_list (pv 2) (pv 4) (fun _ _ => rfl)) (pa_cons (pe_ix ix_list (pv 2) (pe_op op_add (pv 4) pe_int) (fun _ _ => rfl)) pa_nil))))
          (pss_cons (ps_for PassesOwn.never rfl (pi_range1 (by rfl) B.range (pa_cons (pe_ix ix_list (pe_lst (pa_cons pe_int (pa_cons pe_int (pa_cons pe_int (pa_cons pe_int (pa_cons pe_int (pa_cons pe_int pa_nil))))))) (pe_call D.ok (hr.mono (by decide)) (by rfl) D.at_ D.kp D.bd .nil pass0 (pa_cons (pv 0) (pa_cons pe_int pa_nil))) (fun _ _ => rfl)) pa_nil)) (pg_name (i := 6) nd rfl (.inl rfl))
            (pss_one (ps_expr (pe_bm PySem.F.plainAttrs_list PySem.F.slot_list_append PySem.F.type_list_append mt_append (pv 5) (pa_cons (pe_ix ix_list (pv 2) (pe_call D.ok (hr.mono (by decide)) (by rfl) D.at_ D.kp D.bd .nil pass0 (pa_cons (pv 0) (pa_cons (pe_callB call_len_seq (by rfl) B.len PySem.boot_len (pa_cons (pv 2) pa_nil)) pa_nil))) (fun _ _ => rfl)) pa_nil)))))
          (pss_one (ps_expr (pe_bm PySem.F.plainAttrs_list PySem.F.slot_list_append PySem.F.type_list_append mt_append (pv 3) (pa_cons (pe_tup (pa_cons (pe_ix ix_list (pv 1) (pv 4) (fun _ _ => rfl)) (pa_cons (pe_lc (own := [("_law_value", 7)]) (g := gName 7) (tt := _) (te := tVar 7) rfl nd (pi_list (pv 2)) (blkOk_by (N := nCh) (sc := defScope sCh) (by decide +kernel)) (fun _ _ _ _ _ => pg_name (i := 7) nd rfl (.inl rfl)) (fun _ _ _ _ _ => pts_one (pt_cmpR (r := rIn K false) op_in_seq (pv 7) (pv 5) rfl))
        (fun _ _ _ _ _ => (pv 7))) pa_nil))) pa_nil)))))))
      (pss_cons (ps_expr (pe_bm PySem.F.plainAttrs_list PySem.F.slot_list_append PySem.F.type_list_append mt_append (pv 3) (pa_cons (pe_tup (pa_cons (pe_ix ix_list (pv 1) (pe_op op_sub (pe_callB call_len_seq (by rfl) B.len PySem.boot_len (pa_cons (pv 1) pa_nil)) pe_int) (fun _ _ => rfl)) (pa_cons (pe_lst (pa_cons (pe_ix ix_list (pv 2) (pe_call D.ok (hr.mono (by decide)) (by rfl) D.at_ D.kp D.bd .nil pass0 (pa_cons (pv 0) (pa_cons (pe_callB call_len_seq (by rfl) B.len PySem.boot_len (pa_cons (pv 2) pa_nil)) pa_nil))) (fun _ _ => rfl)) pa_nil)) pa_nil))) pa_nil)))
      (pss_one (ps_ret (pe_call CSf.ok (hr.mono (by decide)) (by rfl) CSf.at_ CSf.kp CSf.bd .nil pass0 (pa_cons (pv 0) (pa_cons (pv 3) pa_nil))))))), ?_⟩
    refine ⟨by show 0 ≤ sizeLine; decide, fun l nl => ?_⟩
    have lp : l ≠ p := fun z => hp.some (z ▸ nl)
    have kk : ∀ {H'}, Keep p H H' → H' nm = some (.lst (xs.map V.str)) ∧ H' pl = some (.lst (ns.map V.int)) := fun k => ⟨k _ _ pnm.symm enm, k _ _ ppl.symm epl⟩
    have nlx : (xs.map V.str).length = xs.length := List.length_map _
    have nln : (ns.map V.int).length = ns.length := List.length_map _
    refine ⟨_, rfl, nm, _, rfl, .inl (sl_map (kk (Keep.same (same_new nl))).1), _, _, rfl, rfl, ((xs.length - 1 : Nat) : Int), ?_, by omega, by omega, for_range (lo := 0) (n := xs.length - 1) (fun i σ H' => ∃ (y4 y5 y6 : Option V) (ds : List DomE), σ = [some (.ref p), some (.ref nm), some (.ref pl), some (.ref l), y4, y5, y6, none] ∧ Keep p H H' ∧ Strm H' p ∧ Doms H' l ds ∧ ds.length = i ∧ DomOk p ds ns)
      ⟨none, none, none, [], rfl, Keep.same (same_new nl), hp.upd lp.symm, ⟨upd_same, (fun _ h => nomatch h), (fun _ h => nomatch h)⟩, rfl, (fun _ h => nomatch h)⟩ ?_ ?_⟩
    · show [V.int (((xs.map V.str).length : Int) - 1)] = _
      rw [nlx, show ((xs.length : Int) - 1) = ((xs.length - 1 : Nat) : Int) by omega]
    · rintro i σ H1 hi ⟨y4, y5, y6, ds, rfl, k1, st1, dm1, ld, ok⟩
      obtain ⟨u, um, au⟩ := at_in (ns := ns) (d := 0 + (i : Int)) (by omega) (by omega)
      obtain ⟨v, vm, av⟩ := at_in (ns := ns) (d := 0 + (i : Int) + 1) (by omega) (by omega)
      obtain ⟨xa, _, axa⟩ := at_inS (ns := xs) (d := 0 + (i : Int)) (by omega) (by omega)
      refine ⟨_, rfl, _, rfl, pl, _, _, .int u, rfl, rfl, sl_map (kk k1).2, au, _, rfl, _, rfl, _, _, rfl, rfl, pl, _, _, .int v, rfl, rfl, sl_map (kk k1).2, av, by show 2 ≤ sizeLine; decide, fun Z nZ => ?_⟩
      have pZ : p ≠ Z := fun z => st1.some (z ▸ nZ)
      have Zl : Z ≠ l := fun z => by rw [z, dm1.lst] at nZ; cases nZ
      refine ⟨by show 6 ≤ sizeLine; decide, fun Y nY => ?_⟩
      have st2 : Strm (upd H1 Z (.lst [V.int u, .int v])) p := st1.upd pZ
      have pY : p ≠ Y := fun z => st2.some (z ▸ nY)
      have ZY : Z ≠ Y := fun z => by rw [← z, upd_same] at nY; cases nY
      refine ⟨_, rfl, p, 6, rfl, st2.upd pY, by decide, by decide, fun H3 c o3 st3 c0 c1 => ?_⟩
      obtain ⟨tt, ttm, att⟩ := at_in (ns := [0, 0, 0, 1, 2, 9]) c0 c1
      have t09 : 0 ≤ tt ∧ tt ≤ 9 := by
        simp only [List.mem_cons, List.not_mem_nil, or_false] at ttm
        rcases ttm with h | h | h | h | h | h <;> omega
      obtain ⟨t, rfl⟩ : ∃ t : Nat, tt = (t : Int) := ⟨tt.toNat, by omega⟩
      have k3 : Keep p H1 H3 := ((Keep.same (same_new nZ)).at_ ((same_new (o := HO.lst [V.int u, .int v]) nZ).free nY)).oth o3
      have eZ3 : H3 Z = some (.lst (([u, v] : List Int).map V.int)) := (o3 Z pZ.symm).trans (by rw [upd_ne ZY, upd_same] <;> rfl)
      have eY3 := (o3 Y pY.symm).trans (upd_same (H := upd H1 Z (.lst [V.int u, .int v])) (a := Y) (o := HO.lst [V.int 0, .int 0, .int 0, .int 1, .int 2, .int 9]))
      refine ⟨Y, _, _, .int (t : Int), rfl, rfl, sl_map eY3, att, (t : Int), rfl, by omega, by omega, for_range (lo := 0) (n := t) (fun j σ H' => ∃ (y6 : Option V) (ss : List Int), σ = [some (.ref p), some (.ref nm), some (.ref pl), some (.ref l), some (.int (0 + (i : Int))), some (.ref Z), y6, none] ∧ Keep p H1 H' ∧ Strm H' p ∧ H' Z = some (.lst (ss.map V.int)) ∧ ss.length ≤ 2 + j)
        ⟨y6, [u, v], rfl, k3, st3, eZ3, Nat.le_refl _⟩ ?_ ?_⟩
      · clear eZ3 eY3 k3 st3 o3
        rintro j σ H4 hj ⟨y6, ss, rfl, k4, st4, eZ4, ls⟩
        have g4 := kk (k1.trans k4)
        refine ⟨_, rfl, .inl ⟨rfl, _, sl_map eZ4⟩, _, rfl, _, rfl, _, rfl, pl, _, rfl, .inl (sl_map g4.2), p, _, rfl, st4, by omega, by omega, fun H5 c o5 st5 c0 c1 => ?_⟩
        have g5 := kk ((k1.trans k4).oth o5)
        rw [nln] at c1
        obtain ⟨w, _, aw⟩ := at_in (ns := ns) c0 c1
        have eZ5 := (o5 Z pZ.symm).trans eZ4
        refine ⟨pl, _, _, .int w, rfl, rfl, sl_map g5.2, aw, Z, _, _, rfl, rfl, eZ5, by rw [List.length_map]; exact small1000 (by omega), _, ss ++ [w], rfl, (k4.oth o5).at_ nZ, st5.upd pZ, by rw [upd_same, List.map_append] <;> rfl, by rw [List.length_append]; show ss.length + 1 ≤ _; omega⟩
      · clear eZ3 eY3 k3 st3 o3
        rintro σ H4 ⟨y6, ss, rfl, k4, st4, eZ4, ls⟩
        have g4 := kk (k1.trans k4)
        have dm4 := dm1.kept k4 lp ok
        refine ⟨_, rfl, .inl ⟨rfl, _, sl_map dm4.lst⟩, _, rfl, _, rfl, nm, _, _, .str xa, rfl, rfl, sl_map g4.1, axa, ?_⟩
        refine ⟨_, rfl, pl, rfl, ⟨_, sl_map g4.2⟩, fun W nW => lc_list (xs := ns.map V.int) (fun j H' => Same H4 H' ∧ H' W = some (.lst (((ns.take j).filter fun w => decide (w ∈ ss)).map V.int))) ⟨same_new nW, upd_same⟩ (fun j H' _ h => sl_map (h.1 _ _ g4.2)) ?_ ?_⟩
        · rintro j x H5 hx0 ⟨s5, eW⟩
          rw [List.getElem?_map] at hx0
          obtain ⟨w, hw, rfl⟩ := Option.map_eq_some_iff.mp hx0
          have fs := filter_inI (ss := ss) hw
          have fl := filter_len ns (fun w => decide (w ∈ ss)) j
          have pf : (rIn K false) (V.int w) (.ref Z) H5 = (rIn K false) (V.int w) (.ref Z) H5 := rfl
          refine ⟨rfl, _, rfl, _, rfl, Z, _, rfl, .inl (sl_map (s5 _ _ eZ4)), rfl, flat_ints _, _, rfl, ?_⟩
          rw [if_neg (by decide), in_ints]
          refine ite_both (fun cc => ⟨_, rfl, _, eW, by rw [List.length_map]; exact small1000 (by omega), same_at s5 nW, ?_⟩) fun cc => ⟨s5, ?_⟩
          · rw [fs, if_pos (of_decide_eq_true cc), upd_same, List.map_append] <;> rfl
          · rw [fs, if_neg (of_decide_eq_false cc), List.append_nil]; exact eW
        · rintro H5 ⟨s5, eW⟩
          rw [List.length_map, List.take_length] at eW
          refine ⟨by show 2 ≤ sizeLine; decide, fun T nT => ?_⟩
          have s6 := s5.trans (same_new (o := HO.tup [V.str xa, V.ref W]) nT)
          have dm6 := dm4.same s6
          have eW6 := same_new (o := HO.tup [V.str xa, V.ref W]) nT _ _ eW
          have Wl : W ≠ l := fun z => by rw [z, dm4.lst] at nW; cases nW
          have pW : W ≠ p := fun z => st4.some (z ▸ nW)
          have pT : T ≠ p := fun z => st4.some (s5.free (z ▸ nT))
          have k6 : Keep p H (upd H5 T (.tup [V.str xa, V.ref W])) := (k1.trans k4).trans (Keep.same s6)
          have st6 : Strm (upd H5 T (.tup [V.str xa, V.ref W])) p := by
            obtain ⟨x, y, z, e⟩ := st4
            exact ⟨x, y, z, s6 _ _ e⟩
          refine ⟨l, _, _, rfl, rfl, dm6.lst, by rw [List.length_map]; exact small1000 (by omega), _, _, _, ds ++ [(T, xa, W, ns.filter fun w => decide (w ∈ ss))], rfl, k6.at_ nl, st6.upd lp.symm, dm6.snoc upd_same eW6 Wl, by rw [List.length_append, ld] <;> rfl, fun d hd => ?_⟩
          rcases List.mem_append.mp hd with h | h
          · exact ok d h
          · rw [List.mem_singleton.mp h]
            refine ⟨⟨Srt.sub srt List.filter_sublist, ?_, fun w hw => (List.mem_filter.mp hw).1⟩, pT, pW⟩
            have := List.length_filter_le (fun w => decide (w ∈ ss)) ns
            show (ns.filter fun w => decide (w ∈ ss)).length ≤ 1000
            omega
    · rintro σ H1 ⟨y4, y5, y6, ds, rfl, k1, st1, dm1, ld, ok⟩
      obtain ⟨xl, _, axl⟩ := at_inS (ns := xs) (d := (xs.length : Int) - 1) (by omega) (by omega)
      refine ⟨_, rfl, .inl ⟨rfl, _, sl_map dm1.lst⟩, _, rfl, _, rfl, nm, _, rfl, .inl (sl_map (kk k1).1), _, _, rfl, rfl, nm, _, _, .str xl, rfl, rfl, sl_map (kk k1).1, by rw [nlx]; exact axl, ?_⟩
      refine ⟨_, rfl, _, rfl, _, rfl, pl, _, rfl, .inl (sl_map (kk k1).2), p, _, rfl, st1, by omega, by omega, fun H2 c o2 st2 c0 c1 => ?_⟩
      rw [nln] at c1
      obtain ⟨w, wm, aw⟩ := at_in (ns := ns) c0 c1
      have k2 := k1.oth o2
      have dm2 := dm1.kept ((Keep.refl p H1).oth o2) lp ok
      refine ⟨pl, _, _, .int w, rfl, rfl, sl_map (kk k2).2, aw, by show 1 ≤ sizeLine; decide, fun Z nZ => ⟨by show 2 ≤ sizeLine; decide, fun T nT => ?_⟩⟩
      have s3 := same_new (o := HO.lst [V.int w]) nZ
      have s4 := s3.trans (same_new (o := HO.tup [V.str xl, V.ref Z]) nT)
      have dm4 := dm2.same s4
      have eZ4 := same_new (o := HO.tup [V.str xl, V.ref Z]) nT _ _ (upd_same (H := H2) (a := Z) (o := HO.lst [V.int w]))
      have Zl : Z ≠ l := fun z => by rw [z, dm2.lst] at nZ; cases nZ
      have pZ : Z ≠ p := fun z => st2.some (z ▸ nZ)
      have pT : T ≠ p := fun z => st2.some (s3.free (z ▸ nT))
      have k4 := k2.trans (Keep.same (p := p) s4)
      have st4 : Strm (upd (upd H2 Z (.lst [V.int w])) T (.tup [V.str xl, V.ref Z])) p := by
        obtain ⟨x, y, z, e⟩ := st2
        exact ⟨x, y, z, s4 _ _ e⟩
      refine ⟨l, _, _, rfl, rfl, dm4.lst, by rw [List.length_map]; exact small1000 (by omega), ?_⟩
      have dm5 := dm4.snoc (x := xl) (zs := [w]) upd_same eZ4 Zl
      have k5 := k4.at_ (o := .lst ((ds.map fun d => V.ref d.1) ++ [V.ref T])) nl
      have st5 := st4.upd (o := .lst ((ds.map fun d => V.ref d.1) ++ [V.ref T])) lp.symm
      have ok5 : DomOk p (ds ++ [(T, xl, Z, [w])]) ns := fun d hd => by
        rcases List.mem_append.mp hd with h | h
        · exact ok d h
        · rw [List.mem_singleton.mp h]
          exact ⟨⟨List.pairwise_singleton _ _, by show 1 ≤ 1000; decide, fun u hu => by rw [List.mem_singleton.mp hu]; exact wm⟩, pT, pZ⟩
      refine ⟨_, rfl, _, rfl, DomE, fun d => V.ref d.1, p, l, ds ++ [(T, xl, Z, [w])], rfl, st5, dm5.lst, by rw [List.length_append, ld]; show xs.length - 1 + 1 ≤ 30; omega, lp.symm, fun H6 l2 zs k6 n6 st6 e6 pm => ?_⟩
      have dm6 := (dm5.kept k6 lp ok5).few (fun u hu => pm.subset hu) e6
      have nl2 : H l2 = none := k5.free st5 n6
      refine q _ l2 zs (k5.trans k6) nl2 st6 dm6 (by rw [pm.length_eq, List.length_append, ld]; show xs.length - 1 + 1 ≤ 30; omega) fun d hd => ok5 d (pm.subset hd)
end
end K19

set_option Elab.async false
set_option linter.all false
set_option maxRecDepth 100000
set_option maxHeartbeats 4000000
namespace K19
open PySem PySem.Spec PyProof.Rows L2 Cs CsX
theorem putZ_mem {β : Type} {L : List (Int × β)} {v : Int} {b : β} {e : Int × β} (h : e ∈ putZ L v b) : e = (v, b) ∨ e ∈ L := by
  unfold putZ at h
  split at h
  · obtain ⟨g, hg, e1⟩ := List.mem_map.mp h
    split at e1
    · exact .inl e1.symm
    · exact .inr (e1 ▸ hg)
  · rcases List.mem_append.mp h with z | z
    · exact .inr z
    · exact .inl (List.mem_singleton.mp z)
theorem zget_mem {β : Type} {L : List (Int × β)} {v : Int} {b : β} (h : zget L v = some b) : (v, b) ∈ L := by
  unfold zget at h
  obtain ⟨e, he, q⟩ := Option.map_eq_some_iff.mp h
  have h1 := List.find?_some he
  have h2 := List.mem_of_find?_eq_some he
  have : e = (v, b) := by rw [← q, ← of_decide_eq_true h1]
  rw [← this]; exact h2
structure Nw (H0 H : Hp) (p pl v d : Addr) (ns vs : List Int) (Hs : List (Int × Int)) : Prop where
  kp : Keep p H0 H
  st : Strm H p
  epl : H pl = some (.lst (ns.map V.int))
  ev : H v = some (.lst (vs.map V.int))
  ed : H d = some (.dK (zK V.int Hs))
  nd : (Hs.map (·.1)).Nodup
  sub : ∀ u ∈ Hs.map (·.1), u ∈ vs
  nn : ∀ e ∈ Hs, 0 ≤ e.2
  n1 : pl ≠ p
  nv : H0 v = none
  nd0 : H0 d = none
  vp : v ≠ p
  dp : d ≠ p
section
variable {H0 H H' : Hp} {p pl v d : Addr} {ns vs : List Int} {Hs : List (Int × Int)} {u k : Int}
theorem Nw.oth (N : Nw H0 H p pl v d ns vs Hs) (o : Oth p H H') (st : Strm H' p) : Nw H0 H' p pl v d ns vs Hs :=
  ⟨N.kp.oth o, st, (o pl N.n1).trans N.epl, (o v N.vp).trans N.ev, (o d N.dp).trans N.ed, N.nd, N.sub, N.nn, N.n1, N.nv, N.nd0, N.vp, N.dp⟩
theorem Nw.same (N : Nw H0 H p pl v d ns vs Hs) (s : Same H H') : Nw H0 H' p pl v d ns vs Hs := by
  refine ⟨N.kp.trans (Keep.same s), ?_, s _ _ N.epl, s _ _ N.ev, s _ _ N.ed, N.nd, N.sub, N.nn, N.n1, N.nv, N.nd0, N.vp, N.dp⟩
  obtain ⟨x, y, z, e⟩ := N.st
  exact ⟨x, y, z, s _ _ e⟩
theorem Nw.put (N : Nw H0 H p pl v d ns vs Hs) (hu : u ∈ vs) (hk : 0 ≤ k) : Nw H0 (upd H d (.dK (zK V.int (putZ Hs u k)))) p pl v d ns vs (putZ Hs u k) := by
  have e1 : pl ≠ d := fun z => by have := N.ed; rw [← z, N.epl] at this; cases this
  have e2 : v ≠ d := fun z => by have := N.ed; rw [← z, N.ev] at this; cases this
  refine ⟨N.kp.at_ N.nd0, N.st.upd N.dp.symm, by rw [upd_ne e1]; exact N.epl, by rw [upd_ne e2]; exact N.ev, upd_same, putZ_nd N.nd, fun w hw => ?_, fun e he => ?_, N.n1, N.nv, N.nd0, N.vp, N.dp⟩
  · rw [putZ_keys] at hw
    split at hw
    · exact N.sub w hw
    · rcases List.mem_append.mp hw with z | z
      · exact N.sub w z
      · rw [List.mem_singleton.mp z]; exact hu
  · rcases putZ_mem he with z | z
    · rw [z]; exact hk
    · exact N.nn e z
theorem Nw.few (N : Nw H0 H p pl v d ns vs Hs) : Hs.length ≤ vs.length := by
  have := List.Nodup.length_le_of_subset N.nd fun x hx => N.sub x hx
  rwa [List.length_map] at this
end
section
variable {P : Program} {w : World} {K : PySem.W.Frag} {mg : Str → Option Value} {base : Heap}
abbrev sNu : Stmt := topS 17
abbrev nNu : List Str := ["_law_stream_here", "_law_pool_here", "_law_most", "_law_chained", "_law_values", "_law_numbers_here", "_law_value", "_law_way", "_law_every", "_law_top", "_law_odd"]
theorem scNu : FnScope nNu ["_law_stream_here", "_law_pool_here", "_law_most", "_law_chained"] (defScope sNu) := ⟨rfl, rfl, rfl, by decide +kernel, rfl, by decide +kernel, by decide +kernel⟩
def spNu : Sp := fun vs H Q _ => ∃ (p pl : Addr) (ns : List Int) (m : Nat) (bl : Bool), vs = [.ref p, .ref pl, .int (m : Int), .bl bl] ∧ Strm H p ∧ H pl = some (.lst (ns.map V.int)) ∧ p ≠ pl ∧ 1 ≤ ns.length ∧ ns.length ≤ 30 ∧ 1 ≤ m ∧ m ≤ 10 ∧
  ∀ (H' : Hp) (d : Addr) (Hs : List (Int × Int)), Keep p H H' → H d = none → Strm H' p → H' d = some (.dK (zK V.int Hs)) → (Hs.map (·.1)).Nodup → Hs.length ≤ 100 → (∀ v k, zget Hs v = some k → 0 ≤ k) → Q (.ref d) H'
theorem ok_Nu {f f0 f1 : Addr} {fd fd0 fd1 : FuncData} (F : Fun K "_law_numbers" "_law_numbers" sNu f fd) (B : Bt mg) (CSf : Call P w K mg base 2 "_law_shuffled" f0 fd0 ["_law_stream_here", "_law_things"] spSf) (D : Call P w K mg base 1 "_law_next" f1 fd1 ["_law_stream_here", "_law_size"] spDraw) :
    FnOk P w K mg base CX0 3 f fd ["_law_stream_here", "_law_pool_here", "_law_most", "_law_chained"] spNu := by
  refine F.ok scNu (fun vs H Q E h => ?_) (fun cdv A outer s H vs Q E hr h => ?_)
  · obtain ⟨p, pl, ns, m, bl, rfl, _⟩ := h
    rfl
  · obtain ⟨p, pl, ns, m, bl, rfl, hp, epl, ppl, n1, n30, m1, m10, q⟩ := h
    have hu := hu_of hr
    have nd := scNu.nd
    refine ⟨_, pss_cons (ps_set (i := 4) nd rfl (.inl rfl) (pe_call CSf.ok (hr.mono (by decide)) (by rfl) CSf.at_ CSf.kp CSf.bd .nil pass0 (pa_cons (pv 0) (pa_cons (pv 1) pa_nil))))
      (pss_cons (ps_set (i := 5) nd rfl (.inl rfl) pe_dnewK)
      (pss_cons (ps_if (PW.pt (pw_and (pt_val (pv 3)) (pw_and1 (pt_cmpR op_eq (pe_call D.ok (hr.mono (by decide)) (by rfl) D.at_ D.kp D.bd .nil pass0 (pa_cons (pv 0) (pa_cons pe_int pa_nil))) pe_int rfl))))
        (pss_cons (ps_for PassesOwn.never rfl (pi_list (pe_slice sl_list (pv 4) (po_some pe_int) po_none)) (pg_name (i := 6) nd rfl (.inl rfl))
            (pss_one (ps_dput hu (pv 5) (pv 6) pe_int rfl)))
          (pss_cons (ps_set (i := 7) nd rfl (.inl rfl) (pe_call D.ok (hr.mono (by decide)) (by rfl) D.at_ D.kp D.bd .nil pass0 (pa_cons (pv 0) (pa_cons pe_int pa_nil))))
          (pss_cons (ps_if (pt_cmpR op_lt (pv 7) pe_int rfl)
            (pss_one (ps_dput hu (pv 5) (pe_ix ix_list (pv 4) pe_int (fun _ _ => rfl)) (pv 7) rfl))
            pss_nil)
          (pss_one (ps_ret (pv 5))))))
        pss_nil)
      (pss_cons (ps_set (i := 8) nd rfl (.inl rfl) (pe_call D.ok (hr.mono (by decide)) (by rfl) D.at_ D.kp D.bd .nil pass0 (pa_cons (pv 0) (pa_cons pe_int pa_nil))))
      (pss_cons (ps_set (i := 9) nd rfl (.inl rfl) (pe_op op_add pe_int (pe_call D.ok (hr.mono (by decide)) (by rfl) D.at_ D.kp D.bd .nil pass0 (pa_cons (pv 0) (pa_cons (pv 2) pa_nil)))))
      (pss_cons (ps_if (pt_cmpR op_eq (pe_call D.ok (hr.mono (by decide)) (by rfl) D.at_ D.kp D.bd .nil pass0 (pa_cons (pv 0) (pa_cons pe_int pa_nil))) pe_int rfl)
        (pss_one (ps_expr (pe_bm PySem.F.plainAttrs_list PySem.F.slot_list_append PySem.F.type_list_append mt_append (pv 4) (pa_cons (pe_op op_sub (pe_ix ix_list (pv 1) pe_int (fun _ _ => rfl)) pe_int) pa_nil))))
        pss_nil)
      (pss_cons (ps_for PassesOwn.never rfl (pi_list (pv 4)) (pg_name (i := 6) nd rfl (.inl rfl))
        (pss_one (ps_if (PW.pt (pw_or (pt_cmpR op_eq (pv 8) pe_int rfl) (pw_or1 (pt_cmpR op_gt (pe_call D.ok (hr.mono (by decide)) (by rfl) D.at_ D.kp D.bd .nil pass0 (pa_cons (pv 0) (pa_cons pe_int pa_nil))) pe_int rfl))))
            (pss_cons (ps_dput hu (pv 5) (pv 6) (pe_call D.ok (hr.mono (by decide)) (by rfl) D.at_ D.kp D.bd .nil pass0 (pa_cons (pv 0) (pa_cons (pe_op op_add (pv 9) pe_int) pa_nil))) rfl)
              (pss_cons (ps_set (i := 10) nd rfl (.inl rfl) (pe_call D.ok (hr.mono (by decide)) (by rfl) D.at_ D.kp D.bd .nil pass0 (pa_cons (pv 0) (pa_cons pe_int pa_nil))))
              (pss_cons (ps_if (pt_cmpR op_eq (pv 10) pe_int rfl)
                (pss_one (ps_dput hu (pv 5) (pv 6) (pe_op op_sub (pe_op op_pow pe_int pe_int) (pe_call D.ok (hr.mono (by decide)) (by rfl) D.at_ D.kp D.bd .nil pass0 (pa_cons (pv 0) (pa_cons pe_int pa_nil)))) rfl))
                pss_nil)
              (pss_one (ps_if (pt_cmpR op_eq (pv 10) pe_int rfl)
                (pss_one (ps_dput hu (pv 5) (pv 6) (pe_call D.ok (hr.mono (by decide)) (by rfl) D.at_ D.kp D.bd .nil pass0 (pa_cons (pv 0) (pa_cons pe_int pa_nil))) rfl))
                pss_nil)))))
            pss_nil)))
      (pss_one (ps_ret (pv 5))))))))), ?_⟩
    refine ⟨_, rfl, _, rfl, Int, V.int, p, pl, ns, rfl, hp, epl, n30, ppl, fun H1 v vs k1 nv st1 ev pm => ?_⟩
    have lv := pm.length_eq
    have vp : v ≠ p := fun z => hp.some (z ▸ nv)
    refine fun d nd1 => ?_
    have ndH := k1.free st1 nd1
    have dp : d ≠ p := fun z => hp.some (z ▸ ndH)
    have N0 : Nw H (upd H1 d (.dK [])) p pl v d ns vs [] := ⟨k1.at_ ndH, st1.upd dp.symm, by rw [upd_ne (ne_some' (k1 _ _ ppl.symm epl) nd1)]; exact k1 _ _ ppl.symm epl, by rw [upd_ne (ne_some' ev nd1)]; exact ev, upd_same, List.Pairwise.nil, (fun _ h => nomatch h), (fun _ h => nomatch h), ppl.symm, nv, ndH, vp, dp⟩
    generalize upd H1 d (.dK []) = H2 at N0 ⊢
    have done : ∀ {H' : Hp} {ws : List Int} {Hs : List (Int × Int)}, Nw H H' p pl v d ns ws Hs → ws.length ≤ 60 → Q (.ref d) H' := fun {H' ws Hs} N l => q H' d Hs N.kp N.nd0 N.st N.ed N.nd (by have := N.few; omega) fun v k h => N.nn _ (zget_mem h)
    clear ev st1 k1 nd1 H1
    refine' with_restS (fun σ H' => σ = [some (.ref p), some (.ref pl), some (.int (m : Int)), some (.bl bl), some (.ref v), some (.ref d), none, none, none, none, none] ∧ Nw H H' p pl v d ns vs []) ?r1
      (fun rest => ⟨_, rfl, bl, rfl, ite_both (fun _ => ⟨_, rfl, p, 2, rfl, N0.st, by decide, by decide, fun H3 c o3 st3 c0 c1 => ⟨rfl, _, rfl, ite_both (fun _ => ?cA) (fun _ => rest _ _ ⟨rfl, N0.oth o3 st3⟩)⟩⟩) (fun _ => iteF (rest _ _ ⟨rfl, N0⟩))⟩)
    case cA =>
      have N3 := N0.oth o3 st3
      refine ⟨_, rfl, _, rfl, v, _, rfl, sl_map N3.ev, fun s ns4 => ?_⟩
      have e1 : cutV (vs.map V.int) (some 1) none = (vs.drop 1).map V.int := by rw [show (1 : Int) = ((1 : Nat) : Int) from rfl, cutV_from, List.map_drop]
      rw [e1]
      have N4 := N3.same (same_new (o := HO.lst ((vs.drop 1).map V.int)) ns4)
      have es : (upd H3 s (.lst ((vs.drop 1).map V.int))) s = some (.lst ((vs.drop 1).map V.int)) := upd_same
      have sd : s ≠ d := fun z => by rw [z, N3.ed] at ns4; cases ns4
      generalize upd H3 s (.lst ((vs.drop 1).map V.int)) = H4 at N4 es ⊢
      refine ⟨s, rfl, ⟨_, sl_map es⟩, for_list (xs := (vs.drop 1).map V.int) (fun i σ H' => ∃ (y6 : Option V) (Hs : List (Int × Int)), σ = [some (.ref p), some (.ref pl), some (.int (m : Int)), some (.bl bl), some (.ref v), some (.ref d), y6, none, none, none, none] ∧ Nw H H' p pl v d ns vs Hs ∧ H' s = some (.lst ((vs.drop 1).map V.int)))
        ⟨none, [], rfl, N4, es⟩ (fun i σ H' _ h => by obtain ⟨_, _, _, _, h⟩ := h; exact sl_map h) ?_ ?_⟩
      · rintro i x σ H5 hx ⟨y6, Hs, rfl, N5, es5⟩
        rw [List.getElem?_map] at hx
        obtain ⟨u, hu2, rfl⟩ := Option.map_eq_some_iff.mp hx
        have um : u ∈ vs := List.mem_of_mem_drop (List.mem_of_getElem? hu2)
        have few := N5.few
        refine ⟨_, rfl, _, rfl, d, _, rfl, DPut.k (k := .inl u) N5.ed (by rw [zK_len]; exact small1000 (by omega)), ?_⟩
        rw [show putK (zK V.int Hs) (Sum.inl u) (V.int 1) = zK V.int (putZ Hs u 1) from zput V.int Hs u 1]
        exact ⟨_, _, rfl, N5.put um (by decide), by rw [upd_ne sd]; exact es5⟩
      · rintro σ H5 ⟨y6, Hs, rfl, N5, es5⟩
        refine ⟨_, rfl, p, 4, rfl, N5.st, by decide, by decide, fun H6 c o6 st6 c0 c1 => ?_⟩
        have N6 := N5.oth o6 st6
        have few := N6.few
        refine ⟨_, rfl, _, _, rfl, rfl, _, rfl, ite_both (fun _ => ?_) fun _ => ?_⟩
        · obtain ⟨u, um, au⟩ := at_in (ns := vs) (d := 0) (by omega) (by omega)
          refine ⟨_, rfl, _, rfl, _, rfl, v, _, _, .int u, rfl, rfl, sl_map N6.ev, au, d, _, rfl, DPut.k (k := .inl u) N6.ed (by rw [zK_len]; exact small1000 (by omega)), ?_⟩
          rw [show putK (zK V.int Hs) (Sum.inl u) (V.int c) = zK V.int (putZ Hs u c) from zput V.int Hs u c]
          exact ⟨_, rfl, done (N6.put um c0) (by omega)⟩
        · exact ⟨_, rfl, done N6 (by omega)⟩
    clear N0
    rintro σ H3 ⟨rfl, N3⟩
    refine ⟨_, rfl, p, 2, rfl, N3.st, by decide, by decide, fun H4 ev o4 st4 c0 c1 => ?_⟩
    have N4 := N3.oth o4 st4
    refine ⟨_, rfl, _, rfl, p, (m : Int), rfl, N4.st, by omega, by omega, fun H5 tp o5 st5 t0 t1 => ⟨_, _, rfl, rfl, ?_⟩⟩
    have N5 := N4.oth o5 st5
    clear o4 o5 st4 st5 N3 N4
    refine' with_restS (fun σ H' => ∃ ws : List Int, σ = [some (.ref p), some (.ref pl), some (.int (m : Int)), some (.bl bl), some (.ref v), some (.ref d), none, none, some (.int ev), some (.int (1 + tp)), none] ∧ Nw H H' p pl v d ns ws [] ∧ ws.length ≤ 40) ?r2
      (fun rest => ⟨_, rfl, p, 6, rfl, N5.st, by decide, by decide, fun H6 c o6 st6 c0 c1 => ⟨rfl, _, rfl, ite_both (fun _ => ?cB) (fun _ => rest _ _ ⟨vs, rfl, N5.oth o6 st6, by omega⟩)⟩⟩)
    case cB =>
      have N6 := N5.oth o6 st6
      obtain ⟨u, um, au⟩ := at_in (ns := ns) (d := 0) (by omega) (by omega)
      have e1 : pl ≠ v := fun z => by have := N6.nv; have h2 := epl; rw [z, this] at h2; cases h2
      have e2 : d ≠ v := fun z => by have := N6.ed; rw [z, N6.ev] at this; cases this
      refine ⟨_, rfl, .inl ⟨rfl, _, sl_map N6.ev⟩, _, rfl, pl, _, _, .int u, rfl, rfl, sl_map N6.epl, au, _, _, rfl, rfl, v, _, _, rfl, rfl, N6.ev, by rw [List.length_map]; exact small1000 (by omega), rest _ _ ⟨vs ++ [u - 1], rfl, ⟨N6.kp.at_ nv, N6.st.upd vp.symm, by rw [upd_ne e1]; exact N6.epl, by rw [upd_same, List.map_append] <;> rfl, by rw [upd_ne e2]; exact N6.ed, N6.nd, (fun _ h => nomatch h), (fun _ h => nomatch h), N6.n1, nv, ndH, vp, dp⟩, by rw [List.length_append]; show vs.length + 1 ≤ 40; omega⟩⟩
    clear N5
    rintro σ H6 ⟨ws, rfl, N6, lw⟩
    refine ⟨_, rfl, v, rfl, ⟨_, sl_map N6.ev⟩, for_list (xs := ws.map V.int) (fun i σ H' => ∃ (y6 y10 : Option V) (Hs : List (Int × Int)), σ = [some (.ref p), some (.ref pl), some (.int (m : Int)), some (.bl bl), some (.ref v), some (.ref d), y6, none, some (.int ev), some (.int (1 + tp)), y10] ∧ Nw H H' p pl v d ns ws Hs)
      ⟨none, none, [], rfl, N6⟩ (fun i σ H' _ h => by obtain ⟨_, _, _, _, h⟩ := h; exact sl_map h.ev) ?_ ?_⟩
    · rintro i x σ H7 hx ⟨y6, y10, Hs, rfl, N7⟩
      rw [List.getElem?_map] at hx
      obtain ⟨u, hu2, rfl⟩ := Option.map_eq_some_iff.mp hx
      have um := List.mem_of_getElem? hu2
      refine' with_restS (fun σ H' => σ = [some (.ref p), some (.ref pl), some (.int (m : Int)), some (.bl bl), some (.ref v), some (.ref d), some (.int u), none, some (.int ev), some (.int (1 + tp)), y10] ∧ Nw H H' p pl v d ns ws Hs) ?r3
        (fun rest => ⟨_, rfl, rfl, _, rfl, ite_both (fun _ => iteT (rest _ _ ⟨rfl, N7⟩)) (fun _ => ⟨_, rfl, p, 3, rfl, N7.st, by decide, by decide, fun H8 c o8 st8 c0 c1 => ⟨_, _, rfl, rfl, _, rfl, ite_both (fun _ => rest _ _ ⟨rfl, N7.oth o8 st8⟩) (fun _ => ⟨_, _, Hs, rfl, N7.oth o8 st8⟩)⟩⟩)⟩)
      clear N7
      rintro σ H8 ⟨rfl, N8⟩
      have pw : ∀ {H' : Hp} {Hs : List (Int × Int)} {k : Int}, Nw H H' p pl v d ns ws Hs → 0 ≤ k → DPut H' d (.int u) (.int k) (upd H' d (.dK (zK V.int (putZ Hs u k)))) := fun {H' Hs k} N hk => by
        have few := N.few
        have := DPut.k (k := .inl u) (v := V.int k) N.ed (by rw [zK_len]; exact small1000 (by omega))
        rwa [show putK (zK V.int Hs) (Sum.inl u) (V.int k) = zK V.int (putZ Hs u k) from zput V.int Hs u k] at this
      refine ⟨_, rfl, _, rfl, _, _, rfl, rfl, p, _, rfl, N8.st, by omega, by omega, fun H9 c o9 st9 c0 c1 => ?_⟩
      have N9 := N8.oth o9 st9
      refine ⟨_, rfl, _, rfl, d, _, rfl, pw N9 c0, ?_⟩
      have N10 := N9.put um c0
      generalize upd H9 d (.dK (zK V.int (putZ Hs u c))) = H10 at N10 ⊢
      refine ⟨_, rfl, p, 24, rfl, N10.st, by decide, by decide, fun H11 od o11 st11 d0 d1 => ?_⟩
      have N11 := N10.oth o11 st11
      refine' with_restS (fun σ H' => ∃ Hs, σ = [some (.ref p), some (.ref pl), some (.int (m : Int)), some (.bl bl), some (.ref v), some (.ref d), some (.int u), none, some (.int ev), some (.int (1 + tp)), some (.int od)] ∧ Nw H H' p pl v d ns ws Hs) ?r4
        (fun rest => ⟨_, rfl, rfl, _, rfl, ite_both (fun _ => ?cD) (fun _ => rest _ _ ⟨_, rfl, N11⟩)⟩)
      case cD =>
        refine ⟨_, _, rfl, rfl, ⟨by decide, by decide, by decide⟩, _, rfl, p, 3, rfl, N11.st, by decide, by decide, fun H12 e o12 st12 e0 e1 => ?_⟩
        have N12 := N11.oth o12 st12
        have big : (10 : Int) ^ (12 : Int).toNat = 1000000000000 := by decide
        have hk : 0 ≤ (10 : Int) ^ (12 : Int).toNat - e := by rw [big]; omega
        exact ⟨_, _, rfl, rfl, _, rfl, _, rfl, d, _, rfl, pw N12 hk, rest _ _ ⟨_, rfl, N12.put um hk⟩⟩
      clear N11 N10 N9 N8
      rintro σ H12 ⟨Hs2, rfl, N12⟩
      refine ⟨_, rfl, rfl, _, rfl, ite_both (fun _ => ?_) (fun _ => ⟨_, _, Hs2, rfl, N12⟩)⟩
      refine ⟨_, rfl, p, 17, rfl, N12.st, by decide, by decide, fun H13 e o13 st13 e0 e1 => ?_⟩
      have N13 := N12.oth o13 st13
      exact ⟨_, rfl, _, rfl, d, _, rfl, pw N13 e0, _, _, _, rfl, N13.put um e0⟩
    · rintro σ H7 ⟨y6, y10, Hs, rfl, N7⟩
      exact ⟨_, rfl, done N7 (by omega)⟩
end
end K19

set_option Elab.async false
set_option linter.all false
set_option maxRecDepth 100000
set_option maxHeartbeats 4000000
namespace K19
open PySem PySem.Spec PyProof.Rows L2 Cs CsX
theorem same_keep {H H1 H2 : Hp} {p : Addr} (s : Same H H1) (n : H p = none) (k : Keep p H1 H2) : Same H H2 := fun b o e => k b o (fun z => by rw [z, n] at e; cases e) (s b o e)
theorem same_oth {H H1 H2 : Hp} {p : Addr} (s : Same H H1) (n : H p = none) (k : Oth p H1 H2) : Same H H2 := same_keep s n ((Keep.refl p H1).oth k)
theorem Doms.away {H H1 H2 : Hp} {l t : Addr} {ds : List DomE} {ns : List Int} {p : Addr} (D : Doms H l ds) (n : H t = none) (ok : DomOk p ds ns) : DomOk t ds ns := fun d hd =>
  ⟨(ok d hd).1, (fun z => by have := D.tup d hd; rw [z, n] at this; cases this), fun z => by have := D.side d hd; rw [z, n] at this; cases this⟩
section
variable {P : Program} {w : World} {K : PySem.W.Frag} {mg : Str → Option Value} {base : Heap}
abbrev sWo : Stmt := topS 18
abbrev nWo : List Str := ["_law_script", "_law_stream_here", "_law_names_here", "_law_pool_here", "_law_first", "_law_second"]
theorem scWo : FnScope nWo ["_law_script"] (defScope sWo) := ⟨rfl, rfl, rfl, by decide +kernel, rfl, by decide +kernel, by decide +kernel⟩
def spWo (K : PySem.W.Frag) : Sp := fun vs H Q _ => ∃ (a : Addr) (cs : List Int), vs = [.ref a] ∧ SqL K H a (cs.map V.int) ∧
  ∀ (H' : Hp) (r pl d1 d2 : Addr) (ns : List Int) (bl : Bool) (L1 L2 : List Ent), Same H H' → H' r = some (.lst [.ref pl, .bl bl, .ref d1, .ref d2]) → H' pl = some (.lst (ns.map V.int)) → 1 ≤ ns.length → ns.length ≤ 30 → Bu H' d1 L1 → Bu H' d2 L2 → BoxOk L1 ns → BoxOk L2 ns → Q (.ref r) H'
theorem ok_Wo {f f0 f1 f2 f3 f4 f5 f6 f7 f8 : Addr} {fd fd0 fd1 fd2 fd3 fd4 fd5 fd6 fd7 fd8 : FuncData} (F : Fun K "_law_world" "_law_world" sWo f fd) (B : Bt mg) (Cst : Call P w K mg base 1 "_law_stream" f0 fd0 ["_law_script", "_law_k"] (spStream K)) (Cna : Call P w K mg base 2 "_law_names" f1 fd1 ["_law_stream_here", "_law_count"] spNames) (Cpo : Call P w K mg base 2 "_law_pool" f2 fd2 ["_law_stream_here", "_law_count"] spPool) (Cdo : Call P w K mg base 2 "_law_domains" f3 fd3 ["_law_stream_here", "_law_names_here", "_law_pool_here", "_law_most"] spDoms) (D : Call P w K mg base 1 "_law_next" f4 fd4 ["_law_stream_here", "_law_size"] spDraw) (CMn : Call P w K mg base 2 "_law_many_names" f5 fd5 ["_law_stream_here", "_law_count"] spMn) (CCh : Call P w K mg base 3 "_law_chain" f6 fd6 ["_law_stream_here", "_law_names_here", "_law_pool_here"] spCh) (CSf : Call P w K mg base 2 "_law_shuffled" f7 fd7 ["_law_stream_here", "_law_things"] spSf) (CSd : Call P w K mg base 1 "_law_sides" f8 fd8 ["_law_domains_here"] spSd) :
    FnOk P w K mg base CX0 4 f fd ["_law_script"] (spWo K) := by
  refine F.ok scWo (fun vs H Q E h => ?_) (fun cdv A outer s H vs Q E hr h => ?_)
  · obtain ⟨a, ns, rfl, _⟩ := h
    rfl
  · obtain ⟨a, cs, rfl, ha, q⟩ := h
    have nd := scWo.nd
    refine ⟨_, pss_cons (ps_set (i := 1) nd rfl (.inl rfl) (pe_call Cst.ok (hr.mono (by decide)) (by rfl) Cst.at_ Cst.kp Cst.bd .nil pass0 (pa_cons (pv 0) (pa_cons pe_int pa_nil))))
      (pss_cons (ps_if (pt_cmpR op_eq (pe_call D.ok (hr.mono (by decide)) (by rfl) D.at_ D.kp D.bd .nil pass0 (pa_cons (pv 1) (pa_cons pe_int pa_nil))) pe_int rfl)
        (pss_cons (ps_set (i := 2) nd rfl (.inl rfl) (pe_call CMn.ok (hr.mono (by decide)) (by rfl) CMn.at_ CMn.kp CMn.bd .nil pass0 (pa_cons (pv 1) (pa_cons (pe_ix ix_list (pe_lst (pa_cons pe_int (pa_cons pe_int (pa_cons pe_int (pa_cons pe_int pa_nil))))) (pe_call D.ok (hr.mono (by decide)) (by rfl) D.at_ D.kp D.bd .nil pass0 (pa_cons (pv 1) (pa_cons pe_int pa_nil))) (fun _ _ => rfl)) pa_nil))))
          (pss_cons (ps_set (i := 3) nd rfl (.inl rfl) (pe_call Cpo.ok (hr.mono (by decide)) (by rfl) Cpo.at_ Cpo.kp Cpo.bd .nil pass0 (pa_cons (pv 1) (pa_cons (pe_callB call_len_seq (by rfl) B.len PySem.boot_len (pa_cons (pv 2) pa_nil)) pa_nil))))
          (pss_cons (ps_set (i := 4) nd rfl (.inl rfl) (pe_call CCh.ok (hr.mono (by decide)) (by rfl) CCh.at_ CCh.kp CCh.bd .nil pass0 (pa_cons (pe_call Cst.ok (hr.mono (by decide)) (by rfl) Cst.at_ Cst.kp Cst.bd .nil pass0 (pa_cons (pv 0) (pa_cons pe_int pa_nil))) (pa_cons (pv 2) (pa_cons (pv 3) pa_nil)))))
          (pss_cons (ps_set (i := 5) nd rfl (.inl rfl) (pe_call CCh.ok (hr.mono (by decide)) (by rfl) CCh.at_ CCh.kp CCh.bd .nil pass0 (pa_cons (pe_call Cst.ok (hr.mono (by decide)) (by rfl) Cst.at_ Cst.kp Cst.bd .nil pass0 (pa_cons (pv 0) (pa_cons pe_int pa_nil))) (pa_cons (pv 2) (pa_cons (pv 3) pa_nil)))))
          (pss_one (ps_ret (pe_lst (pa_cons (pv 3) (pa_cons pe_bl (pa_cons (pe_call CSd.ok (hr.mono (by decide)) (by rfl) CSd.at_ CSd.kp CSd.bd .nil pass0 (pa_cons (pv 4) pa_nil)) (pa_cons (pe_call CSd.ok (hr.mono (by decide)) (by rfl) CSd.at_ CSd.kp CSd.bd .nil pass0 (pa_cons (pv 5) pa_nil)) pa_nil)))))))))))
        pss_nil)
      (pss_cons (ps_set (i := 2) nd rfl (.inl rfl) (pe_call Cna.ok (hr.mono (by decide)) (by rfl) Cna.at_ Cna.kp Cna.bd .nil pass0 (pa_cons (pv 1) (pa_cons (pe_call D.ok (hr.mono (by decide)) (by rfl) D.at_ D.kp D.bd .nil pass0 (pa_cons (pv 1) (pa_cons pe_int pa_nil))) pa_nil))))
      (pss_cons (ps_set (i := 3) nd rfl (.inl rfl) (pe_call Cpo.ok (hr.mono (by decide)) (by rfl) Cpo.at_ Cpo.kp Cpo.bd .nil pass0 (pa_cons (pv 1) (pa_cons (pe_op op_add pe_int (pe_call D.ok (hr.mono (by decide)) (by rfl) D.at_ D.kp D.bd .nil pass0 (pa_cons (pv 1) (pa_cons pe_int pa_nil)))) pa_nil))))
      (pss_cons (ps_set (i := 4) nd rfl (.inl rfl) (pe_call Cdo.ok (hr.mono (by decide)) (by rfl) Cdo.at_ Cdo.kp Cdo.bd .nil pass0 (pa_cons (pe_call Cst.ok (hr.mono (by decide)) (by rfl) Cst.at_ Cst.kp Cst.bd .nil pass0 (pa_cons (pv 0) (pa_cons pe_int pa_nil))) (pa_cons (pv 2) (pa_cons (pv 3) (pa_cons pe_int pa_nil))))))
      (pss_cons (ps_set (i := 5) nd rfl (.inl rfl) (pe_call Cdo.ok (hr.mono (by decide)) (by rfl) Cdo.at_ Cdo.kp Cdo.bd .nil pass0 (pa_cons (pe_call Cst.ok (hr.mono (by decide)) (by rfl) Cst.at_ Cst.kp Cst.bd .nil pass0 (pa_cons (pv 0) (pa_cons pe_int pa_nil))) (pa_cons (pe_call CSf.ok (hr.mono (by decide)) (by rfl) CSf.at_ CSf.kp CSf.bd .nil pass0 (pa_cons (pv 1) (pa_cons (pv 2) pa_nil))) (pa_cons (pv 3) (pa_cons pe_int pa_nil))))))
      (pss_one (ps_ret (pe_lst (pa_cons (pv 3) (pa_cons pe_bl (pa_cons (pe_call CSd.ok (hr.mono (by decide)) (by rfl) CSd.at_ CSd.kp CSd.bd .nil pass0 (pa_cons (pv 4) pa_nil)) (pa_cons (pe_call CSd.ok (hr.mono (by decide)) (by rfl) CSd.at_ CSd.kp CSd.bd .nil pass0 (pa_cons (pv 5) pa_nil)) pa_nil)))))))))))), ?_⟩
    refine ⟨_, rfl, a, cs, 0, rfl, ha, fun H1 p s1 np st1 => ?_⟩
    refine ⟨_, rfl, p, 6, rfl, st1, by decide, by decide, fun H2 c o2 st2 c0 c1 => ⟨rfl, _, rfl, ite_both (fun _ => ?_) fun _ => ?_⟩⟩
    · have S2 := same_oth s1 np o2
      refine ⟨_, rfl, by show 4 ≤ sizeLine; decide, fun Y nY => ?_⟩
      have pY : p ≠ Y := fun z => st2.some (z ▸ nY)
      have S2' := S2.trans (same_new (o := HO.lst [V.int 16, .int 16, .int 13, .int 9]) nY)
      refine ⟨_, rfl, p, 4, rfl, st2.upd pY, by decide, by decide, fun H3 e o3 st3 e0 e1 => ?_⟩
      have eY3 := (o3 Y pY.symm).trans (upd_same (H := H2) (a := Y) (o := HO.lst [V.int 16, .int 16, .int 13, .int 9]))
      have S3 := same_oth S2' np o3
      obtain ⟨tt, ttm, att⟩ := at_in (ns := [16, 16, 13, 9]) e0 e1
      have t16 : 9 ≤ tt ∧ tt ≤ 16 := by
        simp only [List.mem_cons, List.not_mem_nil, or_false] at ttm
        rcases ttm with h | h | h | h <;> omega
      obtain ⟨t, rfl⟩ : ∃ t : Nat, tt = (t : Int) := ⟨tt.toNat, by omega⟩
      refine ⟨Y, _, _, .int (t : Int), rfl, rfl, sl_map eY3, att, p, t, rfl, st3, by omega, fun H4 nm xs k4 nnm st4 enm lx => ?_⟩
      have S4 := same_keep S3 np k4
      have pnm : nm ≠ p := fun z => st3.some (z ▸ nnm)
      have nlx : (xs.map V.str).length = xs.length := List.length_map _
      refine ⟨_, rfl, _, rfl, nm, _, rfl, .inl (sl_map enm), p, t, by rw [nlx, lx] <;> rfl, st4, by omega, by omega, fun H5 pl ns k5 npl st5 epl srt lns => ?_⟩
      have S5 := same_keep S4 np k5
      have enm5 := k5 _ _ pnm enm
      have ppl : pl ≠ p := fun z => st4.some (z ▸ npl)
      refine ⟨_, rfl, a, cs, 1, rfl, S5.seq ha, fun H6 s s6 ns6 st6 => ?_⟩
      have S6 := S5.trans s6
      have nsH := S5.free ns6
      have enm6 := s6 _ _ enm5
      have epl6 := s6 _ _ epl
      have snm : s ≠ nm := fun z => by rw [← z, ns6] at enm5; cases enm5
      have spl : s ≠ pl := fun z => by rw [← z, ns6] at epl; cases epl
      refine ⟨_, rfl, _, rfl, s, nm, pl, xs, ns, rfl, st6, enm6, epl6, snm, spl, srt, by omega, by omega, by omega, fun H7 l1 ds1 k7 nl1 st7 dm1 l30 ok1 => ?_⟩
      have S7 := same_keep S6 nsH k7
      have enm7 := k7 _ _ snm.symm enm6
      have epl7 := k7 _ _ spl.symm epl6
      refine ⟨_, rfl, a, cs, 2, rfl, S7.seq ha, fun H8 u s8 nu8 st8 => ?_⟩
      have S8 := S7.trans s8
      have nuH := S7.free nu8
      have enm8 := s8 _ _ enm7
      have epl8 := s8 _ _ epl7
      have unm : u ≠ nm := fun z => by rw [← z, nu8] at enm7; cases enm7
      have upl : u ≠ pl := fun z => by rw [← z, nu8] at epl7; cases epl7
      have ul1 : l1 ≠ u := fun z => by have := dm1.lst; rw [z, nu8] at this; cases this
      have ok1u : DomOk u ds1 ns := Doms.away (H1 := H7) (H2 := H7) dm1 nu8 ok1
      refine ⟨_, rfl, _, rfl, u, nm, pl, xs, ns, rfl, st8, enm8, epl8, unm, upl, srt, by omega, by omega, by omega, fun H9 l2 ds2 k9 nl2 st9 dm2 l30' ok2 => ?_⟩
      have S9 := same_keep S8 nuH k9
      have dm19 := (dm1.same s8).kept k9 ul1 ok1u
      have epl9 := k9 _ _ upl.symm epl8
      refine ⟨_, rfl, _, rfl, l1, ds1, ns, rfl, dm19, l30, fun d hd => (ok1 d hd).1, fun H10 d1 L1 s10 nd1 b1 bo1 => ?_⟩
      refine ⟨_, rfl, l2, ds2, ns, rfl, dm2.same s10, l30', fun d hd => (ok2 d hd).1, fun H11 d2 L2 s11 nd2 b2 bo2 => ⟨by show 4 ≤ sizeLine; decide, fun r nr => ?_⟩⟩
      have t := same_new (o := HO.lst [V.ref pl, .bl true, .ref d1, .ref d2]) nr
      exact q _ r pl d1 d2 ns true L1 L2 (S9.trans (s10.trans (s11.trans t))) upd_same (t _ _ (s11 _ _ (s10 _ _ epl9))) (by omega) (by omega) ((b1.same' s11).same' t) (b2.same' t) bo1 bo2
    · have S2 := same_oth s1 np o2
      refine ⟨_, rfl, _, rfl, p, 7, rfl, st2, by decide, by decide, fun H3 e o3 st3 e0 e1 => ?_⟩
      have S3 := same_oth S2 np o3
      obtain ⟨n, rfl⟩ : ∃ n : Nat, e = (n : Int) := ⟨e.toNat, by omega⟩
      refine ⟨p, n, rfl, st3, by omega, fun H4 nm xs k4 nnm st4 enm xnd lx _ => ?_⟩
      have S4 := same_keep S3 np k4
      have pnm : nm ≠ p := fun z => st3.some (z ▸ nnm)
      refine ⟨_, rfl, _, rfl, p, 4, rfl, st4, by decide, by decide, fun H5 g o5 st5 g0 g1 => ⟨_, _, rfl, rfl, ?_⟩⟩
      have S5 := same_oth S4 np o5
      obtain ⟨g, rfl⟩ : ∃ j : Nat, g = (j : Int) := ⟨g.toNat, by omega⟩
      have enm5 := (o5 nm pnm).trans enm
      refine ⟨p, 2 + g, by show [V.ref p, V.int (2 + (g : Int))] = _; rw [show (2 + (g : Int)) = ((2 + g : Nat) : Int) by omega], st5, by omega, by omega, fun H6 pl ns k6 npl st6 epl srt lns => ?_⟩
      have S6 := same_keep S5 np k6
      have enm6 := k6 _ _ pnm enm5
      have ppl : pl ≠ p := fun z => st5.some (z ▸ npl)
      refine ⟨_, rfl, a, cs, 1, rfl, S6.seq ha, fun H7 s s7 ns7 st7 => ?_⟩
      have S7 := S6.trans s7
      have nsH := S6.free ns7
      have enm7 := s7 _ _ enm6
      have epl7 := s7 _ _ epl
      have snm : s ≠ nm := fun z => by rw [← z, ns7] at enm6; cases enm6
      have spl : s ≠ pl := fun z => by rw [← z, ns7] at epl; cases epl
      have ps : p ≠ s := fun z => st6.some (z ▸ ns7)
      have stp7 : Strm H7 p := by obtain ⟨x, y, z, e⟩ := st6; exact ⟨x, y, z, s7 _ _ e⟩
      refine ⟨_, rfl, _, rfl, s, nm, pl, xs, ns, 4, rfl, st7, enm7, epl7, snm, spl, srt, by omega, by omega, by omega, fun H8 l1 ds1 k8 nl1 st8 dm1 keys1 sz1 _ => ?_⟩
      have S8 := same_keep S7 nsH k8
      have enm8 := k8 _ _ snm.symm enm7
      have epl8 := k8 _ _ spl.symm epl7
      have stp8 : Strm H8 p := stp7.keep k8 ps
      have ok1 : DomOk s ds1 ns := fun d hd => by
        obtain ⟨h1, h2, h3, h4, h5⟩ := sz1 d hd
        exact ⟨⟨h1, by omega, h5⟩, (fun z => st7.some (z ▸ h3)), fun z => st7.some (z ▸ h4)⟩
      have l1n : ds1.length = n := by have := congrArg List.length keys1; rw [List.length_map] at this; omega
      refine ⟨_, rfl, a, cs, 2, rfl, S8.seq ha, fun H9 u s9 nu9 st9 => ?_⟩
      have S9 := S8.trans s9
      have nuH := S8.free nu9
      have enm9 := s9 _ _ enm8
      have epl9 := s9 _ _ epl8
      have unm : u ≠ nm := fun z => by rw [← z, nu9] at enm8; cases enm8
      have upl : u ≠ pl := fun z => by rw [← z, nu9] at epl8; cases epl8
      have pu : u ≠ p := fun z => stp8.some (z ▸ nu9)
      have ul1 : l1 ≠ u := fun z => by have := dm1.lst; rw [z, nu9] at this; cases this
      have l1p : l1 ≠ p := fun z => stp7.some (z ▸ nl1)
      have ok1u : DomOk u ds1 ns := Doms.away (H1 := H8) (H2 := H8) dm1 nu9 ok1
      have stp9 : Strm H9 p := by obtain ⟨x, y, z, e⟩ := stp8; exact ⟨x, y, z, s9 _ _ e⟩
      have ok1p : DomOk p ds1 ns := fun d hd => by
        obtain ⟨h1, h2, h3, h4, h5⟩ := sz1 d hd
        exact ⟨(ok1 d hd).1, (fun z => stp7.some (z ▸ h3)), fun z => stp7.some (z ▸ h4)⟩
      refine ⟨_, rfl, _, rfl, Str, V.str, p, nm, xs, rfl, stp9, enm9, by omega, pnm.symm, fun H10 sh zs k10 nsh st10 esh pm => ?_⟩
      have S10 := same_keep S9 np k10
      have epl10 := k10 _ _ ppl epl9
      have st9' : Strm H10 u := st9.keep k10 pu
      have ush : u ≠ sh := fun z => st9.some (z ▸ nsh)
      have lz := pm.length_eq
      have dm10 := (dm1.same s9).kept k10 l1p ok1p
      refine ⟨_, rfl, u, sh, pl, zs, ns, 4, rfl, st9', esh, epl10, ush, upl, srt, by omega, by omega, by omega, fun H11 l2 ds2 k11 nl2 st11 dm2 keys2 sz2 _ => ?_⟩
      have S11 := same_keep S10 nuH k11
      have epl11 := k11 _ _ upl.symm epl10
      have dm11 := dm10.kept k11 ul1 ok1u
      have l2n : ds2.length = n := by have := congrArg List.length keys2; rw [List.length_map] at this; omega
      refine ⟨_, rfl, _, rfl, l1, ds1, ns, rfl, dm11, by omega, fun d hd => (ok1 d hd).1, fun H12 d1 L1 s12 nd1 b1 bo1 => ?_⟩
      refine ⟨_, rfl, l2, ds2, ns, rfl, dm2.same s12, by omega, fun d hd => ?_, fun H13 d2 L2 s13 nd2 b2 bo2 => ⟨by show 4 ≤ sizeLine; decide, fun r nr => ?_⟩⟩
      · obtain ⟨h1, h2, h3, h4, h5⟩ := sz2 d hd
        exact ⟨h1, by omega, h5⟩
      have t := same_new (o := HO.lst [V.ref pl, .bl false, .ref d1, .ref d2]) nr
      exact q _ r pl d1 d2 ns false L1 L2 (S11.trans (s12.trans (s13.trans t))) upd_same (t _ _ (s13 _ _ (s12 _ _ epl11))) (by omega) (by omega) ((b1.same' s13).same' t) (b2.same' t) bo1 bo2
end
end K19

set_option Elab.async false
set_option linter.all false
set_option maxRecDepth 100000
set_option maxHeartbeats 4000000
namespace K19
open PySem PySem.Spec PyProof.Rows L2 Cs CsX
structure Td where
  t : Addr
  d : Addr
  L : List Ent
  n : Addr
  Hs : List (Int × Int)
def sd (M : List Ent) (x : Str) : List Int := (look M x).getD []
structure TdOk (H : Hp) (kp : Addr) (ns : List Int) (x : Td) : Prop where
  et : H x.t = some (.lst [.ref x.d, .ref x.n])
  bd : Bu H x.d x.L
  en : H x.n = some (.dK (zK V.int x.Hs))
  ok : BoxOk x.L ns
  nd : (x.Hs.map (·.1)).Nodup
  few : x.Hs.length ≤ 100
  pos : ∀ v k, zget x.Hs v = some k → 0 ≤ k
  dn : x.d ≠ x.n
  k1 : x.t ≠ kp
  k2 : x.d ≠ kp
  k3 : x.n ≠ kp
  k4 : ∀ g ∈ x.L, g.2.1 ≠ kp
theorem Bu.kept {H H' : Hp} {q d : Addr} {M : List Ent} (B : Bu H d M) (k : Keep q H H') (h1 : d ≠ q) (h2 : ∀ g ∈ M, g.2.1 ≠ q) : Bu H' d M :=
  ⟨⟨.inl (k _ _ h1 B.un), fun g hg => k _ _ (h2 g hg) (B.sides g hg), B.nd, B.few⟩, k _ _ h1 B.un⟩
theorem TdOk.keep {H H' : Hp} {kp : Addr} {ns : List Int} {x : Td} (T : TdOk H kp ns x) (k : Keep kp H H') : TdOk H' kp ns x :=
  ⟨k _ _ T.k1 T.et, T.bd.kept k T.k2 T.k4, k _ _ T.k3 T.en, T.ok, T.nd, T.few, T.pos, T.dn, T.k1, T.k2, T.k3, T.k4⟩
def Gd (L : List Ent) (Hs : List (Int × Int)) : Out → Prop
  | .inl M => FitOk (L.map (·.1)) (sd L) (zget Hs) M ∧ Eqs Hs M
  | .inr c => Want (zget Hs) (sd L) (L.map (·.1)) c
theorem fit_of {L N : List Ent} (nd : (L.map (·.1)).Nodup) (sh : shape N = shape L) : Fit N (N.map (·.1)) (sd L) := fun x hx => by
  rw [shape_same sh x]
  have := look_isSome.mpr hx
  rw [shape_same sh x] at this
  unfold sd
  cases e : look L x with
  | none => rw [e] at this; cases this
  | some s => rfl
theorem wd_of {L N : List Ent} {ns : List Int} {Hs : List (Int × Int)} (nd : (L.map (·.1)).Nodup) (sh : shape N = shape L) (ok : BoxOk L ns) (l : ns.length ≤ 1000) (pos : ∀ v k, zget Hs v = some k → 0 ≤ k) : Wd N (sd L) Hs ns := by
  refine ⟨fit_of nd sh, l, fun x hx v hv => ?_, pos, fun x hx => ?_⟩
  · have h := fit_of nd sh x hx
    rw [shape_same sh x] at h
    obtain ⟨e, he, _, e2⟩ := look_of h
    rw [← e2] at hv
    exact (ok e he).2.2 v hv
  · have h := fit_of nd sh x hx
    rw [shape_same sh x] at h
    obtain ⟨e, he, _, e2⟩ := look_of h
    rw [← e2]
    exact (ok e he).2.1
theorem keys_map (L : List Ent) : ((entK L).map fun kv => kV kv.1) = (L.map (·.1)).map V.str := by
  unfold entK
  rw [List.map_map, List.map_map] <;> rfl
theorem flatI (xs : List Int) : ∀ v ∈ xs.map V.int, flatB v = true := fun v hv => by
  obtain ⟨z, _, rfl⟩ := List.mem_map.mp hv
  rfl
theorem flatS (xs : List Str) : ∀ v ∈ xs.map V.str, flatB v = true := fun v hv => by
  obtain ⟨z, _, rfl⟩ := List.mem_map.mp hv
  rfl
section
variable {P : Program} {w : World} {K : PySem.W.Frag} {mg : Str → Option Value} {base : Heap}
abbrev sLaw : Stmt := topS 27
abbrev nLaw : List Str := ["_law_script", "_law_world_here", "_law_first", "_law_second", "_law_spoil", "_law_kept_here", "_law_turn", "_law_sides_here", "_law_numbers_here", "_law_told"]
theorem scLaw : FnScope nLaw ["_law_script"] (defScope sLaw) := ⟨rfl, rfl, rfl, by decide +kernel, rfl, by decide +kernel, by decide +kernel⟩
def spLaw (K : PySem.W.Frag) : Sp := fun vs H Q _ => ∃ (a : Addr) (ns : List Int), vs = [.ref a] ∧ SqL K H a (ns.map V.int) ∧ ns.length ≤ 63 ∧ ∀ H', Q (.bl true) H'
theorem ok_Law {f f0 f1 f2 f3 f4 f5 f6 f7 f8 f9 : Addr} {fd fd0 fd1 fd2 fd3 fd4 fd5 fd6 fd7 fd8 fd9 : FuncData} (F : Fun K "law" "law" sLaw f fd) (B : Bt mg) (CWo : Call P w K mg base 4 "_law_world" f0 fd0 ["_law_script"] (spWo K)) (CNu : Call P w K mg base 3 "_law_numbers" f1 fd1 ["_law_stream_here", "_law_pool_here", "_law_most", "_law_chained"] spNu) (Cst : Call P w K mg base 1 "_law_stream" f2 fd2 ["_law_script", "_law_k"] (spStream K)) (D : Call P w K mg base 1 "_law_next" f3 fd3 ["_law_stream_here", "_law_size"] spDraw) (Ccp : Call P w K mg base 1 "_law_copied" f4 fd4 ["_law_sides_here"] spCopy) (CFf : Call P w K mg base 4 "wanted_fit" f5 fd5 ["box", "lows"] spFf) (CAh : Call P w K mg base 3 "_law_answer_holds" f6 fd6 ["_law_told", "_law_sides_here", "_law_numbers_here"] spAh) (CKp : Call P w K mg base 1 "_law_kept" f7 fd7 ["_law_told"] spKp) (CSv : Call P w K mg base 2 "_law_same_values" f8 fd8 ["_law_actual", "_law_expected"] spSv) (Csa : Call P w K mg base 3 "_law_same_sides" f9 fd9 ["_law_actual", "_law_expected"] spSame) :
    FnOk P w K mg base CX0 5 f fd ["_law_script"] (spLaw K) := by
  refine F.ok scLaw (fun vs H Q E h => ?_) (fun cdv A outer s H vs Q E hr h => ?_)
  · obtain ⟨a, ns, rfl, _⟩ := h
    rfl
  · obtain ⟨a, cs, rfl, ha, ln, q⟩ := h
    have nd := scLaw.nd
    refine ⟨_, pss_cons (ps_set (i := 1) nd rfl (.inl rfl) (pe_call CWo.ok (hr.mono (by decide)) (by rfl) CWo.at_ CWo.kp CWo.bd .nil pass0 (pa_cons (pv 0) pa_nil)))
      (pss_cons (ps_set (i := 2) nd rfl (.inl rfl) (pe_call CNu.ok (hr.mono (by decide)) (by rfl) CNu.at_ CNu.kp CNu.bd .nil pass0 (pa_cons (pe_call Cst.ok (hr.mono (by decide)) (by rfl) Cst.at_ Cst.kp Cst.bd .nil pass0 (pa_cons (pv 0) (pa_cons pe_int pa_nil))) (pa_cons (pe_ix ix_list (pv 1) pe_int (fun _ _ => rfl)) (pa_cons pe_int (pa_cons (pe_ix ix_list (pv 1) pe_int (fun _ _ => rfl)) pa_nil))))))
      (pss_cons (ps_set (i := 3) nd rfl (.inl rfl) (pe_call CNu.ok (hr.mono (by decide)) (by rfl) CNu.at_ CNu.kp CNu.bd .nil pass0 (pa_cons (pe_call Cst.ok (hr.mono (by decide)) (by rfl) Cst.at_ Cst.kp Cst.bd .nil pass0 (pa_cons (pv 0) (pa_cons pe_int pa_nil))) (pa_cons (pe_ix ix_list (pv 1) pe_int (fun _ _ => rfl)) (pa_cons pe_int (pa_cons (pe_ix ix_list (pv 1) pe_int (fun _ _ => rfl)) pa_nil))))))
      (pss_cons (ps_set (i := 4) nd rfl (.inl rfl) (pe_cmpR op_eq (pe_call D.ok (hr.mono (by decide)) (by rfl) D.at_ D.kp D.bd .nil pass0 (pa_cons (pe_call Cst.ok (hr.mono (by decide)) (by rfl) Cst.at_ Cst.kp Cst.bd .nil pass0 (pa_cons (pv 0) (pa_cons pe_int pa_nil))) (pa_cons pe_int pa_nil))) pe_int rfl))
      (pss_cons (ps_set (i := 5) nd rfl (.inl rfl) (pe_lst pa_nil))
      (pss_cons (ps_for PassesOwn.never rfl (pi_list (pe_lst (pa_cons (pe_lst (pa_cons (pe_ix ix_list (pv 1) pe_int (fun _ _ => rfl)) (pa_cons (pv 2) pa_nil))) (pa_cons (pe_lst (pa_cons (pe_ix ix_list (pv 1) pe_int (fun _ _ => rfl)) (pa_cons (pv 3) pa_nil))) (pa_cons (pe_lst (pa_cons (pe_ix ix_list (pv 1) pe_int (fun _ _ => rfl)) (pa_cons (pv 3) pa_nil))) (pa_cons (pe_lst (pa_cons (pe_ix ix_list (pv 1) pe_int (fun _ _ => rfl)) (pa_cons (pv 2) pa_nil))) pa_nil)))))) (pg_name (i := 6) nd rfl (.inl rfl))
        (pss_cons (ps_set (i := 7) nd rfl (.inl rfl) (pe_call Ccp.ok (hr.mono (by decide)) (by rfl) Ccp.at_ Ccp.kp Ccp.bd .nil pass0 (pa_cons (pe_ix ix_list (pv 6) pe_int (fun _ _ => rfl)) pa_nil)))
          (pss_cons (ps_set (i := 8) nd rfl (.inl rfl) (pe_callTy call_dictD (by rfl) B.dict PyProof.Rows.boot_dict (pa_cons (pe_ix ix_list (pv 6) pe_int (fun _ _ => rfl)) pa_nil)))
          (pss_cons (ps_set (i := 9) nd rfl (.inl rfl) (pe_call CFf.ok (hr.mono (by decide)) (by rfl) CFf.at_ CFf.kp CFf.bd .nil pass0 (pa_cons (pv 7) (pa_cons (pv 8) pa_nil))))
          (pss_cons (ps_if (pt_not (pt_val (pe_call CAh.ok (hr.mono (by decide)) (by rfl) CAh.at_ CAh.kp CAh.bd .nil pass0 (pa_cons (pv 9) (pa_cons (pe_ix ix_list (pv 6) pe_int (fun _ _ => rfl)) (pa_cons (pe_ix ix_list (pv 6) pe_int (fun _ _ => rfl)) pa_nil))))))
            (pss_one (ps_ret pe_bl))
            pss_nil)
          (pss_cons (ps_expr (pe_bm PySem.F.plainAttrs_list PySem.F.slot_list_append PySem.F.type_list_append mt_append (pv 5) (pa_cons (pe_call CKp.ok (hr.mono (by decide)) (by rfl) CKp.at_ CKp.kp CKp.bd .nil pass0 (pa_cons (pv 9) pa_nil)) pa_nil)))
          (pss_cons (ps_if (pt_val (pv 4))
            (pss_one (ps_expr (pe_or (pe_dclear (pe_ix ix_tup (pv 9) pe_int (fun _ _ => rfl))) (pe_bm0 PySem.F.plainAttrs_list PySem.F.slot_list_clear PySem.F.type_list_clear mt_clear (pe_ix ix_tup (pv 9) pe_int (fun _ _ => rfl))))))
            pss_nil)
          (pss_cons (ps_if (PW.pt (pw_or (pt_not (pt_val (pe_call Csa.ok (hr.mono (by decide)) (by rfl) Csa.at_ Csa.kp Csa.bd .nil pass0 (pa_cons (pv 7) (pa_cons (pe_ix ix_list (pv 6) pe_int (fun _ _ => rfl)) pa_nil))))) (pw_or1 (pt_cmpR (op_neV hr.units) (pe_callTy (call_listD rfl) (by rfl) B.list PyProof.Rows.boot_list (pa_cons (pv 7) pa_nil)) (pe_callTy (call_listD rfl) (by rfl) B.list PyProof.Rows.boot_list (pa_cons (pe_ix ix_list (pv 6) pe_int (fun _ _ => rfl)) pa_nil)) rfl))))
            (pss_one (ps_ret pe_bl))
            pss_nil)
          (pss_cons (ps_if (pt_not (pt_val (pe_call CSv.ok (hr.mono (by decide)) (by rfl) CSv.at_ CSv.kp CSv.bd .nil pass0 (pa_cons (pv 8) (pa_cons (pe_ix ix_list (pv 6) pe_int (fun _ _ => rfl)) pa_nil)))))
            (pss_one (ps_ret pe_bl))
            pss_nil)
          (pss_one (ps_if (pt_val (pv 4))
            (pss_cons (ps_expr (pe_dclear (pv 7)))
              (pss_one (ps_expr (pe_dclear (pv 8)))))
            pss_nil)))))))))))
      (pss_one (ps_ret (pe_cmpR (op_eqT hr.units) (pe_ix ix_list (pv 5) pe_int (fun _ _ => rfl)) (pe_ix ix_list (pv 5) pe_int (fun _ _ => rfl)) rfl)))))))), ?_⟩
    refine ⟨_, rfl, a, cs, rfl, ha, fun H1 r pl d1 d2 ns bl L1 L2 s1 er epl n1 n30 b1 b2 bo1 bo2 => ?_⟩
    refine ⟨_, rfl, a, cs, 3, rfl, s1.seq ha, fun H2 p s2 np st2 => ?_⟩
    have er2 := s2 _ _ er
    have epl2 := s2 _ _ epl
    have ppl : p ≠ pl := fun z => by rw [← z, np] at epl; cases epl
    refine ⟨_, rfl, r, _, _, .ref pl, rfl, rfl, sl_map er2, atI_nat (j := 0) rfl, _, rfl, r, _, _, .bl bl, rfl, rfl, sl_map er2, atI_nat (j := 1) rfl, p, pl, ns, 3, bl, rfl, st2, epl2, ppl, n1, n30, by decide, by decide, fun H3 m1 Hs1 k3 nm1 st3 em1 nd1 few1 pos1 => ?_⟩
    have S3 : Same H1 H3 := same_keep s2 np k3
    refine ⟨_, rfl, a, cs, 4, rfl, S3.seq (s1.seq ha), fun H4 u s4 nu st4 => ?_⟩
    have er4 := s4 _ _ (S3 _ _ er)
    have epl4 := s4 _ _ (S3 _ _ epl)
    have upl : u ≠ pl := fun z => by have := S3 _ _ epl; rw [← z, nu] at this; cases this
    refine ⟨_, rfl, r, _, _, .ref pl, rfl, rfl, sl_map er4, atI_nat (j := 0) rfl, _, rfl, r, _, _, .bl bl, rfl, rfl, sl_map er4, atI_nat (j := 1) rfl, u, pl, ns, 3, bl, rfl, st4, epl4, upl, n1, n30, by decide, by decide, fun H5 m2 Hs2 k5 nm2 st5 em2 nd2 few2 pos2 => ?_⟩
    have S5' : Same H3 H5 := same_keep s4 nu k5
    have S5 : Same H1 H5 := S3.trans S5'
    refine ⟨_, rfl, a, cs, 5, rfl, S5.seq (s1.seq ha), fun H6 w s6 nw st6 => ?_⟩
    refine ⟨w, 4, rfl, st6, by decide, by decide, fun H7 g o7 st7 g0 g1 => ⟨rfl, ?_⟩⟩
    generalize decide (V.int g = V.int 0) = sp
    have S7' : Same H5 H7 := same_oth s6 nw o7
    have S7 : Same H1 H7 := S5.trans S7'
    refine ⟨by show 0 ≤ sizeLine; decide, fun kp nkp => ?_⟩
    have t8 := same_new (o := HO.lst []) nkp
    have S8 := S7.trans t8
    have er8 := S8 _ _ er
    have ekp8 : (upd H7 kp (.lst [])) kp = some (.lst []) := upd_same
    have em18 := t8 _ _ (S7' _ _ (S5' _ _ em1))
    have em28 := t8 _ _ (S7' _ _ em2)
    have kne : ∀ {q : Addr} {o : HO}, H7 q = some o → q ≠ kp := fun h z => by rw [z, nkp] at h; cases h
    have km1 := kne (S7' _ _ (S5' _ _ em1))
    have km2 := kne (S7' _ _ em2)
    have b17 := b1.same' S7
    have b27 := b2.same' S7
    have d1m1 : d1 ≠ m1 := fun z => by have := b1.same' s2; have h := this.un; rw [z, nm1] at h; cases h
    have d1m2 : d1 ≠ m2 := fun z => by have := b1.same' (S3.trans s4); have h := this.un; rw [z, nm2] at h; cases h
    have d2m2 : d2 ≠ m2 := fun z => by have := b2.same' (S3.trans s4); have h := this.un; rw [z, nm2] at h; cases h
    generalize upd H7 kp (.lst []) = H8 at S8 er8 ekp8 em18 em28 t8 ⊢
    have mk : ∀ {H : Hp}, Same H8 H → ∀ {t : Addr}, H t = none → t ≠ kp := fun {H} s {t} n z => by have := s _ _ ekp8; rw [← z, n] at this; cases this
    refine ⟨_, rfl, r, _, _, .ref d1, rfl, rfl, sl_map er8, atI_nat (j := 2) rfl, _, rfl, by show 2 ≤ sizeLine; decide, fun t0 nt0 => ?_⟩
    have u0 := same_new (o := HO.lst [V.ref d1, .ref m1]) nt0
    refine ⟨_, rfl, r, _, _, .ref d1, rfl, rfl, sl_map (u0 _ _ er8), atI_nat (j := 2) rfl, _, rfl, by show 2 ≤ sizeLine; decide, fun t1 nt1 => ?_⟩
    have u1 := u0.trans (same_new (o := HO.lst [V.ref d1, .ref m2]) nt1)
    refine ⟨_, rfl, r, _, _, .ref d2, rfl, rfl, sl_map (u1 _ _ er8), atI_nat (j := 3) rfl, _, rfl, by show 2 ≤ sizeLine; decide, fun t2 nt2 => ?_⟩
    have u2 := u1.trans (same_new (o := HO.lst [V.ref d2, .ref m2]) nt2)
    refine ⟨_, rfl, r, _, _, .ref d1, rfl, rfl, sl_map (u2 _ _ er8), atI_nat (j := 2) rfl, _, rfl, by show 2 ≤ sizeLine; decide, fun t3 nt3 => ?_⟩
    have u3 := u2.trans (same_new (o := HO.lst [V.ref d1, .ref m1]) nt3)
    refine ⟨by show 4 ≤ sizeLine; decide, fun O nO => ?_⟩
    have e0 := same_new (o := HO.lst [V.ref d1, .ref m2]) nt1 _ _ (upd_same (H := H8) (a := t0) (o := HO.lst [V.ref d1, .ref m1]))
    have v2 := same_new (o := HO.lst [V.ref d2, .ref m2]) nt2
    have v3 := same_new (o := HO.lst [V.ref d1, .ref m1]) nt3
    have vO := same_new (o := HO.lst [V.ref t0, .ref t1, .ref t2, .ref t3]) nO
    have U := u3.trans vO
    obtain ⟨tds, htds⟩ : ∃ tds : List Td, tds = [⟨t0, d1, L1, m1, Hs1⟩, ⟨t1, d1, L1, m2, Hs2⟩, ⟨t2, d2, L2, m2, Hs2⟩, ⟨t3, d1, L1, m1, Hs1⟩] := ⟨_, rfl⟩
    obtain ⟨HZ, hHZ⟩ : ∃ HZ, HZ = upd (upd (upd (upd (upd H8 t0 (.lst [V.ref d1, .ref m1])) t1 (.lst [V.ref d1, .ref m2])) t2 (.lst [V.ref d2, .ref m2])) t3 (.lst [V.ref d1, .ref m1])) O (.lst [V.ref t0, .ref t1, .ref t2, .ref t3]) := ⟨_, rfl⟩
    have tok : ∀ x ∈ tds, TdOk HZ kp ns x := fun x hx => by
      have base : ∀ {t d n : Addr} {L : List Ent} {Hs : List (Int × Int)}, HZ t = some (.lst [.ref d, .ref n]) → Bu H7 d L → H8 n = some (.dK (zK V.int Hs)) → BoxOk L ns → (Hs.map (·.1)).Nodup → Hs.length ≤ 100 → (∀ v k, zget Hs v = some k → 0 ≤ k) → d ≠ n → t ≠ kp → n ≠ kp → TdOk HZ kp ns ⟨t, d, L, n, Hs⟩ := fun {t d n L Hs} a1 a2 a3 a4 a5 a6 a7 a8 a9 a10 =>
        ⟨a1, by rw [hHZ]; exact (a2.same' t8).same' U, by rw [hHZ]; exact U _ _ a3, a4, a5, a6, a7, a8, a9, kne a2.un, a10, fun g hg => kne (a2.sides g hg)⟩
      rw [htds] at hx
      simp only [List.mem_cons, List.not_mem_nil, or_false] at hx
      rcases hx with rfl | rfl | rfl | rfl
      · exact base (by rw [hHZ]; exact vO _ _ (v3 _ _ (v2 _ _ e0))) b17 em18 bo1 nd1 few1 pos1 d1m1 (mk (Same.refl _) nt0) km1
      · exact base (by rw [hHZ]; exact vO _ _ (v3 _ _ (v2 _ _ upd_same))) b17 em28 bo1 nd2 few2 pos2 d1m2 (mk u0 nt1) km2
      · exact base (by rw [hHZ]; exact vO _ _ (v3 _ _ upd_same)) b27 em28 bo2 nd2 few2 pos2 d2m2 (mk u1 nt2) km2
      · exact base (by rw [hHZ]; exact vO _ _ upd_same) b17 em18 bo1 nd1 few1 pos1 d1m1 (mk u2 nt3) km1
    have ekpZ : HZ kp = some (.lst []) := by rw [hHZ]; exact U _ _ ekp8
    have eOZ : HZ O = some (.lst (tds.map fun x => V.ref x.t)) := by rw [hHZ, htds]; exact upd_same
    have Okp : O ≠ kp := mk u3 nO
    have n1000 : ns.length ≤ 1000 := by omega
    rw [← hHZ]
    clear hHZ U vO v3 v2 e0 u3 u2 u1 u0 nO nt3 nt2 nt1 nt0 mk em18 em28 b17 b27 km1 km2 t8 kne er8 ekp8 S8
    refine ⟨O, rfl, ⟨_, sl_map eOZ⟩, for_list (xs := tds.map fun x => V.ref x.t) (fun i σ H' => ∃ (y6 y7 y8 y9 : Option V) (ks : List Addr), σ = [some (.ref a), some (.ref r), some (.ref m1), some (.ref m2), some (.bl sp), some (.ref kp), y6, y7, y8, y9] ∧ Keep kp HZ H' ∧ H' kp = some (.lst (ks.map V.ref)) ∧ ks.length = i ∧ ∀ j k, ks[j]? = some k → k ≠ kp ∧ ∃ (x : Td) (r' : Addr) (o : Out), tds[j]? = some x ∧ r' ≠ kp ∧ Tel H' k r' o ∧ Sup (sd x.L) (x.L.map (·.1)) x.Hs [] o ∧ Gd x.L x.Hs o)
      ⟨none, none, none, none, [], rfl, Keep.refl _ _, ekpZ, rfl, fun (j : Nat) (k : Addr) (h : ([] : List Addr)[j]? = some k) => by cases h⟩ (fun i σ H' _ h => by obtain ⟨_, _, _, _, _, _, k, _⟩ := h; exact sl_map (k _ _ Okp eOZ)) ?_ ?_⟩
    · rintro i x0 σ H1 hx0 ⟨y6, y7, y8, y9, ks, rfl, kz, ekp, lk, kept⟩
      rw [List.getElem?_map] at hx0
      obtain ⟨x, hx, rfl⟩ := Option.map_eq_some_iff.mp hx0
      have tx := (tok x (List.mem_of_getElem? hx)).keep kz
      have i4 : i < 4 := by have := (List.getElem?_eq_some_iff.mp hx).1; rw [htds] at this; exact this
      have off : ∀ {q : Addr}, H1 q = none → q ≠ kp := fun n z => by rw [z, ekp] at n; cases n
      refine ⟨_, rfl, x.t, _, _, .ref x.d, rfl, rfl, sl_map tx.et, atI_nat (j := 0) rfl, x.d, x.L, rfl, tx.bd, fun H2 c N s2 nb sh => ?_⟩
      have bc2 := nb.toBu
      have bN : BoxOk N ns := fun g hg => by
        have h : (g.1, g.2.2) ∈ shape N := List.mem_map.mpr ⟨g, hg, rfl⟩
        rw [sh] at h
        obtain ⟨e, he, q⟩ := List.mem_map.mp h
        have := tx.ok e he
        rw [(Prod.mk.inj q).2] at this
        exact this
      refine ⟨_, rfl, x.t, _, _, .ref x.n, rfl, rfl, sl_map (s2 _ _ tx.et), atI_nat (j := 1) rfl, x.n, _, rfl, .inl (s2 _ _ tx.en), fun e ne => ?_⟩
      have s3 := same_new (o := HO.dK (zK V.int x.Hs)) ne
      have ce : c ≠ e := fun z => by have := bc2.un; rw [z, ne] at this; cases this
      have S3 := s2.trans s3
      have bc3 := bc2.same' s3
      have ee3 : (upd H2 e (.dK (zK V.int x.Hs))) e = some (.dK (zK V.int x.Hs)) := upd_same
      have neH := s2.free ne
      have ncH := nb.fresh
      have nsH := nb.freshS
      have xne : x.n ≠ e := fun z => by have := s2 _ _ tx.en; rw [z, ne] at this; cases this
      generalize upd H2 e (.dK (zK V.int x.Hs)) = H3 at S3 bc3 ee3 ⊢
      clear s3 s2 ne bc2
      have wN := wd_of tx.bd.nd sh tx.ok n1000 tx.pos
      have wL := wd_of (N := x.L) tx.bd.nd rfl tx.ok n1000 tx.pos
      have kN : N.map (·.1) = x.L.map (·.1) := shape_keys sh
      refine' with_restA (α := Addr) (fun T H4 => ∃ (r : Addr) (o : Out), Same H3 H4 ∧ H3 T = none ∧ H3 r = none ∧ Tel H4 T r o ∧ Sup (sd x.L) (x.L.map (·.1)) x.Hs [] o ∧ Gd x.L x.Hs o) ?flow
        (fun rest => ⟨_, rfl, _, rfl, c, e, N, x.Hs, sd x.L, ns, rfl, bc3, ee3, tx.nd, ce, wN, fun H4 T r cw s4 nT eT nr er g cr => rest T H4 ⟨r, .inr cw, s4, nT, nr, ⟨eT, er⟩, by rw [← kN]; exact g, by rw [kN] at cr; exact cr⟩, fun H4 T r M s4 nT eT nr er g fo al => rest T H4 ⟨r, .inl M, s4, nT, nr, ⟨eT, er⟩, by rw [← kN]; exact g, by rw [kN] at fo; exact ⟨fo, al⟩⟩⟩)
      rintro T H4 ⟨r', o, s4, nT, nr, tel, gr, good⟩
      have S4 := S3.trans s4
      have rd : r' ≠ x.d := fun z => by have := (tx.bd.same' S3).un; rw [← z, nr] at this; cases this
      have rn : r' ≠ x.n := fun z => by have := S3 _ _ tx.en; rw [← z, nr] at this; cases this
      have told : Told H4 T x.d x.n x.L (sd x.L) x.Hs := by
        cases o with
        | inl M => exact .fit r' M tel.1 tel.2 good.1 good.2 rd rn
        | inr cw => exact .want r' cw tel.1 tel.2 good
      refine ⟨_, rfl, _, rfl, x.t, _, _, .ref x.d, rfl, rfl, sl_map (S4 _ _ tx.et), atI_nat (j := 0) rfl, _, rfl, x.t, _, _, .ref x.n, rfl, rfl, sl_map (S4 _ _ tx.et), atI_nat (j := 1) rfl, T, x.d, x.n, x.L, x.Hs, sd x.L, ns, rfl, told, tx.bd.same' S4, S4 _ _ tx.en, tx.dn, tx.nd, by have := tx.few; omega, wL, fun H5 s5 => ⟨true, rfl, iteF ?_⟩⟩
      have S5 := S4.trans s5
      have tel5 := tel.same s5
      have s35 := s4.trans s5
      refine ⟨_, rfl, .inl ⟨rfl, _, sl_map (S5 _ _ ekp)⟩, _, rfl, T, r', o, rfl, tel5, fun H6 T' r2 s6 nT' nr2 tel6 => ?_⟩
      have S6 := S5.trans s6
      have ekp6 := S6 _ _ ekp
      have nTH := S3.free nT
      have nrH := S3.free nr
      have nT'H := S5.free nT'
      have nr2H := S5.free nr2
      refine ⟨kp, _, _, rfl, rfl, ekp6, by rw [List.length_map]; exact small1000 (by omega), ?_⟩
      have offc : c ≠ kp := off ncH
      have offs : ∀ g ∈ N, g.2.1 ≠ kp := fun g hg => off (nsH g hg)
      have offe : e ≠ kp := off neH
      have offr : r' ≠ kp := off nrH
      have offT : T ≠ kp := off nTH
      have K7 : Keep kp H6 (upd H6 kp (.lst (ks.map V.ref ++ [V.ref T']))) := fun b o hb h => by rw [upd_ne hb]; exact h
      have ekp7 : (upd H6 kp (.lst (ks.map V.ref ++ [V.ref T']))) kp = some (.lst ((ks ++ [T']).map V.ref)) := by rw [upd_same, List.map_append] <;> rfl
      have s36 := s35.trans s6
      have bc7 := (bc3.same' s36).kept K7 offc offs
      have ee7 := K7 _ _ offe (s36 _ _ ee3)
      have tx7 := (tx.keep (Keep.same S6)).keep K7
      have tel7 := (tel5.same s6)
      have T7 : Tel (upd H6 kp (.lst (ks.map V.ref ++ [V.ref T']))) T r' o := by
        cases o with
        | inl M => exact ⟨K7 _ _ offT tel7.1, K7 _ _ offr tel7.2⟩
        | inr cw => exact ⟨K7 _ _ offT tel7.1, K7 _ _ offr tel7.2⟩
      have X7 : Keep kp H1 (upd H6 kp (.lst (ks.map V.ref ++ [V.ref T']))) := (Keep.same S6).trans K7
      have k27 : Tel (upd H6 kp (.lst (ks.map V.ref ++ [V.ref T']))) T' r2 o := by
        cases o with
        | inl M => exact ⟨K7 _ _ (off nT'H) tel6.1, K7 _ _ (off nr2H) tel6.2⟩
        | inr cw => exact ⟨K7 _ _ (off nT'H) tel6.1, K7 _ _ (off nr2H) tel6.2⟩
      have T'ne : T' ≠ r' ∧ T' ≠ c ∧ T' ≠ e := ⟨(fun z => tel5.some.2 (z ▸ nT')), (fun z => by have := (bc3.same' s35).un; rw [← z, nT'] at this; cases this), fun z => by have := s35 _ _ ee3; rw [← z, nT'] at this; cases this⟩
      have r2ne : r2 ≠ r' ∧ r2 ≠ c ∧ r2 ≠ e := ⟨(fun z => tel5.some.2 (z ▸ nr2)), (fun z => by have := (bc3.same' s35).un; rw [← z, nr2] at this; cases this), fun z => by have := s35 _ _ ee3; rw [← z, nr2] at this; cases this⟩
      have rc : r' ≠ c := fun z => by have := bc3.un; rw [← z, nr] at this; cases this
      have re : r' ≠ e := fun z => by rw [← z, nr] at ee3; cases ee3
      have rs : ∀ g ∈ N, g.2.1 ≠ r' := fun g hg z => by have := bc3.sides g hg; rw [z, nr] at this; cases this
      have rt : x.t ≠ r' := fun z => by have := S3 _ _ tx.et; rw [z, nr] at this; cases this
      have rsL : ∀ g ∈ x.L, g.2.1 ≠ r' := fun g hg z => by have := (tx.bd.same' S3).sides g hg; rw [z, nr] at this; cases this
      generalize upd H6 kp (.lst (ks.map V.ref ++ [V.ref T'])) = H7 at bc7 ee7 tx7 T7 X7 k27 ekp7 ⊢
      clear K7
      have fin : ∀ {Hf : Hp}, KeepL [r', c, e] H7 Hf → Keep kp HZ Hf ∧ Hf kp = some (.lst ((ks ++ [T']).map V.ref)) ∧ (ks ++ [T']).length = i + 1 ∧ ∀ j k, (ks ++ [T'])[j]? = some k → k ≠ kp ∧ ∃ (x : Td) (r' : Addr) (o : Out), tds[j]? = some x ∧ r' ≠ kp ∧ Tel Hf k r' o ∧ Sup (sd x.L) (x.L.map (·.1)) x.Hs [] o ∧ Gd x.L x.Hs o := fun {Hf} K => by
        have notin : ∀ {b : Addr}, H1 b ≠ none → b ∉ [r', c, e] := fun {b} h z => by
          simp only [List.mem_cons, List.not_mem_nil, or_false] at z
          rcases z with z | z | z
          · exact h (z ▸ nrH)
          · exact h (z ▸ ncH)
          · exact h (z ▸ neH)
        refine ⟨fun b u hb h => ?_, K _ _ (notin (by rw [ekp]; exact fun z => nomatch z)) ekp7, by rw [List.length_append, lk] <;> rfl, fun j k hk => ?_⟩
        · have h1 := kz b u hb h
          exact K _ _ (notin (by rw [h1]; exact fun z => nomatch z)) (X7 b u hb h1)
        · rcases Nat.lt_or_ge j ks.length with l | l
          · rw [List.getElem?_append_left l] at hk
            obtain ⟨h1, x', r3, o', h2, h3, h4, h5, h6⟩ := kept j k hk
            have t7 : Tel H7 k r3 o' := h4.keepL (as := [kp]) (fun b u hb h => X7 b u (by simpa using hb) h) (by simpa using h1) (by simpa using h3)
            exact ⟨h1, x', r3, o', h2, h3, t7.keepL K (notin h4.some.1) (notin h4.some.2), h5, h6⟩
          · rw [List.getElem?_append_right l] at hk
            have hl := (List.getElem?_eq_some_iff.mp hk).1
            rw [List.length_singleton] at hl
            have e1 : k = T' := by
              rw [show j - ks.length = 0 by omega] at hk
              exact (Option.some.inj hk).symm
            subst e1
            have ji : j = i := by omega
            refine ⟨off nT'H, x, r2, o, by rw [ji]; exact hx, off nr2H, k27.keepL K ?_ ?_, gr, good⟩
            · simp only [List.mem_cons, List.not_mem_nil, or_false, not_or]; exact T'ne
            · simp only [List.mem_cons, List.not_mem_nil, or_false, not_or]; exact r2ne
      refine' with_restS (fun σ H' => σ = [some (.ref a), some (.ref r), some (.ref m1), some (.ref m2), some (.bl sp), some (.ref kp), some (.ref x.t), some (.ref c), some (.ref e), some (.ref T)] ∧ Keep r' H7 H') ?after
        (fun rest => ⟨_, rfl, sp, rfl, ite_both (fun _ => ?clr) (fun _ => rest _ _ ⟨rfl, Keep.refl _ _⟩)⟩)
      case clr =>
        cases o with
        | inl M =>
          refine .inl ⟨_, rfl, T, _, _, .ref r', rfl, rfl, .inl (.inl T7.1), atI_nat (j := 1) rfl, .inr (.inr (.inl ⟨rfl, .inl ⟨_, T7.2⟩⟩)), r', _, rfl, rfl, T7.2, ?_⟩
          exact rest _ _ ⟨rfl, fun b o hb h => by rw [upd_ne hb]; exact h⟩
        | inr cw =>
          refine .inr ⟨_, rfl, T, _, _, .ref r', rfl, rfl, .inl (.inl T7.1), atI_nat (j := 1) rfl, .inl ⟨rfl, _, sl_map T7.2⟩, r', _, rfl, rfl, T7.2, ?_⟩
          exact rest _ _ ⟨rfl, fun b o hb h => by rw [upd_ne hb]; exact h⟩
      rintro σ H8 ⟨rfl, K8⟩
      have bc8 := bc7.kept K8 rc.symm rs
      have ee8 := K8 _ _ re.symm ee7
      have bd8 := tx7.bd.kept K8 rd.symm rsL
      have en8 := K8 _ _ rn.symm tx7.en
      have et8 := K8 _ _ rt tx7.et
      have okN : ∀ g ∈ N, Srt g.2.2 ∧ g.2.2.length ≤ 1000 := fun g hg => ⟨(bN g hg).1, (bN g hg).2.1⟩
      refine ⟨_, rfl, _, rfl, x.t, _, _, .ref x.d, rfl, rfl, sl_map et8, atI_nat (j := 0) rfl, c, x.d, N, x.L, rfl, bc8, bd8, shape_same sh, okN, fun H9 s9 => ⟨true, rfl, iteF ?_⟩⟩
      have bc9 := bc8.same' s9
      have et9 := s9 _ _ et8
      refine ⟨_, rfl, c, _, rfl, .inl bc9.un, fun p1 np1 => ?_⟩
      have w1 := same_new (o := HO.lst ((entK N).map fun kv => kV kv.1)) np1
      refine ⟨_, rfl, x.t, _, _, .ref x.d, rfl, rfl, sl_map (w1 _ _ et9), atI_nat (j := 0) rfl, x.d, _, rfl, .inl ((bd8.same' (s9.trans w1)).un), fun p2 np2 => ?_⟩
      have w2 := same_new (o := HO.lst ((entK x.L).map fun kv => kV kv.1)) np2
      have e1 := (w2 _ _ (upd_same (H := H9) (a := p1) (o := HO.lst ((entK N).map fun kv => kV kv.1)))).trans (congrArg (fun l => some (HO.lst l)) ((keys_map N).trans (congrArg (List.map V.str) kN)))
      have e2 := upd_same (H := upd H9 p1 (.lst ((entK N).map fun kv => kV kv.1))) (a := p2) (o := HO.lst ((entK x.L).map fun kv => kV kv.1)) |>.trans (congrArg (fun l => some (HO.lst l)) (keys_map x.L))
      have S10 := s9.trans (w1.trans w2)
      refine ⟨p1, p2, _, _, rfl, rfl, sl_map e1, sl_map e2, ⟨1, by decide, paired_flat _ (flatS _)⟩, false, rfl, iteF ?_⟩
      have ee10 := S10 _ _ ee8
      have en10 := S10 _ _ en8
      have et10 := S10 _ _ et8
      have bc10 := bc8.same' S10
      have exn : e ≠ x.n := xne.symm
      have few := tx.few
      refine ⟨_, rfl, _, rfl, x.t, _, _, .ref x.n, rfl, rfl, sl_map et10, atI_nat (j := 1) rfl, e, x.n, x.Hs, rfl, ee10, en10, tx.nd, by omega, exn, fun H11 s11 => ⟨true, rfl, iteF ?_⟩⟩
      have K11 : KeepL [r', c, e] H7 H11 := KeepL.same (H1 := H8) (fun b u hb h => K8 b u (fun z => hb (by rw [z]; exact List.mem_cons_self)) h) (S10.trans s11)
      have ec11 := (bc10.same' s11).un
      have ee11 := s11 _ _ ee10
      refine ⟨_, rfl, sp, rfl, ite_both (fun _ => ?_) fun _ => ⟨_, _, _, _, ks ++ [T'], rfl, fin K11⟩⟩
      refine ⟨_, rfl, .inr (.inr (.inl ⟨rfl, .inl ⟨_, ec11⟩⟩)), c, _, rfl, rfl, ec11, ?_⟩
      have ee12 : (upd H11 c (.dK [])) e = some (.dK (zK V.int x.Hs)) := by rw [upd_ne ce.symm]; exact ee11
      refine ⟨_, rfl, .inr (.inr (.inl ⟨rfl, .inl ⟨_, ee12⟩⟩)), e, _, rfl, rfl, ee12, _, _, _, _, ks ++ [T'], rfl, fin fun b u hb h => ?_⟩
      have hb2 : b ≠ c ∧ b ≠ e := ⟨(fun z => hb (by rw [z]; simp)), fun z => hb (by rw [z]; simp)⟩
      rw [upd_ne hb2.2, upd_ne hb2.1]
      exact K11 b u hb h
    · rintro σ H1 ⟨y6, y7, y8, y9, ks, rfl, kz, ekp, lk, kept⟩
      rw [List.length_map, show tds.length = 4 by rw [htds] <;> rfl] at lk
      obtain ⟨k0, h0⟩ : ∃ k, ks[0]? = some k := ⟨_, List.getElem?_eq_getElem (by omega)⟩
      obtain ⟨k3', h3⟩ : ∃ k, ks[3]? = some k := ⟨_, List.getElem?_eq_getElem (by omega)⟩
      obtain ⟨_, x0, r0, o0, g0', _, tel0, gr0, good0⟩ := kept 0 k0 h0
      obtain ⟨_, x3, r3, o3, g3', _, tel3, gr3, _⟩ := kept 3 k3' h3
      rw [htds] at g0' g3'
      obtain rfl := Option.some.inj g0'
      obtain rfl := Option.some.inj g3'
      have oo := gr0.one gr3
      subst oo
      have m0 : (ks.map V.ref)[0]? = some (.ref k0) := by rw [List.getElem?_map, h0] <;> rfl
      have m3 : (ks.map V.ref)[3]? = some (.ref k3') := by rw [List.getElem?_map, h3] <;> rfl
      refine ⟨_, rfl, kp, _, _, .ref k3', rfl, rfl, sl_map ekp, atI_nat (j := 3) m3, _, rfl, kp, _, _, .ref k0, rfl, rfl, sl_map ekp, atI_nat (j := 0) m0, ?_⟩
      cases o0 with
      | inr cw =>
        refine ⟨k3', k0, _, _, rfl, rfl, .inl (.inl tel3.1), .inl (.inl tel0.1), .cons (.inl ⟨rfl, rfl⟩) (.cons (.inr (.inr (.inl ⟨r3, r0, _, _, rfl, rfl, sl_map tel3.2, sl_map tel0.2, paired_flat _ (flatI cw)⟩))) .nil), q _⟩
      | inl M =>
        refine ⟨k3', k0, _, _, rfl, rfl, .inl (.inl tel3.1), .inl (.inl tel0.1), .cons (.inl ⟨rfl, rfl⟩) (.cons (.inr (.inr (.inr ⟨r3, r0, _, _, rfl, rfl, tel3.2, tel0.2, rfl, fun p hp => ?_⟩))) .nil), q _⟩
        unfold intK at hp
        obtain ⟨e, he, rfl⟩ := List.mem_map.mp hp
        refine ⟨.int e.2, ?_, .inl ⟨rfl, rfl⟩⟩
        show valV (intK M) (Sum.inr e.1) = _
        rw [valV_int, (aget_iff good0.1.nd e.1 e.2).mpr he] <;> rfl
end
end K19

set_option Elab.async false
set_option linter.all false
set_option maxRecDepth 100000
set_option maxHeartbeats 4000000
namespace K19
open PySem PySem.Spec PyProof.Rows L2 Cs CsX
/-! ### what the top has written -/
theorem all_mk {l : PySem.W.OpenLaw} {w : World} {K : PySem.W.Frag} {h : Heap} {mg : Str → Option Value} {fa f1 f2 f3 f4 f5 f6 f7 f8 f9 f10 f11 f12 f13 f14 f15 f16 f17 f18 f19 f20 f21 f22 f23 f24 f25 f26 : Addr} (X : K.In h) (G : h.Ns mainGlobals mg) (hfa : mg "law" = some (.ref fa))
    {od1 an1 od2 an2 od3 an3 od4 an4 od5 an5 od6 an6 od7 an7 od8 an8 od9 an9 od10 an10 od11 an11 od12 an12 od13 an13 od14 an14 od15 an15 od16 an16 od17 an17 od18 an18 od19 an19 od20 an20 od21 an21 od22 an22 od23 an23 od24 an24 od25 an25 od26 an26 : Option Addr} {sl1 sl2 sl3 sl4 sl5 sl6 sl7 sl8 sl9 sl10 sl11 sl12 sl13 sl14 sl15 sl16 sl17 sl18 sl19 sl20 sl21 sl22 sl23 sl24 sl25 sl26 : Array (Option Value)}
    {oc1 kV1 dc1 pm1 cd1 ct1 oc2 kV2 dc2 pm2 cd2 ct2 oc3 kV3 dc3 pm3 cd3 ct3 oc4 kV4 dc4 pm4 cd4 ct4 oc5 kV5 dc5 pm5 cd5 ct5 oc6 kV6 dc6 pm6 cd6 ct6 oc7 kV7 dc7 pm7 cd7 ct7 oc8 kV8 dc8 pm8 cd8 ct8 oc9 kV9 dc9 pm9 cd9 ct9 oc10 kV10 dc10 pm10 cd10 ct10 oc11 kV11 dc11 pm11 cd11 ct11 oc12 kV12 dc12 pm12 cd12 ct12 oc13 kV13 dc13 pm13 cd13 ct13 oc14 kV14 dc14 pm14 cd14 ct14 oc15 kV15 dc15 pm15 cd15 ct15 oc16 kV16 dc16 pm16 cd16 ct16 oc17 kV17 dc17 pm17 cd17 ct17 oc18 kV18 dc18 pm18 cd18 ct18 oc19 kV19 dc19 pm19 cd19 ct19 oc20 kV20 dc20 pm20 cd20 ct20 oc21 kV21 dc21 pm21 cd21 ct21 oc22 kV22 dc22 pm22 cd22 ct22 oc23 kV23 dc23 pm23 cd23 ct23 oc24 kV24 dc24 pm24 cd24 ct24 oc25 kV25 dc25 pm25 cd25 ct25 oc26 kV26 dc26 pm26 cd26 ct26 : Value}
    (a1 : PySem.W.nsIn K mainGlobals "_law_is_integer" = some (some (.ref f1))) (l1 : K.lookup f1 = some ⟨oc1, od1, .func (PySem.W.fnOf "_law_is_integer" "_law_is_integer" (defArgs sIsInt) (defBody sIsInt) (defScope sIsInt) .none kV1 dc1 pm1 an1 cd1 ct1), sl1⟩) (c1 : PySem.W.codeIn K cd1 "_law_is_integer" = true) (k1 : PySem.W.keepIn K (.ref f1) = true)
    (a2 : PySem.W.nsIn K mainGlobals "_law_stream" = some (some (.ref f2))) (l2 : K.lookup f2 = some ⟨oc2, od2, .func (PySem.W.fnOf "_law_stream" "_law_stream" (defArgs sStream) (defBody sStream) (defScope sStream) .none kV2 dc2 pm2 an2 cd2 ct2), sl2⟩) (c2 : PySem.W.codeIn K cd2 "_law_stream" = true) (k2 : PySem.W.keepIn K (.ref f2) = true)
    (a3 : PySem.W.nsIn K mainGlobals "_law_next" = some (some (.ref f3))) (l3 : K.lookup f3 = some ⟨oc3, od3, .func (PySem.W.fnOf "_law_next" "_law_next" (defArgs sDraw) (defBody sDraw) (defScope sDraw) .none kV3 dc3 pm3 an3 cd3 ct3), sl3⟩) (c3 : PySem.W.codeIn K cd3 "_law_next" = true) (k3 : PySem.W.keepIn K (.ref f3) = true)
    (a4 : PySem.W.nsIn K mainGlobals "_law_names" = some (some (.ref f4))) (l4 : K.lookup f4 = some ⟨oc4, od4, .func (PySem.W.fnOf "_law_names" "_law_names" (defArgs sNames) (defBody sNames) (defScope sNames) .none kV4 dc4 pm4 an4 cd4 ct4), sl4⟩) (c4 : PySem.W.codeIn K cd4 "_law_names" = true) (k4 : PySem.W.keepIn K (.ref f4) = true)
    (a5 : PySem.W.nsIn K mainGlobals "_law_pool" = some (some (.ref f5))) (l5 : K.lookup f5 = some ⟨oc5, od5, .func (PySem.W.fnOf "_law_pool" "_law_pool" (defArgs sPool) (defBody sPool) (defScope sPool) .none kV5 dc5 pm5 an5 cd5 ct5), sl5⟩) (c5 : PySem.W.codeIn K cd5 "_law_pool" = true) (k5 : PySem.W.keepIn K (.ref f5) = true)
    (a6 : PySem.W.nsIn K mainGlobals "_law_domains" = some (some (.ref f6))) (l6 : K.lookup f6 = some ⟨oc6, od6, .func (PySem.W.fnOf "_law_domains" "_law_domains" (defArgs sDoms) (defBody sDoms) (defScope sDoms) .none kV6 dc6 pm6 an6 cd6 ct6), sl6⟩) (c6 : PySem.W.codeIn K cd6 "_law_domains" = true) (k6 : PySem.W.keepIn K (.ref f6) = true)
    (a7 : PySem.W.nsIn K mainGlobals "_law_copied" = some (some (.ref f7))) (l7 : K.lookup f7 = some ⟨oc7, od7, .func (PySem.W.fnOf "_law_copied" "_law_copied" (defArgs sCopied) (defBody sCopied) (defScope sCopied) .none kV7 dc7 pm7 an7 cd7 ct7), sl7⟩) (c7 : PySem.W.codeIn K cd7 "_law_copied" = true) (k7 : PySem.W.keepIn K (.ref f7) = true)
    (a8 : PySem.W.nsIn K mainGlobals "_law_is_side" = some (some (.ref f8))) (l8 : K.lookup f8 = some ⟨oc8, od8, .func (PySem.W.fnOf "_law_is_side" "_law_is_side" (defArgs sIsSide) (defBody sIsSide) (defScope sIsSide) .none kV8 dc8 pm8 an8 cd8 ct8), sl8⟩) (c8 : PySem.W.codeIn K cd8 "_law_is_side" = true) (k8 : PySem.W.keepIn K (.ref f8) = true)
    (a9 : PySem.W.nsIn K mainGlobals "_law_same_sides" = some (some (.ref f9))) (l9 : K.lookup f9 = some ⟨oc9, od9, .func (PySem.W.fnOf "_law_same_sides" "_law_same_sides" (defArgs sSame) (defBody sSame) (defScope sSame) .none kV9 dc9 pm9 an9 cd9 ct9), sl9⟩) (c9 : PySem.W.codeIn K cd9 "_law_same_sides" = true) (k9 : PySem.W.keepIn K (.ref f9) = true)
    (a10 : PySem.W.nsIn K mainGlobals "_takers" = some (some (.ref f10))) (l10 : K.lookup f10 = some ⟨oc10, od10, .func (PySem.W.fnOf "_takers" "_takers" (defArgs sTk) (defBody sTk) (defScope sTk) .none kV10 dc10 pm10 an10 cd10 ct10), sl10⟩) (c10 : PySem.W.codeIn K cd10 "_takers" = true) (k10 : PySem.W.keepIn K (.ref f10) = true)
    (a11 : PySem.W.nsIn K mainGlobals "_called_up" = some (some (.ref f11))) (l11 : K.lookup f11 = some ⟨oc11, od11, .func (PySem.W.fnOf "_called_up" "_called_up" (defArgs sMu) (defBody sMu) (defScope sMu) .none kV11 dc11 pm11 an11 cd11 ct11), sl11⟩) (c11 : PySem.W.codeIn K cd11 "_called_up" = true) (k11 : PySem.W.keepIn K (.ref f11) = true)
    (a12 : PySem.W.nsIn K mainGlobals "_with_taker" = some (some (.ref f12))) (l12 : K.lookup f12 = some ⟨oc12, od12, .func (PySem.W.fnOf "_with_taker" "_with_taker" (defArgs sWn) (defBody sWn) (defScope sWn) .none kV12 dc12 pm12 an12 cd12 ct12), sl12⟩) (c12 : PySem.W.codeIn K cd12 "_with_taker" = true) (k12 : PySem.W.keepIn K (.ref f12) = true)
    (a13 : PySem.W.nsIn K mainGlobals "_supplied" = some (some (.ref f13))) (l13 : K.lookup f13 = some ⟨oc13, od13, .func (PySem.W.fnOf "_supplied" "_supplied" (defArgs sGr) (defBody sGr) (defScope sGr) .none kV13 dc13 pm13 an13 cd13 ct13), sl13⟩) (c13 : PySem.W.codeIn K cd13 "_supplied" = true) (k13 : PySem.W.keepIn K (.ref f13) = true)
    (a14 : PySem.W.nsIn K mainGlobals "wanted_fit" = some (some (.ref f14))) (l14 : K.lookup f14 = some ⟨oc14, od14, .func (PySem.W.fnOf "wanted_fit" "wanted_fit" (defArgs sFf) (defBody sFf) (defScope sFf) .none kV14 dc14 pm14 an14 cd14 ct14), sl14⟩) (c14 : PySem.W.codeIn K cd14 "wanted_fit" = true) (k14 : PySem.W.keepIn K (.ref f14) = true)
    (a15 : PySem.W.nsIn K mainGlobals "_law_same_values" = some (some (.ref f15))) (l15 : K.lookup f15 = some ⟨oc15, od15, .func (PySem.W.fnOf "_law_same_values" "_law_same_values" (defArgs sSv) (defBody sSv) (defScope sSv) .none kV15 dc15 pm15 an15 cd15 ct15), sl15⟩) (c15 : PySem.W.codeIn K cd15 "_law_same_values" = true) (k15 : PySem.W.keepIn K (.ref f15) = true)
    (a16 : PySem.W.nsIn K mainGlobals "_law_is_fit" = some (some (.ref f16))) (l16 : K.lookup f16 = some ⟨oc16, od16, .func (PySem.W.fnOf "_law_is_fit" "_law_is_fit" (defArgs sIf) (defBody sIf) (defScope sIf) .none kV16 dc16 pm16 an16 cd16 ct16), sl16⟩) (c16 : PySem.W.codeIn K cd16 "_law_is_fit" = true) (k16 : PySem.W.keepIn K (.ref f16) = true)
    (a17 : PySem.W.nsIn K mainGlobals "_law_is_want" = some (some (.ref f17))) (l17 : K.lookup f17 = some ⟨oc17, od17, .func (PySem.W.fnOf "_law_is_want" "_law_is_want" (defArgs sIc) (defBody sIc) (defScope sIc) .none kV17 dc17 pm17 an17 cd17 ct17), sl17⟩) (c17 : PySem.W.codeIn K cd17 "_law_is_want" = true) (k17 : PySem.W.keepIn K (.ref f17) = true)
    (a18 : PySem.W.nsIn K mainGlobals "_law_answer_holds" = some (some (.ref f18))) (l18 : K.lookup f18 = some ⟨oc18, od18, .func (PySem.W.fnOf "_law_answer_holds" "_law_answer_holds" (defArgs sAh) (defBody sAh) (defScope sAh) .none kV18 dc18 pm18 an18 cd18 ct18), sl18⟩) (c18 : PySem.W.codeIn K cd18 "_law_answer_holds" = true) (k18 : PySem.W.keepIn K (.ref f18) = true)
    (a19 : PySem.W.nsIn K mainGlobals "_law_kept" = some (some (.ref f19))) (l19 : K.lookup f19 = some ⟨oc19, od19, .func (PySem.W.fnOf "_law_kept" "_law_kept" (defArgs sKp) (defBody sKp) (defScope sKp) .none kV19 dc19 pm19 an19 cd19 ct19), sl19⟩) (c19 : PySem.W.codeIn K cd19 "_law_kept" = true) (k19 : PySem.W.keepIn K (.ref f19) = true)
    (a20 : PySem.W.nsIn K mainGlobals "_law_shuffled" = some (some (.ref f20))) (l20 : K.lookup f20 = some ⟨oc20, od20, .func (PySem.W.fnOf "_law_shuffled" "_law_shuffled" (defArgs sSf) (defBody sSf) (defScope sSf) .none kV20 dc20 pm20 an20 cd20 ct20), sl20⟩) (c20 : PySem.W.codeIn K cd20 "_law_shuffled" = true) (k20 : PySem.W.keepIn K (.ref f20) = true)
    (a21 : PySem.W.nsIn K mainGlobals "_law_many_names" = some (some (.ref f21))) (l21 : K.lookup f21 = some ⟨oc21, od21, .func (PySem.W.fnOf "_law_many_names" "_law_many_names" (defArgs sMn) (defBody sMn) (defScope sMn) .none kV21 dc21 pm21 an21 cd21 ct21), sl21⟩) (c21 : PySem.W.codeIn K cd21 "_law_many_names" = true) (k21 : PySem.W.keepIn K (.ref f21) = true)
    (a22 : PySem.W.nsIn K mainGlobals "_law_sides" = some (some (.ref f22))) (l22 : K.lookup f22 = some ⟨oc22, od22, .func (PySem.W.fnOf "_law_sides" "_law_sides" (defArgs sSd) (defBody sSd) (defScope sSd) .none kV22 dc22 pm22 an22 cd22 ct22), sl22⟩) (c22 : PySem.W.codeIn K cd22 "_law_sides" = true) (k22 : PySem.W.keepIn K (.ref f22) = true)
    (a23 : PySem.W.nsIn K mainGlobals "_law_chain" = some (some (.ref f23))) (l23 : K.lookup f23 = some ⟨oc23, od23, .func (PySem.W.fnOf "_law_chain" "_law_chain" (defArgs sCh) (defBody sCh) (defScope sCh) .none kV23 dc23 pm23 an23 cd23 ct23), sl23⟩) (c23 : PySem.W.codeIn K cd23 "_law_chain" = true) (k23 : PySem.W.keepIn K (.ref f23) = true)
    (a24 : PySem.W.nsIn K mainGlobals "_law_numbers" = some (some (.ref f24))) (l24 : K.lookup f24 = some ⟨oc24, od24, .func (PySem.W.fnOf "_law_numbers" "_law_numbers" (defArgs sNu) (defBody sNu) (defScope sNu) .none kV24 dc24 pm24 an24 cd24 ct24), sl24⟩) (c24 : PySem.W.codeIn K cd24 "_law_numbers" = true) (k24 : PySem.W.keepIn K (.ref f24) = true)
    (a25 : PySem.W.nsIn K mainGlobals "_law_world" = some (some (.ref f25))) (l25 : K.lookup f25 = some ⟨oc25, od25, .func (PySem.W.fnOf "_law_world" "_law_world" (defArgs sWo) (defBody sWo) (defScope sWo) .none kV25 dc25 pm25 an25 cd25 ct25), sl25⟩) (c25 : PySem.W.codeIn K cd25 "_law_world" = true) (k25 : PySem.W.keepIn K (.ref f25) = true)
    (a26 : PySem.W.nsIn K mainGlobals "law" = some (some (.ref f26))) (l26 : K.lookup f26 = some ⟨oc26, od26, .func (PySem.W.fnOf "law" "law" (defArgs sLaw) (defBody sLaw) (defScope sLaw) .none kV26 dc26 pm26 an26 cd26 ct26), sl26⟩) (c26 : PySem.W.codeIn K cd26 "law" = true) (k26 : PySem.W.keepIn K (.ref f26) = true)
    (z1 : PySem.W.nsIn K mainGlobals "sorted" = some none) (z2 : PySem.W.nsIn K mainGlobals "set" = some none) (z3 : PySem.W.nsIn K mainGlobals "len" = some none) (z4 : PySem.W.nsIn K mainGlobals "isinstance" = some none) (z5 : PySem.W.nsIn K mainGlobals "int" = some none) (z6 : PySem.W.nsIn K mainGlobals "bool" = some none) (z7 : PySem.W.nsIn K mainGlobals "list" = some none) (z8 : PySem.W.nsIn K mainGlobals "all" = some none) (z9 : PySem.W.nsIn K mainGlobals "range" = some none) (z10 : PySem.W.nsIn K mainGlobals "dict" = some none) (z11 : PySem.W.nsIn K mainGlobals "str" = some none) (z12 : PySem.W.nsIn K mainGlobals "tuple" = some none) :
    ∃ fd : FuncData, (∀ (s : Shared) (v : Value), BindsTo s fd ⟨[v], []⟩ [("_law_script", v)]) ∧ ∀ base : Heap, K.In base → base.Ns mainGlobals mg → FnOk l.prog w K mg base CX0 5 fa fd ["_law_script"] (spLaw K) := by
  have e := hfa.symm.trans (PySem.W.mg_of X G a26)
  cases e
  have B : Bt mg := ⟨PySem.W.mg_none_of X G z1, PySem.W.mg_none_of X G z2, PySem.W.mg_none_of X G z3, PySem.W.mg_none_of X G z4, PySem.W.mg_none_of X G z5, PySem.W.mg_none_of X G z6, PySem.W.mg_none_of X G z7, PySem.W.mg_none_of X G z8, PySem.W.mg_none_of X G z9, PySem.W.mg_none_of X G z10⟩
  have F1 := fun_mk (st := sIsInt) l1 c1 k1
  have b1 := F1.binds (ps := ["_law_actual"]) fun _ _ _ _ _ _ us hl => match us, hl with | [_], _ => rfl
  have F2 := fun_mk (st := sStream) l2 c2 k2
  have b2 := F2.binds (ps := ["_law_script", "_law_k"]) fun _ _ _ _ _ _ us hl => match us, hl with | [_, _], _ => rfl
  have F3 := fun_mk (st := sDraw) l3 c3 k3
  have b3 := F3.binds (ps := ["_law_stream_here", "_law_size"]) fun _ _ _ _ _ _ us hl => match us, hl with | [_, _], _ => rfl
  have F4 := fun_mk (st := sNames) l4 c4 k4
  have b4 := F4.binds (ps := ["_law_stream_here", "_law_count"]) fun _ _ _ _ _ _ us hl => match us, hl with | [_, _], _ => rfl
  have F5 := fun_mk (st := sPool) l5 c5 k5
  have b5 := F5.binds (ps := ["_law_stream_here", "_law_count"]) fun _ _ _ _ _ _ us hl => match us, hl with | [_, _], _ => rfl
  have F6 := fun_mk (st := sDoms) l6 c6 k6
  have b6 := F6.binds (ps := ["_law_stream_here", "_law_names_here", "_law_pool_here", "_law_most"]) fun _ _ _ _ _ _ us hl => match us, hl with | [_, _, _, _], _ => rfl
  have F7 := fun_mk (st := sCopied) l7 c7 k7
  have b7 := F7.binds (ps := ["_law_sides_here"]) fun _ _ _ _ _ _ us hl => match us, hl with | [_], _ => rfl
  have F8 := fun_mk (st := sIsSide) l8 c8 k8
  have b8 := F8.binds (ps := ["_law_actual"]) fun _ _ _ _ _ _ us hl => match us, hl with | [_], _ => rfl
  have F9 := fun_mk (st := sSame) l9 c9 k9
  have b9 := F9.binds (ps := ["_law_actual", "_law_expected"]) fun _ _ _ _ _ _ us hl => match us, hl with | [_, _], _ => rfl
  have F10 := fun_mk (st := sTk) l10 c10 k10
  have b10 := F10.binds (ps := ["fit", "value"]) fun _ _ _ _ _ _ us hl => match us, hl with | [_, _], _ => rfl
  have F11 := fun_mk (st := sMu) l11 c11 k11
  have b11 := F11.binds (ps := ["fit", "callers", "giving", "name"]) fun _ _ _ _ _ _ us hl => match us, hl with | [_, _, _, _], _ => rfl
  have F12 := fun_mk (st := sWn) l12 c12 k12
  have b12 := F12.binds (ps := ["box", "fit", "value"]) fun _ _ _ _ _ _ us hl => match us, hl with | [_, _, _], _ => rfl
  have F13 := fun_mk (st := sGr) l13 c13 k13
  have b13 := F13.binds (ps := ["box", "lows", "start"]) fun _ _ _ _ _ _ us hl => match us, hl with | [_, _, _], _ => rfl
  have F14 := fun_mk (st := sFf) l14 c14 k14
  have b14 := F14.binds (ps := ["box", "lows"]) fun _ _ _ _ _ _ us hl => match us, hl with | [_, _], _ => rfl
  have F15 := fun_mk (st := sSv) l15 c15 k15
  have b15 := F15.binds (ps := ["_law_actual", "_law_expected"]) fun _ _ _ _ _ _ us hl => match us, hl with | [_, _], _ => rfl
  have F16 := fun_mk (st := sIf) l16 c16 k16
  have b16 := F16.binds (ps := ["_law_values", "_law_sides_here", "_law_numbers_here"]) fun _ _ _ _ _ _ us hl => match us, hl with | [_, _, _], _ => rfl
  have F17 := fun_mk (st := sIc) l17 c17 k17
  have b17 := F17.binds (ps := ["_law_wanted", "_law_sides_here", "_law_numbers_here"]) fun _ _ _ _ _ _ us hl => match us, hl with | [_, _, _], _ => rfl
  have F18 := fun_mk (st := sAh) l18 c18 k18
  have b18 := F18.binds (ps := ["_law_told", "_law_sides_here", "_law_numbers_here"]) fun _ _ _ _ _ _ us hl => match us, hl with | [_, _, _], _ => rfl
  have F19 := fun_mk (st := sKp) l19 c19 k19
  have b19 := F19.binds (ps := ["_law_told"]) fun _ _ _ _ _ _ us hl => match us, hl with | [_], _ => rfl
  have F20 := fun_mk (st := sSf) l20 c20 k20
  have b20 := F20.binds (ps := ["_law_stream_here", "_law_things"]) fun _ _ _ _ _ _ us hl => match us, hl with | [_, _], _ => rfl
  have F21 := fun_mk (st := sMn) l21 c21 k21
  have b21 := F21.binds (ps := ["_law_stream_here", "_law_count"]) fun _ _ _ _ _ _ us hl => match us, hl with | [_, _], _ => rfl
  have F22 := fun_mk (st := sSd) l22 c22 k22
  have b22 := F22.binds (ps := ["_law_domains_here"]) fun _ _ _ _ _ _ us hl => match us, hl with | [_], _ => rfl
  have F23 := fun_mk (st := sCh) l23 c23 k23
  have b23 := F23.binds (ps := ["_law_stream_here", "_law_names_here", "_law_pool_here"]) fun _ _ _ _ _ _ us hl => match us, hl with | [_, _, _], _ => rfl
  have F24 := fun_mk (st := sNu) l24 c24 k24
  have b24 := F24.binds (ps := ["_law_stream_here", "_law_pool_here", "_law_most", "_law_chained"]) fun _ _ _ _ _ _ us hl => match us, hl with | [_, _, _, _], _ => rfl
  have F25 := fun_mk (st := sWo) l25 c25 k25
  have b25 := F25.binds (ps := ["_law_script"]) fun _ _ _ _ _ _ us hl => match us, hl with | [_], _ => rfl
  have F26 := fun_mk (st := sLaw) l26 c26 k26
  refine ⟨PySem.W.fnOf "law" "law" (defArgs sLaw) (defBody sLaw) (defScope sLaw) .none kV26 dc26 pm26 an26 cd26 ct26, fun s v => .of_eq rfl, fun base _ _ => ?_⟩
  have Cii : Call l.prog w K mg base 1 "_law_is_integer" f1 _ ["_law_actual"] spIsInt := ⟨ok_isInt F1 B, PySem.W.mg_of X G a1, k1, b1⟩
  have Cst : Call l.prog w K mg base 1 "_law_stream" f2 _ ["_law_script", "_law_k"] (spStream K) := ⟨ok_stream F2 B, PySem.W.mg_of X G a2, k2, b2⟩
  have D : Call l.prog w K mg base 1 "_law_next" f3 _ ["_law_stream_here", "_law_size"] spDraw := ⟨ok_draw F3 B, PySem.W.mg_of X G a3, k3, b3⟩
  have Cna : Call l.prog w K mg base 2 "_law_names" f4 _ ["_law_stream_here", "_law_count"] spNames := ⟨ok_names F4 B D, PySem.W.mg_of X G a4, k4, b4⟩
  have Cpo : Call l.prog w K mg base 2 "_law_pool" f5 _ ["_law_stream_here", "_law_count"] spPool := ⟨ok_pool F5 B D, PySem.W.mg_of X G a5, k5, b5⟩
  have Cdo : Call l.prog w K mg base 2 "_law_domains" f6 _ ["_law_stream_here", "_law_names_here", "_law_pool_here", "_law_most"] spDoms := ⟨ok_doms F6 B D, PySem.W.mg_of X G a6, k6, b6⟩
  have Ccp : Call l.prog w K mg base 1 "_law_copied" f7 _ ["_law_sides_here"] spCopy := ⟨ok_copied F7 B, PySem.W.mg_of X G a7, k7, b7⟩
  have Cis : Call l.prog w K mg base 2 "_law_is_side" f8 _ ["_law_actual"] spIsSide := ⟨ok_isSide F8 B Cii, PySem.W.mg_of X G a8, k8, b8⟩
  have Csa : Call l.prog w K mg base 3 "_law_same_sides" f9 _ ["_law_actual", "_law_expected"] spSame := ⟨ok_same F9 B Cis, PySem.W.mg_of X G a9, k9, b9⟩
  have CTk : Call l.prog w K mg base 1 "_takers" f10 _ ["fit", "value"] spTk := ⟨ok_Tk F10 B  , PySem.W.mg_of X G a10, k10, b10⟩
  have CMu : Call l.prog w K mg base 1 "_called_up" f11 _ ["fit", "callers", "giving", "name"] spMu := ⟨ok_Mu F11 B  , PySem.W.mg_of X G a11, k11, b11⟩
  have CWn : Call l.prog w K mg base 2 "_with_taker" f12 _ ["box", "fit", "value"] spWn := ⟨ok_Wn F12 B  CMu, PySem.W.mg_of X G a12, k12, b12⟩
  have CGr : Call l.prog w K mg base 3 "_supplied" f13 _ ["box", "lows", "start"] spGr := ⟨ok_Gr F13 B  CWn CTk, PySem.W.mg_of X G a13, k13, b13⟩
  have CFf : Call l.prog w K mg base 4 "wanted_fit" f14 _ ["box", "lows"] spFf := ⟨ok_Ff F14 B  CGr, PySem.W.mg_of X G a14, k14, b14⟩
  have CSv : Call l.prog w K mg base 2 "_law_same_values" f15 _ ["_law_actual", "_law_expected"] spSv := ⟨ok_Sv F15 B  Cii, PySem.W.mg_of X G a15, k15, b15⟩
  have CIf : Call l.prog w K mg base 2 "_law_is_fit" f16 _ ["_law_values", "_law_sides_here", "_law_numbers_here"] spIf := ⟨ok_If F16 B (PySem.W.mg_none_of X G z11) Cii, PySem.W.mg_of X G a16, k16, b16⟩
  have CIc : Call l.prog w K mg base 2 "_law_is_want" f17 _ ["_law_wanted", "_law_sides_here", "_law_numbers_here"] spIc := ⟨ok_Ic F17 B  Cii, PySem.W.mg_of X G a17, k17, b17⟩
  have CAh : Call l.prog w K mg base 3 "_law_answer_holds" f18 _ ["_law_told", "_law_sides_here", "_law_numbers_here"] spAh := ⟨ok_Ah F18 B (PySem.W.mg_none_of X G z11) (PySem.W.mg_none_of X G z12) CIf CIc, PySem.W.mg_of X G a18, k18, b18⟩
  have CKp : Call l.prog w K mg base 1 "_law_kept" f19 _ ["_law_told"] spKp := ⟨ok_Kp F19 B  , PySem.W.mg_of X G a19, k19, b19⟩
  have CSf : Call l.prog w K mg base 2 "_law_shuffled" f20 _ ["_law_stream_here", "_law_things"] spSf := ⟨ok_Sf F20 B  D, PySem.W.mg_of X G a20, k20, b20⟩
  have CMn : Call l.prog w K mg base 2 "_law_many_names" f21 _ ["_law_stream_here", "_law_count"] spMn := ⟨ok_Mn F21 B (PySem.W.mg_none_of X G z11) D, PySem.W.mg_of X G a21, k21, b21⟩
  have CSd : Call l.prog w K mg base 1 "_law_sides" f22 _ ["_law_domains_here"] spSd := ⟨ok_Sd F22 B  , PySem.W.mg_of X G a22, k22, b22⟩
  have CCh : Call l.prog w K mg base 3 "_law_chain" f23 _ ["_law_stream_here", "_law_names_here", "_law_pool_here"] spCh := ⟨ok_Ch F23 B  CSf D, PySem.W.mg_of X G a23, k23, b23⟩
  have CNu : Call l.prog w K mg base 3 "_law_numbers" f24 _ ["_law_stream_here", "_law_pool_here", "_law_most", "_law_chained"] spNu := ⟨ok_Nu F24 B  CSf D, PySem.W.mg_of X G a24, k24, b24⟩
  have CWo : Call l.prog w K mg base 4 "_law_world" f25 _ ["_law_script"] (spWo K) := ⟨ok_Wo F25 B  Cst Cna Cpo Cdo D CMn CCh CSf CSd, PySem.W.mg_of X G a25, k25, b25⟩
  exact ok_Law F26 B  CWo CNu Cst D Ccp CFf CAh CKp CSv Csa
theorem walk {l : PySem.W.OpenLaw} {q : Program} {loose : List Str} {XP : (Str → Option Value) → Heap → Prop} {YP : World → Heap → Prop} {d : DefRec} {K : Params → PySem.W.Frag} (hn : l.most = some 63) (hdf : d.params.defaults = [])
    (hY : ∀ (w : World) (h : Heap), YP w h → (K w.params).In h)
    (F : ∀ (w : World) (mg : Str → Option Value) (fa : Addr) (h : Heap), (K w.params).In h → h.Ns mainGlobals mg → mg d.name = some (.ref fa) →
      ∃ fd : FuncData, (∀ (s : Shared) (u : Value), BindsTo s fd ⟨[u], []⟩ [("_law_script", u)]) ∧ ∀ base : Heap, (K w.params).In base → base.Ns mainGlobals mg → FnOk l.prog w (K w.params) mg base CX0 5 fa fd ["_law_script"] (spLaw (K w.params))) :
    PySem.W.WalkO q loose XP YP l.row.toRowW d [] (fun f vs => PySem.call f vs) :=
  L2.walk_of (n := 63) (k := 5) (x := "_law_script") (CX := fun _ => CX0) (sp := fun w => spLaw (K w.params)) hn (by decide) hdf ⟨rfl, by decide, by decide⟩ hY F (fun _ _ a ns hl _ hS => ⟨a, ns, rfl, hS, hl, fun _ => rfl⟩) fun _ _ _ _ _ z => z
end K19

set_option Elab.async false
set_option linter.all false
open PySem PySem.W PyProof.Rows
set_option maxRecDepth 100000 in
set_option maxHeartbeats 0 in
theorem PySem.Challenge.cw_curbdesk_k19_wanted_fit_holds : PySem.Challenge.rw_curbdesk_k19_wanted_fit.Holds := by
  w_on; o_law; k_head; (case hw => w_witness2)
  k_fill
  refine K19.walk (l := PySem.Challenge.rw_curbdesk_k19_wanted_fit) rfl rfl (fun w h Y => PySem.W.kIn_of Y) ?F
  case F =>
    intro w mg fa h KX G hmg
    refine' K19.all_mk KX G hmg ?a1 ?l1 ?c1 ?k1 ?a2 ?l2 ?c2 ?k2 ?a3 ?l3 ?c3 ?k3 ?a4 ?l4 ?c4 ?k4 ?a5 ?l5 ?c5 ?k5 ?a6 ?l6 ?c6 ?k6 ?a7 ?l7 ?c7 ?k7 ?a8 ?l8 ?c8 ?k8 ?a9 ?l9 ?c9 ?k9 ?a10 ?l10 ?c10 ?k10 ?a11 ?l11 ?c11 ?k11 ?a12 ?l12 ?c12 ?k12 ?a13 ?l13 ?c13 ?k13 ?a14 ?l14 ?c14 ?k14 ?a15 ?l15 ?c15 ?k15 ?a16 ?l16 ?c16 ?k16 ?a17 ?l17 ?c17 ?k17 ?a18 ?l18 ?c18 ?k18 ?a19 ?l19 ?c19 ?k19 ?a20 ?l20 ?c20 ?k20 ?a21 ?l21 ?c21 ?k21 ?a22 ?l22 ?c22 ?k22 ?a23 ?l23 ?c23 ?k23 ?a24 ?l24 ?c24 ?k24 ?a25 ?l25 ?c25 ?k25 ?a26 ?l26 ?c26 ?k26 ?z1 ?z2 ?z3 ?z4 ?z5 ?z6 ?z7 ?z8 ?z9 ?z10 ?z11 ?z12
    (case a1 => k_is)
    (case l1 => k_is)
    (case c1 => k_is)
    (case k1 => k_is)
    (case a2 => k_is)
    (case l2 => k_is)
    (case c2 => k_is)
    (case k2 => k_is)
    (case a3 => k_is)
    (case l3 => k_is)
    (case c3 => k_is)
    (case k3 => k_is)
    (case a4 => k_is)
    (case l4 => k_is)
    (case c4 => k_is)
    (case k4 => k_is)
    (case a5 => k_is)
    (case l5 => k_is)
    (case c5 => k_is)
    (case k5 => k_is)
    (case a6 => k_is)
    (case l6 => k_is)
    (case c6 => k_is)
    (case k6 => k_is)
    (case a7 => k_is)
    (case l7 => k_is)
    (case c7 => k_is)
    (case k7 => k_is)
    (case a8 => k_is)
    (case l8 => k_is)
    (case c8 => k_is)
    (case k8 => k_is)
    (case a9 => k_is)
    (case l9 => k_is)
    (case c9 => k_is)
    (case k9 => k_is)
    (case a10 => k_is)
    (case l10 => k_is)
    (case c10 => k_is)
    (case k10 => k_is)
    (case a11 => k_is)
    (case l11 => k_is)
    (case c11 => k_is)
    (case k11 => k_is)
    (case a12 => k_is)
    (case l12 => k_is)
    (case c12 => k_is)
    (case k12 => k_is)
    (case a13 => k_is)
    (case l13 => k_is)
    (case c13 => k_is)
    (case k13 => k_is)
    (case a14 => k_is)
    (case l14 => k_is)
    (case c14 => k_is)
    (case k14 => k_is)
    (case a15 => k_is)
    (case l15 => k_is)
    (case c15 => k_is)
    (case k15 => k_is)
    (case a16 => k_is)
    (case l16 => k_is)
    (case c16 => k_is)
    (case k16 => k_is)
    (case a17 => k_is)
    (case l17 => k_is)
    (case c17 => k_is)
    (case k17 => k_is)
    (case a18 => k_is)
    (case l18 => k_is)
    (case c18 => k_is)
    (case k18 => k_is)
    (case a19 => k_is)
    (case l19 => k_is)
    (case c19 => k_is)
    (case k19 => k_is)
    (case a20 => k_is)
    (case l20 => k_is)
    (case c20 => k_is)
    (case k20 => k_is)
    (case a21 => k_is)
    (case l21 => k_is)
    (case c21 => k_is)
    (case k21 => k_is)
    (case a22 => k_is)
    (case l22 => k_is)
    (case c22 => k_is)
    (case k22 => k_is)
    (case a23 => k_is)
    (case l23 => k_is)
    (case c23 => k_is)
    (case k23 => k_is)
    (case a24 => k_is)
    (case l24 => k_is)
    (case c24 => k_is)
    (case k24 => k_is)
    (case a25 => k_is)
    (case l25 => k_is)
    (case c25 => k_is)
    (case k25 => k_is)
    (case a26 => k_is)
    (case l26 => k_is)
    (case c26 => k_is)
    (case k26 => k_is)
    (case z1 => k_is)
    (case z2 => k_is)
    (case z3 => k_is)
    (case z4 => k_is)
    (case z5 => k_is)
    (case z6 => k_is)
    (case z7 => k_is)
    (case z8 => k_is)
    (case z9 => k_is)
    (case z10 => k_is)
    (case z11 => k_is)
    (case z12 => k_is)
