import PyProof.Rows.All
import Wide.All
import OpenK.AllK
import Wide.FinOn
import HandS.ForMost
import HandS.Strs
import HandS.Set
import HandS.SetFor
import HandS.TupSets
import HandS.IsInst
import HandS.Flow
import HandS.Style
import HandS.Zip
import HandS.SortInts
import HandS.DeepEq
import HandS.SetBool
import HandS.SetKeys
import HandS.ExcInit
import HandS.ExcField
import HandS.ExcOwn
import HandS.WordsExc
import HandS.ExcIs
import KE.KExcIs
import HandS.Walk
import HandS.DictComp
import PySem.Challenge.RW_curbdesk_k02_filled_and_trimmed
set_option Elab.async false
set_option linter.all false
set_option maxRecDepth 100000
/-! Tables of sets that are laid anew, for the masks that merging asks for. -/
namespace Cs
open PySem PySem.Spec PyProof.Rows

def hop (m : Nat) (q : Nat × Nat) : Nat × Nat := SetTable.leap m q.1 q.2
def hops (m : Nat) : Nat → Nat × Nat → Nat × Nat
  | 0, q => q
  | n + 1, q => hops m n (hop m q)
abbrev own (ow : Array (Option Nat)) (j : Nat) : Option Nat := ow.getD j (some 0)

theorem free_step (m : Nat) (ow : Array (Option Nat)) (f : Nat) (q : Nat × Nat) : SetTable.layClean.free m ow (f + 1) q.1 q.2 =
    (match (List.range (SetTable.runEnd m q.1 + 1 - q.1)).find? (fun k => (own ow (q.1 + k)).isNone) with
      | some k => some (q.1 + k)
      | none => SetTable.layClean.free m ow f (hop m q).1 (hop m q).2) := rfl
theorem run_ge (m i : Nat) : i ≤ SetTable.runEnd m i := by
  unfold SetTable.runEnd
  split <;> omega
theorem run_le {m i : Nat} (h : i ≤ m) : SetTable.runEnd m i ≤ m := by
  unfold SetTable.runEnd
  split <;> omega
theorem hop_le (m : Nat) (q : Nat × Nat) : (hop m q).1 ≤ m := Nat.le_of_lt_succ (Nat.mod_lt _ (Nat.succ_pos m))

theorem free_none (m : Nat) (ow : Array (Option Nat)) : ∀ (f : Nat) (q : Nat × Nat), SetTable.layClean.free m ow f q.1 q.2 = none → ∀ n, n < f → (own ow (hops m n q).1).isNone = false
  | 0, _, _, n, h => absurd h (Nat.not_lt_zero n)
  | f + 1, q, e, n, h => by
    rw [free_step] at e
    cases c : (List.range (SetTable.runEnd m q.1 + 1 - q.1)).find? (fun k => (own ow (q.1 + k)).isNone) with
    | some k => rw [c] at e; exact nomatch e
    | none =>
      rw [c] at e
      cases n with
      | zero =>
        have z := List.find?_eq_none.mp c 0 (List.mem_range.mpr (by have := run_ge m q.1; omega))
        have z2 : ¬ ((own ow q.1).isNone = true) := z
        exact Bool.eq_false_iff.mpr z2
      | succ n => exact free_none m ow f (hop m q) e n (by omega)

theorem free_some (m : Nat) (ow : Array (Option Nat)) : ∀ (f : Nat) (q : Nat × Nat) (j : Nat), SetTable.layClean.free m ow f q.1 q.2 = some j → q.1 ≤ m → j ≤ m ∧ (own ow j).isNone = true
  | 0, _, _, e, _ => nomatch e
  | f + 1, q, j, e, hq => by
    rw [free_step] at e
    cases c : (List.range (SetTable.runEnd m q.1 + 1 - q.1)).find? (fun k => (own ow (q.1 + k)).isNone) with
    | some k =>
      rw [c] at e
      have ej : q.1 + k = j := Option.some.inj e
      have h1 := List.mem_of_find?_eq_some c
      have h2 := List.find?_some c
      have h3 := List.mem_range.mp h1
      have h4 := run_le hq
      rw [← ej]
      exact ⟨by omega, h2⟩
    | none =>
      rw [c] at e
      exact free_some m ow f (hop m q) j e (hop_le m q)

theorem hops_back (m : Nat) : ∀ (n : Nat) (q : Nat × Nat), hops m (n + 1) q = hop m (hops m n q)
  | 0, _ => rfl
  | n + 1, q => hops_back m n (hop m q)
theorem hops_add (m : Nat) (a : Nat) : ∀ (k : Nat) (q : Nat × Nat), hops m (a + k) q = hops m k (hops m a q)
  | 0, _ => rfl
  | k + 1, q => by
    rw [show a + (k + 1) = (a + k) + 1 from rfl, hops_back, hops_back, hops_add m a k q]
theorem hops_snd (m : Nat) : ∀ (n : Nat) (q : Nat × Nat), (hops m n q).2 = q.2 / 32 ^ n
  | 0, q => (Nat.div_one q.2).symm
  | n + 1, q => by
    rw [hops_back]
    show (hops m n q).2 / 32 = _
    rw [hops_snd m n q, Nat.div_div_eq_div_mul, Nat.pow_succ]
theorem hops_fst_le (m : Nat) {q : Nat × Nat} (hq : q.1 ≤ m) : ∀ n, (hops m n q).1 ≤ m
  | 0 => hq
  | n + 1 => by rw [hops_back]; exact hop_le m _
theorem hops_zero (m i : Nat) : ∀ k, hops m k (i, 0) = (L2.lcgI m i k, 0)
  | 0 => rfl
  | k + 1 => by
    rw [hops_back, hops_zero m i k]
    show ((L2.lcgI m i k * 5 + 1 + 0 / 32) % (m + 1), 0 / 32) = _
    rw [Nat.zero_div, Nat.add_zero] <;> rfl

def Msk (m : Nat) : Prop := m = 7 ∨ m = 15 ∨ m = 31 ∨ m = 63 ∨ m = 127
def meetsAll (m : Nat) : Bool := (List.range (m + 1)).all fun i => (List.range (m + 1)).all fun j => (List.range (m + 1)).any fun k => L2.lcgI m i k == j
theorem lcg_of {m : Nat} (h : meetsAll m = true) {i j : Nat} (hi : i ≤ m) (hj : j ≤ m) : ∃ k, k ≤ m ∧ L2.lcgI m i k = j := by
  have h1 := List.all_eq_true.mp (List.all_eq_true.mp h i (List.mem_range.mpr (by omega))) j (List.mem_range.mpr (by omega))
  obtain ⟨k, hk, e⟩ := List.any_eq_true.mp h1
  exact ⟨k, Nat.le_of_lt_succ (List.mem_range.mp hk), eq_of_beq e⟩
/- one round from 0, then the shift -/
theorem all15 : ((List.range 16).all fun j => (List.range 16).any fun b => L2.lcgN 15 b == j) = true := by decide +kernel
theorem all63 : ((List.range 64).all fun j => (List.range 64).any fun b => L2.lcgN 63 b == j) = true := by decide +kernel
theorem round15 : L2.lcgN 15 16 = 0 := by decide +kernel
theorem round63 : L2.lcgN 63 64 = 0 := by decide +kernel
theorem turn_mod {m : Nat} (h : L2.lcgN m (m + 1) = 0) : ∀ k, L2.lcgN m (m + 1 + k) = L2.lcgN m k
  | 0 => h
  | k + 1 => by
    show (L2.lcgN m (m + 1 + k) * 5 + 1) % (m + 1) = (L2.lcgN m k * 5 + 1) % (m + 1)
    rw [turn_mod h k]
theorem lcg_by {m : Nat} (hr : L2.lcgN m (m + 1) = 0) (ha : ((List.range (m + 1)).all fun j => (List.range (m + 1)).any fun b => L2.lcgN m b == j) = true) {i j : Nat} (hi : i ≤ m) (hj : j ≤ m) :
    ∃ k, k ≤ m ∧ L2.lcgI m i k = j := by
  have at0 : ∀ x, x ≤ m → ∃ b, b ≤ m ∧ L2.lcgN m b = x := fun x hx => by
    obtain ⟨b, hb, e⟩ := List.any_eq_true.mp (List.all_eq_true.mp ha x (List.mem_range.mpr (by omega)))
    exact ⟨b, Nat.le_of_lt_succ (List.mem_range.mp hb), eq_of_beq e⟩
  obtain ⟨a, la, ea⟩ := at0 i hi
  obtain ⟨b, lb, eb⟩ := at0 j hj
  subst ea
  by_cases c : a ≤ b
  · exact ⟨b - a, by omega, by rw [L2.lcgN_add, Nat.add_sub_cancel' c]; exact eb⟩
  · refine ⟨m + 1 + b - a, by omega, ?_⟩
    rw [L2.lcgN_add, Nat.add_sub_cancel' (by omega), turn_mod hr]
    exact eb
theorem lcg_meets {m : Nat} (hm : Msk m) {i j : Nat} (hi : i ≤ m) (hj : j ≤ m) : ∃ k, k ≤ m ∧ L2.lcgI m i k = j := by
  rcases hm with e | e | e | e | e
  · exact L2.lcgI_all (.inl e) hi hj
  · subst e; exact lcg_by round15 all15 hi hj
  · exact L2.lcgI_all (.inr (.inl e)) hi hj
  · subst e; exact lcg_by round63 all63 hi hj
  · exact L2.lcgI_all (.inr (.inr e)) hi hj

theorem free_there {m : Nat} (hm : Msk m) (ow : Array (Option Nat)) (h : Int) {j0 : Nat} (hj : j0 ≤ m) (hf : (own ow j0).isNone = true) :
    ∃ j, SetTable.layClean.free m ow (SetTable.turns m) (SetTable.bits h % (m + 1)) (SetTable.bits h) = some j ∧ j ≤ m ∧ (own ow j).isNone = true := by
  have hq : SetTable.bits h % (m + 1) ≤ m := Nat.le_of_lt_succ (Nat.mod_lt _ (Nat.succ_pos m))
  cases e : SetTable.layClean.free m ow (SetTable.turns m) (SetTable.bits h % (m + 1)) (SetTable.bits h) with
  | some j => exact ⟨j, rfl, free_some m ow _ (SetTable.bits h % (m + 1), SetTable.bits h) j e hq⟩
  | none =>
    exfalso
    have all := free_none m ow _ (SetTable.bits h % (m + 1), SetTable.bits h) e
    have z : (hops m 13 (SetTable.bits h % (m + 1), SetTable.bits h)).2 = 0 := by
      rw [hops_snd]
      refine Nat.div_eq_of_lt (Nat.lt_trans (L2.bits_lt h) ?_)
      decide
    have le := hops_fst_le m (q := (SetTable.bits h % (m + 1), SetTable.bits h)) hq 13
    obtain ⟨k, hk, ek⟩ := lcg_meets hm le hj
    have q := all (13 + k) (by show 13 + k < m + 15; omega)
    have e2 : hops m 13 (SetTable.bits h % (m + 1), SetTable.bits h) = ((hops m 13 (SetTable.bits h % (m + 1), SetTable.bits h)).1, 0) := by
      rw [← z]
    rw [hops_add, e2, hops_zero] at q
    rw [ek] at q
    rw [hf] at q
    cases q

/-! ### who sits where -/
theorem put_perm : ∀ (l : List (Option Nat)) (j k : Nat), l[j]? = some none → ((l.set j (some k)).filterMap id).Perm (k :: l.filterMap id)
  | [], j, k, h => by simp at h
  | x :: l, 0, k, h => by
    have e : x = none := by simpa using h
    subst e
    simp
  | x :: l, j + 1, k, h => by
    have ih := put_perm l j k (by simpa using h)
    cases x with
    | none => simpa using ih
    | some y =>
      simp only [List.set_cons_succ, List.filterMap_cons, id]
      exact (ih.cons y).trans (List.Perm.swap k y _)
theorem gap : ∀ l : List (Option Nat), (l.filterMap id).length < l.length → ∃ j : Nat, j < l.length ∧ l[j]? = some none
  | [], h => by simp at h
  | none :: l, h => ⟨0, by simp, rfl⟩
  | some y :: l, h => by
    obtain ⟨j, hj, e⟩ := gap l (by simpa using h)
    exact ⟨j + 1, by simpa using hj, by simpa using e⟩
structure Sit (m k : Nat) (ow : Array (Option Nat)) : Prop where
  sz : ow.size = m + 1
  pm : (ow.toList.filterMap id).Perm (List.range k)
theorem Sit.start (m : Nat) : Sit m 0 (Array.replicate (m + 1) none) := ⟨by simp, by simp⟩
theorem Sit.next {m k : Nat} {ow : Array (Option Nat)} (S : Sit m k ow) (hm : Msk m) (hk : k ≤ m) (h : Int) :
    ∃ j, SetTable.layClean.free m ow (SetTable.turns m) (SetTable.bits h % (m + 1)) (SetTable.bits h) = some j ∧ Sit m (k + 1) (ow.setIfInBounds j (some k)) := by
  have l1 := S.pm.length_eq
  rw [List.length_range] at l1
  obtain ⟨j0, h0, e0⟩ := gap ow.toList (by rw [l1, Array.length_toList, S.sz]; omega)
  rw [Array.length_toList, S.sz] at h0
  have f0 : (own ow j0).isNone = true := by
    have : ow[j0]? = some none := by rw [← Array.getElem?_toList]; exact e0
    simp [own, Array.getD_eq_getD_getElem?, this]
  obtain ⟨j, ej, hj, hn⟩ := free_there hm ow h (by omega) f0
  have hjs : j < ow.size := by rw [S.sz]; omega
  have en : ow.toList[j]? = some none := by
    have : own ow j = none := by simpa using hn
    rw [Array.getElem?_toList]
    simp only [own, Array.getD_eq_getD_getElem?, Array.getElem?_eq_getElem hjs, Option.getD_some] at this
    rw [Array.getElem?_eq_getElem hjs, this]
  refine ⟨j, ej, by rw [Array.size_setIfInBounds]; exact S.sz, ?_⟩
  rw [Array.toList_setIfInBounds]
  refine (put_perm ow.toList j k en).trans ?_
  rw [List.range_succ]
  exact (S.pm.cons k).trans (List.perm_append_singleton k _).symm
theorem sit_all {m : Nat} (hm : Msk m) : ∀ (hs : List Int) (k : Nat) (ow : Array (Option Nat)), Sit m k ow → k + hs.length ≤ m →
    ∃ ow', hs.foldl (L2.stepF m) (some (ow, k)) = some (ow', k + hs.length) ∧ Sit m (k + hs.length) ow'
  | [], k, ow, S, _ => ⟨ow, rfl, S⟩
  | h :: hs, k, ow, S, hl => by
    rw [List.length_cons] at hl
    obtain ⟨j, ej, S2⟩ := S.next hm (by omega) h
    obtain ⟨ow', e, S3⟩ := sit_all hm hs (k + 1) _ S2 (by omega)
    refine ⟨ow', ?_, ?_⟩
    · rw [List.foldl_cons, L2.stepF_some ej, e, List.length_cons]
      exact congrArg (fun n => some (ow', n)) (by omega)
    · rw [List.length_cons, show k + (hs.length + 1) = k + 1 + hs.length by omega]
      exact S3
theorem lay_ok {m : Nat} (hm : Msk m) {hs : Array Int} (hn : hs.size ≤ m) : ∃ ow, SetTable.layClean m hs = some ow ∧ Sit m hs.size ow := by
  obtain ⟨ow, e, S⟩ := sit_all hm hs.toList 0 _ (Sit.start m) (by rw [Array.length_toList]; omega)
  rw [Nat.zero_add, Array.length_toList] at S
  refine ⟨ow, ?_, S⟩
  rw [L2.layClean_eq, e] <;> rfl

def liveAt (m : Nat) (ow : Array (Option Nat)) : List (Nat × Nat) := (List.range (m + 1)).filterMap fun j => (ow.getD j none).map (j, ·)
theorem live_snd {m : Nat} {ow : Array (Option Nat)} (hz : ow.size = m + 1) : (liveAt m ow).map (·.2) = ow.toList.filterMap id := by
  unfold liveAt
  rw [List.map_filterMap, ← hz]
  have e1 : (fun j => ((ow.getD j none).map (j, ·)).map (·.2)) = fun j => (ow[j]?).bind id := by
    funext j
    rw [Array.getD_eq_getD_getElem?]
    cases ow[j]? with
    | none => rfl
    | some y => cases y <;> rfl
  have e2 := filterMap_getElem?_range ow
  rw [e1, ← e2, List.filterMap_filterMap]
theorem laid_ok {m : Nat} (hm : Msk m) {hs : Array Int} (hn : hs.size ≤ m) (fi mv : Nat) (ld pl : Bool) :
    ∃ t order, SetTable.laid m fi mv ld pl hs = some (t, order) ∧ order.toList.Perm (List.range hs.size) ∧ t.mask = m ∧ t.dummies = #[] ∧ t.led = ld ∧ L2.Ris t.place.toList ∧ t.place.size = hs.size := by
  obtain ⟨ow, e, S⟩ := lay_ok hm hn
  have p : ((liveAt m ow).map (·.2)).Perm (List.range hs.size) := by
    rw [live_snd S.sz]
    exact S.pm
  refine ⟨_, _, by unfold SetTable.laid; rw [e]; rfl, p, rfl, rfl, rfl, ?_, ?_⟩
  · refine (L2.ris_live (fun j => ow.getD j none) (List.range (m + 1)) ?_).1
    unfold L2.Ris
    first | exact List.pairwise_lt_range | exact List.pairwise_lt_range _
  · have l := p.length_eq
    rw [List.length_map, List.length_range] at l
    show ((liveAt m ow).map (·.1)).toArray.size = hs.size
    rw [List.size_toArray, List.length_map]
    exact l
theorem above_msk : ((List.range 128).all fun n => (SetTable.sizeAbove n == 8 || SetTable.sizeAbove n == 16 || SetTable.sizeAbove n == 32 || SetTable.sizeAbove n == 64 || SetTable.sizeAbove n == 128) && decide (n < SetTable.sizeAbove n)) = true := by
  decide +kernel
theorem above_ok {n : Nat} (h : n < 128) : Msk (SetTable.sizeAbove n - 1) ∧ n ≤ SetTable.sizeAbove n - 1 ∧ SetTable.sizeAbove n ≤ 128 := by
  have q := List.all_eq_true.mp above_msk n (List.mem_range.mpr h)
  simp only [Bool.and_eq_true, Bool.or_eq_true, beq_iff_eq, decide_eq_true_eq] at q
  obtain ⟨q1, q2⟩ := q
  refine ⟨?_, by omega, by omega⟩
  unfold Msk
  omega
end Cs

set_option Elab.async false
set_option linter.all false
set_option maxRecDepth 100000
set_option maxHeartbeats 1000000
namespace Cs
open PySem PySem.Spec PyProof.Rows L2

/-- a set of ints, written out -/
structure SetX (w : World) (h : Heap) (a : Addr) (es : Array (Int × Value)) (ep : Nat) (t : SetTable) : Prop where
  obj : h.get? a = some { cls := .type "set", dict := none, data := .set es ep t, slots := #[] }
  good : ∀ e ∈ es.toList, GoodE e
  nd : (es.toList.map keyOf).Nodup
  few : es.size < scanBound
  fits : t.fits es.size = true
  ris : Ris t.place.toList
  led : w.params.followText "set-order" = true ∨ t.led = true
section
variable {w : World} {h h' : Heap} {a : Addr} {S : Int → Bool} {n : Nat} {es : Array (Int × Value)} {ep : Nat} {t : SetTable}
theorem SetX.toR (R : SetX w h a es ep t) (hS : ∀ k, S k = true ↔ k ∈ es.toList.map keyOf) (hn : es.size = n) : SetR w h a S n :=
  ⟨_, es, ep, t, R.obj, ⟨rfl, rfl, rfl⟩, rfl, R.good, R.nd, hS, R.few, R.fits, hn, R.ris, R.led⟩
theorem xOf (R : SetR w h a S n) : ∃ es ep t, SetX w h a es ep t ∧ (∀ k, S k = true ↔ k ∈ es.toList.map keyOf) ∧ es.size = n := by
  obtain ⟨⟨c, d, dt, sl⟩, es, ep, t, ho, ⟨e1, e2, e3⟩, hd, g, nd, m, fw, ft, hn, r, l⟩ := R
  simp only at e1 e2 e3 hd
  subst e1 e2 e3 hd
  exact ⟨es, ep, t, ⟨ho, g, nd, fw, ft, r, l⟩, m, hn⟩
theorem SetX.move (R : SetX w h a es ep t) (k : ∀ o, h.get? a = some o → h'.get? a = some o) : SetX w h' a es ep t :=
  ⟨k _ R.obj, R.good, R.nd, R.few, R.fits, R.ris, R.led⟩
theorem SetX.perm {es' : Array (Int × Value)} {t' : SetTable} {ep' : Nat} (R : SetX w h a es ep t) (p : es'.toList.Perm es.toList)
    (o : h'.get? a = some { cls := .type "set", dict := none, data := .set es' ep' t', slots := #[] }) (f : t'.fits es'.size = true) (r : Ris t'.place.toList) (l : w.params.followText "set-order" = true ∨ t'.led = true) : SetX w h' a es' ep' t' :=
  ⟨o, fun e he => R.good e (p.mem_iff.mp he), (p.map keyOf).nodup_iff.mpr R.nd, by
    have q := p.length_eq
    rw [Array.length_toList, Array.length_toList] at q
    rw [q]; exact R.few, f, r, l⟩
end
theorem order_perm {es : Array (Int × Value)} {order : Array Nat} (p : order.toList.Perm (List.range es.size)) : (order.filterMap (es[·]?)).toList.Perm es.toList := by
  have q := p.filterMap (fun i => es[i]?)
  rw [filterMap_getElem?_range] at q
  rw [Array.toList_filterMap]
  exact q
theorem perm_size {α : Type} {x y : Array α} (p : x.toList.Perm y.toList) : x.size = y.size := by
  have q := p.length_eq
  rw [Array.length_toList, Array.length_toList] at q
  exact q
section
variable {P : Program} {w : World} {A : Around} {E : Value → Shared → Prop} {s : Shared} {a : Addr} {es : Array (Int × Value)} {ep : Nat} {t : SetTable}

theorem relay_x {wanted : Nat} {Q : Unit → Shared → Prop} (R : SetX w s.heap a es ep t) (hw : wanted < 128) (hn : es.size ≤ wanted)
    (hQ : ∀ h' es' t', Heap.SameBut a s.heap h' → SetX w h' a es' (ep + 1) t' → es'.toList.Perm es.toList → t'.mask = SetTable.sizeAbove wanted - 1 → t'.dummies = #[] → t'.place.size = es.size → Q () { s with heap := h' }) :
    wpAny (model P w) A (setRelay a wanted) Q E s := by
  obtain ⟨hM, hMn, h128⟩ := above_ok hw
  obtain ⟨t', order, e, hp, em, ed, el, er, ez⟩ := laid_ok hM (hs := es.map (·.1)) (by rw [Array.size_map]; omega) t.finger (t.movedTo (SetTable.sizeAbove wanted - 1)) t.led t.plain
  rw [Array.size_map] at hp ez
  have p2 := order_perm hp
  have z2 := perm_size p2
  have fit : t'.fits (order.filterMap (es[·]?)).size = true := by
    unfold SetTable.fits SetTable.fill
    rw [ed, z2, ez, em, Bool.and_eq_true, beq_iff_eq, decide_eq_true_eq]
    exact ⟨rfl, by show es.size + 0 ≤ _; omega⟩
  have e' : t.relaid (es.map (·.1)) wanted = some (t', order) := e
  unfold setRelay
  refine wpAny_bind (wpAny_setState_of R.obj rfl R.fits ?_)
  dsimp only
  refine wp_if_neg (by rw [sizeLine_eq]; omega) ?_
  try refine wpAny_bind (wpAny_pure ?_)
  rw [e']
  refine wpAny_bind ?_
  refine wp_if_neg (c := ((order.filterMap (es[·]?)).size != es.size) = true) (by rw [z2]; simp) ?_
  try refine wpAny_bind (wpAny_pure ?_)
  refine wpAny_pure ?_
  dsimp only
  refine wpAny_storeSet_of R.obj rfl ?_ (fits_of_scanBound (by rw [z2]; exact R.few))
  have sb : Heap.SameBut a s.heap (s.heap.update a (Obj.putSet (order.filterMap (es[·]?)) t')) := Heap.SameBut.update ..
  exact hQ _ _ t' sb (R.perm p2 (store_at R.obj rfl) fit er (R.led.imp id fun z => el.trans z)) p2 em ed ez

/-! ### walking -/
theorem walk_x {Q : Array (Int × Value) → Shared → Prop} (R : SetX w s.heap a es ep t) (hQ : ∀ ys d, ys.toList.Perm es.toList → Q ys { s with drawn := d }) : wpAny (model P w) A (setWalk a) Q E s := by
  have rf : Q es s := hQ es s.drawn (List.Perm.refl _)
  unfold setWalk
  refine wpAny_bind (wpAny_setState_of R.obj rfl R.fits ?_)
  dsimp only
  refine wpAny_bind (wpAny_byText ?_)
  by_cases hb : w.params.followText "set-order" = true
  · refine wp_if_pos hb ?_
    refine wpAny_bind (wpAny_askSetting ?_)
    exact wpAny_pure (hQ _ s.drawn (pick_perm _ es))
  · refine wp_if_neg hb ?_
    by_cases hd : (!t.plain && decide (es.size > 1)) = true
    · refine wp_if_pos (c := (!t.plain && decide (es.size > 1)) = true) hd ?_
      refine wpAny_bind (drawOrder_at _ _ _ _ (Nat.le_of_eq Array.length_toList) fun ys d p => wpAny_pure (hQ _ d ?_))
      simpa using p
    · refine wp_if_neg (c := (!t.plain && decide (es.size > 1)) = true) hd ?_
      have hl : t.led = true := R.led.resolve_left hb
      refine wpAny_bind (m := (_ : Sem Unit)) ?_
      refine wp_if_neg (c := (!t.led && decide (es.size > 1)) = true) (by rw [hl]; simp) ?_
      exact wpAny_pure (wpAny_pure rf)
end
end Cs

set_option Elab.async false
set_option linter.all false
set_option maxRecDepth 100000
set_option maxHeartbeats 1000000
namespace Cs
open PySem PySem.Spec PyProof.Rows L2
section
variable {P : Program} {w : World} {A : Around} {E : Value → Shared → Prop} {s : Shared} {a : Addr} {es : Array (Int × Value)} {ep : Nat} {t : SetTable}

theorem quiet_x {Q : Bool → Shared → Prop} : ∀ (l : List Addr), (∀ b ∈ l, ∃ es ep t, SetX w s.heap b es ep t) → Q true s → wpAny (model P w) A (setsQuiet l) Q E s := by
  intro l hl hq
  unfold setsQuiet
  refine wpAny_bind (wpAny_forIn_list _ (fun rest b s' => b.1 = none ∧ s' = s ∧ ∀ x ∈ rest, ∃ es ep t, SetX w s.heap x es ep t) _ ?turn ?fin l _ ⟨rfl, rfl, hl⟩)
  case fin =>
    rintro ⟨b1, b2⟩ s' ⟨h1, rfl, _⟩
    cases h1
    exact wpAny_pure hq
  case turn =>
    rintro x rest ⟨b1, b2⟩ s' ⟨h1, rfl, h2⟩
    cases h1
    obtain ⟨es, ep, t, R⟩ := h2 x List.mem_cons_self
    unfold setEntries
    refine wpAny_bind (wpAny_bind (wpAny_setState_of R.obj rfl R.fits (wpAny_pure ?_)))
    refine wpAny_bind (MeetsSeq2.wpAny_forIn_array _ (fun rest' b s'' => b.1 = none ∧ s'' = s' ∧ ∀ e ∈ rest', GoodE e) _ ?t2 ?f2 es _ ⟨rfl, rfl, R.good⟩)
    case f2 =>
      rintro ⟨b1, b2⟩ s' ⟨h1, rfl, _⟩
      cases h1
      exact wpAny_pure ⟨rfl, rfl, fun y hy => h2 y (List.mem_cons_of_mem _ hy)⟩
    case t2 =>
      rintro ⟨hh, v⟩ rest' ⟨b1, b2⟩ s' ⟨h1, rfl, hg⟩
      cases h1
      obtain ⟨k, tk, e1, _⟩ := hg _ List.mem_cons_self
      have e2 : v = .int k tk := e1
      subst e2
      dsimp only
      refine wpAny_pure ⟨rfl, rfl, fun y hy => hg y (List.mem_cons_of_mem _ hy)⟩
end
end Cs

set_option Elab.async false
set_option linter.all false
set_option maxRecDepth 100000
set_option maxHeartbeats 1000000
namespace Cs
open PySem PySem.Spec PyProof.Rows L2
section
variable {P : Program} {w : World} {A : Around} {E : Value → Shared → Prop} {s : Shared} {a : Addr} {es : Array (Int × Value)} {ep : Nat} {t : SetTable}
theorem unseen_x {others : List Addr} {f : Addr} {ef : Array (Int × Value)} {pf : Nat} {tf : SetTable} {Q : Array (Int × Value) → Shared → Prop} (R : SetX w s.heap a es ep t)
    (ho : ∀ b ∈ others, ∃ es ep t, SetX w s.heap b es ep t) (F : SetX w s.heap f ef pf tf)
    (hQ : ∀ ys d h' pf' tf', ys.toList.Perm es.toList → Heap.SameBut f s.heap h' → SetX w h' f ef pf' tf' → Q ys { s with heap := h', drawn := d }) :
    wpAny (model P w) A (setWalkUnseen a others (some f)) Q E s := by
  have rf : ∀ ys d, ys.toList.Perm es.toList → Q ys { s with drawn := d } := fun ys d p => hQ ys d s.heap pf tf p (Heap.SameBut.refl f s.heap) F
  unfold setWalkUnseen
  refine wpAny_bind (wpAny_setState_of R.obj rfl R.fits ?_)
  dsimp only
  refine wpAny_bind (wpAny_byText ?_)
  by_cases hb : (w.params.followText "set-order" || (t.led && t.plain) || decide (es.size ≤ 1)) = true
  · refine wp_if_pos (c := (w.params.followText "set-order" || (t.led && t.plain) || decide (es.size ≤ 1)) = true) hb ?_
    exact walk_x R rf
  · refine wp_if_neg (c := (w.params.followText "set-order" || (t.led && t.plain) || decide (es.size ≤ 1)) = true) hb ?_
    have hnt : ¬ w.params.followText "set-order" = true := fun z => hb (by rw [z] <;> rfl)
    have hl : t.led = true := R.led.resolve_left hnt
    try refine wpAny_bind (wpAny_pure ?_)
    refine wpAny_bind (quiet_x _ (fun b hb' => (List.mem_cons.mp hb').elim (fun z => ⟨es, ep, t, z ▸ R⟩) (ho b)) ?_)
    refine wp_if_neg (c := (!true) = true) (by simp) ?_
    try refine wpAny_bind (wpAny_pure ?_)
    refine wpAny_bind (wpAny_rule ?_)
    try dsimp only
    refine wpAny_bind (wpAny_setState_of F.obj rfl F.fits ?_)
    dsimp only
    split
    · refine wpAny_bind (wpAny_storeSet_of F.obj rfl ?_ (fits_of_scanBound F.few))
      refine wpAny_pure ?_
      refine hQ es s.drawn _ _ _ (List.Perm.refl _) (Heap.SameBut.update s.heap f _) (F.perm (List.Perm.refl _) (store_at F.obj rfl) ?_ F.ris ?_)
      · exact F.fits
      · refine F.led.imp id fun z => ?_
        show (tf.led && t.led) = true
        rw [z, hl] <;> rfl
    · try refine wpAny_bind (wpAny_pure ?_)
      exact wpAny_pure (rf es s.drawn (List.Perm.refl _))
theorem unseen_n {others : List Addr} {Q : Array (Int × Value) → Shared → Prop} (R : SetX w s.heap a es ep t)
    (ho : ∀ b ∈ others, ∃ es ep t, SetX w s.heap b es ep t)
    (rf : ∀ ys d, ys.toList.Perm es.toList → Q ys { s with drawn := d }) :
    wpAny (model P w) A (setWalkUnseen a others none) Q E s := by
  unfold setWalkUnseen
  refine wpAny_bind (wpAny_setState_of R.obj rfl R.fits ?_)
  dsimp only
  refine wpAny_bind (wpAny_byText ?_)
  by_cases hb : (w.params.followText "set-order" || (t.led && t.plain) || decide (es.size ≤ 1)) = true
  · refine wp_if_pos (c := (w.params.followText "set-order" || (t.led && t.plain) || decide (es.size ≤ 1)) = true) hb ?_
    exact walk_x R rf
  · refine wp_if_neg (c := (w.params.followText "set-order" || (t.led && t.plain) || decide (es.size ≤ 1)) = true) hb ?_
    try refine wpAny_bind (wpAny_pure ?_)
    refine wpAny_bind (quiet_x _ (fun b hb' => (List.mem_cons.mp hb').elim (fun z => ⟨es, ep, t, z ▸ R⟩) (ho b)) ?_)
    refine wp_if_neg (c := (!true) = true) (by simp) ?_
    try refine wpAny_bind (wpAny_pure ?_)
    refine wpAny_bind (wpAny_rule ?_)
    try dsimp only
    try refine wpAny_bind (wpAny_pure ?_)
    exact wpAny_pure (rf es s.drawn (List.Perm.refl _))

theorem room_x {more : Nat} {Q : Unit → Shared → Prop} (R : SetX w s.heap a es ep t) (hm : (es.size + more) * 2 < 128)
    (hQ : ∀ h' es' ep' t', Heap.SameBut a s.heap h' → SetX w h' a es' ep' t' → es'.toList.Perm es.toList →
      ((t' = t ∧ (t.fill + more) * 5 < t.mask * 3) ∨ (t'.mask = SetTable.sizeAbove ((es.size + more) * 2) - 1 ∧ t'.dummies = #[])) → Q () { s with heap := h' }) :
    wpAny (model P w) A (setRoomFor a more) Q E s := by
  have hz : t.place.size = es.size := by
    have f := R.fits
    unfold SetTable.fits at f
    rw [Bool.and_eq_true, beq_iff_eq] at f
    exact f.1
  unfold setRoomFor
  refine wpAny_bind (wpAny_setState_of R.obj rfl R.fits ?_)
  dsimp only
  by_cases c : (t.fill + more) * 5 ≥ t.mask * 3
  · have e : t.roomFor more = some ((t.place.size + more) * 2) := if_pos c
    rw [e]
    dsimp only
    rw [hz]
    refine relay_x R hm (by omega) fun h' es' t' sb X p em ed _ => hQ h' es' _ t' sb X p (.inr ⟨em, ed⟩)
  · have e : t.roomFor more = none := if_neg c
    rw [e]
    dsimp only
    exact wpAny_pure (hQ s.heap es ep t (Heap.SameBut.refl a s.heap) R (List.Perm.refl _) (.inl ⟨rfl, by omega⟩))
end
end Cs

set_option Elab.async false
set_option linter.all false
set_option maxRecDepth 100000
set_option maxHeartbeats 1000000
namespace Cs
open PySem PySem.Spec PyProof.Rows L2
section
variable {P : Program} {w : World} {A : Around} {E : Value → Shared → Prop} {s : Shared}
abbrev keys (es : Array (Int × Value)) : List Int := es.toList.map keyOf
theorem keys_perm {x y : Array (Int × Value)} (p : x.toList.Perm y.toList) (k : Int) : k ∈ keys x ↔ k ∈ keys y := (p.map keyOf).mem_iff
theorem sb_trans {a : Addr} {h1 h2 h3 : Heap} (x : Heap.SameBut a h1 h2) (y : Heap.SameBut a h2 h3) : Heap.SameBut a h1 h3 := x.trans y
theorem sx_other {h h' : Heap} {a b : Addr} {es : Array (Int × Value)} {ep : Nat} {t : SetTable} (R : SetX w h b es ep t) (sb : Heap.SameBut a h h') (hne : b ≠ a) : SetX w h' b es ep t :=
  R.move fun o e => (sb.2 b hne).trans e
theorem sr_other {h h' : Heap} {a b : Addr} {S : Int → Bool} {n : Nat} (R : SetR w h b S n) (sb : Heap.SameBut a h h') (hne : b ≠ a) : SetR w h' b S n :=
  R.at fun o e => (sb.2 b hne).trans e

/-- adding the members of a walk, one by one -/
theorem add_all {r : Addr} (f : (Int × Value) → PUnit → Sem (ForInStep PUnit)) (K : Shared → Prop) (hK : ∀ s1 h', Heap.SameBut r s1.heap h' → K s1 → K { s1 with heap := h' })
    (hf : ∀ e k tk s1 Q', e = (hashInt k, Value.int k tk) → K s1 → (wpAny (model P w) A (setAddHashed r (.int k tk) (hashInt k)) (fun _ s2 => K s2 ∧ Q' (.yield ⟨⟩) s2) E s1) → wpAny (model P w) A (f e ⟨⟩) Q' E s1)
    (ys : Array (Int × Value)) (g : ∀ e ∈ ys.toList, GoodE e) {S : Int → Bool} {n : Nat} (R : SetR w s.heap r S n) (hn : n + ys.size + 1 < scanBound) (hs : K s) {Q : PUnit → Shared → Prop}
    (hQ : ∀ h' S' n', SetR w h' r S' n' → (∀ k, S' k = true ↔ S k = true ∨ k ∈ keys ys) → n' ≤ n + ys.size → Heap.SameBut r s.heap h' → K { s with heap := h' } → Q ⟨⟩ { s with heap := h' }) :
    wpAny (model P w) A (forIn ys ⟨⟩ f) Q E s := by
  refine MeetsSeq2.wpAny_forIn_array f (fun rest _ s' => ∃ h' S' n', s' = { s with heap := h' } ∧ SetR w h' r S' n' ∧ (∀ k, (S' k = true ∨ k ∈ rest.map keyOf) ↔ (S k = true ∨ k ∈ keys ys)) ∧ n' + rest.length ≤ n + ys.size ∧
    Heap.SameBut r s.heap h' ∧ K { s with heap := h' } ∧ ∀ e ∈ rest, GoodE e) Q ?turn ?fin ys ⟨⟩ ⟨s.heap, S, n, rfl, R, fun k => Iff.rfl, by rw [Array.length_toList]; exact Nat.le_refl _, Heap.SameBut.refl r s.heap, hs, g⟩
  case fin =>
    rintro ⟨⟩ s' ⟨h', S', n', rfl, R', m, l, sb, k, _⟩
    exact hQ h' S' n' R' (fun k => by simpa using m k) (by simpa using l) sb k
  case turn =>
    rintro e rest ⟨⟩ s' ⟨h', S', n', rfl, R', m, l, sb, kk, g'⟩
    obtain ⟨k, tk, e1, e2⟩ := g' e List.mem_cons_self
    obtain ⟨eh, ev⟩ := e
    simp only at e1 e2
    subst e1 e2
    rw [List.length_cons] at l
    refine hf _ k tk _ _ rfl kk ?_
    refine setR_add_hashed (s := { s with heap := h' }) R' (by omega) fun h2 sb2 R2 => ?_
    have k2 : K { s with heap := h2 } := hK { s with heap := h' } h2 sb2 kk
    refine ⟨k2, h2, _, _, rfl, R2, fun j => ?_, ?_, sb_trans sb sb2, k2, fun e he => g' e (List.mem_cons_of_mem _ he)⟩
    · rw [← m j, List.map_cons, List.mem_cons, Bool.or_eq_true, decide_eq_true_eq]
      show ((S' j = true ∨ j = k) ∨ _) ↔ (S' j = true ∨ (j = k ∨ _))
      exact or_assoc
    · have : (if S' k = true then n' else n' + 1) ≤ n' + 1 := by split <;> omega
      omega

/-- what is merged into a set with members -/
theorem merge_more {r o : Addr} {each : Sem Unit} {er eo : Array (Int × Value)} {pr po : Nat} {tr to : SetTable} {Q : Unit → Shared → Prop} (hro : o ≠ r) (R : SetX w s.heap r er pr tr) (O : SetX w s.heap o eo po to)
    (hne : er.size ≠ 0) (hroom : (er.size + eo.size) * 2 < 128)
    (heach : ∀ s' Q', SetX w s'.heap o eo po to → Q' () s' → wpAny (model P w) A each Q' E s')
    (hQ : ∀ h' d' S' n', SetR w h' r S' n' → (∀ k, S' k = true ↔ k ∈ keys er ∨ k ∈ keys eo) → n' ≤ er.size + eo.size → Heap.SameBut r s.heap h' → Q () { s with heap := h', drawn := d' }) :
    wpAny (model P w) A (setMerge r o each) Q E s := by
  unfold setMerge
  refine wp_if_neg (c := (r == o) = true) (by simpa using Ne.symm hro) ?_
  try refine wpAny_bind (wpAny_pure ?_)
  refine wpAny_bind (wpAny_setState_of O.obj rfl O.fits ?_)
  dsimp only
  by_cases he : eo.isEmpty = true
  · refine wp_if_pos (c := eo.isEmpty = true) he ?_
    refine wpAny_pure (hQ s.heap s.drawn _ _ (R.toR (S := fun k => decide (k ∈ keys er)) (fun k => decide_eq_true_iff) rfl) (fun k => ?_) (by omega) (Heap.SameBut.refl r s.heap))
    have : eo = #[] := by simpa using he
    subst this
    simp
  · refine wp_if_neg (c := eo.isEmpty = true) he ?_
    try refine wpAny_bind (wpAny_pure ?_)
    refine wpAny_bind (room_x R hroom fun h1 er1 pr1 tr1 sb1 R1 p1 _ => ?_)
    have O1 := sx_other O sb1 hro
    refine wpAny_bind (wpAny_setState_of R1.obj rfl R1.fits ?_)
    dsimp only
    have z1 := perm_size p1
    have hfill : (tr1.fill != 0) = true := by
      have f := R1.fits
      unfold SetTable.fits at f
      rw [Bool.and_eq_true, beq_iff_eq] at f
      have : tr1.fill ≠ 0 := by
        unfold SetTable.fill
        omega
      simpa using this
    have er' : tr1.road to = .oneByOne := if_pos hfill
    rw [er']
    dsimp only
    refine wpAny_bind (unseen_x (s := { s with heap := h1 }) O1 (fun b hb => by rw [List.mem_singleton.mp hb]; exact ⟨_, _, _, R1⟩) R1 fun ys d h2 pf tf py sb2 R2 => ?_)
    have O2 := sx_other O1 sb2 hro
    have zy := perm_size py
    refine wpAny_bind (add_all (s := { s with heap := h2, drawn := d }) (P := P) (A := A) (E := E) _ (fun s1 => SetX w s1.heap o eo po to) (fun s1 h' sb k => sx_other k sb hro) ?hf ys (fun e he => O.good e (py.mem_iff.mp he))
      (R2.toR (S := fun k => decide (k ∈ keys er1)) (fun k => decide_eq_true_iff) rfl) (by have : scanBound = 4096 := rfl; omega) O2 ?hQ)
    case hQ =>
      intro h3 S' n' R3 m3 l3 sb3 _
      refine wpAny_pure (hQ h3 d S' n' R3 (fun k => ?_) (by omega) (sb_trans sb1 (sb_trans sb2 sb3)))
      rw [m3 k, decide_eq_true_iff, keys_perm p1 k, keys_perm py k]
    case hf =>
      intro e k tk s1 Q' ee kk hwp
      subst ee
      dsimp only
      refine wpAny_bind (wpAny_holding (wpAny_mono hwp (fun b s2 hs2 => ?_) fun _ _ z => z))
      obtain ⟨k2, q2⟩ := hs2
      refine wpAny_bind (heach s2 _ k2 ?_)
      refine wpAny_bind (wpAny_setState_of k2.obj rfl k2.fits ?_)
      refine wp_if_neg (c := (po != po) = true) (by simp) ?_
      exact wpAny_pure q2
end
end Cs

set_option Elab.async false
set_option linter.all false
set_option maxRecDepth 100000
set_option maxHeartbeats 1000000
namespace Cs
open PySem PySem.Spec PyProof.Rows L2
section
variable {P : Program} {w : World} {A : Around} {E : Value → Shared → Prop} {s : Shared}
theorem SetX.permTo {h h' : Heap} {a b : Addr} {es es' : Array (Int × Value)} {t t' : SetTable} {ep ep' : Nat} (R : SetX w h a es ep t) (p : es'.toList.Perm es.toList)
    (o : h'.get? b = some { cls := .type "set", dict := none, data := .set es' ep' t', slots := #[] }) (f : t'.fits es'.size = true) (r : Ris t'.place.toList) (l : w.params.followText "set-order" = true ∨ t'.led = true) : SetX w h' b es' ep' t' :=
  ⟨o, fun e he => R.good e (p.mem_iff.mp he), (p.map keyOf).nodup_iff.mpr R.nd, by rw [perm_size p]; exact R.few, f, r, l⟩
theorem nil_of_perm {es : Array (Int × Value)} (p : es.toList.Perm (#[] : Array (Int × Value)).toList) : es = #[] := by
  have q := List.perm_nil.mp p
  simpa using q
theorem merge_fresh {r o : Addr} {each : Sem Unit} {eo : Array (Int × Value)} {pr po : Nat} {tr to : SetTable} {Q : Unit → Shared → Prop} (hro : o ≠ r) (R : SetX w s.heap r #[] pr tr)
    (hm : tr.mask = 7) (hdm : tr.dummies = #[]) (O : SetX w s.heap o eo po to) (h63 : eo.size ≤ 63)
    (hQ : ∀ h' es' ep' t', SetX w h' r es' ep' t' → es'.toList.Perm eo.toList → Heap.SameBut r s.heap h' → Q () { s with heap := h' }) :
    wpAny (model P w) A (setMerge r o each) Q E s := by
  unfold setMerge
  refine wp_if_neg (c := (r == o) = true) (by simpa using Ne.symm hro) ?_
  try refine wpAny_bind (wpAny_pure ?_)
  refine wpAny_bind (wpAny_setState_of O.obj rfl O.fits ?_)
  dsimp only
  by_cases he : eo.isEmpty = true
  · refine wp_if_pos (c := eo.isEmpty = true) he ?_
    have e0 : eo = #[] := by simpa using he
    subst e0
    exact wpAny_pure (hQ s.heap _ _ _ R (List.Perm.refl _) (Heap.SameBut.refl r s.heap))
  · refine wp_if_neg (c := eo.isEmpty = true) he ?_
    try refine wpAny_bind (wpAny_pure ?_)
    have fr : tr.fill = 0 := by
      have f := R.fits
      unfold SetTable.fits at f
      rw [Bool.and_eq_true, beq_iff_eq] at f
      have f1 : tr.place.size = 0 := f.1
      unfold SetTable.fill
      rw [hdm, f1]
      rfl
    refine wpAny_bind (room_x R (by show (0 + eo.size) * 2 < 128; omega) fun h1 er1 pr1 tr1 sb1 R1 p1 alt => ?_)
    have e1 := nil_of_perm p1
    subst e1
    have O1 := sx_other O sb1 hro
    have hM : Msk tr1.mask ∧ eo.size ≤ tr1.mask ∧ tr1.dummies = #[] := by
      rcases alt with ⟨et, hlt⟩ | ⟨em, ed⟩
      · subst et
        rw [fr, hm] at hlt
        exact ⟨.inl hm, by rw [hm]; omega, hdm⟩
      · have z : (#[] : Array (Int × Value)).size = 0 := rfl
        rw [z] at em
        obtain ⟨a1, a2, a3⟩ := above_ok (n := (0 + eo.size) * 2) (by omega)
        exact ⟨em ▸ a1, by omega, ed⟩
    obtain ⟨hM1, hM2, hM3⟩ := hM
    have fr1 : tr1.fill = 0 := by
      have f := R1.fits
      unfold SetTable.fits at f
      rw [Bool.and_eq_true, beq_iff_eq] at f
      have f1 : tr1.place.size = 0 := f.1
      unfold SetTable.fill
      rw [hM3, f1]
      rfl
    refine wpAny_bind (wpAny_setState_of R1.obj rfl R1.fits ?_)
    dsimp only
    have led : w.params.followText "set-order" = true ∨ (tr1.led && to.led) = true := by
      rcases R1.led with z | z
      · exact .inl z
      · rcases O1.led with y | y
        · exact .inl y
        · exact .inr (by rw [z, y] <;> rfl)
    have er : tr1.road to = if (tr1.mask == to.mask && to.dummies.isEmpty) = true then .slotForSlot else .clean := if_neg (by rw [fr1]; simp)
    by_cases c : (tr1.mask == to.mask && to.dummies.isEmpty) = true
    · rw [er, if_pos c]
      dsimp only
      refine wpAny_storeSet_of R1.obj rfl ?_ (fits_of_scanBound O.few)
      refine hQ _ _ _ _ (O1.permTo (List.Perm.refl _) (store_at R1.obj rfl) ?_ O1.ris led) (List.Perm.refl _) (sb_trans sb1 (Heap.SameBut.update h1 r _))
      exact O1.fits
    · rw [er, if_neg c]
      dsimp only
      obtain ⟨t', order, e, hp, em, ed, el, eR, ez⟩ := laid_ok hM1 (hs := eo.map (·.1)) (by rw [Array.size_map]; exact hM2) tr1.finger tr1.moves (tr1.led && to.led) (tr1.plain && to.plain)
      rw [Array.size_map] at hp ez
      have p2 := order_perm hp
      have z2 := perm_size p2
      rw [e]
      refine wpAny_bind ?_
      refine wp_if_neg (c := ((order.filterMap (eo[·]?)).size != eo.size) = true) (by rw [z2]; simp) ?_
      try refine wpAny_bind (wpAny_pure ?_)
      refine wpAny_pure ?_
      dsimp only
      refine wpAny_storeSet_of R1.obj rfl ?_ (fits_of_scanBound (by rw [z2]; exact O.few))
      refine hQ _ _ _ _ (O1.permTo p2 (store_at R1.obj rfl) ?_ eR (by rw [el]; exact led)) p2 (sb_trans sb1 (Heap.SameBut.update h1 r _))
      unfold SetTable.fits SetTable.fill
      rw [ed, z2, ez, em, Bool.and_eq_true, beq_iff_eq, decide_eq_true_eq]
      exact ⟨rfl, by show eo.size + 0 ≤ _; omega⟩

/-! ### the words of the class -/
abbrev newObjOf (w : World) : Obj := { cls := .type "set", dict := none, data := .set #[] 0 (.fresh 0 0 (!w.params.followText "set-order")) }
theorem fresh_x (h : Heap) : SetX w (h.push (newObjOf w)) h.objs.size #[] 0 (.fresh 0 0 (!w.params.followText "set-order")) :=
  ⟨Heap.get?_push_size _ rfl, fun e he => by simp at he, by simp, by decide, rfl, List.Pairwise.nil, by
    show _ ∨ (!w.params.followText "set-order") = true
    cases w.params.followText "set-order" <;> simp⟩
theorem SetX.ty {h : Heap} {a : Addr} {es : Array (Int × Value)} {ep : Nat} {t : SetTable} (R : SetX w h a es ep t) {s : Shared} (e : s.heap = h) : s.TypeIs (.ref a) "set" :=
  ⟨_, by rw [e]; exact R.obj, rfl⟩
theorem base_x {a : Addr} {Q : Value → Shared → Prop} (hT : s.TypeIs (.ref a) "set") (q : Q (.type "set") s) : wpAny (model P w) A (Builtin.Frozenset.baseOf a) Q E s := by
  unfold Builtin.Frozenset.baseOf
  refine wpAny_bind (wpAny_isInstance (b := true) hT sub_set_self ?_)
  exact wpAny_pure q
theorem any_x {a : Addr} {Q : Bool → Shared → Prop} (hT : s.TypeIs (.ref a) "set") (q : Q true s) : wpAny (model P w) A (Builtin.Frozenset.isAnySet (.ref a)) Q E s := by
  unfold Builtin.Frozenset.isAnySet
  refine wpAny_bind (wpAny_isInstance (b := true) hT sub_set_self ?_)
  exact wpAny_pure q
theorem new_x {Q : Value → Shared → Prop} (q : Q (.ref s.heap.objs.size) { s with heap := s.heap.push (newObjOf w) }) : wpAny (model P w) A (newSet (.type "set")) Q E s := by
  unfold newSet
  refine wpAny_bind (wpAny_byText ?_)
  dsimp only
  simp only [newObj]
  exact wpAny_bind (wpAny_alloc (wpAny_pure q))
theorem size_x {a : Addr} {es : Array (Int × Value)} {ep : Nat} {t : SetTable} {Q : Nat → Shared → Prop} (R : SetX w s.heap a es ep t) (q : Q es.size s) : wpAny (model P w) A (Builtin.Frozenset.sizeOf a) Q E s := by
  unfold Builtin.Frozenset.sizeOf setEntries
  exact wpAny_bind (wpAny_bind (wpAny_setState_of R.obj rfl R.fits (wpAny_pure (wpAny_pure q))))
theorem unchanged_x {id : String} {a : Addr} {es : Array (Int × Value)} {ep : Nat} {t : SetTable} {Q : Unit → Shared → Prop} (R : SetX w s.heap a es ep t) (q : Q () s) : wpAny (model P w) A (Builtin.Frozenset.unchanged id a ep) Q E s := by
  unfold Builtin.Frozenset.unchanged
  refine wpAny_bind (wpAny_setEpoch_of R.obj rfl R.fits ?_)
  exact wp_if_neg (c := (ep != ep) = true) (by simp) (wpAny_pure q)

/-- heaps in which all is as it was but what is new -/
def Old (h h' : Heap) : Prop := ∀ b o, h.get? b = some o → h'.get? b = some o
theorem old_push (h : Heap) (o : Obj) : Old h (h.push o) := fun _ _ e => Heap.get?_push_of_some o e
theorem old_but {h h' : Heap} {o : Obj} (sb : Heap.SameBut h.objs.size (h.push o) h') : Old h h' := fun b u e => by
  rw [sb.2 b (Nat.ne_of_lt (Heap.lt_size e))]
  exact Heap.get?_push_of_some o e
theorem copy_x {a : Addr} {es : Array (Int × Value)} {ep : Nat} {t : SetTable} {Q : Value → Shared → Prop} (R : SetX w s.heap a es ep t) (h63 : es.size ≤ 63)
    (hQ : ∀ h' es' ep' t', SetX w h' s.heap.objs.size es' ep' t' → es'.toList.Perm es.toList → Heap.SameBut s.heap.objs.size (s.heap.push (newObjOf w)) h' → Q (.ref s.heap.objs.size) { s with heap := h' }) :
    wpAny (model P w) A (Builtin.Frozenset.copyOf a) Q E s := by
  unfold Builtin.Frozenset.copyOf
  refine wpAny_bind (base_x (R.ty rfl) ?_)
  refine wpAny_bind (new_x ?_)
  refine wpAny_bind (wpAny_pure ?_)
  have hne : a ≠ s.heap.objs.size := Nat.ne_of_lt (Heap.lt_size R.obj)
  refine wpAny_bind (merge_fresh (s := { s with heap := s.heap.push (newObjOf w) }) hne (fresh_x s.heap) rfl rfl (R.move fun o e => old_push _ _ _ _ e) h63 fun h' es' ep' t' X p sb => ?_)
  exact wpAny_pure (hQ h' es' ep' t' X p sb)
end
end Cs

set_option Elab.async false
set_option linter.all false
set_option maxRecDepth 100000
set_option maxHeartbeats 1000000
namespace Cs
open PySem PySem.Spec PyProof.Rows L2
section
variable {P : Program} {w : World} {A : Around} {E : Value → Shared → Prop} {s : Shared}
/-- adding those of a walk that a test lets in -/
theorem add_some {r : Addr} (C : Int → Bool) (f : (Int × Value) → PUnit → Sem (ForInStep PUnit)) (K : Shared → Prop) (hK : ∀ s1 h', Heap.SameBut r s1.heap h' → K s1 → K { s1 with heap := h' })
    (hf : ∀ e k tk s1 Q', e = (hashInt k, Value.int k tk) → K s1 → (C k = true → wpAny (model P w) A (setAddHashed r (.int k tk) (hashInt k)) (fun _ s2 => K s2 ∧ Q' (.yield ⟨⟩) s2) E s1) → (C k = false → Q' (.yield ⟨⟩) s1) →
      wpAny (model P w) A (f e ⟨⟩) Q' E s1)
    (ys : Array (Int × Value)) (g : ∀ e ∈ ys.toList, GoodE e) {S : Int → Bool} {n : Nat} (R : SetR w s.heap r S n) (hn : n + ys.size + 1 < scanBound) (hs : K s) {Q : PUnit → Shared → Prop}
    (hQ : ∀ h' S' n', SetR w h' r S' n' → (∀ k, S' k = true ↔ S k = true ∨ (k ∈ keys ys ∧ C k = true)) → n' ≤ n + ys.size → Heap.SameBut r s.heap h' → K { s with heap := h' } → Q ⟨⟩ { s with heap := h' }) :
    wpAny (model P w) A (forIn ys ⟨⟩ f) Q E s := by
  refine MeetsSeq2.wpAny_forIn_array f (fun rest _ s' => ∃ h' S' n', s' = { s with heap := h' } ∧ SetR w h' r S' n' ∧ (∀ k, (S' k = true ∨ (k ∈ rest.map keyOf ∧ C k = true)) ↔ (S k = true ∨ (k ∈ keys ys ∧ C k = true))) ∧ n' + rest.length ≤ n + ys.size ∧
    Heap.SameBut r s.heap h' ∧ K { s with heap := h' } ∧ ∀ e ∈ rest, GoodE e) Q ?turn ?fin ys ⟨⟩ ⟨s.heap, S, n, rfl, R, fun k => Iff.rfl, by rw [Array.length_toList]; exact Nat.le_refl _, Heap.SameBut.refl r s.heap, hs, g⟩
  case fin =>
    rintro ⟨⟩ s' ⟨h', S', n', rfl, R', m, l, sb, k, _⟩
    exact hQ h' S' n' R' (fun k => by simpa using m k) (by simpa using l) sb k
  case turn =>
    rintro e rest ⟨⟩ s' ⟨h', S', n', rfl, R', m, l, sb, kk, g'⟩
    obtain ⟨k, tk, e1, e2⟩ := g' e List.mem_cons_self
    obtain ⟨eh, ev⟩ := e
    simp only at e1 e2
    subst e1 e2
    rw [List.length_cons] at l
    refine hf _ k tk _ _ rfl kk (fun hc => ?_) (fun hc => ?_)
    · refine setR_add_hashed (s := { s with heap := h' }) R' (by omega) fun h2 sb2 R2 => ?_
      have k2 : K { s with heap := h2 } := hK { s with heap := h' } h2 sb2 kk
      refine ⟨k2, h2, _, _, rfl, R2, fun j => ?_, ?_, sb_trans sb sb2, k2, fun e he => g' e (List.mem_cons_of_mem _ he)⟩
      · rw [← m j, List.map_cons, List.mem_cons, Bool.or_eq_true, decide_eq_true_eq]
        show ((S' j = true ∨ j = k) ∨ _) ↔ (S' j = true ∨ ((j = k ∨ _) ∧ _))
        constructor
        · rintro ((z | z) | ⟨z, z2⟩)
          · exact .inl z
          · exact .inr ⟨.inl z, z ▸ hc⟩
          · exact .inr ⟨.inr z, z2⟩
        · rintro (z | ⟨z | z, z2⟩)
          · exact .inl (.inl z)
          · exact .inl (.inr z)
          · exact .inr ⟨z, z2⟩
      · have : (if S' k = true then n' else n' + 1) ≤ n' + 1 := by split <;> omega
        omega
    · refine ⟨h', S', n', rfl, R', fun j => ?_, by omega, sb, kk, fun e he => g' e (List.mem_cons_of_mem _ he)⟩
      rw [← m j, List.map_cons, List.mem_cons]
      show (S' j = true ∨ _) ↔ (S' j = true ∨ ((j = k ∨ _) ∧ _))
      constructor
      · rintro (z | ⟨z, z2⟩)
        · exact .inl z
        · exact .inr ⟨.inr z, z2⟩
      · rintro (z | ⟨z | z, z2⟩)
        · exact .inl z
        · rw [z, hc] at z2
          cases z2
        · exact .inr ⟨z, z2⟩

theorem find_x {a : Addr} {es : Array (Int × Value)} {ep : Nat} {t : SetTable} {k : Int} {tk : Tok} {Q : Option Nat → Shared → Prop} (R : SetX w s.heap a es ep t)
    (h : ∀ i : Option Nat, (i = none ∧ k ∉ keys es ∨ ∃ j, i = some j ∧ (keys es)[j]? = some k) → Q i s) : wpAny (model P w) A (setFind a (.int k tk) (hashInt k)) Q E s := by
  have hkey : (intKind P w).is k (.int k tk) = true := intKind_is P w k tk
  have hel : ElemsOf (intKind P w) es.toList := good_elems R.good
  unfold setFind setFindIn
  refine wpAny_bind (wpAny_setState_of R.obj rfl R.fits ?_)
  dsimp only
  rw [byScan_of (x := .int k tk) rfl R.few hel]
  simp only [↓reduceIte]
  refine wpAny_bind (wpAny_rule ?_)
  refine wpAny_bind (wpAny_setScan_of (knd := intKind P w) hkey R.obj rfl R.fits hel ?_)
  cases hr : List.findIdx? (fun e => (intKind P w).is k e.2) es.toList with
  | none =>
    dsimp only
    refine wpAny_pure (h none (.inl ⟨rfl, fun z => ?_⟩))
    obtain ⟨e, he, q⟩ := (good_mem (P := P) (w := w) R.good k).1 z
    have c := List.findIdx?_eq_none_iff.mp hr e he
    rw [q] at c
    cases c
  | some j =>
    dsimp only
    obtain ⟨hj, pj, _⟩ := List.findIdx?_eq_some_iff_getElem.mp hr
    refine wpAny_pure (h (some (0 + j)) (.inr ⟨0 + j, rfl, ?_⟩))
    rw [Nat.zero_add, List.getElem?_map, List.getElem?_eq_getElem hj]
    have := (good_is (P := P) (w := w) (R.good _ (List.getElem_mem hj)) k).1 pj
    exact congrArg some this
theorem found_x {a : Addr} {es : Array (Int × Value)} {ep : Nat} {t : SetTable} {k : Int} {tk : Tok} {Q : Option Nat → Shared → Prop} (R : SetX w s.heap a es ep t)
    (h : ∀ i : Option Nat, i.isSome = decide (k ∈ keys es) → Q i s) : wpAny (model P w) A (setFind a (.int k tk) (hashInt k)) Q E s := by
  refine find_x R fun i hi => h i ?_
  rcases hi with ⟨rfl, z⟩ | ⟨j, rfl, z⟩
  · simp [z]
  · have : k ∈ keys es := List.mem_of_getElem? z
    simp [this]

/-- a & b -/
theorem and_x {id : String} {a b : Addr} {ea eb : Array (Int × Value)} {pa pb : Nat} {ta tb : SetTable} {Q : Value → Shared → Prop} (hne : b ≠ a) (RA : SetX w s.heap a ea pa ta) (RB : SetX w s.heap b eb pb tb)
    (hl : ea.size ≤ 63) (hl2 : eb.size ≤ 63)
    (hQ : ∀ h' d' S n, SetR w h' s.heap.objs.size S n → (∀ k, S k = true ↔ k ∈ keys ea ∧ k ∈ keys eb) → n ≤ 63 → Old s.heap h' → Q (.ref s.heap.objs.size) { s with heap := h', drawn := d' }) :
    wpAny (model P w) A (Builtin.Frozenset.intersection id a (.ref b)) Q E s := by
  have hsb : scanBound = 4096 := rfl
  have na : a ≠ s.heap.objs.size := Nat.ne_of_lt (Heap.lt_size RA.obj)
  have nb : b ≠ s.heap.objs.size := Nat.ne_of_lt (Heap.lt_size RB.obj)
  unfold Builtin.Frozenset.intersection
  refine wp_if_neg (c := ((Value.ref b == Value.ref a) = true)) (by simpa using hne) ?_
  try refine wpAny_bind (wpAny_pure ?_)
  refine wpAny_bind (base_x (RA.ty rfl) ?_)
  refine wpAny_bind (new_x ?_)
  refine wpAny_bind (wpAny_pure ?_)
  have RA1 : SetX w (s.heap.push (newObjOf w)) a ea pa ta := RA.move fun o e => old_push _ _ _ _ e
  have RB1 : SetX w (s.heap.push (newObjOf w)) b eb pb tb := RB.move fun o e => old_push _ _ _ _ e
  have R1 := fresh_x (w := w) s.heap
  refine wpAny_bind (wpAny_holding ?_)
  refine wpAny_bind (any_x (RB1.ty rfl) ?_)
  refine wp_if_pos (c := (true = true)) rfl ?_
  refine wpAny_bind (wpAny_pure ?_)
  refine wpAny_bind (size_x (s := { s with heap := s.heap.push (newObjOf w) }) RB1 ?_)
  refine wpAny_bind (size_x (s := { s with heap := s.heap.push (newObjOf w) }) RA1 ?_)
  have key : ∀ (q v : Addr) (eq ev : Array (Int × Value)) (pq pv : Nat) (tq tv : SetTable), SetX w (s.heap.push (newObjOf w)) q eq pq tq → SetX w (s.heap.push (newObjOf w)) v ev pv tv → ev.size ≤ 63 → q ≠ s.heap.objs.size → v ≠ s.heap.objs.size →
      (∀ k, k ∈ keys ev ∧ k ∈ keys eq ↔ k ∈ keys ea ∧ k ∈ keys eb) → wpAny (model P w) A (do
        let was ← setEpoch v
        for (h, x) in ← setWalkUnseen v [q, s.heap.objs.size] (some s.heap.objs.size) do
          holding [x] do
            if (← setFind q x h).isSome then
              let _ ← setAddHashed s.heap.objs.size x h
          Builtin.Frozenset.unchanged id v was) (fun _ s' => wpAny (model P w) A (pure (Value.ref s.heap.objs.size)) Q E s') E { s with heap := s.heap.push (newObjOf w) } := by
    intro q v eq ev pq pv tq tv RQ RV hv nq nv hk
    refine wpAny_bind (wpAny_setEpoch_of RV.obj rfl RV.fits ?_)
    refine wpAny_bind (unseen_x (s := { s with heap := s.heap.push (newObjOf w) }) RV (fun c hc => ?_) R1 fun ys d h2 pf tf py sb2 R2 => ?_)
    · rcases List.mem_cons.mp hc with z | z
      · exact ⟨_, _, _, z ▸ RQ⟩
      · rw [List.mem_singleton.mp z]
        exact ⟨_, _, _, R1⟩
    have RQ2 := sx_other RQ sb2 nq
    have RV2 := sx_other RV sb2 nv
    have zy := perm_size py
    refine wpAny_bind (add_some (P := P) (A := A) (E := E) (s := { s with heap := h2, drawn := d }) (r := s.heap.objs.size) (fun k => decide (k ∈ keys eq)) _ (fun s1 => SetX w s1.heap q eq pq tq ∧ SetX w s1.heap v ev pv tv) (fun s1 h' sb k => ⟨sx_other k.1 sb nq, sx_other k.2 sb nv⟩) ?hf ys
      (fun e he => RV.good e (py.mem_iff.mp he)) (R2.toR (S := fun _ => false) (fun k => by simp) rfl) (by show 0 + ys.size + 1 < scanBound; omega) ⟨RQ2, RV2⟩ ?hQ)
    case hQ =>
      intro h3 S' n' R3 m3 l3 sb3 _
      refine wpAny_pure (wpAny_pure (hQ h3 d S' n' R3 (fun k => ?_) ?_ ?_))
      · rw [m3 k, keys_perm py k, decide_eq_true_iff, ← hk k]
        simp
      · have : n' ≤ 0 + ys.size := l3
        omega
      · exact old_but (sb_trans sb2 sb3)
    case hf =>
      intro e k tk s1 Q' ee kk h1 h0
      subst ee
      dsimp only
      refine wpAny_bind (wpAny_holding ?_)
      refine wpAny_bind (found_x kk.1 fun i hi => ?_)
      by_cases c : k ∈ keys eq
      · refine wp_if_pos (by rw [hi]; exact decide_eq_true c) ?_
        refine wpAny_bind (wpAny_mono (h1 (decide_eq_true c)) (fun b s2 hs2 => ?_) fun _ _ z => z)
        refine wpAny_pure ?_
        refine wpAny_bind (unchanged_x hs2.1.2 ?_)
        exact wpAny_pure hs2.2
      · refine wp_if_neg (by rw [hi]; simpa using c) ?_
        refine wpAny_pure ?_
        refine wpAny_bind (unchanged_x kk.2 ?_)
        exact wpAny_pure (h0 (decide_eq_false c))
  by_cases c : eb.size > ea.size
  · rw [if_pos c]
    exact key b a eb ea pb pa tb ta RB1 RA1 hl nb na (fun k => Iff.rfl)
  · rw [if_neg c]
    exact key a b ea eb pa pb ta tb RA1 RB1 hl2 na nb (fun k => And.comm)
end
end Cs

set_option Elab.async false
set_option linter.all false
set_option maxRecDepth 100000
set_option maxHeartbeats 1000000
namespace Cs
open PySem PySem.Spec PyProof.Rows L2
section
variable {P : Program} {w : World} {A : Around} {E : Value → Shared → Prop} {s : Shared}
theorem map_out {α β : Type} (f : α → β) : ∀ (l : List α) (i : Nat), (l.map f).eraseIdx i = (l.eraseIdx i).map f
  | [], i => by simp
  | x :: l, 0 => by simp
  | x :: l, i + 1 => by simp [map_out f l i]
/-- a | b -/
theorem union_x {id : String} {a b : Addr} {ea eb : Array (Int × Value)} {pa pb : Nat} {ta tb : SetTable} {Q : Unit → Shared → Prop} (hne : b ≠ a) (RA : SetX w s.heap a ea pa ta) (RB : SetX w s.heap b eb pb tb)
    (ha : ea.size ≠ 0 ∨ (ea = #[] ∧ ta.mask = 7 ∧ ta.dummies = #[])) (hl : (ea.size + eb.size) * 2 < 128)
    (hQ : ∀ h' d' S n, SetR w h' a S n → (∀ k, S k = true ↔ k ∈ keys ea ∨ k ∈ keys eb) → n ≤ ea.size + eb.size → Heap.SameBut a s.heap h' → Q () { s with heap := h', drawn := d' }) :
    wpAny (model P w) A (Builtin.Frozenset.updateFrom id a (.ref b)) Q E s := by
  unfold Builtin.Frozenset.updateFrom
  refine wpAny_bind (any_x (RB.ty rfl) ?_)
  refine wp_if_pos (c := (true = true)) rfl ?_
  refine wpAny_bind (wpAny_pure ?_)
  refine wpAny_bind (wpAny_setEpoch_of RB.obj rfl RB.fits ?_)
  rcases ha with ha | ⟨e0, em, ed⟩
  · refine merge_more hne RA RB ha hl (fun s' Q' k q => unchanged_x k q) fun h' d' S' n' R m l sb => ?_
    exact hQ h' d' S' n' R m l sb
  · subst e0
    have z0 : (#[] : Array (Int × Value)).size = 0 := rfl
    refine merge_fresh hne RA em ed RB (by omega) fun h' es' ep' t' X p sb => ?_
    have z := perm_size p
    exact hQ h' s.drawn _ _ (X.toR (S := fun k => decide (k ∈ keys es')) (fun k => decide_eq_true_iff) rfl) (fun k => by rw [decide_eq_true_iff, keys_perm p k]; simp) (by omega) sb

/-- what is struck out -/
theorem discard_x {a : Addr} {es : Array (Int × Value)} {ep : Nat} {t : SetTable} {k : Int} {tk : Tok} {Q : Bool → Shared → Prop} (R : SetX w s.heap a es ep t)
    (hQ : ∀ b h' es' ep' t', SetX w h' a es' ep' t' → (∀ j, j ∈ keys es' ↔ j ∈ keys es ∧ j ≠ k) → es'.size ≤ es.size → Heap.SameBut a s.heap h' → Q b { s with heap := h' }) :
    wpAny (model P w) A (setDiscardHashed a (.int k tk) (hashInt k)) Q E s := by
  unfold setDiscardHashed
  refine wpAny_bind (find_x R fun i hi => ?_)
  rcases hi with ⟨rfl, z⟩ | ⟨i, rfl, z⟩
  · exact wpAny_pure (hQ false s.heap es ep t R (fun j => ⟨fun q => ⟨q, fun e => z (e ▸ q)⟩, fun q => q.1⟩) (Nat.le_refl _) (Heap.SameBut.refl a s.heap))
  · dsimp only
    refine wpAny_bind (wpAny_setState_of R.obj rfl R.fits ?_)
    dsimp only
    have hf := R.fits
    unfold SetTable.fits SetTable.fill at hf
    rw [Bool.and_eq_true, beq_iff_eq, decide_eq_true_eq] at hf
    have hi : i < es.toList.length := by
      have := (List.getElem?_eq_some_iff.mp z).1
      rw [List.length_map] at this
      exact this
    have hi2 : i < t.place.size := by rw [hf.1, ← Array.length_toList]; exact hi
    have er : ∀ {α : Type} (xs : Array α), (SetTable.eraseAt xs i).toList = xs.toList.eraseIdx i := fun xs => by
      unfold SetTable.eraseAt
      rw [List.eraseIdx_eq_take_drop_succ]
      simp [List.extract_eq_take_drop, List.take_of_length_le]
    have ed : t.drop i = { t with place := SetTable.eraseAt t.place i, dummies := SetTable.insertAt t.dummies (SetTable.below t.dummies t.place[i]) t.place[i] } := by
      unfold SetTable.drop
      rw [Array.getElem?_eq_getElem hi2]
    have l1 : (SetTable.eraseAt es i).size + 1 = es.size := by
      rw [← Array.length_toList, er, List.length_eraseIdx, if_pos hi, Array.length_toList]
      rw [Array.length_toList] at hi
      omega
    have l2 : (SetTable.eraseAt t.place i).size + 1 = t.place.size := by
      rw [← Array.length_toList, er, List.length_eraseIdx, Array.length_toList, if_pos hi2]
      omega
    have l3 : ∀ p x, (SetTable.insertAt t.dummies p x).size = t.dummies.size + 1 := fun p x => by
      have := (SetTable.insertAt_perm t.dummies p x).length_eq
      rw [Array.length_toList, Array.length_toList, Array.size_push] at this
      exact this
    refine wpAny_bind (wpAny_storeSet_of R.obj rfl ?_ (fits_of_scanBound (by have := R.few; omega)))
    refine wpAny_bind (wpAny_point ?_)
    have ek : keys (SetTable.eraseAt es i) = (keys es).eraseIdx i := by
      show (SetTable.eraseAt es i).toList.map keyOf = _
      rw [er]
      exact (map_out keyOf es.toList i).symm
    have pk : (k :: (keys es).eraseIdx i).Perm (keys es) := erase_perm (keys es) i k z
    have nd : (k :: (keys es).eraseIdx i).Nodup := pk.nodup_iff.mpr R.nd
    refine wpAny_pure (hQ true _ _ _ _ ⟨store_at R.obj rfl, fun e he => R.good e ?_, ?_, ?_, ?_, ?_, ?_⟩ (fun j => ?_) (by omega) (Heap.SameBut.update s.heap a _))
    · rw [er] at he
      exact List.mem_of_mem_eraseIdx he
    · show (keys (SetTable.eraseAt es i)).Nodup
      rw [ek]
      exact (List.nodup_cons.mp nd).2
    · have := R.few
      omega
    · rw [ed]
      unfold SetTable.fits SetTable.fill
      rw [Bool.and_eq_true, beq_iff_eq, decide_eq_true_eq]
      simp only
      rw [l3]
      exact ⟨by omega, by omega⟩
    · rw [ed]
      show Ris (SetTable.eraseAt t.place i).toList
      rw [er]
      exact List.Pairwise.sublist (List.eraseIdx_sublist _ _) R.ris
    · rw [ed]
      exact R.led
    · rw [ek, ← (pk.mem_iff (a := j)), List.mem_cons]
      constructor
      · intro q
        exact ⟨.inr q, fun e => (List.nodup_cons.mp nd).1 (e ▸ q)⟩
      · rintro ⟨q | q, q2⟩
        · exact absurd q q2
        · exact q

theorem strike_all {r : Addr} (f : (Int × Value) → PUnit → Sem (ForInStep PUnit)) (K : Shared → Prop) (hK : ∀ s1 h', Heap.SameBut r s1.heap h' → K s1 → K { s1 with heap := h' })
    (hf : ∀ e k tk s1 Q', e = (hashInt k, Value.int k tk) → K s1 → (wpAny (model P w) A (setDiscardHashed r (.int k tk) (hashInt k)) (fun _ s2 => K s2 ∧ Q' (.yield ⟨⟩) s2) E s1) → wpAny (model P w) A (f e ⟨⟩) Q' E s1)
    (ys : Array (Int × Value)) (g : ∀ e ∈ ys.toList, GoodE e) {es : Array (Int × Value)} {ep : Nat} {t : SetTable} (R : SetX w s.heap r es ep t) (hs : K s) {Q : PUnit → Shared → Prop}
    (hQ : ∀ h' es' ep' t', SetX w h' r es' ep' t' → (∀ k, k ∈ keys es' ↔ k ∈ keys es ∧ k ∉ keys ys) → es'.size ≤ es.size → Heap.SameBut r s.heap h' → K { s with heap := h' } → Q ⟨⟩ { s with heap := h' }) :
    wpAny (model P w) A (forIn ys ⟨⟩ f) Q E s := by
  refine MeetsSeq2.wpAny_forIn_array f (fun rest _ s' => ∃ h' es' ep' t', s' = { s with heap := h' } ∧ SetX w h' r es' ep' t' ∧ (∀ k, (k ∈ keys es' ∧ k ∉ rest.map keyOf) ↔ (k ∈ keys es ∧ k ∉ keys ys)) ∧ es'.size ≤ es.size ∧
    Heap.SameBut r s.heap h' ∧ K { s with heap := h' } ∧ ∀ e ∈ rest, GoodE e) Q ?turn ?fin ys ⟨⟩ ⟨s.heap, es, ep, t, rfl, R, fun k => Iff.rfl, Nat.le_refl _, Heap.SameBut.refl r s.heap, hs, g⟩
  case fin =>
    rintro ⟨⟩ s' ⟨h', es', ep', t', rfl, R', m, l, sb, k, _⟩
    exact hQ h' es' ep' t' R' (fun k => by simpa using m k) l sb k
  case turn =>
    rintro e rest ⟨⟩ s' ⟨h', es', ep', t', rfl, R', m, l, sb, kk, g'⟩
    obtain ⟨k, tk, e1, e2⟩ := g' e List.mem_cons_self
    obtain ⟨eh, ev⟩ := e
    simp only at e1 e2
    subst e1 e2
    refine hf _ k tk _ _ rfl kk ?_
    refine discard_x (s := { s with heap := h' }) R' fun b h2 es2 ep2 t2 R2 m2 l2 sb2 => ?_
    have k2 : K { s with heap := h2 } := hK { s with heap := h' } h2 sb2 kk
    refine ⟨k2, h2, _, _, _, rfl, R2, fun j => ?_, by omega, sb_trans sb sb2, k2, fun e he => g' e (List.mem_cons_of_mem _ he)⟩
    rw [← m j, List.map_cons, List.mem_cons, m2 j]
    show ((j ∈ keys es' ∧ j ≠ k) ∧ _) ↔ (j ∈ keys es' ∧ ¬ (j = k ∨ _))
    constructor
    · rintro ⟨⟨z1, z2⟩, z3⟩
      exact ⟨z1, fun z => z.elim z2 z3⟩
    · rintro ⟨z1, z2⟩
      exact ⟨⟨z1, fun z => z2 (.inl z)⟩, fun z => z2 (.inr z)⟩

theorem tidy_x {a : Addr} {es : Array (Int × Value)} {ep : Nat} {t : SetTable} {Q : Unit → Shared → Prop} (R : SetX w s.heap a es ep t) (hl : es.size ≤ 31)
    (hQ : ∀ h' es' ep' t', SetX w h' a es' ep' t' → es'.toList.Perm es.toList → Heap.SameBut a s.heap h' → Q () { s with heap := h' }) :
    wpAny (model P w) A (setTidy a) Q E s := by
  unfold setTidy
  refine wpAny_bind (wpAny_setState_of R.obj rfl R.fits ?_)
  dsimp only
  have eg : SetTable.grown es.size = es.size * 4 := if_neg (by omega)
  split
  · rw [eg]
    exact relay_x R (by omega) (by omega) fun h' es' t' sb X p _ _ _ => hQ h' es' _ t' X p sb
  · exact wpAny_pure (hQ s.heap es ep t R (List.Perm.refl _) (Heap.SameBut.refl a s.heap))
end
end Cs

set_option Elab.async false
set_option linter.all false
set_option maxRecDepth 100000
set_option maxHeartbeats 2000000
namespace Cs
open PySem PySem.Spec PyProof.Rows L2
section
variable {P : Program} {w : World} {A : Around} {E : Value → Shared → Prop} {s : Shared}
/-- a - b -/
theorem sub_x {id : String} {a b : Addr} {ea eb : Array (Int × Value)} {pa pb : Nat} {ta tb : SetTable} {Q : Value → Shared → Prop} (hne : b ≠ a) (RA : SetX w s.heap a ea pa ta) (RB : SetX w s.heap b eb pb tb)
    (hl : ea.size ≤ 31) (hl2 : eb.size ≤ 63)
    (hQ : ∀ h' d' S n, SetR w h' s.heap.objs.size S n → (∀ k, S k = true ↔ k ∈ keys ea ∧ k ∉ keys eb) → n ≤ 31 → Old s.heap h' → Q (.ref s.heap.objs.size) { s with heap := h', drawn := d' }) :
    wpAny (model P w) A (Builtin.Frozenset.difference id a (.ref b)) Q E s := by
  have hsb : scanBound = 4096 := rfl
  have na : a ≠ s.heap.objs.size := Nat.ne_of_lt (Heap.lt_size RA.obj)
  have nb : b ≠ s.heap.objs.size := Nat.ne_of_lt (Heap.lt_size RB.obj)
  unfold Builtin.Frozenset.difference
  dsimp only
  refine wpAny_bind (any_x (RB.ty rfl) ?_)
  refine wp_if_neg (c := ((!true) = true)) (by simp) ?_
  try refine wpAny_bind (wpAny_pure ?_)
  try refine wpAny_bind (wpAny_pure ?_)
  refine wp_if_neg (c := ((!true && b == sysModules) = true)) (by simp) ?_
  try refine wpAny_bind (wpAny_pure ?_)
  refine wp_if_pos (c := (true = true)) rfl ?_
  refine wpAny_bind (size_x RB ?_)
  refine wpAny_bind (size_x RA ?_)
  by_cases c : ea.size / 4 > eb.size
  · refine wp_if_pos c ?_
    refine wpAny_bind (wpAny_rule ?_)
    refine wpAny_bind (copy_x RA (by omega) fun h1 es1 ep1 t1 X1 p1 sb1 => ?_)
    have z1 := perm_size p1
    have RB1 : SetX w h1 b eb pb tb := RB.move fun o e => old_but sb1 _ _ e
    refine wpAny_bind (wpAny_pure ?_)
    refine wpAny_bind (wpAny_holding ?_)
    unfold Builtin.Frozenset.differenceUpdate
    refine wp_if_neg (c := ((Value.ref b == Value.ref s.heap.objs.size) = true)) (by simpa using nb) ?_
    try refine wpAny_bind (wpAny_pure ?_)
    refine wpAny_bind (any_x (RB1.ty rfl) ?_)
    refine wp_if_pos (c := (true = true)) rfl ?_
    refine wpAny_bind (wpAny_pure ?_)
    dsimp only
    refine wpAny_bind (size_x (s := { s with heap := h1 }) RB1 ?_)
    refine wpAny_bind (size_x (s := { s with heap := h1 }) X1 ?_)
    refine wp_if_neg (by omega) ?_
    try refine wpAny_bind (wpAny_pure ?_)
    refine wpAny_bind (wpAny_setEpoch_of RB1.obj rfl RB1.fits ?_)
    refine wpAny_bind (wpAny_holding ?_)
    refine wpAny_bind (unseen_n (s := { s with heap := h1 }) RB1 (fun x hx => by rw [List.mem_singleton.mp hx]; exact ⟨_, _, _, X1⟩) fun ys d py => ?_)
    refine wpAny_bind (strike_all (P := P) (A := A) (E := E) (s := { s with heap := h1, drawn := d }) (r := s.heap.objs.size) _ (fun s1 => SetX w s1.heap b eb pb tb) (fun s1 h' sb k => sx_other k sb nb) ?hf ys
      (fun e he => RB.good e (py.mem_iff.mp he)) X1 RB1 ?hQ)
    case hf =>
      intro e k tk s1 Q' ee kk hwp
      subst ee
      dsimp only
      refine wpAny_bind (wpAny_holding (wpAny_mono hwp (fun b s2 hs2 => ?_) fun _ _ z => z))
      obtain ⟨k2, q2⟩ := hs2
      refine wpAny_bind (unchanged_x k2 ?_)
      exact wpAny_pure q2
    case hQ =>
      intro h2 es2 ep2 t2 X2 m2 l2 sb2 _
      refine wpAny_pure ?_
      refine tidy_x (s := { s with heap := h2, drawn := d }) X2 (by omega) fun h3 es3 ep3 t3 X3 p3 sb3 => ?_
      have z3 := perm_size p3
      refine wpAny_pure (hQ h3 d _ _ (X3.toR (S := fun k => decide (k ∈ keys es3)) (fun k => decide_eq_true_iff) rfl) (fun k => ?_) (by omega) ?_)
      · rw [decide_eq_true_iff, keys_perm p3 k, m2 k, keys_perm p1 k, keys_perm py k]
      · exact old_but (sb_trans sb1 (sb_trans sb2 sb3))
  · refine wp_if_neg c ?_
    try refine wpAny_bind (wpAny_pure ?_)
    refine wpAny_bind (base_x (RA.ty rfl) ?_)
    refine wpAny_bind (new_x ?_)
    refine wpAny_bind (wpAny_pure ?_)
    have RA1 : SetX w (s.heap.push (newObjOf w)) a ea pa ta := RA.move fun o e => old_push _ _ _ _ e
    have RB1 : SetX w (s.heap.push (newObjOf w)) b eb pb tb := RB.move fun o e => old_push _ _ _ _ e
    have R1 := fresh_x (w := w) s.heap
    refine wpAny_bind (wpAny_setEpoch_of RA1.obj rfl RA1.fits ?_)
    refine wpAny_bind (wpAny_holding ?_)
    refine wpAny_bind (wp_if_pos (c := (true = true)) rfl ?_)
    refine unseen_x (s := { s with heap := s.heap.push (newObjOf w) }) RA1 (fun x hx => ?_) R1 fun ys d h2 pf tf py sb2 R2 => ?_
    · rcases List.mem_cons.mp hx with z | z
      · exact ⟨_, _, _, z ▸ RB1⟩
      · rw [List.mem_singleton.mp z]
        exact ⟨_, _, _, R1⟩
    have RA2 := sx_other RA1 sb2 na
    have RB2 := sx_other RB1 sb2 nb
    have zy := perm_size py
    refine wpAny_bind (add_some (P := P) (A := A) (E := E) (s := { s with heap := h2, drawn := d }) (r := s.heap.objs.size) (fun k => decide (k ∉ keys eb)) _ (fun s1 => SetX w s1.heap b eb pb tb ∧ SetX w s1.heap a ea pa ta)
      (fun s1 h' sb k => ⟨sx_other k.1 sb nb, sx_other k.2 sb na⟩) ?hf ys
      (fun e he => RA.good e (py.mem_iff.mp he)) (R2.toR (S := fun _ => false) (fun k => by simp) rfl) (by show 0 + ys.size + 1 < scanBound; omega) ⟨RB2, RA2⟩ ?hQ)
    case hQ =>
      intro h3 S' n' R3 m3 l3 sb3 _
      refine wpAny_pure (wpAny_pure (hQ h3 d S' n' R3 (fun k => ?_) ?_ ?_))
      · rw [m3 k, keys_perm py k, decide_eq_true_iff]
        simp
      · have : n' ≤ 0 + ys.size := l3
        omega
      · exact old_but (sb_trans sb2 sb3)
    case hf =>
      intro e k tk s1 Q' ee kk h1 h0
      subst ee
      dsimp only
      refine wpAny_bind (wpAny_holding ?_)
      refine wp_if_pos (c := (true = true)) rfl ?_
      refine wpAny_bind (found_x kk.1 fun i hi => ?_)
      refine wpAny_bind (wpAny_pure ?_)
      try refine wpAny_bind (wpAny_pure ?_)
      by_cases c : k ∈ keys eb
      · refine wp_if_neg (by rw [hi]; simp [c]) ?_
        refine wpAny_pure ?_
        refine wpAny_bind (unchanged_x kk.2 ?_)
        exact wpAny_pure (h0 (by simp [c]))
      · refine wp_if_pos (by rw [hi]; simp [c]) ?_
        refine wpAny_bind (wpAny_mono (h1 (decide_eq_true c)) (fun b s2 hs2 => ?_) fun _ _ z => z)
        refine wpAny_pure ?_
        refine wpAny_bind (unchanged_x hs2.1.2 ?_)
        exact wpAny_pure hs2.2
end
end Cs

set_option Elab.async false
set_option linter.all false
set_option maxRecDepth 100000
set_option maxHeartbeats 2000000
namespace Cs
open PySem PySem.Spec PyProof.Rows L2
theorem entry_and : entryFor table "set.__and__" = some Builtin.«frozenset.__and__» := entryFor_alias (id' := "frozenset.__and__") (by kernel_rfl) rfl (by decide +kernel) (by kernel_rfl)
theorem entry_or : entryFor table "set.__or__" = some Builtin.«frozenset.__or__» := entryFor_alias (id' := "frozenset.__or__") (by kernel_rfl) rfl (by decide +kernel) (by kernel_rfl)
theorem entry_sub : entryFor table "set.__sub__" = some Builtin.«frozenset.__sub__» := entryFor_alias (id' := "frozenset.__sub__") (by kernel_rfl) rfl (by decide +kernel) (by kernel_rfl)
end Cs

set_option Elab.async false
set_option linter.all false
set_option maxRecDepth 100000
set_option maxHeartbeats 2000000
namespace Cs
open PySem PySem.Spec PyProof.Rows L2
section
variable {P : Program} {w : World} {A : Around} {E : Value → Shared → Prop} {s : Shared}
theorem slot1_x {name : String} {v u : Value} {Q : Value × Value → Shared → Prop} (q : Q (v, u) s) : wpAny (model P w) A (Builtin.Frozenset.slot1 name ⟨[v, u], []⟩) Q E s := by
  unfold Builtin.Frozenset.slot1 slotArgs
  exact wpAny_pure q
theorem op_and_x {a b : Addr} {SA SB : Int → Bool} {na nb : Nat} {Q : Value → Shared → Prop} (hne : b ≠ a) (RA : SetR w s.heap a SA na) (RB : SetR w s.heap b SB nb) (hl : na ≤ 63) (hl2 : nb ≤ 63)
    (hQ : ∀ h' d' S n, SetR w h' s.heap.objs.size S n → (∀ k, S k = true ↔ SA k = true ∧ SB k = true) → n ≤ 63 → Old s.heap h' → Q (.ref s.heap.objs.size) { s with heap := h', drawn := d' }) :
    wpAny (model P w) A (binaryOp .BitAnd (.ref a) (.ref b)) Q E s := by
  obtain ⟨ea, pa, ta, XA, mA, zA⟩ := xOf RA
  obtain ⟨eb, pb, tb, XB, mB, zB⟩ := xOf RB
  have TA : s.TypeIs (.ref a) "set" := XA.ty rfl
  have TB : s.TypeIs (.ref b) "set" := XB.ty rfl
  refine wpAny_binaryOp_same (op := .BitAnd) TA TB F.fills_set_and F.slot_set_and ?_
  refine wpAny_call_entry F.slot_set_and TA entry_and ?_ (F.args_set_and_2 _ _)
  refine wpAny_bind (slot1_x ?_)
  dsimp only
  refine wpAny_bind (wpAny_bind (any_x TA ?_))
  show wpAny _ _ (Builtin.Frozenset.isAnySet (.ref b)) _ _ _
  refine any_x TB ?_
  refine wp_if_neg (c := ((!true) = true)) (by simp) ?_
  refine wpAny_bind (wpAny_pure ?_)
  refine wpAny_bind (and_x hne XA XB (by omega) (by omega) fun h' d' S n R m l o => ?_)
  refine wpAny_pure ⟨_, rfl, (fun z => nomatch z), hQ h' d' S n R (fun k => ?_) l o⟩
  rw [m k, mA k, mB k]
theorem op_or_x {a b : Addr} {SA SB : Int → Bool} {na nb : Nat} {Q : Value → Shared → Prop} (hne : b ≠ a) (RA : SetR w s.heap a SA na) (RB : SetR w s.heap b SB nb) (hl : na + nb ≤ 63)
    (hQ : ∀ h' d' S n, SetR w h' s.heap.objs.size S n → (∀ k, S k = true ↔ SA k = true ∨ SB k = true) → n ≤ na + nb → Old s.heap h' → Q (.ref s.heap.objs.size) { s with heap := h', drawn := d' }) :
    wpAny (model P w) A (binaryOp .BitOr (.ref a) (.ref b)) Q E s := by
  obtain ⟨ea, pa, ta, XA, mA, zA⟩ := xOf RA
  obtain ⟨eb, pb, tb, XB, mB, zB⟩ := xOf RB
  have TA : s.TypeIs (.ref a) "set" := XA.ty rfl
  have TB : s.TypeIs (.ref b) "set" := XB.ty rfl
  have hbs : b ≠ s.heap.objs.size := Nat.ne_of_lt (Heap.lt_size XB.obj)
  refine wpAny_binaryOp_same (op := .BitOr) TA TB F.fills_set_or F.slot_set_or ?_
  refine wpAny_call_entry F.slot_set_or TA entry_or ?_ (F.args_set_or_2 _ _)
  refine wpAny_bind (slot1_x ?_)
  dsimp only
  refine wpAny_bind (wpAny_bind (any_x TA ?_))
  show wpAny _ _ (Builtin.Frozenset.isAnySet (.ref b)) _ _ _
  refine any_x TB ?_
  refine wp_if_neg (c := ((!true) = true)) (by simp) ?_
  refine wpAny_bind (wpAny_pure ?_)
  refine wpAny_bind ?_
  by_cases he : ea = #[]
  · subst he
    refine wpAny_bind (m := Builtin.Frozenset.copyOf a) ?_
    unfold Builtin.Frozenset.copyOf
    refine wpAny_bind (base_x TA ?_)
    refine wpAny_bind (new_x ?_)
    refine wpAny_bind (wpAny_pure ?_)
    have hae : a ≠ s.heap.objs.size := Nat.ne_of_lt (Heap.lt_size XA.obj)
    have XA1 : SetX w (s.heap.push (newObjOf w)) a #[] pa ta := XA.move fun o e => old_push _ _ _ _ e
    have XB1 : SetX w (s.heap.push (newObjOf w)) b eb pb tb := XB.move fun o e => old_push _ _ _ _ e
    refine wpAny_bind ?_
    unfold setMerge
    refine wp_if_neg (c := (s.heap.objs.size == a) = true) (by simpa using hae.symm) ?_
    try refine wpAny_bind (wpAny_pure ?_)
    refine wpAny_bind (wpAny_setState_of XA1.obj rfl XA1.fits ?_)
    dsimp only
    refine wp_if_pos (c := (#[] : Array (Int × Value)).isEmpty = true) rfl ?_
    refine wpAny_pure (wpAny_pure ?_)
    refine wp_if_pos (c := ((Value.ref b != Value.ref a) = true)) (by simpa using hne) ?_
    refine wpAny_bind (wpAny_pure ?_)
    have z0 : (#[] : Array (Int × Value)).size = 0 := rfl
    refine wpAny_bind (wpAny_holding (union_x (s := { s with heap := s.heap.push (newObjOf w) }) hbs (fresh_x s.heap) XB1 (.inr ⟨rfl, rfl, rfl⟩) (by omega) fun h' d' S n R m l sb => ?_))
    refine wpAny_pure (wpAny_pure ⟨_, rfl, (fun z => nomatch z), hQ h' d' S n R (fun k => ?_) (by omega) (old_but sb)⟩)
    rw [m k, mA k, mB k]
  · have hz : ea.size ≠ 0 := fun z => he (by simpa using z)
    refine wpAny_bind (m := Builtin.Frozenset.copyOf a) (copy_x XA (by omega) fun h1 es1 ep1 t1 X1 p1 sb1 => ?_)
    have z1 := perm_size p1
    have XB1 : SetX w h1 b eb pb tb := XB.move fun o e => old_but sb1 _ _ e
    refine wp_if_pos (c := ((Value.ref b != Value.ref a) = true)) (by simpa using hne) ?_
    refine wpAny_bind (wpAny_pure ?_)
    refine wpAny_bind (wpAny_holding (union_x (s := { s with heap := h1 }) hbs X1 XB1 (.inl (by omega)) (by omega) fun h' d' S n R m l sb => ?_))
    refine wpAny_pure (wpAny_pure ⟨_, rfl, (fun z => nomatch z), hQ h' d' S n R (fun k => ?_) (by omega) (old_but (sb_trans sb1 sb))⟩)
    rw [m k, keys_perm p1 k, mA k, mB k]
theorem op_sub_x {a b : Addr} {SA SB : Int → Bool} {na nb : Nat} {Q : Value → Shared → Prop} (hne : b ≠ a) (RA : SetR w s.heap a SA na) (RB : SetR w s.heap b SB nb) (hl : na ≤ 31) (hl2 : nb ≤ 63)
    (hQ : ∀ h' d' S n, SetR w h' s.heap.objs.size S n → (∀ k, S k = true ↔ SA k = true ∧ SB k = false) → n ≤ 31 → Old s.heap h' → Q (.ref s.heap.objs.size) { s with heap := h', drawn := d' }) :
    wpAny (model P w) A (binaryOp .Sub (.ref a) (.ref b)) Q E s := by
  obtain ⟨ea, pa, ta, XA, mA, zA⟩ := xOf RA
  obtain ⟨eb, pb, tb, XB, mB, zB⟩ := xOf RB
  have TA : s.TypeIs (.ref a) "set" := XA.ty rfl
  have TB : s.TypeIs (.ref b) "set" := XB.ty rfl
  refine wpAny_binaryOp_same (op := .Sub) TA TB F.fills_set_sub F.slot_set_sub ?_
  refine wpAny_call_entry F.slot_set_sub TA entry_sub ?_ (F.args_set_sub_2 _ _)
  refine wpAny_bind (slot1_x ?_)
  dsimp only
  refine wpAny_bind (wpAny_bind (any_x TA ?_))
  show wpAny _ _ (Builtin.Frozenset.isAnySet (.ref b)) _ _ _
  refine any_x TB ?_
  refine wp_if_neg (c := ((!true) = true)) (by simp) ?_
  refine wpAny_bind (wpAny_pure ?_)
  refine wpAny_bind (sub_x hne XA XB (by omega) (by omega) fun h' d' S n R m l o => ?_)
  refine wpAny_pure ⟨_, rfl, (fun z => nomatch z), hQ h' d' S n R (fun k => ?_) l o⟩
  rw [m k, mA k, ← mB k]
  simp
end
end Cs

set_option Elab.async false
set_option linter.all false
set_option maxRecDepth 100000
set_option maxHeartbeats 3200000
namespace Cs
open PySem PySem.Spec PyProof.Rows L2
section
variable {P : Program} {w : World} {A : Around} {E : Value → Shared → Prop} {s : Shared}
/-- set(l), l a list of ints: made empty, then its items one by one -/
theorem set_of_list {l : Addr} {items : Array Value} (ns : List Int) {Q : Value → Shared → Prop} (quiet : A.handled = none) (isl : s.heap.IsList l items) (hints : IntsAre items.toList ns) (room : ns.length + 1 < scanBound)
    (fin : ∀ (h' : Heap) (tk c : Nat), SetR w h' s.heap.objs.size (fun j => decide (j ∈ ns)) c → c ≤ ns.length → Old s.heap h' → Q (.ref s.heap.objs.size) { s with heap := h', toks := tk }) :
    wpAny (model P w) A (call (.type "set") [.ref l]) Q E s := by
  have many : items.size = ns.length := (Array.length_toList (xs := items)).symm.trans (IntsAre.length hints)
  have cs := F.called_set
  obtain ⟨mc, mt, mro⟩ := cs.mro
  have made := cs.made
  have under := cs.sub
  refine wpAny_call (codeAny_of_tree ?_)
  show wpAny _ _ (callAny (.type "set") ⟨[.ref l], []⟩) _ _ _
  refine wpAny_pure ⟨Code.quiet_builtin _ (by decide +kernel), ?_⟩
  refine codeAny_builtin F.entry_type_call ?_
  rw [Around.under_plain (weight_type_call_type "set" [Value.ref l] []) rfl]
  have k1 := cs.notType
  have k2 := cs.canCreate
  have k3 := F.typeCall_set_1 (.ref l)
  repeat (any_goals (first | assumption | wp_step))
  refine codeAny_mono (code_set_led1 (.ref l) (E := E) (Q₁ := fun o z => o = .ref s.heap.objs.size ∧ z = { s with heap := s.heap.push (newObjOf w) }) ⟨rfl, rfl⟩) fun r z hz => ?_
  cases r with
  | error e => exact hz
  | ok fl =>
    cases fl with
    | ret o =>
      obtain ⟨rfl, rfl⟩ := hz
      have here : (s.heap.push (newObjOf w)).get? s.heap.objs.size = some (newObjOf w) := Heap.get?_push_size _ rfl
      have ty : Shared.TypeIs { s with heap := s.heap.push (newObjOf w) } (.ref s.heap.objs.size) "set" := ⟨_, here, rfl⟩
      have k4 := cs.init.lookup
      have k5 := cs.init.bind (.ref s.heap.objs.size)
      repeat (any_goals (first | assumption | wp_step))
      refine codeAny_mono (codeAny_call_builtin (R := wants (fun r y => r = .none ∧ ∃ h' tk c, y = { s with heap := h', toks := tk } ∧ SetR w h' s.heap.objs.size (fun j => decide (j ∈ ns)) c ∧ c ≤ ns.length ∧ Old s.heap h') E)
        cs.init.plain F.entry_set_init (check_set_init_1 ty ?_)) fun r2 y hy => ?_
      · obtain ⟨⟨oc, od, oda, osl⟩, lo, lc, ln, ld⟩ := isl
        simp only at lc ld
        subst lc ld
        have isl2 : (s.heap.push (newObjOf w)).IsList l items := ⟨_, Heap.get?_push_of_some _ lo, rfl, ln, rfl⟩
        have ll : l < s.heap.objs.size := Heap.lt_size lo
        have isl3 := Heap.get?_push_of_some (newObjOf w) lo
        have n1 := PySem.F.sub_list_set
        have n2 := PySem.F.sub_list_frozenset
        have n3 : (Value.type "list" == Value.type "dict") = false := by decide
        unfold Builtin.«set.__init__» noKeywords Builtin.Frozenset.updateFrom
        generalize hp : pyIter = iterOf
        wp_walk
        subst hp
        refine wpAny_pyIter_list isl2 ?_
        refine wpAny_bind (wpAny_runValue ?_)
        have q3 : A.in1.in1.in1.handled = none := by simp [quiet]
        have sz : (s.heap.push (newObjOf w)).objs.size = s.heap.objs.size + 1 := Heap.size_push ..
        have apart : l ≠ (s.heap.push (newObjOf w)).objs.size := by
          rw [sz]
          exact Nat.ne_of_lt (Nat.lt_succ_of_lt ll)
        have away : s.heap.objs.size ∉ [(s.heap.push (newObjOf w)).objs.size, l] := by
          rw [sz]
          simp only [List.mem_cons, List.not_mem_nil, or_false, not_or]
          exact ⟨Nat.ne_of_lt (Nat.lt_succ_self _), Nat.ne_of_gt ll⟩
        have val : ∀ (i : Nat) (v : Value), items[i]? = some v → ∃ k t, ns[i]? = some k ∧ v = .int k t := fun i v hv => by
          have hi : i < ns.length := by rw [← many]; exact (Array.getElem?_eq_some_iff.mp hv).1
          obtain ⟨t, e⟩ := IntsAre.int_at hints i v (by rw [Array.getElem?_toList]; exact hv)
          exact ⟨ns[i], t, List.getElem?_eq_getElem hi, by rw [e, List.getD_eq_getElem?_getD, List.getElem?_eq_getElem hi] <;> rfl⟩
        refine set_update_ints ((Walks.list q3 _ l apart items).toS) s.heap.objs.size away ns many room val (items.size - 0) 0 _ (by omega) (Nat.zero_le _) ⟨⟨_, Heap.get?_push_size _ rfl, rfl, rfl⟩, (isl2.push _)⟩ ?start ?stop
        case start => exact ⟨0, Nat.le_refl 0, setR_new_at (Heap.get?_push_of_some _ here)⟩
        case stop =>
          intro s2 c2 hm hc hS
          obtain ⟨h2, g2, d2, t2, o2⟩ := s2
          have eg : g2 = s.gens := hm.gens
          have ed : d2 = s.drawn := hm.drawn
          have eo : o2 = s.os := hm.os
          subst eg ed eo
          show wpAny _ _ _ _ _ _
          refine wpAny_pure ?_
          show wpAny _ _ (ret Value.none) _ _ _
          refine wpAny_pure ⟨rfl, h2, t2, c2, rfl, hS, by omega, fun b u e => ?_⟩
          have hb := Heap.lt_size e
          refine hm.heap b u ?_ (Heap.get?_push_of_some _ (Heap.get?_push_of_some _ e))
          rw [sz]
          simp only [List.mem_cons, List.not_mem_nil, or_false, not_or]
          exact ⟨Nat.ne_of_lt hb, Nat.ne_of_lt (Nat.lt_succ_of_lt hb)⟩
      · cases r2 with
        | error e => exact hy
        | ok f2 =>
          cases f2 with
          | ret r =>
            obtain ⟨rfl, h', tk, c, rfl, hS, hc, old⟩ := hy
            repeat (any_goals (first | assumption | wp_step))
            exact fin h' tk c hS hc old
          | _ => exact hy.elim
    | _ => exact hz.elim
end
end Cs

set_option Elab.async false
set_option linter.all false
set_option maxRecDepth 100000
set_option maxHeartbeats 2000000
namespace Cs
open PySem PySem.Spec PyProof.Rows L2
section
variable {X : Cx}
/-- set(l) -/
def rSetI (K : PySem.W.Frag) (w : World) : List V → Hp → VK → Prop := fun xs H Q => ∃ (l : Addr) (ns : List Int), xs = [V.ref l] ∧ SqL K H l (ns.map V.int) ∧ ns.length ≤ 4000 ∧
  ∀ (p : Addr) (c : Nat), H p = none → c ≤ ns.length → Q (.ref p) (upd H p (SetO w p (fun j => decide (j ∈ ns)) c))
theorem cr_setI (hc : X.calm = true) : CallR X (.type "set") (rSetI X.K X.w) := by
  intro pins s σ H xs us Q I r h
  obtain ⟨l, ns, rfl, hq, hl, q⟩ := h
  rw [Vals.ref1 r]
  obtain ⟨its, rv, pl, hz⟩ := I.list hq
  refine set_of_list ns (I.ok.hd hc) pl.isList (by simpa using ints_of_vals rv) (by have : scanBound = 4096 := rfl; omega) fun h' tk c hS hcn old => ?_
  exact ⟨.ref _, upd H s.heap.objs.size (SetO X.w s.heap.objs.size (fun j => decide (j ∈ ns)) c), I.laid (t' := tk) old (Nat.le_refl _) (setO_new hS), rfl, q _ c (I.hok.fresh (Nat.le_refl _)) hcn⟩
theorem laidD {pins : List (Addr × Obj)} {σ : L2.St} {H : Hp} {s : Shared} {h' : Heap} {d' : Drawn} {S : Int → Bool} {n : Nat} (I : Inv X pins σ H s) (old : Old s.heap h') (R : SetR X.w h' s.heap.objs.size S n) :
    Inv X pins σ (upd H s.heap.objs.size (SetO X.w s.heap.objs.size S n)) { s with heap := h', drawn := d' } :=
  I.call (ch := []) (g' := s.gens) (t' := s.toks) (Un.laid old (Nat.le_refl _) (I.hok.fresh (Nat.le_refl _))) (I.hok.laid old (Nat.le_refl _) (setO_new R)) I.bare (fun _ z => nomatch z)
/-- a & b, a | b, a - b of two sets of ints -/
def rSetOp (w : World) (most : Nat → Nat → Prop) (mem : (Int → Bool) → (Int → Bool) → Int → Prop) : V → V → Hp → VK → Prop := fun x y H Q => ∃ (a b : Addr) (SA SB : Int → Bool) (na nb : Nat), x = V.ref a ∧ y = V.ref b ∧ b ≠ a ∧
  H a = some (SetO w a SA na) ∧ H b = some (SetO w b SB nb) ∧ most na nb ∧
  ∀ (p : Addr) (S : Int → Bool) (n : Nat), H p = none → (∀ k, S k = true ↔ mem SA SB k) → n ≤ 63 → Q (.ref p) (upd H p (SetO w p S n))
abbrev mAnd : Nat → Nat → Prop := fun na nb => na ≤ 63 ∧ nb ≤ 63
abbrev mOr : Nat → Nat → Prop := fun na nb => na + nb ≤ 63
abbrev mSub : Nat → Nat → Prop := fun na nb => na ≤ 31 ∧ nb ≤ 63
abbrev eAnd : (Int → Bool) → (Int → Bool) → Int → Prop := fun A B k => A k = true ∧ B k = true
abbrev eOr : (Int → Bool) → (Int → Bool) → Int → Prop := fun A B k => A k = true ∨ B k = true
abbrev eSub : (Int → Bool) → (Int → Bool) → Int → Prop := fun A B k => A k = true ∧ B k = false
theorem op_sand : OpR X (binaryOp .BitAnd) (rSetOp X.w mAnd eAnd) := by
  intro pins s σ H x y v u Q I rx ry h
  obtain ⟨a, b, SA, SB, na, nb, rfl, rfl, hne, ha, hb, hm, q⟩ := h
  cases rx
  cases ry
  exact op_and_x hne (setO_get I ha) (setO_get I hb) hm.1 hm.2 fun h' d' S n R m l old => ⟨.ref _, _, laidD I old R, rfl, q _ S n (I.hok.fresh (Nat.le_refl _)) m l⟩
theorem op_sor : OpR X (binaryOp .BitOr) (rSetOp X.w mOr eOr) := by
  intro pins s σ H x y v u Q I rx ry h
  obtain ⟨a, b, SA, SB, na, nb, rfl, rfl, hne, ha, hb, hm, q⟩ := h
  cases rx
  cases ry
  have hm' : na + nb ≤ 63 := hm
  exact op_or_x hne (setO_get I ha) (setO_get I hb) hm fun h' d' S n R m l old => ⟨.ref _, _, laidD I old R, rfl, q _ S n (I.hok.fresh (Nat.le_refl _)) m (by omega)⟩
theorem op_ssub : OpR X (binaryOp .Sub) (rSetOp X.w mSub eSub) := by
  intro pins s σ H x y v u Q I rx ry h
  obtain ⟨a, b, SA, SB, na, nb, rfl, rfl, hne, ha, hb, hm, q⟩ := h
  cases rx
  cases ry
  exact op_sub_x hne (setO_get I ha) (setO_get I hb) hm.1 hm.2 fun h' d' S n R m l old => ⟨.ref _, _, laidD I old R, rfl, q _ S n (I.hok.fresh (Nat.le_refl _)) m (by omega)⟩
/-- len(s) of a set of ints: none where it has no members -/
def rLenSet (w : World) : List V → Hp → VK → Prop := fun xs H Q => ∃ (a : Addr) (S : Int → Bool) (n : Nat), xs = [V.ref a] ∧ H a = some (SetO w a S n) ∧ (∀ c : Nat, (c = 0 ↔ ∀ k, S k = false) → Q (.int (c : Int)) H)
theorem call_len_sI : CallR X (.builtin "len") (rLenSet X.w) := by
  intro pins s σ H xs us Q I r h
  obtain ⟨a, S, n, rfl, ha, q⟩ := h
  rw [Vals.ref1 r]
  obtain ⟨es, ep, t, R, m, hn⟩ := xOf (setO_get I ha)
  refine call_len_set R.obj ⟨rfl, rfl, rfl⟩ rfl R.fits (by have := R.few; have : scanBound = 4096 := rfl; omega) ⟨.int (es.size : Nat), H, I.tok _, ⟨_, rfl⟩, q _ ?_⟩
  constructor
  · intro z k
    have e : es = #[] := by simpa using z
    subst e
    cases c : S k with
    | false => rfl
    | true => exact absurd ((m k).1 c) (by simp)
  · intro z
    cases c : es.toList with
    | nil =>
      rw [← Array.length_toList, c]
      rfl
    | cons e r =>
      have : S (keyOf e) = true := (m _).2 (by rw [c]; simp)
      rw [z] at this
      cases this
end
end Cs

set_option Elab.async false
set_option linter.all false
set_option maxRecDepth 100000
set_option maxHeartbeats 2000000
/-! != of two lists whose items are equal, deep -/
namespace Cs
open PySem PySem.Spec PyProof.Rows L2
open AutoSeq1 (wpAny_loadPart')
open MeetsSeq MeetsSeq2 MeetsSeq3 SeqRoads2 SeqAt
section
variable {prog : Program} {w : World}
abbrev seqO (us : Array Value) (n : Nat) (dd : Option Addr) (sl : Array (Option Value)) : Obj := { cls := .type "list", dict := dd, data := .seq us n, slots := sl }
abbrev AllP (prog : Program) (w : World) (A : Around) (s : Shared) (us ws : Array Value) : Prop := ∀ j (h1 : j < us.size) (h2 : j < ws.size), EqP prog w A s us[j] ws[j] true
theorem ne_stepP (a c : Addr) (us ws : Array Value) (n m : Nat) (d1 d2 : Option Addr) (s1 s2 : Array (Option Value)) (eq : us.size = ws.size) :
    ∀ (k i : Nat), us.size - i = k → MeetsIn prog w (Builtin.«list.__eq__.loop» ⟨[.ref a, .ref c, rawInt i, rawInt 3], []⟩)
      (fun A R s => s.heap.get? a = some (seqO us n d1 s1) ∧ s.heap.get? c = some (seqO ws m d2 s2) ∧ AllP prog w A.in1 s us ws ∧ R (.ok (.ret (.bool false))) s) := by
  intro k
  induction k with
  | zero =>
    intro i le A R s h
    obtain ⟨hp, g, d, tk, os⟩ := s
    obtain ⟨ha, hc, _, q⟩ := h
    wp_walk using wpAny_loadPart' ha, wpAny_loadPart' hc
    rw [show us[((i : Nat) : Int).toNat]? = none by simp; omega, show ws[((i : Nat) : Int).toNat]? = none by simp; omega]
    wp_walk using wpAny_loadPart' ha, wpAny_loadPart' hc
    show R (.ok (.ret (.bool (us.size != ws.size)))) _
    rw [eq]
    simpa using q
  | succ k ih =>
    intro i le A R s h
    obtain ⟨hp, g, d, tk, os⟩ := s
    obtain ⟨ha, hc, al, q⟩ := h
    have i1 : i < us.size := by omega
    have i2 : i < ws.size := by omega
    wp_walk using wpAny_loadPart' ha, wpAny_loadPart' hc
    rw [show us[((i : Nat) : Int).toNat]? = some us[i] by simp [i1], show ws[((i : Nat) : Int).toNat]? = some ws[i] by simp [i2]]
    refine wpAny_bind (al i i1 i2 _ _ ?_)
    wp_walk
    rw [show ((i : Int) + 1) = ((i + 1 : Nat) : Int) by push_cast; rfl]
    refine ⟨plainId_quiet plain_eq_loop _, codeAny_builtin entry_eq_loop ?_⟩
    rw [Around.under_plainId plain_eq_loop _]
    exact ih (i + 1) (by omega) A R _ ⟨ha, hc, al, q⟩
theorem ne_listP (a c : Addr) (us ws : Array Value) (n m : Nat) (d1 d2 : Option Addr) (s1 s2 : Array (Option Value)) (eq : us.size = ws.size) :
    MeetsIn prog w (Builtin.«list.__ne__» ⟨[.ref a, .ref c], []⟩)
      (fun A R s => s.heap.get? a = some (seqO us n d1 s1) ∧ s.heap.get? c = some (seqO ws m d2 s2) ∧ AllP prog w A.in1 s us ws ∧ R (.ok (.ret (.bool false))) s) := by
  intro A R s h
  obtain ⟨hp, g, d, tk, os⟩ := s
  obtain ⟨ha, hc, al, q⟩ := h
  have sub := AutoSeq1.sub_list_list
  have same : ¬ (us.size != ws.size) = true := by simp [eq]
  wp_walk using wpAny_loadPart' ha, wpAny_loadPart' hc
  refine ⟨plainId_quiet plain_eq_loop _, codeAny_builtin entry_eq_loop ?_⟩
  rw [Around.under_plainId plain_eq_loop _]
  exact ne_stepP a c us ws n m d1 d2 s1 s2 eq _ 0 rfl A R _ ⟨ha, hc, al, q⟩
theorem rc_neP {A : Around} {s : Shared} {a c : Addr} {us ws : Array Value} (ha : s.heap.IsList a us) (hc : s.heap.IsList c ws) (eq : us.size = ws.size) (hu : A.units < cLine)
    (al : AllP prog w A.in1 s us ws) (E Q : Value → Shared → Prop) (q : Q (.bool false) s) : wpAny (model prog w) A (richCompare .NotEq (.ref a) (.ref c)) Q E s := by
  obtain ⟨⟨c1, d1, x1, s1⟩, o1, e1, n, f1⟩ := id ha
  obtain ⟨⟨c2, d2, x2, s2⟩, o2, e2, m, f2⟩ := id hc
  simp only at e1 f1 e2 f2
  subst e1 f1 e2 f2
  have ta : s.TypeIs (.ref a) "list" := ⟨_, o1, rfl⟩
  have tc : s.TypeIs (.ref c) "list" := ⟨_, o2, rfl⟩
  exact wpAny_richCompare_same_room (op := .NotEq) ta tc F.slot_list_ne (call_meetsIn F.slot_list_ne ta F.entry_list_ne (F.args_list_ne_2 _ _) (ne_listP a c us ws n m d1 d2 s1 s2 eq)
    ⟨o1, o2, al, show Value.bool false ≠ Value.notImplemented ∧ Q (.bool false) s from ⟨(fun x => nomatch x), q⟩⟩) hu
end
section
variable {X : Cx}
/-- a != b, two lists that are equal -/
def rNeV (K : PySem.W.Frag) : R2 := fun x y H Q => ∃ a b xs ys, x = .ref a ∧ y = .ref b ∧ SqL K H a xs ∧ SqL K H b ys ∧ (∃ n, n ≤ 60 ∧ Paired (EqV K H n) xs ys) ∧ Q (.bl false) H
theorem op_neV (hu : X.A.units + 64 < cLine) : OpR X (compareOp .NotEq) (rNeV X.K) := by
  intro pins s σ H x y v u Q I rx ry h
  obtain ⟨a, b, xs, ys, rfl, rfl, ha, hb, ⟨n, hn, hp⟩, q⟩ := h
  cases (show v = Value.ref a from rx)
  cases (show u = Value.ref b from ry)
  obtain ⟨us, r1, p1, _⟩ := I.list ha
  obtain ⟨ws, r2, p2, _⟩ := I.list hb
  have hsz : us.toArray.size = ws.toArray.size := by
    rw [List.size_toArray, List.size_toArray, ← r1.length, ← r2.length]
    exact Paired.length hp
  refine rc_neP p1.isList p2.isList hsz (by omega) (fun j h1 h2 => ?_) _ _ ⟨.bl false, H, I, rfl, q⟩
  have k := items_run (eqV_run I n X.A.in1 (by show X.A.units + 1 + n < cLine; omega)) hp r1 r2 j (by simpa using h1) (by simpa using h2)
  simpa using k
end
end Cs

set_option Elab.async false
set_option linter.all false
set_option maxRecDepth 100000
set_option maxHeartbeats 4000000
/-! Sets of keys by a comprehension: {x for .. in ..}, the members ints or texts. -/
namespace Cs
open PySem PySem.Spec PyProof.Rows L2 PpSet
section
variable {X : Cx}
abbrev noK : Key → Bool := fun _ => false
abbrev withK (S : Key → Bool) (k : Key) : Key → Bool := fun j => S j || decide (j = k)
/-- one member more -/
theorem addK {pins : List (Addr × Obj)} {σ : L2.St} {H : Hp} {s : Shared} {E : Value → Shared → Prop} {D : Addr} {S : Key → Bool} {n : Nat} {k : Key} {u : Value} {Q : Value → Shared → Prop} (I : Inv X pins σ H s) (at_ : H D = some (SetK X.prog X.w D S n)) (few : n + 1 < scanBound) (r : RelV (kV k) u)
    (q : ∀ s', Inv X pins σ (upd H D (SetK X.prog X.w D (withK S k) (if S k = true then n else n + 1))) s' → Q .none s') : wpAny (model X.prog X.w) X.A (call (.builtin "set.add") [.ref D, u]) Q E s :=
  call_set_add (kV_is r) (key_scan r) (setK_get I at_) few fun h' sb new => q _ (I.write (e := D) (t' := s.toks + 1) (by rw [at_]; trivial) (.inl rfl) (fun b o hb ho => (sb.2 b hb).trans ho) (let ⟨o, _, _, _, ho, _⟩ := new; ⟨o, ho⟩) (setK_new new))
/-- what a comprehension asks: its walk, and a set that grows -/
def tScK (P : Program) (w : World) (wi : TI) (g : TG) (tt : TT) (te : TE) (vs : List Nat) : TE := fun σ H Q => wi σ H fun J H1 => ∀ D, H1 D = none → ∃ W : Nat → Nat → Hp → Prop, (∃ m, W 0 m (upd H1 D (SetK P w D noK 0))) ∧ ∀ i m H, W i m H →
  (J.stop i H ∧ Q (.ref D) H) ∨ (J.go i H ∧ ∃ Nx : Hp → Prop, (∀ H', Nx H' → ∃ m', m' < m ∧ W (i + 1) m' H') ∧ ∀ x H', J.yld i H x H' → g x (wipe σ vs) H' fun σ2 H2 => wipe σ2 vs = wipe σ vs ∧ tt σ2 H2 fun b H3 =>
    if b = true then te σ2 H3 fun y H4 => ∃ (k : Key) (S : Key → Bool) (n : Nat), y = kV k ∧ H4 D = some (SetK P w D S n) ∧ n + 1 < scanBound ∧ Nx (upd H4 D (SetK P w D (withK S k) (if S k = true then n else n + 1))) else Nx H3)
theorem scK_core {pins : List (Addr × Obj)} {s : Shared} {σ : L2.St} {H : Hp} {Q : VK} {el tg it : Expr} {cs : List Expr} {scope : Scope} {own : List (PySem.Str × Nat)} {pos pos' : Pos} {wi : TI} {g : TG} {tt : TT} {te : TE} {use : Option (Value → Sem Unit)} {Qf : Value → Shared → Prop}
    (hc : X.calm = true) (hN : X.N.Nodup) (I : Inv X pins σ H s) (hi : PI X tg it wi) (ok : BlkOk X.N X.env.scope scope own)
    (hg : ∀ (s : Shared) (H : Hp) (C : Addr) (cl : List (PySem.Str × Addr)) (fp : List Addr), PG (X.blk s H scope (compEnvC scope cl C X.env) fp) tg g)
    (ht : ∀ (s : Shared) (H : Hp) (C : Addr) (cl : List (PySem.Str × Addr)) (fp : List Addr), PTs (X.blk s H scope (compEnvC scope cl C X.env) fp) cs tt)
    (he : ∀ (s : Shared) (H : Hp) (C : Addr) (cl : List (PySem.Str × Addr)) (fp : List Addr), PE (X.blk s H scope (compEnvC scope cl C X.env) fp) el te)
    (hs : ∀ x, foldedSetIterable it X.env x = pure x) (h : tScK X.prog X.w wi g tt te (own.map (·.2)) σ H Q)
    (done : ∀ D C s' m H', Inv X pins σ H' s' → Q (.ref D) H' → s'.heap.Ns C m → FpOk X pins H' C → compPost (model X.prog X.w) X.A X.xe use Qf (.ref D) C (.ok .next) s') :
    wpAny (model X.prog X.w) X.A (comprehension (.SetComp el [⟨tg, it, cs, 0⟩] scope pos) scope X.env pos' (newSet (.type "set")) false (eval it X.env) use) Qf X.xe s := by
  refine wpAny_comprehension_free (use := use) rfl hs (closure_ok fun y hy e => (ok.free y hy e).elim (fun k => I.ok.has _ (.inl k)) fun k => I.ok.has _ (.inr k)) ok.kind (fun y hy e => by rw [ok.uniq y hy, e])
    (thn (hi.run pins s σ H _ I h) fun xv s1 hx => thn hx fun itv s2 ⟨ia, fp, tn, J, H2, eq, I2, T, st2, f2, q⟩ => ?_)
  subst eq
  refine newSet_ok (newEnv_comp ?_)
  generalize eD : s2.heap.objs.size = D
  have free : H2 D = none := I2.hok.fresh (Nat.le_of_eq eD)
  obtain ⟨W, ⟨m0, w0⟩, turn⟩ := q D free
  generalize e3 : ({ s2 with heap := s2.heap.push { cls := .type "set", dict := none, data := .set #[] 0 (.fresh 0 0 (!X.w.params.followText "set-order")) } } : Shared) = s3
  have heap3 : s3.heap = s2.heap.push { cls := .type "set", dict := none, data := .set #[] 0 (.fresh 0 0 (!X.w.params.followText "set-order")) } := by rw [← e3]
  have I3 : Inv X pins σ (upd H2 D (SetK X.prog X.w D noK 0)) s3 := by
    rw [← e3, ← eD]
    exact I2.laid (t' := s2.toks) (fun b o e => Heap.get?_push_of_some _ e) (Nat.le_refl _) (setK_new ⟨_, #[], 0, _, Heap.get?_push_size _ rfl, ⟨rfl, rfl, rfl⟩, rfl, (fun e he => by simp at he), (fun k => by simp), (by decide), (by rfl), rfl⟩)
  have below : ∀ b ∈ fp, b < s2.heap.objs.size := fun b hb => let ⟨o, e, _⟩ := T.obj _ _ st2 b hb; Heap.lt_size e
  have f3 : ∀ b ∈ fp, FpOk X pins (upd H2 D (SetK X.prog X.w D noK 0)) b ∧ b < s3.heap.objs.size := fun b hb =>
    ⟨⟨by rw [upd_ne (by rw [← eD]; exact Nat.ne_of_lt (below b hb))]; exact (f2 b hb).1, (f2 b hb).2⟩, by rw [heap3, Heap.size_push]; exact Nat.lt_succ_of_lt (below b hb)⟩
  have I4 := block_start I3 ok hN f3
  have pg := hg s3 (upd H2 D (SetK X.prog X.w D noK 0)) s3.heap.objs.size (cellsFrom (s3.heap.objs.size + 1) scope.names (cloFrom X.env.cells scope.names [])) fp
  have pt := ht s3 (upd H2 D (SetK X.prog X.w D noK 0)) s3.heap.objs.size (cellsFrom (s3.heap.objs.size + 1) scope.names (cloFrom X.env.cells scope.names [])) fp
  have pe := he s3 (upd H2 D (SetK X.prog X.w D noK 0)) s3.heap.objs.size (cellsFrom (s3.heap.objs.size + 1) scope.names (cloFrom X.env.cells scope.names [])) fp
  show codeAny _ _ (.compStart (.SetComp el [⟨tg, it, cs, 0⟩] scope pos) 0 (.ref ia) (.ref D) (compEnvC scope (cellsFrom (s3.heap.objs.size + 1) scope.names (cloFrom X.env.cells scope.names [])) s3.heap.objs.size X.env)) (compPost (model X.prog X.w) X.A X.xe use Qf (.ref D) s3.heap.objs.size) { s3 with heap := pushCells (s3.heap.push { cls := .type "dict", data := .dict #[] }) scope.names }
  have none3 : ∀ b ∈ fp, (upd H2 D (SetK X.prog X.w D noK 0)) b = none := fun b hb => (f3 b hb).1.1
  generalize ec : compEnvC scope (cellsFrom (s3.heap.objs.size + 1) scope.names (cloFrom X.env.cells scope.names [])) s3.heap.objs.size X.env = ce at I4 pg pt pe ⊢
  have loc : ce.locals = s3.heap.objs.size := by subst ec; rfl
  generalize upd H2 D (SetK X.prog X.w D noK 0) = H3 at I3 I4 pg pt pe w0 none3 f3
  generalize e4 : ({ s3 with heap := pushCells (s3.heap.push { cls := .type "dict", data := .dict #[] }) scope.names } : Shared) = s4 at I4 ⊢
  have st3 : tn 0 s3.heap := T.keep _ _ _ st2 fun b _ o e => by rw [heap3]; exact Heap.get?_push_of_some _ e
  have st4 : tn 0 s4.heap := T.keep _ _ _ st3 fun b _ o e => by rw [← e4]; exact pushCells_keeps _ _ _ _ (Heap.get?_push_of_some _ e)
  have still : ∀ {σ' : L2.St} {H' : Hp} {s' : Shared}, Inv (X.blk s3 H3 scope ce fp) [] σ' H' s' → (∀ b ∈ fp, H' b = none) → ∀ b ∈ fp, FpOk (X.blk s3 H3 scope ce fp) [] H' b := fun I' hn b hb =>
    ⟨hn b hb, (I'.ok.exf b hb).1, I'.ok.exfs b hb, .inl hb, fun x c e => (I'.ok.exf b hb).2 x c e, fun p hp => absurd (show p ∈ ([] : List (Addr × Obj)) ++ [] from hp) (by simp)⟩
  have loop : codeAny (model X.prog X.w) X.A (.compLoop (.SetComp el [⟨tg, it, cs, 0⟩] scope pos) 0 (.ref ia) (.ref D) ce) (compPost (model X.prog X.w) X.A X.xe use Qf (.ref D) s3.heap.objs.size) s4 := by
    refine compLoopS_any (fun n s' => ∃ i H', Inv (X.blk s3 H3 scope ce fp) [] (wipe σ (own.map (·.2))) H' s' ∧ tn i s'.heap ∧ (∀ b ∈ fp, H' b = none) ∧ W i n H') ?_ m0 ⟨0, H3, I4, st4, none3, w0⟩
    rintro n s5 ⟨i, H5, I5, st5, n5, w5⟩
    rcases turn i n H5 w5 with ⟨stop, last⟩ | ⟨go, Nx, next, step⟩
    · refine thnF (T.done (X.blk s3 H3 scope ce fp) rfl rfl rfl hc i [] s5 _ H5 (fun _ _ => False) I5 (still I5 n5) st5 stop) fun r s6 ⟨er, I6⟩ => ?_
      subst er
      have unused : H5 ce.locals = none := I6.free
      obtain ⟨m, ns, _⟩ := I6.loc
      have ns : s6.heap.Ns ce.locals m := ns
      rw [loc] at ns unused
      exact done D s3.heap.objs.size s6 m H5 (I3.call' (ch := fp) I6.os I6.base I6.hok I6.bare fun b hb => ⟨(f3 b hb).1.2.2.2.1, (f3 b hb).1.2.1, (f3 b hb).1.2.2.2.2.1, (f3 b hb).1.2.2.2.2.2⟩) last ns (I3.fpOk (Nat.le_refl _) unused)
    · refine thnF (T.item (X.blk s3 H3 scope ce fp) rfl rfl rfl hc i [] s5 _ H5 (fun _ _ => False) I5 (still I5 n5) st5 go) fun r s6 ⟨u, er, h6⟩ => ?_
      subst er
      refine thnF h6 fun _ s7 ⟨x, H7, I7, r7, y7, st7, n7⟩ => ?_
      refine thnF (pg.run _ s7 _ H7 x u _ (I7.pinned (still I7 n7) (T.obj _ _ st7)) r7 (step x H7 y7)) fun _ s8 ⟨σ8, H8, I8, w8, q8⟩ => ?_
      refine thnF (pt.run _ s8 σ8 H8 _ I8 q8) fun b s9 ⟨H9, I9, q9⟩ => ?_
      have round : ∀ {s' : Shared} {H' : Hp}, Inv (X.blk s3 H3 scope ce fp) ([] ++ pinsAt fp s7.heap) σ8 H' s' → Nx H' → ∃ m, m < n ∧ ∃ i H', Inv (X.blk s3 H3 scope ce fp) [] (wipe σ (own.map (·.2))) H' s' ∧ tn i s'.heap ∧ (∀ b ∈ fp, H' b = none) ∧ W i m H' := fun {s' H'} I' nx => by
        obtain ⟨m', lt, w'⟩ := next H' nx
        have held : ∀ b ∈ fp, ∀ o, s7.heap.get? b = some o → s'.heap.get? b = some o ∧ H' b = none := fun b hb o e => let z := I'.pin (b, o) (List.mem_append_right _ (List.mem_append_right _ (mem_pinsAt hb e))); ⟨z.1, z.2.1⟩
        refine ⟨m', lt, i + 1, H', (I'.unpinned (pins := [])).weak (by rw [← w8, wipe_length]) (fun j v e => ?_), T.keep _ _ _ st7 fun b hb o e => (held b hb o e).1, fun b hb => ?_, w'⟩
        · rw [← w8] at e
          exact (wipe_some e).1
        · obtain ⟨o, e, _⟩ := T.obj _ _ st7 b hb
          exact (held b hb o e).2
      cases b with
      | false =>
        simp only [Bool.false_eq_true, if_false] at q9 ⊢
        exact round I9 q9
      | true =>
        simp only [if_true] at q9 ⊢
        refine thnF (pe.run _ s9 σ8 H9 _ I9 q9) fun z s10 ⟨y, H10, I10, r10, k, S, n0, ey, at10, few, nx⟩ => ?_
        subst ey
        exact addK (X := X.blk s3 H3 scope ce fp) I10 at10 few r10 fun s11 I11 => round I11 nx
  exact codeAny_compStart_set loop (T.self X.A 0 _ _ _ st4 loop)
/-- name = {..} on one line, the name a local -/
theorem ps_setScK {i : Nat} {y : Str} {py : Pos} {el tg it : Expr} {cs : List Expr} {scope : Scope} {own : List (PySem.Str × Nat)} {pos spos : Pos} {wi : TI} {g : TG} {tt : TT} {te : TE} (hc : X.calm = true) (hN : X.N.Nodup) (hy : X.N[i]? = some y) (hyl : X.env.scope.names.lookup y = some .local)
    (hsw : swapsWith (.SetComp el [⟨tg, it, cs, 0⟩] scope pos) (some (.Name y py)) spos.line X.env = pure true) (hi : PI X tg it wi) (ok : BlkOk X.N X.env.scope scope own)
    (hg : ∀ (s : Shared) (H : Hp) (C : Addr) (cl : List (PySem.Str × Addr)) (fp : List Addr), PG (X.blk s H scope (compEnvC scope cl C X.env) fp) tg g)
    (ht : ∀ (s : Shared) (H : Hp) (C : Addr) (cl : List (PySem.Str × Addr)) (fp : List Addr), PTs (X.blk s H scope (compEnvC scope cl C X.env) fp) cs tt)
    (he : ∀ (s : Shared) (H : Hp) (C : Addr) (cl : List (PySem.Str × Addr)) (fp : List Addr), PE (X.blk s H scope (compEnvC scope cl C X.env) fp) el te)
    (hs : ∀ x, foldedSetIterable it X.env x = pure x := by intro _; rfl) :
    PS X (.Assign [.Name y py] (.SetComp el [⟨tg, it, cs, 0⟩] scope pos) spos) (tAsg (tScK X.prog X.w wi g tt te (own.map (·.2))) (gName i)) := by
  refine ⟨fun pins s σ H D I h => ?_⟩
  rw [exec_Assign_Name_used _ _ _ _ hsw]
  refine wpAny_bind (wpAny_standAt (wpAny_bind ?_))
  show wpAny _ X.A (do let _ ← comprehension (.SetComp el [⟨tg, it, cs, 0⟩] scope pos) scope X.env (firstIterPos [⟨tg, it, cs, 0⟩] pos) (newSet (.type "set")) false (eval it X.env) (some (assign (.Name y py) X.env))) _ _ s
  have h : tScK X.prog X.w wi g tt te (own.map (·.2)) σ H (fun x H1 => gName i x σ H1 D.nx) := h
  refine wpAny_bind (thn (scK_core (Qf := fun _ s' => SP X pins D .next s') hc hN I hi ok hg ht he hs h fun L C s' m H' I' q hn f => ?_) fun _ s' hq => wpAny_pure (wpAny_pure hq))
  obtain ⟨f0, f1, f2, f3, f4, f5⟩ := f
  show wpAny _ _ (assign (.Name y py) X.env (.ref L)) _ _ _
  refine wpAny_assign_Name (store_ok2 (v := V.ref L) I' hN hy (.inl hyl) rfl (fun s2 I2 ⟨a, sb, ha⟩ => ?_) (.inr hyl))
  have apart : C ≠ a := ha.elim (fun z => z ▸ f1) fun z e => f4 y a z e.symm
  exact ⟨m, hn.sameBut sb apart, fun h3 sb3 => ⟨_, H', I2.turned (t' := s2.toks) (fun b o hb e => (sb3.2 b hb).trans e) f0 f1 f3 f4 f5, q⟩⟩
end
end Cs

set_option Elab.async false
set_option linter.all false
set_option maxRecDepth 100000
set_option maxHeartbeats 400000
/-! != of two dicts that are equal, deep -/
namespace Cs
open PySem PySem.Spec PyProof.Rows L2
section
variable {X : Cx}
def rNeDV (K : PySem.W.Frag) : R2 := fun x y H Q => ∃ a b ks ls, x = .ref a ∧ y = .ref b ∧ H a = some (.dK ks) ∧ H b = some (.dK ls) ∧ ks.length = ls.length ∧ (∃ n, n ≤ 60 ∧ ∀ p ∈ ks, ∃ u, valV ls p.1 = some u ∧ EqV K H n p.2 u) ∧ Q (.bl false) H
theorem op_neDV (hu : X.A.units + 64 < cLine) : OpR X (compareOp .NotEq) (rNeDV X.K) := by
  intro pins s σ H x y v u Q I rx ry h
  obtain ⟨a, b, ks, ls, rfl, rfl, ea, eb, len, ⟨n, hn, hp⟩, q⟩ := h
  cases (show v = Value.ref a from rx)
  cases (show u = Value.ref b from ry)
  obtain ⟨_, ya, va, ra, da⟩ := (show ObjOk X.prog X.w H s.heap a (.dK ks) from I.hok a _ ea)
  obtain ⟨_, yb, vb, rb, db⟩ := (show ObjOk X.prog X.w H s.heap b (.dK ls) from I.hok b _ eb)
  have e : va.length = vb.length := by rw [← ra.length, ← rb.length]; exact len
  have hits := hits_run (eqV_run I n X.A.in1 (by show X.A.units + 1 + n < cLine; omega)) rb ra hp
  refine wpAny_richCompare_same_room (op := .NotEq) da.typeIs db.typeIs PySem.F.slot_dict_ne (wpAny_call_entry PySem.F.slot_dict_ne da.typeIs PySem.F.entry_dict_ne ?_ (PySem.F.args_dict_ne_2 _ _)) (by omega)
  show wpAny _ _ (Builtin.Dict.dictSlotArgs "__ne__" ⟨[.ref a, .ref b], []⟩ >>= _) _ _ s
  unfold Builtin.Dict.dictSlotArgs
  refine wpAny_bind (wpAny_bind (wpAny_notOrdered_dict da.typeIs ?_))
  show wpAny _ _ (pure (Value.ref a, Value.ref b)) _ _ s
  refine wpAny_pure (wpAny_bind (wpAny_isInstance (T := "dict") db.typeIs PySem.F.sub_dict_dict ?_))
  simp only [Bool.not_true, Bool.false_eq_true, if_false]
  refine wpAny_bind (wpAny_pure (wpAny_bind (wpAny_pure ?_)))
  refine wpAny_bind (PySem.W.samePairsP (r := true) ya yb da db (fun _ => hits) ?_)
  have w0 : ((va.length == vb.length && true) == false) = false := by rw [e]; simp
  refine wpAny_pure ⟨_, rfl, ?_, ?_⟩
  · intro x
    cases x
  · have z : EP X pins σ Q (.bool false) s := ⟨.bl false, H, I, rfl, q⟩
    rw [← w0] at z
    exact z
end
end Cs

set_option Elab.async false
set_option linter.all false
set_option maxRecDepth 100000
set_option maxHeartbeats 4000000
/-! Exceptions of own classes with fields: made, raised while a dict is walked, caught, asked for their class. -/
namespace CsX
open PySem PySem.Spec PyProof.Rows L2
/-- a block that is not reached -/
theorem pss_any {X : Cx} {l : List Stmt} : PSs X l (fun _ _ _ => False) := ⟨fun _ _ _ _ _ _ h => h.elim⟩
/-- a raise while the thing at d is locked -/
theorem Takes.lock {X : Cx} {W : WX} {d : Addr} (tk : Takes X W) (hn : ∀ o' u', X.H_0 d ≠ some (.frz o' u')) : Takes X (fun cls dd σ H => ∃ od u, H d = some (.frz od u) ∧ W cls dd σ (upd H d u)) :=
  fun u s' ⟨a, B, sI, pins, σ, H, cls, dd, e, I, nb, up, sky, na, os, ag, od, uu, hd, w⟩ =>
    tk u s' ⟨a, B, sI, pins, σ, upd H d uu, cls, dd, e, I.unlock hd hn, nb, up, sky, (by rw [upd_ne (fun z => by rw [z, hd] at na; cases na)]; exact na), os, ag, w⟩
/-- __init__(self, f): self.f = f -/
def spIni (C : Addr) (f : Str) : Sp := fun vs H Q _ => ∃ (a : Addr) (v : V), vs = [.ref a, v] ∧ H a = some (exo a C none) ∧
  ∀ dx, H dx = none → dx ≠ a → Q .non (upd (upd H dx (exd dx [(f, v)])) a (exo a C (some dx)))
/-- __init__(self, f, g): self.f = f; self.g = g -/
def spIni2 (C : Addr) (f g : Str) : Sp := fun vs H Q _ => ∃ (a : Addr) (v u : V), vs = [.ref a, v, u] ∧ H a = some (exo a C none) ∧
  ∀ dx, H dx = none → dx ≠ a → Q .non (upd (upd (upd H dx (exd dx [(f, v)])) a (exo a C (some dx))) dx (exd dx [(g, u), (f, v)]))
/-- what the top has written of an own error with the fields fs, its __init__ at fI -/
structure Own (K : PySem.W.Frag) (mg : Str → Option Value) (x : Str) (C fI : Addr) (fs : List Str) : Prop where
  gC : mg x = some (.ref C)
  oex : OexC K C
  xf : XfC K C
  no : ∀ f ∈ fs, PySem.W.findIn K (.ref C) f = some none
  iC : PySem.W.findIn K (.ref C) "__init__" = some (some (.ref fI))
  tI : PySem.W.typeIn K (.ref fI) = some (.type "function")
  ex : ExcC K C
  te : PySem.W.exmOne K (.ref C) (.ref C) = some true
theorem same_upd {H : Hp} {p : Addr} {o : HO} (h : H p = none) : Same H (upd H p o) := fun b x e => by
  rw [upd_ne (ne_of_none e h)]
  exact e
/-- what is asked of C(v) -/
theorem mk_one {C : Addr} {f : Str} {H1 : Hp} {v : V} {Q : XK} (h : ∀ d H2, H1 d = none → Same H1 H2 → H2 d = some (.xd [(f, v)]) → Q (.ref C) (some d) H2) :
    [v].length ≤ 1000 ∧ ∀ a, H1 a = none → spIni C f (V.ref a :: ([v] ++ [])) (upd H1 a (exo a C none)) (fun x H2 => x = .non ∧ ∃ (d : Addr) (fs : List (Str × V)), H2 a = some (exo a C (some d)) ∧ H2 d = some (exd d fs) ∧ H1 d = none ∧ Q (.ref C) (some d) (upd (del H2 a) d (.xd fs))) (fun _ _ _ => False) := by
  refine ⟨by show 1 ≤ 1000; decide, fun a na => ⟨a, v, rfl, upd_same, fun dx n ne => ?_⟩⟩
  have n1 : H1 dx = none := by rw [upd_ne ne] at n; exact n
  refine ⟨rfl, dx, _, upd_same, by rw [upd_ne ne, upd_same], n1, h dx _ n1 (fun b o e => ?_) upd_same⟩
  have hb : b ≠ dx := ne_of_none e n1
  have ha : b ≠ a := ne_of_none e na
  rw [upd_ne hb, del_ne ha, upd_ne ha, upd_ne hb, upd_ne ha]
  exact e
/-- what is asked of C(v, u) -/
theorem mk_two {C : Addr} {f g : Str} {H1 : Hp} {v u : V} {Q : XK} (h : ∀ d H2, H1 d = none → Same H1 H2 → H2 d = some (.xd [(g, u), (f, v)]) → Q (.ref C) (some d) H2) :
    [v, u].length ≤ 1000 ∧ ∀ a, H1 a = none → spIni2 C f g (V.ref a :: ([v, u] ++ [])) (upd H1 a (exo a C none)) (fun x H2 => x = .non ∧ ∃ (d : Addr) (fs : List (Str × V)), H2 a = some (exo a C (some d)) ∧ H2 d = some (exd d fs) ∧ H1 d = none ∧ Q (.ref C) (some d) (upd (del H2 a) d (.xd fs))) (fun _ _ _ => False) := by
  refine ⟨by show 2 ≤ 1000; decide, fun a na => ⟨a, v, u, rfl, upd_same, fun dx n ne => ?_⟩⟩
  have n1 : H1 dx = none := by rw [upd_ne ne] at n; exact n
  refine ⟨rfl, dx, _, by rw [upd_ne (Ne.symm ne), upd_same], upd_same, n1, h dx _ n1 (fun b o e => ?_) upd_same⟩
  have hb : b ≠ dx := ne_of_none e n1
  have ha : b ≠ a := ne_of_none e na
  rw [upd_ne hb, del_ne ha, upd_ne hb, upd_ne ha, upd_ne hb, upd_ne ha]
  exact e
/-- isinstance(e, c), isinstance(e, (c, ..)): e the exception that the suite holds, with fields -/
def rIsED (K : PySem.W.Frag) (a : Addr) (cls : Value) (d : Option Addr) : List V → Hp → VK → Prop := fun xs H Q => ∃ (C dd : Addr) (fs : List (Str × V)) (c : V) (b : Bool), xs = [.ref a, c] ∧ cls = .ref C ∧ d = some dd ∧ H dd = some (.xd fs) ∧ ExcC K C ∧
  ((∃ cv, (∀ u, RelV c u → u = cv) ∧ PySem.W.kitOne K (.ref C) cv = some b) ∨ ∃ (t : Addr) (cs : List Addr), c = .ref t ∧ H t = some (.tup (cs.map V.ref)) ∧ PySem.W.kitAny K (.ref C) (cs.map Value.ref) = some b) ∧ Q (.bl b) H
theorem vals_refs : ∀ {cs : List Addr} {us : List Value}, Vals (cs.map V.ref) us → us = cs.map Value.ref
  | [], _, h => by cases h; rfl
  | c :: cs, _, h => by
    cases h with
    | cons a b =>
      cases a
      exact congrArg (Value.ref c :: ·) (vals_refs b)
theorem call_isED {X : Cx} {a : Addr} {cls : Value} {d : Option Addr} {oe : Obj} {pn : List (Addr × Obj)} (hz : Zc cls d oe) (hf : ∃ vs, oe.data = .fields vs) : CallR (X.suite a ((a, oe) :: pn)) (.builtin "isinstance") (rIsED X.K a cls d) := by
  intro pins s σ H xs us Q I r h
  obtain ⟨D, dd, fs, c, b, rfl, rfl, rfl, hdd, C, hc, q⟩ := h
  cases r with
  | cons rx rr =>
    cases rr with
    | cons rt rr =>
      cases rr
      cases rx
      obtain ⟨hget, _⟩ := I.pin (a, oe) (List.mem_append.mpr (.inl List.mem_cons_self))
      obtain ⟨vs, hv⟩ := hf
      have hx : ObjOk X.prog X.w H s.heap dd (.xd fs) := I.hok dd _ hdd
      obtain ⟨mA, hns, hr⟩ := hx
      obtain ⟨od, ho, hl⟩ := lookIn_ns hns
      have J : PySem.W.InstAt s.heap a oe D (some od) := ⟨hget, hz.1, by unfold PySem.W.notCls; rw [hv] <;> rfl, by rw [hz.2]; exact ho⟩
      have cl : (PySem.W.clsIn X.K D).isSome = true := by
        obtain ⟨cd, e, _⟩ := PySem.W.any_some C.hd
        rw [e]; rfl
      have Z := fun (od : Option Obj) => PySem.W.kitx_exc (x := a) (ox := oe) (od := od) cl C.hg C.hk C.hs C.ha C.hn C.ht C.hm
      rcases hc with ⟨cv, hcv, e⟩ | ⟨t, cs, rfl, ht, e⟩
      · have ec := hcv _ rt
        subst ec
        exact PySem.W.kia_one (Z _) I.kIn J e (fun z => nomatch z) fun tk => ⟨.bl b, H, I.kept (t' := tk) fun _ _ z => z, rfl, q⟩
      · cases rt
        obtain ⟨_, its, rv, o, ho2, hcls, n, hdat⟩ := (show ObjOk X.prog X.w H s.heap t (.tup (cs.map V.ref)) from I.hok t _ ht)
        obtain ⟨oc, oda, odt, osl⟩ := o
        dsimp only at hcls hdat
        subst hcls hdat
        rw [← vals_refs rv] at e
        exact PySem.W.kia_tup (Z _) I.kIn J ho2 e (fun z => nomatch z) fun tk => ⟨.bl b, H, I.kept (t' := tk) fun _ _ z => z, rfl, q⟩
end CsX

set_option Elab.async false
set_option linter.all false
set_option maxRecDepth 100000
set_option maxHeartbeats 4000000
namespace K2
open PySem PySem.Spec PyProof.Rows L2 Cs
def topS (i : Nat) : Stmt := PySem.Challenge.pw_curbdesk_k02_filled_and_trimmed.main.body.getD i (.Pass ⟨0, 0, 0, 0⟩)
structure Bt (mg : Str → Option Value) : Prop where
  sorted : mg "sorted" = none
  set : mg "set" = none
  len : mg "len" = none
  isi : mg "isinstance" = none
  int : mg "int" = none
  bool : mg "bool" = none
  list : mg "list" = none
  all : mg "all" = none
  range : mg "range" = none
  dict : mg "dict" = none
abbrev Srt (ms : List Int) : Prop := ms.Pairwise (· < ·)
theorem same_new {H : Hp} {p : Addr} {o : HO} (h : H p = none) : Same H (upd H p o) := fun b x e => by
  rw [upd_ne (ne_of_none e h)]
  exact e
theorem same_at {H H' : Hp} {p : Addr} {o : HO} (s : Same H H') (h : H p = none) : Same H (upd H' p o) := fun b x e => by
  rw [upd_ne (ne_of_none e h)]
  exact s _ _ e
theorem sl_map {K : PySem.W.Frag} {H : Hp} {a : Addr} {xs : List V} (h : H a = some (.lst xs)) : SqL K H a xs := .inl (.inl h)
theorem and_iff (ns ks : List Int) (k : Int) : eAnd (fun j => decide (j ∈ ns)) (fun j => decide (j ∈ ks)) k ↔ k ∈ ns ∧ k ∈ ks := by
  show (decide (k ∈ ns) = true ∧ decide (k ∈ ks) = true) ↔ _
  simp
theorem or_iff' (ns ks : List Int) (k : Int) : eOr (fun j => decide (j ∈ ns)) (fun j => decide (j ∈ ks)) k ↔ k ∈ ns ∨ k ∈ ks := by
  show (decide (k ∈ ns) = true ∨ decide (k ∈ ks) = true) ↔ _
  simp
theorem sub_iff (ns ks : List Int) (k : Int) : eSub (fun j => decide (j ∈ ns)) (fun j => decide (j ∈ ks)) k ↔ k ∈ ns ∧ k ∉ ks := by
  show (decide (k ∈ ns) = true ∧ decide (k ∈ ks) = false) ↔ _
  simp
section
variable {P : Program} {w : World} {K : PySem.W.Frag} {mg : Str → Option Value} {base : Heap}
/-! ### the program: sides -/
abbrev sCommon : Stmt := topS 27
theorem scCommon : FnScope ["first", "second"] ["first", "second"] (defScope sCommon) := ⟨rfl, rfl, rfl, by decide +kernel, rfl, by decide +kernel, by decide +kernel⟩
/-- two lists, and what is said of the members -/
def spTwo (K : PySem.W.Frag) (mem : List Int → List Int → Int → Prop) : Sp := fun vs H Q _ => ∃ (a b : Addr) (ns ks : List Int), vs = [.ref a, .ref b] ∧ SqL K H a (ns.map V.int) ∧ SqL K H b (ks.map V.int) ∧ ns.length ≤ 31 ∧ ks.length ≤ 31 ∧
  ∀ H' p ms, Same H H' → H p = none → H' p = some (.lst (ms.map V.int)) → Srt ms → (∀ k, k ∈ ms ↔ mem ns ks k) → ms.length ≤ 63 → Q (.ref p) H'
theorem ok_common {f : Addr} {fd : FuncData} {k : Nat} (F : Fun K "common" "common" sCommon f fd) (B : Bt mg) : FnOk P w K mg base CX0 (k + 1) f fd ["first", "second"] (spTwo K fun ns ks k => k ∈ ns ∧ k ∈ ks) := by
  refine F.ok scCommon (fun vs H Q E h => ?_) (fun cdv A outer s H vs Q E hr h => ?_)
  · obtain ⟨a, b, ns, ks, rfl, _⟩ := h
    rfl
  · obtain ⟨a, b, ns, ks, rfl, hA, hB, la, lb, q⟩ := h
    refine ⟨_, pss_one (ps_ret (pe_callB (cr_sortedSet rfl) (by rfl) B.sorted boot_sorted (pa_cons (pe_op op_sand (pe_callTy (cr_setI rfl) (by rfl) B.set PyProof.Rows.boot_set (pa_cons (pv 0) pa_nil)) (pe_callTy (cr_setI rfl) (by rfl) B.set PyProof.Rows.boot_set (pa_cons (pv 1) pa_nil))) pa_nil))), ?_⟩
    refine ⟨.ref a, rfl, a, ns, rfl, hA, by omega, fun p c np hc => ?_⟩
    have s1 := same_new (o := SetO w p (fun j => decide (j ∈ ns)) c) np
    refine ⟨.ref b, rfl, b, ks, rfl, s1.seq hB, by omega, fun p2 c2 np2 hc2 => ?_⟩
    have ne : p2 ≠ p := fun e => by rw [e, upd_same] at np2; cases np2
    have s2 := s1.trans (same_new (o := SetO w p2 (fun j => decide (j ∈ ks)) c2) np2)
    refine ⟨p, p2, _, _, c, c2, rfl, rfl, ne, by rw [upd_ne ne.symm, upd_same], upd_same, ⟨by omega, by omega⟩, fun r S n nr hm hn => ?_⟩
    have s3 := s2.trans (same_new (o := SetO w r S n) nr)
    refine ⟨r, S, n, rfl, upd_same, by omega, fun ms z hs hk hl nz => ?_⟩
    exact q _ z ms (same_at s3 (s3.free nz)) (s3.free nz) upd_same hs (fun k => (hk k).trans ((hm k).trans (and_iff ns ks k))) (by omega)
end
section
variable {P : Program} {w : World} {K : PySem.W.Frag} {mg : Str → Option Value} {base : Heap}
abbrev sIsInt : Stmt := topS 33
abbrev sStream : Stmt := topS 34
abbrev sDraw : Stmt := topS 35
theorem scIsInt : FnScope ["_law_actual"] ["_law_actual"] (defScope sIsInt) := ⟨rfl, rfl, rfl, by decide +kernel, rfl, by decide +kernel, by decide +kernel⟩
theorem scStream : FnScope ["_law_script", "_law_k", "_law_cell"] ["_law_script", "_law_k"] (defScope sStream) := ⟨rfl, rfl, rfl, by decide +kernel, rfl, by decide +kernel, by decide +kernel⟩
theorem scDraw : FnScope ["_law_stream_here", "_law_size", "_law_digit", "_law_mixed"] ["_law_stream_here", "_law_size"] (defScope sDraw) := ⟨rfl, rfl, rfl, by decide +kernel, rfl, by decide +kernel, by decide +kernel⟩
def spIsInt : Sp := fun vs H Q _ => ∃ k : Int, vs = [.int k] ∧ Q (.bl true) H
theorem ok_isInt {f : Addr} {fd : FuncData} {k : Nat} (F : Fun K "_law_is_integer" "_law_is_integer" sIsInt f fd) (B : Bt mg) : FnOk P w K mg base CX0 (k + 1) f fd ["_law_actual"] spIsInt := by
  refine F.ok scIsInt (fun vs H Q E h => ?_) (fun cdv A outer s H vs Q E hr h => ?_)
  · obtain ⟨a, rfl, _⟩ := h
    rfl
  · obtain ⟨a, rfl, q⟩ := h
    refine ⟨_, pss_one (ps_ret (pe_and (pe_callB call_isi (by rfl) B.isi PyProof.Rows.boot_isinstance (pa_cons (pv 0) (pa_cons (pe_bltn (by rfl) B.int PyProof.Rows.boot_int (v := .ty "int") rfl) pa_nil)))
      (pe_one (pe_not (pe_callB call_isi (by rfl) B.isi PyProof.Rows.boot_isinstance (pa_cons (pv 0) (pa_cons (pe_bltn (by rfl) B.bool PyProof.Rows.boot_bool (v := .ty "bool") rfl) pa_nil))))))), ?_⟩
    refine ⟨.int a, rfl, .int a, .ty "int", .type "int", .type "int", true, rfl, .ty _, .base (.int a), kit_ty (by decide +kernel), true, rfl, iteT ?_⟩
    exact ⟨.int a, rfl, .int a, .ty "bool", .type "int", .type "bool", false, rfl, .ty _, .base (.int a), kit_ty (by decide +kernel), false, rfl, q⟩

/-- a stream: three ints -/
def Strm (H : Hp) (p : Addr) : Prop := ∃ x y z : Int, H p = some (.lst [.int x, .int y, .int z])
def spStream (K : PySem.W.Frag) : Sp := fun vs H Q _ => ∃ (a : Addr) (ns : List Int) (k : Nat), vs = [.ref a, .int (k : Int)] ∧ SqL K H a (ns.map V.int) ∧
  ∀ H' p, Same H H' → H p = none → Strm H' p → Q (.ref p) H'
theorem ok_stream {f : Addr} {fd : FuncData} {k : Nat} (F : Fun K "_law_stream" "_law_stream" sStream f fd) (B : Bt mg) : FnOk P w K mg base CX0 (k + 1) f fd ["_law_script", "_law_k"] (spStream K) := by
  refine F.ok scStream (fun vs H Q E h => ?_) (fun cdv A outer s H vs Q E hr h => ?_)
  · obtain ⟨a, ns, k, rfl, _⟩ := h
    rfl
  · obtain ⟨a, ns, k, rfl, hS, q⟩ := h
    refine ⟨_, pss_cons (ps_set (i := 2) scStream.nd rfl (.inl rfl) pe_int)
      (pss_cons (ps_if (pt_cmpR op_lt (pv 1) (pe_callB call_len_seq (by rfl) B.len PySem.boot_len (pa_cons (pv 0) pa_nil)) (nomark _))
        (pss_one (ps_set (i := 2) scStream.nd rfl (.inl rfl) (pe_ix ix_list (pv 0) (pv 1) (fun _ _ => rfl)))) pss_nil)
      (pss_one (ps_ret (pe_lst (pa_cons (pe_op op_mul (pv 2) (pe_callTy call_int1 (by rfl) B.int PyProof.Rows.boot_int (pa_cons (pe_cmpR op_ge (pv 2) (pe_op op_pow pe_int pe_int) (nomark _)) pa_nil))) (pa_cons pe_int (pa_cons (pv 2) pa_nil))))))), ?_⟩
    have tail : ∀ (c : Int) (b : Bool), -(2 ^ 64) < (if b = true then (1 : Int) else 0) ∧ (if b = true then (1 : Int) else 0) < 2 ^ 64 := fun c b => by cases b <;> decide
    refine ⟨.int k, rfl, .ref a, rfl, a, _, rfl, .inl hS, (k : Int), _, rfl, rfl, _, rfl, ite2 (fun c => ?_) (fun c => ?_)⟩
    · have hk : k < ns.length := by
        have := of_decide_eq_true c
        rw [List.length_map] at this
        omega
      have g : (ns.map V.int)[k]? = some (.int ns[k]) := by
        rw [List.getElem?_map, List.getElem?_eq_getElem hk]
        rfl
      refine ⟨.ref a, rfl, .int k, rfl, a, _, (k : Int), _, rfl, rfl, hS, atI_nat g, ?_⟩
      refine ⟨.int ns[k], rfl, .int ns[k], rfl, 10, 18, rfl, rfl, ⟨by decide, by decide, by decide⟩, ns[k], _, rfl, rfl, .inr ⟨_, rfl, ns[k], _, rfl, rfl, .inr (tail 0 _), .int ns[k], rfl, by show 3 ≤ sizeLine; decide, fun l hl => ?_⟩⟩
      exact q _ l (same_new hl) hl ⟨_, _, _, upd_same⟩
    · refine ⟨.int 0, rfl, .int 0, rfl, 10, 18, rfl, rfl, ⟨by decide, by decide, by decide⟩, 0, _, rfl, rfl, .inr ⟨_, rfl, 0, _, rfl, rfl, .inr (tail 0 _), .int 0, rfl, by show 3 ≤ sizeLine; decide, fun l hl => ?_⟩⟩
      exact q _ l (same_new hl) hl ⟨_, _, _, upd_same⟩
/-- all but the one at p is as it was -/
def Oth (p : Addr) (H H' : Hp) : Prop := ∀ b, b ≠ p → H' b = H b
def spDraw : Sp := fun vs H Q _ => ∃ (p : Addr) (m : Int), vs = [.ref p, .int m] ∧ Strm H p ∧ 0 < m ∧ m < 1073741824 ∧
  ∀ H' d, Oth p H H' → Strm H' p → 0 ≤ d → d < m → Q (.int d) H'
theorem at0 {x y z : V} : atI [x, y, z] (0 : Int) = some x := atI_nat (j := 0) rfl
theorem at1 {x y z : V} : atI [x, y, z] (1 : Int) = some y := atI_nat (j := 1) rfl
theorem at2 {x y z : V} : atI [x, y, z] (2 : Int) = some z := atI_nat (j := 2) rfl
theorem ok_draw {f : Addr} {fd : FuncData} {k : Nat} (F : Fun K "_law_next" "_law_next" sDraw f fd) (B : Bt mg) : FnOk P w K mg base CX0 (k + 1) f fd ["_law_stream_here", "_law_size"] spDraw := by
  refine F.ok scDraw (fun vs H Q E h => ?_) (fun cdv A outer s H vs Q E hr h => ?_)
  · obtain ⟨p, m, rfl, _⟩ := h
    rfl
  · obtain ⟨p, m, rfl, ⟨x, y, z, hp⟩, m0, m1, q⟩ := h
    refine ⟨_, pss_cons (ps_asg (pe_op op_add (pe_ix ix_list (pv 0) pe_int (fun _ _ => rfl)) pe_int) (pg_sub (pv 0) pe_int set_list))
      (pss_cons (ps_if (pt_cmpR op_gt (pe_ix ix_list (pv 0) pe_int (fun _ _ => rfl)) pe_int (nomark _))
        (pss_cons (ps_set (i := 2) scDraw.nd rfl (.inl rfl) (pe_op op_mod (pe_callTy call_int1 (by rfl) B.int PyProof.Rows.boot_int (pa_cons (pe_ix ix_list (pv 0) pe_int (fun _ _ => rfl)) pa_nil)) (pv 1)))
          (pss_cons (ps_asg (pe_op op_fdiv (pe_ix ix_list (pv 0) pe_int (fun _ _ => rfl)) (pv 1)) (pg_sub (pv 0) pe_int set_list))
          (pss_one (ps_ret (pv 2))))) pss_nil)
      (pss_cons (ps_set (i := 3) scDraw.nd rfl (.inl rfl) (pe_op op_mod (pe_callTy call_int1 (by rfl) B.int PyProof.Rows.boot_int (pa_cons
          (pe_op op_add (pe_op op_add (pe_ix ix_list (pv 0) pe_int (fun _ _ => rfl)) (pe_op op_mul pe_int (pe_ix ix_list (pv 0) pe_int (fun _ _ => rfl)))) pe_int) pa_nil)) pe_int))
      (pss_cons (ps_set (i := 3) scDraw.nd rfl (.inl rfl) (pe_op op_mod (pe_callTy call_int1 (by rfl) B.int PyProof.Rows.boot_int (pa_cons
          (pe_op op_mul (pv 3) (pe_op op_add (pv 3) pe_int)) pa_nil)) pe_int))
      (pss_cons (ps_set (i := 3) scDraw.nd rfl (.inl rfl) (pe_op op_mod (pe_callTy call_int1 (by rfl) B.int PyProof.Rows.boot_int (pa_cons
          (pe_op op_add (pe_op op_mul (pv 3) (pe_op op_add (pv 3) pe_int)) (pe_op op_mul pe_int (pe_ix ix_list (pv 0) pe_int (fun _ _ => rfl)))) pa_nil)) pe_int))
      (pss_one (ps_ret (pe_op op_mod (pe_callTy call_int1 (by rfl) B.int PyProof.Rows.boot_int (pa_cons (pe_op op_fdiv (pv 3) pe_int) pa_nil)) (pv 1)))))))), ?_⟩
    have pos1 : (0 : Int) < 2147483647 := by decide
    have pos2 : (0 : Int) < 2147483629 := by decide
    -- stream[1] = stream[1] + 1
    refine ⟨.ref p, rfl, p, _, 1, .int y, rfl, rfl, sl_map hp, at1, y, 1, rfl, rfl, .ref p, rfl, p, _, 1, 1, rfl, rfl, hp, rfl, ?_⟩
    have h1 : ∀ o, (upd H p o) p = some o := fun o => upd_same
    -- if stream[0] > 0
    refine ⟨.ref p, rfl, p, _, 0, .int x, rfl, rfl, sl_map upd_same, at0, x, 0, rfl, rfl, _, rfl, ite2 (fun c => ?_) (fun c => ?_)⟩
    · refine ⟨.ref p, rfl, p, _, 0, .int x, rfl, rfl, sl_map upd_same, at0, .inl ⟨x, rfl, .int m, rfl, x, m, rfl, rfl, m0, ?_⟩⟩
      refine ⟨.ref p, rfl, p, _, 0, .int x, rfl, rfl, sl_map upd_same, at0, .int m, rfl, x, m, rfl, rfl, ⟨m0, m1⟩, .ref p, rfl, p, _, 0, 0, rfl, rfl, upd_same, rfl, ?_⟩
      refine ⟨.int (x % m), rfl, q _ _ (fun b hb => by rw [upd_ne hb, upd_ne hb]) ⟨_, _, _, upd_same⟩ (Int.emod_nonneg _ (by omega)) (Int.emod_lt_of_pos _ m0)⟩
    · refine ⟨.ref p, rfl, p, _, 2, .int z, rfl, rfl, sl_map upd_same, at2, .ref p, rfl, p, _, 1, .int (y + 1), rfl, rfl, sl_map upd_same, at1, 7919, y + 1, rfl, rfl, .inl ⟨by decide, by decide⟩, z, _, rfl, rfl, _, 13, rfl, rfl,
        .inl ⟨_, rfl, _, 2147483647, rfl, rfl, pos1, ?_⟩⟩
      have r1 : ∀ u : Int, 0 ≤ u % 2147483647 ∧ u % 2147483647 < 2147483647 := fun u => ⟨Int.emod_nonneg _ (by decide), Int.emod_lt_of_pos _ (by decide)⟩
      have r2 : ∀ u : Int, 0 ≤ u % 2147483629 ∧ u % 2147483629 < 2147483629 := fun u => ⟨Int.emod_nonneg _ (by decide), Int.emod_lt_of_pos _ (by decide)⟩
      have big : (2147483647 : Int) < 2 ^ 64 := by decide
      have big2 : (-(2 ^ 64) : Int) < 0 := by decide
      have b1 := r1 (z + 7919 * (y + 1) + 13)
      refine ⟨_, rfl, _, rfl, (z + 7919 * (y + 1) + 13) % 2147483647, 48271, rfl, rfl, (z + 7919 * (y + 1) + 13) % 2147483647, _, rfl, rfl, .inl ⟨by omega, by omega⟩, .inl ⟨_, rfl, _, 2147483629, rfl, rfl, pos2, ?_⟩⟩
      have b2 := r2 ((z + 7919 * (y + 1) + 13) % 2147483647 * ((z + 7919 * (y + 1) + 13) % 2147483647 + 48271))
      refine ⟨_, rfl, _, rfl, _, 69621, rfl, rfl, (z + 7919 * (y + 1) + 13) % 2147483647 * ((z + 7919 * (y + 1) + 13) % 2147483647 + 48271) % 2147483629, _, rfl, rfl, .inl ⟨?_, ?_⟩, .ref p, rfl, p, _, 1, .int (y + 1), rfl, rfl, sl_map upd_same, at1, 31, y + 1, rfl, rfl, .inl ⟨by decide, by decide⟩, _, _, rfl, rfl,
        .inl ⟨_, rfl, _, 2147483647, rfl, rfl, pos1, ?_⟩⟩
      · generalize (z + 7919 * (y + 1) + 13) % 2147483647 * ((z + 7919 * (y + 1) + 13) % 2147483647 + 48271) % 2147483629 = v at b2
        omega
      · generalize (z + 7919 * (y + 1) + 13) % 2147483647 * ((z + 7919 * (y + 1) + 13) % 2147483647 + 48271) % 2147483629 = v at b2
        omega
      refine ⟨_, rfl, _, 9, rfl, rfl, ⟨by decide, by decide⟩, .inl ⟨_, rfl, .int m, rfl, _, m, rfl, rfl, m0, ?_⟩⟩
      exact q _ _ (fun b hb => by rw [upd_ne hb]) ⟨_, _, _, upd_same⟩ (Int.emod_nonneg _ (by omega)) (Int.emod_lt_of_pos _ m0)
/-- a def that stands, with its promise -/
structure Call (P : Program) (w : World) (K : PySem.W.Frag) (mg : Str → Option Value) (base : Heap) (k : Nat) (x : Str) (f : Addr) (fd : FuncData) (ps : List Str) (sp : Sp) : Prop where
  ok : FnOk P w K mg base CX0 k f fd ps sp
  at_ : mg x = some (.ref f)
  kp : PySem.W.keepIn K (.ref f) = true
  bd : Binds K fd ps []
abbrev sIsSide : Stmt := topS 40
abbrev nIsSide : List Str := ["_law_actual", "_law_value", "_law_k"]
theorem scIsSide : FnScope nIsSide ["_law_actual"] (defScope sIsSide) := ⟨rfl, rfl, rfl, by decide +kernel, rfl, by decide +kernel, by decide +kernel⟩
def spIsSide : Sp := fun vs H Q _ => ∃ (a : Addr) (ns : List Int), vs = [.ref a] ∧ H a = some (.lst (ns.map V.int)) ∧ Srt ns ∧ ns.length ≤ 1000 ∧ ∀ H', Same H H' → Q (.bl true) H'
theorem all_rep (n : Nat) : (List.replicate n true).all id = true := by simp
theorem ok_isSide {f fI : Addr} {fd fdI : FuncData} (F : Fun K "_law_is_side" "_law_is_side" sIsSide f fd) (B : Bt mg) (I : Call P w K mg base 1 "_law_is_integer" fI fdI ["_law_actual"] spIsInt) :
    FnOk P w K mg base CX0 2 f fd ["_law_actual"] spIsSide := by
  refine F.ok scIsSide (fun vs H Q E h => ?_) (fun cdv A outer s H vs Q E hr h => ?_)
  · obtain ⟨a, ns, rfl, _⟩ := h
    rfl
  · obtain ⟨a, ns, rfl, ha, hs, hl, q⟩ := h
    refine ⟨_, pss_cons (ps_if (PW.pt (pw_or (pt_not (pt_val (pe_callB call_isi (by rfl) B.isi PyProof.Rows.boot_isinstance (pa_cons (pv 0) (pa_cons (pe_bltn (by rfl) B.list PyProof.Rows.boot_list (v := .ty "list") rfl) pa_nil)))))
        (pw_or1 (pt_not (pt_val (pe_callB (cr_all rfl) (by rfl) B.all PyProof.Rows.boot_all (pa_cons
          (pe_lc (own := [("_law_value", 1)]) (g := gName 1) (tt := tYes) rfl scIsSide.nd (pi_list (pv 0)) (blkOk_by (N := nIsSide) (sc := defScope sIsSide) (by decide +kernel)) (fun _ _ _ _ _ => pg_name (i := 1) scIsSide.nd rfl (Or.inl rfl)) (fun _ _ _ _ _ => pts_nil)
            (fun _ _ _ _ _ => pe_call I.ok hr (by rfl) I.at_ I.kp I.bd .nil pass0 (pa_cons (pv 1) pa_nil))) pa_nil)))))))
        (pss_one (ps_ret pe_bl)) pss_nil)
      (pss_one (ps_ret (pe_callB (cr_all rfl) (by rfl) B.all PyProof.Rows.boot_all (pa_cons
          (pe_lc (own := [("_law_k", 2)]) (g := gName 2) (tt := tYes) rfl scIsSide.nd (pi_range1 (by rfl) B.range (pa_cons (pe_op op_sub (pe_callB call_len_seq (by rfl) B.len PySem.boot_len (pa_cons (pv 0) pa_nil)) pe_int) pa_nil))
            (blkOk_by (N := nIsSide) (sc := defScope sIsSide) (by decide +kernel)) (fun _ _ _ _ _ => pg_name (i := 2) scIsSide.nd rfl (Or.inl rfl)) (fun _ _ _ _ _ => pts_nil)
            (fun _ _ _ _ _ => pe_cmpR op_lt (pe_ix (r := rIxL K) ix_list (pv 0) (pv 2) (fun _ _ => rfl)) (pe_ix (r := rIxL K) ix_list (pv 0) (pe_op op_add (pv 2) pe_int) (fun _ _ => rfl)) (nomark _))) pa_nil)))), ?_⟩
    refine ⟨.ref a, rfl, .ref a, .ty "list", .type "list", .type "list", true, rfl, .ty _, .base (.lst ha), kit_ty (by decide +kernel), true, rfl, iteF ?_⟩
    refine ⟨.ref a, rfl, a, rfl, ⟨_, sl_map ha⟩, fun D hD => lc_list (xs := ns.map V.int) (fun i H' => Same H H' ∧ H' D = some (.lst ((List.replicate i true).map V.bl))) ⟨same_new hD, upd_same⟩ (fun i H' _ h => h.1.seq (sl_map ha)) ?_ ?_⟩
    · rintro i x H' hx ⟨sm, hd⟩
      rw [List.getElem?_map] at hx
      obtain ⟨v, hv, rfl⟩ := Option.map_eq_some_iff.mp hx
      have hi : i < ns.length := (List.getElem?_eq_some_iff.mp hv).1
      refine ⟨rfl, ?_⟩
      refine ⟨_, rfl, v, rfl, _, hd, ?_, same_at sm hD, ?_⟩
      · rw [List.length_map, List.length_replicate]
        exact small1000 (by omega)
      · rw [upd_same, List.replicate_succ', List.map_append]
        rfl
    · rintro H' ⟨sm, hd⟩
      rw [List.length_map] at hd
      refine ⟨D, _, rfl, sl_map hd, _, rfl, ?_⟩
      rw [all_rep]
      refine iteF ?_
      -- all([.. < ..])
      refine ⟨.ref a, rfl, a, _, rfl, .inl (sm.seq (sl_map ha)), ((ns.map V.int).length : Int), 1, rfl, rfl, _, rfl, ?_, ?_, fun D2 hD2 => lc_range (lo := 0) (fun i H2 => Same H H2 ∧ H2 D2 = some (.lst ((List.replicate i true).map V.bl))) ⟨same_at sm (sm.free hD2), upd_same⟩ ?_ ?_⟩
      · rw [List.length_map]; omega
      · rw [List.length_map]; omega
      · rintro i H2 hi ⟨sm2, hd2⟩
        rw [List.length_map] at hi
        have h1 : i < ns.length := by omega
        have h2 : i + 1 < ns.length := by omega
        have g1 : (ns.map V.int)[i]? = some (.int ns[i]) := by
          rw [List.getElem?_map, List.getElem?_eq_getElem h1]
          rfl
        have g2 : (ns.map V.int)[i + 1]? = some (.int ns[i + 1]) := by
          rw [List.getElem?_map, List.getElem?_eq_getElem h2]
          rfl
        refine ⟨rfl, ?_⟩
        refine ⟨.ref a, rfl, _, rfl, a, _, _, _, rfl, rfl, sm2.seq (sl_map ha), at_of (by omega) g1, .ref a, rfl, _, rfl, _, 1, rfl, rfl, a, _, _, _, rfl, rfl, sm2.seq (sl_map ha), at_of (j := i + 1) (by omega) g2, _, _, rfl, rfl, _, hd2, ?_, same_at sm2 (sm.free hD2), ?_⟩
        · rw [List.length_map, List.length_replicate]
          exact small1000 (by omega)
        · have lt : ns[i] < ns[i + 1] := List.pairwise_iff_getElem.mp hs i (i + 1) h1 h2 (Nat.lt_succ_self i)
          have e : (fun i j : Int => V.bl (decide (i < j))) ns[i] ns[i + 1] = V.bl true := congrArg V.bl (decide_eq_true lt)
          rw [upd_same, e, List.replicate_succ', List.map_append]
          rfl
      · rintro H2 ⟨sm2, hd2⟩
        refine ⟨D2, _, rfl, sl_map hd2, ?_⟩
        rw [all_rep]
        exact q _ sm2
/-- what was tracked, but for the one at p, is as it was -/
def Keep (p : Addr) (H H' : Hp) : Prop := ∀ b o, b ≠ p → H b = some o → H' b = some o
theorem Keep.refl (p : Addr) (H : Hp) : Keep p H H := fun _ _ _ e => e
theorem Keep.oth {p : Addr} {H H1 H2 : Hp} (k : Keep p H H1) (o : Oth p H1 H2) : Keep p H H2 := fun b u hb e => (o b hb).trans (k b u hb e)
theorem Keep.trans {p : Addr} {H H1 H2 : Hp} (k : Keep p H H1) (k2 : Keep p H1 H2) : Keep p H H2 := fun b u hb e => k2 b u hb (k b u hb e)
theorem Keep.at_ {p q : Addr} {o : HO} {H H1 : Hp} (k : Keep p H H1) (n : H q = none) : Keep p H (upd H1 q o) := fun b u hb e => by
  rw [upd_ne (ne_of_none e n)]
  exact k b u hb e
theorem Keep.same {p : Addr} {H H1 : Hp} (s : Same H H1) : Keep p H H1 := fun b u _ e => s b u e
theorem Strm.some {H : Hp} {p : Addr} (s : Strm H p) : H p ≠ none := fun z => by
  obtain ⟨x, y, z', e⟩ := s
  rw [z] at e
  cases e
theorem Strm.keep {H H' : Hp} {p q : Addr} (s : Strm H p) (k : Keep q H H') (h : p ≠ q) : Strm H' p := by
  obtain ⟨x, y, z, e⟩ := s
  exact ⟨x, y, z, k _ _ h e⟩
theorem Strm.upd {H : Hp} {p q : Addr} {o : HO} (s : Strm H p) (h : p ≠ q) : Strm (upd H q o) p := by
  obtain ⟨x, y, z, e⟩ := s
  exact ⟨x, y, z, by rw [upd_ne h]; exact e⟩
theorem Keep.free {p q : Addr} {H H1 : Hp} (k : Keep p H H1) (s : Strm H1 p) (n : H1 q = none) : H q = none := by
  have hp : q ≠ p := fun z => s.some (z ▸ n)
  cases c : H q with
  | none => rfl
  | some o =>
    rw [k q o hp c] at n
    cases n
end
theorem srt_ext : ∀ {xs ys : List Int}, Srt xs → Srt ys → (∀ k, k ∈ xs ↔ k ∈ ys) → xs = ys
  | [], [], _, _, _ => rfl
  | [], y :: ys, _, _, h => absurd ((h y).2 List.mem_cons_self) (by simp)
  | x :: xs, [], _, _, h => absurd ((h x).1 List.mem_cons_self) (by simp)
  | x :: xs, y :: ys, sx, sy, h => by
    obtain ⟨x1, x2⟩ := List.pairwise_cons.mp sx
    obtain ⟨y1, y2⟩ := List.pairwise_cons.mp sy
    have e : x = y := by
      rcases List.mem_cons.mp ((h x).1 List.mem_cons_self) with a | a
      · exact a
      · rcases List.mem_cons.mp ((h y).2 List.mem_cons_self) with b | b
        · exact b.symm
        · have := x1 y b
          have := y1 x a
          omega
    subst e
    have t : ∀ k, k ∈ xs ↔ k ∈ ys := fun k => by
      constructor
      · intro hk
        rcases List.mem_cons.mp ((h k).1 (List.mem_cons_of_mem _ hk)) with a | a
        · have := x1 k hk
          omega
        · exact a
      · intro hk
        rcases List.mem_cons.mp ((h k).2 (List.mem_cons_of_mem _ hk)) with a | a
        · have := y1 k hk
          omega
        · exact a
    rw [srt_ext x2 y2 t]
/-! ### lists of ints as data -/
abbrev dI (ns : List Int) : PyData := .list (ns.map PyData.int)
theorem dp_all {K : PySem.W.Frag} {H : Hp} : ∀ ns : List Int, DpAll K H (ns.map V.int) (ns.map PyData.int)
  | [] => .nil
  | n :: ns => .cons (.int n) (dp_all ns)
theorem dpI {K : PySem.W.Frag} {H : Hp} {a : Addr} {ns : List Int} (h : SqL K H a (ns.map V.int)) : Dp K H (.ref a) (dI ns) := .lst h (dp_all ns)
theorem lay_all : ∀ ns : List Int, PyData.canLayAll0 (ns.map PyData.int) = true
  | [] => rfl
  | n :: ns => by
    show (PyData.canLay0 (.int n) && PyData.canLayAll0 (ns.map PyData.int)) = true
    rw [lay_all ns] <;> rfl
theorem layI (ns : List Int) : (dI ns).canLay0 = true := lay_all ns
theorem deep_all : ∀ ns : List Int, PyData.depthAll (ns.map PyData.int) ≤ 1
  | [] => by simp [PyData.depthAll]
  | n :: ns => by
    have := deep_all ns
    simp only [List.map_cons, PyData.depthAll, PyData.depth]
    omega
theorem deepI (ns : List Int) : (dI ns).depth ≤ 2 := by
  have := deep_all ns
  simp only [dI, PyData.depth]
  omega
theorem shI (ns : List Int) : SeqAt.shaped (dI ns) = true := by
  unfold SeqAt.shaped
  rw [layI]
  have := deepI ns
  simp
  omega
theorem eqI (ns : List Int) : PyData.eqv (dI ns) (dI ns) = true := SeqAt.eqv_refl _ (layI ns)
theorem lay2 (ns ks : List Int) : (PyData.list [dI ns, dI ks]).canLay0 = true := by
  show (PyData.canLay0 (dI ns) && (PyData.canLay0 (dI ks) && true)) = true
  rw [layI, layI]
  rfl
theorem sh2 (ns ks : List Int) : SeqAt.shaped (.list [dI ns, dI ks]) = true := by
  unfold SeqAt.shaped
  rw [lay2]
  have h1 := deepI ns
  have h2 := deepI ks
  have : (PyData.list [dI ns, dI ks]).depth ≤ 3 := by
    simp only [PyData.depth, PyData.depthAll] at *
    omega
  simp
  omega
theorem eq2 (ns ks : List Int) : PyData.eqv (.list [dI ns, dI ks]) (.list [dI ns, dI ks]) = true := SeqAt.eqv_refl _ (lay2 ns ks)
/-! ### boxes: dicts from texts to lists of ints -/
abbrev Ent := Str × Addr × List Int
def entK (L : List Ent) : List (Key × V) := L.map fun e => (Sum.inr e.1, V.ref e.2.1)
def getE (L : List Ent) (x : Str) : Option Ent := L.find? fun e => decide (e.1 = x)
def look (L : List Ent) (x : Str) : Option (List Int) := (getE L x).map (·.2.2)
theorem getE_nil (x : Str) : getE [] x = none := rfl
theorem getE_pos {e : Ent} {L : List Ent} {x : Str} (h : e.1 = x) : getE (e :: L) x = some e := by simp [getE, List.find?_cons, h]
theorem getE_neg {e : Ent} {L : List Ent} {x : Str} (h : ¬ e.1 = x) : getE (e :: L) x = getE L x := by simp [getE, List.find?_cons, h]
theorem getE_mem {L : List Ent} {x : Str} {e : Ent} (h : getE L x = some e) : e ∈ L ∧ e.1 = x :=
  ⟨List.mem_of_find?_eq_some h, of_decide_eq_true (List.find?_some (p := fun e : Ent => decide (e.1 = x)) h)⟩
theorem getE_of : ∀ {L : List Ent} {e : Ent}, (L.map (·.1)).Nodup → e ∈ L → getE L e.1 = some e
  | [], _, _, h => by cases h
  | a :: L, e, nd, h => by
    rw [List.map_cons, List.nodup_cons] at nd
    rcases List.mem_cons.mp h with z | z
    · rw [z]; exact getE_pos rfl
    · have ne : ¬ a.1 = e.1 := fun q => nd.1 (q ▸ List.mem_map_of_mem z)
      rw [getE_neg ne]
      exact getE_of nd.2 z
theorem getE_none {L : List Ent} {x : Str} : getE L x = none ↔ x ∉ L.map (·.1) := by
  unfold getE
  rw [List.find?_eq_none]
  constructor
  · intro h hx
    obtain ⟨e, he, q⟩ := List.mem_map.mp hx
    exact h e he (decide_eq_true q)
  · intro h e he q
    exact h (of_decide_eq_true q ▸ List.mem_map_of_mem he)
theorem look_mem {L : List Ent} {e : Ent} (nd : (L.map (·.1)).Nodup) (h : e ∈ L) : look L e.1 = some e.2.2 := by
  unfold look
  rw [getE_of nd h]
  rfl
theorem valV_ent (x : Str) : ∀ L : List Ent, valV (entK L) (.inr x) = (getE L x).map fun e => V.ref e.2.1
  | [] => rfl
  | e :: L => by
    by_cases h : e.1 = x
    · rw [getE_pos h]
      exact valV_pos (congrArg Sum.inr h)
    · rw [getE_neg h]
      have : valV (entK (e :: L)) (.inr x) = valV (entK L) (.inr x) := valV_neg (fun z => h (Sum.inr.inj z))
      rw [this]
      exact valV_ent x L
structure Bx (H : Hp) (d : Addr) (L : List Ent) : Prop where
  rd : Rd H d (.dK (entK L))
  sides : ∀ e ∈ L, H e.2.1 = some (.lst (e.2.2.map V.int))
  nd : (L.map (·.1)).Nodup
  few : L.length ≤ 40
theorem Rd.same {H H' : Hp} {a : Addr} {u : HO} (s : Same H H') (r : Rd H a u) : Rd H' a u := r.elim (fun h => .inl (s _ _ h)) fun ⟨o, h⟩ => .inr ⟨o, s _ _ h⟩
theorem Bx.same {H H' : Hp} {d : Addr} {L : List Ent} (B : Bx H d L) (s : Same H H') : Bx H' d L := ⟨Rd.same s B.rd, fun e he => s _ _ (B.sides e he), B.nd, B.few⟩
theorem Bx.get {H : Hp} {d : Addr} {L : List Ent} (B : Bx H d L) (x : Str) : DGet H d (.str x) ((getE L x).map fun e => V.ref e.2.1) := .inl ⟨entK L, .inr x, B.rd, rfl, (valV_ent x L).symm⟩
/-- a locked dict is read as before -/
theorem Bx.lock {H : Hp} {d d' : Addr} {L L' : List Ent} {od : Obj} (B : Bx H d L) (h : H d' = some (.dK (entK L'))) : Bx (upd H d' (.frz od (.dK (entK L')))) d L := by
  refine ⟨?_, fun e he => ?_, B.nd, B.few⟩
  · by_cases z : d = d'
    · subst z
      have : entK L' = entK L := by
        rcases B.rd with q | ⟨o, q⟩
        · rw [h] at q
          exact HO.dK.inj (Option.some.inj q)
        · rw [h] at q; cases q
      rw [← this]
      exact .inr ⟨od, upd_same⟩
    · rcases B.rd with q | ⟨o, q⟩
      · exact .inl (by rw [upd_ne z]; exact q)
      · exact .inr ⟨o, by rw [upd_ne z]; exact q⟩
  · have : e.2.1 ≠ d' := fun z => by have q := B.sides e he; rw [z, h] at q; cases q
    rw [upd_ne this]
    exact B.sides e he
theorem unlock {H H' : Hp} {d : Addr} {u : HO} {od : Obj} (h : H d = some u) (s : Same (upd H d (.frz od u)) H') : Same H (upd H' d u) := fun b o e => by
  by_cases z : b = d
  · subst z
    rw [upd_same]
    exact h.symm.trans e
  · rw [upd_ne z]
    exact s b o (by rw [upd_ne z]; exact e)
/-- put -/
def putE (L : List Ent) (x : Str) (a : Addr) (s : List Int) : List Ent := if (L.any fun e => decide (e.1 = x)) = true then L.map (fun e => if e.1 = x then (x, a, s) else e) else L ++ [(x, a, s)]
theorem any_ent (L : List Ent) (x : Str) : ((entK L).any fun kv => decide (kv.1 = Sum.inr x)) = L.any fun e => decide (e.1 = x) := by
  unfold entK
  rw [List.any_map]
  congr 1
  funext e
  simp
theorem putK_ent (L : List Ent) (x : Str) (a : Addr) (s : List Int) : putK (entK L) (.inr x) (V.ref a) = entK (putE L x a s) := by
  unfold putK putE
  rw [any_ent]
  by_cases h : (L.any fun e => decide (e.1 = x)) = true
  · rw [if_pos h, if_pos h]
    unfold entK
    rw [List.map_map, List.map_map]
    congr 1
    funext e
    by_cases z : e.1 = x
    · simp [z]
    · simp [z]
  · rw [if_neg h, if_neg h]
    unfold entK
    rw [List.map_append]
    rfl
theorem any_iff {L : List Ent} {x : Str} : (L.any fun e => decide (e.1 = x)) = true ↔ x ∈ L.map (·.1) := by
  rw [List.any_eq_true, List.mem_map]
  constructor
  · rintro ⟨e, he, q⟩; exact ⟨e, he, of_decide_eq_true q⟩
  · rintro ⟨e, he, q⟩; exact ⟨e, he, decide_eq_true q⟩
theorem putE_keys (L : List Ent) (x : Str) (a : Addr) (s : List Int) : (putE L x a s).map (·.1) = if x ∈ L.map (·.1) then L.map (·.1) else L.map (·.1) ++ [x] := by
  unfold putE
  by_cases h : (L.any fun e => decide (e.1 = x)) = true
  · rw [if_pos h, if_pos (any_iff.mp h), List.map_map]
    congr 1
    funext e
    by_cases z : e.1 = x
    · simp [z]
    · simp [z]
  · rw [if_neg h, if_neg (fun z => h (any_iff.mpr z)), List.map_append]
    rfl
theorem putE_nd {L : List Ent} {x : Str} {a : Addr} {s : List Int} (nd : (L.map (·.1)).Nodup) : ((putE L x a s).map (·.1)).Nodup := by
  rw [putE_keys]
  split
  · exact nd
  · rename_i h
    rw [List.nodup_append]
    exact ⟨nd, by simp, fun y hy z hz => by rw [List.mem_singleton.mp hz]; exact fun e => h (e ▸ hy)⟩
theorem putE_len (L : List Ent) (x : Str) (a : Addr) (s : List Int) : (putE L x a s).length ≤ L.length + 1 := by
  unfold putE
  split
  · rw [List.length_map]; omega
  · rw [List.length_append]; exact Nat.le_refl _
theorem putE_mem {L : List Ent} {x : Str} {a : Addr} {s : List Int} {e : Ent} (h : e ∈ putE L x a s) : e = (x, a, s) ∨ (e ∈ L ∧ e.1 ≠ x) := by
  unfold putE at h
  split at h
  · obtain ⟨f, hf, q⟩ := List.mem_map.mp h
    by_cases z : f.1 = x
    · rw [if_pos z] at q; exact .inl q.symm
    · rw [if_neg z] at q; exact .inr (q ▸ ⟨hf, z⟩)
  · rename_i g
    rcases List.mem_append.mp h with q | q
    · exact .inr ⟨q, fun z => g (any_iff.mpr (z ▸ List.mem_map_of_mem q))⟩
    · exact .inl (List.mem_singleton.mp q)
theorem find_map_at {x y : Str} {a : Addr} {s : List Int} (h : ¬ x = y) : ∀ L : List Ent, getE (L.map (fun e => if e.1 = x then (x, a, s) else e)) y = getE L y
  | [] => rfl
  | e :: L => by
    rw [List.map_cons]
    by_cases z : e.1 = x
    · rw [if_pos z, getE_neg (show ¬ (x, a, s).1 = y from h), getE_neg (fun q => h (z.symm.trans q))]
      exact find_map_at h L
    · rw [if_neg z]
      by_cases q : e.1 = y
      · rw [getE_pos q, getE_pos q]
      · rw [getE_neg q, getE_neg q]
        exact find_map_at h L
theorem find_map_self {x : Str} {a : Addr} {s : List Int} : ∀ L : List Ent, x ∈ L.map (·.1) → getE (L.map (fun e => if e.1 = x then (x, a, s) else e)) x = some (x, a, s)
  | [], h => by cases h
  | e :: L, h => by
    rw [List.map_cons]
    by_cases z : e.1 = x
    · rw [if_pos z]; exact getE_pos rfl
    · rw [if_neg z, getE_neg z]
      rw [List.map_cons] at h
      exact find_map_self L ((List.mem_cons.mp h).elim (fun q => absurd q.symm z) id)
theorem getE_app (L M : List Ent) (y : Str) : getE (L ++ M) y = (getE L y).or (getE M y) := List.find?_append
theorem getE_put (L : List Ent) (x y : Str) (a : Addr) (s : List Int) : getE (putE L x a s) y = if y = x then some (x, a, s) else getE L y := by
  unfold putE
  by_cases h : (L.any fun e => decide (e.1 = x)) = true
  · rw [if_pos h]
    by_cases z : y = x
    · rw [if_pos z, z]
      exact find_map_self L (any_iff.mp h)
    · rw [if_neg z]
      exact find_map_at (fun q => z q.symm) L
  · rw [if_neg h, getE_app]
    by_cases z : y = x
    · rw [if_pos z, z, getE_none.mpr (fun q => h (any_iff.mpr q))]
      exact getE_pos rfl
    · rw [if_neg z, show getE [(x, a, s)] y = none from getE_neg (fun q => z q.symm)]
      cases getE L y <;> rfl
theorem look_put (L : List Ent) (x y : Str) (a : Addr) (s : List Int) : look (putE L x a s) y = if y = x then some s else look L y := by
  unfold look
  rw [getE_put]
  by_cases z : y = x
  · rw [if_pos z, if_pos z]; rfl
  · rw [if_neg z, if_neg z]
/-- drop -/
def dropE (L : List Ent) (x : Str) : List Ent := L.filter fun e => decide (e.1 ≠ x)
theorem dropK_ent (L : List Ent) (x : Str) : dropK (entK L) (.inr x) = entK (dropE L x) := by
  unfold dropK dropE entK
  rw [List.filter_map]
  congr 1
  apply List.filter_congr
  intro e _
  simp
theorem getE_drop (x y : Str) : ∀ L : List Ent, getE (dropE L x) y = if y = x then none else getE L y
  | [] => by unfold dropE; simp [getE]
  | e :: L => by
    have ih := getE_drop x y L
    unfold dropE at ih ⊢
    by_cases z : e.1 = x
    · rw [List.filter_cons_of_neg (by simp [z]), ih]
      by_cases q : y = x
      · rw [if_pos q, if_pos q]
      · rw [if_neg q, if_neg q, getE_neg (fun w => q (w.symm.trans z))]
    · rw [List.filter_cons_of_pos (by simp [z])]
      by_cases w : e.1 = y
      · rw [getE_pos w, getE_pos w, if_neg (fun q => z (w.trans q))]
      · rw [getE_neg w, getE_neg w, ih]
theorem look_drop (L : List Ent) (x y : Str) : look (dropE L x) y = if y = x then none else look L y := by
  unfold look
  rw [getE_drop]
  by_cases q : y = x
  · rw [if_pos q, if_pos q]; rfl
  · rw [if_neg q, if_neg q]
theorem dropE_nd {L : List Ent} {x : Str} (nd : (L.map (·.1)).Nodup) : ((dropE L x).map (·.1)).Nodup := List.Pairwise.sublist (List.Sublist.map _ List.filter_sublist) nd
theorem dropE_mem {L : List Ent} {x : Str} {e : Ent} (h : e ∈ dropE L x) : e ∈ L := (List.mem_filter.mp h).1
theorem dropE_len (L : List Ent) (x : Str) : (dropE L x).length ≤ L.length := List.length_filter_le _ _
/-- two boxes that say the same -/
def SameB (L M : List Ent) : Prop := ∀ x, look L x = look M x
theorem look_isSome {L : List Ent} {x : Str} : (look L x).isSome = true ↔ x ∈ L.map (·.1) := by
  unfold look
  rw [Option.isSome_map]
  cases h : getE L x with
  | none => simp [getE_none.mp h]
  | some e => simp only [Option.isSome_some, true_iff]; obtain ⟨a, b⟩ := getE_mem h; exact b ▸ List.mem_map_of_mem a
theorem len_le {α : Type} [DecidableEq α] : ∀ {l m : List α}, l.Nodup → (∀ x ∈ l, x ∈ m) → l.length ≤ m.length
  | [], _, _, _ => Nat.zero_le _
  | x :: l, m, nd, h => by
    rw [List.nodup_cons] at nd
    have hx := h x List.mem_cons_self
    have ih := len_le (m := m.erase x) nd.2 (fun y hy => (List.mem_erase_of_ne (fun (e : y = x) => nd.1 (by rw [← e]; exact hy))).2 (h y (List.mem_cons_of_mem _ hy)))
    rw [List.length_erase_of_mem hx] at ih
    have : 0 < m.length := List.length_pos_of_mem hx
    rw [List.length_cons]
    omega
theorem SameB.len {L M : List Ent} (s : SameB L M) (n1 : (L.map (·.1)).Nodup) (n2 : (M.map (·.1)).Nodup) : L.length = M.length := by
  have h1 := len_le n1 (fun x hx => look_isSome.mp (by rw [← s x]; exact look_isSome.mpr hx))
  have h2 := len_le n2 (fun x hx => look_isSome.mp (by rw [s x]; exact look_isSome.mpr hx))
  rw [List.length_map, List.length_map] at h1 h2
  omega
/-- v in ks, as the model asks it -/
theorem in_ints (ks : List Int) (v : Int) : inV (.int v) (ks.map V.int) = decide (v ∈ ks) := by
  unfold inV
  induction ks with
  | nil => simp
  | cons k ks ih =>
    rw [List.map_cons, List.any_cons, ih]
    have e : eqV (.int k) (.int v) = decide (k = v) := by
      by_cases c : k = v
      · subst c; simp [eqV]
      · simp [eqV, c]
    rw [e]
    by_cases c : k = v
    · subst c; simp
    · have c2 : ¬ v = k := fun z => c z.symm
      simp [c, c2]
theorem flat_ints (ks : List Int) : (ks.map V.int).all flatV = true := by
  rw [List.all_map]
  exact List.all_eq_true.mpr fun _ _ => rfl
section
variable {P : Program} {w : World} {K : PySem.W.Frag} {mg : Str → Option Value} {base : Heap}
/-! ### the program: boxes -/
/-- a box that no walk has locked -/
structure Bu (H : Hp) (d : Addr) (L : List Ent) : Prop extends Bx H d L where
  un : H d = some (.dK (entK L))
theorem Bu.same' {H H' : Hp} {d : Addr} {L : List Ent} (B : Bu H d L) (s : Same H H') : Bu H' d L := ⟨B.toBx.same s, s _ _ B.un⟩
theorem upd_back {H : Hp} {d : Addr} {u x : HO} (h : H d = some u) : upd (upd H d x) d u = H := by
  funext b
  by_cases z : b = d
  · rw [z, upd_same, h]
  · rw [upd_ne z, upd_ne z]
theorem entK_get {L : List Ent} {i : Nat} : (entK L)[i]? = (L[i]?).map fun e => (Sum.inr e.1, V.ref e.2.1) := by
  unfold entK
  rw [List.getElem?_map]
/-! ### holds -/
def intK (A : List (Str × Int)) : List (Key × V) := A.map fun e => (Sum.inr e.1, V.int e.2)
def aget (A : List (Str × Int)) (x : Str) : Option Int := (A.find? fun e => decide (e.1 = x)).map (·.2)
theorem valV_int (x : Str) : ∀ A : List (Str × Int), valV (intK A) (.inr x) = (aget A x).map V.int
  | [] => rfl
  | e :: A => by
    by_cases h : e.1 = x
    · have : aget (e :: A) x = some e.2 := by simp [aget, List.find?_cons, h]
      rw [this]
      exact valV_pos (congrArg Sum.inr h)
    · have : aget (e :: A) x = aget A x := by simp [aget, List.find?_cons, h]
      rw [this]
      have : valV (intK (e :: A)) (.inr x) = valV (intK A) (.inr x) := valV_neg (fun z => h (Sum.inr.inj z))
      rw [this]
      exact valV_int x A
/-- an assignment: a dict from texts to ints -/
structure Ax (H : Hp) (d : Addr) (A : List (Str × Int)) : Prop where
  rd : Rd H d (.dK (intK A))
theorem Ax.same {H H' : Hp} {d : Addr} {A : List (Str × Int)} (B : Ax H d A) (s : Same H H') : Ax H' d A := ⟨Rd.same s B.rd⟩
theorem Ax.get {H : Hp} {d : Addr} {A : List (Str × Int)} (B : Ax H d A) (x : Str) : DGet H d (.str x) ((aget A x).map V.int) := .inl ⟨intK A, .inr x, B.rd, rfl, (valV_int x A).symm⟩
def inSide (A : List (Str × Int)) (e : Ent) : Bool := match aget A e.1 with
  | some v => decide (v ∈ e.2.2)
  | none => true
def holdsE (L : List Ent) (A : List (Str × Int)) : Bool := L.all (inSide A)
theorem same_frz {H H' : Hp} {d : Addr} {u : HO} {od : Obj} (h : H d = some u) (s : Same H H') : Same (upd H d (.frz od u)) (upd H' d (.frz od u)) := fun b o e => by
  by_cases z : b = d
  · subst z
    rw [upd_same] at e ⊢
    exact e
  · rw [upd_ne z] at e ⊢
    exact s _ _ e
theorem take_all {α : Type} {L : List α} {i : Nat} {e : α} {p : α → Bool} (h : L[i]? = some e) : (L.take (i + 1)).all p = ((L.take i).all p && p e) := by
  rw [List.take_add_one, h, List.all_append]
  simp
theorem not_all {α : Type} {L : List α} {i : Nat} {e : α} {p : α → Bool} (h : L[i]? = some e) (q : p e = false) : L.all p = false := by
  rw [List.all_eq_false]
  exact ⟨e, List.mem_of_getElem? h, by simp [q]⟩
theorem Ax.frz {H : Hp} {v d : Addr} {A : List (Str × Int)} {u : HO} (B : Ax H v A) (h : v ≠ d) : Ax (upd H d u) v A := ⟨B.rd.elim (fun q => .inl (by rw [upd_ne h]; exact q)) fun ⟨o, q⟩ => .inr ⟨o, by rw [upd_ne h]; exact q⟩⟩
theorem entK_len (L : List Ent) : (entK L).length = L.length := by unfold entK; rw [List.length_map]
theorem items_at {L : List Ent} {i : Nat} {x1 x2 : V} (g1 : ((entK L)[i]?.map fun kv => kV kv.1) = some x1) (g2 : ((entK L)[i]?.map Prod.snd) = some x2) : ∃ e, L[i]? = some e ∧ x1 = .str e.1 ∧ x2 = .ref e.2.1 := by
  rw [entK_get] at g1 g2
  cases c : L[i]? with
  | none => rw [c] at g1; cases g1
  | some e => rw [c] at g1 g2; exact ⟨e, rfl, (Option.some.inj g1).symm, (Option.some.inj g2).symm⟩
theorem keys_at {L : List Ent} {i : Nat} {k : Key} {v : V} (h : (entK L)[i]? = some (k, v)) : ∃ e, L[i]? = some e ∧ k = .inr e.1 ∧ v = .ref e.2.1 := by
  rw [entK_get] at h
  obtain ⟨e, he, q⟩ := Option.map_eq_some_iff.mp h
  cases q
  exact ⟨e, he, rfl, rfl⟩
/-! ### box_within -/
end
/-- a new box with sides of its own -/
structure Nb (H0 H : Hp) (d : Addr) (L : List Ent) : Prop extends Bu H d L where
  fresh : H0 d = none
  freshS : ∀ e ∈ L, H0 e.2.1 = none
  inj : (L.map (·.2.1)).Nodup
theorem Nb.pull {H H0 H1 : Hp} {d : Addr} {L : List Ent} (N : Nb H0 H1 d L) (s : Same H H0) : Nb H H1 d L := ⟨N.toBu, s.free N.fresh, fun e he => s.free (N.freshS e he), N.inj⟩
theorem Nb.push {H0 H1 H2 : Hp} {d : Addr} {L : List Ent} (N : Nb H0 H1 d L) (s : Same H1 H2) : Nb H0 H2 d L := ⟨N.toBu.same' s, N.fresh, N.freshS, N.inj⟩
abbrev shape (L : List Ent) : List (Str × List Int) := L.map fun e => (e.1, e.2.2)
theorem look_shape : ∀ {L M : List Ent}, shape L = shape M → SameB L M
  | [], [], _, _ => rfl
  | [], _ :: _, h, _ => by cases h
  | _ :: _, [], h, _ => by cases h
  | e :: L, f :: M, h, x => by
    simp only [shape, List.map_cons, List.cons.injEq, Prod.mk.injEq] at h
    obtain ⟨⟨h1, h2⟩, h3⟩ := h
    have ih := look_shape (L := L) (M := M) h3 x
    unfold look at ih ⊢
    by_cases z : e.1 = x
    · rw [getE_pos z, getE_pos (h1 ▸ z)]
      exact congrArg some h2
    · rw [getE_neg z, getE_neg (fun q => z (h1.trans q))]
      exact ih
theorem shape_keys {L M : List Ent} (h : shape L = shape M) : L.map (·.1) = M.map (·.1) := by
  have q := congrArg (List.map Prod.fst) h
  unfold shape at q
  rw [List.map_map, List.map_map] at q
  exact q
theorem putE_new {L : List Ent} {x : Str} {a : Addr} {s : List Int} (h : x ∉ L.map (·.1)) : putE L x a s = L ++ [(x, a, s)] := if_neg fun z => h (any_iff.mp z)
theorem nd_snoc {α : Type} {l : List α} {x : α} (nd : l.Nodup) (h : x ∉ l) : (l ++ [x]).Nodup := by
  rw [List.nodup_append]
  exact ⟨nd, by simp, fun y hy z hz => by rw [List.mem_singleton.mp hz]; exact fun e => h (e ▸ hy)⟩
theorem dc_it {J : It} {n : Nat} {G : Hp → Prop} {Y : Nat → Hp → V → Hp → Prop} (w : Walk J n G Y) {g : TG} {tt : TT} {tk tv : TE} {vs : List Nat} {σ : L2.St} {H1 : Hp} {D : Addr} {Qd : Hp → Prop} (Pv : Nat → Hp → Prop) (start : Pv 0 (upd H1 D (.dK []))) (stays : ∀ i H, i ≤ n → Pv i H → G H)
    (turn : ∀ i x H H', i < n → Pv i H → Y i H x H' → g x (wipe σ vs) H' fun σ2 H2 => wipe σ2 vs = wipe σ vs ∧ tt σ2 H2 fun b H3 =>
      if b = true then tk σ2 H3 fun y H4 => tv σ2 H4 fun z H5 => ∃ kvs k, y = kV k ∧ H5 D = some (.dK kvs) ∧ kvs.length < sizeLine ∧ Pv (i + 1) (upd H5 D (.dK (putK kvs k z))) else Pv (i + 1) H3) (after : ∀ H, Pv n H → Qd H) :
    ∃ W : Nat → Nat → Hp → Prop, (∃ m, W 0 m (upd H1 D (.dK []))) ∧ ∀ i m H, W i m H →
      (J.stop i H ∧ Qd H) ∨ (J.go i H ∧ ∃ Nx : Hp → Prop, (∀ H', Nx H' → ∃ m', m' < m ∧ W (i + 1) m' H') ∧ ∀ x H', J.yld i H x H' → g x (wipe σ vs) H' fun σ2 H2 => wipe σ2 vs = wipe σ vs ∧ tt σ2 H2 fun b H3 =>
        if b = true then tk σ2 H3 fun y H4 => tv σ2 H4 fun z H5 => ∃ kvs k, y = kV k ∧ H5 D = some (.dK kvs) ∧ kvs.length < sizeLine ∧ Nx (upd H5 D (.dK (putK kvs k z))) else Nx H3) := by
  refine ⟨fun i m H => m = n - i ∧ i ≤ n ∧ Pv i H, ⟨n, rfl, Nat.zero_le _, start⟩, fun i m H h => ?_⟩
  obtain ⟨em, le, pv⟩ := h
  by_cases lt : i < n
  · exact .inr ⟨w.goes i H lt (stays i H le pv), Pv (i + 1), fun H' p => ⟨n - (i + 1), by omega, rfl, lt, p⟩, fun x H' y => turn i x H H' lt pv (w.yields i H x H' lt (stays i H le pv) y)⟩
  · obtain rfl : i = n := by omega
    exact .inl ⟨w.stops H (stays _ H le pv), after H pv⟩
section
variable {P : Program} {w : World} {K : PySem.W.Frag} {mg : Str → Option Value} {base : Heap}
abbrev rLst (K : PySem.W.Frag) : List V → Hp → VK → Prop := fun xs H Q => ∃ p ys, xs = [.ref p] ∧ (SqL K H p ys ∨ SqT K H p ys) ∧ ∀ l, H l = none → Q (.ref l) (upd H l (.lst ys))
def spCopy : Sp := fun vs H Q _ => ∃ (d : Addr) (L : List Ent), vs = [.ref d] ∧ Bu H d L ∧ ∀ (H' : Hp) (d' : Addr) (M : List Ent), Same H H' → Nb H H' d' M → shape M = shape L → Q (.ref d') H'
end
/-! ### what two sorted lists have together -/
def ins (k : Int) : List Int → List Int
  | [] => [k]
  | x :: l => if k < x then k :: x :: l else if k = x then x :: l else x :: ins k l
theorem ins_mem (k j : Int) : ∀ l : List Int, j ∈ ins k l ↔ j = k ∨ j ∈ l
  | [] => by simp [ins]
  | x :: l => by
    unfold ins
    by_cases a : k < x
    · rw [if_pos a]; simp
    · rw [if_neg a]
      by_cases b : k = x
      · rw [if_pos b, b]; simp
      · rw [if_neg b, List.mem_cons, ins_mem k j l, List.mem_cons]
        constructor
        · rintro (h | h | h)
          · exact .inr (.inl h)
          · exact .inl h
          · exact .inr (.inr h)
        · rintro (h | h | h)
          · exact .inr (.inl h)
          · exact .inl h
          · exact .inr (.inr h)
theorem ins_srt (k : Int) : ∀ l : List Int, Srt l → Srt (ins k l)
  | [], _ => List.pairwise_singleton _ _
  | x :: l, s => by
    obtain ⟨s1, s2⟩ := List.pairwise_cons.mp s
    unfold ins
    by_cases a : k < x
    · rw [if_pos a]
      refine List.pairwise_cons.mpr ⟨fun y hy => ?_, s⟩
      rcases List.mem_cons.mp hy with h | h
      · rw [h]; exact a
      · have := s1 y h; omega
    · rw [if_neg a]
      by_cases b : k = x
      · rw [if_pos b]; exact s
      · rw [if_neg b]
        refine List.pairwise_cons.mpr ⟨fun y hy => ?_, ins_srt k l s2⟩
        rcases (ins_mem k y l).mp hy with h | h
        · rw [h]; omega
        · exact s1 y h
theorem ins_len (k : Int) : ∀ l : List Int, (ins k l).length ≤ l.length + 1
  | [] => Nat.le_refl _
  | x :: l => by
    have := ins_len k l
    unfold ins
    split
    · simp
    · split
      · simp
      · simp only [List.length_cons]; omega
def uni (a b : List Int) : List Int := b.foldr ins a
theorem uni_mem (a : List Int) (j : Int) : ∀ b : List Int, j ∈ uni a b ↔ j ∈ a ∨ j ∈ b
  | [] => by simp [uni]
  | k :: b => by
    have ih := uni_mem a j b
    show j ∈ ins k (uni a b) ↔ _
    rw [ins_mem, ih, List.mem_cons]
    constructor
    · rintro (h | h | h)
      · exact .inr (.inl h)
      · exact .inl h
      · exact .inr (.inr h)
    · rintro (h | h | h)
      · exact .inr (.inl h)
      · exact .inl h
      · exact .inr (.inr h)
theorem uni_srt {a : List Int} (s : Srt a) : ∀ b : List Int, Srt (uni a b)
  | [] => s
  | k :: b => ins_srt k _ (uni_srt s b)
theorem uni_len (a : List Int) : ∀ b : List Int, (uni a b).length ≤ a.length + b.length
  | [] => Nat.le_refl _
  | k :: b => by
    have h1 := ins_len k (uni a b)
    have h2 := uni_len a b
    show (ins k (uni a b)).length ≤ a.length + (b.length + 1)
    omega
def both (a s : List Int) : List Int := a.filter fun k => decide (k ∈ s)
theorem both_srt {a s : List Int} (h : Srt a) : Srt (both a s) := List.Pairwise.filter _ h
theorem both_mem (a s : List Int) (k : Int) : k ∈ both a s ↔ k ∈ a ∧ k ∈ s := by
  unfold both
  rw [List.mem_filter, decide_eq_true_iff]
theorem look_snoc (L : List Ent) (e : Ent) (y : Str) (h : e.1 ∉ L.map (·.1)) : look (L ++ [e]) y = if y = e.1 then some e.2.2 else look L y := by
  unfold look
  rw [getE_app]
  by_cases z : y = e.1
  · rw [if_pos z, z, getE_none.mpr h, getE_pos rfl]
    rfl
  · rw [if_neg z, getE_neg (fun q => z q.symm), getE_nil]
    cases getE L y <;> rfl
theorem take_keys {L : List Ent} {i : Nat} {e : Ent} (nd : (L.map (·.1)).Nodup) (he : L[i]? = some e) : e.1 ∉ (L.take i).map (·.1) := by
  intro z
  obtain ⟨g, hg, eg⟩ := List.mem_map.mp z
  obtain ⟨j, hj⟩ := List.mem_iff_getElem?.mp hg
  rw [List.getElem?_take] at hj
  split at hj
  · rename_i hji
    have a1 : (L.map (·.1))[j]? = some e.1 := by rw [List.getElem?_map, hj]; exact congrArg some eg
    have a2 : (L.map (·.1))[i]? = some e.1 := by rw [List.getElem?_map, he]; rfl
    have := nd_ix nd a1 a2
    omega
  · cases hj
theorem look_take {L : List Ent} {i : Nat} {e : Ent} (nd : (L.map (·.1)).Nodup) (he : L[i]? = some e) (y : Str) : look (L.take (i + 1)) y = if y = e.1 then some e.2.2 else look (L.take i) y := by
  rw [List.take_add_one, he]
  exact look_snoc (L.take i) e y (take_keys nd he)
structure Sz (L : List Ent) (n : Nat) : Prop where
  srt : ∀ e ∈ L, Srt e.2.2
  len : ∀ e ∈ L, e.2.2.length ≤ n
theorem look_of {L : List Ent} {x : Str} {s : List Int} (h : look L x = some s) : ∃ e ∈ L, e.1 = x ∧ e.2.2 = s := by
  unfold look at h
  obtain ⟨e, he, q⟩ := Option.map_eq_some_iff.mp h
  obtain ⟨a, b⟩ := getE_mem he
  exact ⟨e, a, b, q⟩
/-- what a new box needs when one more side is put -/
theorem Nb.put {H0 H H3 : Hp} {d l : Addr} {M : List Ent} {x : Str} {s : List Int} (N : Nb H0 H d M) (n0 : H0 l = none) (nl : H l = none) (s3 : Same H H3) (el : H3 l = some (.lst (s.map V.int))) (few : M.length + 1 ≤ 40) :
    Nb H0 (upd H3 d (.dK (entK (putE M x l s)))) d (putE M x l s) := by
  have nld : l ≠ d := fun z => by rw [z, N.un] at nl; cases nl
  have sd : ∀ e ∈ putE M x l s, (upd H3 d (.dK (entK (putE M x l s)))) e.2.1 = some (.lst (e.2.2.map V.int)) := fun e he => by
    rcases putE_mem he with z | ⟨z, _⟩
    · rw [z, upd_ne nld]
      exact el
    · have h1 := N.sides e z
      have h2 : e.2.1 ≠ d := fun w => by rw [w, N.un] at h1; cases h1
      rw [upd_ne h2]
      exact s3 _ _ h1
  refine ⟨⟨⟨.inl upd_same, sd, putE_nd N.nd, by have := putE_len M x l s; omega⟩, upd_same⟩, N.fresh, fun e he => ?_, ?_⟩
  · rcases putE_mem he with z | ⟨z, _⟩
    · rw [z]; exact n0
    · exact N.freshS e z
  · have lM : l ∉ M.map (·.2.1) := fun w => by
      obtain ⟨g, hg, eg⟩ := List.mem_map.mp w
      have eg' : g.2.1 = l := eg
      have h1 := N.sides g hg
      rw [eg', nl] at h1
      cases h1
    unfold putE
    split
    · rw [List.map_map]
      have key : ∀ L : List Ent, (L.map (·.1)).Nodup → (L.map (·.2.1)).Nodup → l ∉ L.map (·.2.1) → (L.map ((fun e : Ent => e.2.1) ∘ fun e => if e.1 = x then (x, l, s) else e)).Nodup ∧ ∀ q ∈ L.map ((fun e : Ent => e.2.1) ∘ fun e => if e.1 = x then (x, l, s) else e), q ∈ L.map (·.2.1) ∨ (q = l ∧ x ∈ L.map (·.1)) := by
        intro L
        induction L with
        | nil => intro _ _ _; exact ⟨List.Pairwise.nil, fun q hq => by cases hq⟩
        | cons e L ih =>
          intro n1 n2 n3
          rw [List.map_cons, List.nodup_cons] at n1 n2
          rw [List.map_cons, List.mem_cons, not_or] at n3
          obtain ⟨i1, i2⟩ := ih n1.2 n2.2 n3.2
          rw [List.map_cons, List.nodup_cons]
          by_cases c : e.1 = x
          · have ef : ((fun e : Ent => e.2.1) ∘ fun e => if e.1 = x then (x, l, s) else e) e = l := by simp [c]
            rw [ef]
            refine ⟨⟨fun w => ?_, i1⟩, fun q hq => ?_⟩
            · rcases i2 l w with z | ⟨_, z⟩
              · exact n3.2 z
              · exact n1.1 (c ▸ z)
            · rcases List.mem_cons.mp hq with z | z
              · exact .inr ⟨z, by rw [List.map_cons, c]; exact List.mem_cons_self⟩
              · rcases i2 q z with y | ⟨y1, y2⟩
                · exact .inl (List.mem_cons_of_mem _ y)
                · exact .inr ⟨y1, List.mem_cons_of_mem _ y2⟩
          · have ef : ((fun e : Ent => e.2.1) ∘ fun e => if e.1 = x then (x, l, s) else e) e = e.2.1 := by simp [c]
            rw [ef]
            refine ⟨⟨fun w => ?_, i1⟩, fun q hq => ?_⟩
            · rcases i2 _ w with z | ⟨z, _⟩
              · exact n2.1 z
              · exact n3.1 z.symm
            · rcases List.mem_cons.mp hq with z | z
              · exact .inl (by rw [z]; exact List.mem_cons_self)
              · rcases i2 q z with y | ⟨y1, y2⟩
                · exact .inl (List.mem_cons_of_mem _ y)
                · exact .inr ⟨y1, List.mem_cons_of_mem _ y2⟩
      exact (key M N.nd N.inj lM).1
    · rw [List.map_append]
      exact nd_snoc N.inj lM
theorem Same.unl {H H' : Hp} {d : Addr} {u : HO} {od : Obj} (h : H d = some u) (s : Same (upd H d (.frz od u)) H') : Same H (upd H' d u) := unlock h s
/-- a new box behind a lock elsewhere -/
theorem Nb.unl {H0 H' : Hp} {b d : Addr} {u : HO} {M : List Ent} {od : Obj} (N : Nb H0 H' d M) (hb : H0 b = some u) (eF : H' b = some (.frz od u)) : Nb H0 (upd H' b u) d M := by
  have db : d ≠ b := fun z => by have := N.un; rw [z, eF] at this; cases this
  have away : ∀ g ∈ M, g.2.1 ≠ b := fun g hg z => by have := N.sides g hg; rw [z, eF] at this; cases this
  exact ⟨⟨⟨.inl (by rw [upd_ne db]; exact N.un), fun g hg => by rw [upd_ne (away g hg)]; exact N.sides g hg, N.nd, N.few⟩, by rw [upd_ne db]; exact N.un⟩, N.fresh, N.freshS, N.inj⟩
theorem Nb.lck {H0 H : Hp} {b d : Addr} {u : HO} {M : List Ent} {od : Obj} (N : Nb H0 H d M) (hb : H0 b ≠ none) : Nb H0 (upd H b (.frz od u)) d M := by
  have db : d ≠ b := fun z => hb (z ▸ N.fresh)
  have away : ∀ g ∈ M, g.2.1 ≠ b := fun g hg z => hb (z ▸ N.freshS g hg)
  exact ⟨⟨⟨.inl (by rw [upd_ne db]; exact N.un), fun g hg => by rw [upd_ne (away g hg)]; exact N.sides g hg, N.nd, N.few⟩, by rw [upd_ne db]; exact N.un⟩, N.fresh, N.freshS, N.inj⟩
section
variable {P : Program} {w : World} {K : PySem.W.Frag} {mg : Str → Option Value} {base : Heap}
end
theorem ne_some' {H : Hp} {p q : Addr} {o : HO} (h : H p = some o) (n : H q = none) : p ≠ q := fun e => by rw [e, n] at h; cases h
section
variable {P : Program} {w : World} {K : PySem.W.Frag} {mg : Str → Option Value} {base : Heap}
/-! ### the pool, a part of it -/
abbrev sPool : Stmt := topS 37
abbrev sPart : Stmt := topS 39
abbrev nPool : List Str := ["_law_stream_here", "_law_count", "_law_pool_here", "_law_k", "_law_scale", "_law_value"]
abbrev nPart : List Str := ["_law_stream_here", "_law_side", "_law_value"]
theorem scPool : FnScope nPool ["_law_stream_here", "_law_count"] (defScope sPool) := ⟨rfl, rfl, rfl, by decide +kernel, rfl, by decide +kernel, by decide +kernel⟩
theorem scPart : FnScope nPart ["_law_stream_here", "_law_side"] (defScope sPart) := ⟨rfl, rfl, rfl, by decide +kernel, rfl, by decide +kernel, by decide +kernel⟩
theorem srt_snoc {ss : List Int} {v : Int} (s : Srt ss) (h : ∀ k ∈ ss, k < v) : Srt (ss ++ [v]) :=
  List.pairwise_append.mpr ⟨s, List.pairwise_singleton _ _, fun a ha b hb => by rw [List.mem_singleton.mp hb]; exact h a ha⟩
def spPool : Sp := fun vs H Q _ => ∃ (p : Addr) (m : Nat), vs = [.ref p, .int (m : Int)] ∧ Strm H p ∧ 1 ≤ m ∧ m ≤ 100 ∧
  ∀ (H' : Hp) (l : Addr) (ns : List Int), Keep p H H' → H l = none → Strm H' p → H' l = some (.lst (ns.map V.int)) → Srt ns → ns.length = m → Q (.ref l) H'
theorem ok_pool {f fD : Addr} {fd fdD : FuncData} (F : Fun K "_law_pool" "_law_pool" sPool f fd) (B : Bt mg) (D : Call P w K mg base 1 "_law_next" fD fdD ["_law_stream_here", "_law_size"] spDraw) :
    FnOk P w K mg base CX0 2 f fd ["_law_stream_here", "_law_count"] spPool := by
  refine F.ok scPool (fun vs H Q E h => ?_) (fun cdv A outer s H vs Q E hr h => ?_)
  · obtain ⟨p, m, rfl, _⟩ := h
    rfl
  · obtain ⟨p, m, rfl, hp, m0, m1, q⟩ := h
    have nd := scPool.nd
    refine ⟨_, pss_cons (ps_set (i := 2) nd rfl (.inl rfl) (pe_lst (pa_cons (pe_op op_sub (pe_call D.ok hr (by rfl) D.at_ D.kp D.bd .nil pass0 (pa_cons (pv 0) (pa_cons pe_int pa_nil))) pe_int) pa_nil)))
      (pss_cons (ps_for PassesOwn.never rfl (pi_range1 (by rfl) B.range (pa_cons (pe_op op_sub (pv 1) pe_int) pa_nil)) (pg_name (i := 3) nd rfl (.inl rfl))
        (pss_one (ps_expr (pe_bm PySem.F.plainAttrs_list PySem.F.slot_list_append PySem.F.type_list_append mt_append (pv 2) (pa_cons
          (pe_op op_add (pe_op op_add (pe_ix ix_list (pv 2) (pv 3) (fun _ _ => rfl)) pe_int) (pe_op op_mul pe_int (pe_op op_fdiv (pe_call D.ok hr (by rfl) D.at_ D.kp D.bd .nil pass0 (pa_cons (pv 0) (pa_cons pe_int pa_nil))) pe_int))) pa_nil)))))
      (pss_cons (ps_set (i := 4) nd rfl (.inr rfl) (pe_ix ix_list (pe_lst (pa_cons pe_int (pa_cons pe_int (pa_cons pe_int (pa_cons pe_int (pa_cons pe_int (pa_cons pe_int (pa_cons pe_int (pa_cons (pe_op op_pow pe_int pe_int) pa_nil)))))))))
          (pe_call D.ok hr (by rfl) D.at_ D.kp D.bd .nil pass0 (pa_cons (pv 0) (pa_cons pe_int pa_nil))) (fun _ _ => rfl)))
      (pss_one (ps_ret (pe_lc (own := [("_law_value", 5)]) (g := gName 5) (tt := tYes) rfl nd (pi_list (pv 2)) (blkOk_by (N := nPool) (sc := defScope sPool) (by decide +kernel)) (fun _ _ _ _ _ => pg_name (i := 5) nd rfl (Or.inl rfl)) (fun _ _ _ _ _ => pts_nil)
        (fun _ _ _ _ _ => pe_op op_mul (pv 5) (pv 4))))))), ?_⟩
    refine ⟨.ref p, rfl, p, 9, rfl, hp, by decide, by decide, fun H1 d o1 st1 d0 d1 => ⟨d, 4, rfl, rfl, by show 1 ≤ sizeLine; decide, fun l nl1 => ?_⟩⟩
    have npl : p ≠ l := fun z => st1.some (z ▸ nl1)
    have nl : H l = none := by rw [← o1 l npl.symm]; exact nl1
    refine ⟨.int (m : Int), rfl, (m : Int), 1, rfl, rfl, (m : Int) - 1, rfl, by omega, by omega, for_range (lo := 0) (n := ((m : Int) - 1).toNat) (fun i σ H' => ∃ (y3 : Option V) (ns : List Int), σ = [some (.ref p), some (.int (m : Int)), some (.ref l), y3, none, none] ∧ Keep p H H' ∧ Strm H' p ∧ H' l = some (.lst (ns.map V.int)) ∧ Srt ns ∧ ns.length = i + 1 ∧ ∃ z, ns = ns.take i ++ [z])
      ⟨none, [d - 4], rfl, ((Keep.refl p H).oth o1).at_ nl, st1.upd npl, upd_same, List.pairwise_singleton _ _, rfl, d - 4, rfl⟩ ?_ ?_⟩
    · rintro i σ H' hi ⟨y3, ns, rfl, kp, st, el, so, len, z, ez⟩
      have gz : (ns.map V.int)[i]? = some (.int z) := by
        rw [ez, List.map_append, List.getElem?_append_right (by rw [List.length_map, List.length_take]; omega)]
        rw [List.length_map, List.length_take, show i - min i ns.length = 0 by omega]
        rfl
      refine ⟨.ref l, rfl, .inl ⟨rfl, _, sl_map el⟩, .ref l, rfl, .int (0 + (i : Int)), rfl, l, _, _, _, rfl, rfl, sl_map el, at_of (by omega) gz, z, 1, rfl, rfl, .ref p, rfl, p, 4, rfl, st, by decide, by decide, fun H2 e o2 st2 e0 e1 => ?_⟩
      refine ⟨e, 3, rfl, rfl, ⟨by decide, by decide⟩, 2, e / 3, rfl, rfl, .inl ⟨by decide, by decide⟩, z + 1, 2 * (e / 3), rfl, rfl, l, _, _, rfl, rfl, (o2 l npl.symm).trans el, ?_, ?_⟩
      · rw [List.length_map]
        exact small1000 (by omega)
      · have e3 : 0 ≤ e / 3 := Int.ediv_nonneg e0 (by decide)
        refine ⟨_, ns ++ [z + 1 + 2 * (e / 3)], rfl, (kp.oth o2).at_ nl, st2.upd npl, by rw [upd_same, List.map_append]; rfl, srt_snoc so fun k hk => ?_, by rw [List.length_append, len]; rfl, z + 1 + 2 * (e / 3), ?_⟩
        · rw [ez] at hk so
          rcases List.mem_append.mp hk with h | h
          · have := (List.pairwise_append.mp so).2.2 k h z (List.mem_singleton.mpr rfl)
            omega
          · have := List.mem_singleton.mp h
            omega
        · rw [List.take_append_of_le_length (by omega), List.take_of_length_le (by omega)]
    · rintro σ H' ⟨y3, ns, rfl, kp, st, el, so, len, z, ez⟩
      refine ⟨10, 9, rfl, rfl, ⟨by decide, by decide, by decide⟩, by show 8 ≤ sizeLine; decide, fun t nt => ?_⟩
      have npt : p ≠ t := fun e => st.some (e ▸ nt)
      have nlt : l ≠ t := ne_some' el nt
      refine ⟨.ref p, rfl, p, 8, rfl, st.upd npt, by decide, by decide, fun H2 e o2 st2 e0 e1 => ?_⟩
      have et : H2 t = some (.lst [V.int 1, V.int 1, V.int 1, V.int 1, V.int 1, V.int 1, V.int 7, V.int (10 ^ (9 : Int).toNat)]) := (o2 t npt.symm).trans upd_same
      obtain ⟨sc, hsc, sc0, sc1⟩ : ∃ sc : Int, atI [V.int 1, V.int 1, V.int 1, V.int 1, V.int 1, V.int 1, V.int 7, V.int (10 ^ (9 : Int).toNat)] e = some (.int sc) ∧ 0 < sc ∧ sc < 2 ^ 64 := by
        have : e = 0 ∨ e = 1 ∨ e = 2 ∨ e = 3 ∨ e = 4 ∨ e = 5 ∨ e = 6 ∨ e = 7 := by omega
        rcases this with h | h | h | h | h | h | h | h
        · exact ⟨_, by rw [h]; exact atI_nat (j := 0) rfl, by decide, by decide⟩
        · exact ⟨_, by rw [h]; exact atI_nat (j := 1) rfl, by decide, by decide⟩
        · exact ⟨_, by rw [h]; exact atI_nat (j := 2) rfl, by decide, by decide⟩
        · exact ⟨_, by rw [h]; exact atI_nat (j := 3) rfl, by decide, by decide⟩
        · exact ⟨_, by rw [h]; exact atI_nat (j := 4) rfl, by decide, by decide⟩
        · exact ⟨_, by rw [h]; exact atI_nat (j := 5) rfl, by decide, by decide⟩
        · exact ⟨_, by rw [h]; exact atI_nat (j := 6) rfl, by decide, by decide⟩
        · exact ⟨_, by rw [h]; exact atI_nat (j := 7) rfl, by decide, by decide⟩
      refine ⟨t, _, e, .int sc, rfl, rfl, sl_map et, hsc, ?_⟩
      have el2 : H2 l = some (.lst (ns.map V.int)) := by rw [o2 l npl.symm, upd_ne nlt]; exact el
      have kp2 : Keep p H H2 := (kp.at_ (kp.free st nt)).oth o2
      refine ⟨.ref l, rfl, l, rfl, ⟨_, sl_map el2⟩, fun R nR => lc_list (xs := ns.map V.int) (fun i H3 => Same H2 H3 ∧ H3 R = some (.lst (((ns.take i).map (· * sc)).map V.int))) ⟨same_new nR, upd_same⟩ (fun i H3 _ h => h.1.seq (sl_map el2)) ?_ ?_⟩
      · rintro i x H3 hx ⟨sm, eR⟩
        rw [List.getElem?_map] at hx
        obtain ⟨v, hv, rfl⟩ := Option.map_eq_some_iff.mp hx
        have hi := (List.getElem?_eq_some_iff.mp hv).1
        refine ⟨rfl, .int v, rfl, .int sc, rfl, v, sc, rfl, rfl, .inr ⟨by omega, by omega⟩, _, eR, ?_, same_at sm nR, ?_⟩
        · rw [List.length_map, List.length_map, List.length_take]
          exact small1000 (by omega)
        · rw [upd_same, List.take_add_one, hv, List.map_append, List.map_append]
          rfl
      · rintro H3 ⟨sm, eR⟩
        rw [List.length_map, List.take_length] at eR
        refine q H3 R _ (fun b u hb e => sm _ _ (kp2 b u hb e)) (kp2.free st2 nR) (st2.keep (Keep.same (p := R) sm) (fun z => st2.some (z ▸ nR))) eR ?_ ?_
        · unfold Srt
          rw [List.pairwise_map]
          exact so.imp fun h => Int.mul_lt_mul_of_pos_right h sc0
        · rw [List.length_map]
          omega
def spPart (K : PySem.W.Frag) : Sp := fun vs H Q _ => ∃ (p a : Addr) (ns : List Int), vs = [.ref p, .ref a] ∧ Strm H p ∧ H a = some (.lst (ns.map V.int)) ∧ p ≠ a ∧ ns.length ≤ 1000 ∧
  ∀ (H' : Hp) (l : Addr) (ms : List Int), Keep p H H' → H l = none → Strm H' p → H' l = some (.lst (ms.map V.int)) → ms.Sublist ns → Q (.ref l) H'
theorem ok_part {f fD : Addr} {fd fdD : FuncData} (F : Fun K "_law_part" "_law_part" sPart f fd) (B : Bt mg) (D : Call P w K mg base 1 "_law_next" fD fdD ["_law_stream_here", "_law_size"] spDraw) :
    FnOk P w K mg base CX0 2 f fd ["_law_stream_here", "_law_side"] (spPart K) := by
  refine F.ok scPart (fun vs H Q E h => ?_) (fun cdv A outer s H vs Q E hr h => ?_)
  · obtain ⟨p, a, ns, rfl, _⟩ := h
    rfl
  · obtain ⟨p, a, ns, rfl, hp, ha, pa, hl, q⟩ := h
    have nd := scPart.nd
    refine ⟨_, pss_one (ps_ret (pe_lc (own := [("_law_value", 2)]) (g := gName 2) (te := tVar 2) rfl nd (pi_list (pv 1)) (blkOk_by (N := nPart) (sc := defScope sPart) (by decide +kernel)) (fun _ _ _ _ _ => pg_name (i := 2) nd rfl (Or.inl rfl))
        (fun _ _ _ _ _ => pts_one (pt_cmpR op_gt (pe_call D.ok hr (by rfl) D.at_ D.kp D.bd .nil pass0 (pa_cons (pv 0) (pa_cons pe_int pa_nil))) pe_int (nomark _))) (fun _ _ _ _ _ => pv 2))), ?_⟩
    refine ⟨.ref a, rfl, a, rfl, ⟨_, sl_map ha⟩, fun D' nD => ?_⟩
    have npD : p ≠ D' := fun e => hp.some (e ▸ nD)
    have naD : a ≠ D' := ne_some' ha nD
    refine lc_list (xs := ns.map V.int) (fun i H' => Keep p H H' ∧ Strm H' p ∧ H' a = some (.lst (ns.map V.int)) ∧ ∃ ms : List Int, H' D' = some (.lst (ms.map V.int)) ∧ ms.Sublist (ns.take i)) ?_ ?_ ?_ ?_
    · exact ⟨(Keep.refl p H).at_ nD, hp.upd npD, by rw [upd_ne naD]; exact ha, [], upd_same, List.Sublist.refl _⟩
    · rintro i H' _ ⟨_, _, er, _⟩
      exact sl_map er
    · rintro i x H' hx ⟨kp, st, er, ms, eD, sub⟩
      rw [List.getElem?_map] at hx
      obtain ⟨v, hv, rfl⟩ := Option.map_eq_some_iff.mp hx
      have hi := (List.getElem?_eq_some_iff.mp hv).1
      have len := sub.length_le
      rw [List.length_take] at len
      refine ⟨rfl, .ref p, rfl, p, 3, rfl, st, by decide, by decide, fun H2 e o2 st2 e0 e1 => ?_⟩
      refine ⟨e, 0, rfl, rfl, _, rfl, ?_⟩
      have eD2 : H2 D' = some (.lst (ms.map V.int)) := (o2 D' npD.symm).trans eD
      have er2 : H2 a = some (.lst (ns.map V.int)) := (o2 a pa.symm).trans er
      have tk : ns.take (i + 1) = ns.take i ++ [v] := by
        rw [List.take_add_one, hv]
        rfl
      refine ite2 (fun _ => ?_) (fun _ => ?_)
      · refine ⟨.int v, rfl, _, eD2, ?_, (kp.oth o2).at_ nD, st2.upd npD, by rw [upd_ne naD]; exact er2, ms ++ [v], by rw [upd_same, List.map_append]; rfl, by rw [tk]; exact sub.append (List.Sublist.refl _)⟩
        rw [List.length_map]
        exact small1000 (by omega)
      · exact ⟨kp.oth o2, st2, er2, ms, eD2, by rw [tk]; exact sub.trans (List.sublist_append_left _ _)⟩
    · rintro H' ⟨kp, st, er, ms, eD, sub⟩
      rw [List.length_map, List.take_length] at sub
      exact q H' D' ms kp nD st eD sub
end
/-! ### names -/
def plainN : List Str := ["x", "yard", "z", "u", "wide_one", "q", "pp", "t"]
def lettersN : Str := "qwertyuiopasdfghjklzxcvbnm_zyx"
def digitsN : Str := "7305186429"
theorem plain_nodup : ((List.range 8).all fun s => decide (((List.range 8).map fun k => plainN.getD ((k * 3 + s) % 8) "x").Nodup)) = true := by decide +kernel
def isDig (c : Nat) : Bool := decide (48 ≤ c) && decide (c ≤ 57)
def mark (z : Str) : Option Nat := z.cps.toList.find? isDig
theorem letters_none : (lettersN.cps.toList.all fun c => !isDig c) = true := by decide +kernel
theorem digits_are : (digitsN.cps.toList.all isDig) = true := by decide +kernel
theorem digits_nodup : digitsN.cps.toList.Nodup := by decide +kernel
theorem digits_len : digitsN.cps.toList.length = 10 := by decide +kernel
theorem letters_len : lettersN.length = 30 := by decide +kernel
theorem cut_letters (lo hi : Option Int) : ∀ c ∈ (cutS lettersN lo hi).cps.toList, isDig c = false := fun c hc => by
  have h1 : c ∈ lettersN.cps.toList := by
    have : (cutS lettersN lo hi).cps.toList = (lettersN.cps.toList.drop (HT.sIx lettersN.length 0 lo)).take (HT.sIx lettersN.length lettersN.length hi - HT.sIx lettersN.length 0 lo) := by
      unfold cutS
      simp
    rw [this] at hc
    exact List.mem_of_mem_drop (List.mem_of_mem_take hc)
  have := List.all_eq_true.mp letters_none c h1
  simpa using this
theorem cut_len (lo hi : Option Int) : (cutS lettersN lo hi).length ≤ 30 := by
  have h : (cutS lettersN lo hi).cps.toList.length ≤ 30 := by
    unfold cutS
    simp only [List.toList_toArray]
    have l : lettersN.cps.toList.length = 30 := letters_len
    rw [List.length_take, List.length_drop]
    omega
  exact h
theorem mark_of (x t : Str) (c : Nat) (hx : ∀ d ∈ x.cps.toList, isDig d = false) (hc : isDig c = true) : mark (x ++ ⟨#[c]⟩ ++ t) = some c := by
  unfold mark
  have e : (x ++ ⟨#[c]⟩ ++ t).cps.toList = x.cps.toList ++ [c] ++ t.cps.toList := by
    show ((x.cps ++ #[c]) ++ t.cps).toList = _
    simp
  rw [e, List.append_assoc, List.find?_append]
  have : x.cps.toList.find? isDig = none := List.find?_eq_none.mpr fun d hd => by rw [hx d hd]; simp
  rw [this]
  show (([c] ++ t.cps.toList).find? isDig) = some c
  simp [hc]
theorem ok_of {x : Str} (h : ∀ c ∈ x.cps.toList, c < 0x110000) : PyData.strOk x = true := by
  unfold PyData.strOk
  rw [← Array.all_toList]
  exact List.all_eq_true.mpr fun c hc => decide_eq_true (h c hc)
theorem plain_ok : (plainN.all fun x => PyData.strOk x) = true := by decide +kernel
theorem letters_low : (lettersN.cps.toList.all fun c => decide (c < 0x110000)) = true := by decide +kernel
theorem digits_low : (digitsN.cps.toList.all fun c => decide (c < 0x110000)) = true := by decide +kernel
theorem cut_low (lo hi : Option Int) : ∀ c ∈ (cutS lettersN lo hi).cps.toList, c < 0x110000 := fun c hc => by
  have h1 : c ∈ lettersN.cps.toList := by
    have : (cutS lettersN lo hi).cps.toList = (lettersN.cps.toList.drop (HT.sIx lettersN.length 0 lo)).take (HT.sIx lettersN.length lettersN.length hi - HT.sIx lettersN.length 0 lo) := by
      unfold cutS
      simp
    rw [this] at hc
    exact List.mem_of_mem_drop (List.mem_of_mem_take hc)
  exact of_decide_eq_true (List.all_eq_true.mp letters_low c h1)
theorem name_ok (lo hi lo2 hi2 : Option Int) (c : Nat) (hc : c ∈ digitsN.cps.toList) : PyData.strOk (cutS lettersN lo hi ++ ⟨#[c]⟩ ++ cutS lettersN lo2 hi2) = true := ok_of fun d hd => by
  have e : (cutS lettersN lo hi ++ ⟨#[c]⟩ ++ cutS lettersN lo2 hi2).cps.toList = (cutS lettersN lo hi).cps.toList ++ [c] ++ (cutS lettersN lo2 hi2).cps.toList := by
    show (((cutS lettersN lo hi).cps ++ #[c]) ++ (cutS lettersN lo2 hi2).cps).toList = _
    simp
  rw [e] at hd
  rcases List.mem_append.mp hd with h | h
  · rcases List.mem_append.mp h with h | h
    · exact cut_low lo hi d h
    · rw [List.mem_singleton.mp h]
      exact of_decide_eq_true (List.all_eq_true.mp digits_low c hc)
  · exact cut_low lo2 hi2 d h
theorem str_one (c : Nat) : (⟨#[c]⟩ : Str).length = 1 := rfl
theorem len_app (x y : Str) : (x ++ y).length = x.length + y.length := by
  show (x.cps ++ y.cps).size = _
  exact Array.size_append
section
variable {P : Program} {w : World} {K : PySem.W.Frag} {mg : Str → Option Value} {base : Heap}
abbrev sNames : Stmt := topS 36
abbrev nNames : List Str := ["_law_stream_here", "_law_count", "_law_shift", "_law_plain", "_law_k", "_law_letters", "_law_names_here", "_law_at", "_law_size", "_law_tail"]
theorem scNames : FnScope nNames ["_law_stream_here", "_law_count"] (defScope sNames) := ⟨rfl, rfl, rfl, by decide +kernel, rfl, by decide +kernel, by decide +kernel⟩
def spNames : Sp := fun vs H Q _ => ∃ (p : Addr) (m : Nat), vs = [.ref p, .int (m : Int)] ∧ Strm H p ∧ m ≤ 8 ∧
  ∀ (H' : Hp) (l : Addr) (xs : List Str), Keep p H H' → H l = none → Strm H' p → H' l = some (.lst (xs.map V.str)) → xs.Nodup → xs.length = m → (∀ x ∈ xs, PyData.strOk x = true) → Q (.ref l) H'
theorem ok_names {f fD : Addr} {fd fdD : FuncData} (F : Fun K "_law_names" "_law_names" sNames f fd) (B : Bt mg) (D : Call P w K mg base 1 "_law_next" fD fdD ["_law_stream_here", "_law_size"] spDraw) :
    FnOk P w K mg base CX0 2 f fd ["_law_stream_here", "_law_count"] spNames := by
  refine F.ok scNames (fun vs H Q E h => ?_) (fun cdv A outer s H vs Q E hr h => ?_)
  · obtain ⟨p, m, rfl, _⟩ := h
    rfl
  · obtain ⟨p, m, rfl, hp, m8, q⟩ := h
    have nd := scNames.nd
    refine ⟨_, pss_cons (ps_if (pt_cmpR op_eq (pe_call D.ok hr (by rfl) D.at_ D.kp D.bd .nil pass0 (pa_cons (pv 0) (pa_cons pe_int pa_nil))) pe_int (nomark _))
        (pss_cons (ps_set (i := 2) nd rfl (.inr rfl) (pe_call D.ok hr (by rfl) D.at_ D.kp D.bd .nil pass0 (pa_cons (pv 0) (pa_cons pe_int pa_nil))))
        (pss_cons (ps_set (i := 3) nd rfl (.inr rfl) (pe_lst (pa_cons pe_str (pa_cons pe_str (pa_cons pe_str (pa_cons pe_str (pa_cons pe_str (pa_cons pe_str (pa_cons pe_str (pa_cons pe_str pa_nil))))))))))
        (pss_one (ps_ret (pe_lc (own := [("_law_k", 4)]) (g := gName 4) (tt := tYes) rfl nd (pi_range1 (by rfl) B.range (pa_cons (pv 1) pa_nil)) (blkOk_by (N := nNames) (sc := defScope sNames) (by decide +kernel)) (fun _ _ _ _ _ => pg_name (i := 4) nd rfl (Or.inl rfl)) (fun _ _ _ _ _ => pts_nil)
          (fun _ _ _ _ _ => pe_ix (r := rIxL K) ix_list (pv 3) (pe_op op_mod (pe_callTy call_int1 (by rfl) B.int PyProof.Rows.boot_int (pa_cons (pe_op op_add (pe_op op_mul (pv 4) pe_int) (pv 2)) pa_nil)) pe_int) (fun _ _ => rfl))))))) pss_nil)
      (pss_cons (ps_set (i := 5) nd rfl (.inl rfl) pe_str)
      (pss_cons (ps_set (i := 6) nd rfl (.inl rfl) (pe_lst pa_nil))
      (pss_cons (ps_for PassesOwn.never rfl (pi_range1 (by rfl) B.range (pa_cons (pv 1) pa_nil)) (pg_name (i := 4) nd rfl (.inl rfl))
        (pss_cons (ps_set (i := 7) nd rfl (.inl rfl) (pe_call D.ok hr (by rfl) D.at_ D.kp D.bd .nil pass0 (pa_cons (pv 0) (pa_cons pe_int pa_nil))))
        (pss_cons (ps_set (i := 8) nd rfl (.inl rfl) (pe_op op_add pe_int (pe_call D.ok hr (by rfl) D.at_ D.kp D.bd .nil pass0 (pa_cons (pv 0) (pa_cons pe_int pa_nil)))))
        (pss_cons (ps_set (i := 9) nd rfl (.inl rfl) (pe_slice sl_str (pv 5) (po_some (pe_op op_sub pe_int (pe_call D.ok hr (by rfl) D.at_ D.kp D.bd .nil pass0 (pa_cons (pv 0) (pa_cons pe_int pa_nil))))) (po_some pe_int)))
        (pss_one (ps_expr (pe_bm PySem.F.plainAttrs_list PySem.F.slot_list_append PySem.F.type_list_append mt_append (pv 6) (pa_cons
          (pe_op op_add_str (pe_op op_add_str (pe_slice sl_str (pv 5) (po_some (pv 7)) (po_some (pe_op op_add (pv 7) (pv 8)))) (pe_ix ix_str pe_str (pv 4) (fun _ _ => rfl))) (pv 9)) pa_nil))))))))
      (pss_one (ps_ret (pv 6)))))), ?_⟩
    refine ⟨.ref p, rfl, p, 3, rfl, hp, by decide, by decide, fun H1 d o1 st1 d0 d1 => ⟨rfl, _, rfl, ite2 (fun c => ?_) (fun c => ?_)⟩⟩
    · -- the plain names
      refine ⟨.ref p, rfl, p, 8, rfl, st1, by decide, by decide, fun H2 s o2 st2 s0 s1 => ?_⟩
      refine ⟨by show 8 ≤ sizeLine; decide, fun pl npl => ?_⟩
      have npp : p ≠ pl := fun z => st2.some (z ▸ npl)
      have epl : (upd H2 pl (.lst (plainN.map V.str))) pl = some (.lst (plainN.map V.str)) := upd_same
      refine ⟨.int (m : Int), rfl, (m : Int), rfl, by omega, by omega, fun R nR => ?_⟩
      have fin : ∀ k : Nat, k < m → (plainN.map V.str)[(k * 3 + s.toNat) % 8]? = some (.str (plainN.getD ((k * 3 + s.toNat) % 8) "x")) := fun k hk => by
        have : (k * 3 + s.toNat) % 8 < plainN.length := Nat.mod_lt _ (by decide)
        rw [List.getElem?_map, List.getD_eq_getElem?_getD, List.getElem?_eq_getElem this]
        rfl
      refine lc_range (lo := 0) (fun i H' => Same (upd H2 pl (.lst (plainN.map V.str))) H' ∧ H' R = some (.lst (((List.range i).map fun k => plainN.getD ((k * 3 + s.toNat) % 8) "x").map V.str))) ⟨same_new nR, upd_same⟩ ?_ ?_
      · rintro i H' hi ⟨sm, eR⟩
        have hi' : i < m := by omega
        refine ⟨rfl, .ref pl, rfl, .int (0 + (i : Int)), rfl, 0 + (i : Int), 3, rfl, rfl, .inr ⟨by decide, by decide⟩, .int s, rfl, (0 + (i : Int)) * 3, s, rfl, rfl, .inl ⟨_, rfl, (0 + (i : Int)) * 3 + s, 8, rfl, rfl, ?_, ?_⟩⟩
        · show (0 : Int) < 8
          decide
        · refine ⟨pl, _, _, _, rfl, rfl, sl_map (sm _ _ epl), at_of (j := (i * 3 + s.toNat) % 8) (by omega) (fin i hi'), _, eR, ?_, same_at sm nR, ?_⟩
          · rw [List.length_map, List.length_map, List.length_range]
            exact small1000 (by omega)
          · rw [upd_same, List.range_succ, List.map_append, List.map_append]
            rfl
      · rintro H' ⟨sm, eR⟩
        have smH : Keep p H2 H' := fun b u hb e => sm _ _ (by rw [upd_ne (ne_of_none e npl)]; exact e)
        have nR2 : H2 R = none := (same_new npl).free nR
        have st' : Strm H' p := by
          obtain ⟨x, y, z, e⟩ := st2
          exact ⟨x, y, z, sm _ _ (by rw [upd_ne npp]; exact e)⟩
        refine q H' R _ ((((Keep.refl p H).oth o1).oth o2).trans smH) ((((Keep.refl p H).oth o1).oth o2).free st2 nR2) st' eR ?_ ?_ ?_
        · have h8 := List.all_eq_true.mp plain_nodup s.toNat (List.mem_range.mpr (by omega))
          have h9 := of_decide_eq_true h8
          have e8 : (List.range (m : Int).toNat) = (List.range 8).take m := by
            rw [List.take_range, show min m 8 = (m : Int).toNat by omega]
          rw [e8, List.map_take]
          exact List.Pairwise.sublist (List.take_sublist _ _) h9
        · rw [List.length_map, List.length_range]
          omega
        · intro x hx
          obtain ⟨k, _, rfl⟩ := List.mem_map.mp hx
          have lt : (k * 3 + s.toNat) % 8 < plainN.length := Nat.mod_lt _ (by decide)
          rw [List.getD_eq_getElem?_getD, List.getElem?_eq_getElem lt]
          exact List.all_eq_true.mp plain_ok _ (List.getElem_mem lt)
    · -- letters, a digit, letters
      refine ⟨Nat.zero_le _, fun l nl1 => ?_⟩
      have npl : p ≠ l := fun z => st1.some (z ▸ nl1)
      have nl : H l = none := by rw [← o1 l npl.symm]; exact nl1
      refine ⟨.int (m : Int), rfl, (m : Int), rfl, by omega, by omega, for_range (lo := 0) (n := ((m : Int)).toNat) (fun i σ H' => ∃ (y4 y7 y8 y9 : Option V) (xs : List Str), σ = [some (.ref p), some (.int (m : Int)), none, none, y4, some (.str lettersN), some (.ref l), y7, y8, y9] ∧ Keep p H H' ∧ Strm H' p ∧ H' l = some (.lst (xs.map V.str)) ∧ xs.length = i ∧ (∀ x ∈ xs, PyData.strOk x = true) ∧ ∀ j x, xs[j]? = some x → mark x = digitsN.cps.toList[j]?)
        ⟨none, none, none, none, [], rfl, ((Keep.refl p H).oth o1).at_ nl, st1.upd npl, upd_same, rfl, (fun _ h => nomatch h), fun j x h => absurd ((List.getElem?_nil (α := Str) (i := j)).symm.trans h) (by simp)⟩ ?_ ?_⟩
      · rintro i σ H' hi ⟨y4, y7, y8, y9, xs, rfl, kp, st, el, len, sok, mk⟩
        have hi' : i < m := by omega
        refine ⟨.ref p, rfl, p, 26, rfl, st, by decide, by decide, fun H2 a o2 st2 a0 a1 => ?_⟩
        refine ⟨.ref p, rfl, p, 3, rfl, st2, by decide, by decide, fun H3 b o3 st3 b0 b1 => ⟨1, b, rfl, rfl, ?_⟩⟩
        refine ⟨_, rfl, .ref p, rfl, p, 3, rfl, st3, by decide, by decide, fun H4 t o4 st4 t0 t1 => ⟨26, t, rfl, rfl, _, rfl, 26, rfl, lettersN, rfl, by decide +kernel, ?_⟩⟩
        have el4 : H4 l = some (.lst (xs.map V.str)) := by rw [o4 l npl.symm, o3 l npl.symm, o2 l npl.symm]; exact el
        have hd : i < digitsN.cps.toList.length := by rw [digits_len]; omega
        have gd : digitsN.cps.toList[i]? = some digitsN.cps.toList[i] := List.getElem?_eq_getElem hd
        refine ⟨.ref l, rfl, .inl ⟨rfl, _, sl_map el4⟩, _, rfl, .int a, rfl, a, rfl, .int a, rfl, _, rfl, a, _, rfl, rfl, _, rfl, lettersN, rfl, by decide +kernel, .int (0 + (i : Int)), rfl, digitsN, _, digitsN.cps.toList[i], rfl, rfl, by decide +kernel, (by rw [show (0 : Int) + (i : Int) = ((i : Nat) : Int) by omega]; exact atI_nat gd), _, _, rfl, rfl, ?_, _, rfl, _, _, rfl, rfl, ?_, l, _, _, rfl, rfl, el4, ?_, ?_⟩
        · exact by have := cut_len (some a) (some (a + (1 + b))); rw [str_one]; exact Nat.le_trans (Nat.add_le_add_right this 1) (by decide)
        · exact by have := cut_len (some a) (some (a + (1 + b))); have h2 := cut_len (some (26 - t)) (some 26); rw [len_app, str_one]; exact Nat.le_trans (Nat.add_le_add (Nat.add_le_add_right this 1) h2) (by decide)
        · rw [List.length_map]
          exact small1000 (by omega)
        · have dg : isDig digitsN.cps.toList[i] = true := List.all_eq_true.mp digits_are _ (List.getElem_mem hd)
          refine ⟨_, _, _, _, xs ++ [cutS lettersN (some a) (some (a + (1 + b))) ++ ⟨#[digitsN.cps.toList[i]]⟩ ++ cutS lettersN (some (26 - t)) (some 26)], rfl, (((kp.oth o2).oth o3).oth o4).at_ nl, st4.upd npl, ?_, ?_, ?_, ?_⟩
          · rw [upd_same, List.map_append]
            rfl
          · rw [List.length_append, len]
            rfl
          · intro x hx
            rcases List.mem_append.mp hx with h | h
            · exact sok x h
            · rw [List.mem_singleton.mp h]
              exact name_ok _ _ _ _ _ (List.getElem_mem hd)
          · intro j x hj
            rcases Nat.lt_or_ge j i with c | c
            · rw [List.getElem?_append_left (by omega)] at hj
              exact mk j x hj
            · rw [List.getElem?_append_right (by omega)] at hj
              have ej : j = i := by
                have := (List.getElem?_eq_some_iff.mp hj).1
                rw [List.length_singleton] at this
                omega
              subst ej
              rw [show j - xs.length = 0 by omega] at hj
              have : _ = x := Option.some.inj hj
              rw [← this, gd]
              exact mark_of _ _ _ (cut_letters _ _) dg
      · rintro σ H' ⟨y4, y7, y8, y9, xs, rfl, kp, st, el, len, sok, mk⟩
        refine ⟨_, rfl, q H' l xs kp nl st el ?_ (by omega) sok⟩
        refine List.pairwise_iff_getElem.mpr fun j k hj hk hjk he => ?_
        have e1 := mk j _ (List.getElem?_eq_getElem hj)
        have e2 := mk k _ (List.getElem?_eq_getElem hk)
        rw [he] at e1
        have hk' : k < digitsN.cps.toList.length := by rw [digits_len]; omega
        have hj' : j < digitsN.cps.toList.length := by rw [digits_len]; omega
        have e3 := e1.symm.trans e2
        rw [List.getElem?_eq_getElem hj', List.getElem?_eq_getElem hk'] at e3
        exact List.pairwise_iff_getElem.mp digits_nodup j k hj' hk' hjk (Option.some.inj e3)
end
section
variable {P : Program} {w : World} {K : PySem.W.Frag} {mg : Str → Option Value} {base : Heap}
/-! ### a copy, by a loop -/
abbrev sCopied : Stmt := topS 46
abbrev nCopied : List Str := ["_law_sides", "_law_copied_here", "_law_name"]
theorem scCopied : FnScope nCopied ["_law_sides"] (defScope sCopied) := ⟨rfl, rfl, rfl, by decide +kernel, rfl, by decide +kernel, by decide +kernel⟩
theorem Nb.nil {H H' : Hp} {D : Addr} (n : H D = none) (h : H' D = some (.dK [])) : Nb H H' D [] := ⟨⟨⟨.inl h, (fun _ he => nomatch he), .nil, Nat.zero_le _⟩, h⟩, n, (fun _ he => nomatch he), .nil⟩
theorem shape_len {L M : List Ent} (h : shape L = shape M) : L.length = M.length := by have := congrArg List.length h; simpa [shape] using this
theorem shape_take {L M : List Ent} {i : Nat} {e : Ent} {l : Addr} (h : shape M = shape (L.take i)) (he : L[i]? = some e) : shape (M ++ [(e.1, l, e.2.2)]) = shape (L.take (i + 1)) := by
  rw [List.take_add_one, he]
  unfold shape at h ⊢
  rw [List.map_append, List.map_append, h]
  rfl
theorem ok_copied {f : Addr} {fd : FuncData} {k : Nat} (F : Fun K "_law_copied" "_law_copied" sCopied f fd) (B : Bt mg) : FnOk P w K mg base CX0 (k + 1) f fd ["_law_sides"] spCopy := by
  refine F.ok scCopied (fun vs H Q E h => ?_) (fun cdv A outer s H vs Q E hr h => ?_)
  · obtain ⟨d, L, rfl, _⟩ := h
    rfl
  · obtain ⟨d, L, rfl, bx, q⟩ := h
    have hu := hu_of hr
    have nd := scCopied.nd
    refine ⟨_, pss_cons (ps_set (i := 1) nd rfl (.inl rfl) pe_dnewK)
      (pss_cons (ps_lock (ps_for PassesOwn.never rfl (pi_keys (pv 0)) (pg_name (i := 2) nd rfl (.inl rfl))
        (pss_one (ps_dput hu (pv 1) (pv 2) (pe_callTy call_list_of (by rfl) B.list PyProof.Rows.boot_list (pa_cons (pe_dget hu (pv 0) (pv 2) (fun _ _ => rfl)) pa_nil)) rfl))))
      (pss_one (ps_ret (pv 1)))), ?_⟩
    intro D nD
    have s0 := same_new (o := HO.dK []) nD
    have bx0 := bx.same' s0
    refine ⟨d, _, bx0.un, trivial, fun od => ?_⟩
    have hd : H d ≠ none := by rw [bx.un]; exact fun z => by cases z
    have nDd : D ≠ d := fun z => hd (z ▸ nD)
    refine ⟨.ref d, rfl, d, od, rfl, .inl ⟨entK L, upd_same, for_it walk_keys (fun i σ H' => ∃ (M : List Ent) (y : Option V), σ = [some (.ref d), some (.ref D), y] ∧ Same (upd H d (.frz od (.dK (entK L)))) H' ∧ Nb H H' D M ∧ shape M = shape (L.take i))
      ⟨[], none, rfl, ?_, ?_, rfl⟩ (fun i σ H' _ h => by obtain ⟨M, y, _, e, _⟩ := h; exact e _ _ upd_same) ?_ ?_⟩⟩
    · intro b o e
      by_cases z : b = d
      · rw [z, upd_same] at e ⊢; exact e
      · rw [upd_ne z] at e ⊢
        exact s0 _ _ e
    · exact Nb.nil nD (by rw [upd_ne nDd]; exact upd_same)
    · rintro i x σ H' H'' hi ⟨M, y, rfl, sm, nb, sh⟩ ⟨rfl, k1, v1, hk, rfl⟩
      obtain ⟨e, he, rfl, rfl⟩ := keys_at hk
      have em := List.mem_of_getElem? he
      have bl := (bx.toBx.lock (od := od) bx.un).same sm
      have gv := bl.get e.1
      rw [getE_of bx.nd em] at gv
      rw [entK_len] at hi
      have few := bx.few
      have lM := shape_len sh
      rw [List.length_take] at lM
      refine ⟨.ref d, rfl, .str e.1, rfl, d, .ref e.2.1, rfl, gv, e.2.1, _, rfl, .inl (sl_map (bl.sides e em)), fun l nl => ?_⟩
      have sl := same_new (o := HO.lst (e.2.2.map V.int)) nl
      have nl0 : H l = none := by
        have := sm.free nl
        cases c : H l with
        | none => rfl
        | some o =>
          by_cases z : l = d
          · rw [z, upd_same] at this; cases this
          · rw [upd_ne z, c] at this; cases this
      have xnew : e.1 ∉ M.map (·.1) := by rw [shape_keys sh]; exact take_keys bx.nd he
      refine ⟨.ref D, rfl, .str e.1, rfl, D, _, rfl, DPut.k (k := .inr e.1) (sl _ _ nb.un) (by rw [entK_len]; exact small1000 (by omega)), ?_⟩
      refine ⟨putE M e.1 l e.2.2, some (.str e.1), rfl, ?_, ?_, ?_⟩
      · refine same_at (sm.trans sl) ?_
        rw [upd_ne nDd]
        exact nD
      · rw [putK_ent (s := e.2.2)]
        exact nb.put nl0 nl sl upd_same (by omega)
      · rw [putE_new xnew]
        exact shape_take sh he
    · rintro σ H' ⟨M, y, rfl, sm, nb, sh⟩
      rw [entK_len, List.take_length] at sh
      have eF := sm _ _ (upd_same (H := H) (a := d) (o := HO.frz od (.dK (entK L))))
      exact ⟨eF, _, rfl, q _ D M (unlock bx.un sm) (nb.unl bx.un eF) sh⟩
/-! ### _law_holds, _law_within, _law_is -/
end
theorem Nb.alias {H0 H : Hp} {d l : Addr} {M : List Ent} {x : Str} {s : List Int} (N : Nb H0 H d M) (n0 : H0 l = none) (el : H l = some (.lst (s.map V.int))) (nx : x ∉ M.map (·.1)) (nl : l ∉ M.map (·.2.1)) (few : M.length + 1 ≤ 40) :
    Nb H0 (upd H d (.dK (entK (M ++ [(x, l, s)])))) d (M ++ [(x, l, s)]) := by
  have ld : ∀ {c : Addr} {ys : List V}, H c = some (.lst ys) → c ≠ d := fun h z => by rw [z, N.un] at h; cases h
  refine ⟨⟨⟨.inl upd_same, fun e he => ?_, ?_, by rw [List.length_append]; exact few⟩, upd_same⟩, N.fresh, fun e he => ?_, ?_⟩
  · rcases List.mem_append.mp he with z | z
    · have h1 := N.sides e z
      rw [upd_ne (ld h1)]
      exact h1
    · rw [List.mem_singleton.mp z, upd_ne (ld el)]
      exact el
  · rw [List.map_append]
    exact nd_snoc N.nd nx
  · rcases List.mem_append.mp he with z | z
    · exact N.freshS e z
    · rw [List.mem_singleton.mp z]; exact n0
  · rw [List.map_append]
    exact nd_snoc N.inj nl
theorem Nb.unl' {H0 H' : Hp} {b d : Addr} {u : HO} {M : List Ent} {od : Obj} (N : Nb H0 H' d M) (eF : H' b = some (.frz od u)) : Nb H0 (upd H' b u) d M := by
  have db : d ≠ b := fun z => by have := N.un; rw [z, eF] at this; cases this
  have away : ∀ g ∈ M, g.2.1 ≠ b := fun g hg z => by have := N.sides g hg; rw [z, eF] at this; cases this
  exact ⟨⟨⟨.inl (by rw [upd_ne db]; exact N.un), fun g hg => by rw [upd_ne (away g hg)]; exact N.sides g hg, N.nd, N.few⟩, by rw [upd_ne db]; exact N.un⟩, N.fresh, N.freshS, N.inj⟩
section
variable {P : Program} {w : World} {K : PySem.W.Frag} {mg : Str → Option Value} {base : Heap}
end
/-- all that was there, but what stands at one of these -/
def KeepL (as : List Addr) (H H' : Hp) : Prop := ∀ b o, b ∉ as → H b = some o → H' b = some o
theorem KeepL.refl (as : List Addr) (H : Hp) : KeepL as H H := fun _ _ _ e => e
theorem KeepL.same {as : List Addr} {H H1 H2 : Hp} (k : KeepL as H H1) (s : Same H1 H2) : KeepL as H H2 := fun b o h e => s _ _ (k b o h e)
theorem KeepL.trans {as : List Addr} {H H1 H2 : Hp} (k : KeepL as H H1) (s : KeepL as H1 H2) : KeepL as H H2 := fun b o h e => s b o h (k b o h e)
abbrev big : Int := 10 ^ (13 : Int).toNat
def grown (ks : List Str) (e : Ent) : List Int := if e.1 ∈ ks then e.2.2 ++ [big] else e.2.2
theorem SameB.get {L M : List Ent} (s : SameB L M) {e : Ent} (nd : (M.map (·.1)).Nodup) (h : e ∈ M) : ∃ t ∈ L, t.1 = e.1 ∧ t.2.2 = e.2.2 ∧ getE L e.1 = some t := by
  have q := s e.1
  rw [look_mem nd h] at q
  unfold look at q
  obtain ⟨t, ht, eq⟩ := Option.map_eq_some_iff.mp q
  obtain ⟨m1, m2⟩ := getE_mem ht
  exact ⟨t, m1, m2, eq, ht⟩
theorem inj_eq {L : List Ent} (nd : (L.map (·.2.1)).Nodup) {e g : Ent} (he : e ∈ L) (hg : g ∈ L) (h : e.2.1 = g.2.1) : e = g := by
  obtain ⟨i, hi⟩ := List.mem_iff_getElem?.mp he
  obtain ⟨j, hj⟩ := List.mem_iff_getElem?.mp hg
  have a1 : (L.map (·.2.1))[i]? = some e.2.1 := by rw [List.getElem?_map, hi]; rfl
  have a2 : (L.map (·.2.1))[j]? = some e.2.1 := by rw [List.getElem?_map, hj, h]; rfl
  have := nd_ix nd a1 a2
  subst this
  exact Option.some.inj (hi.symm.trans hj)
theorem key_eq {L : List Ent} (nd : (L.map (·.1)).Nodup) {e g : Ent} (he : e ∈ L) (hg : g ∈ L) (h : e.1 = g.1) : e = g := by
  have a := getE_of nd he
  rw [h, getE_of nd hg] at a
  exact (Option.some.inj a).symm
section
variable {P : Program} {w : World} {K : PySem.W.Frag} {mg : Str → Option Value} {base : Heap}
abbrev sLNew : Stmt := topS 47
abbrev nLNew : List Str := ["_law_told", "_law_expected", "_law_name"]
theorem scLNew : FnScope nLNew ["_law_told", "_law_expected"] (defScope sLNew) := ⟨rfl, rfl, rfl, by decide +kernel, rfl, by decide +kernel, by decide +kernel⟩
def spLNew : Sp := fun vs H Q _ => ∃ (t e : Addr) (T E : List Ent), vs = [.ref t, .ref e] ∧ Bu H t T ∧ (T.map (·.2.1)).Nodup ∧ Bu H e E ∧ SameB T E ∧ (∀ x ∈ E, x.2.1 ∉ T.map (·.2.1)) ∧ t ≠ e ∧ (∀ x ∈ E, x.2.2.length ≤ 100) ∧
  ∀ H', KeepL (T.map (·.2.1)) H H' → Q (.bl true) H'
theorem ok_lnew {f : Addr} {fd : FuncData} {k : Nat} (F : Fun K "_law_new" "_law_new" sLNew f fd) (B : Bt mg) : FnOk P w K mg base CX0 (k + 1) f fd ["_law_told", "_law_expected"] spLNew := by
  refine F.ok scLNew (fun vs H Q E h => ?_) (fun cdv A outer s H vs Q E hr h => ?_)
  · obtain ⟨t, e, T, E', rfl, _⟩ := h
    rfl
  · obtain ⟨t, e, T, X, rfl, bt, inj, be, same, away, te, len, q⟩ := h
    have hu : (A.deeper (envOfC "_law_new" (defScope sLNew) s.heap.objs.size f cdv)).units + 64 < cLine := by have := hr.un; omega
    have hu1 := hu_of hr
    have nd := scLNew.nd
    refine ⟨_, pss_cons (ps_lock (ps_for PassesOwn.never rfl (pi_keys (pv 1)) (pg_name (i := 2) nd rfl (.inl rfl))
        (pss_one (ps_expr (pe_bm PySem.F.plainAttrs_list PySem.F.slot_list_append PySem.F.type_list_append mt_append (pe_dget hu1 (pv 0) (pv 2) (fun _ _ => rfl)) (pa_cons (pe_op op_pow pe_int pe_int) pa_nil))))))
      (pss_cons (ps_lock (ps_for PassesOwn.never rfl (pi_keys (pv 1)) (pg_name (i := 2) nd rfl (.inl rfl))
        (pss_one (ps_if (pt_cmpR (op_neD hu) (pe_dget hu1 (pv 0) (pv 2) (fun _ _ => rfl)) (pe_op op_cat (pe_dget hu1 (pv 1) (pv 2) (fun _ _ => rfl)) (pe_lst (pa_cons (pe_op op_pow pe_int pe_int) pa_nil))) rfl) (pss_one (ps_ret pe_bl)) pss_nil))))
      (pss_one (ps_ret pe_bl))), ?_⟩
    refine ⟨e, _, be.un, trivial, fun od => ?_⟩
    have sideT : ∀ x ∈ T, H x.2.1 = some (.lst (x.2.2.map V.int)) := bt.sides
    have nt : ∀ {c : Addr} {kvs : List (Key × V)}, H c = some (.dK kvs) → c ∉ T.map (·.2.1) := fun {c kvs} h z => by
      obtain ⟨g, hg, eg⟩ := List.mem_map.mp z
      have eg' : g.2.1 = c := eg
      have := sideT g hg
      rw [eg', h] at this
      cases this
    refine ⟨.ref e, rfl, e, od, rfl, .inl ⟨entK X, upd_same, for_it walk_keys (fun i σ H' => ∃ (y : Option V), σ = [some (.ref t), some (.ref e), y] ∧ KeepL (T.map (·.2.1)) (upd H e (.frz od (.dK (entK X)))) H' ∧ ∀ g ∈ T, H' g.2.1 = some (.lst ((grown ((X.take i).map (·.1)) g).map V.int)))
      ⟨none, rfl, KeepL.refl _ _, ?_⟩ (fun i σ H' _ h => by obtain ⟨y, _, kk, _⟩ := h; exact kk _ _ (nt be.un) upd_same) ?_ ?_⟩⟩
    · intro g hg
      have h1 := sideT g hg
      have h2 : g.2.1 ≠ e := fun z => by rw [z, be.un] at h1; cases h1
      rw [upd_ne h2, List.take_zero]
      exact h1
    · rintro i x σ Hz H' hi ⟨y, rfl, kk, gs⟩ ⟨rfl, k1, v1, hk, rfl⟩
      obtain ⟨x, hx, rfl, rfl⟩ := keys_at hk
      have xm := List.mem_of_getElem? hx
      obtain ⟨g, gm, g1, g2, g3⟩ := same.get be.nd xm
      have ut : H' t = some (.dK (entK T)) := kk _ _ (nt bt.un) (by rw [upd_ne te]; exact bt.un)
      have gv : DGet H' t (.str x.1) (some (.ref g.2.1)) := .inl ⟨entK T, .inr x.1, .inl ut, rfl, by rw [valV_ent, g3]; rfl⟩
      have eg := gs g gm
      have ng : g.1 ∉ (X.take i).map (·.1) := by rw [g1]; exact take_keys be.nd hx
      have gr : grown ((X.take i).map (·.1)) g = g.2.2 := if_neg ng
      rw [gr] at eg
      refine ⟨.ref t, rfl, .str x.1, rfl, t, .ref g.2.1, rfl, gv, .inl ⟨rfl, _, sl_map eg⟩, 10, 13, rfl, rfl, ⟨by decide, by decide, by decide⟩, g.2.1, _, _, rfl, rfl, eg, ?_, _, rfl, ?_, ?_⟩
      · rw [List.length_map, g2]
        have := len x xm
        exact small1000 (by omega)
      · intro b o hb e1
        have : b ≠ g.2.1 := fun z => hb (z ▸ List.mem_map_of_mem gm)
        rw [upd_ne this]
        exact kk b o hb e1
      · intro a am
        have ks : (X.take (i + 1)).map (·.1) = (X.take i).map (·.1) ++ [x.1] := by rw [List.take_add_one, hx, List.map_append]; rfl
        rw [ks]
        by_cases c : a = g
        · subst c
          rw [upd_same]
          unfold grown
          rw [if_pos (by rw [g1]; simp), List.map_append]
          rfl
        · have c1 : a.2.1 ≠ g.2.1 := fun z => c (inj_eq inj am gm z)
          have c2 : a.1 ≠ x.1 := fun z => c (key_eq bt.nd am gm (z.trans g1.symm))
          rw [upd_ne c1, gs a am]
          unfold grown
          congr 4
          simp [c2]
    · rintro σ H' ⟨y, rfl, kk, gs⟩
      rw [entK_len, List.take_length] at gs
      have eF : H' e = some (.frz od (.dK (entK X))) := kk _ _ (nt be.un) upd_same
      refine ⟨eF, ?_⟩
      have ene : e ∉ T.map (·.2.1) := nt be.un
      have kk2 : KeepL (T.map (·.2.1)) H (upd H' e (.dK (entK X))) := fun b o hb e1 => by
        by_cases z : b = e
        · rw [z, upd_same]; rw [z, be.un] at e1; exact e1
        · rw [upd_ne z]; exact kk b o hb (by rw [upd_ne z]; exact e1)
      have gs2 : ∀ g ∈ T, (upd H' e (.dK (entK X))) g.2.1 = some (.lst ((grown (X.map (·.1)) g).map V.int)) := fun g hg => by
        have : g.2.1 ≠ e := fun z => ene (z ▸ List.mem_map_of_mem hg)
        rw [upd_ne this]; exact gs g hg
      generalize upd H' e (.dK (entK X)) = H2 at kk2 gs2 ⊢
      clear kk gs eF H'
      have u2 := kk2 _ _ ene be.un
      refine ⟨e, _, u2, trivial, fun od2 => ?_⟩
      refine ⟨.ref e, rfl, e, od2, rfl, .inl ⟨entK X, upd_same, for_it walk_keys (fun i σ H' => ∃ (y : Option V), σ = [some (.ref t), some (.ref e), y] ∧ Same (upd H2 e (.frz od2 (.dK (entK X)))) H')
        ⟨y, rfl, Same.refl _⟩ (fun i σ H' _ h => by obtain ⟨y, _, kk⟩ := h; exact kk _ _ upd_same) ?_ ?_⟩⟩
      · rintro i x σ Hz H' hi ⟨y, rfl, sm⟩ ⟨rfl, k1, v1, hk, rfl⟩
        obtain ⟨x, hx, rfl, rfl⟩ := keys_at hk
        have xm := List.mem_of_getElem? hx
        obtain ⟨g, gm, g1, g2, g3⟩ := same.get be.nd xm
        have ut : H' t = some (.dK (entK T)) := sm _ _ (by rw [upd_ne te]; exact kk2 _ _ (nt bt.un) bt.un)
        have gv : DGet H' t (.str x.1) (some (.ref g.2.1)) := .inl ⟨entK T, .inr x.1, .inl ut, rfl, by rw [valV_ent, g3]; rfl⟩
        have ve : DGet H' e (.str x.1) (some (.ref x.2.1)) := .inl ⟨entK X, .inr x.1, .inr ⟨od2, sm _ _ upd_same⟩, rfl, by rw [valV_ent, getE_of be.nd xm]; rfl⟩
        have eg : H' g.2.1 = some (.lst ((x.2.2 ++ [big]).map V.int)) := by
          have h1 := gs2 g gm
          have h2 : g.2.1 ≠ e := fun z => ene (z ▸ List.mem_map_of_mem gm)
          have h3 : grown (X.map (·.1)) g = x.2.2 ++ [big] := by
            unfold grown
            rw [if_pos (by rw [g1]; exact List.mem_map_of_mem xm), g2]
          rw [h3] at h1
          exact sm _ _ (by rw [upd_ne h2]; exact h1)
        have ex : H' x.2.1 = some (.lst (x.2.2.map V.int)) := by
          have h1 := be.sides x xm
          have h2 : x.2.1 ≠ e := fun z => by rw [z, be.un] at h1; cases h1
          exact sm _ _ (by rw [upd_ne h2]; exact kk2 _ _ (away x xm) h1)
        refine ⟨.ref t, rfl, .str x.1, rfl, t, .ref g.2.1, rfl, gv, .ref e, rfl, .str x.1, rfl, e, .ref x.2.1, rfl, ve, 10, 13, rfl, rfl, ⟨by decide, by decide, by decide⟩, by show 1 ≤ sizeLine; decide, fun p np => ?_⟩
        have s1 := same_new (o := HO.lst [V.int big]) np
        refine ⟨x.2.1, p, _, _, rfl, rfl, s1 _ _ ex, upd_same, ?_, fun r nr => ?_⟩
        · rw [List.length_map]
          have := len x xm
          exact Nat.le_of_lt (small1000 (by show x.2.2.length + 1 ≤ 1000; omega))
        · have s2 := s1.trans (same_new (o := HO.lst (x.2.2.map V.int ++ [V.int big])) nr)
          refine ⟨dI (x.2.2 ++ [big]), dI (x.2.2 ++ [big]), dpI (sl_map (s2 _ _ eg)), dpI (sl_map (by rw [upd_same, List.map_append]; rfl)), shI _, shI _, ?_⟩
          rw [eqI]
          exact ⟨_, rfl, iteF ⟨_, rfl, sm.trans s2⟩⟩
      · rintro σ H' ⟨y, rfl, sm⟩
        refine ⟨sm _ _ upd_same, q _ (kk2.same (unlock u2 sm))⟩
end
section
variable {P : Program} {w : World} {K : PySem.W.Frag} {mg : Str → Option Value} {base : Heap}
abbrev sSame : Stmt := topS 41
abbrev nSame : List Str := ["_law_actual", "_law_expected", "_law_found", "_law_name"]
theorem scSame : FnScope nSame ["_law_actual", "_law_expected"] (defScope sSame) := ⟨rfl, rfl, rfl, by decide +kernel, rfl, by decide +kernel, by decide +kernel⟩
def spSame : Sp := fun vs H Q _ => ∃ (a e : Addr) (M E : List Ent), vs = [.ref a, .ref e] ∧ Bu H a M ∧ Bu H e E ∧ SameB M E ∧ (∀ g ∈ M, Srt g.2.2 ∧ g.2.2.length ≤ 1000) ∧ ∀ H', Same H H' → Q (.bl true) H'
theorem ok_same {f fI : Addr} {fd fdI : FuncData} (F : Fun K "_law_same_sides" "_law_same_sides" sSame f fd) (B : Bt mg) (I : Call P w K mg base 2 "_law_is_side" fI fdI ["_law_actual"] spIsSide) :
    FnOk P w K mg base CX0 3 f fd ["_law_actual", "_law_expected"] spSame := by
  refine F.ok scSame (fun vs H Q E h => ?_) (fun cdv A outer s H vs Q E hr h => ?_)
  · obtain ⟨a, e, M, E, rfl, _⟩ := h
    rfl
  · obtain ⟨a, e, M, X, rfl, bm, be, same, ok, q⟩ := h
    have hu := hu_of hr
    have hu64 : (A.deeper (envOfC "_law_same_sides" (defScope sSame) s.heap.objs.size f cdv)).units + 64 < cLine := by have := hr.un; omega
    have nd := scSame.nd
    refine ⟨_, pss_cons (ps_if (PW.pt (pw_or (pt_not (pt_val (pe_callB call_isi (by rfl) B.isi PyProof.Rows.boot_isinstance (pa_cons (pv 0) (pa_cons (pe_bltn (by rfl) B.dict PyProof.Rows.boot_dict (v := .ty "dict") rfl) pa_nil)))))
        (pw_or1 (pt_cmpR op_ne (pe_callB call_lenD (by rfl) B.len PySem.boot_len (pa_cons (pv 0) pa_nil)) (pe_callB call_lenD (by rfl) B.len PySem.boot_len (pa_cons (pv 1) pa_nil)) rfl)))) (pss_one (ps_ret pe_bl)) pss_nil)
      (pss_cons (ps_lock (ps_setLc (i := 2) (own := [("_law_name", 3)]) (g := gName 3) (te := tVar 3) rfl nd rfl rfl (by rfl) (pi_keys (pv 1)) (blkOk_by (N := nSame) (sc := defScope sSame) (by decide +kernel)) (fun _ _ _ _ _ => pg_name (i := 3) nd rfl (Or.inl rfl))
          (fun _ _ _ _ _ => pts_one (PW.pt (pw_and (pt_cmp (pc_din hu (pv 3) (pv 0))) (pw_and1 (pt_val (pe_call I.ok hr (by rfl) I.at_ I.kp I.bd .nil pass0 (pa_cons (pe_dget hu (pv 0) (pv 3) (fun _ _ => rfl)) pa_nil))))))) (fun _ _ _ _ _ => pv 3)))
      (pss_one (ps_ret (pe_and (pe_cmpR op_eq (pe_callB call_len_seq (by rfl) B.len PySem.boot_len (pa_cons (pv 2) pa_nil)) (pe_callB call_lenD (by rfl) B.len PySem.boot_len (pa_cons (pv 1) pa_nil)) rfl)
        (pe_one (pe_callB (cr_all rfl) (by rfl) B.all PyProof.Rows.boot_all (pa_cons
          (pe_lc (own := [("_law_name", 3)]) (g := gName 3) (tt := tYes) rfl nd (pi_list (pv 2)) (blkOk_by (N := nSame) (sc := defScope sSame) (by decide +kernel)) (fun _ _ _ _ _ => pg_name (i := 3) nd rfl (Or.inl rfl)) (fun _ _ _ _ _ => pts_nil)
            (fun _ _ _ _ _ => pe_cmpR (r := rEqD K) (op_eqD hu64) (pe_dget hu (pv 0) (pv 3) (fun _ _ => rfl)) (pe_dget hu (pv 1) (pv 3) (fun _ _ => rfl)) rfl)) pa_nil))))))), ?_⟩
    have lens : M.length = X.length := same.len bm.nd be.nd
    refine ⟨.ref a, rfl, .ref a, .ty "dict", .type "dict", .type "dict", true, rfl, .ty _, .base (.dK bm.un), kit_ty (by decide +kernel), true, rfl, iteF ?_⟩
    refine ⟨.ref a, rfl, a, _, rfl, bm.un, .ref e, rfl, e, _, rfl, be.un, rfl, ?_⟩
    rw [entK_len, entK_len, lens, decide_eq_true rfl]
    refine ⟨false, rfl, iteF ?_⟩
    refine ⟨e, _, be.un, trivial, fun od => ?_⟩
    have bel := be.toBx.lock (od := od) be.un
    have bml := bm.toBx.lock (od := od) be.un
    refine ⟨.ref e, rfl, e, od, rfl, .inl ⟨entK X, upd_same, fun D nD => lc_it walk_keys (fun i H' => Same (upd H e (.frz od (.dK (entK X)))) H' ∧ H' D = some (.lst (((X.take i).map (·.1)).map V.str))) ⟨same_new nD, upd_same⟩ (fun i H' _ h => h.1 _ _ upd_same) ?_ ?_⟩⟩
    · rintro i x Hz H' hi ⟨sm, eD⟩ ⟨rfl, k1, v1, hk, rfl⟩
      obtain ⟨x, hx, rfl, rfl⟩ := keys_at hk
      have xm := List.mem_of_getElem? hx
      obtain ⟨g, gm, g1, g2, g3⟩ := same.get be.nd xm
      have gv := (bml.same sm).get x.1
      rw [g3] at gv
      obtain ⟨so, ln⟩ := ok g gm
      have isu : H' a = some (.dK (entK M)) ∨ H' a = some (.frz od (.dK (entK X))) := by
        by_cases z : a = e
        · right; rw [z]; exact sm _ _ upd_same
        · left; exact sm _ _ (by rw [upd_ne z]; exact bm.un)
      refine ⟨rfl, .str x.1, rfl, .ref a, rfl, a, _, rfl, gv, true, rfl, iteT ?_⟩
      refine ⟨.ref a, rfl, .str x.1, rfl, a, .ref g.2.1, rfl, gv, g.2.1, g.2.2, rfl, sm _ _ (bml.sides g gm), so, ln, fun H4 s4 => ⟨true, rfl, iteT ⟨.str x.1, rfl, _, s4 _ _ eD, ?_, same_at (sm.trans s4) nD, ?_⟩⟩⟩
      · rw [List.length_map, List.length_map, List.length_take]
        have := be.few
        exact small1000 (by omega)
      · rw [upd_same, List.take_add_one, hx, List.map_append, List.map_append]
        rfl
    · rintro H' ⟨sm, eD⟩
      rw [entK_len, List.take_length] at eD
      have eF := sm _ _ (upd_same (H := H) (a := e) (o := HO.frz od (.dK (entK X))))
      have nDe : D ≠ e := fun z => by rw [z, eF] at eD; cases eD
      refine ⟨eF, ?_⟩
      have s2 : Same H (upd H' e (.dK (entK X))) := unlock be.un sm
      have eD2 : (upd H' e (.dK (entK X))) D = some (.lst ((X.map (·.1)).map V.str)) := by rw [upd_ne nDe]; exact eD
      generalize upd H' e (.dK (entK X)) = H2 at s2 eD2 ⊢
      clear sm eD eF H'
      refine ⟨.ref D, rfl, D, _, rfl, .inl (sl_map eD2), .ref e, rfl, e, _, rfl, s2 _ _ be.un, rfl, ?_⟩
      rw [entK_len, List.length_map, List.length_map, decide_eq_true rfl]
      refine ⟨true, rfl, iteT ?_⟩
      refine ⟨.ref D, rfl, D, rfl, ⟨_, sl_map eD2⟩, fun R nR => lc_list (xs := (X.map (·.1)).map V.str) (fun i H' => Same H2 H' ∧ H' R = some (.lst ((List.replicate i true).map V.bl))) ⟨same_new nR, upd_same⟩ (fun i H' _ h => h.1.seq (sl_map eD2)) ?_ ?_⟩
      · rintro i z H' hz ⟨sm, hd⟩
        rw [List.getElem?_map, List.getElem?_map] at hz
        obtain ⟨v, hv, rfl⟩ := Option.map_eq_some_iff.mp hz
        obtain ⟨x, hx, rfl⟩ := Option.map_eq_some_iff.mp hv
        have xm := List.mem_of_getElem? hx
        obtain ⟨g, gm, g1, g2, g3⟩ := same.get be.nd xm
        have s3 := s2.trans sm
        have gv := (bm.toBx.same s3).get x.1
        rw [g3] at gv
        have ev := (be.toBx.same s3).get x.1
        rw [getE_of be.nd xm] at ev
        have few := be.few
        have hi := (List.getElem?_eq_some_iff.mp hx).1
        have e1 := s3 _ _ (bm.sides g gm)
        rw [g2] at e1
        refine ⟨rfl, .ref a, rfl, .str x.1, rfl, a, .ref g.2.1, rfl, gv, .ref e, rfl, .str x.1, rfl, e, .ref x.2.1, rfl, ev, dI x.2.2, dI x.2.2, dpI (sl_map e1), dpI (sl_map (s3 _ _ (be.sides x xm))), shI _, shI _, ?_⟩
        rw [eqI]
        refine ⟨_, hd, ?_, same_at sm nR, ?_⟩
        · rw [List.length_map, List.length_replicate]
          exact small1000 (by omega)
        · rw [upd_same, List.replicate_succ', List.map_append]
          rfl
      · rintro H' ⟨sm, hd⟩
        refine ⟨R, _, rfl, sl_map hd, ?_⟩
        rw [all_rep]
        exact q _ (s2.trans sm)
end
theorem cutV_to (xs : List V) (j : Nat) : cutV xs none (some (j : Int)) = xs.take j := by
  unfold cutV
  rw [HT.sIx_none, HT.sIx_nat, List.drop_zero, Nat.sub_zero]
  by_cases h : j ≤ xs.length
  · rw [Nat.min_eq_left h]
  · rw [Nat.min_eq_right (by omega), List.take_of_length_le (Nat.le_refl _), List.take_of_length_le (by omega)]
theorem cutV_from (xs : List V) (j : Nat) : cutV xs (some (j : Int)) none = xs.drop j := by
  unfold cutV
  rw [HT.sIx_none, HT.sIx_nat]
  by_cases h : j ≤ xs.length
  · rw [Nat.min_eq_left h, List.take_of_length_le (by rw [List.length_drop]; exact Nat.le_refl _)]
  · rw [Nat.min_eq_right (by omega), List.drop_length, List.drop_of_length_le (by omega)]
    simp
theorem Nb.keep {H0 H H' : Hp} {p d : Addr} {M : List Ent} (N : Nb H0 H d M) (hp : H0 p ≠ none) (k : Keep p H H') : Nb H0 H' d M := by
  have pd : d ≠ p := fun z => hp (z ▸ N.fresh)
  have away : ∀ g ∈ M, g.2.1 ≠ p := fun g hg z => hp (z ▸ N.freshS g hg)
  exact ⟨⟨⟨.inl (k _ _ pd N.un), fun g hg => k _ _ (away g hg) (N.sides g hg), N.nd, N.few⟩, k _ _ pd N.un⟩, N.fresh, N.freshS, N.inj⟩
theorem Bu.keep {H H' : Hp} {p d : Addr} {M : List Ent} (N : Bu H d M) (s : Strm H p) (k : Keep p H H') (away : ∀ g ∈ M, g.2.1 ≠ p) : Bu H' d M := by
  have pd : d ≠ p := fun z => by
    obtain ⟨x, y, w, e⟩ := s
    have := N.un
    rw [z, e] at this
    cases this
  exact ⟨⟨.inl (k _ _ pd N.un), fun g hg => k _ _ (away g hg) (N.sides g hg), N.nd, N.few⟩, k _ _ pd N.un⟩
theorem with_rest2 {R : Hp → Prop} {G : Prop} (C : Hp → Prop) (r : ∀ H, C H → R H) (g : (∀ H, C H → R H) → G) : G := g r
section
variable {P : Program} {w : World} {K : PySem.W.Frag} {mg : Str → Option Value} {base : Heap}
end
theorem with_rest {R G : Prop} (r : R) (g : R → G) : G := g r
theorem Bu.aput {H : Hp} {d l : Addr} {M : List Ent} {x : Str} {s : List Int} (B : Bu H d M) (el : H l = some (.lst (s.map V.int))) (few : M.length + 1 ≤ 40) : Bu (upd H d (.dK (entK (putE M x l s)))) d (putE M x l s) := by
  have ld : ∀ {c : Addr} {ys : List V}, H c = some (.lst ys) → c ≠ d := fun h z => by rw [z, B.un] at h; cases h
  refine ⟨⟨.inl upd_same, fun e he => ?_, putE_nd B.nd, by have := putE_len M x l s; omega⟩, upd_same⟩
  rcases putE_mem he with z | ⟨z, _⟩
  · rw [z, upd_ne (ld el)]
    exact el
  · have h1 := B.sides e z
    rw [upd_ne (ld h1)]
    exact h1
section
variable {P : Program} {w : World} {K : PySem.W.Frag} {mg : Str → Option Value} {base : Heap}
end
theorem small10k {n : Nat} (h : n ≤ 10000) : n < sizeLine := Nat.lt_of_le_of_lt h (by decide)
section
variable {P : Program} {w : World} {K : PySem.W.Frag} {mg : Str → Option Value} {base : Heap}
end
/-! ### equal boxes, deep -/
theorem paired_flat {K : PySem.W.Frag} {H : Hp} {n : Nat} : ∀ xs : List V, (∀ x ∈ xs, flatB x = true) → Paired (EqV K H (n + 1)) xs xs
  | [], _ => .nil
  | x :: xs, h => .cons (.inl ⟨rfl, h x List.mem_cons_self⟩) (paired_flat xs fun y hy => h y (List.mem_cons_of_mem _ hy))
theorem eqL {K : PySem.W.Frag} {H : Hp} {a b : Addr} {ns : List Int} (ha : H a = some (.lst (ns.map V.int))) (hb : H b = some (.lst (ns.map V.int))) : EqV K H 2 (.ref a) (.ref b) :=
  .inr (.inr (.inl ⟨a, b, _, _, rfl, rfl, sl_map ha, sl_map hb, paired_flat _ fun x hx => by obtain ⟨k, _, rfl⟩ := List.mem_map.mp hx; rfl⟩))
theorem eqB {K : PySem.W.Frag} {H : Hp} {d e : Addr} {M X : List Ent} (bd : Bu H d M) (be : Bu H e X) (s : SameB M X) : EqR K H (EqV K H 2) (.ref d) (.ref e) := by
  refine .inr ⟨d, e, _, _, rfl, rfl, bd.un, be.un, by rw [entK_len, entK_len]; exact s.len bd.nd be.nd, fun p hp => ?_⟩
  unfold entK at hp
  obtain ⟨g, hg, rfl⟩ := List.mem_map.mp hp
  have s' : SameB X M := fun x => (s x).symm
  obtain ⟨t, tm, t1, t2, t3⟩ := s'.get bd.nd hg
  refine ⟨.ref t.2.1, ?_, ?_⟩
  · show valV (entK X) (Sum.inr g.1) = _
    rw [valV_ent, t3]
    rfl
  · have h1 := be.sides t tm
    rw [t2] at h1
    exact eqL (bd.sides g hg) h1
theorem shape_same {L M : List Ent} (h : shape L = shape M) : SameB L M := look_shape h
theorem Sz.look {L : List Ent} {n : Nat} (z : Sz L n) {x : Str} {s : List Int} (h : look L x = some s) : Srt s ∧ s.length ≤ n := by
  obtain ⟨e, em, _, rfl⟩ := look_of h
  exact ⟨z.srt e em, z.len e em⟩
theorem sides_ok {M : List Ent} {n : Nat} (nd : (M.map (·.1)).Nodup) (f : Str → Option (List Int)) (h : ∀ x, look M x = f x) (ok : ∀ x s, f x = some s → Srt s ∧ s.length ≤ n) : Sz M n :=
  ⟨fun e he => (ok e.1 _ ((h e.1).symm.trans (look_mem nd he))).1, fun e he => (ok e.1 _ ((h e.1).symm.trans (look_mem nd he))).2⟩
theorem Sz.shape {L M : List Ent} {n : Nat} (z : Sz L n) (h : shape M = shape L) : Sz M n := by
  have q : ∀ e ∈ M, ∃ g ∈ L, g.2.2 = e.2.2 := fun e he => by
    have : (e.1, e.2.2) ∈ K2.shape L := h ▸ List.mem_map_of_mem (f := fun e : Ent => (e.1, e.2.2)) he
    obtain ⟨g, hg, eq⟩ := List.mem_map.mp this
    exact ⟨g, hg, (Prod.mk.inj eq).2⟩
  refine ⟨fun e he => ?_, fun e he => ?_⟩
  · obtain ⟨g, hg, eq⟩ := q e he
    exact eq ▸ z.srt g hg
  · obtain ⟨g, hg, eq⟩ := q e he
    exact eq ▸ z.len g hg
/-- what a change of fresh sides leaves -/
theorem keepL_same {H0 H1 H2 : Hp} {as : List Addr} (s : Same H0 H1) (k : KeepL as H1 H2) (f : ∀ a ∈ as, H0 a = none) : Same H0 H2 := fun b o e => k b o (fun z => by rw [f b z] at e; cases e) (s _ _ e)
theorem Bu.keepL {H H' : Hp} {d : Addr} {M : List Ent} {as : List Addr} (B : Bu H d M) (k : KeepL as H H') (h1 : d ∉ as) (h2 : ∀ e ∈ M, e.2.1 ∉ as) : Bu H' d M :=
  ⟨⟨.inl (k _ _ h1 B.un), fun e he => k _ _ (h2 e he) (B.sides e he), B.nd, B.few⟩, k _ _ h1 B.un⟩
theorem not_side {H : Hp} {d : Addr} {as : List Addr} (n : H d = none) (sd : ∀ a ∈ as, H a ≠ none) : d ∉ as := fun z => sd d z n
theorem side_some {H : Hp} {M : List Ent} (sd : ∀ e ∈ M, H e.2.1 = some (.lst (e.2.2.map V.int))) : ∀ a ∈ M.map (·.2.1), H a ≠ none := fun a ha z => by
  obtain ⟨e, he, rfl⟩ := List.mem_map.mp ha
  have := sd e he
  rw [z] at this
  cases this
section
variable {P : Program} {w : World} {K : PySem.W.Frag} {mg : Str → Option Value} {base : Heap}
end
/-! ### what the meet and the join hold -/
theorem Sz.mono {L : List Ent} {n m : Nat} (z : Sz L n) (h : n ≤ m) : Sz L m := ⟨z.srt, fun e he => Nat.le_trans (z.len e he) h⟩
theorem sq_keep {K : PySem.W.Frag} {H H' : Hp} {a p : Addr} {xs : List V} (h : SqL K H a xs) (np : H p = none) (k : Keep p H H') : SqL K H' a xs := by
  have ap : ∀ o, H a = some o → a ≠ p := fun o e z => by rw [z, np] at e; cases e
  rcases h with (h | ⟨o, h⟩) | h
  · exact .inl (.inl (k _ _ (ap _ h) h))
  · exact .inl (.inr ⟨o, k _ _ (ap _ h) h⟩)
  · exact .inr h
end K2

set_option Elab.async false
set_option linter.all false
set_option maxRecDepth 100000
set_option maxHeartbeats 4000000
namespace K2
open PySem PySem.Spec PyProof.Rows L2 Cs
/-! ### domains: a list of pairs of a name and a side -/
abbrev DomE := Addr × Ent
structure Doms (H : Hp) (l : Addr) (ds : List DomE) : Prop where
  lst : H l = some (.lst (ds.map fun d => V.ref d.1))
  tup : ∀ d ∈ ds, H d.1 = some (.tup [V.str d.2.1, V.ref d.2.2.1])
  side : ∀ d ∈ ds, H d.2.2.1 = some (.lst (d.2.2.2.map V.int))
theorem Doms.same {H H' : Hp} {l : Addr} {ds : List DomE} (D : Doms H l ds) (s : Same H H') : Doms H' l ds := ⟨s _ _ D.lst, fun d h => s _ _ (D.tup d h), fun d h => s _ _ (D.side d h)⟩
theorem Srt.sub {a b : List Int} (s : Srt b) (h : a.Sublist b) : Srt a := List.Pairwise.sublist h s
theorem Doms.keep {H H' : Hp} {p l : Addr} {ds : List DomE} (D : Doms H l ds) (k : Keep p H H') (hl : l ≠ p) (h : ∀ d ∈ ds, d.1 ≠ p ∧ d.2.2.1 ≠ p) : Doms H' l ds :=
  ⟨k _ _ hl D.lst, fun d hd => k _ _ (h d hd).1 (D.tup d hd), fun d hd => k _ _ (h d hd).2 (D.side d hd)⟩
theorem refs_ints {ds : List DomE} {ns : List Int} (h : (ds.map fun d => V.ref d.1) = ns.map V.int) : ds = [] := by
  cases ds with
  | nil => rfl
  | cons d ds =>
    cases ns with
    | nil => cases h
    | cons n ns =>
      rw [List.map_cons, List.map_cons] at h
      cases (List.cons.inj h).1
/-- a pair more -/
theorem Doms.snoc {H : Hp} {l T Z : Addr} {ds : List DomE} {x : Str} {zs : List Int} (D : Doms H l ds) (hT : H T = some (.tup [V.str x, V.ref Z])) (hZ : H Z = some (.lst (zs.map V.int))) (nZ : Z ≠ l) :
    Doms (upd H l (.lst ((ds.map fun d => V.ref d.1) ++ [V.ref T]))) l (ds ++ [(T, x, Z, zs)]) := by
  have tl : ∀ {c : Addr} {vs : List V}, H c = some (.tup vs) → c ≠ l := fun h z => by rw [z, D.lst] at h; cases h
  refine ⟨by rw [upd_same, List.map_append]; rfl, fun d hd => ?_, fun d hd => ?_⟩
  · rcases List.mem_append.mp hd with h | h
    · rw [upd_ne (tl (D.tup d h))]
      exact D.tup d h
    · rw [List.mem_singleton.mp h, upd_ne (tl hT)]
      exact hT
  · rcases List.mem_append.mp hd with h | h
    · have q := D.side d h
      have : d.2.2.1 ≠ l := fun z => by
        rw [z, D.lst] at q
        have e := refs_ints (HO.lst.inj (Option.some.inj q))
        rw [e] at h
        cases h
      rw [upd_ne this]
      exact q
    · rw [List.mem_singleton.mp h, upd_ne nZ]
      exact hZ
theorem with_restA {α : Type} {R : α → Hp → Prop} {G : Prop} (C : α → Hp → Prop) (r : ∀ a H, C a H → R a H) (g : (∀ a H, C a H → R a H) → G) : G := g r
section
variable {P : Program} {w : World} {K : PySem.W.Frag} {mg : Str → Option Value} {base : Heap}
abbrev sDoms : Stmt := topS 38
abbrev nDoms : List Str := ["_law_stream_here", "_law_names_here", "_law_pool_here", "_law_most", "_law_domains_here", "_law_name", "_law_side", "_law_value"]
theorem scDoms : FnScope nDoms ["_law_stream_here", "_law_names_here", "_law_pool_here", "_law_most"] (defScope sDoms) := ⟨rfl, rfl, rfl, by decide +kernel, rfl, by decide +kernel, by decide +kernel⟩
def spDoms : Sp := fun vs H Q _ => ∃ (p nm pl : Addr) (xs : List Str) (ns : List Int) (m : Nat), vs = [.ref p, .ref nm, .ref pl, .int (m : Int)] ∧ Strm H p ∧ H nm = some (.lst (xs.map V.str)) ∧ H pl = some (.lst (ns.map V.int)) ∧ p ≠ nm ∧ p ≠ pl ∧ Srt ns ∧ 1 ≤ ns.length ∧ ns.length ≤ 100 ∧ xs.length ≤ 100 ∧
  ∀ (H' : Hp) (l : Addr) (ds : List DomE), Keep p H H' → H l = none → Strm H' p → Doms H' l ds → ds.map (·.2.1) = xs → (∀ d ∈ ds, Srt d.2.2.2 ∧ d.2.2.2.length ≤ max m 1 ∧ H d.1 = none ∧ H d.2.2.1 = none ∧ ∀ v ∈ d.2.2.2, v ∈ ns) → (ds.map (·.2.2.1)).Nodup → Q (.ref l) H'
theorem ok_doms {f fD : Addr} {fd fdD : FuncData} (F : Fun K "_law_domains" "_law_domains" sDoms f fd) (B : Bt mg) (D : Call P w K mg base 1 "_law_next" fD fdD ["_law_stream_here", "_law_size"] spDraw) :
    FnOk P w K mg base CX0 2 f fd ["_law_stream_here", "_law_names_here", "_law_pool_here", "_law_most"] spDoms := by
  refine F.ok scDoms (fun vs H Q E h => ?_) (fun cdv A outer s H vs Q E hr h => ?_)
  · obtain ⟨p, nm, pl, xs, ns, m, rfl, _⟩ := h
    rfl
  · obtain ⟨p, nm, pl, xs, ns, m, rfl, hp, enm, epl, pnm, ppl, so, n1, nl, xl, q⟩ := h
    have nd := scDoms.nd
    refine ⟨_, pss_cons (ps_set (i := 4) nd rfl (.inl rfl) (pe_lst pa_nil))
      (pss_cons (ps_for PassesOwn.never rfl (pi_list (pv 1)) (pg_name (i := 5) nd rfl (.inl rfl))
        (pss_cons (ps_set (i := 6) nd rfl (.inl rfl) (pe_slice sl_list (pe_lc (own := [("_law_value", 7)]) (g := gName 7) (te := tVar 7) rfl nd (pi_list (pv 2)) (blkOk_by (N := nDoms) (sc := defScope sDoms) (by decide +kernel)) (fun _ _ _ _ _ => pg_name (i := 7) nd rfl (Or.inl rfl))
            (fun _ _ _ _ _ => pts_one (pt_cmpR op_gt (pe_call D.ok hr (by rfl) D.at_ D.kp D.bd .nil pass0 (pa_cons (pv 0) (pa_cons pe_int pa_nil))) pe_int (nomark _))) (fun _ _ _ _ _ => pv 7)) po_none (po_some (pv 3))))
        (pss_cons (ps_if (pt_cmpR op_eq (pe_callB call_len_seq (by rfl) B.len PySem.boot_len (pa_cons (pv 6) pa_nil)) pe_int rfl)
          (pss_one (ps_set (i := 6) nd rfl (.inl rfl) (pe_lst (pa_cons (pe_ix ix_list (pv 2) (pe_call D.ok hr (by rfl) D.at_ D.kp D.bd .nil pass0 (pa_cons (pv 0) (pa_cons (pe_callB call_len_seq (by rfl) B.len PySem.boot_len (pa_cons (pv 2) pa_nil)) pa_nil))) (fun _ _ => rfl)) pa_nil)))) pss_nil)
        (pss_one (ps_expr (pe_bm PySem.F.plainAttrs_list PySem.F.slot_list_append PySem.F.type_list_append mt_append (pv 4) (pa_cons (pe_tup (pa_cons (pv 5) (pa_cons
          (pe_slice sl_list (pv 6) po_none (po_some (pe_op op_mul (pe_callB call_len_seq (by rfl) B.len PySem.boot_len (pa_cons (pv 6) pa_nil))
            (pe_callTy call_int1 (by rfl) B.int PyProof.Rows.boot_int (pa_cons (pe_cmpR op_ne (pe_call D.ok hr (by rfl) D.at_ D.kp D.bd .nil pass0 (pa_cons (pv 0) (pa_cons pe_int pa_nil))) pe_int (nomark _)) pa_nil))))) pa_nil))) pa_nil)))))))
      (pss_one (ps_ret (pv 4)))), ?_⟩
    refine ⟨by show 0 ≤ sizeLine; decide, fun l nl0 => ?_⟩
    have npl : p ≠ l := fun z => hp.some (z ▸ nl0)
    have hpn : H p ≠ none := hp.some
    refine ⟨.ref nm, rfl, nm, rfl, ⟨_, sl_map (same_new nl0 _ _ enm)⟩, for_list (xs := xs.map V.str) (fun i σ H' => ∃ (ds : List DomE) (y5 y6 : Option V), σ = [some (.ref p), some (.ref nm), some (.ref pl), some (.int (m : Int)), some (.ref l), y5, y6, none] ∧ Keep p H H' ∧ Strm H' p ∧ Doms H' l ds ∧ ds.map (·.2.1) = xs.take i ∧ (∀ d ∈ ds, Srt d.2.2.2 ∧ d.2.2.2.length ≤ max m 1 ∧ H d.1 = none ∧ H d.2.2.1 = none ∧ ∀ v ∈ d.2.2.2, v ∈ ns) ∧ (ds.map (·.2.2.1)).Nodup)
      ⟨[], none, none, rfl, (Keep.refl p H).at_ nl0, hp.upd npl, ⟨upd_same, (fun _ h => nomatch h), (fun _ h => nomatch h)⟩, rfl, (fun _ h => nomatch h), List.Pairwise.nil⟩ (fun i σ H' _ h => by obtain ⟨ds, y5, y6, _, k, _⟩ := h; exact sl_map (k _ _ pnm.symm enm)) ?_ ?_⟩
    · rintro i x σ H' hx ⟨ds, y5, y6, rfl, kp, st, dm, keys, ok, inj⟩
      rw [List.getElem?_map] at hx
      obtain ⟨x, hv, rfl⟩ := Option.map_eq_some_iff.mp hx
      have hi := (List.getElem?_eq_some_iff.mp hv).1
      have ld : ds.length = i := by
        have := congrArg List.length keys
        rw [List.length_map, List.length_take] at this
        omega
      have er : H' pl = some (.lst (ns.map V.int)) := kp _ _ ppl.symm epl
      refine ⟨.ref pl, rfl, pl, rfl, ⟨_, sl_map er⟩, fun R nR => ?_⟩
      have npR : p ≠ R := fun z => st.some (z ▸ nR)
      have apart : ∀ d ∈ ds, d.1 ≠ p ∧ d.2.2.1 ≠ p := fun d hd => ⟨fun z => hpn (z ▸ (ok d hd).2.2.1), fun z => hpn (z ▸ (ok d hd).2.2.2.1)⟩
      refine lc_list (xs := ns.map V.int) (fun j H1 => Keep p H' H1 ∧ Strm H1 p ∧ ∃ ms : List Int, H1 R = some (.lst (ms.map V.int)) ∧ ms.Sublist (ns.take j)) ?_ ?_ ?_ ?_
      · exact ⟨(Keep.refl p H').at_ nR, st.upd npR, [], upd_same, List.Sublist.refl _⟩
      · rintro j H1 _ ⟨k, _⟩
        exact sl_map (k _ _ ppl.symm er)
      · rintro j v H1 hv1 ⟨k1, st1, ms, eR, sub⟩
        rw [List.getElem?_map] at hv1
        obtain ⟨v, hv2, rfl⟩ := Option.map_eq_some_iff.mp hv1
        have hj := (List.getElem?_eq_some_iff.mp hv2).1
        have len := sub.length_le
        rw [List.length_take] at len
        refine ⟨rfl, .ref p, rfl, p, 4, rfl, st1, by decide, by decide, fun H2 e o2 st2 e0 e1 => ?_⟩
        refine ⟨e, 0, rfl, rfl, _, rfl, ?_⟩
        have eR2 : H2 R = some (.lst (ms.map V.int)) := (o2 R npR.symm).trans eR
        have tk : ns.take (j + 1) = ns.take j ++ [v] := by rw [List.take_add_one, hv2]; rfl
        refine ite2 (fun _ => ?_) (fun _ => ?_)
        · refine ⟨.int v, rfl, _, eR2, ?_, fun b o hb e => ?_, st2.upd npR, ms ++ [v], by rw [upd_same, List.map_append]; rfl, by rw [tk]; exact sub.append (List.Sublist.refl _)⟩
          · rw [List.length_map]
            exact small1000 (by omega)
          · have : b ≠ R := fun z => by rw [z, nR] at e; cases e
            rw [upd_ne this]
            exact (k1.oth o2) b o hb e
        · exact ⟨k1.oth o2, st2, ms, eR2, by rw [tk]; exact sub.trans (List.sublist_append_left _ _)⟩
      · rintro H1 ⟨k1, st1, ms, eR, sub⟩
        rw [List.length_map, List.take_length] at sub
        have K1 : Keep p H H1 := kp.trans k1
        have nR0 : H R = none := kp.free st nR
        have dm1 : Doms H1 l ds := dm.keep k1 npl.symm apart
        refine' with_restA (fun S' H3 => ∃ ts : List Int, Keep p H H3 ∧ Strm H3 p ∧ Doms H3 l ds ∧ H3 S' = some (.lst (ts.map V.int)) ∧ H S' = none ∧ Srt ts ∧ ts.length ≤ max m 1 ∧ ts.length ≤ 100 ∧ ∀ v ∈ ts, v ∈ ns) ?r (fun rest => ⟨_, rfl, _, rfl, R, _, rfl, sl_map eR, fun S nS => ?k⟩)
        case' k =>
          have ec : cutV (ms.map V.int) none (some (m : Int)) = (ms.take m).map V.int := by rw [cutV_to, List.map_take]
          rw [ec]
          have sS := same_new (o := HO.lst ((ms.take m).map V.int)) nS
          have npS : p ≠ S := fun z => st1.some (z ▸ nS)
          have subS : (ms.take m).Sublist ns := (List.take_sublist m ms).trans sub
          have er2 : (upd H1 S (HO.lst ((ms.take m).map V.int))) pl = some (.lst (ns.map V.int)) := sS _ _ (k1 _ _ ppl.symm er)
          have eS0 := upd_same (H := H1) (a := S) (o := HO.lst ((ms.take m).map V.int))
          have stS := st1.upd (o := HO.lst ((ms.take m).map V.int)) npS
          have dmS := dm1.same sS
          have KS := K1.at_ (o := HO.lst ((ms.take m).map V.int)) (K1.free st1 nS)
          have nS0 : H S = none := K1.free st1 nS
          generalize upd H1 S (HO.lst ((ms.take m).map V.int)) = G1 at er2 eS0 stS dmS KS ⊢
          clear sS
          refine ⟨.ref S, rfl, S, _, rfl, .inl (sl_map eS0), rfl, _, rfl, ite2 (fun c => ?g) (fun c => rest S G1 ?h)⟩
          case h =>
            refine ⟨ms.take m, KS, stS, dmS, eS0, nS0, so.sub subS, ?_, ?_, fun v hv => subS.subset hv⟩
            · rw [List.length_take]; omega
            · have := subS.length_le; omega
          case g =>
            refine ⟨.ref pl, rfl, .ref p, rfl, .ref pl, rfl, pl, _, rfl, .inl (sl_map er2), p, _, rfl, stS, ?_, ?_, fun H2 e o2 st2 e0 e1 => ?_⟩
            · rw [List.length_map]; omega
            · rw [List.length_map]; omega
            rw [List.length_map] at e1
            obtain ⟨e, rfl⟩ : ∃ n : Nat, e = (n : Int) := ⟨e.toNat, by omega⟩
            have he : e < ns.length := by omega
            have ge : (ns.map V.int)[e]? = some (.int ns[e]) := by rw [List.getElem?_map, List.getElem?_eq_getElem he]; rfl
            have er3 : H2 pl = some (.lst (ns.map V.int)) := (o2 pl ppl.symm).trans er2
            have K2 : Keep p H H2 := KS.oth o2
            have dm2 : Doms H2 l ds := dmS.keep ((Keep.refl p _).oth o2) npl.symm apart
            refine ⟨pl, _, _, .int ns[e], rfl, rfl, sl_map er3, atI_nat (j := e) ge, by show 1 ≤ sizeLine; decide, fun Z nZ => rest Z _ ⟨[ns[e]], K2.at_ (K2.free st2 nZ), st2.upd (fun z => st2.some (z ▸ nZ)), dm2.same (same_new nZ), upd_same, K2.free st2 nZ, List.pairwise_singleton _ _, by show 1 ≤ max m 1; omega, by show 1 ≤ 100; omega, fun v hv => ?_⟩⟩
            rw [List.mem_singleton.mp hv]
            exact List.getElem_mem he
        case r =>
          rintro S' H3 ⟨ts, K3, st3, dm3, eS, nS', soT, l1, l2, mem⟩
          have npS' : p ≠ S' := fun z => hpn (z ▸ nS')
          refine ⟨.ref l, rfl, .inl ⟨rfl, _, sl_map dm3.lst⟩, .str x, rfl, .ref S', rfl, .ref S', rfl, S', _, rfl, .inl (sl_map eS), .ref p, rfl, p, 60, rfl, st3, by decide, by decide, fun H4 e o4 st4 e0 e1 => ?_⟩
          have eS4 : H4 S' = some (.lst (ts.map V.int)) := (o4 S' npS'.symm).trans eS
          have tail : ∀ (b : Bool), -(2 ^ 64) < (if b = true then (1 : Int) else 0) ∧ (if b = true then (1 : Int) else 0) < 2 ^ 64 := fun b => by cases b <;> decide
          refine ⟨rfl, .inr ⟨_, rfl, _, _, rfl, rfl, .inr (tail _), _, rfl, S', _, rfl, sl_map eS4, fun Z nZ => ?_⟩⟩
          generalize (!decide (V.int e = V.int 7)) = bit
          have ez : cutV (ts.map V.int) none (some (((ts.map V.int).length : Int) * (if bit = true then (1 : Int) else 0))) = ((if bit = true then ts else []).map V.int) := by
            cases bit with
            | true =>
              rw [if_pos rfl, if_pos rfl, Int.mul_one, cutV_to, List.take_length]
            | false =>
              rw [if_neg Bool.false_ne_true, if_neg Bool.false_ne_true, Int.mul_zero]
              exact cutV_to _ 0
          rw [ez]
          have hz : (if bit = true then ts else []).Sublist ts := by cases bit with
            | true => exact List.Sublist.refl _
            | false => exact List.nil_sublist _
          generalize (if bit = true then ts else []) = zs at hz
          have K4 := K3.oth o4
          have npZ : p ≠ Z := fun z => st4.some (z ▸ nZ)
          have sZ := same_new (o := HO.lst (zs.map V.int)) nZ
          have nZ0 : H Z = none := K4.free st4 nZ
          have dm4 : Doms H4 l ds := dm3.keep ((Keep.refl p _).oth o4) npl.symm apart
          refine ⟨by show 2 ≤ sizeLine; decide, fun T nT => ?_⟩
          have npT : p ≠ T := fun z => st4.some (z ▸ sZ.free nT)
          have sT := same_new (o := HO.tup [V.str x, V.ref Z]) nT
          have nT0 : H T = none := K4.free st4 (sZ.free nT)
          have nZl : Z ≠ l := fun z => by rw [z, dm4.lst] at nZ; cases nZ
          have dmT := (dm4.same sZ).same sT
          have hsub := hz.length_le
          have newZ : Z ∉ ds.map (·.2.2.1) := fun z => by
            obtain ⟨d, hd, e⟩ := List.mem_map.mp z
            have e' : d.2.2.1 = Z := e
            have := dm4.side d hd
            rw [e', nZ] at this
            cases this
          refine ⟨l, _, _, rfl, rfl, dmT.lst, ?_, ds ++ [(T, x, Z, zs)], _, _, rfl, ((K4.at_ nZ0).at_ nT0).at_ nl0, ((st4.upd npZ).upd npT).upd npl, dmT.snoc upd_same (sT _ _ upd_same) nZl, ?_, fun d hd => ?_, ?_⟩
          · rw [List.length_map]
            exact small1000 (by omega)
          · rw [List.map_append, keys, List.take_add_one, hv]
            rfl
          · rcases List.mem_append.mp hd with h | h
            · exact ok d h
            · rw [List.mem_singleton.mp h]
              exact ⟨soT.sub hz, Nat.le_trans hsub l1, nT0, nZ0, fun v hv => mem v (hz.subset hv)⟩
          · rw [List.map_append]
            exact nd_snoc inj newZ
    · rintro σ H' ⟨ds, y5, y6, rfl, kp, st, dm, keys, ok, inj⟩
      rw [List.length_map, List.take_length] at keys
      exact ⟨_, rfl, q H' l ds kp nl0 st dm keys ok inj⟩
end
end K2

set_option Elab.async false
set_option linter.all false
set_option maxRecDepth 100000
set_option maxHeartbeats 4000000
namespace K2
open PySem PySem.Spec PyProof.Rows L2 Cs
section
variable {P : Program} {w : World} {K : PySem.W.Frag} {mg : Str → Option Value} {base : Heap}
abbrev sListed : Stmt := topS 42
abbrev nListed : List Str := ["_law_stream_here", "_law_names_here", "_law_rest", "_law_listed_here", "_law_k", "_law_at"]
theorem scListed : FnScope nListed ["_law_stream_here", "_law_names_here"] (defScope sListed) := ⟨rfl, rfl, rfl, by decide +kernel, rfl, by decide +kernel, by decide +kernel⟩
def spListed : Sp := fun vs H Q _ => ∃ (p nm : Addr) (xs : List Str), vs = [.ref p, .ref nm] ∧ Strm H p ∧ H nm = some (.lst (xs.map V.str)) ∧ xs.Nodup ∧ xs.length ≤ 30 ∧ p ≠ nm ∧
  ∀ (H' : Hp) (l : Addr) (zs : List Str), Keep p H H' → H l = none → Strm H' p → H' l = some (.lst (zs.map V.str)) → zs.Nodup → (∀ z ∈ zs, z ∈ xs) → Q (.ref l) H'
theorem ok_listed {f fD : Addr} {fd fdD : FuncData} (F : Fun K "_law_listed" "_law_listed" sListed f fd) (B : Bt mg) (D : Call P w K mg base 1 "_law_next" fD fdD ["_law_stream_here", "_law_size"] spDraw) :
    FnOk P w K mg base CX0 2 f fd ["_law_stream_here", "_law_names_here"] spListed := by
  refine F.ok scListed (fun vs H Q E h => ?_) (fun cdv A outer s H vs Q E hr h => ?_)
  · obtain ⟨p, nm, xs, rfl, _⟩ := h
    rfl
  · obtain ⟨p, nm, xs, rfl, hp, enm, xnd, xlen, pnm, q⟩ := h
    have nd := scListed.nd
    refine ⟨_, pss_cons (ps_set (i := 2) nd rfl (.inl rfl) (pe_callTy call_list_of (by rfl) B.list PyProof.Rows.boot_list (pa_cons (pv 1) pa_nil)))
      (pss_cons (ps_set (i := 3) nd rfl (.inl rfl) (pe_lst pa_nil))
      (pss_cons (ps_for PassesOwn.never rfl (pi_range1 (by rfl) B.range (pa_cons (pe_callB call_len_seq (by rfl) B.len PySem.boot_len (pa_cons (pv 1) pa_nil)) pa_nil)) (pg_name (i := 4) nd rfl (.inl rfl))
        (pss_cons (ps_set (i := 5) nd rfl (.inl rfl) (pe_call D.ok hr (by rfl) D.at_ D.kp D.bd .nil pass0 (pa_cons (pv 0) (pa_cons (pe_callB call_len_seq (by rfl) B.len PySem.boot_len (pa_cons (pv 2) pa_nil)) pa_nil))))
        (pss_cons (ps_if (pt_cmpR op_gt (pe_call D.ok hr (by rfl) D.at_ D.kp D.bd .nil pass0 (pa_cons (pv 0) (pa_cons pe_int pa_nil))) pe_int rfl)
          (pss_one (ps_expr (pe_bm PySem.F.plainAttrs_list PySem.F.slot_list_append PySem.F.type_list_append mt_append (pv 3) (pa_cons (pe_ix ix_list (pv 2) (pv 5) (fun _ _ => rfl)) pa_nil)))) pss_nil)
        (pss_one (ps_set (i := 2) nd rfl (.inl rfl) (pe_op op_cat (pe_slice sl_list (pv 2) po_none (po_some (pv 5))) (pe_slice sl_list (pv 2) (po_some (pe_op op_add (pv 5) pe_int)) po_none)))))))
      (pss_one (ps_ret (pv 3))))), ?_⟩
    refine ⟨.ref nm, rfl, nm, _, rfl, .inl (sl_map enm), fun r nr => ⟨by show 0 ≤ sizeLine; decide, fun l nl0 => ?_⟩⟩
    have npr : p ≠ r := fun z => hp.some (z ▸ nr)
    have nlr : l ≠ r := fun z => by rw [z, upd_same] at nl0; cases nl0
    have nl1 : H l = none := by rw [upd_ne nlr] at nl0; exact nl0
    have npl : p ≠ l := fun z => hp.some (z ▸ nl1)
    have k0 : Keep p H (upd (upd H r (.lst (xs.map V.str))) l (.lst [])) := ((Keep.refl p H).at_ nr).at_ nl1
    refine ⟨.ref nm, rfl, nm, _, rfl, .inl (sl_map (k0 _ _ pnm.symm enm)), _, rfl, ?_, ?_, for_range (lo := 0) (n := ((xs.map V.str).length : Int).toNat) (fun i σ H' => ∃ (r' : Addr) (ys zs : List Str) (y4 y5 : Option V), σ = [some (.ref p), some (.ref nm), some (.ref r'), some (.ref l), y4, y5] ∧ Keep p H H' ∧ Strm H' p ∧ H' r' = some (.lst (ys.map V.str)) ∧ H r' = none ∧ r' ≠ l ∧ ys.Nodup ∧ ys.length + i = xs.length ∧ (∀ y ∈ ys, y ∈ xs) ∧ H' l = some (.lst (zs.map V.str)) ∧ zs.Nodup ∧ zs.length ≤ i ∧ ∀ z ∈ zs, z ∈ xs ∧ z ∉ ys)
      ⟨r, xs, [], none, none, rfl, k0, (hp.upd npr).upd npl, by rw [upd_ne nlr.symm, upd_same], nr, nlr.symm, xnd, rfl, fun y h => h, upd_same, List.Pairwise.nil, Nat.zero_le _, (fun _ h => nomatch h)⟩ ?_ ?_⟩
    · rw [List.length_map]; omega
    · rw [List.length_map]; omega
    · rintro i σ H' hi ⟨r', ys, zs, y4, y5, rfl, kp, st, er, nr', nrl, ynd, ylen, ysub, el, znd, zl, zok⟩
      rw [List.length_map] at hi
      have hi' : i < xs.length := by omega
      have npr' : p ≠ r' := fun z => hp.some (z ▸ nr')
      refine ⟨.ref p, rfl, .ref r', rfl, r', _, rfl, .inl (sl_map er), p, _, rfl, st, ?_, ?_, fun H2 a o2 st2 a0 a1 => ?_⟩
      · rw [List.length_map]; omega
      · rw [List.length_map]; omega
      rw [List.length_map] at a1
      obtain ⟨j, rfl⟩ : ∃ j : Nat, a = (j : Int) := ⟨a.toNat, by omega⟩
      have hj : j < ys.length := by omega
      have gj : (ys.map V.str)[j]? = some (.str ys[j]) := by rw [List.getElem?_map, List.getElem?_eq_getElem hj]; rfl
      have k2 := kp.oth o2
      have er2 : H2 r' = some (.lst (ys.map V.str)) := (o2 r' npr'.symm).trans er
      have el2 : H2 l = some (.lst (zs.map V.str)) := (o2 l npl.symm).trans el
      have era : ∀ y, y ∈ ys.eraseIdx j → y ∈ ys := fun y h => (List.eraseIdx_sublist ys j).subset h
      refine' with_rest2 (fun H4 => ∃ zs : List Str, Keep p H H4 ∧ Strm H4 p ∧ H4 r' = some (.lst (ys.map V.str)) ∧ H4 l = some (.lst (zs.map V.str)) ∧ zs.Nodup ∧ zs.length ≤ i + 1 ∧ ∀ z ∈ zs, z ∈ xs ∧ z ∉ ys.eraseIdx j) ?r (fun rest => ⟨.ref p, rfl, p, 4, rfl, st2, by decide, by decide, fun H3 b o3 st3 b0 b1 => ⟨b, 0, rfl, rfl, _, rfl, ite2 (fun c => ?g) (fun c => rest H3 ?h)⟩⟩)
      case r =>
        rintro H4 ⟨zs, k4, st4, er4, el4, znd4, zl4, zok4⟩
        refine ⟨.ref r', rfl, _, rfl, _, rfl, r', _, rfl, sl_map er4, fun s1 ns1 => ?_⟩
        have t1 := same_new (o := HO.lst (cutV (ys.map V.str) none (some (j : Int)))) ns1
        refine ⟨.ref r', rfl, _, rfl, (j : Int), 1, rfl, rfl, _, rfl, r', _, rfl, sl_map (t1 _ _ er4), fun s2 ns2 => ?_⟩
        have n12 : s1 ≠ s2 := fun z => by rw [← z, upd_same] at ns2; cases ns2
        have c1 : cutV (ys.map V.str) none (some (j : Int)) = (ys.take j).map V.str := by rw [cutV_to, List.map_take]
        have c2 : cutV (ys.map V.str) (some ((j : Int) + 1)) none = (ys.drop (j + 1)).map V.str := by rw [show (j : Int) + 1 = ((j + 1 : Nat) : Int) by omega, cutV_from, List.map_drop]
        have t2 := t1.trans (same_new (o := HO.lst (cutV (ys.map V.str) (some ((j : Int) + 1)) none)) ns2)
        refine ⟨s1, s2, _, _, rfl, rfl, by rw [upd_ne n12]; exact upd_same, upd_same, ?_, fun r2 nr2 => ?_⟩
        · have a := cutV_length (ys.map V.str) none (some (j : Int))
          have b := cutV_length (ys.map V.str) (some ((j : Int) + 1)) none
          rw [List.length_map] at a b
          exact Nat.le_of_lt (small1000 (by show _ + (cutV (ys.map V.str) (some ((j : Int) + 1)) none).length ≤ 1000; omega))
        · have t3 := t2.trans (same_new (o := HO.lst (cutV (ys.map V.str) none (some (j : Int)) ++ cutV (ys.map V.str) (some ((j : Int) + 1)) none)) nr2)
          have nr4 : H4 r2 = none := t2.free nr2
          have st5 : Strm _ p := st4.keep (Keep.same (p := r2) t3) (fun z => st4.some (z ▸ nr4))
          have k5 : Keep p H _ := k4.trans (Keep.same t3)
          have r2l : r2 ≠ l := fun z => by rw [z, el4] at nr4; cases nr4
          refine ⟨r2, ys.eraseIdx j, zs, _, _, rfl, k5, st5, ?_, k4.free st4 nr4, r2l, List.Pairwise.sublist (List.eraseIdx_sublist ys j) ynd, ?_, fun y h => ysub y (era y h), t3 _ _ el4, znd4, zl4, zok4⟩
          · have e5 : (ys.eraseIdx j).map V.str = cutV (ys.map V.str) none (some (j : Int)) ++ cutV (ys.map V.str) (some ((j : Int) + 1)) none := by
              rw [c1, c2, ← List.map_append, List.eraseIdx_eq_take_drop_succ]
            rw [e5]
            exact upd_same
          · rw [List.length_eraseIdx_of_lt hj]
            omega
      case h =>
        exact ⟨zs, k2.oth o3, st3, (o3 r' npr'.symm).trans er2, (o3 l npl.symm).trans el2, znd, by omega, fun z hz => ⟨(zok z hz).1, fun q => (zok z hz).2 (era _ q)⟩⟩
      case g =>
        have er3 := (o3 r' npr'.symm).trans er2
        have el3 := (o3 l npl.symm).trans el2
        have yj : ys[j] ∈ ys := List.getElem_mem hj
        refine ⟨.ref l, rfl, .inl ⟨rfl, _, sl_map el3⟩, .ref r', rfl, .int j, rfl, r', _, j, .str ys[j], rfl, rfl, sl_map er3, at_of (j := j) rfl gj, l, _, _, rfl, rfl, el3, ?_, rest _ ⟨zs ++ [ys[j]], (k2.oth o3).at_ nl1, st3.upd npl, by rw [upd_ne nrl]; exact er3, by rw [upd_same, List.map_append]; rfl, nd_snoc znd fun z => (zok _ z).2 yj, ?_, fun z hz => ?_⟩⟩
        · rw [List.length_map]
          exact small1000 (by omega)
        · rw [List.length_append]
          show zs.length + 1 ≤ i + 1
          omega
        · rcases List.mem_append.mp hz with h | h
          · exact ⟨(zok z h).1, fun q => (zok z h).2 (era _ q)⟩
          · rw [List.mem_singleton.mp h]
            refine ⟨ysub _ yj, fun q => ?_⟩
            obtain ⟨i2, h2, ne, e2⟩ := List.mem_eraseIdx_iff_getElem.mp q
            exact ne (nd_ix ynd (by rw [List.getElem?_eq_getElem h2, e2]) (List.getElem?_eq_getElem hj))
    · rintro σ H' ⟨r', ys, zs, y4, y5, rfl, kp, st, er, nr', nrl, ynd, ylen, ysub, el, znd, zl, zok⟩
      exact ⟨_, rfl, q H' l zs kp nl1 st el znd fun z hz => (zok z hz).1⟩
end
end K2

set_option Elab.async false
set_option linter.all false
set_option maxRecDepth 100000
set_option maxHeartbeats 4000000
namespace K2
open PySem PySem.Spec PyProof.Rows L2 Cs
/-- the pool, one value below it, one above it -/
def wideL (ns : List Int) : List Int := [ns.headD 0 - 2] ++ ns ++ [ns.getLastD 0 + 2]
theorem srt_head {ns : List Int} (s : Srt ns) : ∀ k ∈ ns, ns.headD 0 ≤ k := fun k hk => by
  cases ns with
  | nil => cases hk
  | cons n ns =>
    rcases List.mem_cons.mp hk with h | h
    · rw [h]; exact Int.le_refl _
    · exact Int.le_of_lt ((List.pairwise_cons.mp s).1 k h)
theorem getLastD_app (l : List Int) (v d : Int) : (l ++ [v]).getLastD d = v := by
  rw [List.getLastD_eq_getLast?, List.getLast?_append]
  rfl
theorem srt_last {ns : List Int} (s : Srt ns) : ∀ k ∈ ns, k ≤ ns.getLastD 0 := fun k hk => by
  rcases List.eq_nil_or_concat ns with h | ⟨l, v, h⟩
  · rw [h] at hk; cases hk
  · rw [List.concat_eq_append] at h
    subst h
    rw [getLastD_app]
    rcases List.mem_append.mp hk with z | z
    · exact Int.le_of_lt ((List.pairwise_append.mp s).2.2 k z v (List.mem_singleton.mpr rfl))
    · rw [List.mem_singleton.mp z]; exact Int.le_refl _
theorem wide_srt {ns : List Int} (s : Srt ns) (n1 : 1 ≤ ns.length) : Srt (wideL ns) := by
  have hl : ns.headD 0 ≤ ns.getLastD 0 := by
    cases ns with
    | nil => exact absurd n1 (by decide)
    | cons n ns => exact srt_last s n List.mem_cons_self
  unfold wideL
  refine List.pairwise_append.mpr ⟨List.pairwise_append.mpr ⟨List.pairwise_singleton _ _, s, fun a ha b hb => ?_⟩, List.pairwise_singleton _ _, fun a ha b hb => ?_⟩
  · rw [List.mem_singleton.mp ha]
    have := srt_head s b hb
    omega
  · rw [List.mem_singleton.mp hb]
    rcases List.mem_append.mp ha with z | z
    · rw [List.mem_singleton.mp z]; omega
    · have := srt_last s a z
      omega
section
variable {P : Program} {w : World} {K : PySem.W.Frag} {mg : Str → Option Value} {base : Heap}
abbrev sDS : Stmt := topS 43
abbrev nDS : List Str := ["_law_stream_here", "_law_side", "_law_pool_here", "_law_way", "_law_wide", "_law_value"]
theorem scDS : FnScope nDS ["_law_stream_here", "_law_side", "_law_pool_here"] (defScope sDS) := ⟨rfl, rfl, rfl, by decide +kernel, rfl, by decide +kernel, by decide +kernel⟩
def spDS : Sp := fun vs H Q _ => ∃ (p sd pl : Addr) (ss ns : List Int), vs = [.ref p, .ref sd, .ref pl] ∧ Strm H p ∧ H sd = some (.lst (ss.map V.int)) ∧ H pl = some (.lst (ns.map V.int)) ∧ p ≠ sd ∧ p ≠ pl ∧ Srt ss ∧ Srt ns ∧ 1 ≤ ns.length ∧ ns.length ≤ 100 ∧ ss.length ≤ ns.length + 2 ∧
  ∀ (H' : Hp) (l : Addr) (ms : List Int), Keep p H H' → H l = none → Strm H' p → H' l = some (.lst (ms.map V.int)) → Srt ms → ms.length ≤ ns.length + 2 → Q (.ref l) H'
theorem ok_ds {f fD : Addr} {fd fdD : FuncData} (F : Fun K "_law_drawn_side" "_law_drawn_side" sDS f fd) (B : Bt mg) (D : Call P w K mg base 1 "_law_next" fD fdD ["_law_stream_here", "_law_size"] spDraw) :
    FnOk P w K mg base CX0 2 f fd ["_law_stream_here", "_law_side", "_law_pool_here"] spDS := by
  refine F.ok scDS (fun vs H Q E h => ?_) (fun cdv A outer s H vs Q E hr h => ?_)
  · obtain ⟨p, sd, pl, ss, ns, rfl, _⟩ := h
    rfl
  · obtain ⟨p, sd, pl, ss, ns, rfl, hp, esd, epl, psd, ppl, sS, sN, n1, nl, sl, q⟩ := h
    have nd := scDS.nd
    refine ⟨_, pss_cons (ps_set (i := 3) nd rfl (.inl rfl) (pe_call D.ok hr (by rfl) D.at_ D.kp D.bd .nil pass0 (pa_cons (pv 0) (pa_cons pe_int pa_nil))))
      (pss_cons (ps_if (pt_cmpR op_eq (pv 3) pe_int rfl) (pss_one (ps_ret (pe_callTy call_list_of (by rfl) B.list PyProof.Rows.boot_list (pa_cons (pv 1) pa_nil)))) pss_nil)
      (pss_cons (ps_if (pt_cmpR op_eq (pv 3) pe_int rfl) (pss_one (ps_ret (pe_lst pa_nil))) pss_nil)
      (pss_cons (ps_set (i := 4) nd rfl (.inl rfl) (pe_op op_cat (pe_op op_cat (pe_lst (pa_cons (pe_op op_sub (pe_ix ix_list (pv 2) pe_int (fun _ _ => rfl)) pe_int) pa_nil)) (pv 2)) (pe_lst (pa_cons (pe_op op_add (pe_ix ix_list (pv 2) (pe_un un_neg pe_int) (fun _ _ => rfl)) pe_int) pa_nil))))
      (pss_cons (ps_if (pt_cmpR op_eq (pv 3) pe_int rfl) (pss_one (ps_ret (pe_lc (own := [("_law_value", 5)]) (g := gName 5) (te := tVar 5) rfl nd (pi_list (pv 4)) (blkOk_by (N := nDS) (sc := defScope sDS) (by decide +kernel)) (fun _ _ _ _ _ => pg_name (i := 5) nd rfl (Or.inl rfl))
          (fun _ _ _ _ _ => pts_one (PW.pt (pw_or (pt_cmpR (r := rIn K false) op_in_seq (pv 5) (pv 1) rfl) (pw_or1 (pt_cmpR op_eq (pe_call D.ok hr (by rfl) D.at_ D.kp D.bd .nil pass0 (pa_cons (pv 0) (pa_cons pe_int pa_nil))) pe_int rfl))))) (fun _ _ _ _ _ => pv 5)))) pss_nil)
      (pss_one (ps_ret (pe_lc (own := [("_law_value", 5)]) (g := gName 5) (te := tVar 5) rfl nd (pi_list (pv 4)) (blkOk_by (N := nDS) (sc := defScope sDS) (by decide +kernel)) (fun _ _ _ _ _ => pg_name (i := 5) nd rfl (Or.inl rfl))
          (fun _ _ _ _ _ => pts_one (pt_cmpR op_eq (pe_call D.ok hr (by rfl) D.at_ D.kp D.bd .nil pass0 (pa_cons (pv 0) (pa_cons pe_int pa_nil))) pe_int rfl)) (fun _ _ _ _ _ => pv 5)))))))), ?_⟩
    refine ⟨.ref p, rfl, p, 6, rfl, hp, by decide, by decide, fun H1 d o1 st1 d0 d1 => ?_⟩
    have k1 : Keep p H H1 := (Keep.refl p H).oth o1
    have esd1 := k1 _ _ psd.symm esd
    have epl1 := k1 _ _ ppl.symm epl
    refine ⟨_, rfl, rfl, _, rfl, ite2 (fun c => ?_) (fun c => ?_)⟩
    · exact ⟨_, rfl, sd, _, rfl, .inl (sl_map esd1), fun l nl => q _ l ss (k1.at_ (k1.free st1 nl)) (k1.free st1 nl) (st1.upd fun z => st1.some (z ▸ nl)) upd_same sS sl⟩
    refine ⟨_, rfl, rfl, _, rfl, ite2 (fun c => ?_) (fun c => ?_)⟩
    · exact ⟨by show 0 ≤ sizeLine; decide, fun l nl => q _ l [] (k1.at_ (k1.free st1 nl)) (k1.free st1 nl) (st1.upd fun z => st1.some (z ▸ nl)) upd_same List.Pairwise.nil (Nat.zero_le _)⟩
    have n0 : 0 < ns.length := n1
    have g0 : (ns.map V.int)[0]? = some (.int (ns.headD 0)) := by
      cases ns with
      | nil => exact absurd n0 (by decide)
      | cons n ns => rfl
    have gl : atI (ns.map V.int) (-1) = some (.int (ns.getLastD 0)) := by
      rcases List.eq_nil_or_concat ns with h | ⟨l, v, h⟩
      · rw [h] at n0; exact absurd n0 (by decide)
      · rw [List.concat_eq_append] at h
        subst h
        rw [getLastD_app, List.map_append]
        exact atI_last _ _
    refine ⟨.ref pl, rfl, pl, _, _, .int (ns.headD 0), rfl, rfl, sl_map epl1, atI_nat (j := 0) g0, ns.headD 0, 2, rfl, rfl, by show 1 ≤ sizeLine; decide, fun a na => ?_⟩
    have ta := same_new (o := HO.lst [V.int (ns.headD 0 - 2)]) na
    refine ⟨.ref pl, rfl, a, pl, _, _, rfl, rfl, upd_same, ta _ _ epl1, ?_, fun b nb => ?_⟩
    · rw [List.length_map]
      exact Nat.le_of_lt (small1000 (by show 1 + ns.length ≤ 1000; omega))
    have tb := ta.trans (same_new (o := HO.lst ([V.int (ns.headD 0 - 2)] ++ ns.map V.int)) nb)
    refine ⟨.ref pl, rfl, 1, rfl, pl, _, _, .int (ns.getLastD 0), rfl, rfl, sl_map (tb _ _ epl1), gl, ns.getLastD 0, 2, rfl, rfl, by show 1 ≤ sizeLine; decide, fun c' nc => ?_⟩
    have tc := tb.trans (same_new (o := HO.lst [V.int (ns.getLastD 0 + 2)]) nc)
    have ncb : b ≠ c' := fun z => by rw [← z, upd_same] at nc; cases nc
    refine ⟨b, c', _, _, rfl, rfl, by rw [upd_ne ncb]; exact upd_same, upd_same, ?_, fun e ne => ?_⟩
    · rw [List.length_append, List.length_map]
      exact Nat.le_of_lt (small1000 (by show 1 + ns.length + 1 ≤ 1000; omega))
    have ew : [V.int (ns.headD 0 - 2)] ++ ns.map V.int ++ [V.int (ns.getLastD 0 + 2)] = (wideL ns).map V.int := by
      unfold wideL
      rw [List.map_append, List.map_append]
      rfl
    have te := tc.trans (same_new (o := HO.lst ([V.int (ns.headD 0 - 2)] ++ ns.map V.int ++ [V.int (ns.getLastD 0 + 2)])) ne)
    have st2 := st1.keep (Keep.same (p := e) te) (fun z => st1.some (z ▸ tc.free ne))
    have k2 : Keep p H _ := k1.trans (Keep.same te)
    have ee := upd_same (H := upd (upd (upd H1 a (HO.lst [V.int (ns.headD 0 - 2)])) b (HO.lst ([V.int (ns.headD 0 - 2)] ++ ns.map V.int))) c' (HO.lst [V.int (ns.getLastD 0 + 2)])) (a := e) (o := HO.lst ([V.int (ns.headD 0 - 2)] ++ ns.map V.int ++ [V.int (ns.getLastD 0 + 2)]))
    have esd2 := te _ _ esd1
    have npe : p ≠ e := fun z => st1.some (z ▸ tc.free ne)
    have wS := wide_srt sN n1
    have wL : (wideL ns).length = ns.length + 2 := by unfold wideL; simp
    clear te
    generalize upd (upd (upd (upd H1 a (HO.lst [V.int (ns.headD 0 - 2)])) b (HO.lst ([V.int (ns.headD 0 - 2)] ++ ns.map V.int))) c' (HO.lst [V.int (ns.getLastD 0 + 2)])) e (HO.lst ([V.int (ns.headD 0 - 2)] ++ ns.map V.int ++ [V.int (ns.getLastD 0 + 2)])) = G at st2 k2 ee esd2 ⊢
    rw [ew] at ee
    clear ta tb tc ncb na nb nc
    have inv0 : ∀ R, G R = none → (Keep p G (upd G R (.lst [])) ∧ Strm (upd G R (.lst [])) p ∧ ∃ ms : List Int, (upd G R (.lst [])) R = some (.lst (ms.map V.int)) ∧ ms.Sublist ((wideL ns).take 0)) := fun R nR =>
      ⟨(Keep.refl p G).at_ nR, st2.upd fun z => st2.some (z ▸ nR), [], upd_same, List.Sublist.refl _⟩
    have more : ∀ {R : Addr} {j : Nat} {v : Int} {H3 : Hp} {ms : List Int}, p ≠ R → G R = none → (wideL ns)[j]? = some v → Keep p G H3 → Strm H3 p → H3 R = some (.lst (ms.map V.int)) → ms.Sublist ((wideL ns).take j) →
        (ms.map V.int).length < sizeLine ∧ (Keep p G (upd H3 R (.lst (ms.map V.int ++ [V.int v]))) ∧ Strm (upd H3 R (.lst (ms.map V.int ++ [V.int v]))) p ∧ ∃ ms' : List Int, (upd H3 R (.lst (ms.map V.int ++ [V.int v]))) R = some (.lst (ms'.map V.int)) ∧ ms'.Sublist ((wideL ns).take (j + 1))) ∧
          ms.Sublist ((wideL ns).take (j + 1)) := fun {R j v H3 ms} npR nR hv k3 st3 eR sub => by
      have tk : (wideL ns).take (j + 1) = (wideL ns).take j ++ [v] := by rw [List.take_add_one, hv]; rfl
      have len := sub.length_le
      rw [List.length_take] at len
      refine ⟨by rw [List.length_map]; exact small1000 (by omega), ⟨k3.at_ nR, st3.upd npR, ms ++ [v], by rw [upd_same, List.map_append]; rfl, by rw [tk]; exact sub.append (List.Sublist.refl _)⟩, by rw [tk]; exact sub.trans (List.sublist_append_left _ _)⟩
    have fin : ∀ (R : Addr) (H3 : Hp), G R = none → Keep p G H3 → Strm H3 p → (∃ ms : List Int, H3 R = some (.lst (ms.map V.int)) ∧ ms.Sublist ((wideL ns).take ((wideL ns).map V.int).length)) → Q (.ref R) H3 := fun R H3 nR k3 st3 ⟨ms, eR, sub⟩ => by
      rw [List.length_map, List.take_length] at sub
      refine q H3 R ms (k2.trans k3) (k2.free st2 nR) st3 eR (wS.sub sub) ?_
      have := sub.length_le
      omega
    refine ⟨_, rfl, rfl, _, rfl, ite2 (fun c => ?_) (fun c => ?_)⟩
    · refine ⟨.ref e, rfl, e, rfl, ⟨_, sl_map ee⟩, fun R nR => lc_list (xs := (wideL ns).map V.int) (fun j H3 => Keep p G H3 ∧ Strm H3 p ∧ ∃ ms : List Int, H3 R = some (.lst (ms.map V.int)) ∧ ms.Sublist ((wideL ns).take j)) (inv0 R nR) (fun j H3 _ h => sl_map (h.1 _ _ npe.symm ee)) ?_ (fun H3 h => fin R H3 nR h.1 h.2.1 h.2.2)⟩
      have npR : p ≠ R := fun z => st2.some (z ▸ nR)
      rintro j x H3 hx ⟨k3, st3, ms, eR, sub⟩
      rw [List.getElem?_map] at hx
      obtain ⟨v, hv, rfl⟩ := Option.map_eq_some_iff.mp hx
      refine ⟨rfl, .int v, rfl, .ref sd, rfl, sd, _, rfl, .inl (sl_map (k3 _ _ psd.symm esd2)), rfl, flat_ints _, _, rfl, ?_⟩
      refine ite2 (fun _ => ?_) (fun _ => ?_)
      · obtain ⟨m1, m2, m3⟩ := more npR nR hv k3 st3 eR sub
        exact iteT ⟨.int v, rfl, _, eR, m1, m2⟩
      · refine ⟨.ref p, rfl, p, 2, rfl, st3, by decide, by decide, fun H4 y o4 st4 y0 y1 => ⟨rfl, _, rfl, ?_⟩⟩
        have k4 := k3.oth o4
        have eR4 := (o4 R npR.symm).trans eR
        obtain ⟨m1, m2, m3⟩ := more npR nR hv k4 st4 eR4 sub
        refine ite2 (fun _ => ?_) (fun _ => ?_)
        · exact ⟨.int v, rfl, _, eR4, m1, m2⟩
        · exact ⟨k4, st4, ms, eR4, m3⟩
    · refine ⟨.ref e, rfl, e, rfl, ⟨_, sl_map ee⟩, fun R nR => lc_list (xs := (wideL ns).map V.int) (fun j H3 => Keep p G H3 ∧ Strm H3 p ∧ ∃ ms : List Int, H3 R = some (.lst (ms.map V.int)) ∧ ms.Sublist ((wideL ns).take j)) (inv0 R nR) (fun j H3 _ h => sl_map (h.1 _ _ npe.symm ee)) ?_ (fun H3 h => fin R H3 nR h.1 h.2.1 h.2.2)⟩
      have npR : p ≠ R := fun z => st2.some (z ▸ nR)
      rintro j x H3 hx ⟨k3, st3, ms, eR, sub⟩
      rw [List.getElem?_map] at hx
      obtain ⟨v, hv, rfl⟩ := Option.map_eq_some_iff.mp hx
      refine ⟨rfl, .ref p, rfl, p, 2, rfl, st3, by decide, by decide, fun H4 y o4 st4 y0 y1 => ⟨rfl, _, rfl, ?_⟩⟩
      have k4 := k3.oth o4
      have eR4 := (o4 R npR.symm).trans eR
      obtain ⟨m1, m2, m3⟩ := more npR nR hv k4 st4 eR4 sub
      refine ite2 (fun _ => ?_) (fun _ => ?_)
      · exact ⟨.int v, rfl, _, eR4, m1, m2⟩
      · exact ⟨k4, st4, ms, eR4, m3⟩
end
end K2

set_option Elab.async false
set_option linter.all false
set_option maxRecDepth 100000
set_option maxHeartbeats 4000000
namespace K2
open PySem PySem.Spec PyProof.Rows L2 Cs
/-- the domains, without their pairs -/
abbrev entsD (ds : List DomE) : List Ent := ds.map (·.2)
/-- the full form, the slim form, by what they say of a name -/
def fullE (L E : List Ent) (x : Str) : Option (List Int) := (look E x).map fun v => match look L x with
  | some s => both v s
  | none => v
def slimE (F E : List Ent) (x : Str) : Option (List Int) := match look E x, look F x with
  | some v, some f => if f.length < v.length then some f else none
  | _, _ => none
theorem entsD_keys (ds : List DomE) : (entsD ds).map (·.1) = ds.map (·.2.1) := by unfold entsD; rw [List.map_map]; rfl
theorem entsD_take (ds : List DomE) (i : Nat) : entsD (ds.take i) = (entsD ds).take i := by unfold entsD; rw [List.map_take]
theorem look_none' {L : List Ent} {x : Str} (h : x ∉ L.map (·.1)) : look L x = none := by unfold look; rw [getE_none.mpr h]; rfl
theorem look_snocE {L : List Ent} {e : Ent} (h : e.1 ∉ L.map (·.1)) (y : Str) : look (L ++ [e]) y = if y = e.1 then some e.2.2 else look L y := by
  unfold look
  rw [getE_app]
  by_cases z : y = e.1
  · rw [if_pos z, z, getE_none.mpr h, getE_pos rfl]
    rfl
  · rw [if_neg z, getE_neg (fun q => z q.symm), getE_nil]
    cases getE L y <;> rfl
theorem take_new {ds : List DomE} {i : Nat} {d : DomE} (nd : (ds.map (·.2.1)).Nodup) (h : ds[i]? = some d) : d.2.1 ∉ (entsD (ds.take i)).map (·.1) := by
  rw [entsD_keys]
  intro z
  obtain ⟨g, hg, eg⟩ := List.mem_map.mp z
  obtain ⟨j, hj⟩ := List.mem_iff_getElem?.mp hg
  rw [List.getElem?_take] at hj
  split at hj
  · have a1 : (ds.map (·.2.1))[j]? = some d.2.1 := by rw [List.getElem?_map, hj]; exact congrArg some eg
    have a2 : (ds.map (·.2.1))[i]? = some d.2.1 := by rw [List.getElem?_map, h]; rfl
    have := nd_ix nd a1 a2
    omega
  · cases hj
theorem look_stepD {ds : List DomE} {i : Nat} {d : DomE} (nd : (ds.map (·.2.1)).Nodup) (h : ds[i]? = some d) (y : Str) : look (entsD (ds.take (i + 1))) y = if y = d.2.1 then some d.2.2.2 else look (entsD (ds.take i)) y := by
  have e : entsD (ds.take (i + 1)) = entsD (ds.take i) ++ [d.2] := by unfold entsD; rw [List.take_add_one, h, List.map_append]; rfl
  rw [e]
  exact look_snocE (take_new nd h) y
section
variable {P : Program} {w : World} {K : PySem.W.Frag} {mg : Str → Option Value} {base : Heap}
abbrev sFull : Stmt := topS 44
abbrev nFull : List Str := ["_law_sides", "_law_domains_here", "_law_full_here", "_law_domain", "_law_value"]
theorem scFull : FnScope nFull ["_law_sides", "_law_domains_here"] (defScope sFull) := ⟨rfl, rfl, rfl, by decide +kernel, rfl, by decide +kernel, by decide +kernel⟩
def spFull : Sp := fun vs H Q _ => ∃ (b dl : Addr) (L : List Ent) (ds : List DomE), vs = [.ref b, .ref dl] ∧ Bu H b L ∧ Doms H dl ds ∧ (ds.map (·.2.1)).Nodup ∧ ds.length ≤ 30 ∧ (∀ d ∈ ds, d.2.2.2.length ≤ 100) ∧ (∀ e ∈ L, e.2.2.length ≤ 110) ∧
  ∀ (H' : Hp) (d : Addr) (M : List Ent), Same H H' → Nb H H' d M → (∀ x, look M x = fullE L (entsD ds) x) → M.map (·.1) = ds.map (·.2.1) → Q (.ref d) H'
theorem ok_full {f : Addr} {fd : FuncData} {k : Nat} (F : Fun K "_law_full" "_law_full" sFull f fd) (B : Bt mg) : FnOk P w K mg base CX0 (k + 1) f fd ["_law_sides", "_law_domains_here"] spFull := by
  refine F.ok scFull (fun vs H Q E h => ?_) (fun cdv A outer s H vs Q E hr h => ?_)
  · obtain ⟨b, dl, L, ds, rfl, _⟩ := h
    rfl
  · obtain ⟨b, dl, L, ds, rfl, bx, dm, nod, dlen, dsz, lsz, q⟩ := h
    have hu := hu_of hr
    have nd := scFull.nd
    refine ⟨_, pss_cons (ps_set (i := 2) nd rfl (.inl rfl) pe_dnewK)
      (pss_cons (ps_for PassesOwn.never rfl (pi_list (pv 1)) (pg_name (i := 3) nd rfl (.inr rfl))
        (pss_cons (ps_dput hu (pv 2) (pe_ix ix_tup (pv 3) pe_int (fun _ _ => rfl)) (pe_callTy call_list_of (by rfl) B.list PyProof.Rows.boot_list (pa_cons (pe_ix ix_tup (pv 3) pe_int (fun _ _ => rfl)) pa_nil)) rfl)
        (pss_one (ps_if (pt_cmp (pc_din hu (pe_ix ix_tup (pv 3) pe_int (fun _ _ => rfl)) (pv 0)))
          (pss_one (ps_dput hu (pv 2) (pe_ix ix_tup (pv 3) pe_int (fun _ _ => rfl)) (pe_lc (own := [("_law_value", 4)]) (g := gName 4) (te := tVar 4) rfl nd (pi_list (pe_ix ix_tup (pv 3) pe_int (fun _ _ => rfl))) (blkOk_by (N := nFull) (sc := defScope sFull) (by decide +kernel)) (fun _ _ _ _ _ => pg_name (i := 4) nd rfl (Or.inl rfl))
              (fun _ _ _ _ _ => pts_one (pt_cmpR (r := rIn K false) op_in_seq (pv 4) (pe_dget hu (pv 0) (pe_ix (r := rIxT K) ix_tup (pv 3) pe_int (fun _ _ => rfl)) (fun _ _ => rfl)) rfl)) (fun _ _ _ _ _ => pv 4)) rfl)) pss_nil))))
      (pss_one (ps_ret (pv 2)))), ?_⟩
    intro D nD
    have s0 := same_new (o := HO.dK []) nD
    refine ⟨.ref dl, rfl, dl, rfl, ⟨_, sl_map (s0 _ _ dm.lst)⟩, for_list (xs := ds.map fun d => V.ref d.1) (fun i σ H' => ∃ (M : List Ent) (y3 : Option V), σ = [some (.ref b), some (.ref dl), some (.ref D), y3, none] ∧ Same H H' ∧ Nb H H' D M ∧ (∀ x, look M x = fullE L (entsD (ds.take i)) x) ∧ M.map (·.1) = (ds.take i).map (·.2.1))
      ⟨[], none, rfl, s0, Nb.nil nD upd_same, fun x => rfl, rfl⟩ (fun i σ H' _ h => by obtain ⟨M, y3, _, s, _⟩ := h; exact sl_map (s _ _ dm.lst)) ?_ ?_⟩
    · rintro i x σ H' hx ⟨M, y3, rfl, sm, nb, lk, ks⟩
      rw [List.getElem?_map] at hx
      obtain ⟨d, hv, rfl⟩ := Option.map_eq_some_iff.mp hx
      have dmem := List.mem_of_getElem? hv
      have hi := (List.getElem?_eq_some_iff.mp hv).1
      have dm' := dm.same sm
      have tt : ∀ {H2 : Hp}, Same H' H2 → SqT K H2 d.1 [V.str d.2.1, V.ref d.2.2.1] := fun s2 => .inl (.inl (s2 _ _ (dm'.tup d dmem)))
      have lM : M.length = i := by
        have := congrArg List.length ks
        rw [List.length_map, List.length_map, List.length_take] at this
        omega
      refine ⟨.ref d.1, rfl, d.1, _, _, .ref d.2.2.1, rfl, rfl, tt (Same.refl _), atI_nat (j := 1) rfl, d.2.2.1, _, rfl, .inl (sl_map (dm'.side d dmem)), fun l nl => ?_⟩
      have xnew0 := take_new nod hv
      have xnew : d.2.1 ∉ M.map (·.1) := by rw [ks, ← entsD_keys]; exact xnew0
      have sl := same_new (o := HO.lst (d.2.2.2.map V.int)) nl
      have nlD : D ≠ l := fun z => by have := nb.un; rw [z, nl] at this; cases this
      have lenK : ∀ M2 : List Ent, M2.length ≤ 40 → (entK M2).length < sizeLine := fun M2 h => by rw [entK_len]; exact small1000 (by omega)
      refine ⟨.ref D, rfl, .ref d.1, rfl, d.1, _, _, .str d.2.1, rfl, rfl, tt sl, atI_nat (j := 0) rfl, D, _, rfl, DPut.k (k := .inr d.2.1) (sl _ _ nb.un) (lenK M nb.few), ?_⟩
      have nb1 := nb.put (x := d.2.1) (s := d.2.2.2) (sm.free nl) nl sl upd_same (by omega)
      rw [putK_ent (s := d.2.2.2), putE_new xnew]
      rw [putE_new xnew] at nb1
      have s2 : Same H (upd (upd H' l (.lst (d.2.2.2.map V.int))) D (.dK (entK (M ++ [(d.2.1, l, d.2.2.2)])))) := same_at (sm.trans sl) nD
      generalize upd (upd H' l (.lst (d.2.2.2.map V.int))) D (.dK (entK (M ++ [(d.2.1, l, d.2.2.2)]))) = H2 at nb1 s2 ⊢
      have lk1 : ∀ y, look (M ++ [(d.2.1, l, d.2.2.2)]) y = if y = d.2.1 then some d.2.2.2 else fullE L (entsD (ds.take i)) y := fun y => by rw [look_snocE (e := (d.2.1, l, d.2.2.2)) xnew, lk y]
      have step : ∀ y, fullE L (entsD (ds.take (i + 1))) y = if y = d.2.1 then some (match look L d.2.1 with | some s => both d.2.2.2 s | none => d.2.2.2) else fullE L (entsD (ds.take i)) y := fun y => by
        unfold fullE
        rw [look_stepD nod hv]
        by_cases z : y = d.2.1
        · rw [if_pos z, if_pos z, z] <;> rfl
        · rw [if_neg z, if_neg z]
      have keys1 : (M ++ [(d.2.1, l, d.2.2.2)]).map (·.1) = (ds.take (i + 1)).map (·.2.1) := by
        rw [List.map_append, ks, List.take_add_one, hv, List.map_append]
        rfl
      have dm2 := dm.same s2
      have tt2 : ∀ {H3 : Hp}, Same H2 H3 → SqT K H3 d.1 [V.str d.2.1, V.ref d.2.2.1] := fun s3 => .inl (.inl (s3 _ _ (dm2.tup d dmem)))
      have b2 := bx.same' s2
      have gv := b2.toBx.get d.2.1
      refine ⟨.ref d.1, rfl, d.1, _, _, .str d.2.1, rfl, rfl, tt2 (Same.refl _), atI_nat (j := 0) rfl, .ref b, rfl, b, _, rfl, gv, ?_⟩
      cases c : getE L d.2.1 with
      | none =>
        have hl : look L d.2.1 = none := by unfold look; rw [c]; rfl
        refine ⟨false, rfl, iteF ⟨_, _, rfl, s2, nb1, fun y => ?_, keys1⟩⟩
        rw [lk1, step, hl]
      | some m =>
        have hl : look L d.2.1 = some m.2.2 := by unfold look; rw [c]; rfl
        obtain ⟨mm, me⟩ := getE_mem c
        refine ⟨true, rfl, iteT ?_⟩
        refine ⟨.ref d.1, rfl, d.1, _, _, .ref d.2.2.1, rfl, rfl, tt2 (Same.refl _), atI_nat (j := 1) rfl, d.2.2.1, rfl, ⟨_, sl_map (dm2.side d dmem)⟩, fun R nR => lc_list (xs := d.2.2.2.map V.int) (fun j H3 => Same H2 H3 ∧ H3 R = some (.lst (((d.2.2.2.take j).filter (fun k => decide (k ∈ m.2.2))).map V.int))) ⟨same_new nR, upd_same⟩ (fun j H3 _ h => h.1.seq (sl_map (dm2.side d dmem))) ?_ ?_⟩
        · rintro j x H3 hx ⟨s3, eR⟩
          rw [List.getElem?_map] at hx
          obtain ⟨v, hv2, rfl⟩ := Option.map_eq_some_iff.mp hx
          have hj := (List.getElem?_eq_some_iff.mp hv2).1
          have g3 := (b2.toBx.same s3).get d.2.1
          rw [c] at g3
          refine ⟨rfl, .int v, rfl, .ref b, rfl, .ref d.1, rfl, d.1, _, _, .str d.2.1, rfl, rfl, tt2 s3, atI_nat (j := 0) rfl, b, .ref m.2.1, rfl, g3, m.2.1, _, rfl, .inl (sl_map (s3 _ _ (b2.sides m mm))), rfl, flat_ints _, _, rfl, ?_⟩
          rw [in_ints]
          have fs : (d.2.2.2.take (j + 1)).filter (fun k => decide (k ∈ m.2.2)) = (d.2.2.2.take j).filter (fun k => decide (k ∈ m.2.2)) ++ [v].filter (fun k => decide (k ∈ m.2.2)) := by
            rw [List.take_add_one, hv2, List.filter_append]
            rfl
          by_cases q1 : v ∈ m.2.2
          · rw [decide_eq_true q1]
            refine iteT ⟨.int v, rfl, _, eR, ?_, same_at s3 nR, ?_⟩
            · rw [List.length_map]
              have h1 := List.length_filter_le (fun k => decide (k ∈ m.2.2)) (d.2.2.2.take j)
              have h2 := dsz d dmem
              rw [List.length_take] at h1
              exact small1000 (by omega)
            · rw [upd_same, fs, List.map_append]
              simp [q1]
          · rw [decide_eq_false q1]
            refine iteF ⟨s3, ?_⟩
            rw [eR, fs]
            simp [q1]
        · rintro H3 ⟨s3, eR⟩
          rw [List.length_map, List.take_length] at eR
          have few := nb1.few
          refine ⟨.ref D, rfl, .ref d.1, rfl, d.1, _, _, .str d.2.1, rfl, rfl, tt2 s3, atI_nat (j := 0) rfl, D, _, rfl, DPut.k (k := .inr d.2.1) (s3 _ _ nb1.un) (lenK _ few), ?_⟩
          rw [putK_ent (s := both d.2.2.2 m.2.2)]
          have lp : (M ++ [(d.2.1, l, d.2.2.2)]).length + 1 ≤ 40 := by rw [List.length_append]; show M.length + 1 + 1 ≤ 40; omega
          refine ⟨_, _, rfl, same_at (s2.trans s3) nD, nb1.put (s2.free nR) nR s3 eR lp, fun y => ?_, ?_⟩
          · rw [look_put, lk1, step, hl]
            by_cases z : y = d.2.1
            · rw [if_pos z, if_pos z]
            · rw [if_neg z, if_neg z, if_neg z]
          · rw [putE_keys, if_pos (by rw [List.map_append]; exact List.mem_append_right _ (List.mem_singleton.mpr rfl)), keys1]
    · rintro σ H' ⟨M, y3, rfl, sm, nb, lk, ks⟩
      rw [List.length_map, List.take_length] at lk ks
      exact ⟨_, rfl, q H' D M sm nb lk ks⟩
end
end K2

set_option Elab.async false
set_option linter.all false
set_option maxRecDepth 100000
set_option maxHeartbeats 4000000
namespace K2
open PySem PySem.Spec PyProof.Rows L2 Cs
section
variable {P : Program} {w : World} {K : PySem.W.Frag} {mg : Str → Option Value} {base : Heap}
abbrev sSlim : Stmt := topS 45
abbrev nSlim : List Str := ["_law_full_here", "_law_domains_here", "_law_slim_here", "_law_domain"]
theorem scSlim : FnScope nSlim ["_law_full_here", "_law_domains_here"] (defScope sSlim) := ⟨rfl, rfl, rfl, by decide +kernel, rfl, by decide +kernel, by decide +kernel⟩
def spSlim : Sp := fun vs H Q _ => ∃ (b dl : Addr) (L : List Ent) (ds : List DomE), vs = [.ref b, .ref dl] ∧ Bu H b L ∧ Doms H dl ds ∧ (ds.map (·.2.1)).Nodup ∧ ds.length ≤ 30 ∧ (∀ d ∈ ds, d.2.2.2.length ≤ 1000) ∧ (∀ e ∈ L, e.2.2.length ≤ 1000) ∧ (∀ d ∈ ds, d.2.1 ∈ L.map (·.1)) ∧
  ∀ (H' : Hp) (d : Addr) (M : List Ent), Same H H' → Nb H H' d M → (∀ x, look M x = slimE L (entsD ds) x) → M.length ≤ ds.length → Q (.ref d) H'
theorem slim_step {L : List Ent} {ds : List DomE} {i : Nat} {d : DomE} (nd : (ds.map (·.2.1)).Nodup) (h : ds[i]? = some d) (y : Str) :
    slimE L (entsD (ds.take (i + 1))) y = if y = d.2.1 then (match look L d.2.1 with | some f => if f.length < d.2.2.2.length then some f else none | none => none) else slimE L (entsD (ds.take i)) y := by
  unfold slimE
  rw [look_stepD nd h]
  by_cases z : y = d.2.1
  · rw [if_pos z, if_pos z, z]
    cases look L d.2.1 <;> rfl
  · rw [if_neg z, if_neg z]
theorem ok_slim {f : Addr} {fd : FuncData} {k : Nat} (F : Fun K "_law_slim" "_law_slim" sSlim f fd) (B : Bt mg) : FnOk P w K mg base CX0 (k + 1) f fd ["_law_full_here", "_law_domains_here"] spSlim := by
  refine F.ok scSlim (fun vs H Q E h => ?_) (fun cdv A outer s H vs Q E hr h => ?_)
  · obtain ⟨b, dl, L, ds, rfl, _⟩ := h
    rfl
  · obtain ⟨b, dl, L, ds, rfl, bx, dm, nod, dlen, dsz, lsz, cov, q⟩ := h
    have hu := hu_of hr
    have nd := scSlim.nd
    refine ⟨_, pss_cons (ps_set (i := 2) nd rfl (.inl rfl) pe_dnewK)
      (pss_cons (ps_for PassesOwn.never rfl (pi_list (pv 1)) (pg_name (i := 3) nd rfl (.inl rfl))
        (pss_one (ps_if (pt_cmpR op_lt (pe_callB call_len_seq (by rfl) B.len PySem.boot_len (pa_cons (pe_dget hu (pv 0) (pe_ix (r := rIxT K) ix_tup (pv 3) pe_int (fun _ _ => rfl)) (fun _ _ => rfl)) pa_nil))
            (pe_callB call_len_seq (by rfl) B.len PySem.boot_len (pa_cons (pe_ix (r := rIxT K) ix_tup (pv 3) pe_int (fun _ _ => rfl)) pa_nil)) (nomark _))
          (pss_one (ps_dput hu (pv 2) (pe_ix ix_tup (pv 3) pe_int (fun _ _ => rfl)) (pe_callTy call_list_of (by rfl) B.list PyProof.Rows.boot_list (pa_cons (pe_dget hu (pv 0) (pe_ix (r := rIxT K) ix_tup (pv 3) pe_int (fun _ _ => rfl)) (fun _ _ => rfl)) pa_nil)) rfl)) pss_nil)))
      (pss_one (ps_ret (pv 2)))), ?_⟩
    intro D nD
    have s0 := same_new (o := HO.dK []) nD
    refine ⟨.ref dl, rfl, dl, rfl, ⟨_, sl_map (s0 _ _ dm.lst)⟩, for_list (xs := ds.map fun d => V.ref d.1) (fun i σ H' => ∃ (M : List Ent) (y3 : Option V), σ = [some (.ref b), some (.ref dl), some (.ref D), y3] ∧ Same H H' ∧ Nb H H' D M ∧ (∀ x, look M x = slimE L (entsD (ds.take i)) x) ∧ M.length ≤ i)
      ⟨[], none, rfl, s0, Nb.nil nD upd_same, fun x => rfl, Nat.le_refl _⟩ (fun i σ H' _ h => by obtain ⟨M, y3, _, s, _⟩ := h; exact sl_map (s _ _ dm.lst)) ?_ ?_⟩
    · rintro i x σ H' hx ⟨M, y3, rfl, sm, nb, lk, lM⟩
      rw [List.getElem?_map] at hx
      obtain ⟨d, hv, rfl⟩ := Option.map_eq_some_iff.mp hx
      have dmem := List.mem_of_getElem? hv
      have hi := (List.getElem?_eq_some_iff.mp hv).1
      have dm' := dm.same sm
      have tt : ∀ {H2 : Hp}, Same H' H2 → SqT K H2 d.1 [V.str d.2.1, V.ref d.2.2.1] := fun s2 => .inl (.inl (s2 _ _ (dm'.tup d dmem)))
      have b' := bx.same' sm
      have gv := b'.toBx.get d.2.1
      have step := slim_step (L := L) nod hv
      cases c : getE L d.2.1 with
      | none => exact absurd (cov d dmem) (getE_none.mp c)
      | some m =>
        rw [c] at gv
        obtain ⟨mm, me⟩ := getE_mem c
        have hl : look L d.2.1 = some m.2.2 := by unfold look; rw [c]; rfl
        have lm := lsz m mm
        have ld := dsz d dmem
        refine ⟨.ref b, rfl, .ref d.1, rfl, d.1, _, _, .str d.2.1, rfl, rfl, tt (Same.refl _), atI_nat (j := 0) rfl, b, .ref m.2.1, rfl, gv, m.2.1, _, rfl, .inl (sl_map (b'.sides m mm)), .ref d.1, rfl, d.1, _, _, .ref d.2.2.1, rfl, rfl, tt (Same.refl _), atI_nat (j := 1) rfl, d.2.2.1, _, rfl, .inl (sl_map (dm'.side d dmem)), _, _, rfl, rfl, _, rfl, ite2 (fun cc => ?_) (fun cc => ?_)⟩
        · have lt : m.2.2.length < d.2.2.2.length := by
            have := of_decide_eq_true cc
            rw [List.length_map, List.length_map] at this
            omega
          refine ⟨.ref b, rfl, .ref d.1, rfl, d.1, _, _, .str d.2.1, rfl, rfl, tt (Same.refl _), atI_nat (j := 0) rfl, b, .ref m.2.1, rfl, gv, m.2.1, _, rfl, .inl (sl_map (b'.sides m mm)), fun l nl => ?_⟩
          have sl := same_new (o := HO.lst (m.2.2.map V.int)) nl
          refine ⟨.ref D, rfl, .ref d.1, rfl, d.1, _, _, .str d.2.1, rfl, rfl, tt sl, atI_nat (j := 0) rfl, D, _, rfl, DPut.k (k := .inr d.2.1) (sl _ _ nb.un) (by rw [entK_len]; exact small1000 (by omega)), ?_⟩
          rw [putK_ent (s := m.2.2)]
          have pl := putE_len M d.2.1 l m.2.2
          refine ⟨_, _, rfl, same_at (sm.trans sl) nD, nb.put (sm.free nl) nl sl upd_same (by omega), fun y => ?_, by omega⟩
          rw [look_put, step, hl, lk y]
          by_cases z : y = d.2.1
          · rw [if_pos z, if_pos z]
            exact (if_pos lt).symm
          · rw [if_neg z, if_neg z]
        · have nlt : ¬ m.2.2.length < d.2.2.2.length := fun h => cc (decide_eq_true (by rw [List.length_map, List.length_map]; omega))
          refine ⟨M, _, rfl, sm, nb, fun y => ?_, by omega⟩
          rw [step, hl, lk y]
          by_cases z : y = d.2.1
          · rw [if_pos z, z]
            have : look (entsD (ds.take i)) d.2.1 = none := look_none' (take_new nod hv)
            unfold slimE
            rw [this]
            exact (if_neg nlt).symm
          · rw [if_neg z]
    · rintro σ H' ⟨M, y3, rfl, sm, nb, lk, lM⟩
      rw [List.length_map] at lk lM
      rw [List.take_length] at lk
      exact ⟨_, rfl, q H' D M sm nb lk lM⟩
end
end K2

set_option Elab.async false
set_option linter.all false
set_option maxRecDepth 100000
set_option maxHeartbeats 4000000
namespace K2
open PySem PySem.Spec PyProof.Rows L2 Cs
theorem scK_it {P : Program} {w : World} {J : It} {n : Nat} {G : Hp → Prop} {Y : Nat → Hp → V → Hp → Prop} (wk : Walk J n G Y) {g : TG} {tt : TT} {te : TE} {vs : List Nat} {σ : L2.St} {H1 : Hp} {D : Addr} {Qd : Hp → Prop} (Pv : Nat → Hp → Prop) (start : Pv 0 (upd H1 D (SetK P w D noK 0))) (stays : ∀ i H, i ≤ n → Pv i H → G H)
    (turn : ∀ i x H H', i < n → Pv i H → Y i H x H' → g x (wipe σ vs) H' fun σ2 H2 => wipe σ2 vs = wipe σ vs ∧ tt σ2 H2 fun b H3 =>
      if b = true then te σ2 H3 fun y H4 => ∃ (k : Key) (S : Key → Bool) (m : Nat), y = kV k ∧ H4 D = some (SetK P w D S m) ∧ m + 1 < scanBound ∧ Pv (i + 1) (upd H4 D (SetK P w D (withK S k) (if S k = true then m else m + 1))) else Pv (i + 1) H3) (after : ∀ H, Pv n H → Qd H) :
    ∃ W : Nat → Nat → Hp → Prop, (∃ m, W 0 m (upd H1 D (SetK P w D noK 0))) ∧ ∀ i m H, W i m H →
      (J.stop i H ∧ Qd H) ∨ (J.go i H ∧ ∃ Nx : Hp → Prop, (∀ H', Nx H' → ∃ m', m' < m ∧ W (i + 1) m' H') ∧ ∀ x H', J.yld i H x H' → g x (wipe σ vs) H' fun σ2 H2 => wipe σ2 vs = wipe σ vs ∧ tt σ2 H2 fun b H3 =>
        if b = true then te σ2 H3 fun y H4 => ∃ (k : Key) (S : Key → Bool) (m : Nat), y = kV k ∧ H4 D = some (SetK P w D S m) ∧ m + 1 < scanBound ∧ Nx (upd H4 D (SetK P w D (withK S k) (if S k = true then m else m + 1))) else Nx H3) := by
  refine ⟨fun i m H => m = n - i ∧ i ≤ n ∧ Pv i H, ⟨n, rfl, Nat.zero_le _, start⟩, fun i m H h => ?_⟩
  obtain ⟨em, le, pv⟩ := h
  by_cases lt : i < n
  · exact .inr ⟨wk.goes i H lt (stays i H le pv), Pv (i + 1), fun H' p => ⟨n - (i + 1), by omega, rfl, lt, p⟩, fun x H' y => turn i x H H' lt pv (wk.yields i H x H' lt (stays i H le pv) y)⟩
  · obtain rfl : i = n := by omega
    exact .inl ⟨wk.stops H (stays _ H le pv), after H pv⟩
/-- a statement that is not reached -/
theorem ps_never {X : Cx} {st : Stmt} : PS X st (fun _ _ _ => False) := ⟨fun _ _ _ _ _ _ h => h.elim⟩
section
variable {P : Program} {w : World} {K : PySem.W.Frag} {mg : Str → Option Value} {base : Heap}
abbrev sCheck : Stmt := topS 31
abbrev nCheck : List Str := ["box", "domains", "name", "known", "_"]
theorem scCheck : FnScope nCheck ["box", "domains"] (defScope sCheck) := ⟨rfl, rfl, rfl, by decide +kernel, rfl, by decide +kernel, by decide +kernel⟩
def spCheck : Sp := fun vs H Q _ => ∃ (b dl : Addr) (L : List Ent) (ds : List DomE), vs = [.ref b, .ref dl] ∧ Bu H b L ∧ Doms H dl ds ∧ ds.length ≤ 30 ∧ (∀ e ∈ L, e.1 ∈ ds.map (·.2.1)) ∧ ∀ H', Same H H' → Q .non H'
theorem ok_check {f : Addr} {fd : FuncData} {k : Nat} (F : Fun K "_check_names" "_check_names" sCheck f fd) (B : Bt mg) : FnOk P w K mg base CX0 (k + 1) f fd ["box", "domains"] spCheck := by
  refine F.ok scCheck (fun vs H Q E h => ?_) (fun cdv A outer s H vs Q E hr h => ?_)
  · obtain ⟨b, dl, L, ds, rfl, _⟩ := h
    rfl
  · obtain ⟨b, dl, L, ds, rfl, bx, dm, dlen, sub, q⟩ := h
    have hu := hu_of hr
    have nd := scCheck.nd
    refine ⟨_, pss_cons (ps_setScK (i := 3) (own := [("name", 2), ("_", 4)]) (g := gTup K 2 (gCons (gName 2) (gCons (gName 4) gNil))) (tt := tYes) (te := tVar 2) rfl nd rfl rfl (by rfl) (pi_list (pv 1)) (blkOk_by (N := nCheck) (sc := defScope sCheck) (by decide +kernel))
        (fun _ _ _ _ _ => pg_tup rfl (pgs_cons (pg_name (i := 2) nd rfl (Or.inl rfl)) (pgs_cons (pg_name (i := 4) nd rfl (Or.inl rfl)) pgs_nil))) (fun _ _ _ _ _ => pts_nil) (fun _ _ _ _ _ => pv 2))
      (pss_one (ps_lock (ps_for PassesOwn.never rfl (pi_keys (pv 0)) (pg_name (i := 2) nd rfl (.inl rfl)) (pss_one (ps_if (pt_cmpR or_snotinK (pv 2) (pv 3) rfl) (pss_one ps_never) pss_nil))))), ?_⟩
    refine ⟨.ref dl, rfl, dl, rfl, ⟨_, sl_map dm.lst⟩, fun D nD => scK_it walk_list (fun i H' => Same H H' ∧ ∃ (S : Key → Bool) (n : Nat), H' D = some (SetK P w D S n) ∧ n ≤ i ∧ ∀ x : Str, x ∈ (ds.take i).map (·.2.1) → S (.inr x) = true)
      ⟨same_new nD, noK, 0, upd_same, Nat.le_refl _, fun x h => by rw [List.take_zero] at h; cases h⟩ (fun i H' _ h => sl_map (h.1 _ _ dm.lst)) ?_ ?_⟩
    · rintro i x Hz H' hi ⟨sm, S, n, eD, hn, hS⟩ ⟨rfl, hx⟩
      rw [List.getElem?_map] at hx
      obtain ⟨d, hv, rfl⟩ := Option.map_eq_some_iff.mp hx
      have dmem := List.mem_of_getElem? hv
      have hi := (List.getElem?_eq_some_iff.mp hv).1
      have tt : SqT K H' d.1 [V.str d.2.1, V.ref d.2.2.1] := .inl (.inl (sm _ _ (dm.tup d dmem)))
      refine ⟨d.1, _, rfl, tt, rfl, _, _, rfl, _, [], rfl, rfl, rfl, ?_⟩
      refine ⟨.str d.2.1, rfl, .inr d.2.1, S, n, rfl, eD, by show n + 1 < 4096; omega, same_at sm nD, _, _, upd_same, ?_, fun x hxm => ?_⟩
      · split <;> omega
      · rw [List.take_add_one, hv, List.map_append] at hxm
        show (S (.inr x) || decide ((Sum.inr x : Key) = Sum.inr d.2.1)) = true
        rcases List.mem_append.mp hxm with h | h
        · rw [hS x h]; rfl
        · have : x = d.2.1 := List.mem_singleton.mp h
          rw [this]
          simp
    · rintro H' ⟨sm, S, n, eD, hn, hS⟩
      rw [List.length_map, List.take_length] at hS
      refine ⟨b, _, sm _ _ bx.un, trivial, fun od => ?_⟩
      have nDb : D ≠ b := fun z => by rw [z, bx.un] at nD; cases nD
      refine ⟨.ref b, rfl, b, od, rfl, .inl ⟨entK L, upd_same, for_it walk_keys (fun i σ H2 => H2 = upd H' b (.frz od (.dK (entK L))) ∧ ∃ y y4, σ = [some (.ref b), some (.ref dl), y, some (.ref D), y4]) ⟨rfl, _, _, rfl⟩ (fun i σ H2 _ h => by rw [h.1]; exact upd_same) ?_ ?_⟩⟩
      · rintro i x σ Hz H2 hi ⟨rfl, y, y4, rfl⟩ ⟨rfl, k1, v1, hk, rfl⟩
        obtain ⟨e, he, rfl, rfl⟩ := keys_at hk
        have em := List.mem_of_getElem? he
        refine ⟨.str e.1, rfl, .ref D, rfl, .inr e.1, D, S, n, rfl, rfl, by rw [upd_ne nDb]; exact eD, ?_⟩
        rw [hS e.1 (sub e em)]
        exact ⟨false, rfl, iteF ⟨rfl, _, _, rfl⟩⟩
      · rintro σ H2 ⟨rfl, y, y4, rfl⟩
        refine ⟨upd_same, ?_⟩
        rw [upd_back (sm _ _ bx.un)]
        exact q _ sm
end
end K2

set_option Elab.async false
set_option linter.all false
set_option maxRecDepth 100000
set_option maxHeartbeats 4000000
namespace K2
open PySem PySem.Spec PyProof.Rows L2 Cs
theorem full_step {L : List Ent} {ds : List DomE} {i : Nat} {d : DomE} (nd : (ds.map (·.2.1)).Nodup) (h : ds[i]? = some d) (y : Str) :
    fullE L (entsD (ds.take (i + 1))) y = if y = d.2.1 then some (match look L d.2.1 with | some s => both d.2.2.2 s | none => d.2.2.2) else fullE L (entsD (ds.take i)) y := by
  unfold fullE
  rw [look_stepD nd h]
  by_cases z : y = d.2.1
  · rw [if_pos z, if_pos z, z] <;> rfl
  · rw [if_neg z, if_neg z]
section
variable {P : Program} {w : World} {K : PySem.W.Frag} {mg : Str → Option Value} {base : Heap}
abbrev sFilled : Stmt := topS 29
abbrev nFilled : List Str := ["box", "domains", "form", "name", "domain"]
theorem scFilled : FnScope nFilled ["box", "domains"] (defScope sFilled) := ⟨rfl, rfl, rfl, by decide +kernel, rfl, by decide +kernel, by decide +kernel⟩
def spFilled : Sp := fun vs H Q _ => ∃ (b dl : Addr) (L : List Ent) (ds : List DomE), vs = [.ref b, .ref dl] ∧ Bu H b L ∧ Doms H dl ds ∧ (ds.map (·.2.1)).Nodup ∧ ds.length ≤ 30 ∧ (∀ e ∈ L, e.1 ∈ ds.map (·.2.1)) ∧ (∀ d ∈ ds, Srt d.2.2.2 ∧ d.2.2.2.length ≤ 31) ∧ (∀ e ∈ L, e.2.2.length ≤ 31) ∧
  ∀ (H' : Hp) (d : Addr) (M : List Ent), Same H H' → Nb H H' d M → (∀ x, look M x = fullE L (entsD ds) x) → M.map (·.1) = ds.map (·.2.1) → Q (.ref d) H'
theorem ok_filled {f fC fM : Addr} {fd fdC fdM : FuncData} (F : Fun K "filled" "filled" sFilled f fd) (B : Bt mg) (C : Call P w K mg base 1 "_check_names" fC fdC ["box", "domains"] spCheck)
    (Co : Call P w K mg base 1 "common" fM fdM ["first", "second"] (spTwo K fun ns ks k => k ∈ ns ∧ k ∈ ks)) : FnOk P w K mg base CX0 2 f fd ["box", "domains"] spFilled := by
  refine F.ok scFilled (fun vs H Q E h => ?_) (fun cdv A outer s H vs Q E hr h => ?_)
  · obtain ⟨b, dl, L, ds, rfl, _⟩ := h
    rfl
  · obtain ⟨b, dl, L, ds, rfl, bx, dm, nod, dlen, sub, dok, lsz, q⟩ := h
    have hu := hu_of hr
    have nd := scFilled.nd
    refine ⟨_, pss_cons (ps_expr (pe_call C.ok hr (by rfl) C.at_ C.kp C.bd .nil pass0 (pa_cons (pv 0) (pa_cons (pv 1) pa_nil))))
      (pss_cons (ps_set (i := 2) nd rfl (.inl rfl) pe_dnewK)
      (pss_cons (ps_for PassesOwn.never rfl (pi_list (pv 1)) (pg_tup rfl (pgs_cons (pg_name (i := 3) nd rfl (.inl rfl)) (pgs_cons (pg_name (i := 4) nd rfl (.inl rfl)) pgs_nil)))
        (pss_one (ps_dput hu (pv 2) (pv 3) (pe_ifExp (pt_cmp (pc_din hu (pv 3) (pv 0))) (pe_call Co.ok hr (by rfl) Co.at_ Co.kp Co.bd .nil pass0 (pa_cons (pe_dget hu (pv 0) (pv 3) (fun _ _ => rfl)) (pa_cons (pv 4) pa_nil)))
          (pe_callTy call_list_of (by rfl) B.list PyProof.Rows.boot_list (pa_cons (pv 4) pa_nil))) rfl)))
      (pss_one (ps_ret (pv 2))))), ?_⟩
    refine ⟨.ref b, rfl, .ref dl, rfl, b, dl, L, ds, rfl, bx, dm, dlen, sub, fun H0 s00 D nD => ?_⟩
    have nDH : H D = none := s00.free nD
    have s0 := s00.trans (same_new (o := HO.dK []) nD)
    refine ⟨.ref dl, rfl, dl, rfl, ⟨_, sl_map (s0 _ _ dm.lst)⟩, for_list (xs := ds.map fun d => V.ref d.1) (fun i σ H' => ∃ (M : List Ent) (y3 y4 : Option V), σ = [some (.ref b), some (.ref dl), some (.ref D), y3, y4] ∧ Same H H' ∧ Nb H H' D M ∧ (∀ x, look M x = fullE L (entsD (ds.take i)) x) ∧ M.map (·.1) = (ds.take i).map (·.2.1))
      ⟨[], none, none, rfl, s0, Nb.nil nDH upd_same, fun x => rfl, rfl⟩ (fun i σ H' _ h => by obtain ⟨M, y3, y4, _, s, _⟩ := h; exact sl_map (s _ _ dm.lst)) ?_ ?_⟩
    · rintro i x σ H' hx ⟨M, y3, y4, rfl, sm, nb, lk, ks⟩
      rw [List.getElem?_map] at hx
      obtain ⟨d, hv, rfl⟩ := Option.map_eq_some_iff.mp hx
      have dmem := List.mem_of_getElem? hv
      have hi := (List.getElem?_eq_some_iff.mp hv).1
      have dm' := dm.same sm
      have tt : SqT K H' d.1 [V.str d.2.1, V.ref d.2.2.1] := .inl (.inl (dm'.tup d dmem))
      have b' := bx.same' sm
      have gv := b'.toBx.get d.2.1
      have step := full_step (L := L) nod hv
      have lM : M.length = i := by
        have := congrArg List.length ks
        rw [List.length_map, List.length_map, List.length_take] at this
        omega
      have xnew : d.2.1 ∉ M.map (·.1) := by rw [ks, ← entsD_keys]; exact take_new nod hv
      have done : ∀ (H3 : Hp) (l : Addr) (sd : List Int), Same H' H3 → H' l = none → H3 l = some (.lst (sd.map V.int)) → (match look L d.2.1 with | some s => both d.2.2.2 s | none => d.2.2.2) = sd →
          ∃ (M' : List Ent) (y3 y4 : Option V), [some (V.ref b), some (V.ref dl), some (V.ref D), some (V.str d.2.1), some (V.ref d.2.2.1)] = [some (.ref b), some (.ref dl), some (.ref D), y3, y4] ∧ Same H (upd H3 D (.dK (putK (entK M) (.inr d.2.1) (V.ref l)))) ∧ Nb H (upd H3 D (.dK (putK (entK M) (.inr d.2.1) (V.ref l)))) D M' ∧ (∀ x, look M' x = fullE L (entsD (ds.take (i + 1))) x) ∧ M'.map (·.1) = (ds.take (i + 1)).map (·.2.1) := by
        intro H3 l sd s3 nl el val
        rw [putK_ent (s := sd)]
        refine ⟨putE M d.2.1 l sd, _, _, rfl, same_at (sm.trans s3) nDH, nb.put (sm.free nl) nl s3 el (by omega), fun y => ?_, ?_⟩
        · rw [look_put, step, lk y]
          by_cases z : y = d.2.1
          · rw [if_pos z, if_pos z]; exact congrArg some val.symm
          · rw [if_neg z, if_neg z]
        · rw [putE_new xnew, List.map_append, ks, List.take_add_one, hv, List.map_append]
          rfl
      have lenK : (entK M).length < sizeLine := by rw [entK_len]; exact small1000 (by omega)
      refine ⟨d.1, _, rfl, tt, rfl, _, _, rfl, _, [], rfl, rfl, ?_⟩
      refine ⟨.str d.2.1, rfl, .ref b, rfl, b, _, rfl, gv, ?_⟩
      cases c : getE L d.2.1 with
      | none =>
        have hl : look L d.2.1 = none := by unfold look; rw [c]; rfl
        refine ⟨false, rfl, iteF ⟨.ref d.2.2.1, rfl, d.2.2.1, _, rfl, .inl (sl_map (dm'.side d dmem)), fun l nl => ?_⟩⟩
        have sl := same_new (o := HO.lst (d.2.2.2.map V.int)) nl
        exact ⟨.ref D, rfl, .str d.2.1, rfl, D, _, rfl, DPut.k (k := .inr d.2.1) (sl _ _ nb.un) lenK, done _ l _ sl nl upd_same (by rw [hl])⟩
      | some m =>
        have hl : look L d.2.1 = some m.2.2 := by unfold look; rw [c]; rfl
        obtain ⟨mm, me⟩ := getE_mem c
        rw [c] at gv
        refine ⟨true, rfl, iteT ⟨.ref b, rfl, .str d.2.1, rfl, b, .ref m.2.1, rfl, gv, .ref d.2.2.1, rfl, m.2.1, d.2.2.1, m.2.2, d.2.2.2, rfl, sl_map (b'.sides m mm), sl_map (dm'.side d dmem), lsz m mm, (dok d dmem).2, fun H3 l ms s3 nl el so mem _ => ?_⟩⟩
        have ems : ms = both d.2.2.2 m.2.2 := srt_ext so (both_srt (dok d dmem).1) fun k => (mem k).trans (by rw [both_mem]; exact And.comm)
        exact ⟨.ref D, rfl, .str d.2.1, rfl, D, _, rfl, DPut.k (k := .inr d.2.1) (s3 _ _ nb.un) lenK, done H3 l ms s3 nl el (by rw [hl, ems])⟩
    · rintro σ H' ⟨M, y3, y4, rfl, sm, nb, lk, ks⟩
      rw [List.length_map, List.take_length] at lk ks
      exact ⟨_, rfl, q H' D M sm nb lk ks⟩
end
end K2

set_option Elab.async false
set_option linter.all false
set_option maxRecDepth 100000
set_option maxHeartbeats 4000000
namespace K2
open PySem PySem.Spec PyProof.Rows L2 Cs
theorem eqv_all : ∀ a b : List Int, PyData.eqvAll (a.map PyData.int) (b.map PyData.int) = decide (a = b)
  | [], [] => by simp [PyData.eqvAll]
  | [], y :: b => by simp [PyData.eqvAll]
  | x :: a, [] => by simp [PyData.eqvAll]
  | x :: a, y :: b => by
    rw [List.map_cons, List.map_cons, PyData.eqvAll, eqv_all a b]
    by_cases h : x = y
    · subst h
      by_cases g : a = b
      · simp [PyData.eqv, g]
      · simp [PyData.eqv, g]
    · simp [PyData.eqv, h]
theorem eqv_dI (a b : List Int) : PyData.eqv (dI a) (dI b) = decide (a = b) := by
  rw [dI, dI, PyData.eqv]
  exact eqv_all a b
/-- the trimmed form, by what it says of a name -/
def trimE (L E : List Ent) (x : Str) : Option (List Int) := match look E x, fullE L E x with
  | some v, some f => if f.length < v.length then some f else none
  | _, _ => none
def fOf (L : List Ent) (d : DomE) : List Int := match look L d.2.1 with
  | some s => both d.2.2.2 s
  | none => d.2.2.2
theorem fOf_sub (L : List Ent) (d : DomE) : (fOf L d).Sublist d.2.2.2 := by
  unfold fOf
  cases look L d.2.1 with
  | none => exact List.Sublist.refl _
  | some s => exact List.filter_sublist
theorem fOf_ne (L : List Ent) (d : DomE) : fOf L d ≠ d.2.2.2 ↔ (fOf L d).length < d.2.2.2.length := by
  have s := fOf_sub L d
  have l := s.length_le
  constructor
  · intro h
    exact Nat.lt_of_le_of_ne l fun e => h (s.eq_of_length e)
  · intro h e
    rw [e] at h
    omega
theorem trim_step {L : List Ent} {ds : List DomE} {i : Nat} {d : DomE} (nd : (ds.map (·.2.1)).Nodup) (h : ds[i]? = some d) (y : Str) :
    trimE L (entsD (ds.take (i + 1))) y = if y = d.2.1 then (if (fOf L d).length < d.2.2.2.length then some (fOf L d) else none) else trimE L (entsD (ds.take i)) y := by
  unfold trimE
  rw [look_stepD nd h, full_step nd h]
  by_cases z : y = d.2.1
  · rw [if_pos z, if_pos z, if_pos z] <;> rfl
  · rw [if_neg z, if_neg z, if_neg z]
section
variable {P : Program} {w : World} {K : PySem.W.Frag} {mg : Str → Option Value} {base : Heap}
abbrev sTrim : Stmt := topS 30
abbrev nTrim : List Str := ["box", "domains", "form", "name", "domain"]
theorem scTrim : FnScope nTrim ["box", "domains"] (defScope sTrim) := ⟨rfl, rfl, rfl, by decide +kernel, rfl, by decide +kernel, by decide +kernel⟩
def spTrim : Sp := fun vs H Q _ => ∃ (b dl : Addr) (L : List Ent) (ds : List DomE), vs = [.ref b, .ref dl] ∧ Bu H b L ∧ Doms H dl ds ∧ (ds.map (·.2.1)).Nodup ∧ ds.length ≤ 30 ∧ (∀ e ∈ L, e.1 ∈ ds.map (·.2.1)) ∧ (∀ d ∈ ds, Srt d.2.2.2 ∧ d.2.2.2.length ≤ 31) ∧ (∀ e ∈ L, e.2.2.length ≤ 31) ∧
  ∀ (H' : Hp) (d : Addr) (M : List Ent), Same H H' → Nb H H' d M → (∀ x, look M x = trimE L (entsD ds) x) → M.length ≤ ds.length → Q (.ref d) H'
theorem ok_trim {f fC : Addr} {fd fdC : FuncData} (F : Fun K "trimmed" "trimmed" sTrim f fd) (B : Bt mg) (C : Call P w K mg base 2 "filled" fC fdC ["box", "domains"] spFilled) :
    FnOk P w K mg base CX0 3 f fd ["box", "domains"] spTrim := by
  refine F.ok scTrim (fun vs H Q E h => ?_) (fun cdv A outer s H vs Q E hr h => ?_)
  · obtain ⟨b, dl, L, ds, rfl, _⟩ := h
    rfl
  · obtain ⟨b, dl, L, ds, rfl, bx, dm, nod, dlen, sub, dok, lsz, q⟩ := h
    have hu := hu_of hr
    have hu64 : (A.deeper (envOfC "trimmed" (defScope sTrim) s.heap.objs.size f cdv)).units + 64 < cLine := by have := hr.un; omega
    have nd := scTrim.nd
    refine ⟨_, pss_cons (ps_set (i := 2) nd rfl (.inr rfl) (pe_call C.ok hr (by rfl) C.at_ C.kp C.bd .nil pass0 (pa_cons (pv 0) (pa_cons (pv 1) pa_nil))))
      (pss_one (ps_ret (pe_dc (own := [("name", 3), ("domain", 4)]) (g := gTup K 2 (gCons (gName 3) (gCons (gName 4) gNil))) (tk := tVar 3) (tv := tDGet (tVar 2) (tVar 3)) rfl nd (pi_list (pv 1)) (blkOk_by (N := nTrim) (sc := defScope sTrim) (by decide +kernel))
        (fun _ _ _ _ _ => pg_tup rfl (pgs_cons (pg_name (i := 3) nd rfl (Or.inl rfl)) (pgs_cons (pg_name (i := 4) nd rfl (Or.inl rfl)) pgs_nil)))
        (fun _ _ _ _ _ => pts_one (pt_cmpR (r := rNeD K) (op_neD hu64) (pe_dget hu (pv 2) (pv 3) (fun _ _ => rfl)) (pv 4) rfl)) (fun _ _ _ _ _ => pv 3) (fun _ _ _ _ _ => pe_dget hu (pv 2) (pv 3) (fun _ _ => rfl))))), ?_⟩
    refine ⟨.ref b, rfl, .ref dl, rfl, b, dl, L, ds, rfl, bx, dm, nod, dlen, sub, dok, lsz, fun H1 fa F s1 nF lkF ksF => ?_⟩
    have dm1 := dm.same s1
    have lF : F.length = ds.length := by
      have := congrArg List.length ksF
      rw [List.length_map, List.length_map] at this
      exact this
    refine ⟨.ref dl, rfl, dl, rfl, ⟨_, sl_map dm1.lst⟩, fun D nD => dc_it walk_list (fun i H' => Same H1 H' ∧ ∃ M : List Ent, Nb H H' D M ∧ (∀ x, look M x = trimE L (entsD (ds.take i)) x) ∧ (∀ e ∈ M, e ∈ F ∧ e.1 ∈ (ds.take i).map (·.2.1)) ∧ M.length ≤ i)
      ⟨same_new nD, [], Nb.nil (s1.free nD) upd_same, fun x => rfl, (fun _ h => nomatch h), Nat.le_refl _⟩ (fun i H' _ h => sl_map (h.1 _ _ dm1.lst)) ?_ ?_⟩
    · rintro i x Hz H' hi ⟨sm, M, nb, lk, inF, lM⟩ ⟨rfl, hx⟩
      rw [List.getElem?_map] at hx
      obtain ⟨d, hv, rfl⟩ := Option.map_eq_some_iff.mp hx
      have dmem := List.mem_of_getElem? hv
      have hi := (List.getElem?_eq_some_iff.mp hv).1
      have dm' := dm1.same sm
      have tt : SqT K H' d.1 [V.str d.2.1, V.ref d.2.2.1] := .inl (.inl (dm'.tup d dmem))
      have bF := nF.toBu.same' sm
      have hl : look F d.2.1 = some (fOf L d) := by
        rw [lkF]
        unfold fullE
        have : look (entsD ds) d.2.1 = some d.2.2.2 := look_mem (L := entsD ds) (e := d.2) (by rw [entsD_keys]; exact nod) (List.mem_map_of_mem dmem)
        rw [this]
        rfl
      have gv := bF.toBx.get d.2.1
      have step := trim_step (L := L) nod hv
      cases c : getE F d.2.1 with
      | none => unfold look at hl; rw [c] at hl; cases hl
      | some m =>
        obtain ⟨mm, me⟩ := getE_mem c
        have e2 : m.2.2 = fOf L d := by unfold look at hl; rw [c] at hl; exact Option.some.inj hl
        rw [c] at gv
        have sd := bF.sides m mm
        rw [e2] at sd
        have keys' : ∀ e ∈ M, e.1 ∈ (ds.take (i + 1)).map (·.2.1) := fun e he => by
          rw [List.take_add_one, List.map_append]
          exact List.mem_append_left _ (inF e he).2
        refine ⟨d.1, _, rfl, tt, rfl, _, _, rfl, _, [], rfl, rfl, rfl, ?_⟩
        refine ⟨.ref fa, rfl, .str d.2.1, rfl, fa, .ref m.2.1, rfl, gv, .ref d.2.2.1, rfl, dI (fOf L d), dI d.2.2.2, dpI (sl_map sd), dpI (sl_map (dm'.side d dmem)), shI _, shI _, ?_⟩
        rw [eqv_dI]
        have tn := take_new nod hv
        rw [entsD_keys] at tn
        by_cases ne : fOf L d = d.2.2.2
        · rw [decide_eq_true ne]
          refine ⟨false, rfl, iteF ⟨sm, M, nb, fun y => ?_, fun e he => ⟨(inF e he).1, keys' e he⟩, by omega⟩⟩
          rw [step, lk y]
          by_cases z : y = d.2.1
          · rw [if_pos z, if_neg (fun h => (fOf_ne L d).2 h ne), z, ← lk]
            exact look_none' fun h => by
              obtain ⟨g, hg, eg⟩ := List.mem_map.mp h
              have eg' : g.1 = d.2.1 := eg
              exact tn (eg' ▸ (inF g hg).2)
          · rw [if_neg z]
        · rw [decide_eq_false ne]
          have lt := (fOf_ne L d).1 ne
          have nx : d.2.1 ∉ M.map (·.1) := fun h => by
            obtain ⟨g, hg, eg⟩ := List.mem_map.mp h
            have eg' : g.1 = d.2.1 := eg
            exact tn (eg' ▸ (inF g hg).2)
          have nl : m.2.1 ∉ M.map (·.2.1) := fun h => by
            obtain ⟨g, hg, eg⟩ := List.mem_map.mp h
            have : g = m := inj_eq nF.inj (inF g hg).1 mm eg
            rw [this] at hg
            exact nx (me ▸ List.mem_map_of_mem hg)
          refine ⟨true, rfl, iteT ⟨.str d.2.1, rfl, .ref fa, rfl, .str d.2.1, rfl, fa, .ref m.2.1, rfl, gv, entK M, .inr d.2.1, rfl, nb.un, by rw [entK_len]; exact small1000 (by omega), same_at sm nD, M ++ [(d.2.1, m.2.1, fOf L d)], ?_, fun y => ?_, fun e he => ?_, ?_⟩⟩
          · rw [putK_ent (s := fOf L d), putE_new nx]
            exact nb.alias (nF.freshS m mm) sd nx nl (by omega)
          · rw [look_snocE (e := (d.2.1, m.2.1, fOf L d)) nx, step, lk y]
            by_cases z : y = d.2.1
            · rw [if_pos z, if_pos z, if_pos lt]
            · rw [if_neg z, if_neg z]
          · rcases List.mem_append.mp he with h | h
            · exact ⟨(inF e h).1, keys' e h⟩
            · rw [List.mem_singleton.mp h]
              refine ⟨?_, ?_⟩
              · have : (d.2.1, m.2.1, fOf L d) = m := by rw [← e2, ← me]
                rw [this]; exact mm
              · rw [List.take_add_one, hv, List.map_append]
                exact List.mem_append_right _ (List.mem_singleton.mpr rfl)
          · rw [List.length_append]
            show M.length + 1 ≤ i + 1
            omega
    · rintro H' ⟨sm, M, nb, lk, inF, lM⟩
      rw [List.length_map] at lk lM
      rw [List.take_length] at lk
      exact q H' D M (s1.trans sm) nb lk lM
end
end K2

set_option Elab.async false
set_option linter.all false
set_option maxRecDepth 100000
set_option maxHeartbeats 4000000
namespace K2
open PySem PySem.Spec PyProof.Rows L2 Cs
/-! ### forms of forms -/
def fV (v : List Int) : Option (List Int) → List Int
  | some s => both v s
  | none => v
theorem fV_sub (v : List Int) (o : Option (List Int)) : (fV v o).Sublist v := by
  cases o with
  | none => exact List.Sublist.refl _
  | some s => exact List.filter_sublist
theorem both_fV (v : List Int) (o : Option (List Int)) : both v (fV v o) = fV v o := by
  cases o with
  | none => exact List.filter_eq_self.mpr fun k hk => decide_eq_true hk
  | some s =>
    refine List.filter_congr fun k hk => ?_
    have := both_mem v s k
    by_cases h : k ∈ s
    · exact (decide_eq_true (this.2 ⟨hk, h⟩)).trans (decide_eq_true h).symm
    · exact (decide_eq_false fun z => h (this.1 z).2).trans (decide_eq_false h).symm
theorem fullE_fV (L E : List Ent) (x : Str) : fullE L E x = (look E x).map fun v => fV v (look L x) := by
  unfold fullE
  cases look E x with
  | none => rfl
  | some v => cases look L x <;> rfl
theorem trimE_fV (L E : List Ent) (x : Str) : trimE L E x = match look E x with | some v => if (fV v (look L x)).length < v.length then some (fV v (look L x)) else none | none => none := by
  unfold trimE
  rw [fullE_fV]
  cases look E x <;> rfl
theorem full_full {L E T : List Ent} (h : ∀ x, look T x = fullE L E x) (x : Str) : fullE T E x = fullE L E x := by
  rw [fullE_fV, fullE_fV, h, fullE_fV]
  cases look E x with
  | none => rfl
  | some v => exact congrArg some (both_fV v (look L x))
theorem full_trim {L E T : List Ent} (h : ∀ x, look T x = trimE L E x) (x : Str) : fullE T E x = fullE L E x := by
  rw [fullE_fV, fullE_fV, h, trimE_fV]
  cases look E x with
  | none => rfl
  | some v =>
    show some (fV v (if (fV v (look L x)).length < v.length then some (fV v (look L x)) else none)) = some (fV v (look L x))
    by_cases c : (fV v (look L x)).length < v.length
    · rw [if_pos c]
      exact congrArg some (both_fV v (look L x))
    · rw [if_neg c]
      have s := fV_sub v (look L x)
      have l := s.length_le
      exact congrArg some (s.eq_of_length (by omega)).symm
theorem trim_full {L E T : List Ent} (h : ∀ x, fullE T E x = fullE L E x) (x : Str) : trimE T E x = trimE L E x := by
  unfold trimE
  rw [h x]
theorem slim_trim {L E F : List Ent} (h : ∀ x, look F x = fullE L E x) (x : Str) : slimE F E x = trimE L E x := by
  unfold slimE trimE
  rw [h x] <;> rfl
theorem full_congr {L L' E E' : List Ent} (h1 : SameB L L') (h2 : SameB E E') (x : Str) : fullE L E x = fullE L' E' x := by rw [fullE_fV, fullE_fV, h1 x, h2 x]
theorem trim_congr {L L' E E' : List Ent} (h1 : SameB L L') (h2 : SameB E E') (x : Str) : trimE L E x = trimE L' E' x := by rw [trimE_fV, trimE_fV, h1 x, h2 x]
theorem full_ok {L E : List Ent} {n : Nat} (z : Sz E n) {x : Str} {s : List Int} (h : fullE L E x = some s) : Srt s ∧ s.length ≤ n := by
  rw [fullE_fV] at h
  obtain ⟨v, hv, rfl⟩ := Option.map_eq_some_iff.mp h
  have q := z.look hv
  have f := fV_sub v (look L x)
  exact ⟨q.1.sub f, Nat.le_trans f.length_le q.2⟩
theorem trim_ok {L E : List Ent} {n : Nat} (z : Sz E n) {x : Str} {s : List Int} (h : trimE L E x = some s) : Srt s ∧ s.length ≤ n := by
  rw [trimE_fV] at h
  cases c : look E x with
  | none => rw [c] at h; cases h
  | some v =>
    rw [c] at h
    have h : (if (fV v (look L x)).length < v.length then some (fV v (look L x)) else none) = some s := h
    split at h
    · obtain rfl := Option.some.inj h
      have q := z.look c
      have f := fV_sub v (look L x)
      exact ⟨q.1.sub f, Nat.le_trans f.length_le q.2⟩
    · cases h
/-! ### domains that say the same -/
abbrev saysD (ds : List DomE) : List (Str × List Int) := ds.map fun d => (d.2.1, d.2.2.2)
theorem says_same {gs ds : List DomE} (h : saysD gs = saysD ds) : SameB (entsD gs) (entsD ds) := look_shape (by
  have : ∀ l : List DomE, shape (entsD l) = saysD l := fun l => by unfold shape entsD saysD; rw [List.map_map]; rfl
  rw [this, this, h])
theorem says_keys {gs ds : List DomE} (h : saysD gs = saysD ds) : gs.map (·.2.1) = ds.map (·.2.1) := by
  have := congrArg (List.map Prod.fst) h
  unfold saysD at this
  rw [List.map_map, List.map_map] at this
  exact this
abbrev dDom (e : Str × List Int) : PyData := .tuple [.str e.1, dI e.2]
theorem dp_doms {K : PySem.W.Frag} {H : Hp} : ∀ ds : List DomE, (∀ d ∈ ds, H d.1 = some (.tup [V.str d.2.1, V.ref d.2.2.1])) → (∀ d ∈ ds, H d.2.2.1 = some (.lst (d.2.2.2.map V.int))) → DpAll K H (ds.map fun d => V.ref d.1) ((saysD ds).map dDom)
  | [], _, _ => .nil
  | d :: ds, h1, h2 => .cons (.tup (.inl (.inl (h1 d List.mem_cons_self))) (.cons (.str _) (.cons (dpI (sl_map (h2 d List.mem_cons_self))) .nil))) (dp_doms ds (fun e he => h1 e (List.mem_cons_of_mem _ he)) fun e he => h2 e (List.mem_cons_of_mem _ he))
theorem lay_doms : ∀ es : List (Str × List Int), (∀ e ∈ es, PyData.strOk e.1 = true) → PyData.canLayAll0 (es.map dDom) = true
  | [], _ => rfl
  | e :: es, k => by
    show (PyData.canLay0 (dDom e) && PyData.canLayAll0 (es.map dDom)) = true
    rw [lay_doms es fun g hg => k g (List.mem_cons_of_mem _ hg)]
    have : PyData.canLay0 (dDom e) = true := by
      have h := layI e.2
      have h0 := k e List.mem_cons_self
      simp [dDom, PyData.canLay0, PyData.canLayAll0] at h ⊢
      exact ⟨h0, h⟩
    rw [this]
    rfl
theorem deep_doms : ∀ es : List (Str × List Int), PyData.depthAll (es.map dDom) ≤ 4
  | [] => by simp [PyData.depthAll]
  | e :: es => by
    have h1 := deep_doms es
    have h2 := deepI e.2
    simp only [List.map_cons, PyData.depthAll, PyData.depth, dDom, List.map_nil] at *
    omega
theorem sh_doms (es : List (Str × List Int)) (k : ∀ e ∈ es, PyData.strOk e.1 = true) : SeqAt.shaped (.list (es.map dDom)) = true := by
  unfold SeqAt.shaped
  have h : (PyData.list (es.map dDom)).canLay0 = true := lay_doms es k
  rw [h]
  have := deep_doms es
  have h3 : (PyData.list (es.map dDom)).depth ≤ 5 := by
    simp only [PyData.depth]
    omega
  simp
  omega
theorem eqBk {K : PySem.W.Frag} {H : Hp} {d e : Addr} {M X : List Ent} (bd : Bu H d M) (be : Bu H e X) (s : SameB M X) : (entK M).length = (entK X).length ∧ ∀ p ∈ entK M, ∃ u, valV (entK X) p.1 = some u ∧ EqV K H 2 p.2 u := by
  refine ⟨by rw [entK_len, entK_len]; exact s.len bd.nd be.nd, fun p hp => ?_⟩
  obtain ⟨g, hg, rfl⟩ := List.mem_map.mp hp
  obtain ⟨t, tm, t1, t2, t3⟩ := SameB.get (fun x => (s x).symm) bd.nd hg
  have h1 := be.sides t tm
  rw [t2] at h1
  exact ⟨.ref t.2.1, by show valV (entK X) (Sum.inr g.1) = _; rw [valV_ent, t3]; rfl, eqL (bd.sides g hg) h1⟩
end K2

set_option Elab.async false
set_option linter.all false
set_option maxRecDepth 100000
set_option maxHeartbeats 8000000
namespace K2
open PySem PySem.Spec PyProof.Rows L2 Cs
theorem shape_mem {M L : List Ent} (h : shape M = shape L) {e : Ent} (he : e ∈ M) : ∃ g ∈ L, g.1 = e.1 ∧ g.2.2 = e.2.2 := by
  have : (e.1, e.2.2) ∈ shape L := h ▸ List.mem_map_of_mem (f := fun e : Ent => (e.1, e.2.2)) he
  obtain ⟨g, hg, eq⟩ := List.mem_map.mp this
  exact ⟨g, hg, (Prod.mk.inj eq).1, (Prod.mk.inj eq).2⟩
theorem says_mem {M L : List DomE} (h : saysD M = saysD L) {e : DomE} (he : e ∈ M) : ∃ g ∈ L, g.2.1 = e.2.1 ∧ g.2.2.2 = e.2.2.2 := by
  have : (e.2.1, e.2.2.2) ∈ saysD L := h ▸ List.mem_map_of_mem (f := fun e : DomE => (e.2.1, e.2.2.2)) he
  obtain ⟨g, hg, eq⟩ := List.mem_map.mp this
  exact ⟨g, hg, (Prod.mk.inj eq).1, (Prod.mk.inj eq).2⟩
/-- sides that are apart -/
def Dj (X Y : List Ent) : Prop := ∀ a ∈ X.map (·.2.1), a ∉ Y.map (·.2.1)
theorem dj_of {H0 : Hp} {X Y : List Ent} (h : ∀ a ∈ X.map (·.2.1), H0 a ≠ none) (f : ∀ e ∈ Y, H0 e.2.1 = none) : Dj X Y := fun a ha z => by
  obtain ⟨e, he, rfl⟩ := List.mem_map.mp z
  exact h _ ha (f e he)
theorem Dj.symm {X Y : List Ent} (d : Dj X Y) : Dj Y X := fun a ha z => d a z ha
/-- a dict, a list of addresses: no side -/
theorem no_side {H : Hp} {c : Addr} {o : HO} {M : List Ent} (h : H c = some o) (sd : ∀ e ∈ M, H e.2.1 = some (.lst (e.2.2.map V.int))) (ne : ∀ ns : List Int, o ≠ .lst (ns.map V.int)) : c ∉ M.map (·.2.1) := fun z => by
  obtain ⟨e, he, eq⟩ := List.mem_map.mp z
  have eq' : e.2.1 = c := eq
  have := sd e he
  rw [eq', h] at this
  exact ne _ (Option.some.inj this)
theorem ref_ne {a : Addr} {vs : List V} (ns : List Int) : HO.lst (V.ref a :: vs) ≠ .lst (ns.map V.int) := fun h => by
  have := HO.lst.inj h
  cases ns with
  | nil => cases this
  | cons n ns => cases (List.cons.inj this).1
theorem dk_ne {kvs : List (Key × V)} (ns : List Int) : HO.dK kvs ≠ .lst (ns.map V.int) := fun h => by cases h
theorem trim_keys {L E T : List Ent} (nd : (T.map (·.1)).Nodup) (h : ∀ x, look T x = trimE L E x) : ∀ e ∈ T, e.1 ∈ E.map (·.1) := fun e he => by
  have q := (h e.1).symm.trans (look_mem nd he)
  rw [trimE_fV] at q
  cases c : look E e.1 with
  | none => rw [c] at q; cases q
  | some v => obtain ⟨g, gm, g1, _⟩ := look_of c; exact g1 ▸ List.mem_map_of_mem gm
section
variable {P : Program} {w : World} {K : PySem.W.Frag} {mg : Str → Option Value} {base : Heap}
abbrev sFormed : Stmt := topS 48
abbrev nFormed : List Str := ["_law_sides", "_law_domains_here", "_law_full_here", "_law_slim_here", "_law_passed", "_law_given", "_law_turn", "_law_told", "_law_short", "_law_longer", "_law_shorter", "_law_k", "_law_domain"]
theorem scFormed : FnScope nFormed ["_law_sides", "_law_domains_here"] (defScope sFormed) := ⟨rfl, rfl, rfl, by decide +kernel, rfl, by decide +kernel, by decide +kernel⟩
def spFormed : Sp := fun vs H Q _ => ∃ (b dl : Addr) (L : List Ent) (ds : List DomE), vs = [.ref b, .ref dl] ∧ Bu H b L ∧ Doms H dl ds ∧ (ds.map (·.2.1)).Nodup ∧ ds.length ≤ 30 ∧ (∀ e ∈ L, e.1 ∈ ds.map (·.2.1)) ∧ (∀ d ∈ ds, Srt d.2.2.2 ∧ d.2.2.2.length ≤ 31) ∧ (∀ e ∈ L, e.2.2.length ≤ 31) ∧ (∀ d ∈ ds, PyData.strOk d.2.1 = true) ∧
  ∀ H', Same H H' → Q (.bl true) H'
theorem ok_formed {f fF fS fC fl ft fE fN : Addr} {fd fdF fdS fdC fdl fdt fdE fdN : FuncData} (F : Fun K "_law_formed" "_law_formed" sFormed f fd) (B : Bt mg) (Fu : Call P w K mg base 1 "_law_full" fF fdF ["_law_sides", "_law_domains_here"] spFull)
    (Sl : Call P w K mg base 1 "_law_slim" fS fdS ["_law_full_here", "_law_domains_here"] spSlim) (C : Call P w K mg base 1 "_law_copied" fC fdC ["_law_sides"] spCopy)
    (Fi : Call P w K mg base 2 "filled" fl fdl ["box", "domains"] spFilled) (Tr : Call P w K mg base 3 "trimmed" ft fdt ["box", "domains"] spTrim)
    (Sa : Call P w K mg base 3 "_law_same_sides" fE fdE ["_law_actual", "_law_expected"] spSame) (N : Call P w K mg base 1 "_law_new" fN fdN ["_law_told", "_law_expected"] spLNew) :
    FnOk P w K mg base CX0 4 f fd ["_law_sides", "_law_domains_here"] spFormed := by
  refine F.ok scFormed (fun vs H Q E h => ?_) (fun cdv A outer s H vs Q E hr h => ?_)
  · obtain ⟨b, dl, L, ds, rfl, _⟩ := h
    rfl
  · obtain ⟨b, dl, L, ds, rfl, bx, dm, nod, dlen, sub, dok, lsz, sok, q⟩ := h
    have hu := hu_of hr
    have hu64 : (A.deeper (envOfC "_law_formed" (defScope sFormed) s.heap.objs.size f cdv)).units + 64 < cLine := by have := hr.un; omega
    have hr1 : Room 1 (A.deeper (envOfC "_law_formed" (defScope sFormed) s.heap.objs.size f cdv)) := hr.mono (by decide)
    have hr2 : Room 2 (A.deeper (envOfC "_law_formed" (defScope sFormed) s.heap.objs.size f cdv)) := hr.mono (by decide)
    have nd := scFormed.nd
    refine ⟨_, pss_cons (ps_set (i := 2) nd rfl (.inl rfl) (pe_call Fu.ok hr1 (by rfl) Fu.at_ Fu.kp Fu.bd .nil pass0 (pa_cons (pv 0) (pa_cons (pv 1) pa_nil))))
      (pss_cons (ps_set (i := 3) nd rfl (.inl rfl) (pe_call Sl.ok hr1 (by rfl) Sl.at_ Sl.kp Sl.bd .nil pass0 (pa_cons (pv 2) (pa_cons (pv 1) pa_nil))))
      (pss_cons (ps_set (i := 4) nd rfl (.inl rfl) (pe_call C.ok hr1 (by rfl) C.at_ C.kp C.bd .nil pass0 (pa_cons (pv 0) pa_nil)))
      (pss_cons (ps_setLc (i := 5) (own := [("_law_domain", 12)]) (g := gName 12) (tt := tYes) (te := tTup (tCons (tOp (rIxT K) (tVar 12) (tC (V.int 0))) (tCons (tCB (rLst K) (tCons (tOp (rIxT K) (tVar 12) (tC (V.int 1))) tNil)) tNil))) rfl nd rfl rfl (by rfl) (pi_list (pv 1)) (blkOk_by (N := nFormed) (sc := defScope sFormed) (by decide +kernel)) (fun _ _ _ _ _ => pg_name (i := 12) nd rfl (Or.inl rfl)) (fun _ _ _ _ _ => pts_nil)
          (fun _ _ _ _ _ => pe_tup (pa_cons (pe_ix (r := rIxT K) ix_tup (pv 12) pe_int (fun _ _ => rfl)) (pa_cons (pe_callTy call_list_of (by rfl) B.list PyProof.Rows.boot_list (pa_cons (pe_ix (r := rIxT K) ix_tup (pv 12) pe_int (fun _ _ => rfl)) pa_nil)) pa_nil))))
      (pss_cons (ps_for PassesOwn.never rfl (pi_range1 (by rfl) B.range (pa_cons pe_int pa_nil)) (pg_name (i := 6) nd rfl (.inl rfl))
        (pss_cons (ps_set (i := 7) nd rfl (.inl rfl) (pe_call Fi.ok hr2 (by rfl) Fi.at_ Fi.kp Fi.bd .nil pass0 (pa_cons (pv 4) (pa_cons (pv 5) pa_nil))))
        (pss_cons (ps_set (i := 8) nd rfl (.inl rfl) (pe_call Tr.ok hr (by rfl) Tr.at_ Tr.kp Tr.bd .nil pass0 (pa_cons (pv 4) (pa_cons (pv 5) pa_nil))))
        (pss_cons (ps_if (PW.pt (pw_or (pt_not (pt_val (pe_call Sa.ok hr (by rfl) Sa.at_ Sa.kp Sa.bd .nil pass0 (pa_cons (pv 7) (pa_cons (pv 2) pa_nil))))) (pw_or1 (pt_not (pt_val (pe_call Sa.ok hr (by rfl) Sa.at_ Sa.kp Sa.bd .nil pass0 (pa_cons (pv 8) (pa_cons (pv 3) pa_nil)))))))) (pss_one (ps_ret pe_bl)) pss_nil)
        (pss_cons (ps_set (i := 9) nd rfl (.inl rfl) (pe_lst (pa_cons (pv 7) (pa_cons (pe_call Fi.ok hr2 (by rfl) Fi.at_ Fi.kp Fi.bd .nil pass0 (pa_cons (pv 8) (pa_cons (pv 5) pa_nil))) (pa_cons (pe_call Fi.ok hr2 (by rfl) Fi.at_ Fi.kp Fi.bd .nil pass0 (pa_cons (pv 7) (pa_cons (pv 5) pa_nil))) pa_nil)))))
        (pss_cons (ps_set (i := 10) nd rfl (.inl rfl) (pe_lst (pa_cons (pv 8) (pa_cons (pe_call Tr.ok hr (by rfl) Tr.at_ Tr.kp Tr.bd .nil pass0 (pa_cons (pv 7) (pa_cons (pv 5) pa_nil))) (pa_cons (pe_call Tr.ok hr (by rfl) Tr.at_ Tr.kp Tr.bd .nil pass0 (pa_cons (pv 8) (pa_cons (pv 5) pa_nil))) pa_nil)))))
        (pss_cons (ps_for PassesOwn.never rfl (pi_range1 (by rfl) B.range (pa_cons pe_int pa_nil)) (pg_name (i := 11) nd rfl (.inl rfl))
          (pss_one (ps_if (PW.pt (pw_or (pt_not (pt_val (pe_call Sa.ok hr (by rfl) Sa.at_ Sa.kp Sa.bd .nil pass0 (pa_cons (pe_ix ix_list (pv 9) (pv 11) (fun _ _ => rfl)) (pa_cons (pv 2) pa_nil))))) (pw_or1 (pt_not (pt_val (pe_call Sa.ok hr (by rfl) Sa.at_ Sa.kp Sa.bd .nil pass0 (pa_cons (pe_ix ix_list (pv 10) (pv 11) (fun _ _ => rfl)) (pa_cons (pv 3) pa_nil)))))))) (pss_one (ps_ret pe_bl)) pss_nil)))
        (pss_cons (ps_for PassesOwn.never rfl (pi_range1 (by rfl) B.range (pa_cons pe_int pa_nil)) (pg_name (i := 11) nd rfl (.inl rfl))
          (pss_one (ps_if (PW.pt (pw_or (pt_not (pt_val (pe_call N.ok hr1 (by rfl) N.at_ N.kp N.bd .nil pass0 (pa_cons (pe_ix ix_list (pv 9) (pv 11) (fun _ _ => rfl)) (pa_cons (pv 2) pa_nil))))) (pw_or1 (pt_not (pt_val (pe_call N.ok hr1 (by rfl) N.at_ N.kp N.bd .nil pass0 (pa_cons (pe_ix ix_list (pv 10) (pv 11) (fun _ _ => rfl)) (pa_cons (pv 3) pa_nil)))))))) (pss_one (ps_ret pe_bl)) pss_nil)))
        (pss_one (ps_if (PW.pt (pw_or (pt_cmpR (op_neDV hu64) (pv 4) (pv 0) rfl) (pw_or (pt_cmpR (op_neV hu64) (pe_callTy (call_listD rfl) (by rfl) B.list PyProof.Rows.boot_list (pa_cons (pv 4) pa_nil)) (pe_callTy (call_listD rfl) (by rfl) B.list PyProof.Rows.boot_list (pa_cons (pv 0) pa_nil)) rfl)
            (pw_or1 (pt_cmpR (op_neD hu64) (pv 5) (pv 1) rfl))))) (pss_one (ps_ret pe_bl)) pss_nil))))))))))
      (pss_one (ps_ret pe_bl)))))), ?_⟩
    -- full, slim, the copies
    refine ⟨.ref b, rfl, .ref dl, rfl, b, dl, L, ds, rfl, bx, dm, nod, dlen, (fun d hd => by have := (dok d hd).2; omega), (fun e he => by have := lsz e he; omega), fun H1 fa F s1 nF lkF ksF => ?_⟩
    have szE : Sz (entsD ds) 31 := ⟨fun e he => by obtain ⟨d, hd, rfl⟩ := List.mem_map.mp he; exact (dok d hd).1, fun e he => by obtain ⟨d, hd, rfl⟩ := List.mem_map.mp he; exact (dok d hd).2⟩
    have szF : Sz F 31 := sides_ok nF.nd _ lkF fun x s h => full_ok szE h
    refine ⟨.ref fa, rfl, .ref dl, rfl, fa, dl, F, ds, rfl, nF.toBu, dm.same s1, nod, dlen, (fun d hd => by have := (dok d hd).2; omega), (fun e he => by have := szF.len e he; omega), (fun d hd => by rw [ksF]; exact List.mem_map_of_mem hd), fun H2 sa S s2 nS lkS lnS => ?_⟩
    have lkS' : ∀ x, look S x = trimE L (entsD ds) x := fun x => (lkS x).trans (slim_trim lkF x)
    refine ⟨.ref b, rfl, b, L, rfl, (bx.same' s1).same' s2, fun H3 pa PL s3 nP shP => ?_⟩
    have s03 := (s1.trans s2).trans s3
    have dm3 := dm.same s03
    refine ⟨.ref dl, rfl, dl, rfl, ⟨_, sl_map dm3.lst⟩, fun D nD => lc_list (xs := ds.map fun d : DomE => V.ref d.1) (fun i H' => Same H3 H' ∧ ∃ gs : List DomE, Doms H' D gs ∧ saysD gs = saysD (ds.take i)) ⟨same_new nD, [], ⟨upd_same, (fun _ h => nomatch h), (fun _ h => nomatch h)⟩, rfl⟩ (fun i H' _ h => h.1.seq (sl_map dm3.lst)) ?_ ?_⟩
    · rintro i x H' hx ⟨sm, gs, dg, says⟩
      rw [List.getElem?_map] at hx
      obtain ⟨d, hv, rfl⟩ := Option.map_eq_some_iff.mp hx
      have dmem := List.mem_of_getElem? hv
      have hi := (List.getElem?_eq_some_iff.mp hv).1
      have dm' := dm3.same sm
      have tt : SqT K H' d.1 [V.str d.2.1, V.ref d.2.2.1] := .inl (.inl (dm'.tup d dmem))
      have lg : gs.length = i := by
        have := congrArg List.length says
        rw [List.length_map, List.length_map, List.length_take] at this
        omega
      refine ⟨rfl, .ref d.1, rfl, d.1, _, _, .str d.2.1, rfl, rfl, tt, atI_nat (j := 0) rfl, .ref d.1, rfl, d.1, _, _, .ref d.2.2.1, rfl, rfl, tt, atI_nat (j := 1) rfl, d.2.2.1, _, rfl, .inl (sl_map (dm'.side d dmem)), fun Z nZ => ⟨by show 2 ≤ sizeLine; decide, fun T nT => ?_⟩⟩
      have sZ := same_new (o := HO.lst (d.2.2.2.map V.int)) nZ
      have sT := same_new (o := HO.tup [V.str d.2.1, V.ref Z]) nT
      have dT := (dg.same sZ).same sT
      have nZD : Z ≠ D := fun z => by rw [z, dg.lst] at nZ; cases nZ
      refine ⟨_, dT.lst, ?_, same_at ((sm.trans sZ).trans sT) nD, gs ++ [(T, d.2.1, Z, d.2.2.2)], dT.snoc upd_same (sT _ _ upd_same) nZD, ?_⟩
      · rw [List.length_map]
        exact small1000 (by omega)
      · unfold saysD at says ⊢
        rw [List.map_append, says, List.take_add_one, hv, List.map_append]
        rfl
    · rintro H4 ⟨sm, gs, dg, says⟩
      rw [List.length_map, List.take_length] at says
      have s04 := s03.trans sm
      have dm4 := dm.same s04
      have bx4 := bx.same' s04
      have F4 : Bu H4 fa F := nF.toBu.same' ((s2.trans s3).trans sm)
      have S4 : Bu H4 sa S := nS.toBu.same' (s3.trans sm)
      have P4 : Bu H4 pa PL := nP.toBu.same' sm
      have sameP := look_shape shP
      have sameG := says_same says
      have keysG := says_keys says
      have nodG : (gs.map (·.2.1)).Nodup := by rw [keysG]; exact nod
      have lenG : gs.length ≤ 30 := by
        have := congrArg List.length says
        rw [List.length_map, List.length_map] at this
        omega
      have okG : ∀ d ∈ gs, Srt d.2.2.2 ∧ d.2.2.2.length ≤ 31 := fun d hd => by obtain ⟨g, gm, _, e2⟩ := says_mem says hd; exact e2 ▸ dok g gm
      have subP : ∀ e ∈ PL, e.1 ∈ gs.map (·.2.1) := fun e he => by obtain ⟨g, gm, e1, _⟩ := shape_mem shP he; rw [keysG, ← e1]; exact sub g gm
      have lszP : ∀ e ∈ PL, e.2.2.length ≤ 31 := fun e he => by obtain ⟨g, gm, _, e2⟩ := shape_mem shP he; exact e2 ▸ lsz g gm
      have nF2 : (F.map (·.1)).Nodup := F4.nd
      clear nF nS nP s1 s2 s3 s03 dm3 sm nD
      refine ⟨2, rfl, by decide, by decide, for_range (lo := 0) (n := (2 : Int).toNat) (fun i σ H' => ∃ (y6 y7 y8 y9 y10 y11 : Option V), σ = [some (.ref b), some (.ref dl), some (.ref fa), some (.ref sa), some (.ref pa), some (.ref D), y6, y7, y8, y9, y10, y11, none] ∧ Same H4 H')
        ⟨none, none, none, none, none, none, rfl, Same.refl _⟩ ?_ ?_⟩
      · rintro i σ H' hi ⟨y6, y7, y8, y9, y10, y11, rfl, sm⟩
        have szG : Sz (entsD gs) 31 := ⟨fun e he => by obtain ⟨d, hd, rfl⟩ := List.mem_map.mp he; exact (okG d hd).1, fun e he => by obtain ⟨d, hd, rfl⟩ := List.mem_map.mp he; exact (okG d hd).2⟩
        have fullP : ∀ x, fullE PL (entsD gs) x = fullE L (entsD ds) x := full_congr sameP sameG
        have trimP : ∀ x, trimE PL (entsD gs) x = trimE L (entsD ds) x := trim_congr sameP sameG
        have lenT : ∀ {T : List Ent}, T.map (·.1) = gs.map (·.2.1) → T.length ≤ 30 := fun {T} h => by
          have := congrArg List.length h
          rw [List.length_map, List.length_map] at this
          omega
        -- told, short
        refine ⟨.ref pa, rfl, .ref D, rfl, pa, D, PL, gs, rfl, P4.same' sm, dg.same sm, nodG, lenG, subP, okG, lszP, fun H5 t0 T0 s5 n0 lk0 ks0 => ?_⟩
        have m5 := sm.trans s5
        refine ⟨.ref pa, rfl, .ref D, rfl, pa, D, PL, gs, rfl, P4.same' m5, dg.same m5, nodG, lenG, subP, okG, lszP, fun H6 r0 R0 s6 k0 lr0 lnr0 => ?_⟩
        have m6 := m5.trans s6
        have szT0 : Sz T0 31 := sides_ok n0.nd _ lk0 fun x s h => full_ok szG h
        have szR0 : Sz R0 31 := sides_ok k0.nd _ lr0 fun x s h => trim_ok szG h
        have sameT0 : SameB T0 F := fun x => (lk0 x).trans ((fullP x).trans (lkF x).symm)
        have sameR0 : SameB R0 S := fun x => (lr0 x).trans ((trimP x).trans (lkS' x).symm)
        refine ⟨.ref t0, rfl, .ref fa, rfl, t0, fa, T0, F, rfl, n0.toBu.same' s6, F4.same' m6, sameT0, (fun g hg => ⟨szT0.srt g hg, by have := szT0.len g hg; omega⟩), fun H7 s7 => ⟨true, rfl, iteF ?_⟩⟩
        have m7 := m6.trans s7
        refine ⟨.ref r0, rfl, .ref sa, rfl, r0, sa, R0, S, rfl, k0.toBu.same' s7, S4.same' m7, sameR0, (fun g hg => ⟨szR0.srt g hg, by have := szR0.len g hg; omega⟩), fun H8 s8 => ⟨true, rfl, iteF ?_⟩⟩
        have m8 := m7.trans s8
        -- the longer ones
        have subT0 : ∀ e ∈ T0, e.1 ∈ gs.map (·.2.1) := fun e he => ks0 ▸ List.mem_map_of_mem he
        have subR0 : ∀ e ∈ R0, e.1 ∈ gs.map (·.2.1) := fun e he => by rw [← entsD_keys]; exact trim_keys k0.nd lr0 e he
        have u68 := s7.trans s8
        have u58 := s6.trans u68
        refine ⟨.ref t0, rfl, .ref r0, rfl, .ref D, rfl, r0, D, R0, gs, rfl, k0.toBu.same' u68, dg.same m8, nodG, lenG, subR0, okG, szR0.len, fun H9 t1 T1 s9 n1 lk1 ks1 => ?_⟩
        have m9 := m8.trans s9
        refine ⟨.ref t0, rfl, .ref D, rfl, t0, D, T0, gs, rfl, n0.toBu.same' (u58.trans s9), dg.same m9, nodG, lenG, subT0, okG, szT0.len, fun H10 t2 T2 s10 n2 lk2 ks2 => ⟨by show 3 ≤ sizeLine; decide, fun la nla => ?_⟩⟩
        have m10 := m9.trans s10
        have s11 := same_new (o := HO.lst [V.ref t0, V.ref t1, V.ref t2]) nla
        have m11 := m10.trans s11
        have u11 := s9.trans (s10.trans s11)
        have ela := upd_same (H := H10) (a := la) (o := HO.lst [V.ref t0, V.ref t1, V.ref t2])
        have N0 : Nb H' _ t0 T0 := n0.push (u58.trans u11)
        have N1 : Nb H8 _ t1 T1 := n1.push (s10.trans s11)
        have N2 : Nb H9 _ t2 T2 := n2.push s11
        have M0 : Nb H5 _ r0 R0 := k0.push (u68.trans u11)
        generalize upd H10 la (HO.lst [V.ref t0, V.ref t1, V.ref t2]) = H11 at m11 u11 ela N0 N1 N2 M0 s11 ⊢
        refine ⟨.ref r0, rfl, .ref t0, rfl, .ref D, rfl, t0, D, T0, gs, rfl, N0.toBu, dg.same m11, nodG, lenG, subT0, okG, szT0.len, fun H12 r1 R1 s12 k1 lr1 lnr1 => ?_⟩
        have m12 := m11.trans s12
        refine ⟨.ref r0, rfl, .ref D, rfl, r0, D, R0, gs, rfl, M0.toBu.same' s12, dg.same m12, nodG, lenG, subR0, okG, szR0.len, fun H13 r2 R2 s13 k2 lr2 lnr2 => ⟨by show 3 ≤ sizeLine; decide, fun lb nlb => ?_⟩⟩
        have m13 := m12.trans s13
        have s14 := same_new (o := HO.lst [V.ref r0, V.ref r1, V.ref r2]) nlb
        have m14 := m13.trans s14
        have v14 := s12.trans (s13.trans s14)
        have elb := upd_same (H := H13) (a := lb) (o := HO.lst [V.ref r0, V.ref r1, V.ref r2])
        have N0 := N0.push v14
        have N1 := N1.push v14
        have N2 := N2.push v14
        have M0 := M0.push v14
        have M1 : Nb H11 _ r1 R1 := k1.push (s13.trans s14)
        have M2 : Nb H12 _ r2 R2 := k2.push s14
        have ela := v14 _ _ ela
        generalize upd H13 lb (HO.lst [V.ref r0, V.ref r1, V.ref r2]) = G at m14 elb N0 N1 N2 M0 M1 M2 ela v14 s14 ⊢
        have sameT1 : SameB T1 F := fun x => (lk1 x).trans ((full_trim lr0 x).trans ((fullP x).trans (lkF x).symm))
        have sameT2 : SameB T2 F := fun x => (lk2 x).trans ((full_full lk0 x).trans ((fullP x).trans (lkF x).symm))
        have sameR1 : SameB R1 S := fun x => (lr1 x).trans ((trim_full (full_full lk0) x).trans ((trimP x).trans (lkS' x).symm))
        have sameR2 : SameB R2 S := fun x => (lr2 x).trans ((trim_full (full_trim lr0) x).trans ((trimP x).trans (lkS' x).symm))
        have szT1 : Sz T1 31 := sides_ok N1.nd _ lk1 fun x s h => full_ok szG h
        have szT2 : Sz T2 31 := sides_ok N2.nd _ lk2 fun x s h => full_ok szG h
        have szR1 : Sz R1 31 := sides_ok M1.nd _ lr1 fun x s h => trim_ok szG h
        have szR2 : Sz R2 31 := sides_ok M2.nd _ lr2 fun x s h => trim_ok szG h
        -- the forms of forms are the forms
        have pick : ∀ k : Nat, k < 3 → ∃ (t r : Addr) (T R : List Ent), [V.ref t0, V.ref t1, V.ref t2][k]? = some (.ref t) ∧ [V.ref r0, V.ref r1, V.ref r2][k]? = some (.ref r) ∧ Bu G t T ∧ Bu G r R ∧ SameB T F ∧ SameB R S ∧ Sz T 31 ∧ Sz R 31 := fun k hk =>
          match k, hk with
          | 0, _ => ⟨t0, r0, T0, R0, rfl, rfl, N0.toBu, M0.toBu, sameT0, sameR0, szT0, szR0⟩
          | 1, _ => ⟨t1, r1, T1, R1, rfl, rfl, N1.toBu, M1.toBu, sameT1, sameR1, szT1, szR1⟩
          | 2, _ => ⟨t2, r2, T2, R2, rfl, rfl, N2.toBu, M2.toBu, sameT2, sameR2, szT2, szR2⟩
        refine ⟨3, rfl, by decide, by decide, for_range (lo := 0) (n := (3 : Int).toNat) (fun k σ H2 => ∃ (z6 z11 : Option V), σ = [some (.ref b), some (.ref dl), some (.ref fa), some (.ref sa), some (.ref pa), some (.ref D), z6, some (.ref t0), some (.ref r0), some (.ref la), some (.ref lb), z11, none] ∧ Same G H2)
          ⟨_, _, rfl, Same.refl _⟩ ?_ ?_⟩
        · rintro k σ H2 hk ⟨z6, z11, rfl, sG⟩
          obtain ⟨t, r, T, R, g1, g2, bt, br, st, sr, zt, zr⟩ := pick k hk
          have mG := m14.trans sG
          refine ⟨.ref la, rfl, _, rfl, la, _, _, .ref t, rfl, rfl, sl_map (sG _ _ ela), at_of (j := k) (by omega) g1, .ref fa, rfl, t, fa, T, F, rfl, bt.same' sG, F4.same' mG, st, (fun g hg => ⟨zt.srt g hg, by have := zt.len g hg; omega⟩), fun H3 s3 => ⟨true, rfl, iteF ?_⟩⟩
          have mG3 := mG.trans s3
          exact ⟨.ref lb, rfl, _, rfl, lb, _, _, .ref r, rfl, rfl, sl_map (s3 _ _ (sG _ _ elb)), at_of (j := k) (by omega) g2, .ref sa, rfl, r, sa, R, S, rfl, (br.same' sG).same' s3, S4.same' mG3, sr, (fun g hg => ⟨zr.srt g hg, by have := zr.len g hg; omega⟩), fun H4' s4 => ⟨true, rfl, iteF ⟨_, _, rfl, (sG.trans s3).trans s4⟩⟩⟩
        · rintro σ G2 ⟨z6, z11, rfl, sG⟩
          have mG := m14.trans sG
          have B0 := N0.toBu.same' sG
          have B1 := N1.toBu.same' sG
          have B2 := N2.toBu.same' sG
          have C0 := M0.toBu.same' sG
          have C1 := M1.toBu.same' sG
          have C2 := M2.toBu.same' sG
          have ela := sG _ _ ela
          have elb := sG _ _ elb
          have b0 := side_some (n0.toBu.same' u58).sides
          have b1 := side_some (k0.toBu.same' u68).sides
          have c0 := side_some (n0.toBu.same' (u58.trans s9)).sides
          have c1 := side_some (k0.toBu.same' (u68.trans s9)).sides
          have c2 := side_some n1.sides
          have d0 := side_some (n0.toBu.same' (u58.trans u11)).sides
          have d1 := side_some (k0.toBu.same' (u68.trans u11)).sides
          have d2 := side_some (n1.toBu.same' (s10.trans s11)).sides
          have d3 := side_some (n2.toBu.same' s11).sides
          have f0 := side_some (n0.toBu.same' ((u58.trans u11).trans s12)).sides
          have f1 := side_some (k0.toBu.same' ((u68.trans u11).trans s12)).sides
          have f2 := side_some (n1.toBu.same' ((s10.trans s11).trans s12)).sides
          have f3 := side_some (n2.toBu.same' (s11.trans s12)).sides
          have f4 := side_some k1.sides
          have j01 : Dj T0 R0 := dj_of (side_some n0.sides) k0.freshS
          have j02 : Dj T0 T1 := dj_of b0 n1.freshS
          have j12 : Dj R0 T1 := dj_of b1 n1.freshS
          have j03 : Dj T0 T2 := dj_of c0 n2.freshS
          have j13 : Dj R0 T2 := dj_of c1 n2.freshS
          have j23 : Dj T1 T2 := dj_of c2 n2.freshS
          have j04 : Dj T0 R1 := dj_of d0 k1.freshS
          have j14 : Dj R0 R1 := dj_of d1 k1.freshS
          have j24 : Dj T1 R1 := dj_of d2 k1.freshS
          have j34 : Dj T2 R1 := dj_of d3 k1.freshS
          have j05 : Dj T0 R2 := dj_of f0 k2.freshS
          have j15 : Dj R0 R2 := dj_of f1 k2.freshS
          have j25 : Dj T1 R2 := dj_of f2 k2.freshS
          have j35 : Dj T2 R2 := dj_of f3 k2.freshS
          have j45 : Dj R1 R2 := dj_of f4 k2.freshS
          have h05 : Same H' H5 := s5
          have h08 : Same H' H8 := h05.trans u58
          have h09 : Same H' H9 := h08.trans s9
          have h11 : Same H' H11 := h08.trans u11
          have h12 : Same H' H12 := h11.trans s12
          have fr : ∀ {X : List Ent} {H0 : Hp}, Same H' H0 → (∀ e ∈ X, H0 e.2.1 = none) → ∀ a ∈ X.map (·.2.1), H' a = none := fun {X H0} s f a ha => by
            obtain ⟨e, he, rfl⟩ := List.mem_map.mp ha
            exact s.free (f e he)
          let rem : List (Addr × List Ent) := [(t0, T0), (r0, R0), (t1, T1), (r1, R1), (t2, T2), (r2, R2)]
          have pw : rem.Pairwise fun p q => Dj p.2 q.2 := by
            refine .cons (fun q hq => ?_) (.cons (fun q hq => ?_) (.cons (fun q hq => ?_) (.cons (fun q hq => ?_) (.cons (fun q hq => ?_) (.cons (fun q hq => nomatch hq) .nil)))))
            · simp only [List.mem_cons, List.not_mem_nil, or_false] at hq
              rcases hq with rfl | rfl | rfl | rfl | rfl
              · exact j01
              · exact j02
              · exact j04
              · exact j03
              · exact j05
            · simp only [List.mem_cons, List.not_mem_nil, or_false] at hq
              rcases hq with rfl | rfl | rfl | rfl
              · exact j12
              · exact j14
              · exact j13
              · exact j15
            · simp only [List.mem_cons, List.not_mem_nil, or_false] at hq
              rcases hq with rfl | rfl | rfl
              · exact j24
              · exact j23
              · exact j25
            · simp only [List.mem_cons, List.not_mem_nil, or_false] at hq
              rcases hq with rfl | rfl
              · exact j34.symm
              · exact j45
            · simp only [List.mem_cons, List.not_mem_nil, or_false] at hq
              rcases hq with rfl
              exact j35
          have FH := F4.same' sm
          have SH := S4.same' sm
          have pick2 : ∀ k : Nat, k < 3 → ∃ (t r : Addr) (T R : List Ent), [V.ref t0, V.ref t1, V.ref t2][k]? = some (.ref t) ∧ [V.ref r0, V.ref r1, V.ref r2][k]? = some (.ref r) ∧ rem.drop (2 * k) = (t, T) :: (r, R) :: rem.drop (2 * (k + 1)) ∧ SameB T F ∧ SameB R S ∧ (T.map (·.2.1)).Nodup ∧ (R.map (·.2.1)).Nodup ∧
              (∀ a ∈ T.map (·.2.1), H' a = none) ∧ (∀ a ∈ R.map (·.2.1), H' a = none) ∧ H' t = none ∧ H' r = none := fun k hk =>
            match k, hk with
            | 0, _ => ⟨t0, r0, T0, R0, rfl, rfl, rfl, sameT0, sameR0, N0.inj, M0.inj, fr (Same.refl _) N0.freshS, fr h05 M0.freshS, N0.fresh, h05.free M0.fresh⟩
            | 1, _ => ⟨t1, r1, T1, R1, rfl, rfl, rfl, sameT1, sameR1, N1.inj, M1.inj, fr h08 N1.freshS, fr h11 M1.freshS, h08.free N1.fresh, h11.free M1.fresh⟩
            | 2, _ => ⟨t2, r2, T2, R2, rfl, rfl, rfl, sameT2, sameR2, N2.inj, M2.inj, fr h09 N2.freshS, fr h12 M2.freshS, h09.free N2.fresh, h12.free M2.fresh⟩
          have all0 : ∀ p ∈ rem.drop (2 * 0), Bu G2 p.1 p.2 := fun p hp => by
            have hp : p ∈ [(t0, T0), (r0, R0), (t1, T1), (r1, R1), (t2, T2), (r2, R2)] := hp
            simp only [List.mem_cons, List.not_mem_nil, or_false] at hp
            rcases hp with rfl | rfl | rfl | rfl | rfl | rfl
            · exact B0
            · exact C0
            · exact B1
            · exact C1
            · exact B2
            · exact C2
          have hG2 : Same H' G2 := by
            exact h11.trans (v14.trans sG)
          clear_value rem
          refine ⟨3, rfl, by decide, by decide, for_range (lo := 0) (n := (3 : Int).toNat) (fun k σ H2 => ∃ (z6 z11 : Option V), σ = [some (.ref b), some (.ref dl), some (.ref fa), some (.ref sa), some (.ref pa), some (.ref D), z6, some (.ref t0), some (.ref r0), some (.ref la), some (.ref lb), z11, none] ∧ Same H' H2 ∧ H2 la = some (.lst [V.ref t0, V.ref t1, V.ref t2]) ∧ H2 lb = some (.lst [V.ref r0, V.ref r1, V.ref r2]) ∧ ∀ p ∈ rem.drop (2 * k), Bu H2 p.1 p.2)
            ⟨_, _, rfl, hG2, ela, elb, all0⟩ ?_ ?_⟩
          · rintro k σ X2 hk ⟨z6, z11, rfl, sX, xa, xb, bs⟩
            obtain ⟨t, r, T, R, g1, g2, dr, st, sr, it, ir, ft, frr, nt, nr⟩ := pick2 k hk
            rw [dr] at bs
            have pwk := List.Pairwise.sublist (List.drop_sublist (2 * k) rem) pw
            rw [dr] at pwk
            obtain ⟨p1, p2⟩ := List.pairwise_cons.mp pwk
            obtain ⟨p3, p4⟩ := List.pairwise_cons.mp p2
            have bt := bs _ List.mem_cons_self
            have br := bs _ (List.mem_cons_of_mem _ List.mem_cons_self)
            refine ⟨.ref la, rfl, _, rfl, la, _, _, .ref t, rfl, rfl, sl_map xa, at_of (j := k) (by omega) g1, .ref fa, rfl, t, fa, T, F, rfl, bt, it, FH.same' sX, st, (fun x hx z => by have := FH.sides x hx; rw [ft _ z] at this; cases this), (fun z => by have := FH.un; rw [← z, nt] at this; cases this), (fun x hx => by have := szF.len x hx; omega), fun X3 k3 => ⟨true, rfl, iteF ?_⟩⟩
            have sX3 : Same H' X3 := keepL_same sX k3 ft
            have xb3 := k3 _ _ (no_side xb bt.sides fun ns => ref_ne ns) xb
            have xa3 := k3 _ _ (no_side xa bt.sides fun ns => ref_ne ns) xa
            have br3 := br.keepL k3 (no_side br.un bt.sides fun ns => dk_ne ns) (fun e he => (p1 _ List.mem_cons_self).symm _ (List.mem_map_of_mem he))
            have rest3 : ∀ p ∈ rem.drop (2 * (k + 1)), Bu X3 p.1 p.2 := fun p hp => by
              have bp := bs p (List.mem_cons_of_mem _ (List.mem_cons_of_mem _ hp))
              exact bp.keepL k3 (no_side bp.un bt.sides fun ns => dk_ne ns) (fun e he => (p1 _ (List.mem_cons_of_mem _ hp)).symm _ (List.mem_map_of_mem he))
            refine ⟨.ref lb, rfl, _, rfl, lb, _, _, .ref r, rfl, rfl, sl_map xb3, at_of (j := k) (by omega) g2, .ref sa, rfl, r, sa, R, S, rfl, br3, ir, SH.same' sX3, sr, (fun x hx z => by have := SH.sides x hx; rw [frr _ z] at this; cases this), (fun z => by have := SH.un; rw [← z, nr] at this; cases this), (fun x hx => ?_), fun X4 k4 => ⟨true, rfl, iteF ⟨_, _, rfl, keepL_same sX3 k4 frr, k4 _ _ (no_side xa3 br3.sides fun ns => ref_ne ns) xa3, k4 _ _ (no_side xb3 br3.sides fun ns => ref_ne ns) xb3, fun p hp => ?_⟩⟩⟩
            · have := trim_ok (x := x.1) (L := L) szE ((lkS' x.1).symm.trans (look_mem SH.nd hx))
              omega
            · have bp := rest3 p hp
              exact bp.keepL k4 (no_side bp.un br3.sides fun ns => dk_ne ns) (fun e he => (p3 _ hp).symm _ (List.mem_map_of_mem he))
          · rintro σ X2 ⟨z6, z11, rfl, sX, xa, xb, bs⟩
            have mX := sm.trans sX
            have bp := P4.same' mX
            have bL := bx4.same' mX
            obtain ⟨len, hp⟩ := eqBk (K := K) bp bL sameP
            refine ⟨.ref pa, rfl, .ref b, rfl, pa, b, _, _, rfl, rfl, bp.un, bL.un, len, ⟨2, by decide, hp⟩, false, rfl, iteF ?_⟩
            have keysV : ((entK PL).map fun kv => kV kv.1) = ((entK L).map fun kv => kV kv.1) := by
              have := congrArg (List.map V.str) (shape_keys shP)
              unfold entK
              rw [List.map_map, List.map_map]
              rw [List.map_map, List.map_map] at this
              exact this
            have flats : ∀ x ∈ ((entK PL).map fun kv => kV kv.1), flatB x = true := fun x hx => by
              unfold entK at hx
              rw [List.map_map] at hx
              obtain ⟨g, _, rfl⟩ := List.mem_map.mp hx
              rfl
            refine ⟨.ref pa, rfl, pa, _, rfl, .inl bp.un, fun k1 nk1 => ?_⟩
            have t1 := same_new (o := HO.lst ((entK PL).map fun kv => kV kv.1)) nk1
            refine ⟨.ref b, rfl, b, _, rfl, .inl (t1 _ _ bL.un), fun k2 nk2 => ?_⟩
            have n12 : k1 ≠ k2 := fun z => by rw [← z, upd_same] at nk2; cases nk2
            have t2 := t1.trans (same_new (o := HO.lst ((entK L).map fun kv => kV kv.1)) nk2)
            refine ⟨k1, k2, _, _, rfl, rfl, sl_map (by rw [upd_ne n12]; exact upd_same), sl_map (by rw [upd_same, keysV]), ⟨1, by decide, paired_flat _ flats⟩, false, rfl, iteF ?_⟩
            have mY := mX.trans t2
            have dX := dg.same mY
            have eX := dm4.same mY
            have kk : ∀ e ∈ saysD ds, PyData.strOk e.1 = true := fun e he => by obtain ⟨d, hd, rfl⟩ := List.mem_map.mp he; exact sok d hd
            have p1 := Dp.lst (K := K) (sl_map dX.lst) (dp_doms gs dX.tup dX.side)
            rw [says] at p1
            refine ⟨.ref D, rfl, .ref dl, rfl, _, _, p1, Dp.lst (sl_map eX.lst) (dp_doms ds eX.tup eX.side), sh_doms _ kk, sh_doms _ kk, ?_⟩
            have ee : PyData.eqv (.list ((saysD ds).map dDom)) (.list ((saysD ds).map dDom)) = true := SeqAt.eqv_refl _ (lay_doms _ kk)
            rw [ee]
            exact ⟨false, rfl, iteF ⟨_, _, _, _, _, _, rfl, mY⟩⟩
      · rintro σ H' ⟨y6, y7, y8, y9, y10, y11, rfl, sm⟩
        exact q _ (s04.trans sm)
end
end K2

set_option Elab.async false
set_option linter.all false
set_option maxRecDepth 100000
set_option maxHeartbeats 4000000
namespace K2
open PySem PySem.Spec PyProof.Rows L2 Cs CsX
def initOf : Stmt → Stmt
  | .ClassDef (body := b) .. => b.getD 0 (.Pass ⟨0, 0, 0, 0⟩)
  | s => s
/-- a def that may raise -/
structure CallX (P : Program) (w : World) (K : PySem.W.Frag) (mg : Str → Option Value) (base : Heap) (k : Nat) (x : Str) (f : Addr) (fd : FuncData) (ps : List Str) (sp : Sp) : Prop where
  ok : FnOk P w K mg base (L2.CX P w) k f fd ps sp
  at_ : mg x = some (.ref f)
  kp : PySem.W.keepIn K (.ref f) = true
  bd : Binds K fd ps []
/-- an __init__ -/
structure CallI (P : Program) (w : World) (K : PySem.W.Frag) (mg : Str → Option Value) (base : Heap) (f : Addr) (fd : FuncData) (ps : List Str) (sp : Sp) : Prop where
  ok : FnOk P w K mg base CX0 1 f fd ps sp
  bd : Binds K fd ps []
section
variable {P : Program} {w : World} {K : PySem.W.Frag} {mg : Str → Option Value} {base : Heap}
abbrev sUnk : Stmt := initOf (topS 2)
abbrev nUnk : List Str := ["self", "name"]
theorem scUnk : FnScope nUnk ["self", "name"] (defScope sUnk) := ⟨rfl, rfl, rfl, by decide +kernel, rfl, by decide +kernel, by decide +kernel⟩
theorem ok_unk {f C : Addr} {fd : FuncData} (F : Fun K "__init__" "UnknownName.__init__" sUnk f fd) (U : Own K mg "UnknownName" C f ["name"]) : FnOk P w K mg base CX0 1 f fd ["self", "name"] (spIni C "name") := by
  refine F.ok scUnk (fun vs H Q E h => ?_) (fun cdv A outer s H vs Q E hr h => ?_)
  · obtain ⟨a, v, rfl, _⟩ := h
    rfl
  · obtain ⟨a, v, rfl, e, q⟩ := h
    refine ⟨_, pss_one (ps_ost (pv 0) (pv 1)), ?_⟩
    exact ⟨v, rfl, .ref a, rfl, a, C, rfl, U.oex, U.no _ (by simp), .inl ⟨e, fun dx n ne => q dx n ne⟩⟩
/-- the first of the names of L that the domains do not have stands at place i -/
def Stranger (L : List Ent) (ds : List DomE) (i : Nat) (u : Str) : Prop := ∃ e, L[i]? = some e ∧ e.1 = u ∧ u ∉ ds.map (·.2.1) ∧ ∀ g ∈ L.take i, g.1 ∈ ds.map (·.2.1)
def spCheckX (C : Addr) : Sp := fun vs H _ E => ∃ (b dl : Addr) (L : List Ent) (ds : List DomE) (i0 : Nat) (u : Str), vs = [.ref b, .ref dl] ∧ Bu H b L ∧ Doms H dl ds ∧ ds.length ≤ 30 ∧ Stranger L ds i0 u ∧
  ∀ d H', Same H H' → H' d = some (.xd [("name", .str u)]) → E (.ref C) (some d) H'
theorem ok_checkX {f C fI : Addr} {fd fdI : FuncData} (F : Fun K "_check_names" "_check_names" sCheck f fd) (B : Bt mg) (U : Own K mg "UnknownName" C fI ["name"]) (I : CallI P w K mg base fI fdI ["self", "name"] (spIni C "name")) :
    FnOk P w K mg base (L2.CX P w) 3 f fd ["box", "domains"] (spCheckX C) := by
  refine F.okX scCheck (fun vs H Q E h => ?_) (fun cdv A outer s H vs Q E hr h => ?_)
  · obtain ⟨b, dl, L, ds, i0, u, rfl, _⟩ := h
    rfl
  · obtain ⟨b, dl, L, ds, i0, u, rfl, bx, dm, dlen, ⟨e0, he0, rfl, out, bef⟩, q⟩ := h
    have hu := hu_of hr
    have nd := scCheck.nd
    have hn : ∀ o' u', H b ≠ some (.frz o' u') := fun o' u' z => by rw [bx.un] at z; cases z
    refine ⟨_, pss_cons (ps_setScK (i := 3) (own := [("name", 2), ("_", 4)]) (g := gTup K 2 (gCons (gName 2) (gCons (gName 4) gNil))) (tt := tYes) (te := tVar 2) rfl nd rfl rfl (by rfl) (pi_list (pv 1)) (blkOk_by (N := nCheck) (sc := defScope sCheck) (by decide +kernel))
        (fun _ _ _ _ _ => pg_tup rfl (pgs_cons (pg_name (i := 2) nd rfl (Or.inl rfl)) (pgs_cons (pg_name (i := 4) nd rfl (Or.inl rfl)) pgs_nil))) (fun _ _ _ _ _ => pts_nil) (fun _ _ _ _ _ => pv 2))
      (pss_one (ps_lock (ps_for (passes_of rfl) rfl (pi_keys (pv 0)) (pg_name (i := 2) nd rfl (.inl rfl)) (pss_one (ps_if (pt_cmpR or_snotinK (pv 2) (pv 3) rfl)
        (pss_one (ps_raise rfl (Takes.lock (d := b) (takes_of rfl rfl rfl rfl) hn) (pmk_oex U.oex U.iC U.tI I.ok hr I.bd .nil pass0 (by rfl) U.gC (pa_cons (pv 2) pa_nil)))) pss_nil))))), ?_⟩
    refine ⟨.ref dl, rfl, dl, rfl, ⟨_, sl_map dm.lst⟩, fun D nD => scK_it walk_list (fun i H' => Same H H' ∧ ∃ (S : Key → Bool) (n : Nat), H' D = some (SetK P w D S n) ∧ n ≤ i ∧ ∀ x : Str, S (.inr x) = true ↔ x ∈ (ds.take i).map (·.2.1))
      ⟨same_new nD, noK, 0, upd_same, Nat.le_refl _, fun x => by rw [List.take_zero]; simp [noK]⟩ (fun i H' _ h => sl_map (h.1 _ _ dm.lst)) ?_ ?_⟩
    · rintro i x Hz H' hi ⟨sm, S, n, eD, hn, hS⟩ ⟨rfl, hx⟩
      rw [List.getElem?_map] at hx
      obtain ⟨d, hv, rfl⟩ := Option.map_eq_some_iff.mp hx
      have dmem := List.mem_of_getElem? hv
      have hi := (List.getElem?_eq_some_iff.mp hv).1
      have tt : SqT K H' d.1 [V.str d.2.1, V.ref d.2.2.1] := .inl (.inl (sm _ _ (dm.tup d dmem)))
      refine ⟨d.1, _, rfl, tt, rfl, _, _, rfl, _, [], rfl, rfl, rfl, ?_⟩
      refine ⟨.str d.2.1, rfl, .inr d.2.1, S, n, rfl, eD, by show n + 1 < 4096; omega, same_at sm nD, _, _, upd_same, ?_, fun x => ?_⟩
      · split <;> omega
      · rw [List.take_add_one, hv, List.map_append]
        show (S (.inr x) || decide ((Sum.inr x : Key) = Sum.inr d.2.1)) = true ↔ _
        rw [Bool.or_eq_true, hS x, decide_eq_true_eq, List.mem_append]
        simp
    · rintro H' ⟨sm, S, n, eD, hn', hS⟩
      rw [List.length_map, List.take_length] at hS
      refine ⟨b, _, sm _ _ bx.un, trivial, fun od => ?_⟩
      have nDb : D ≠ b := fun z => by rw [z, bx.un] at nD; cases nD
      refine ⟨.ref b, rfl, b, od, rfl, .inl ⟨entK L, upd_same, for_it walk_keys (fun i σ H2 => H2 = upd H' b (.frz od (.dK (entK L))) ∧ i ≤ i0 ∧ ∃ y y4, σ = [some (.ref b), some (.ref dl), y, some (.ref D), y4]) ⟨rfl, Nat.zero_le _, _, _, rfl⟩ (fun i σ H2 _ h => by rw [h.1]; exact upd_same) ?_ ?_⟩⟩
      · rintro i x σ Hz H2 hi ⟨rfl, hi0, y, y4, rfl⟩ ⟨rfl, k1, v1, hk, rfl⟩
        obtain ⟨e, he, rfl, rfl⟩ := keys_at hk
        have em := List.mem_of_getElem? he
        refine ⟨.str e.1, rfl, .ref D, rfl, .inr e.1, D, S, n, rfl, rfl, by rw [upd_ne nDb]; exact eD, ?_⟩
        by_cases c : i = i0
        · subst c
          rw [he] at he0
          obtain rfl : e = e0 := Option.some.inj he0
          have cS : S (.inr e.1) = false := by
            cases z : S (.inr e.1) with
            | false => rfl
            | true => exact absurd ((hS e.1).mp z) out
          rw [cS]
          refine ⟨true, rfl, iteT ?_⟩
          refine ⟨.str e.1, rfl, mk_one (C := C) (f := "name") (v := .str e.1) (H1 := upd H' b (.frz od (.dK (entK L)))) (Q := fun cls d H' => ∃ od u, H' b = some (.frz od u) ∧ E cls d (upd H' b u)) fun d H2 nd2 s2 ed => ?_⟩
          have eb := s2 b _ upd_same
          refine ⟨od, .dK (entK L), eb, q d _ (fun y o ey => ?_) ?_⟩
          · by_cases z : y = b
            · subst z
              rw [upd_same]
              rw [bx.un] at ey
              exact ey
            · rw [upd_ne z]
              exact s2 y o (by rw [upd_ne z]; exact sm _ _ ey)
          · have z : d ≠ b := fun z => by rw [z, upd_same] at nd2; cases nd2
            rw [upd_ne z]
            exact ed
        · have lt : i < i0 := by omega
          have em' : e ∈ L.take i0 := List.mem_of_getElem? (i := i) (by rw [List.getElem?_take, if_pos lt]; exact he)
          rw [(hS e.1).mpr (bef e em')]
          exact ⟨false, rfl, iteF ⟨rfl, by omega, _, _, rfl⟩⟩
      · rintro σ H2 ⟨rfl, hi0, y, y4, rfl⟩
        have := (List.getElem?_eq_some_iff.mp he0).1
        rw [entK_len] at hi0
        omega
abbrev spFilledX (C : Addr) : Sp := spCheckX C
theorem ok_filledX {f C fC : Addr} {fd fdC : FuncData} (F : Fun K "filled" "filled" sFilled f fd) (Ck : CallX P w K mg base 3 "_check_names" fC fdC ["box", "domains"] (spCheckX C)) : FnOk P w K mg base (L2.CX P w) 4 f fd ["box", "domains"] (spCheckX C) := by
  refine F.okX scFilled (fun vs H Q E h => ?_) (fun cdv A outer s H vs Q E hr h => ?_)
  · obtain ⟨b, dl, L, ds, i0, u, rfl, _⟩ := h
    rfl
  · obtain ⟨b, dl, L, ds, i0, u, rfl, r⟩ := h
    exact ⟨_, pss_cons (ps_expr (pe_callS Ck.ok hr (by rfl) Ck.at_ Ck.kp Ck.bd (fun σ => passAt (takes_of rfl rfl rfl rfl) σ) (pa_cons (pv 0) (pa_cons (pv 1) pa_nil)))) pss_any, .ref b, rfl, .ref dl, rfl, b, dl, L, ds, i0, u, rfl, r⟩
theorem ok_trimmedX {f C fC : Addr} {fd fdC : FuncData} (F : Fun K "trimmed" "trimmed" sTrim f fd) (Ck : CallX P w K mg base 4 "filled" fC fdC ["box", "domains"] (spCheckX C)) : FnOk P w K mg base (L2.CX P w) 5 f fd ["box", "domains"] (spCheckX C) := by
  refine F.okX scTrim (fun vs H Q E h => ?_) (fun cdv A outer s H vs Q E hr h => ?_)
  · obtain ⟨b, dl, L, ds, i0, u, rfl, _⟩ := h
    rfl
  · obtain ⟨b, dl, L, ds, i0, u, rfl, r⟩ := h
    exact ⟨_, pss_cons (ps_set (i := 2) scTrim.nd rfl (.inr rfl) (pe_callS Ck.ok hr (by rfl) Ck.at_ Ck.kp Ck.bd (fun σ => passAt (takes_of rfl rfl rfl rfl) σ) (pa_cons (pv 0) (pa_cons (pv 1) pa_nil)))) pss_any, .ref b, rfl, .ref dl, rfl, b, dl, L, ds, i0, u, rfl, r⟩
end
end K2

set_option Elab.async false
set_option linter.all false
set_option maxRecDepth 100000
set_option maxHeartbeats 4000000
namespace K2
open PySem PySem.Spec PyProof.Rows L2 Cs CsX
abbrev others : List Str := ["RepeatedName", "UnknownValue", "RepeatedValue", "UnknownKey", "RepeatedKey", "EmptyRule", "BadRow", "BadBounds", "BadNumber", "BadStep", "NoMark", "NotStruck", "BadOrder", "NotBare", "NoClash", "HoldsAnswer", "BadLine", "UnknownLine", "BadText", "NothingToUndo", "NothingToRedo", "UnknownStep", "BadDeed"]
/-- the other errors, none a class of the error at C; the base class at cd -/
structure Errs (K : PySem.W.Frag) (mg : Str → Option Value) (C cd : Addr) (cs : List Addr) : Prop where
  len : ∃ c0 c1 c2 c3 c4 c5 c6 c7 c8 c9 c10 c11 c12 c13 c14 c15 c16 c17 c18 c19 c20 c21 c22 : Addr, cs = [c0, c1, c2, c3, c4, c5, c6, c7, c8, c9, c10, c11, c12, c13, c14, c15, c16, c17, c18, c19, c20, c21, c22]
  at_ : ∀ (i : Nat) (x : Str), others[i]? = some x → mg x = some (.ref (cs.getD i 0))
  any : PySem.W.kitAny K (.ref C) (cs.map Value.ref) = some false
  gd : mg "DeskError" = some (.ref cd)
  kd : PySem.W.kitOne K (.ref C) (.ref cd) = some true
  kv : PySem.W.kitOne K (.ref C) (.type "ValueError") = some true
  ve : mg "ValueError" = none
section
variable {P : Program} {w : World} {K : PySem.W.Frag} {mg : Str → Option Value} {base : Heap}
abbrev sTold : Stmt := topS 49
abbrev nTold : List Str := ["_law_short", "_law_sides", "_law_domains_here", "e", "_law_other"]
theorem scTold : FnScope nTold ["_law_short", "_law_sides", "_law_domains_here"] (defScope sTold) := ⟨rfl, rfl, rfl, by decide +kernel, rfl, by decide +kernel, by decide +kernel⟩
def spTold : Sp := fun vs H Q _ => ∃ (sh : Bool) (b dl : Addr) (L : List Ent) (ds : List DomE) (i0 : Nat) (u : Str), vs = [.bl sh, .ref b, .ref dl] ∧ Bu H b L ∧ Doms H dl ds ∧ ds.length ≤ 30 ∧ Stranger L ds i0 u ∧ ∀ H', Same H H' → Q (.str u) H'
theorem ok_told {f fl ft C fI cd : Addr} {fd fdl fdt : FuncData} {cs : List Addr} (F : Fun K "_law_told_name" "_law_told_name" sTold f fd) (B : Bt mg) (U : Own K mg "UnknownName" C fI ["name"]) (E : Errs K mg C cd cs)
    (Fi : CallX P w K mg base 4 "filled" fl fdl ["box", "domains"] (spCheckX C)) (Tr : CallX P w K mg base 5 "trimmed" ft fdt ["box", "domains"] (spCheckX C)) :
    FnOk P w K mg base CX0 6 f fd ["_law_short", "_law_sides", "_law_domains_here"] spTold := by
  refine F.ok scTold (fun vs H Q E h => ?_) (fun cdv A outer s H vs Q E1 hr h => ?_)
  · obtain ⟨sh, b, dl, L, ds, i0, u, rfl, _⟩ := h
    rfl
  · obtain ⟨sh, b, dl, L, ds, i0, u, rfl, bx, dm, dlen, sg, q⟩ := h
    have nd := scTold.nd
    have hr4 : Room 4 (A.deeper (envOfC "_law_told_name" (defScope sTold) s.heap.objs.size f cdv)) := hr.mono (by decide)
    obtain ⟨c0, c1, c2, c3, c4, c5, c6, c7, c8, c9, c10, c11, c12, c13, c14, c15, c16, c17, c18, c19, c20, c21, c22, rfl⟩ := E.len
    refine ⟨_, pss_cons (ps_try_as (i := 3) (c := .ref C) (Wout := fun _ _ _ _ => False)
        (tb := fun W => tIfS (tB (tVar 0)) (tDrop (tCallS (spCheckX C) (WE W) (tCons (tVar 1) (tCons (tVar 2) tNil)))) (tDrop (tCallS (spCheckX C) (WE W) (tCons (tVar 1) (tCons (tVar 2) tNil)))))
        rfl rfl nd rfl rfl ⟨rfl, by decide, Or.inl U.gC⟩ takes0
        (fun W pn xe tk _ => pss_one (ps_if (pt_val (pv 0))
          (pss_one (ps_expr (pe_callS Tr.ok hr (by rfl) Tr.at_ Tr.kp Tr.bd (fun σ => passAt tk σ) (pa_cons (pv 1) (pa_cons (pv 2) pa_nil)))))
          (pss_one (ps_expr (pe_callS Fi.ok hr4 (by rfl) Fi.at_ Fi.kp Fi.bd (fun σ => passAt tk σ) (pa_cons (pv 1) (pa_cons (pv 2) pa_nil)))))))
        (fun a oe cls d pn hz hf => pss_cons (ps_set (i := 4) nd rfl (.inl rfl) (pe_callB (r := rIsED K a cls d) (call_isED hz hf) (by rfl) B.isi PyProof.Rows.boot_isinstance (pa_cons (pv 3) (pa_cons (pe_tup (pa_cons (pe_glob (by rfl) (E.at_ 0 _ rfl) (v := .ref c0) rfl) (pa_cons (pe_glob (by rfl) (E.at_ 1 _ rfl) (v := .ref c1) rfl) (pa_cons (pe_glob (by rfl) (E.at_ 2 _ rfl) (v := .ref c2) rfl) (pa_cons (pe_glob (by rfl) (E.at_ 3 _ rfl) (v := .ref c3) rfl) (pa_cons (pe_glob (by rfl) (E.at_ 4 _ rfl) (v := .ref c4) rfl) (pa_cons (pe_glob (by rfl) (E.at_ 5 _ rfl) (v := .ref c5) rfl) (pa_cons (pe_glob (by rfl) (E.at_ 6 _ rfl) (v := .ref c6) rfl) (pa_cons (pe_glob (by rfl) (E.at_ 7 _ rfl) (v := .ref c7) rfl) (pa_cons (pe_glob (by rfl) (E.at_ 8 _ rfl) (v := .ref c8) rfl) (pa_cons (pe_glob (by rfl) (E.at_ 9 _ rfl) (v := .ref c9) rfl) (pa_cons (pe_glob (by rfl) (E.at_ 10 _ rfl) (v := .ref c10) rfl) (pa_cons (pe_glob (by rfl) (E.at_ 11 _ rfl) (v := .ref c11) rfl) (pa_cons (pe_glob (by rfl) (E.at_ 12 _ rfl) (v := .ref c12) rfl) (pa_cons (pe_glob (by rfl) (E.at_ 13 _ rfl) (v := .ref c13) rfl) (pa_cons (pe_glob (by rfl) (E.at_ 14 _ rfl) (v := .ref c14) rfl) (pa_cons (pe_glob (by rfl) (E.at_ 15 _ rfl) (v := .ref c15) rfl) (pa_cons (pe_glob (by rfl) (E.at_ 16 _ rfl) (v := .ref c16) rfl) (pa_cons (pe_glob (by rfl) (E.at_ 17 _ rfl) (v := .ref c17) rfl) (pa_cons (pe_glob (by rfl) (E.at_ 18 _ rfl) (v := .ref c18) rfl) (pa_cons (pe_glob (by rfl) (E.at_ 19 _ rfl) (v := .ref c19) rfl) (pa_cons (pe_glob (by rfl) (E.at_ 20 _ rfl) (v := .ref c20) rfl) (pa_cons (pe_glob (by rfl) (E.at_ 21 _ rfl) (v := .ref c21) rfl) (pa_cons (pe_glob (by rfl) (E.at_ 22 _ rfl) (v := .ref c22) rfl) pa_nil)))))))))))))))))))))))) pa_nil))))
          (pss_cons (ps_if (PW.pt (pw_or (pt_val (pv 4)) (pw_or (pt_not (pt_val (pe_callB (r := rIsED K a cls d) (call_isED hz hf) (by rfl) B.isi PyProof.Rows.boot_isinstance (pa_cons (pv 3) (pa_cons (pe_glob (by rfl) E.gd (v := .ref cd) rfl) pa_nil)))))
              (pw_or1 (pt_not (pt_val (pe_callB (r := rIsED K a cls d) (call_isED hz hf) (by rfl) B.isi PyProof.Rows.boot_isinstance (pa_cons (pv 3) (pa_cons (pe_bltn (by rfl) E.ve PyProof.Rows.Boot.«ValueError» (v := .ty "ValueError") rfl) pa_nil))))))))) (pss_one (ps_ret pe_non)) pss_nil)
          (pss_one (ps_ret (pe_xf U.xf (U.no _ (by simp)) hz hf (pv 3))))))) (pss_one (ps_ret pe_non)), ?_⟩
    cases sh
    · refine ⟨.bl false, rfl, false, rfl, iteF ⟨.ref b, rfl, .ref dl, rfl, b, dl, L, ds, i0, u, rfl, bx, dm, dlen, sg, fun d H' s ed => ⟨true, U.te, fun _ a na => ?_, fun z => nomatch z⟩⟩⟩
      refine ⟨.ref a, rfl, by show 23 ≤ sizeLine; decide, fun T nT => ⟨C, d, _, .ref T, false, rfl, rfl, rfl, same_new nT _ _ ed, U.ex, .inr ⟨T, [c0, c1, c2, c3, c4, c5, c6, c7, c8, c9, c10, c11, c12, c13, c14, c15, c16, c17, c18, c19, c20, c21, c22], rfl, upd_same, E.any⟩, ?_⟩⟩
      refine ⟨.bl false, rfl, false, rfl, iteF ⟨.ref a, rfl, C, d, _, .ref cd, true, rfl, rfl, rfl, same_new nT _ _ ed, U.ex, .inl ⟨.ref cd, fun u r => by cases r; rfl, E.kd⟩, true, rfl, iteF ⟨.ref a, rfl, C, d, _, .ty "ValueError", true, rfl, rfl, rfl, same_new nT _ _ ed, U.ex, .inl ⟨.type "ValueError", fun u r => by cases r; rfl, E.kv⟩, true, rfl, iteF ?_⟩⟩⟩
      exact ⟨.ref a, rfl, rfl, rfl, d, _, .str u, rfl, same_new nT _ _ ed, by simp [List.lookup], q _ (s.trans (same_new nT))⟩
    · refine ⟨.bl true, rfl, true, rfl, iteT ⟨.ref b, rfl, .ref dl, rfl, b, dl, L, ds, i0, u, rfl, bx, dm, dlen, sg, fun d H' s ed => ⟨true, U.te, fun _ a na => ?_, fun z => nomatch z⟩⟩⟩
      refine ⟨.ref a, rfl, by show 23 ≤ sizeLine; decide, fun T nT => ⟨C, d, _, .ref T, false, rfl, rfl, rfl, same_new nT _ _ ed, U.ex, .inr ⟨T, [c0, c1, c2, c3, c4, c5, c6, c7, c8, c9, c10, c11, c12, c13, c14, c15, c16, c17, c18, c19, c20, c21, c22], rfl, upd_same, E.any⟩, ?_⟩⟩
      refine ⟨.bl false, rfl, false, rfl, iteF ⟨.ref a, rfl, C, d, _, .ref cd, true, rfl, rfl, rfl, same_new nT _ _ ed, U.ex, .inl ⟨.ref cd, fun u r => by cases r; rfl, E.kd⟩, true, rfl, iteF ⟨.ref a, rfl, C, d, _, .ty "ValueError", true, rfl, rfl, rfl, same_new nT _ _ ed, U.ex, .inl ⟨.type "ValueError", fun u r => by cases r; rfl, E.kv⟩, true, rfl, iteF ?_⟩⟩⟩
      exact ⟨.ref a, rfl, rfl, rfl, d, _, .str u, rfl, same_new nT _ _ ed, by simp [List.lookup], q _ (s.trans (same_new nT))⟩
end
end K2

set_option Elab.async false
set_option linter.all false
set_option maxRecDepth 100000
set_option maxHeartbeats 8000000
namespace K2
open PySem PySem.Spec PyProof.Rows L2 Cs CsX
/-- the first that meets it -/
theorem first_of {α : Type} {q : α → Bool} : ∀ {zs : List α}, (∃ z ∈ zs, q z = true) → ∃ (i : Nat) (u : α), zs[i]? = some u ∧ q u = true ∧ (∀ g ∈ zs.take i, q g = false) ∧ (zs.filter q)[0]? = some u
  | [], h => by obtain ⟨_, h, _⟩ := h; cases h
  | z :: zs, h => by
    cases c : q z with
    | true => exact ⟨0, z, rfl, c, (fun _ h => nomatch h), by rw [List.filter_cons, if_pos c]; rfl⟩
    | false =>
      obtain ⟨y, hy, e⟩ := h
      have hy' : y ∈ zs := by
        rcases List.mem_cons.mp hy with h | h
        · rw [h, c] at e; cases e
        · exact h
      obtain ⟨i, u, h1, h2, h3, h4⟩ := first_of (q := q) ⟨y, hy', e⟩
      refine ⟨i + 1, u, h1, h2, fun g hg => ?_, by rw [List.filter_cons, if_neg (by rw [c]; decide)]; exact h4⟩
      rw [List.take_succ_cons] at hg
      rcases List.mem_cons.mp hg with h | h
      · rw [h]; exact c
      · exact h3 g h
theorem inV_str (x : Str) : ∀ xs : List Str, inV (.str x) (xs.map V.str) = decide (x ∈ xs)
  | [] => rfl
  | y :: xs => by
    have ih := inV_str x xs
    unfold inV at ih ⊢
    rw [List.map_cons, List.any_cons, ih]
    show (eqV (.str y) (.str x) || _) = _
    have e : eqV (.str y) (.str x) = decide (y = x) := by
      first
        | rfl
        | (show (y == x) = _; by_cases h : y = x <;> simp [h])
    rw [e]
    by_cases h : x = y
    · subst h; simp
    · have h' : ¬ y = x := fun z => h z.symm
      simp [h, h']
theorem flats_str (xs : List Str) : (xs.map V.str).all flatV = true := by
  rw [List.all_eq_true]
  intro v hv
  obtain ⟨x, _, rfl⟩ := List.mem_map.mp hv
  rfl
section
variable {P : Program} {w : World} {K : PySem.W.Frag} {mg : Str → Option Value} {base : Heap}
abbrev sRef : Stmt := topS 50
abbrev nRef : List Str := ["_law_stream_here", "_law_sides", "_law_domains_here", "_law_strangers", "_law_pool_here", "_law_listed_here", "_law_name", "_law_at", "_law_spoilt", "_law_due", "_law_passed", "_law_given", "_law_short", "_law_told", "_law_domain"]
abbrev pRef : List Str := ["_law_stream_here", "_law_sides", "_law_domains_here", "_law_strangers", "_law_pool_here"]
theorem scRef : FnScope nRef pRef (defScope sRef) := ⟨rfl, rfl, rfl, by decide +kernel, rfl, by decide +kernel, by decide +kernel⟩
def spRef : Sp := fun vs H Q _ => ∃ (p b dl st pl : Addr) (L : List Ent) (ds : List DomE) (ss : List Str) (ns : List Int), vs = [.ref p, .ref b, .ref dl, .ref st, .ref pl] ∧ Strm H p ∧ Bu H b L ∧ Doms H dl ds ∧ H st = some (.lst (ss.map V.str)) ∧ H pl = some (.lst (ns.map V.int)) ∧
  (ds.map (·.2.1)).Nodup ∧ ds.length ≤ 30 ∧ L.length ≤ 30 ∧ (∀ e ∈ L, e.1 ∈ ds.map (·.2.1)) ∧ (∀ e ∈ L, e.2.2.length ≤ 31) ∧ (∀ d ∈ ds, PyData.strOk d.2.1 = true) ∧ ss.Nodup ∧ 1 ≤ ss.length ∧ ss.length ≤ 2 ∧ (∀ x ∈ ss, x ∉ ds.map (·.2.1)) ∧ ns.length ≤ 31 ∧
  p ≠ b ∧ p ≠ dl ∧ p ≠ st ∧ p ≠ pl ∧ (∀ e ∈ L, e.2.1 ≠ p) ∧ (∀ d ∈ ds, d.1 ≠ p ∧ d.2.2.1 ≠ p) ∧ ∀ H', Keep p H H' → Strm H' p → Q (.bl true) H'
theorem ok_ref {f fD fP fC fT : Addr} {fd fdD fdP fdC fdT : FuncData} (F : Fun K "_law_refused" "_law_refused" sRef f fd) (B : Bt mg) (bs : mg "str" = none) (D : Call P w K mg base 1 "_law_next" fD fdD ["_law_stream_here", "_law_size"] spDraw)
    (Pa : Call P w K mg base 2 "_law_part" fP fdP ["_law_stream_here", "_law_side"] (spPart K)) (C : Call P w K mg base 1 "_law_copied" fC fdC ["_law_sides"] spCopy) (T : Call P w K mg base 6 "_law_told_name" fT fdT ["_law_short", "_law_sides", "_law_domains_here"] spTold) :
    FnOk P w K mg base CX0 7 f fd pRef spRef := by
  refine F.ok scRef (fun vs H Q E h => ?_) (fun cdv A outer s H vs Q E hr h => ?_)
  · obtain ⟨p, b, dl, st, pl, L, ds, ss, ns, rfl, _⟩ := h
    rfl
  · obtain ⟨p, b, dl, st, pl, L, ds, ss, ns, rfl, hp, bx, dm, est, epl, nod, dlen, lL, sub, lsz, sok, snd, s1, s2, sout, nlen, pb, pdl, pst, ppl, pL, pD, q⟩ := h
    have hu := hu_of hr
    have hu64 : (A.deeper (envOfC "_law_refused" (defScope sRef) s.heap.objs.size f cdv)).units + 64 < cLine := by have := hr.un; omega
    have hr1 : Room 1 (A.deeper (envOfC "_law_refused" (defScope sRef) s.heap.objs.size f cdv)) := hr.mono (by decide)
    have hr2 : Room 2 (A.deeper (envOfC "_law_refused" (defScope sRef) s.heap.objs.size f cdv)) := hr.mono (by decide)
    have nd := scRef.nd
    refine ⟨_, pss_cons (ps_set (i := 5) nd rfl (.inl rfl) (pe_callTy (call_listD rfl) (by rfl) B.list PyProof.Rows.boot_list (pa_cons (pv 1) pa_nil)))
      (pss_cons (ps_for PassesOwn.never rfl (pi_list (pe_slice sl_list (pv 3) po_none (po_some (pe_op op_add pe_int (pe_call D.ok hr1 (by rfl) D.at_ D.kp D.bd .nil pass0 (pa_cons (pv 0) (pa_cons pe_int pa_nil))))))) (pg_name (i := 6) nd rfl (.inl rfl))
        (pss_cons (ps_set (i := 7) nd rfl (.inl rfl) (pe_call D.ok hr1 (by rfl) D.at_ D.kp D.bd .nil pass0 (pa_cons (pv 0) (pa_cons (pe_op op_add (pe_callB call_len_seq (by rfl) B.len PySem.boot_len (pa_cons (pv 5) pa_nil)) pe_int) pa_nil))))
        (pss_one (ps_set (i := 5) nd rfl (.inl rfl) (pe_op op_cat (pe_op op_cat (pe_slice sl_list (pv 5) po_none (po_some (pv 7))) (pe_lst (pa_cons (pv 6) pa_nil))) (pe_slice sl_list (pv 5) (po_some (pv 7)) po_none))))))
      (pss_cons (ps_set (i := 8) nd rfl (.inl rfl) pe_dnewK)
      (pss_cons (ps_for PassesOwn.never rfl (pi_list (pv 5)) (pg_name (i := 6) nd rfl (.inl rfl))
        (pss_one (ps_if (pt_cmp (pc_din hu (pv 6) (pv 1)))
          (pss_one (ps_dput hu (pv 8) (pv 6) (pe_callTy call_list_of (by rfl) B.list PyProof.Rows.boot_list (pa_cons (pe_dget hu (pv 1) (pv 6) (fun _ _ => rfl)) pa_nil)) rfl))
          (pss_one (ps_dput hu (pv 8) (pv 6) (pe_call Pa.ok hr2 (by rfl) Pa.at_ Pa.kp Pa.bd .nil pass0 (pa_cons (pv 0) (pa_cons (pv 4) pa_nil))) rfl)))))
      (pss_cons (ps_setLc (i := 9) (own := [("_law_name", 6)]) (g := gName 6) (te := tVar 6) rfl nd rfl rfl (by rfl) (pi_list (pv 5)) (blkOk_by (N := nRef) (sc := defScope sRef) (by decide +kernel)) (fun _ _ _ _ _ => pg_name (i := 6) nd rfl (Or.inl rfl))
          (fun _ _ _ _ _ => pts_one (pt_cmpR (r := rIn K false) op_in_seq (pv 6) (pv 3) rfl)) (fun _ _ _ _ _ => pv 6))
      (pss_cons (ps_set (i := 10) nd rfl (.inl rfl) (pe_call C.ok hr1 (by rfl) C.at_ C.kp C.bd .nil pass0 (pa_cons (pv 8) pa_nil)))
      (pss_cons (ps_setLc (i := 11) (own := [("_law_domain", 14)]) (g := gName 14) (tt := tYes) (te := tTup (tCons (tOp (rIxT K) (tVar 14) (tC (V.int 0))) (tCons (tCB (rLst K) (tCons (tOp (rIxT K) (tVar 14) (tC (V.int 1))) tNil)) tNil))) rfl nd rfl rfl (by rfl) (pi_list (pv 2)) (blkOk_by (N := nRef) (sc := defScope sRef) (by decide +kernel)) (fun _ _ _ _ _ => pg_name (i := 14) nd rfl (Or.inl rfl)) (fun _ _ _ _ _ => pts_nil)
          (fun _ _ _ _ _ => pe_tup (pa_cons (pe_ix (r := rIxT K) ix_tup (pv 14) pe_int (fun _ _ => rfl)) (pa_cons (pe_callTy call_list_of (by rfl) B.list PyProof.Rows.boot_list (pa_cons (pe_ix (r := rIxT K) ix_tup (pv 14) pe_int (fun _ _ => rfl)) pa_nil)) pa_nil))))
      (pss_cons (ps_for PassesOwn.never rfl (pi_list (pe_lst (pa_cons pe_bl (pa_cons pe_bl pa_nil)))) (pg_name (i := 12) nd rfl (.inl rfl))
        (pss_cons (ps_set (i := 13) nd rfl (.inl rfl) (pe_call T.ok hr (by rfl) T.at_ T.kp T.bd .nil pass0 (pa_cons (pv 12) (pa_cons (pv 10) (pa_cons (pv 11) pa_nil)))))
        (pss_one (ps_if (PW.pt (pw_or (pt_not (pt_val (pe_callB call_isi (by rfl) B.isi PyProof.Rows.boot_isinstance (pa_cons (pv 13) (pa_cons (pe_bltn (by rfl) bs PyProof.Rows.boot_str (v := .ty "str") rfl) pa_nil)))))
            (pw_or1 (pt_cmpR op_ne (pv 13) (pe_ix ix_list (pv 9) pe_int (fun _ _ => rfl)) rfl)))) (pss_one (ps_ret pe_bl)) pss_nil))))
      (pss_one (ps_ret (pe_and (pe_cmpR (op_eqV hu64) (pv 10) (pv 8) rfl) (pe_and (pe_cmpR (op_eqV hu64) (pe_callTy (call_listD rfl) (by rfl) B.list PyProof.Rows.boot_list (pa_cons (pv 10) pa_nil)) (pv 5) rfl)
        (pe_one (pe_cmpR (r := rEqD K) (op_eqD hu64) (pv 11) (pv 2) rfl))))))))))))), ?_⟩
    have keysV : ((entK L).map fun kv => kV kv.1) = (L.map (·.1)).map V.str := by unfold entK; rw [List.map_map, List.map_map] <;> rfl
    have nos : ∀ {A B : Prop} {c : Bool}, c = false → B → (if c = true then A else B) := fun {A B c} h hb => by rw [h, if_neg (by decide)]; exact hb
    have yes : ∀ {A B : Prop} {c : Bool}, c = true → A → (if c = true then A else B) := fun {A B c} h hb => by rw [h, if_pos rfl]; exact hb
    refine ⟨.ref b, rfl, b, _, rfl, .inl bx.un, fun r nr => ?_⟩
    have t1 := same_new (o := HO.lst ((entK L).map fun kv => kV kv.1)) nr
    have er0 := upd_same (H := H) (a := r) (o := HO.lst ((entK L).map fun kv => kV kv.1))
    rw [keysV] at er0 t1 ⊢
    have npr : p ≠ r := fun z => hp.some (z ▸ nr)
    have hp1 := hp.upd (o := HO.lst ((L.map (·.1)).map V.str)) npr
    have k1 : Keep p H _ := Keep.same t1
    generalize upd H r (HO.lst ((L.map (·.1)).map V.str)) = H1 at t1 er0 hp1 k1 ⊢
    refine ⟨.ref st, rfl, .ref p, rfl, p, 2, rfl, hp1, by decide, by decide, fun H2 k0 o2 st2 k0a k0b => ⟨1, k0, rfl, rfl, _, rfl, st, _, rfl, sl_map ((k1.oth o2) _ _ pst.symm est), fun c nc => ?_⟩⟩
    obtain ⟨m, rfl⟩ : ∃ m : Nat, k0 = (m : Int) := ⟨k0.toNat, by omega⟩
    have ec : cutV (ss.map V.str) none (some (1 + (m : Int))) = (ss.take (m + 1)).map V.str := by rw [show 1 + (m : Int) = ((m + 1 : Nat) : Int) by omega, cutV_to, List.map_take]
    rw [ec]
    have kc : Keep p H (upd H2 c (.lst ((ss.take (m + 1)).map V.str))) := (k1.oth o2).at_ ((k1.oth o2).free st2 nc)
    have npc : p ≠ c := fun z => st2.some (z ▸ nc)
    have nrc : r ≠ c := fun z => by
      have := o2 r npr.symm
      rw [er0, z, nc] at this
      cases this
    have nHc : H c = none := (k1.oth o2).free st2 nc
    have ssl : (ss.take (m + 1)).length ≤ 2 := by rw [List.length_take]; omega
    have ss1 : 1 ≤ (ss.take (m + 1)).length := by rw [List.length_take]; omega
    have sst : ∀ x ∈ ss.take (m + 1), x ∈ ss := fun x h => List.mem_of_mem_take h
    have ssn : (ss.take (m + 1)).Nodup := snd.sublist (List.take_sublist _ _)
    have ck : ∀ e ∈ L, e.1 ∉ ss := fun e he z => sout _ z (sub e he)
    generalize ss.take (m + 1) = us at ec kc ssl ss1 sst ssn ⊢
    refine ⟨c, rfl, ⟨_, sl_map upd_same⟩, for_list (xs := us.map V.str) (fun i σ H' => ∃ (r' : Addr) (zs : List Str) (y6 y7 : Option V), σ = [some (.ref p), some (.ref b), some (.ref dl), some (.ref st), some (.ref pl), some (.ref r'), y6, y7, none, none, none, none, none, none, none] ∧ Keep p H H' ∧ Strm H' p ∧ H' c = some (.lst (us.map V.str)) ∧ H' r' = some (.lst (zs.map V.str)) ∧ p ≠ r' ∧ zs.Nodup ∧ zs.length = L.length + i ∧ (∀ z ∈ zs, z ∈ L.map (·.1) ∨ z ∈ us.take i) ∧ ∀ z ∈ us.take i, z ∈ zs)
      ⟨r, L.map (·.1), none, none, rfl, kc, st2.upd npc, upd_same, by rw [upd_ne nrc]; exact (o2 r npr.symm).trans er0, npr, bx.nd, by rw [List.length_map] <;> rfl, fun z hz => .inl hz, fun z hz => by rw [List.take_zero] at hz; cases hz⟩ (fun i σ H' _ h => by obtain ⟨r', zs, y6, y7, _, _, _, h, _⟩ := h; exact sl_map h) ?_ ?_⟩
    · rintro i x σ H' hx ⟨r', zs, y6, y7, rfl, kp, st', ec', er', npr', zn, zl, zm, zu⟩
      rw [List.getElem?_map] at hx
      obtain ⟨x, hv, rfl⟩ := Option.map_eq_some_iff.mp hx
      have hi := (List.getElem?_eq_some_iff.mp hv).1
      have xin : x ∈ us := List.mem_of_getElem? hv
      have xz : x ∉ zs := fun z => by
        rcases zm x z with h | h
        · obtain ⟨e, he, e1⟩ := List.mem_map.mp h
          exact ck e he (e1 ▸ sst x xin)
        · obtain ⟨j, hj⟩ := List.mem_iff_getElem?.mp h
          rw [List.getElem?_take] at hj
          split at hj
          · next lt => exact absurd (nd_ix ssn hj hv) (by omega)
          · cases hj
      have tk : us.take (i + 1) = us.take i ++ [x] := by rw [List.take_add_one, hv] <;> rfl
      refine ⟨.ref p, rfl, .ref r', rfl, r', _, rfl, .inl (sl_map er'), _, 1, rfl, rfl, p, _, rfl, st', ?_, ?_, fun H3 a o3 st3 a0 a1 => ?_⟩
      · rw [List.length_map]; omega
      · rw [List.length_map]; omega
      rw [List.length_map] at a1
      obtain ⟨j, rfl⟩ : ∃ j : Nat, a = (j : Int) := ⟨a.toNat, by omega⟩
      have hj : j ≤ zs.length := by omega
      have k3 := kp.oth o3
      have er3 := (o3 r' npr'.symm).trans er'
      have ec3 := (o3 c npc.symm).trans ec'
      have c1 : cutV (zs.map V.str) none (some (j : Int)) = (zs.take j).map V.str := by rw [cutV_to, List.map_take]
      have c2 : cutV (zs.map V.str) (some (j : Int)) none = (zs.drop j).map V.str := by rw [cutV_from, List.map_drop]
      refine ⟨.ref r', rfl, _, rfl, _, rfl, r', _, rfl, sl_map er3, fun q1 nq1 => ?_⟩
      rw [c1]
      have u1 := same_new (o := HO.lst ((zs.take j).map V.str)) nq1
      refine ⟨_, rfl, by show 1 ≤ sizeLine; decide, fun q2 nq2 => ?_⟩
      have u2 := u1.trans (same_new (o := HO.lst [V.str x]) nq2)
      have n12 : q1 ≠ q2 := fun z => by rw [← z, upd_same] at nq2; cases nq2
      refine ⟨q1, q2, _, _, rfl, rfl, by rw [upd_ne n12]; exact upd_same, upd_same, ?_, fun q3 nq3 => ?_⟩
      · rw [List.length_map, List.length_take]
        exact Nat.le_of_lt (small1000 (by show min j zs.length + 1 ≤ 1000; omega))
      have u3 := u2.trans (same_new (o := HO.lst ((zs.take j).map V.str ++ [V.str x])) nq3)
      refine ⟨.ref r', rfl, _, rfl, _, rfl, r', _, rfl, sl_map (u3 _ _ er3), fun q4 nq4 => ?_⟩
      rw [c2]
      have u4 := u3.trans (same_new (o := HO.lst ((zs.drop j).map V.str)) nq4)
      have n34 : q3 ≠ q4 := fun z => by rw [← z, upd_same] at nq4; cases nq4
      refine ⟨q3, q4, _, _, rfl, rfl, by rw [upd_ne n34]; exact upd_same, upd_same, ?_, fun q5 nq5 => ?_⟩
      · rw [List.length_append, List.length_map, List.length_map, List.length_take, List.length_drop]
        exact Nat.le_of_lt (small1000 (by show min j zs.length + 1 + (zs.length - j) ≤ 1000; omega))
      have u5 := u4.trans (same_new (o := HO.lst ((zs.take j).map V.str ++ [V.str x] ++ (zs.drop j).map V.str)) nq5)
      have e5 : (zs.take j).map V.str ++ [V.str x] ++ (zs.drop j).map V.str = (zs.take j ++ x :: zs.drop j).map V.str := by simp
      have pm : (zs.take j ++ x :: zs.drop j).Perm (x :: zs) := by
        have := List.perm_middle (a := x) (l₁ := zs.take j) (l₂ := zs.drop j)
        rwa [List.take_append_drop] at this
      refine ⟨q5, zs.take j ++ x :: zs.drop j, _, _, rfl, k3.trans (Keep.same u5), st3.keep (Keep.same (p := q5) u5) (fun z => st3.some (z ▸ u4.free nq5)), u5 _ _ ec3, by rw [upd_same, e5], fun z => st3.some (z ▸ u4.free nq5), pm.nodup_iff.mpr (List.nodup_cons.mpr ⟨xz, zn⟩), ?_, fun z hz => ?_, fun z hz => ?_⟩
      · rw [pm.length_eq, List.length_cons]; omega
      · rw [tk]
        rcases List.mem_cons.mp (pm.mem_iff.mp hz) with h | h
        · rw [h]; exact .inr (List.mem_append_right _ (List.mem_singleton.mpr rfl))
        · rcases zm z h with g | g
          · exact .inl g
          · exact .inr (List.mem_append_left _ g)
      · rw [tk] at hz
        refine pm.mem_iff.mpr ?_
        rcases List.mem_append.mp hz with g | g
        · exact List.mem_cons_of_mem _ (zu z g)
        · rw [List.mem_singleton.mp g]; exact List.mem_cons_self
    · rintro σ H3 ⟨r', zs, y6, y7, rfl, kp, st3, ec', er', npr', zn, zl, zm, zu⟩
      rw [List.length_map] at zl zm zu
      rw [List.take_length] at zm zu
      have zl' : zs.length ≤ 32 := by omega
      clear t1 er0 hp1 k1 o2 st2 nc kc nrc ec' ec
      -- what is spoilt
      intro D nD
      have npD : p ≠ D := fun z => st3.some (z ▸ nD)
      have sD := same_new (o := HO.dK []) nD
      have st4 := st3.upd (o := HO.dK []) npD
      have ph : H3 p ≠ none := st3.some
      have bx3 : Bu H3 b L := bx.keep hp kp pL
      have epl3 := kp _ _ ppl.symm epl
      have est3 := kp _ _ pst.symm est
      have dm3 := dm.keep kp pdl.symm pD
      have er3 := er'
      refine ⟨.ref r', rfl, r', rfl, ⟨_, sl_map (sD _ _ er3)⟩, for_list (xs := zs.map V.str) (fun i σ H' => ∃ (M : List Ent) (y6 y7 : Option V), σ = [some (.ref p), some (.ref b), some (.ref dl), some (.ref st), some (.ref pl), some (.ref r'), y6, y7, some (.ref D), none, none, none, none, none, none] ∧ Keep p H3 H' ∧ Strm H' p ∧ Nb H3 H' D M ∧ M.map (·.1) = zs.take i ∧ ∀ e ∈ M, e.2.2.length ≤ 31)
        ⟨[], _, _, rfl, Keep.same sD, st4, Nb.nil nD upd_same, rfl, (fun _ h => nomatch h)⟩ (fun i σ H' _ h => by obtain ⟨M, y6, y7, _, k, _⟩ := h; exact sl_map (k _ _ npr'.symm er3)) ?_ ?_⟩
      · rintro i x σ H' hx ⟨M, y6, y7, rfl, k4, st', nb, ks, ml⟩
        rw [List.getElem?_map] at hx
        obtain ⟨x, hv, rfl⟩ := Option.map_eq_some_iff.mp hx
        have hi := (List.getElem?_eq_some_iff.mp hv).1
        have tk : zs.take (i + 1) = zs.take i ++ [x] := by rw [List.take_add_one, hv] <;> rfl
        have lM : M.length = i := by
          have := congrArg List.length ks
          rw [List.length_map, List.length_take] at this
          omega
        have xn : x ∉ M.map (·.1) := fun z => by
          rw [ks] at z
          obtain ⟨j, hj⟩ := List.mem_iff_getElem?.mp z
          rw [List.getElem?_take] at hj
          split at hj
          · next lt => exact absurd (nd_ix zn hj hv) (by omega)
          · cases hj
        have done : ∀ (H5 : Hp) (l : Addr) (sd : List Int), Keep p H' H5 → Strm H5 p → H' l = none → H5 l = some (.lst (sd.map V.int)) → sd.length ≤ 31 →
            ∃ (M' : List Ent) (z6 z7 : Option V), ([some (.ref p), some (.ref b), some (.ref dl), some (.ref st), some (.ref pl), some (.ref r'), y6, y7, some (.ref D), none, none, none, none, none, none] : L2.St).set 6 (some (.str x)) = [some (.ref p), some (.ref b), some (.ref dl), some (.ref st), some (.ref pl), some (.ref r'), z6, z7, some (.ref D), none, none, none, none, none, none] ∧ Keep p H3 (upd H5 D (.dK (putK (entK M) (.inr x) (V.ref l)))) ∧ Strm (upd H5 D (.dK (putK (entK M) (.inr x) (V.ref l)))) p ∧ Nb H3 (upd H5 D (.dK (putK (entK M) (.inr x) (V.ref l)))) D M' ∧ M'.map (·.1) = zs.take (i + 1) ∧ ∀ e ∈ M', e.2.2.length ≤ 31 := by
          intro H5 l sd k5 st5 nl el len
          have k35 := k4.trans k5
          have n0 : H3 l = none := k4.free st' nl
          have nb5 := nb.keep ph k5
          have nlM : l ∉ M.map (·.2.1) := fun z => by
            obtain ⟨e, he, e1⟩ := List.mem_map.mp z
            have := nb.sides e he
            rw [e1, nl] at this
            cases this
          rw [putK_ent (s := sd), putE_new xn]
          refine ⟨M ++ [(x, l, sd)], _, _, rfl, k35.at_ nD, st5.upd npD, nb5.alias n0 el xn nlM (by omega), ?_, fun e he => ?_⟩
          · rw [List.map_append, ks, tk] <;> rfl
          · rcases List.mem_append.mp he with h | h
            · exact ml e h
            · rw [List.mem_singleton.mp h]; exact len
        have lenK : (entK M).length < sizeLine := by rw [entK_len]; exact small1000 (by omega)
        have bxx : Bu H' b L := bx3.keep st3 k4 pL
        have gv := bxx.toBx.get x
        refine ⟨.str x, rfl, .ref b, rfl, b, _, rfl, gv, ?_⟩
        cases c : getE L x with
        | none =>
          refine ⟨false, rfl, iteF ⟨.ref p, rfl, .ref pl, rfl, p, pl, ns, rfl, st', k4 _ _ ppl.symm epl3, ppl, by omega, fun H5 l ms k5 nl st5 el sl => ?_⟩⟩
          have := sl.length_le
          exact ⟨.ref D, rfl, .str x, rfl, D, _, rfl, DPut.k (k := .inr x) (k5 _ _ npD.symm nb.un) lenK, done H5 l ms k5 st5 nl el (by omega)⟩
        | some m =>
          obtain ⟨mm, me⟩ := getE_mem c
          rw [c] at gv
          refine ⟨true, rfl, iteT ⟨.ref b, rfl, .str x, rfl, b, .ref m.2.1, rfl, gv, m.2.1, _, rfl, .inl (sl_map (bxx.sides m mm)), fun l nl => ?_⟩⟩
          exact ⟨.ref D, rfl, .str x, rfl, D, _, rfl, DPut.k (k := .inr x) (same_new nl _ _ nb.un) lenK, done _ l m.2.2 (Keep.same (same_new nl)) (st'.upd fun z => st'.some (z ▸ nl)) nl upd_same (lsz m mm)⟩
      · rintro σ H4 ⟨M, y6, y7, rfl, k4, st4', nb, ks, ml⟩
        rw [List.length_map, List.take_length] at ks
        have er4 := k4 _ _ npr'.symm er3
        have est4 := k4 _ _ pst.symm est3
        have dm4 := dm3.keep k4 pdl.symm pD
        have hk4 := kp.trans k4
        have bd4 := nb.toBu
        clear nD sD npD st4
        -- the strangers
        refine ⟨.ref r', rfl, r', rfl, ⟨_, sl_map er4⟩, fun U nU => lc_list (xs := zs.map V.str) (fun i H' => Same H4 H' ∧ H' U = some (.lst (((zs.take i).filter fun z => decide (z ∈ ss)).map V.str))) ⟨same_new nU, by rw [upd_same] <;> rfl⟩ (fun i H' _ h => sl_map (h.1 _ _ er4)) ?_ ?_⟩
        · rintro i x H' hx ⟨sm, eU⟩
          rw [List.getElem?_map] at hx
          obtain ⟨x, hv, rfl⟩ := Option.map_eq_some_iff.mp hx
          have tk : zs.take (i + 1) = zs.take i ++ [x] := by rw [List.take_add_one, hv] <;> rfl
          refine ⟨rfl, .str x, rfl, .ref st, rfl, st, _, rfl, .inl (sl_map (sm _ _ est4)), rfl, flats_str ss, inV (.str x) (ss.map V.str), rfl, ?_⟩
          rw [inV_str]
          by_cases c : x ∈ ss
          · refine yes (decide_eq_true c) ⟨.str x, rfl, _, eU, ?_, same_at sm nU, ?_⟩
            · rw [List.length_map]
              have := List.length_filter_le (fun z => decide (z ∈ ss)) (zs.take i)
              rw [List.length_take] at this
              exact small1000 (by omega)
            · rw [upd_same, tk, List.filter_append, List.map_append, List.filter_cons, if_pos (decide_eq_true c)] <;> rfl
          · refine nos (decide_eq_false c) ⟨sm, ?_⟩
            rw [tk, List.filter_append, List.filter_cons, if_neg (by rw [decide_eq_false c]; decide), List.filter_nil, List.append_nil]
            exact eU
        · rintro H5 ⟨s5, eU⟩
          rw [List.length_map, List.take_length] at eU
          refine ⟨.ref D, rfl, D, M, rfl, bd4.same' s5, fun H6 pa PL s6 nP shP => ?_⟩
          have s46 := s5.trans s6
          have dm6 := dm4.same s46
          refine ⟨.ref dl, rfl, dl, rfl, ⟨_, sl_map dm6.lst⟩, fun G nG => lc_list (xs := ds.map fun d : DomE => V.ref d.1) (fun i H' => Same H6 H' ∧ ∃ gs : List DomE, Doms H' G gs ∧ saysD gs = saysD (ds.take i)) ⟨same_new nG, [], ⟨upd_same, (fun _ h => nomatch h), (fun _ h => nomatch h)⟩, rfl⟩ (fun i H' _ h => h.1.seq (sl_map dm6.lst)) ?_ ?_⟩
          · rintro i x H' hx ⟨sm, gs, dg, says⟩
            rw [List.getElem?_map] at hx
            obtain ⟨d, hv, rfl⟩ := Option.map_eq_some_iff.mp hx
            have dmem := List.mem_of_getElem? hv
            have hi := (List.getElem?_eq_some_iff.mp hv).1
            have dm' := dm6.same sm
            have tt : SqT K H' d.1 [V.str d.2.1, V.ref d.2.2.1] := .inl (.inl (dm'.tup d dmem))
            have lg : gs.length = i := by
              have := congrArg List.length says
              rw [List.length_map, List.length_map, List.length_take] at this
              omega
            refine ⟨rfl, .ref d.1, rfl, d.1, _, _, .str d.2.1, rfl, rfl, tt, atI_nat (j := 0) rfl, .ref d.1, rfl, d.1, _, _, .ref d.2.2.1, rfl, rfl, tt, atI_nat (j := 1) rfl, d.2.2.1, _, rfl, .inl (sl_map (dm'.side d dmem)), fun Z nZ => ⟨by show 2 ≤ sizeLine; decide, fun T nT => ?_⟩⟩
            have sZ := same_new (o := HO.lst (d.2.2.2.map V.int)) nZ
            have sT := same_new (o := HO.tup [V.str d.2.1, V.ref Z]) nT
            have dT := (dg.same sZ).same sT
            have nZD : Z ≠ G := fun z => by rw [z, dg.lst] at nZ; cases nZ
            refine ⟨_, dT.lst, ?_, same_at ((sm.trans sZ).trans sT) nG, gs ++ [(T, d.2.1, Z, d.2.2.2)], dT.snoc upd_same (sT _ _ upd_same) nZD, ?_⟩
            · rw [List.length_map]
              exact small1000 (by omega)
            · unfold saysD at says ⊢
              rw [List.map_append, says, List.take_add_one, hv, List.map_append]
              rfl
          · rintro H7 ⟨s7, gs, dg, says⟩
            rw [List.length_map, List.take_length] at says
            have s47 := s46.trans s7
            have keysG := says_keys says
            have lenG : gs.length ≤ 30 := by
              have := congrArg List.length says
              rw [List.length_map, List.length_map] at this
              omega
            have bP7 := nP.toBu.same' s7
            have keysP : PL.map (·.1) = zs := (shape_keys shP).trans ks
            obtain ⟨i0, u, hi0, hu0, hbef, hfil⟩ := first_of (q := fun z => decide (z ∈ ss)) (zs := zs) (by
              obtain ⟨y, ys, rfl⟩ : ∃ y ys, us = y :: ys := by
                cases us with
                | nil => exact absurd ss1 (by decide)
                | cons y ys => exact ⟨y, ys, rfl⟩
              exact ⟨y, zu y List.mem_cons_self, decide_eq_true (sst y List.mem_cons_self)⟩)
            have uin : u ∈ ss := of_decide_eq_true hu0
            have sg : Stranger PL gs i0 u := by
              have h1 : (PL.map (·.1))[i0]? = some u := by rw [keysP]; exact hi0
              rw [List.getElem?_map] at h1
              obtain ⟨e, he, e1⟩ := Option.map_eq_some_iff.mp h1
              refine ⟨e, he, e1, by rw [keysG]; exact sout u uin, fun g hg => ?_⟩
              have h2 : g.1 ∈ zs.take i0 := by rw [← keysP, ← List.map_take]; exact List.mem_map_of_mem hg
              have h3 := of_decide_eq_false (hbef _ h2)
              rw [keysG]
              rcases zm _ (List.mem_of_mem_take h2) with h | h
              · obtain ⟨e, he, e2⟩ := List.mem_map.mp h
                exact e2 ▸ sub e he
              · exact absurd (sst _ h) h3
            refine ⟨by show 2 ≤ sizeLine; decide, fun bl nbl => ?_⟩
            have sb := same_new (o := HO.lst [V.bl false, V.bl true]) nbl
            have g0 : (((zs.filter fun z => decide (z ∈ ss)).map V.str))[0]? = some (.str u) := by rw [List.getElem?_map, hfil] <;> rfl
            have eU7 := s7 _ _ (s6 _ _ eU)
            refine ⟨bl, rfl, ⟨_, sl_map upd_same⟩, for_list (xs := [V.bl false, V.bl true]) (fun i σ H' => ∃ (y12 y13 : Option V), σ = [some (.ref p), some (.ref b), some (.ref dl), some (.ref st), some (.ref pl), some (.ref r'), y6, y7, some (.ref D), some (.ref U), some (.ref pa), some (.ref G), y12, y13, none] ∧ Same H7 H' ∧ H' bl = some (.lst [V.bl false, V.bl true]))
              ⟨none, none, rfl, sb, upd_same⟩ (fun i σ H' _ h => by obtain ⟨_, _, _, _, h⟩ := h; exact sl_map h) ?_ ?_⟩
            · rintro i x σ H' hx ⟨y12, y13, rfl, sm, ebl⟩
              obtain ⟨sh, rfl⟩ : ∃ sh : Bool, x = .bl sh := by
                match i, hx with
                | 0, h => exact ⟨false, (Option.some.inj h).symm⟩
                | 1, h => exact ⟨true, (Option.some.inj h).symm⟩
              refine ⟨.bl sh, rfl, .ref pa, rfl, .ref G, rfl, sh, pa, G, PL, gs, i0, u, rfl, bP7.same' sm, dg.same sm, lenG, sg, fun H8 s8 => ?_⟩
              refine ⟨.str u, rfl, .str u, .ty "str", .type "str", .type "str", true, rfl, .ty _, .base (.str u), kit_ty (by decide +kernel), true, rfl, iteF ?_⟩
              refine ⟨.str u, rfl, .ref U, rfl, U, _, _, .str u, rfl, rfl, sl_map (s8 _ _ (sm _ _ eU7)), at_of (j := 0) rfl g0, rfl, _, rfl, nos (by simp) ?_⟩
              exact ⟨_, _, rfl, sm.trans s8, s8 _ _ ebl⟩
            · rintro σ H8 ⟨y12, y13, rfl, sm, ebl⟩
              have mX := s47.trans sm
              have bp := bP7.same' sm
              have bL := bd4.same' mX
              have sameP := look_shape shP
              obtain ⟨len, hpp⟩ := eqBk (K := K) bp bL sameP
              refine ⟨.ref pa, rfl, .ref D, rfl, 2, by decide, .inr ⟨pa, D, _, _, rfl, rfl, bp.un, bL.un, len, hpp⟩, true, rfl, iteT ?_⟩
              have keysV2 : ((entK PL).map fun kv => kV kv.1) = zs.map V.str := by
                rw [← keysP]
                unfold entK
                rw [List.map_map, List.map_map] <;> rfl
              refine ⟨.ref pa, rfl, pa, _, rfl, .inl bp.un, fun k1 nk1 => ?_⟩
              have t2 := same_new (o := HO.lst ((entK PL).map fun kv => kV kv.1)) nk1
              have er8 := mX _ _ er4
              refine ⟨.ref r', rfl, 1, by decide, .inl ⟨k1, r', _, _, rfl, rfl, sl_map (by rw [upd_same, keysV2]), sl_map (t2 _ _ er8), paired_flat _ (fun x hx => by obtain ⟨y, _, rfl⟩ := List.mem_map.mp hx; rfl)⟩, true, rfl, iteT ?_⟩
              have mY := mX.trans t2
              have dX := dg.same (sm.trans t2)
              have eX := dm4.same mY
              have kk : ∀ e ∈ saysD ds, PyData.strOk e.1 = true := fun e he => by obtain ⟨d, hd, rfl⟩ := List.mem_map.mp he; exact sok d hd
              have p1 := Dp.lst (K := K) (sl_map dX.lst) (dp_doms gs dX.tup dX.side)
              rw [says] at p1
              refine ⟨.ref G, rfl, .ref dl, rfl, _, _, p1, Dp.lst (sl_map eX.lst) (dp_doms ds eX.tup eX.side), sh_doms _ kk, sh_doms _ kk, ?_⟩
              have ee : PyData.eqv (.list ((saysD ds).map dDom)) (.list ((saysD ds).map dDom)) = true := SeqAt.eqv_refl _ (lay_doms _ kk)
              rw [ee]
              obtain ⟨x1, x2, x3, e4⟩ := st4'
              exact q _ (hk4.trans (Keep.same mY)) ⟨x1, x2, x3, mY _ _ e4⟩
end
end K2

set_option Elab.async false
set_option linter.all false
set_option maxRecDepth 100000
set_option maxHeartbeats 8000000
namespace K2
open PySem PySem.Spec PyProof.Rows L2 Cs CsX
theorem with_restS {R : L2.St → Hp → Prop} {G : Prop} (C : L2.St → Hp → Prop) (r : ∀ σ H, C σ H → R σ H) (g : (∀ σ H, C σ H → R σ H) → G) : G := g r
/-- one pair of the domains is another one -/
theorem Doms.set_at {H : Hp} {l T Z : Addr} {ds : List DomE} {j : Nat} {x : Str} (D : Doms H l ds) (nZ : H Z = none) (nT : (upd H Z (.lst [])) T = none) :
    Doms (upd (upd (upd H Z (.lst [])) T (.tup [V.str x, V.ref Z])) l (.lst ((ds.set j (T, x, Z, [])).map fun d => V.ref d.1))) l (ds.set j (T, x, Z, [])) := by
  have hl := D.lst
  have nZl : Z ≠ l := fun z => by rw [z, hl] at nZ; cases nZ
  have nTZ : T ≠ Z := fun z => by rw [z, upd_same] at nT; cases nT
  have nT' : H T = none := by rw [upd_ne nTZ] at nT; exact nT
  have nTl : T ≠ l := fun z => by rw [z, hl] at nT'; cases nT'
  refine ⟨upd_same, fun d hd => ?_, fun d hd => ?_⟩
  · rcases List.mem_or_eq_of_mem_set hd with h | h
    · have e := D.tup d h
      have h1 : d.1 ≠ l := fun z => by rw [z, hl] at e; cases e
      rw [upd_ne h1, upd_ne (ne_of_none e nT'), upd_ne (ne_of_none e nZ)]
      exact e
    · rw [h, upd_ne nTl, upd_same]
  · rcases List.mem_or_eq_of_mem_set hd with h | h
    · have e := D.side d h
      have h1 : d.2.2.1 ≠ l := fun z => by
        rw [z, hl] at e
        cases ds with
        | nil => cases h
        | cons g gs =>
          have e' := HO.lst.inj (Option.some.inj e)
          cases hh : d.2.2.2 with
          | nil => rw [hh] at e'; cases e'
          | cons v vs => rw [hh] at e'; cases (List.cons.inj e').1
      rw [upd_ne h1, upd_ne (ne_of_none e nT'), upd_ne (ne_of_none e nZ)]
      exact e
    · rw [h, upd_ne nZl, upd_ne (Ne.symm nTZ), upd_same] <;> rfl
section
variable {P : Program} {w : World} {K : PySem.W.Frag} {mg : Str → Option Value} {base : Heap}
abbrev sLaw : Stmt := topS 51
abbrev nLaw : List Str := ["_law_script", "_law_stream_here", "_law_pool_here", "_law_count", "_law_names_here", "_law_domains_here", "_law_at", "_law_sides", "_law_name"]
theorem scLaw : FnScope nLaw ["_law_script"] (defScope sLaw) := ⟨rfl, rfl, rfl, by decide +kernel, rfl, by decide +kernel, by decide +kernel⟩
def spLaw (K : PySem.W.Frag) : Sp := fun vs H Q _ => ∃ (a : Addr) (ns : List Int), vs = [.ref a] ∧ SqL K H a (ns.map V.int) ∧ ns.length ≤ 63 ∧ ∀ H', Q (.bl true) H'
theorem ok_law {f fT fD fN fP fO fL fS fF fR : Addr} {fd fdT fdD fdN fdP fdO fdL fdS fdF fdR : FuncData} (F : Fun K "law" "law" sLaw f fd) (B : Bt mg)
    (T : Call P w K mg base 1 "_law_stream" fT fdT ["_law_script", "_law_k"] (spStream K)) (D : Call P w K mg base 1 "_law_next" fD fdD ["_law_stream_here", "_law_size"] spDraw)
    (Na : Call P w K mg base 2 "_law_names" fN fdN ["_law_stream_here", "_law_count"] spNames) (Po : Call P w K mg base 2 "_law_pool" fP fdP ["_law_stream_here", "_law_count"] spPool)
    (Do : Call P w K mg base 2 "_law_domains" fO fdO ["_law_stream_here", "_law_names_here", "_law_pool_here", "_law_most"] spDoms) (Li : Call P w K mg base 2 "_law_listed" fL fdL ["_law_stream_here", "_law_names_here"] spListed)
    (Ds : Call P w K mg base 2 "_law_drawn_side" fS fdS ["_law_stream_here", "_law_side", "_law_pool_here"] spDS) (Fo : Call P w K mg base 4 "_law_formed" fF fdF ["_law_sides", "_law_domains_here"] spFormed)
    (Re : Call P w K mg base 7 "_law_refused" fR fdR pRef spRef) :
    FnOk P w K mg base CX0 8 f fd ["_law_script"] (spLaw K) := by
  refine F.ok scLaw (fun vs H Q E h => ?_) (fun cdv A outer s H vs Q E hr h => ?_)
  · obtain ⟨a, ns, rfl, _⟩ := h
    rfl
  · obtain ⟨a, sc, rfl, ha, ln, q⟩ := h
    have hu := hu_of hr
    have hr1 : Room 1 (A.deeper (envOfC "law" (defScope sLaw) s.heap.objs.size f cdv)) := hr.mono (by decide)
    have hr2 : Room 2 (A.deeper (envOfC "law" (defScope sLaw) s.heap.objs.size f cdv)) := hr.mono (by decide)
    have hr4 : Room 4 (A.deeper (envOfC "law" (defScope sLaw) s.heap.objs.size f cdv)) := hr.mono (by decide)
    have nd := scLaw.nd
    refine ⟨_, pss_cons (ps_set (i := 1) nd rfl (.inl rfl) (pe_call T.ok hr1 (by rfl) T.at_ T.kp T.bd .nil pass0 (pa_cons (pv 0) (pa_cons pe_int pa_nil))))
      (pss_cons (ps_set (i := 2) nd rfl (.inl rfl) (pe_call Po.ok hr2 (by rfl) Po.at_ Po.kp Po.bd .nil pass0 (pa_cons (pv 1) (pa_cons (pe_op op_add pe_int (pe_call D.ok hr1 (by rfl) D.at_ D.kp D.bd .nil pass0 (pa_cons (pv 1) (pa_cons pe_int pa_nil)))) pa_nil))))
      (pss_cons (ps_set (i := 3) nd rfl (.inl rfl) (pe_call D.ok hr1 (by rfl) D.at_ D.kp D.bd .nil pass0 (pa_cons (pv 1) (pa_cons pe_int pa_nil))))
      (pss_cons (ps_set (i := 4) nd rfl (.inl rfl) (pe_call Na.ok hr2 (by rfl) Na.at_ Na.kp Na.bd .nil pass0 (pa_cons (pv 1) (pa_cons (pe_op op_add (pv 3) pe_int) pa_nil))))
      (pss_cons (ps_set (i := 5) nd rfl (.inl rfl) (pe_call Do.ok hr2 (by rfl) Do.at_ Do.kp Do.bd .nil pass0 (pa_cons (pv 1) (pa_cons (pe_slice sl_list (pv 4) po_none (po_some (pv 3))) (pa_cons (pv 2) (pa_cons pe_int pa_nil))))))
      (pss_cons (ps_if (PW.pt (pw_and (pt_cmpR op_gt (pv 3) pe_int rfl) (pw_and1 (pt_cmpR op_eq (pe_call D.ok hr1 (by rfl) D.at_ D.kp D.bd .nil pass0 (pa_cons (pv 1) (pa_cons pe_int pa_nil))) pe_int rfl))))
        (pss_cons (ps_set (i := 6) nd rfl (.inl rfl) (pe_call D.ok hr1 (by rfl) D.at_ D.kp D.bd .nil pass0 (pa_cons (pv 1) (pa_cons (pv 3) pa_nil))))
        (pss_one (ps_asg (pe_tup (pa_cons (pe_ix ix_tup (pe_ix ix_list (pv 5) (pv 6) (fun _ _ => rfl)) pe_int (fun _ _ => rfl)) (pa_cons (pe_lst pa_nil) pa_nil))) (pg_sub (pv 5) (pv 6) set_list)))) pss_nil)
      (pss_cons (ps_set (i := 1) nd rfl (.inl rfl) (pe_call T.ok hr1 (by rfl) T.at_ T.kp T.bd .nil pass0 (pa_cons (pv 0) (pa_cons pe_int pa_nil))))
      (pss_cons (ps_set (i := 7) nd rfl (.inl rfl) pe_dnewK)
      (pss_cons (ps_for PassesOwn.never rfl (pi_list (pe_call Li.ok hr2 (by rfl) Li.at_ Li.kp Li.bd .nil pass0 (pa_cons (pv 1) (pa_cons (pe_slice sl_list (pv 4) po_none (po_some (pv 3))) pa_nil)))) (pg_name (i := 8) nd rfl (.inl rfl))
        (pss_one (ps_dput hu (pv 7) (pv 8) (pe_call Ds.ok hr2 (by rfl) Ds.at_ Ds.kp Ds.bd .nil pass0 (pa_cons (pv 1) (pa_cons (pe_ix ix_tup (pe_ix ix_list (pv 5)
          (pe_bm PySem.F.plainAttrs_list PySem.F.slot_list_index PySem.F.type_list_index mt_index (pv 4) (pa_cons (pv 8) pa_nil)) (fun _ _ => rfl)) pe_int (fun _ _ => rfl)) (pa_cons (pv 2) pa_nil)))) rfl)))
      (pss_cons (ps_if (pt_not (pt_val (pe_call Fo.ok hr4 (by rfl) Fo.at_ Fo.kp Fo.bd .nil pass0 (pa_cons (pv 7) (pa_cons (pv 5) pa_nil))))) (pss_one (ps_ret pe_bl)) pss_nil)
      (pss_cons (ps_if (pt_cmpR op_gt (pe_call D.ok hr1 (by rfl) D.at_ D.kp D.bd .nil pass0 (pa_cons (pv 1) (pa_cons pe_int pa_nil))) pe_int rfl) (pss_one (ps_ret pe_bl)) pss_nil)
      (pss_one (ps_ret (pe_call Re.ok hr (by rfl) Re.at_ Re.kp Re.bd .nil pass0 (pa_cons (pv 1) (pa_cons (pv 7) (pa_cons (pv 5) (pa_cons (pe_slice sl_list (pv 4) (po_some (pv 3)) po_none) (pa_cons (pv 2) pa_nil)))))))))))))))))), ?_⟩
    -- the stream, the pool, the count, the names, the domains
    refine ⟨.ref a, rfl, a, sc, 0, rfl, ha, fun H1 p s1 np st1 => ?_⟩
    refine ⟨.ref p, rfl, .ref p, rfl, p, 4, rfl, st1, by decide, by decide, fun H2 b o2 st2 b0 b1 => ?_⟩
    obtain ⟨b, rfl⟩ : ∃ n : Nat, b = (n : Int) := ⟨b.toNat, by omega⟩
    refine ⟨2, (b : Int), rfl, rfl, p, 2 + b, ?_, st2, by omega, by omega, fun H3 pl ns k3 npl st3 epl srt nlen => ?_⟩
    · show [V.ref p, V.int (2 + (b : Int))] = [V.ref p, V.int ((2 + b : Nat) : Int)]
      rw [show (2 : Int) + (b : Int) = ((2 + b : Nat) : Int) by omega]
    refine ⟨.ref p, rfl, p, 7, rfl, st3, by decide, by decide, fun H4 c o4 st4 c0 c1 => ?_⟩
    obtain ⟨c, rfl⟩ : ∃ n : Nat, c = (n : Int) := ⟨c.toNat, by omega⟩
    refine ⟨.ref p, rfl, .int c, rfl, (c : Int), 2, rfl, rfl, p, c + 2, ?_, st4, by omega, fun H5 nm xs k5 nnm st5 enm xnd xlen xok => ?_⟩
    · show [V.ref p, V.int ((c : Int) + 2)] = [V.ref p, V.int ((c + 2 : Nat) : Int)]
      rw [show (c : Int) + 2 = ((c + 2 : Nat) : Int) by omega]
    have nlp : pl ≠ p := fun z => st2.some (z ▸ npl)
    have nnp : nm ≠ p := fun z => st4.some (z ▸ nnm)
    have epl5 : H5 pl = some (.lst (ns.map V.int)) := k5 _ _ nlp ((o4 pl nlp).trans epl)
    have k05 : Keep p H H5 := ((((Keep.same (p := p) s1).oth o2).trans k3).oth o4).trans k5
    have ha5 : SqL K H5 a (sc.map V.int) := sq_keep ha np k05
    clear o2 o4 s1 st1 st2 st3 st4 k3 k5 epl
    have ec : cutV (xs.map V.str) none (some (c : Int)) = (xs.take c).map V.str := by rw [cutV_to, List.map_take]
    have xtl : (xs.take c).length = c := by rw [List.length_take]; omega
    have xtn : (xs.take c).Nodup := xnd.sublist (List.take_sublist _ _)
    refine ⟨.ref p, rfl, .ref nm, rfl, _, rfl, _, rfl, nm, _, rfl, sl_map enm, fun u nu => ?_⟩
    rw [ec]
    have npu : p ≠ u := fun z => st5.some (z ▸ nu)
    have su := same_new (o := HO.lst ((xs.take c).map V.str)) nu
    refine ⟨.ref pl, rfl, p, u, pl, xs.take c, ns, 4, rfl, st5.upd npu, upd_same, su _ _ epl5, npu, nlp.symm, srt, by omega, by omega, by omega, fun H6 dl ds k6 ndl st6 dm names dok nodS => ?_⟩
    have K6 : Keep p H5 H6 := (Keep.same su).trans k6
    have enm6 := K6 _ _ nnp enm
    have epl6 := K6 _ _ nlp epl5
    have k06 := k05.trans K6
    have ha6 : SqL K H6 a (sc.map V.int) := sq_keep ha np k06
    have pdl : p ≠ dl := fun z => by
      rw [← z] at ndl
      exact (st5.upd (o := HO.lst ((xs.take c).map V.str)) npu).some ndl
    have dok' : ∀ d ∈ ds, Srt d.2.2.2 ∧ d.2.2.2.length ≤ 4 := fun d hd => ⟨(dok d hd).1, by have := (dok d hd).2.1; omega⟩
    have dlen : ds.length = c := by
      have := congrArg List.length names
      rw [List.length_map, xtl] at this
      exact this
    have ndl5 : H5 dl = none := su.free ndl
    have ndl0 : H dl = none := k05.free st5 ndl5
    have enm5 := enm
    have apart : ∀ d ∈ ds, d.1 ≠ p ∧ d.2.2.1 ≠ p := fun d hd => ⟨fun z => (st5.upd (o := HO.lst ((xs.take c).map V.str)) npu).some (z ▸ (dok d hd).2.2.1), fun z => (st5.upd (o := HO.lst ((xs.take c).map V.str)) npu).some (z ▸ (dok d hd).2.2.2.1)⟩
    clear su k6 ndl nu dok nodS
    refine' with_restS (fun σ H => ∃ (y6 : Option V) (ds : List DomE), σ = [some (.ref a), some (.ref p), some (.ref pl), some (.int c), some (.ref nm), some (.ref dl), y6, none, none] ∧ Doms H dl ds ∧ ds.map (·.2.1) = xs.take c ∧ (∀ d ∈ ds, Srt d.2.2.2 ∧ d.2.2.2.length ≤ 4) ∧ H nm = some (.lst (xs.map V.str)) ∧ H pl = some (.lst (ns.map V.int)) ∧ SqL K H a (sc.map V.int)) ?r
      (fun rest => ⟨.int c, rfl, (c : Int), 0, rfl, rfl, _, rfl, ite2 (fun c0 => ⟨.ref p, rfl, p, 5, rfl, st6, by decide, by decide, fun H7 e o7 st7 e0 e1 => ⟨rfl, _, rfl, ite2 (fun c1 => ?g) (fun c1 => rest _ _ ?h1)⟩⟩) (fun c0 => rest _ _ ?h2)⟩)
    case h2 => exact ⟨none, ds, rfl, dm, names, dok', enm6, epl6, ha6⟩
    case h1 => exact ⟨none, ds, rfl, dm.keep ((Keep.refl p H6).oth o7) pdl.symm apart, names, dok', (o7 nm nnp).trans enm6, (o7 pl nlp).trans epl6, sq_keep ha np (k06.oth o7)⟩
    case g =>
      have cp : (0 : Int) < c := by simpa using c0
      refine ⟨.ref p, rfl, .int c, rfl, p, c, rfl, st7, cp, by omega, fun H8 j o8 st8 j0 j1 => ?_⟩
      obtain ⟨j, rfl⟩ : ∃ n : Nat, j = (n : Int) := ⟨j.toNat, by omega⟩
      have hj : j < ds.length := by omega
      have k8 : Keep p H6 H8 := ((Keep.refl p H6).oth o7).oth o8
      have dm8 := dm.keep k8 pdl.symm apart
      have gj : (ds.map fun d : DomE => V.ref d.1)[j]? = some (.ref ds[j].1) := by rw [List.getElem?_map, List.getElem?_eq_getElem hj]; rfl
      have tt : SqT K H8 ds[j].1 [V.str ds[j].2.1, V.ref ds[j].2.2.1] := .inl (.inl (dm8.tup _ (List.getElem_mem hj)))
      refine ⟨.ref dl, rfl, .int j, rfl, dl, _, j, .ref ds[j].1, rfl, rfl, sl_map dm8.lst, at_of (j := j) rfl gj, ds[j].1, _, _, .str ds[j].2.1, rfl, rfl, tt, atI_nat (j := 0) rfl, by show 0 ≤ sizeLine; decide, fun Z nZ => ⟨by show 2 ≤ sizeLine; decide, fun T nT => ?_⟩⟩
      have s8 := (same_new (o := HO.lst []) nZ).trans (same_new (o := HO.tup [V.str ds[j].2.1, V.ref Z]) nT)
      refine ⟨.ref dl, rfl, .int j, rfl, dl, _, j, j, rfl, rfl, s8 _ _ dm8.lst, ?_, rest _ _ ?_⟩
      · rw [List.length_map]
        unfold ixN
        rw [if_pos (by omega), if_pos (by omega)] <;> rfl
      · have es : (ds.map fun d : DomE => V.ref d.1).set j (V.ref T) = (ds.set j (T, ds[j].2.1, Z, [])).map fun d => V.ref d.1 := by rw [List.map_set]
        rw [es]
        have D2 := dm8.set_at (x := ds[j].2.1) (j := j) nZ nT
        have k5f := (((K6.trans k8).trans (Keep.same s8)).at_ (o := HO.lst ((ds.set j (T, ds[j].2.1, Z, [])).map fun d => V.ref d.1)) ndl5)
        have k0f := (((k06.trans k8).trans (Keep.same s8)).at_ (o := HO.lst ((ds.set j (T, ds[j].2.1, Z, [])).map fun d => V.ref d.1)) ndl0)
        refine ⟨_, ds.set j (T, ds[j].2.1, Z, []), rfl, D2, ?_, fun d hd => ?_, k5f _ _ nnp enm5, k5f _ _ nlp epl5, sq_keep ha np k0f⟩
        · rw [List.map_set, ← names]
          refine List.ext_getElem? fun i => ?_
          rw [List.getElem?_set]
          split
          · next h => subst h; rw [List.length_map, if_pos hj, List.getElem?_map, List.getElem?_eq_getElem hj] <;> rfl
          · rfl
        · rcases List.mem_or_eq_of_mem_set hd with h | h
          · exact dok' d h
          · rw [h]; exact ⟨.nil, by show 0 ≤ 4; omega⟩
    case r =>
      rintro σ H6 ⟨y6, ds, rfl, dm, names, dok, enm, epl, ha⟩
      -- the second stream, the sides
      have dlen : ds.length = c := by
        have := congrArg List.length names
        rw [List.length_map, xtl] at this
        exact this
      refine ⟨.ref a, rfl, a, sc, 1, rfl, ha, fun H7 p2 s7 np2 st7 => ?_⟩
      intro sd nsd
      have n2s : p2 ≠ sd := fun z => st7.some (z ▸ nsd)
      have t7 := same_new (o := HO.dK []) nsd
      have s67 := s7.trans t7
      have st7' := st7.upd (o := HO.dK []) n2s
      have n2m : p2 ≠ nm := fun z => by rw [z, enm] at np2; cases np2
      have n2l : p2 ≠ pl := fun z => by rw [z, epl] at np2; cases np2
      have n2d : p2 ≠ dl := fun z => by rw [z, dm.lst] at np2; cases np2
      have apart2 : ∀ d ∈ ds, d.1 ≠ p2 ∧ d.2.2.1 ≠ p2 := fun d hd => ⟨(fun z => by have := dm.tup d hd; rw [z, np2] at this; cases this), (fun z => by have := dm.side d hd; rw [z, np2] at this; cases this)⟩
      refine ⟨.ref p2, rfl, .ref nm, rfl, _, rfl, _, rfl, nm, _, rfl, sl_map (s67 _ _ enm), fun v nv => ?_⟩
      rw [ec]
      have n2v : p2 ≠ v := fun z => st7'.some (z ▸ nv)
      have t8 := same_new (o := HO.lst ((xs.take c).map V.str)) nv
      refine ⟨p2, v, xs.take c, rfl, st7'.upd n2v, upd_same, xtn, by omega, n2v, fun H8 l zs k8 nl st8 el znd zsub => ?_⟩
      have nsd7 : H7 sd = none := nsd
      have esd8 : H8 sd = some (.dK []) := k8 _ _ n2s.symm (t8 _ _ upd_same)
      have k78 : Keep p2 H7 H8 := (Keep.same (p := p2) (t7.trans t8)).trans k8
      have k68 : Keep p2 H6 H8 := (Keep.same (p := p2) s7).trans k78
      have n2z : p2 ≠ l := fun z => (st7'.upd (o := HO.lst ((xs.take c).map V.str)) n2v).some (z ▸ nl)
      have lsd : l ≠ sd := fun z => by rw [z, esd8] at el; cases el
      have h7p : H7 p2 ≠ none := st7.some
      refine ⟨l, rfl, ⟨_, sl_map el⟩, for_list (xs := zs.map V.str) (fun i σ H' => ∃ (M : List Ent) (y8 : Option V), σ = [some (.ref a), some (.ref p2), some (.ref pl), some (.int c), some (.ref nm), some (.ref dl), y6, some (.ref sd), y8] ∧ Keep p2 H7 H' ∧ Strm H' p2 ∧ H' l = some (.lst (zs.map V.str)) ∧ Nb H7 H' sd M ∧ M.map (·.1) = zs.take i ∧ ∀ e ∈ M, e.2.2.length ≤ 31)
        ⟨[], _, rfl, k78, st8, el, Nb.nil nsd7 esd8, rfl, (fun _ h => nomatch h)⟩ (fun i σ H' _ h => by obtain ⟨M, y8, _, _, _, h, _⟩ := h; exact sl_map h) ?_ ?_⟩
      · rintro i x σ H' hx ⟨M, y8, rfl, k7, st', el', nb, ks, ml⟩
        rw [List.getElem?_map] at hx
        obtain ⟨z, hv, rfl⟩ := Option.map_eq_some_iff.mp hx
        have hi := (List.getElem?_eq_some_iff.mp hv).1
        have tk : zs.take (i + 1) = zs.take i ++ [z] := by rw [List.take_add_one, hv] <;> rfl
        have zx : z ∈ xs.take c := zsub z (List.mem_of_getElem? hv)
        obtain ⟨j, hjt⟩ := List.mem_iff_getElem?.mp zx
        have hjx : xs[j]? = some z := by
          rw [List.getElem?_take] at hjt
          split at hjt
          · exact hjt
          · cases hjt
        have hjd : (ds.map (·.2.1))[j]? = some z := by rw [names]; exact hjt
        rw [List.getElem?_map] at hjd
        obtain ⟨d, hd, dz⟩ := Option.map_eq_some_iff.mp hjd
        have dmem := List.mem_of_getElem? hd
        have k6 : Keep p2 H6 H' := (Keep.same (p := p2) s7).trans k7
        have dm' := dm.keep k6 n2d.symm apart2
        have enm' := k6 _ _ n2m.symm enm
        have epl' := k6 _ _ n2l.symm epl
        have gj : (ds.map fun d : DomE => V.ref d.1)[j]? = some (.ref d.1) := by rw [List.getElem?_map, hd] <;> rfl
        have gx : (xs.map V.str)[j]? = some (.str z) := by rw [List.getElem?_map, hjx] <;> rfl
        have tt : SqT K H' d.1 [V.str d.2.1, V.ref d.2.2.1] := .inl (.inl (dm'.tup d dmem))
        have eqs : ∀ x y : Str, eqV (.str x) (.str y) = decide (x = y) := fun x y => by
          first
            | rfl
            | (show (x == y) = _; by_cases h : x = y <;> simp [h])
        have lM : M.length = i := by
          have := congrArg List.length ks
          rw [List.length_map, List.length_take] at this
          omega
        have zl : zs.length ≤ 30 := by
          have := List.Nodup.length_le_of_subset znd (fun y hy => zsub y hy)
          omega
        have xn : z ∉ M.map (·.1) := fun w => by
          rw [ks] at w
          obtain ⟨j, hj⟩ := List.mem_iff_getElem?.mp w
          rw [List.getElem?_take] at hj
          split at hj
          · next lt => exact absurd (nd_ix znd hj hv) (by omega)
          · cases hj
        have lenK : (entK M).length < sizeLine := by rw [entK_len]; exact small1000 (by omega)
        have o1 := (dok d dmem).1
        have o2 := (dok d dmem).2
        refine ⟨.ref p2, rfl, .ref dl, rfl, .ref nm, rfl, .inl ⟨rfl, _, sl_map enm'⟩, .str z, rfl, nm, _, .str z, j, .str z, rfl, rfl, sl_map enm', rfl, flats_str xs, gx, by rw [eqs]; exact decide_eq_true rfl, fun m z' hm hz' => ?_, dl, _, j, .ref d.1, rfl, rfl, sl_map dm'.lst, at_of (j := j) rfl gj, d.1, _, _, .ref d.2.2.1, rfl, rfl, tt, atI_nat (j := 1) rfl, .ref pl, rfl, p2, d.2.2.1, pl, d.2.2.2, ns, rfl, st', dm'.side d dmem, epl', (apart2 d dmem).2.symm, n2l, o1, srt, by omega, by omega, by omega, fun H9 l2 ms k9 nl2 st9 el2 ms1 ms2 => ?_⟩
        · rw [List.getElem?_map] at hz'
          obtain ⟨y, hy, rfl⟩ := Option.map_eq_some_iff.mp hz'
          rw [eqs]
          refine decide_eq_false fun e => ?_
          subst e
          have := nd_ix xnd hy hjx
          omega
        · have n0 : H7 l2 = none := k7.free st' nl2
          have nb9 := nb.keep h7p k9
          have nlM : l2 ∉ M.map (·.2.1) := fun w => by
            obtain ⟨e, he, e1⟩ := List.mem_map.mp w
            have := nb.sides e he
            rw [e1, nl2] at this
            cases this
          refine ⟨.ref sd, rfl, .str z, rfl, sd, _, rfl, DPut.k (k := .inr z) (k9 _ _ n2s.symm nb.un) lenK, ?_⟩
          rw [putK_ent (s := ms), putE_new xn]
          refine ⟨M ++ [(z, l2, ms)], _, rfl, (k7.trans k9).at_ nsd7, st9.upd n2s, ?_, nb9.alias n0 el2 xn nlM (by omega), ?_, fun e he => ?_⟩
          · rw [upd_ne lsd]; exact k9 _ _ n2z.symm el'
          · rw [List.map_append, ks, tk] <;> rfl
          · rcases List.mem_append.mp he with h | h
            · exact ml e h
            · rw [List.mem_singleton.mp h]; show ms.length ≤ 31; omega
      · rintro σ H9 ⟨M, y8, rfl, k7, st', el', nb, ks, ml⟩
        rw [List.length_map, List.take_length] at ks
        have k6 : Keep p2 H6 H9 := (Keep.same (p := p2) s7).trans k7
        have dm' := dm.keep k6 n2d.symm apart2
        have enm' := k6 _ _ n2m.symm enm
        have epl' := k6 _ _ n2l.symm epl
        have nod : (ds.map (·.2.1)).Nodup := by rw [names]; exact xtn
        have zl : zs.length ≤ c := by
          have := List.Nodup.length_le_of_subset znd (fun y hy => zsub y hy)
          omega
        have lM : M.length ≤ 30 := by
          have := congrArg List.length ks
          rw [List.length_map] at this
          omega
        have sub : ∀ e ∈ M, e.1 ∈ ds.map (·.2.1) := fun e he => by
          rw [names]
          exact zsub _ (ks ▸ List.mem_map_of_mem he)
        have sok : ∀ d ∈ ds, PyData.strOk d.2.1 = true := fun d hd => xok _ (List.mem_of_mem_take (names ▸ List.mem_map_of_mem (f := fun d : DomE => d.2.1) hd))
        have bu := nb.toBu
        have away : ∀ e ∈ M, e.2.1 ≠ p2 := fun e he z => h7p (z ▸ nb.freshS e he)
        refine ⟨.ref sd, rfl, .ref dl, rfl, sd, dl, M, ds, rfl, bu, dm', nod, by omega, sub, (fun d hd => ⟨(dok d hd).1, by have := (dok d hd).2; omega⟩), ml, sok, fun H10 s10 => ⟨true, rfl, iteF ?_⟩⟩
        have st10 : Strm H10 p2 := by
          obtain ⟨x1, x2, x3, e⟩ := st'
          exact ⟨x1, x2, x3, s10 _ _ e⟩
        refine ⟨.ref p2, rfl, p2, 3, rfl, st10, by decide, by decide, fun H11 e o11 st11 e0 e1 => ⟨e, 0, rfl, rfl, _, rfl, ite2 (fun c1 => q _) (fun c1 => ?_)⟩⟩
        have k11 : Keep p2 H9 H11 := (Keep.same (p := p2) s10).oth o11
        have ed : cutV (xs.map V.str) (some (c : Int)) none = (xs.drop c).map V.str := by rw [cutV_from, List.map_drop]
        have enm'' := k11 _ _ n2m.symm enm'
        have epl'' := k11 _ _ n2l.symm epl'
        refine ⟨.ref p2, rfl, .ref sd, rfl, .ref dl, rfl, .ref nm, rfl, _, rfl, _, rfl, nm, _, rfl, sl_map enm'', fun w nw => ?_⟩
        rw [ed]
        have n2w : p2 ≠ w := fun z => st11.some (z ▸ nw)
        have tw := same_new (o := HO.lst ((xs.drop c).map V.str)) nw
        have kf : Keep p2 H9 _ := k11.trans (Keep.same tw)
        refine ⟨.ref pl, rfl, p2, sd, dl, w, pl, M, ds, xs.drop c, ns, rfl, st11.upd n2w, bu.keep st' kf away, dm'.keep kf n2d.symm apart2, upd_same, tw _ _ epl'', nod, by omega, lM, sub, ml, sok, xnd.sublist (List.drop_sublist c xs), by rw [List.length_drop]; omega, by rw [List.length_drop]; omega, fun x hx z => ?_, by omega, n2s, n2d, n2w, n2l, away, apart2, fun H' _ _ => q H'⟩
        rw [names] at z
        have hx2 : xs.take c ++ xs.drop c = xs := List.take_append_drop c xs
        rw [← hx2] at xnd
        exact (List.nodup_append.mp xnd).2.2 x z x hx rfl
end
end K2

set_option Elab.async false
set_option linter.all false
set_option maxRecDepth 100000
set_option maxHeartbeats 4000000
namespace K2
open PySem PySem.Spec PyProof.Rows L2 Cs CsX
/-! ### what the top has written -/
theorem all_mk {l : PySem.W.OpenLaw} {w : World} {K : PySem.W.Frag} {h : Heap} {mg : Str → Option Value} {fa f1 f2 f3 f4 f5 f6 f7 f8 f9 f10 f11 f12 f13 f14 f15 f16 f17 f18 f19 f20 f21 f22 f23 e0 e1 e2 e3 e4 e5 e6 e7 e8 e9 e10 e11 e12 e13 e14 e15 e16 e17 e18 e19 e20 e21 e22 e23 e24 i0 : Addr} (X : K.In h) (G : h.Ns mainGlobals mg) (hfa : mg "law" = some (.ref fa))
    {od1 an1 od2 an2 od3 an3 od4 an4 od5 an5 od6 an6 od7 an7 od8 an8 od9 an9 od10 an10 od11 an11 od12 an12 od13 an13 od14 an14 od15 an15 od16 an16 od17 an17 od18 an18 od19 an19 od20 an20 od21 an21 od22 an22 od23 an23 : Option Addr} {sl1 sl2 sl3 sl4 sl5 sl6 sl7 sl8 sl9 sl10 sl11 sl12 sl13 sl14 sl15 sl16 sl17 sl18 sl19 sl20 sl21 sl22 sl23 : Array (Option Value)}
    {oc1 kV1 dc1 pm1 cd1 ct1 oc2 kV2 dc2 pm2 cd2 ct2 oc3 kV3 dc3 pm3 cd3 ct3 oc4 kV4 dc4 pm4 cd4 ct4 oc5 kV5 dc5 pm5 cd5 ct5 oc6 kV6 dc6 pm6 cd6 ct6 oc7 kV7 dc7 pm7 cd7 ct7 oc8 kV8 dc8 pm8 cd8 ct8 oc9 kV9 dc9 pm9 cd9 ct9 oc10 kV10 dc10 pm10 cd10 ct10 oc11 kV11 dc11 pm11 cd11 ct11 oc12 kV12 dc12 pm12 cd12 ct12 oc13 kV13 dc13 pm13 cd13 ct13 oc14 kV14 dc14 pm14 cd14 ct14 oc15 kV15 dc15 pm15 cd15 ct15 oc16 kV16 dc16 pm16 cd16 ct16 oc17 kV17 dc17 pm17 cd17 ct17 oc18 kV18 dc18 pm18 cd18 ct18 oc19 kV19 dc19 pm19 cd19 ct19 oc20 kV20 dc20 pm20 cd20 ct20 oc21 kV21 dc21 pm21 cd21 ct21 oc22 kV22 dc22 pm22 cd22 ct22 oc23 kV23 dc23 pm23 cd23 ct23 : Value}
    {iod0 ian0 : Option Addr} {isl0 : Array (Option Value)} {ioc0 ikV0 idc0 ipm0 icd0 ict0 : Value} {nm0 q0 : Str} {N0 : Addr} {bs0 : List Value} {sn0 : List Str} {sub0 : List Value} {ab0 : Bool} {col0 : Option Bool} {dd0 : Option Addr} {m00 m10 m20 m30 m50 : Option Value}
    (a1 : PySem.W.nsIn K mainGlobals "common" = some (some (.ref f1))) (l1 : K.lookup f1 = some ⟨oc1, od1, .func (PySem.W.fnOf "common" "common" (defArgs sCommon) (defBody sCommon) (defScope sCommon) .none kV1 dc1 pm1 an1 cd1 ct1), sl1⟩) (c1 : PySem.W.codeIn K cd1 "common" = true) (k1 : PySem.W.keepIn K (.ref f1) = true)
    (a2 : PySem.W.nsIn K mainGlobals "filled" = some (some (.ref f2))) (l2 : K.lookup f2 = some ⟨oc2, od2, .func (PySem.W.fnOf "filled" "filled" (defArgs sFilled) (defBody sFilled) (defScope sFilled) .none kV2 dc2 pm2 an2 cd2 ct2), sl2⟩) (c2 : PySem.W.codeIn K cd2 "filled" = true) (k2 : PySem.W.keepIn K (.ref f2) = true)
    (a3 : PySem.W.nsIn K mainGlobals "trimmed" = some (some (.ref f3))) (l3 : K.lookup f3 = some ⟨oc3, od3, .func (PySem.W.fnOf "trimmed" "trimmed" (defArgs sTrim) (defBody sTrim) (defScope sTrim) .none kV3 dc3 pm3 an3 cd3 ct3), sl3⟩) (c3 : PySem.W.codeIn K cd3 "trimmed" = true) (k3 : PySem.W.keepIn K (.ref f3) = true)
    (a4 : PySem.W.nsIn K mainGlobals "_check_names" = some (some (.ref f4))) (l4 : K.lookup f4 = some ⟨oc4, od4, .func (PySem.W.fnOf "_check_names" "_check_names" (defArgs sCheck) (defBody sCheck) (defScope sCheck) .none kV4 dc4 pm4 an4 cd4 ct4), sl4⟩) (c4 : PySem.W.codeIn K cd4 "_check_names" = true) (k4 : PySem.W.keepIn K (.ref f4) = true)
    (a5 : PySem.W.nsIn K mainGlobals "_law_is_integer" = some (some (.ref f5))) (l5 : K.lookup f5 = some ⟨oc5, od5, .func (PySem.W.fnOf "_law_is_integer" "_law_is_integer" (defArgs sIsInt) (defBody sIsInt) (defScope sIsInt) .none kV5 dc5 pm5 an5 cd5 ct5), sl5⟩) (c5 : PySem.W.codeIn K cd5 "_law_is_integer" = true) (k5 : PySem.W.keepIn K (.ref f5) = true)
    (a6 : PySem.W.nsIn K mainGlobals "_law_stream" = some (some (.ref f6))) (l6 : K.lookup f6 = some ⟨oc6, od6, .func (PySem.W.fnOf "_law_stream" "_law_stream" (defArgs sStream) (defBody sStream) (defScope sStream) .none kV6 dc6 pm6 an6 cd6 ct6), sl6⟩) (c6 : PySem.W.codeIn K cd6 "_law_stream" = true) (k6 : PySem.W.keepIn K (.ref f6) = true)
    (a7 : PySem.W.nsIn K mainGlobals "_law_next" = some (some (.ref f7))) (l7 : K.lookup f7 = some ⟨oc7, od7, .func (PySem.W.fnOf "_law_next" "_law_next" (defArgs sDraw) (defBody sDraw) (defScope sDraw) .none kV7 dc7 pm7 an7 cd7 ct7), sl7⟩) (c7 : PySem.W.codeIn K cd7 "_law_next" = true) (k7 : PySem.W.keepIn K (.ref f7) = true)
    (a8 : PySem.W.nsIn K mainGlobals "_law_names" = some (some (.ref f8))) (l8 : K.lookup f8 = some ⟨oc8, od8, .func (PySem.W.fnOf "_law_names" "_law_names" (defArgs sNames) (defBody sNames) (defScope sNames) .none kV8 dc8 pm8 an8 cd8 ct8), sl8⟩) (c8 : PySem.W.codeIn K cd8 "_law_names" = true) (k8 : PySem.W.keepIn K (.ref f8) = true)
    (a9 : PySem.W.nsIn K mainGlobals "_law_pool" = some (some (.ref f9))) (l9 : K.lookup f9 = some ⟨oc9, od9, .func (PySem.W.fnOf "_law_pool" "_law_pool" (defArgs sPool) (defBody sPool) (defScope sPool) .none kV9 dc9 pm9 an9 cd9 ct9), sl9⟩) (c9 : PySem.W.codeIn K cd9 "_law_pool" = true) (k9 : PySem.W.keepIn K (.ref f9) = true)
    (a10 : PySem.W.nsIn K mainGlobals "_law_domains" = some (some (.ref f10))) (l10 : K.lookup f10 = some ⟨oc10, od10, .func (PySem.W.fnOf "_law_domains" "_law_domains" (defArgs sDoms) (defBody sDoms) (defScope sDoms) .none kV10 dc10 pm10 an10 cd10 ct10), sl10⟩) (c10 : PySem.W.codeIn K cd10 "_law_domains" = true) (k10 : PySem.W.keepIn K (.ref f10) = true)
    (a11 : PySem.W.nsIn K mainGlobals "_law_part" = some (some (.ref f11))) (l11 : K.lookup f11 = some ⟨oc11, od11, .func (PySem.W.fnOf "_law_part" "_law_part" (defArgs sPart) (defBody sPart) (defScope sPart) .none kV11 dc11 pm11 an11 cd11 ct11), sl11⟩) (c11 : PySem.W.codeIn K cd11 "_law_part" = true) (k11 : PySem.W.keepIn K (.ref f11) = true)
    (a12 : PySem.W.nsIn K mainGlobals "_law_is_side" = some (some (.ref f12))) (l12 : K.lookup f12 = some ⟨oc12, od12, .func (PySem.W.fnOf "_law_is_side" "_law_is_side" (defArgs sIsSide) (defBody sIsSide) (defScope sIsSide) .none kV12 dc12 pm12 an12 cd12 ct12), sl12⟩) (c12 : PySem.W.codeIn K cd12 "_law_is_side" = true) (k12 : PySem.W.keepIn K (.ref f12) = true)
    (a13 : PySem.W.nsIn K mainGlobals "_law_same_sides" = some (some (.ref f13))) (l13 : K.lookup f13 = some ⟨oc13, od13, .func (PySem.W.fnOf "_law_same_sides" "_law_same_sides" (defArgs sSame) (defBody sSame) (defScope sSame) .none kV13 dc13 pm13 an13 cd13 ct13), sl13⟩) (c13 : PySem.W.codeIn K cd13 "_law_same_sides" = true) (k13 : PySem.W.keepIn K (.ref f13) = true)
    (a14 : PySem.W.nsIn K mainGlobals "_law_listed" = some (some (.ref f14))) (l14 : K.lookup f14 = some ⟨oc14, od14, .func (PySem.W.fnOf "_law_listed" "_law_listed" (defArgs sListed) (defBody sListed) (defScope sListed) .none kV14 dc14 pm14 an14 cd14 ct14), sl14⟩) (c14 : PySem.W.codeIn K cd14 "_law_listed" = true) (k14 : PySem.W.keepIn K (.ref f14) = true)
    (a15 : PySem.W.nsIn K mainGlobals "_law_drawn_side" = some (some (.ref f15))) (l15 : K.lookup f15 = some ⟨oc15, od15, .func (PySem.W.fnOf "_law_drawn_side" "_law_drawn_side" (defArgs sDS) (defBody sDS) (defScope sDS) .none kV15 dc15 pm15 an15 cd15 ct15), sl15⟩) (c15 : PySem.W.codeIn K cd15 "_law_drawn_side" = true) (k15 : PySem.W.keepIn K (.ref f15) = true)
    (a16 : PySem.W.nsIn K mainGlobals "_law_full" = some (some (.ref f16))) (l16 : K.lookup f16 = some ⟨oc16, od16, .func (PySem.W.fnOf "_law_full" "_law_full" (defArgs sFull) (defBody sFull) (defScope sFull) .none kV16 dc16 pm16 an16 cd16 ct16), sl16⟩) (c16 : PySem.W.codeIn K cd16 "_law_full" = true) (k16 : PySem.W.keepIn K (.ref f16) = true)
    (a17 : PySem.W.nsIn K mainGlobals "_law_slim" = some (some (.ref f17))) (l17 : K.lookup f17 = some ⟨oc17, od17, .func (PySem.W.fnOf "_law_slim" "_law_slim" (defArgs sSlim) (defBody sSlim) (defScope sSlim) .none kV17 dc17 pm17 an17 cd17 ct17), sl17⟩) (c17 : PySem.W.codeIn K cd17 "_law_slim" = true) (k17 : PySem.W.keepIn K (.ref f17) = true)
    (a18 : PySem.W.nsIn K mainGlobals "_law_copied" = some (some (.ref f18))) (l18 : K.lookup f18 = some ⟨oc18, od18, .func (PySem.W.fnOf "_law_copied" "_law_copied" (defArgs sCopied) (defBody sCopied) (defScope sCopied) .none kV18 dc18 pm18 an18 cd18 ct18), sl18⟩) (c18 : PySem.W.codeIn K cd18 "_law_copied" = true) (k18 : PySem.W.keepIn K (.ref f18) = true)
    (a19 : PySem.W.nsIn K mainGlobals "_law_new" = some (some (.ref f19))) (l19 : K.lookup f19 = some ⟨oc19, od19, .func (PySem.W.fnOf "_law_new" "_law_new" (defArgs sLNew) (defBody sLNew) (defScope sLNew) .none kV19 dc19 pm19 an19 cd19 ct19), sl19⟩) (c19 : PySem.W.codeIn K cd19 "_law_new" = true) (k19 : PySem.W.keepIn K (.ref f19) = true)
    (a20 : PySem.W.nsIn K mainGlobals "_law_formed" = some (some (.ref f20))) (l20 : K.lookup f20 = some ⟨oc20, od20, .func (PySem.W.fnOf "_law_formed" "_law_formed" (defArgs sFormed) (defBody sFormed) (defScope sFormed) .none kV20 dc20 pm20 an20 cd20 ct20), sl20⟩) (c20 : PySem.W.codeIn K cd20 "_law_formed" = true) (k20 : PySem.W.keepIn K (.ref f20) = true)
    (a21 : PySem.W.nsIn K mainGlobals "_law_told_name" = some (some (.ref f21))) (l21 : K.lookup f21 = some ⟨oc21, od21, .func (PySem.W.fnOf "_law_told_name" "_law_told_name" (defArgs sTold) (defBody sTold) (defScope sTold) .none kV21 dc21 pm21 an21 cd21 ct21), sl21⟩) (c21 : PySem.W.codeIn K cd21 "_law_told_name" = true) (k21 : PySem.W.keepIn K (.ref f21) = true)
    (a22 : PySem.W.nsIn K mainGlobals "_law_refused" = some (some (.ref f22))) (l22 : K.lookup f22 = some ⟨oc22, od22, .func (PySem.W.fnOf "_law_refused" "_law_refused" (defArgs sRef) (defBody sRef) (defScope sRef) .none kV22 dc22 pm22 an22 cd22 ct22), sl22⟩) (c22 : PySem.W.codeIn K cd22 "_law_refused" = true) (k22 : PySem.W.keepIn K (.ref f22) = true)
    (a23 : PySem.W.nsIn K mainGlobals "law" = some (some (.ref f23))) (l23 : K.lookup f23 = some ⟨oc23, od23, .func (PySem.W.fnOf "law" "law" (defArgs sLaw) (defBody sLaw) (defScope sLaw) .none kV23 dc23 pm23 an23 cd23 ct23), sl23⟩) (c23 : PySem.W.codeIn K cd23 "law" = true) (k23 : PySem.W.keepIn K (.ref f23) = true)
    (cg0 : PySem.W.nsIn K mainGlobals "UnknownName" = some (some (.ref e0)))
    (cg1 : PySem.W.nsIn K mainGlobals "DeskError" = some (some (.ref e1)))
    (cg2 : PySem.W.nsIn K mainGlobals "RepeatedName" = some (some (.ref e2)))
    (cg3 : PySem.W.nsIn K mainGlobals "UnknownValue" = some (some (.ref e3)))
    (cg4 : PySem.W.nsIn K mainGlobals "RepeatedValue" = some (some (.ref e4)))
    (cg5 : PySem.W.nsIn K mainGlobals "UnknownKey" = some (some (.ref e5)))
    (cg6 : PySem.W.nsIn K mainGlobals "RepeatedKey" = some (some (.ref e6)))
    (cg7 : PySem.W.nsIn K mainGlobals "EmptyRule" = some (some (.ref e7)))
    (cg8 : PySem.W.nsIn K mainGlobals "BadRow" = some (some (.ref e8)))
    (cg9 : PySem.W.nsIn K mainGlobals "BadBounds" = some (some (.ref e9)))
    (cg10 : PySem.W.nsIn K mainGlobals "BadNumber" = some (some (.ref e10)))
    (cg11 : PySem.W.nsIn K mainGlobals "BadStep" = some (some (.ref e11)))
    (cg12 : PySem.W.nsIn K mainGlobals "NoMark" = some (some (.ref e12)))
    (cg13 : PySem.W.nsIn K mainGlobals "NotStruck" = some (some (.ref e13)))
    (cg14 : PySem.W.nsIn K mainGlobals "BadOrder" = some (some (.ref e14)))
    (cg15 : PySem.W.nsIn K mainGlobals "NotBare" = some (some (.ref e15)))
    (cg16 : PySem.W.nsIn K mainGlobals "NoClash" = some (some (.ref e16)))
    (cg17 : PySem.W.nsIn K mainGlobals "HoldsAnswer" = some (some (.ref e17)))
    (cg18 : PySem.W.nsIn K mainGlobals "BadLine" = some (some (.ref e18)))
    (cg19 : PySem.W.nsIn K mainGlobals "UnknownLine" = some (some (.ref e19)))
    (cg20 : PySem.W.nsIn K mainGlobals "BadText" = some (some (.ref e20)))
    (cg21 : PySem.W.nsIn K mainGlobals "NothingToUndo" = some (some (.ref e21)))
    (cg22 : PySem.W.nsIn K mainGlobals "NothingToRedo" = some (some (.ref e22)))
    (cg23 : PySem.W.nsIn K mainGlobals "UnknownStep" = some (some (.ref e23)))
    (cg24 : PySem.W.nsIn K mainGlobals "BadDeed" = some (some (.ref e24)))
    (x0 : K.lookup e0 = some (excClassObj nm0 q0 e0 N0 bs0 [.ref e1, .type "ValueError", .type "Exception", .type "BaseException", .type "object"] true sn0 sub0 ab0 col0 dd0 m00 m10 m20 m30 m50 "ValueError.__new__"))
    (xsa0 : PySem.W.findIn K (.ref e0) "__setattr__" = some (some (.builtin "object.__setattr__")))
    (xga0 : PySem.W.findIn K (.ref e0) "__getattribute__" = some (some (.builtin "BaseException.__getattribute__")))
    (xgg0 : PySem.W.findIn K (.ref e0) "__getattr__" = some none)
    (xf0_0 : PySem.W.findIn K (.ref e0) "name" = some none)
    (xin0 : PySem.W.findIn K (.ref e0) "__init__" = some (some (.ref i0)))
    (xti0 : PySem.W.typeIn K (.ref i0) = some (.type "function"))
    (xli0 : K.lookup i0 = some ⟨ioc0, iod0, .func (PySem.W.fnOf "__init__" "UnknownName.__init__" (defArgs sUnk) (defBody sUnk) (defScope sUnk) .none ikV0 idc0 ipm0 ian0 icd0 ict0), isl0⟩)
    (xci0 : PySem.W.codeIn K icd0 "UnknownName.__init__" = true)
    (xki0 : PySem.W.keepIn K (.ref i0) = true)
    (xkc0 : PySem.W.keepIn K (.ref e0) = true)
    (xec0 : PySem.W.subIn K (.ref e0) (.type "BaseException") = some true)
    (xtc0 : PySem.W.typeIn K (.ref e0) = some (.type "type"))
    (xhc0 : PySem.W.hasDictIn K e0 = true)
    (xsc0 : PySem.W.subIn K (.ref e0) (.ref e0) = some true)
    (xha0 : PySem.W.findIn K (.ref e0) "__class__" = some (some (.builtin "object.__class__")))
    (xhn0 : PySem.W.specialIn K (.builtin "object.__class__") "__get__" = some (some (.builtin "getset_descriptor.__get__")))
    (xht0 : PySem.W.takesIn K (.builtin "object.__class__") = some true)
    (xhm0 : PySem.W.mroIn K e0 (.type "object") = some true)
    (ran0 : PySem.W.kitAny K (.ref e0) [.ref e2, .ref e3, .ref e4, .ref e5, .ref e6, .ref e7, .ref e8, .ref e9, .ref e10, .ref e11, .ref e12, .ref e13, .ref e14, .ref e15, .ref e16, .ref e17, .ref e18, .ref e19, .ref e20, .ref e21, .ref e22, .ref e23, .ref e24] = some false)
    (rkd0 : PySem.W.kitOne K (.ref e0) (.ref e1) = some true)
    (rkv0 : PySem.W.kitOne K (.ref e0) (.type "ValueError") = some true)
    (z1 : PySem.W.nsIn K mainGlobals "sorted" = some none) (z2 : PySem.W.nsIn K mainGlobals "set" = some none) (z3 : PySem.W.nsIn K mainGlobals "len" = some none) (z4 : PySem.W.nsIn K mainGlobals "isinstance" = some none) (z5 : PySem.W.nsIn K mainGlobals "int" = some none) (z6 : PySem.W.nsIn K mainGlobals "bool" = some none) (z7 : PySem.W.nsIn K mainGlobals "list" = some none) (z8 : PySem.W.nsIn K mainGlobals "all" = some none) (z9 : PySem.W.nsIn K mainGlobals "range" = some none) (z10 : PySem.W.nsIn K mainGlobals "dict" = some none) (z11 : PySem.W.nsIn K mainGlobals "ValueError" = some none) (z12 : PySem.W.nsIn K mainGlobals "str" = some none) :
    ∃ fd : FuncData, (∀ (s : Shared) (v : Value), BindsTo s fd ⟨[v], []⟩ [("_law_script", v)]) ∧ ∀ base : Heap, K.In base → base.Ns mainGlobals mg → FnOk l.prog w K mg base CX0 8 fa fd ["_law_script"] (spLaw K) := by
  have e := hfa.symm.trans (PySem.W.mg_of X G a23)
  cases e
  have B : Bt mg := ⟨PySem.W.mg_none_of X G z1, PySem.W.mg_none_of X G z2, PySem.W.mg_none_of X G z3, PySem.W.mg_none_of X G z4, PySem.W.mg_none_of X G z5, PySem.W.mg_none_of X G z6, PySem.W.mg_none_of X G z7, PySem.W.mg_none_of X G z8, PySem.W.mg_none_of X G z9, PySem.W.mg_none_of X G z10⟩
  have F1 := fun_mk (st := sCommon) l1 c1 k1
  have b1 := F1.binds (ps := ["first", "second"]) fun _ _ _ _ _ _ us hl => match us, hl with | [_, _], _ => rfl
  have F2 := fun_mk (st := sFilled) l2 c2 k2
  have b2 := F2.binds (ps := ["box", "domains"]) fun _ _ _ _ _ _ us hl => match us, hl with | [_, _], _ => rfl
  have F3 := fun_mk (st := sTrim) l3 c3 k3
  have b3 := F3.binds (ps := ["box", "domains"]) fun _ _ _ _ _ _ us hl => match us, hl with | [_, _], _ => rfl
  have F4 := fun_mk (st := sCheck) l4 c4 k4
  have b4 := F4.binds (ps := ["box", "domains"]) fun _ _ _ _ _ _ us hl => match us, hl with | [_, _], _ => rfl
  have F5 := fun_mk (st := sIsInt) l5 c5 k5
  have b5 := F5.binds (ps := ["_law_actual"]) fun _ _ _ _ _ _ us hl => match us, hl with | [_], _ => rfl
  have F6 := fun_mk (st := sStream) l6 c6 k6
  have b6 := F6.binds (ps := ["_law_script", "_law_k"]) fun _ _ _ _ _ _ us hl => match us, hl with | [_, _], _ => rfl
  have F7 := fun_mk (st := sDraw) l7 c7 k7
  have b7 := F7.binds (ps := ["_law_stream_here", "_law_size"]) fun _ _ _ _ _ _ us hl => match us, hl with | [_, _], _ => rfl
  have F8 := fun_mk (st := sNames) l8 c8 k8
  have b8 := F8.binds (ps := ["_law_stream_here", "_law_count"]) fun _ _ _ _ _ _ us hl => match us, hl with | [_, _], _ => rfl
  have F9 := fun_mk (st := sPool) l9 c9 k9
  have b9 := F9.binds (ps := ["_law_stream_here", "_law_count"]) fun _ _ _ _ _ _ us hl => match us, hl with | [_, _], _ => rfl
  have F10 := fun_mk (st := sDoms) l10 c10 k10
  have b10 := F10.binds (ps := ["_law_stream_here", "_law_names_here", "_law_pool_here", "_law_most"]) fun _ _ _ _ _ _ us hl => match us, hl with | [_, _, _, _], _ => rfl
  have F11 := fun_mk (st := sPart) l11 c11 k11
  have b11 := F11.binds (ps := ["_law_stream_here", "_law_side"]) fun _ _ _ _ _ _ us hl => match us, hl with | [_, _], _ => rfl
  have F12 := fun_mk (st := sIsSide) l12 c12 k12
  have b12 := F12.binds (ps := ["_law_actual"]) fun _ _ _ _ _ _ us hl => match us, hl with | [_], _ => rfl
  have F13 := fun_mk (st := sSame) l13 c13 k13
  have b13 := F13.binds (ps := ["_law_actual", "_law_expected"]) fun _ _ _ _ _ _ us hl => match us, hl with | [_, _], _ => rfl
  have F14 := fun_mk (st := sListed) l14 c14 k14
  have b14 := F14.binds (ps := ["_law_stream_here", "_law_names_here"]) fun _ _ _ _ _ _ us hl => match us, hl with | [_, _], _ => rfl
  have F15 := fun_mk (st := sDS) l15 c15 k15
  have b15 := F15.binds (ps := ["_law_stream_here", "_law_side", "_law_pool_here"]) fun _ _ _ _ _ _ us hl => match us, hl with | [_, _, _], _ => rfl
  have F16 := fun_mk (st := sFull) l16 c16 k16
  have b16 := F16.binds (ps := ["_law_sides", "_law_domains_here"]) fun _ _ _ _ _ _ us hl => match us, hl with | [_, _], _ => rfl
  have F17 := fun_mk (st := sSlim) l17 c17 k17
  have b17 := F17.binds (ps := ["_law_full_here", "_law_domains_here"]) fun _ _ _ _ _ _ us hl => match us, hl with | [_, _], _ => rfl
  have F18 := fun_mk (st := sCopied) l18 c18 k18
  have b18 := F18.binds (ps := ["_law_sides"]) fun _ _ _ _ _ _ us hl => match us, hl with | [_], _ => rfl
  have F19 := fun_mk (st := sLNew) l19 c19 k19
  have b19 := F19.binds (ps := ["_law_told", "_law_expected"]) fun _ _ _ _ _ _ us hl => match us, hl with | [_, _], _ => rfl
  have F20 := fun_mk (st := sFormed) l20 c20 k20
  have b20 := F20.binds (ps := ["_law_sides", "_law_domains_here"]) fun _ _ _ _ _ _ us hl => match us, hl with | [_, _], _ => rfl
  have F21 := fun_mk (st := sTold) l21 c21 k21
  have b21 := F21.binds (ps := ["_law_short", "_law_sides", "_law_domains_here"]) fun _ _ _ _ _ _ us hl => match us, hl with | [_, _, _], _ => rfl
  have F22 := fun_mk (st := sRef) l22 c22 k22
  have b22 := F22.binds (ps := ["_law_stream_here", "_law_sides", "_law_domains_here", "_law_strangers", "_law_pool_here"]) fun _ _ _ _ _ _ us hl => match us, hl with | [_, _, _, _, _], _ => rfl
  have F23 := fun_mk (st := sLaw) l23 c23 k23
  have U0 : Own K mg "UnknownName" e0 i0 ["name"] := { gC := PySem.W.mg_of X G cg0, oex := ⟨⟨nm0, q0, N0, bs0, _, sn0, sub0, ab0, col0, dd0, m00, m10, m20, m30, m50, x0, rfl⟩, xsa0, xec0, xtc0, xkc0⟩, xf := ⟨xga0, xgg0, xec0, xhc0⟩, iC := xin0, tI := xti0, ex := ⟨xga0, xgg0, xec0, xhc0, xha0, xhn0, xht0, xhm0⟩, te := PySem.W.exm_ref xec0 xhc0 xtc0 xsc0, no := (fun f hf => (List.mem_singleton.mp hf) ▸ xf0_0) }
  have I0 := fun_mk (st := sUnk) xli0 xci0 xki0
  have ib0 := I0.binds (ps := ["self", "name"]) fun _ _ _ _ _ _ us hl => match us, hl with | [_, _], _ => rfl
  have at0 : ∀ (i : Nat) (x : Str), others[i]? = some x → mg x = some (.ref (([e2, e3, e4, e5, e6, e7, e8, e9, e10, e11, e12, e13, e14, e15, e16, e17, e18, e19, e20, e21, e22, e23, e24] : List Addr).getD i 0)) := by
    intro i x hx
    match i, hx with
    | 0, hx => obtain rfl := Option.some.inj hx; exact PySem.W.mg_of X G cg2
    | 1, hx => obtain rfl := Option.some.inj hx; exact PySem.W.mg_of X G cg3
    | 2, hx => obtain rfl := Option.some.inj hx; exact PySem.W.mg_of X G cg4
    | 3, hx => obtain rfl := Option.some.inj hx; exact PySem.W.mg_of X G cg5
    | 4, hx => obtain rfl := Option.some.inj hx; exact PySem.W.mg_of X G cg6
    | 5, hx => obtain rfl := Option.some.inj hx; exact PySem.W.mg_of X G cg7
    | 6, hx => obtain rfl := Option.some.inj hx; exact PySem.W.mg_of X G cg8
    | 7, hx => obtain rfl := Option.some.inj hx; exact PySem.W.mg_of X G cg9
    | 8, hx => obtain rfl := Option.some.inj hx; exact PySem.W.mg_of X G cg10
    | 9, hx => obtain rfl := Option.some.inj hx; exact PySem.W.mg_of X G cg11
    | 10, hx => obtain rfl := Option.some.inj hx; exact PySem.W.mg_of X G cg12
    | 11, hx => obtain rfl := Option.some.inj hx; exact PySem.W.mg_of X G cg13
    | 12, hx => obtain rfl := Option.some.inj hx; exact PySem.W.mg_of X G cg14
    | 13, hx => obtain rfl := Option.some.inj hx; exact PySem.W.mg_of X G cg15
    | 14, hx => obtain rfl := Option.some.inj hx; exact PySem.W.mg_of X G cg16
    | 15, hx => obtain rfl := Option.some.inj hx; exact PySem.W.mg_of X G cg17
    | 16, hx => obtain rfl := Option.some.inj hx; exact PySem.W.mg_of X G cg18
    | 17, hx => obtain rfl := Option.some.inj hx; exact PySem.W.mg_of X G cg19
    | 18, hx => obtain rfl := Option.some.inj hx; exact PySem.W.mg_of X G cg20
    | 19, hx => obtain rfl := Option.some.inj hx; exact PySem.W.mg_of X G cg21
    | 20, hx => obtain rfl := Option.some.inj hx; exact PySem.W.mg_of X G cg22
    | 21, hx => obtain rfl := Option.some.inj hx; exact PySem.W.mg_of X G cg23
    | 22, hx => obtain rfl := Option.some.inj hx; exact PySem.W.mg_of X G cg24
    | k + 23, hx => exact absurd (show none = some x from hx) (by simp)
  have E0 : Errs K mg e0 e1 [e2, e3, e4, e5, e6, e7, e8, e9, e10, e11, e12, e13, e14, e15, e16, e17, e18, e19, e20, e21, e22, e23, e24] := ⟨⟨_, _, _, _, _, _, _, _, _, _, _, _, _, _, _, _, _, _, _, _, _, _, _, rfl⟩, at0, ran0, PySem.W.mg_of X G cg1, rkd0, rkv0, PySem.W.mg_none_of X G z11⟩
  refine ⟨PySem.W.fnOf "law" "law" (defArgs sLaw) (defBody sLaw) (defScope sLaw) .none kV23 dc23 pm23 an23 cd23 ct23, fun s v => .of_eq rfl, fun base _ _ => ?_⟩
  have Cco : Call l.prog w K mg base 1 "common" f1 _ ["first", "second"] (spTwo K fun ns ks k => k ∈ ns ∧ k ∈ ks) := ⟨ok_common F1 B, PySem.W.mg_of X G a1, k1, b1⟩
  have Cii : Call l.prog w K mg base 1 "_law_is_integer" f5 _ ["_law_actual"] spIsInt := ⟨ok_isInt F5 B, PySem.W.mg_of X G a5, k5, b5⟩
  have Cst : Call l.prog w K mg base 1 "_law_stream" f6 _ ["_law_script", "_law_k"] (spStream K) := ⟨ok_stream F6 B, PySem.W.mg_of X G a6, k6, b6⟩
  have Cdr : Call l.prog w K mg base 1 "_law_next" f7 _ ["_law_stream_here", "_law_size"] spDraw := ⟨ok_draw F7 B, PySem.W.mg_of X G a7, k7, b7⟩
  have Cna : Call l.prog w K mg base 2 "_law_names" f8 _ ["_law_stream_here", "_law_count"] spNames := ⟨ok_names F8 B Cdr, PySem.W.mg_of X G a8, k8, b8⟩
  have Cpo : Call l.prog w K mg base 2 "_law_pool" f9 _ ["_law_stream_here", "_law_count"] spPool := ⟨ok_pool F9 B Cdr, PySem.W.mg_of X G a9, k9, b9⟩
  have Cdo : Call l.prog w K mg base 2 "_law_domains" f10 _ ["_law_stream_here", "_law_names_here", "_law_pool_here", "_law_most"] spDoms := ⟨ok_doms F10 B Cdr, PySem.W.mg_of X G a10, k10, b10⟩
  have Cpa : Call l.prog w K mg base 2 "_law_part" f11 _ ["_law_stream_here", "_law_side"] (spPart K) := ⟨ok_part F11 B Cdr, PySem.W.mg_of X G a11, k11, b11⟩
  have Cis : Call l.prog w K mg base 2 "_law_is_side" f12 _ ["_law_actual"] spIsSide := ⟨ok_isSide F12 B Cii, PySem.W.mg_of X G a12, k12, b12⟩
  have Csa : Call l.prog w K mg base 3 "_law_same_sides" f13 _ ["_law_actual", "_law_expected"] spSame := ⟨ok_same F13 B Cis, PySem.W.mg_of X G a13, k13, b13⟩
  have Cli : Call l.prog w K mg base 2 "_law_listed" f14 _ ["_law_stream_here", "_law_names_here"] spListed := ⟨ok_listed F14 B Cdr, PySem.W.mg_of X G a14, k14, b14⟩
  have Cds : Call l.prog w K mg base 2 "_law_drawn_side" f15 _ ["_law_stream_here", "_law_side", "_law_pool_here"] spDS := ⟨ok_ds F15 B Cdr, PySem.W.mg_of X G a15, k15, b15⟩
  have Cfu : Call l.prog w K mg base 1 "_law_full" f16 _ ["_law_sides", "_law_domains_here"] spFull := ⟨ok_full F16 B, PySem.W.mg_of X G a16, k16, b16⟩
  have Csl : Call l.prog w K mg base 1 "_law_slim" f17 _ ["_law_full_here", "_law_domains_here"] spSlim := ⟨ok_slim F17 B, PySem.W.mg_of X G a17, k17, b17⟩
  have Ccp : Call l.prog w K mg base 1 "_law_copied" f18 _ ["_law_sides"] spCopy := ⟨ok_copied F18 B, PySem.W.mg_of X G a18, k18, b18⟩
  have Cln : Call l.prog w K mg base 1 "_law_new" f19 _ ["_law_told", "_law_expected"] spLNew := ⟨ok_lnew F19 B, PySem.W.mg_of X G a19, k19, b19⟩
  have Cch : Call l.prog w K mg base 1 "_check_names" f4 _ ["box", "domains"] spCheck := ⟨ok_check F4 B, PySem.W.mg_of X G a4, k4, b4⟩
  have Cfi : Call l.prog w K mg base 2 "filled" f2 _ ["box", "domains"] spFilled := ⟨ok_filled F2 B Cch Cco, PySem.W.mg_of X G a2, k2, b2⟩
  have Ctr : Call l.prog w K mg base 3 "trimmed" f3 _ ["box", "domains"] spTrim := ⟨ok_trim F3 B Cfi, PySem.W.mg_of X G a3, k3, b3⟩
  have Cfo : Call l.prog w K mg base 4 "_law_formed" f20 _ ["_law_sides", "_law_domains_here"] spFormed := ⟨ok_formed F20 B Cfu Csl Ccp Cfi Ctr Csa Cln, PySem.W.mg_of X G a20, k20, b20⟩
  have Ciu : CallI l.prog w K mg base i0 _ ["self", "name"] (spIni e0 "name") := ⟨ok_unk I0 U0, ib0⟩
  have Xch : CallX l.prog w K mg base 3 "_check_names" f4 _ ["box", "domains"] (spCheckX e0) := ⟨ok_checkX F4 B U0 Ciu, PySem.W.mg_of X G a4, k4, b4⟩
  have Xfi : CallX l.prog w K mg base 4 "filled" f2 _ ["box", "domains"] (spCheckX e0) := ⟨ok_filledX F2 Xch, PySem.W.mg_of X G a2, k2, b2⟩
  have Xtr : CallX l.prog w K mg base 5 "trimmed" f3 _ ["box", "domains"] (spCheckX e0) := ⟨ok_trimmedX F3 Xfi, PySem.W.mg_of X G a3, k3, b3⟩
  have Cto : Call l.prog w K mg base 6 "_law_told_name" f21 _ ["_law_short", "_law_sides", "_law_domains_here"] spTold := ⟨ok_told F21 B U0 E0 Xfi Xtr, PySem.W.mg_of X G a21, k21, b21⟩
  have Cre : Call l.prog w K mg base 7 "_law_refused" f22 _ ["_law_stream_here", "_law_sides", "_law_domains_here", "_law_strangers", "_law_pool_here"] spRef := ⟨ok_ref F22 B (PySem.W.mg_none_of X G z12) Cdr Cpa Ccp Cto, PySem.W.mg_of X G a22, k22, b22⟩
  exact ok_law F23 B Cst Cdr Cna Cpo Cdo Cli Cds Cfo Cre
theorem walk {l : PySem.W.OpenLaw} {q : Program} {loose : List Str} {XP : (Str → Option Value) → Heap → Prop} {YP : World → Heap → Prop} {d : DefRec} {K : Params → PySem.W.Frag} (hn : l.most = some 63) (hdf : d.params.defaults = [])
    (hY : ∀ (w : World) (h : Heap), YP w h → (K w.params).In h)
    (F : ∀ (w : World) (mg : Str → Option Value) (fa : Addr) (h : Heap), (K w.params).In h → h.Ns mainGlobals mg → mg d.name = some (.ref fa) →
      ∃ fd : FuncData, (∀ (s : Shared) (u : Value), BindsTo s fd ⟨[u], []⟩ [("_law_script", u)]) ∧ ∀ base : Heap, (K w.params).In base → base.Ns mainGlobals mg → FnOk l.prog w (K w.params) mg base CX0 8 fa fd ["_law_script"] (spLaw (K w.params))) :
    PySem.W.WalkO q loose XP YP l.row.toRowW d [] (fun f vs => PySem.call f vs) :=
  L2.walk_of (n := 63) (k := 8) (x := "_law_script") (CX := fun _ => CX0) (sp := fun w => spLaw (K w.params)) hn (by decide) hdf ⟨rfl, by decide, by decide⟩ hY F (fun _ _ a ns hl _ hS => ⟨a, ns, rfl, hS, hl, fun _ => rfl⟩) fun _ _ _ _ _ z => z
end K2

set_option Elab.async false
set_option linter.all false
open PySem PySem.W PyProof.Rows
set_option maxRecDepth 100000 in
set_option maxHeartbeats 0 in
theorem PySem.Challenge.cw_curbdesk_k02_filled_and_trimmed_holds : PySem.Challenge.rw_curbdesk_k02_filled_and_trimmed.Holds := by
  w_on; o_law; k_head; (case hw => w_witness2)
  k_fill
  refine K2.walk (l := PySem.Challenge.rw_curbdesk_k02_filled_and_trimmed) rfl rfl (fun w h Y => PySem.W.kIn_of Y) ?F
  case F =>
    intro w mg fa h KX G hmg
    refine' K2.all_mk KX G hmg ?a1 ?l1 ?c1 ?k1 ?a2 ?l2 ?c2 ?k2 ?a3 ?l3 ?c3 ?k3 ?a4 ?l4 ?c4 ?k4 ?a5 ?l5 ?c5 ?k5 ?a6 ?l6 ?c6 ?k6 ?a7 ?l7 ?c7 ?k7 ?a8 ?l8 ?c8 ?k8 ?a9 ?l9 ?c9 ?k9 ?a10 ?l10 ?c10 ?k10 ?a11 ?l11 ?c11 ?k11 ?a12 ?l12 ?c12 ?k12 ?a13 ?l13 ?c13 ?k13 ?a14 ?l14 ?c14 ?k14 ?a15 ?l15 ?c15 ?k15 ?a16 ?l16 ?c16 ?k16 ?a17 ?l17 ?c17 ?k17 ?a18 ?l18 ?c18 ?k18 ?a19 ?l19 ?c19 ?k19 ?a20 ?l20 ?c20 ?k20 ?a21 ?l21 ?c21 ?k21 ?a22 ?l22 ?c22 ?k22 ?a23 ?l23 ?c23 ?k23 ?cg0 ?cg1 ?cg2 ?cg3 ?cg4 ?cg5 ?cg6 ?cg7 ?cg8 ?cg9 ?cg10 ?cg11 ?cg12 ?cg13 ?cg14 ?cg15 ?cg16 ?cg17 ?cg18 ?cg19 ?cg20 ?cg21 ?cg22 ?cg23 ?cg24 ?x0 ?xsa0 ?xga0 ?xgg0 ?xf0_0 ?xin0 ?xti0 ?xli0 ?xci0 ?xki0 ?xkc0 ?xec0 ?xtc0 ?xhc0 ?xsc0 ?xha0 ?xhn0 ?xht0 ?xhm0 ?ran0 ?rkd0 ?rkv0 ?z1 ?z2 ?z3 ?z4 ?z5 ?z6 ?z7 ?z8 ?z9 ?z10 ?z11 ?z12
    (case a1 => k_is)
    (case l1 => k_is)
    (case c1 => k_is)
    (case k1 => k_is)
    (case a2 => k_is)
    (case l2 => k_is)
    (case c2 => k_is)
    (case k2 => k_is)
    (case a3 => k_is)
    (case l3 => k_is)
    (case c3 => k_is)
    (case k3 => k_is)
    (case a4 => k_is)
    (case l4 => k_is)
    (case c4 => k_is)
    (case k4 => k_is)
    (case a5 => k_is)
    (case l5 => k_is)
    (case c5 => k_is)
    (case k5 => k_is)
    (case a6 => k_is)
    (case l6 => k_is)
    (case c6 => k_is)
    (case k6 => k_is)
    (case a7 => k_is)
    (case l7 => k_is)
    (case c7 => k_is)
    (case k7 => k_is)
    (case a8 => k_is)
    (case l8 => k_is)
    (case c8 => k_is)
    (case k8 => k_is)
    (case a9 => k_is)
    (case l9 => k_is)
    (case c9 => k_is)
    (case k9 => k_is)
    (case a10 => k_is)
    (case l10 => k_is)
    (case c10 => k_is)
    (case k10 => k_is)
    (case a11 => k_is)
    (case l11 => k_is)
    (case c11 => k_is)
    (case k11 => k_is)
    (case a12 => k_is)
    (case l12 => k_is)
    (case c12 => k_is)
    (case k12 => k_is)
    (case a13 => k_is)
    (case l13 => k_is)
    (case c13 => k_is)
    (case k13 => k_is)
    (case a14 => k_is)
    (case l14 => k_is)
    (case c14 => k_is)
    (case k14 => k_is)
    (case a15 => k_is)
    (case l15 => k_is)
    (case c15 => k_is)
    (case k15 => k_is)
    (case a16 => k_is)
    (case l16 => k_is)
    (case c16 => k_is)
    (case k16 => k_is)
    (case a17 => k_is)
    (case l17 => k_is)
    (case c17 => k_is)
    (case k17 => k_is)
    (case a18 => k_is)
    (case l18 => k_is)
    (case c18 => k_is)
    (case k18 => k_is)
    (case a19 => k_is)
    (case l19 => k_is)
    (case c19 => k_is)
    (case k19 => k_is)
    (case a20 => k_is)
    (case l20 => k_is)
    (case c20 => k_is)
    (case k20 => k_is)
    (case a21 => k_is)
    (case l21 => k_is)
    (case c21 => k_is)
    (case k21 => k_is)
    (case a22 => k_is)
    (case l22 => k_is)
    (case c22 => k_is)
    (case k22 => k_is)
    (case a23 => k_is)
    (case l23 => k_is)
    (case c23 => k_is)
    (case k23 => k_is)
    (case cg0 => k_is)
    (case cg1 => k_is)
    (case cg2 => k_is)
    (case cg3 => k_is)
    (case cg4 => k_is)
    (case cg5 => k_is)
    (case cg6 => k_is)
    (case cg7 => k_is)
    (case cg8 => k_is)
    (case cg9 => k_is)
    (case cg10 => k_is)
    (case cg11 => k_is)
    (case cg12 => k_is)
    (case cg13 => k_is)
    (case cg14 => k_is)
    (case cg15 => k_is)
    (case cg16 => k_is)
    (case cg17 => k_is)
    (case cg18 => k_is)
    (case cg19 => k_is)
    (case cg20 => k_is)
    (case cg21 => k_is)
    (case cg22 => k_is)
    (case cg23 => k_is)
    (case cg24 => k_is)
    (case x0 => first | k_is | rfl)
    (case xsa0 => first | k_is | rfl)
    (case xga0 => first | k_is | rfl)
    (case xgg0 => first | k_is | rfl)
    (case xf0_0 => first | k_is | rfl)
    (case xin0 => first | k_is | rfl)
    (case xti0 => first | k_is | rfl)
    (case xli0 => first | k_is | rfl)
    (case xci0 => first | k_is | rfl)
    (case xki0 => first | k_is | rfl)
    (case xkc0 => first | k_is | rfl)
    (case xec0 => first | k_is | rfl)
    (case xtc0 => first | k_is | rfl)
    (case xhc0 => first | k_is | rfl)
    (case xsc0 => first | k_is | rfl)
    (case xha0 => first | k_is | rfl)
    (case xhn0 => first | k_is | rfl)
    (case xht0 => first | k_is | rfl)
    (case xhm0 => first | k_is | rfl)
    (case ran0 => first | k_is | rfl)
    (case rkd0 => first | k_is | rfl)
    (case rkv0 => first | k_is | rfl)
    (case z1 => k_is)
    (case z2 => k_is)
    (case z3 => k_is)
    (case z4 => k_is)
    (case z5 => k_is)
    (case z6 => k_is)
    (case z7 => k_is)
    (case z8 => k_is)
    (case z9 => k_is)
    (case z10 => k_is)
    (case z11 => k_is)
    (case z12 => k_is)
