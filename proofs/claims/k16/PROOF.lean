import PyProof.Rows.All
import Wide.All
import OpenK.AllK
import Wide.FinOn
import HandS.ForMost
import HandS.Strs
import HandS.Set
import HandS.SetFor
import HandS.TupSets
import HandS.IsInst
import HandS.Flow
import HandS.Style
import HandS.Zip
import HandS.SortInts
import HandS.DeepEq
import HandS.SetBool
import HandS.SetKeys
import HandS.ExcInit
import HandS.ExcField
import HandS.ExcOwn
import HandS.WordsExc
import HandS.ExcIs
import KE.KExcIs
import HandS.DictComp
import HandS.OwnEq
import HandS.Small
import HandS.Property
import HandS.ExcInitHot
import HandS.Walk
import PySem.Challenge.RW_curbdesk_k16_history
set_option Elab.async false
set_option linter.all false
set_option maxRecDepth 100000
/-! Tables of sets that are laid anew, for the masks that merging asks for. -/
namespace Cs
open PySem PySem.Spec PyProof.Rows

def hop (m : Nat) (q : Nat × Nat) : Nat × Nat := SetTable.leap m q.1 q.2
def hops (m : Nat) : Nat → Nat × Nat → Nat × Nat
  | 0, q => q
  | n + 1, q => hops m n (hop m q)
abbrev own (ow : Array (Option Nat)) (j : Nat) : Option Nat := ow.getD j (some 0)

theorem free_step (m : Nat) (ow : Array (Option Nat)) (f : Nat) (q : Nat × Nat) : SetTable.layClean.free m ow (f + 1) q.1 q.2 =
    (match (List.range (SetTable.runEnd m q.1 + 1 - q.1)).find? (fun k => (own ow (q.1 + k)).isNone) with
      | some k => some (q.1 + k)
      | none => SetTable.layClean.free m ow f (hop m q).1 (hop m q).2) := rfl
theorem run_ge (m i : Nat) : i ≤ SetTable.runEnd m i := by
  unfold SetTable.runEnd
  split <;> omega
theorem run_le {m i : Nat} (h : i ≤ m) : SetTable.runEnd m i ≤ m := by
  unfold SetTable.runEnd
  split <;> omega
theorem hop_le (m : Nat) (q : Nat × Nat) : (hop m q).1 ≤ m := Nat.le_of_lt_succ (Nat.mod_lt _ (Nat.succ_pos m))

theorem free_none (m : Nat) (ow : Array (Option Nat)) : ∀ (f : Nat) (q : Nat × Nat), SetTable.layClean.free m ow f q.1 q.2 = none → ∀ n, n < f → (own ow (hops m n q).1).isNone = false
  | 0, _, _, n, h => absurd h (Nat.not_lt_zero n)
  | f + 1, q, e, n, h => by
    rw [free_step] at e
    cases c : (List.range (SetTable.runEnd m q.1 + 1 - q.1)).find? (fun k => (own ow (q.1 + k)).isNone) with
    | some k => rw [c] at e; exact nomatch e
    | none =>
      rw [c] at e
      cases n with
      | zero =>
        have z := List.find?_eq_none.mp c 0 (List.mem_range.mpr (by have := run_ge m q.1; omega))
        have z2 : ¬ ((own ow q.1).isNone = true) := z
        exact Bool.eq_false_iff.mpr z2
      | succ n => exact free_none m ow f (hop m q) e n (by omega)

theorem free_some (m : Nat) (ow : Array (Option Nat)) : ∀ (f : Nat) (q : Nat × Nat) (j : Nat), SetTable.layClean.free m ow f q.1 q.2 = some j → q.1 ≤ m → j ≤ m ∧ (own ow j).isNone = true
  | 0, _, _, e, _ => nomatch e
  | f + 1, q, j, e, hq => by
    rw [free_step] at e
    cases c : (List.range (SetTable.runEnd m q.1 + 1 - q.1)).find? (fun k => (own ow (q.1 + k)).isNone) with
    | some k =>
      rw [c] at e
      have ej : q.1 + k = j := Option.some.inj e
      have h1 := List.mem_of_find?_eq_some c
      have h2 := List.find?_some c
      have h3 := List.mem_range.mp h1
      have h4 := run_le hq
      rw [← ej]
      exact ⟨by omega, h2⟩
    | none =>
      rw [c] at e
      exact free_some m ow f (hop m q) j e (hop_le m q)

theorem hops_back (m : Nat) : ∀ (n : Nat) (q : Nat × Nat), hops m (n + 1) q = hop m (hops m n q)
  | 0, _ => rfl
  | n + 1, q => hops_back m n (hop m q)
theorem hops_add (m : Nat) (a : Nat) : ∀ (k : Nat) (q : Nat × Nat), hops m (a + k) q = hops m k (hops m a q)
  | 0, _ => rfl
  | k + 1, q => by
    rw [show a + (k + 1) = (a + k) + 1 from rfl, hops_back, hops_back, hops_add m a k q]
theorem hops_snd (m : Nat) : ∀ (n : Nat) (q : Nat × Nat), (hops m n q).2 = q.2 / 32 ^ n
  | 0, q => (Nat.div_one q.2).symm
  | n + 1, q => by
    rw [hops_back]
    show (hops m n q).2 / 32 = _
    rw [hops_snd m n q, Nat.div_div_eq_div_mul, Nat.pow_succ]
theorem hops_fst_le (m : Nat) {q : Nat × Nat} (hq : q.1 ≤ m) : ∀ n, (hops m n q).1 ≤ m
  | 0 => hq
  | n + 1 => by rw [hops_back]; exact hop_le m _
theorem hops_zero (m i : Nat) : ∀ k, hops m k (i, 0) = (L2.lcgI m i k, 0)
  | 0 => rfl
  | k + 1 => by
    rw [hops_back, hops_zero m i k]
    show ((L2.lcgI m i k * 5 + 1 + 0 / 32) % (m + 1), 0 / 32) = _
    rw [Nat.zero_div, Nat.add_zero] <;> rfl

def Msk (m : Nat) : Prop := m = 7 ∨ m = 15 ∨ m = 31 ∨ m = 63 ∨ m = 127
def meetsAll (m : Nat) : Bool := (List.range (m + 1)).all fun i => (List.range (m + 1)).all fun j => (List.range (m + 1)).any fun k => L2.lcgI m i k == j
theorem lcg_of {m : Nat} (h : meetsAll m = true) {i j : Nat} (hi : i ≤ m) (hj : j ≤ m) : ∃ k, k ≤ m ∧ L2.lcgI m i k = j := by
  have h1 := List.all_eq_true.mp (List.all_eq_true.mp h i (List.mem_range.mpr (by omega))) j (List.mem_range.mpr (by omega))
  obtain ⟨k, hk, e⟩ := List.any_eq_true.mp h1
  exact ⟨k, Nat.le_of_lt_succ (List.mem_range.mp hk), eq_of_beq e⟩
/- one round from 0, then the shift -/
theorem all15 : ((List.range 16).all fun j => (List.range 16).any fun b => L2.lcgN 15 b == j) = true := by decide +kernel
theorem all63 : ((List.range 64).all fun j => (List.range 64).any fun b => L2.lcgN 63 b == j) = true := by decide +kernel
theorem round15 : L2.lcgN 15 16 = 0 := by decide +kernel
theorem round63 : L2.lcgN 63 64 = 0 := by decide +kernel
theorem turn_mod {m : Nat} (h : L2.lcgN m (m + 1) = 0) : ∀ k, L2.lcgN m (m + 1 + k) = L2.lcgN m k
  | 0 => h
  | k + 1 => by
    show (L2.lcgN m (m + 1 + k) * 5 + 1) % (m + 1) = (L2.lcgN m k * 5 + 1) % (m + 1)
    rw [turn_mod h k]
theorem lcg_by {m : Nat} (hr : L2.lcgN m (m + 1) = 0) (ha : ((List.range (m + 1)).all fun j => (List.range (m + 1)).any fun b => L2.lcgN m b == j) = true) {i j : Nat} (hi : i ≤ m) (hj : j ≤ m) :
    ∃ k, k ≤ m ∧ L2.lcgI m i k = j := by
  have at0 : ∀ x, x ≤ m → ∃ b, b ≤ m ∧ L2.lcgN m b = x := fun x hx => by
    obtain ⟨b, hb, e⟩ := List.any_eq_true.mp (List.all_eq_true.mp ha x (List.mem_range.mpr (by omega)))
    exact ⟨b, Nat.le_of_lt_succ (List.mem_range.mp hb), eq_of_beq e⟩
  obtain ⟨a, la, ea⟩ := at0 i hi
  obtain ⟨b, lb, eb⟩ := at0 j hj
  subst ea
  by_cases c : a ≤ b
  · exact ⟨b - a, by omega, by rw [L2.lcgN_add, Nat.add_sub_cancel' c]; exact eb⟩
  · refine ⟨m + 1 + b - a, by omega, ?_⟩
    rw [L2.lcgN_add, Nat.add_sub_cancel' (by omega), turn_mod hr]
    exact eb
theorem lcg_meets {m : Nat} (hm : Msk m) {i j : Nat} (hi : i ≤ m) (hj : j ≤ m) : ∃ k, k ≤ m ∧ L2.lcgI m i k = j := by
  rcases hm with e | e | e | e | e
  · exact L2.lcgI_all (.inl e) hi hj
  · subst e; exact lcg_by round15 all15 hi hj
  · exact L2.lcgI_all (.inr (.inl e)) hi hj
  · subst e; exact lcg_by round63 all63 hi hj
  · exact L2.lcgI_all (.inr (.inr e)) hi hj

theorem free_there {m : Nat} (hm : Msk m) (ow : Array (Option Nat)) (h : Int) {j0 : Nat} (hj : j0 ≤ m) (hf : (own ow j0).isNone = true) :
    ∃ j, SetTable.layClean.free m ow (SetTable.turns m) (SetTable.bits h % (m + 1)) (SetTable.bits h) = some j ∧ j ≤ m ∧ (own ow j).isNone = true := by
  have hq : SetTable.bits h % (m + 1) ≤ m := Nat.le_of_lt_succ (Nat.mod_lt _ (Nat.succ_pos m))
  cases e : SetTable.layClean.free m ow (SetTable.turns m) (SetTable.bits h % (m + 1)) (SetTable.bits h) with
  | some j => exact ⟨j, rfl, free_some m ow _ (SetTable.bits h % (m + 1), SetTable.bits h) j e hq⟩
  | none =>
    exfalso
    have all := free_none m ow _ (SetTable.bits h % (m + 1), SetTable.bits h) e
    have z : (hops m 13 (SetTable.bits h % (m + 1), SetTable.bits h)).2 = 0 := by
      rw [hops_snd]
      refine Nat.div_eq_of_lt (Nat.lt_trans (L2.bits_lt h) ?_)
      decide
    have le := hops_fst_le m (q := (SetTable.bits h % (m + 1), SetTable.bits h)) hq 13
    obtain ⟨k, hk, ek⟩ := lcg_meets hm le hj
    have q := all (13 + k) (by show 13 + k < m + 15; omega)
    have e2 : hops m 13 (SetTable.bits h % (m + 1), SetTable.bits h) = ((hops m 13 (SetTable.bits h % (m + 1), SetTable.bits h)).1, 0) := by
      rw [← z]
    rw [hops_add, e2, hops_zero] at q
    rw [ek] at q
    rw [hf] at q
    cases q

/-! ### who sits where -/
theorem put_perm : ∀ (l : List (Option Nat)) (j k : Nat), l[j]? = some none → ((l.set j (some k)).filterMap id).Perm (k :: l.filterMap id)
  | [], j, k, h => by simp at h
  | x :: l, 0, k, h => by
    have e : x = none := by simpa using h
    subst e
    simp
  | x :: l, j + 1, k, h => by
    have ih := put_perm l j k (by simpa using h)
    cases x with
    | none => simpa using ih
    | some y =>
      simp only [List.set_cons_succ, List.filterMap_cons, id]
      exact (ih.cons y).trans (List.Perm.swap k y _)
theorem gap : ∀ l : List (Option Nat), (l.filterMap id).length < l.length → ∃ j : Nat, j < l.length ∧ l[j]? = some none
  | [], h => by simp at h
  | none :: l, h => ⟨0, by simp, rfl⟩
  | some y :: l, h => by
    obtain ⟨j, hj, e⟩ := gap l (by simpa using h)
    exact ⟨j + 1, by simpa using hj, by simpa using e⟩
structure Sit (m k : Nat) (ow : Array (Option Nat)) : Prop where
  sz : ow.size = m + 1
  pm : (ow.toList.filterMap id).Perm (List.range k)
theorem Sit.start (m : Nat) : Sit m 0 (Array.replicate (m + 1) none) := ⟨by simp, by simp⟩
theorem Sit.next {m k : Nat} {ow : Array (Option Nat)} (S : Sit m k ow) (hm : Msk m) (hk : k ≤ m) (h : Int) :
    ∃ j, SetTable.layClean.free m ow (SetTable.turns m) (SetTable.bits h % (m + 1)) (SetTable.bits h) = some j ∧ Sit m (k + 1) (ow.setIfInBounds j (some k)) := by
  have l1 := S.pm.length_eq
  rw [List.length_range] at l1
  obtain ⟨j0, h0, e0⟩ := gap ow.toList (by rw [l1, Array.length_toList, S.sz]; omega)
  rw [Array.length_toList, S.sz] at h0
  have f0 : (own ow j0).isNone = true := by
    have : ow[j0]? = some none := by rw [← Array.getElem?_toList]; exact e0
    simp [own, Array.getD_eq_getD_getElem?, this]
  obtain ⟨j, ej, hj, hn⟩ := free_there hm ow h (by omega) f0
  have hjs : j < ow.size := by rw [S.sz]; omega
  have en : ow.toList[j]? = some none := by
    have : own ow j = none := by simpa using hn
    rw [Array.getElem?_toList]
    simp only [own, Array.getD_eq_getD_getElem?, Array.getElem?_eq_getElem hjs, Option.getD_some] at this
    rw [Array.getElem?_eq_getElem hjs, this]
  refine ⟨j, ej, by rw [Array.size_setIfInBounds]; exact S.sz, ?_⟩
  rw [Array.toList_setIfInBounds]
  refine (put_perm ow.toList j k en).trans ?_
  rw [List.range_succ]
  exact (S.pm.cons k).trans (List.perm_append_singleton k _).symm
theorem sit_all {m : Nat} (hm : Msk m) : ∀ (hs : List Int) (k : Nat) (ow : Array (Option Nat)), Sit m k ow → k + hs.length ≤ m →
    ∃ ow', hs.foldl (L2.stepF m) (some (ow, k)) = some (ow', k + hs.length) ∧ Sit m (k + hs.length) ow'
  | [], k, ow, S, _ => ⟨ow, rfl, S⟩
  | h :: hs, k, ow, S, hl => by
    rw [List.length_cons] at hl
    obtain ⟨j, ej, S2⟩ := S.next hm (by omega) h
    obtain ⟨ow', e, S3⟩ := sit_all hm hs (k + 1) _ S2 (by omega)
    refine ⟨ow', ?_, ?_⟩
    · rw [List.foldl_cons, L2.stepF_some ej, e, List.length_cons]
      exact congrArg (fun n => some (ow', n)) (by omega)
    · rw [List.length_cons, show k + (hs.length + 1) = k + 1 + hs.length by omega]
      exact S3
theorem lay_ok {m : Nat} (hm : Msk m) {hs : Array Int} (hn : hs.size ≤ m) : ∃ ow, SetTable.layClean m hs = some ow ∧ Sit m hs.size ow := by
  obtain ⟨ow, e, S⟩ := sit_all hm hs.toList 0 _ (Sit.start m) (by rw [Array.length_toList]; omega)
  rw [Nat.zero_add, Array.length_toList] at S
  refine ⟨ow, ?_, S⟩
  rw [L2.layClean_eq, e] <;> rfl

def liveAt (m : Nat) (ow : Array (Option Nat)) : List (Nat × Nat) := (List.range (m + 1)).filterMap fun j => (ow.getD j none).map (j, ·)
theorem live_snd {m : Nat} {ow : Array (Option Nat)} (hz : ow.size = m + 1) : (liveAt m ow).map (·.2) = ow.toList.filterMap id := by
  unfold liveAt
  rw [List.map_filterMap, ← hz]
  have e1 : (fun j => ((ow.getD j none).map (j, ·)).map (·.2)) = fun j => (ow[j]?).bind id := by
    funext j
    rw [Array.getD_eq_getD_getElem?]
    cases ow[j]? with
    | none => rfl
    | some y => cases y <;> rfl
  have e2 := filterMap_getElem?_range ow
  rw [e1, ← e2, List.filterMap_filterMap]
theorem laid_ok {m : Nat} (hm : Msk m) {hs : Array Int} (hn : hs.size ≤ m) (fi mv : Nat) (ld pl : Bool) :
    ∃ t order, SetTable.laid m fi mv ld pl hs = some (t, order) ∧ order.toList.Perm (List.range hs.size) ∧ t.mask = m ∧ t.dummies = #[] ∧ t.led = ld ∧ L2.Ris t.place.toList ∧ t.place.size = hs.size := by
  obtain ⟨ow, e, S⟩ := lay_ok hm hn
  have p : ((liveAt m ow).map (·.2)).Perm (List.range hs.size) := by
    rw [live_snd S.sz]
    exact S.pm
  refine ⟨_, _, by unfold SetTable.laid; rw [e]; rfl, p, rfl, rfl, rfl, ?_, ?_⟩
  · refine (L2.ris_live (fun j => ow.getD j none) (List.range (m + 1)) ?_).1
    unfold L2.Ris
    first | exact List.pairwise_lt_range | exact List.pairwise_lt_range _
  · have l := p.length_eq
    rw [List.length_map, List.length_range] at l
    show ((liveAt m ow).map (·.1)).toArray.size = hs.size
    rw [List.size_toArray, List.length_map]
    exact l
theorem above_msk : ((List.range 128).all fun n => (SetTable.sizeAbove n == 8 || SetTable.sizeAbove n == 16 || SetTable.sizeAbove n == 32 || SetTable.sizeAbove n == 64 || SetTable.sizeAbove n == 128) && decide (n < SetTable.sizeAbove n)) = true := by
  decide +kernel
theorem above_ok {n : Nat} (h : n < 128) : Msk (SetTable.sizeAbove n - 1) ∧ n ≤ SetTable.sizeAbove n - 1 ∧ SetTable.sizeAbove n ≤ 128 := by
  have q := List.all_eq_true.mp above_msk n (List.mem_range.mpr h)
  simp only [Bool.and_eq_true, Bool.or_eq_true, beq_iff_eq, decide_eq_true_eq] at q
  obtain ⟨q1, q2⟩ := q
  refine ⟨?_, by omega, by omega⟩
  unfold Msk
  omega
end Cs

set_option Elab.async false
set_option linter.all false
set_option maxRecDepth 100000
set_option maxHeartbeats 1000000
namespace Cs
open PySem PySem.Spec PyProof.Rows L2

/-- a set of ints, written out -/
structure SetX (w : World) (h : Heap) (a : Addr) (es : Array (Int × Value)) (ep : Nat) (t : SetTable) : Prop where
  obj : h.get? a = some { cls := .type "set", dict := none, data := .set es ep t, slots := #[] }
  good : ∀ e ∈ es.toList, GoodE e
  nd : (es.toList.map keyOf).Nodup
  few : es.size < scanBound
  fits : t.fits es.size = true
  ris : Ris t.place.toList
  led : w.params.followText "set-order" = true ∨ t.led = true
section
variable {w : World} {h h' : Heap} {a : Addr} {S : Int → Bool} {n : Nat} {es : Array (Int × Value)} {ep : Nat} {t : SetTable}
theorem SetX.toR (R : SetX w h a es ep t) (hS : ∀ k, S k = true ↔ k ∈ es.toList.map keyOf) (hn : es.size = n) : SetR w h a S n :=
  ⟨_, es, ep, t, R.obj, ⟨rfl, rfl, rfl⟩, rfl, R.good, R.nd, hS, R.few, R.fits, hn, R.ris, R.led⟩
theorem xOf (R : SetR w h a S n) : ∃ es ep t, SetX w h a es ep t ∧ (∀ k, S k = true ↔ k ∈ es.toList.map keyOf) ∧ es.size = n := by
  obtain ⟨⟨c, d, dt, sl⟩, es, ep, t, ho, ⟨e1, e2, e3⟩, hd, g, nd, m, fw, ft, hn, r, l⟩ := R
  simp only at e1 e2 e3 hd
  subst e1 e2 e3 hd
  exact ⟨es, ep, t, ⟨ho, g, nd, fw, ft, r, l⟩, m, hn⟩
theorem SetX.move (R : SetX w h a es ep t) (k : ∀ o, h.get? a = some o → h'.get? a = some o) : SetX w h' a es ep t :=
  ⟨k _ R.obj, R.good, R.nd, R.few, R.fits, R.ris, R.led⟩
theorem SetX.perm {es' : Array (Int × Value)} {t' : SetTable} {ep' : Nat} (R : SetX w h a es ep t) (p : es'.toList.Perm es.toList)
    (o : h'.get? a = some { cls := .type "set", dict := none, data := .set es' ep' t', slots := #[] }) (f : t'.fits es'.size = true) (r : Ris t'.place.toList) (l : w.params.followText "set-order" = true ∨ t'.led = true) : SetX w h' a es' ep' t' :=
  ⟨o, fun e he => R.good e (p.mem_iff.mp he), (p.map keyOf).nodup_iff.mpr R.nd, by
    have q := p.length_eq
    rw [Array.length_toList, Array.length_toList] at q
    rw [q]; exact R.few, f, r, l⟩
end
theorem order_perm {es : Array (Int × Value)} {order : Array Nat} (p : order.toList.Perm (List.range es.size)) : (order.filterMap (es[·]?)).toList.Perm es.toList := by
  have q := p.filterMap (fun i => es[i]?)
  rw [filterMap_getElem?_range] at q
  rw [Array.toList_filterMap]
  exact q
theorem perm_size {α : Type} {x y : Array α} (p : x.toList.Perm y.toList) : x.size = y.size := by
  have q := p.length_eq
  rw [Array.length_toList, Array.length_toList] at q
  exact q
section
variable {P : Program} {w : World} {A : Around} {E : Value → Shared → Prop} {s : Shared} {a : Addr} {es : Array (Int × Value)} {ep : Nat} {t : SetTable}

theorem relay_x {wanted : Nat} {Q : Unit → Shared → Prop} (R : SetX w s.heap a es ep t) (hw : wanted < 128) (hn : es.size ≤ wanted)
    (hQ : ∀ h' es' t', Heap.SameBut a s.heap h' → SetX w h' a es' (ep + 1) t' → es'.toList.Perm es.toList → t'.mask = SetTable.sizeAbove wanted - 1 → t'.dummies = #[] → t'.place.size = es.size → Q () { s with heap := h' }) :
    wpAny (model P w) A (setRelay a wanted) Q E s := by
  obtain ⟨hM, hMn, h128⟩ := above_ok hw
  obtain ⟨t', order, e, hp, em, ed, el, er, ez⟩ := laid_ok hM (hs := es.map (·.1)) (by rw [Array.size_map]; omega) t.finger (t.movedTo (SetTable.sizeAbove wanted - 1)) t.led t.plain
  rw [Array.size_map] at hp ez
  have p2 := order_perm hp
  have z2 := perm_size p2
  have fit : t'.fits (order.filterMap (es[·]?)).size = true := by
    unfold SetTable.fits SetTable.fill
    rw [ed, z2, ez, em, Bool.and_eq_true, beq_iff_eq, decide_eq_true_eq]
    exact ⟨rfl, by show es.size + 0 ≤ _; omega⟩
  have e' : t.relaid (es.map (·.1)) wanted = some (t', order) := e
  unfold setRelay
  refine wpAny_bind (wpAny_setState_of R.obj rfl R.fits ?_)
  dsimp only
  refine wp_if_neg (by rw [sizeLine_eq]; omega) ?_
  try refine wpAny_bind (wpAny_pure ?_)
  rw [e']
  refine wpAny_bind ?_
  refine wp_if_neg (c := ((order.filterMap (es[·]?)).size != es.size) = true) (by rw [z2]; simp) ?_
  try refine wpAny_bind (wpAny_pure ?_)
  refine wpAny_pure ?_
  dsimp only
  refine wpAny_storeSet_of R.obj rfl ?_ (fits_of_scanBound (by rw [z2]; exact R.few))
  have sb : Heap.SameBut a s.heap (s.heap.update a (Obj.putSet (order.filterMap (es[·]?)) t')) := Heap.SameBut.update ..
  exact hQ _ _ t' sb (R.perm p2 (store_at R.obj rfl) fit er (R.led.imp id fun z => el.trans z)) p2 em ed ez

/-! ### walking -/
theorem walk_x {Q : Array (Int × Value) → Shared → Prop} (R : SetX w s.heap a es ep t) (hQ : ∀ ys d, ys.toList.Perm es.toList → Q ys { s with drawn := d }) : wpAny (model P w) A (setWalk a) Q E s := by
  have rf : Q es s := hQ es s.drawn (List.Perm.refl _)
  unfold setWalk
  refine wpAny_bind (wpAny_setState_of R.obj rfl R.fits ?_)
  dsimp only
  refine wpAny_bind (wpAny_byText ?_)
  by_cases hb : w.params.followText "set-order" = true
  · refine wp_if_pos hb ?_
    refine wpAny_bind (wpAny_askSetting ?_)
    exact wpAny_pure (hQ _ s.drawn (pick_perm _ es))
  · refine wp_if_neg hb ?_
    by_cases hd : (!t.plain && decide (es.size > 1)) = true
    · refine wp_if_pos (c := (!t.plain && decide (es.size > 1)) = true) hd ?_
      refine wpAny_bind (drawOrder_at _ _ _ _ (Nat.le_of_eq Array.length_toList) fun ys d p => wpAny_pure (hQ _ d ?_))
      simpa using p
    · refine wp_if_neg (c := (!t.plain && decide (es.size > 1)) = true) hd ?_
      have hl : t.led = true := R.led.resolve_left hb
      refine wpAny_bind (m := (_ : Sem Unit)) ?_
      refine wp_if_neg (c := (!t.led && decide (es.size > 1)) = true) (by rw [hl]; simp) ?_
      exact wpAny_pure (wpAny_pure rf)
end
end Cs

set_option Elab.async false
set_option linter.all false
set_option maxRecDepth 100000
set_option maxHeartbeats 1000000
namespace Cs
open PySem PySem.Spec PyProof.Rows L2
section
variable {P : Program} {w : World} {A : Around} {E : Value → Shared → Prop} {s : Shared} {a : Addr} {es : Array (Int × Value)} {ep : Nat} {t : SetTable}

theorem quiet_x {Q : Bool → Shared → Prop} : ∀ (l : List Addr), (∀ b ∈ l, ∃ es ep t, SetX w s.heap b es ep t) → Q true s → wpAny (model P w) A (setsQuiet l) Q E s := by
  intro l hl hq
  unfold setsQuiet
  refine wpAny_bind (wpAny_forIn_list _ (fun rest b s' => b.1 = none ∧ s' = s ∧ ∀ x ∈ rest, ∃ es ep t, SetX w s.heap x es ep t) _ ?turn ?fin l _ ⟨rfl, rfl, hl⟩)
  case fin =>
    rintro ⟨b1, b2⟩ s' ⟨h1, rfl, _⟩
    cases h1
    exact wpAny_pure hq
  case turn =>
    rintro x rest ⟨b1, b2⟩ s' ⟨h1, rfl, h2⟩
    cases h1
    obtain ⟨es, ep, t, R⟩ := h2 x List.mem_cons_self
    unfold setEntries
    refine wpAny_bind (wpAny_bind (wpAny_setState_of R.obj rfl R.fits (wpAny_pure ?_)))
    refine wpAny_bind (MeetsSeq2.wpAny_forIn_array _ (fun rest' b s'' => b.1 = none ∧ s'' = s' ∧ ∀ e ∈ rest', GoodE e) _ ?t2 ?f2 es _ ⟨rfl, rfl, R.good⟩)
    case f2 =>
      rintro ⟨b1, b2⟩ s' ⟨h1, rfl, _⟩
      cases h1
      exact wpAny_pure ⟨rfl, rfl, fun y hy => h2 y (List.mem_cons_of_mem _ hy)⟩
    case t2 =>
      rintro ⟨hh, v⟩ rest' ⟨b1, b2⟩ s' ⟨h1, rfl, hg⟩
      cases h1
      obtain ⟨k, tk, e1, _⟩ := hg _ List.mem_cons_self
      have e2 : v = .int k tk := e1
      subst e2
      dsimp only
      refine wpAny_pure ⟨rfl, rfl, fun y hy => hg y (List.mem_cons_of_mem _ hy)⟩
end
end Cs

set_option Elab.async false
set_option linter.all false
set_option maxRecDepth 100000
set_option maxHeartbeats 1000000
namespace Cs
open PySem PySem.Spec PyProof.Rows L2
section
variable {P : Program} {w : World} {A : Around} {E : Value → Shared → Prop} {s : Shared} {a : Addr} {es : Array (Int × Value)} {ep : Nat} {t : SetTable}
theorem unseen_x {others : List Addr} {f : Addr} {ef : Array (Int × Value)} {pf : Nat} {tf : SetTable} {Q : Array (Int × Value) → Shared → Prop} (R : SetX w s.heap a es ep t)
    (ho : ∀ b ∈ others, ∃ es ep t, SetX w s.heap b es ep t) (F : SetX w s.heap f ef pf tf)
    (hQ : ∀ ys d h' pf' tf', ys.toList.Perm es.toList → Heap.SameBut f s.heap h' → SetX w h' f ef pf' tf' → Q ys { s with heap := h', drawn := d }) :
    wpAny (model P w) A (setWalkUnseen a others (some f)) Q E s := by
  have rf : ∀ ys d, ys.toList.Perm es.toList → Q ys { s with drawn := d } := fun ys d p => hQ ys d s.heap pf tf p (Heap.SameBut.refl f s.heap) F
  unfold setWalkUnseen
  refine wpAny_bind (wpAny_setState_of R.obj rfl R.fits ?_)
  dsimp only
  refine wpAny_bind (wpAny_byText ?_)
  by_cases hb : (w.params.followText "set-order" || (t.led && t.plain) || decide (es.size ≤ 1)) = true
  · refine wp_if_pos (c := (w.params.followText "set-order" || (t.led && t.plain) || decide (es.size ≤ 1)) = true) hb ?_
    exact walk_x R rf
  · refine wp_if_neg (c := (w.params.followText "set-order" || (t.led && t.plain) || decide (es.size ≤ 1)) = true) hb ?_
    have hnt : ¬ w.params.followText "set-order" = true := fun z => hb (by rw [z] <;> rfl)
    have hl : t.led = true := R.led.resolve_left hnt
    try refine wpAny_bind (wpAny_pure ?_)
    refine wpAny_bind (quiet_x _ (fun b hb' => (List.mem_cons.mp hb').elim (fun z => ⟨es, ep, t, z ▸ R⟩) (ho b)) ?_)
    refine wp_if_neg (c := (!true) = true) (by simp) ?_
    try refine wpAny_bind (wpAny_pure ?_)
    refine wpAny_bind (wpAny_rule ?_)
    try dsimp only
    refine wpAny_bind (wpAny_setState_of F.obj rfl F.fits ?_)
    dsimp only
    split
    · refine wpAny_bind (wpAny_storeSet_of F.obj rfl ?_ (fits_of_scanBound F.few))
      refine wpAny_pure ?_
      refine hQ es s.drawn _ _ _ (List.Perm.refl _) (Heap.SameBut.update s.heap f _) (F.perm (List.Perm.refl _) (store_at F.obj rfl) ?_ F.ris ?_)
      · exact F.fits
      · refine F.led.imp id fun z => ?_
        show (tf.led && t.led) = true
        rw [z, hl] <;> rfl
    · try refine wpAny_bind (wpAny_pure ?_)
      exact wpAny_pure (rf es s.drawn (List.Perm.refl _))
theorem unseen_n {others : List Addr} {Q : Array (Int × Value) → Shared → Prop} (R : SetX w s.heap a es ep t)
    (ho : ∀ b ∈ others, ∃ es ep t, SetX w s.heap b es ep t)
    (rf : ∀ ys d, ys.toList.Perm es.toList → Q ys { s with drawn := d }) :
    wpAny (model P w) A (setWalkUnseen a others none) Q E s := by
  unfold setWalkUnseen
  refine wpAny_bind (wpAny_setState_of R.obj rfl R.fits ?_)
  dsimp only
  refine wpAny_bind (wpAny_byText ?_)
  by_cases hb : (w.params.followText "set-order" || (t.led && t.plain) || decide (es.size ≤ 1)) = true
  · refine wp_if_pos (c := (w.params.followText "set-order" || (t.led && t.plain) || decide (es.size ≤ 1)) = true) hb ?_
    exact walk_x R rf
  · refine wp_if_neg (c := (w.params.followText "set-order" || (t.led && t.plain) || decide (es.size ≤ 1)) = true) hb ?_
    try refine wpAny_bind (wpAny_pure ?_)
    refine wpAny_bind (quiet_x _ (fun b hb' => (List.mem_cons.mp hb').elim (fun z => ⟨es, ep, t, z ▸ R⟩) (ho b)) ?_)
    refine wp_if_neg (c := (!true) = true) (by simp) ?_
    try refine wpAny_bind (wpAny_pure ?_)
    refine wpAny_bind (wpAny_rule ?_)
    try dsimp only
    try refine wpAny_bind (wpAny_pure ?_)
    exact wpAny_pure (rf es s.drawn (List.Perm.refl _))

theorem room_x {more : Nat} {Q : Unit → Shared → Prop} (R : SetX w s.heap a es ep t) (hm : (es.size + more) * 2 < 128)
    (hQ : ∀ h' es' ep' t', Heap.SameBut a s.heap h' → SetX w h' a es' ep' t' → es'.toList.Perm es.toList →
      ((t' = t ∧ (t.fill + more) * 5 < t.mask * 3) ∨ (t'.mask = SetTable.sizeAbove ((es.size + more) * 2) - 1 ∧ t'.dummies = #[])) → Q () { s with heap := h' }) :
    wpAny (model P w) A (setRoomFor a more) Q E s := by
  have hz : t.place.size = es.size := by
    have f := R.fits
    unfold SetTable.fits at f
    rw [Bool.and_eq_true, beq_iff_eq] at f
    exact f.1
  unfold setRoomFor
  refine wpAny_bind (wpAny_setState_of R.obj rfl R.fits ?_)
  dsimp only
  by_cases c : (t.fill + more) * 5 ≥ t.mask * 3
  · have e : t.roomFor more = some ((t.place.size + more) * 2) := if_pos c
    rw [e]
    dsimp only
    rw [hz]
    refine relay_x R hm (by omega) fun h' es' t' sb X p em ed _ => hQ h' es' _ t' sb X p (.inr ⟨em, ed⟩)
  · have e : t.roomFor more = none := if_neg c
    rw [e]
    dsimp only
    exact wpAny_pure (hQ s.heap es ep t (Heap.SameBut.refl a s.heap) R (List.Perm.refl _) (.inl ⟨rfl, by omega⟩))
end
end Cs

set_option Elab.async false
set_option linter.all false
set_option maxRecDepth 100000
set_option maxHeartbeats 1000000
namespace Cs
open PySem PySem.Spec PyProof.Rows L2
section
variable {P : Program} {w : World} {A : Around} {E : Value → Shared → Prop} {s : Shared}
abbrev keys (es : Array (Int × Value)) : List Int := es.toList.map keyOf
theorem keys_perm {x y : Array (Int × Value)} (p : x.toList.Perm y.toList) (k : Int) : k ∈ keys x ↔ k ∈ keys y := (p.map keyOf).mem_iff
theorem sb_trans {a : Addr} {h1 h2 h3 : Heap} (x : Heap.SameBut a h1 h2) (y : Heap.SameBut a h2 h3) : Heap.SameBut a h1 h3 := x.trans y
theorem sx_other {h h' : Heap} {a b : Addr} {es : Array (Int × Value)} {ep : Nat} {t : SetTable} (R : SetX w h b es ep t) (sb : Heap.SameBut a h h') (hne : b ≠ a) : SetX w h' b es ep t :=
  R.move fun o e => (sb.2 b hne).trans e
theorem sr_other {h h' : Heap} {a b : Addr} {S : Int → Bool} {n : Nat} (R : SetR w h b S n) (sb : Heap.SameBut a h h') (hne : b ≠ a) : SetR w h' b S n :=
  R.at fun o e => (sb.2 b hne).trans e

/-- adding the members of a walk, one by one -/
theorem add_all {r : Addr} (f : (Int × Value) → PUnit → Sem (ForInStep PUnit)) (K : Shared → Prop) (hK : ∀ s1 h', Heap.SameBut r s1.heap h' → K s1 → K { s1 with heap := h' })
    (hf : ∀ e k tk s1 Q', e = (hashInt k, Value.int k tk) → K s1 → (wpAny (model P w) A (setAddHashed r (.int k tk) (hashInt k)) (fun _ s2 => K s2 ∧ Q' (.yield ⟨⟩) s2) E s1) → wpAny (model P w) A (f e ⟨⟩) Q' E s1)
    (ys : Array (Int × Value)) (g : ∀ e ∈ ys.toList, GoodE e) {S : Int → Bool} {n : Nat} (R : SetR w s.heap r S n) (hn : n + ys.size + 1 < scanBound) (hs : K s) {Q : PUnit → Shared → Prop}
    (hQ : ∀ h' S' n', SetR w h' r S' n' → (∀ k, S' k = true ↔ S k = true ∨ k ∈ keys ys) → n' ≤ n + ys.size → Heap.SameBut r s.heap h' → K { s with heap := h' } → Q ⟨⟩ { s with heap := h' }) :
    wpAny (model P w) A (forIn ys ⟨⟩ f) Q E s := by
  refine MeetsSeq2.wpAny_forIn_array f (fun rest _ s' => ∃ h' S' n', s' = { s with heap := h' } ∧ SetR w h' r S' n' ∧ (∀ k, (S' k = true ∨ k ∈ rest.map keyOf) ↔ (S k = true ∨ k ∈ keys ys)) ∧ n' + rest.length ≤ n + ys.size ∧
    Heap.SameBut r s.heap h' ∧ K { s with heap := h' } ∧ ∀ e ∈ rest, GoodE e) Q ?turn ?fin ys ⟨⟩ ⟨s.heap, S, n, rfl, R, fun k => Iff.rfl, by rw [Array.length_toList]; exact Nat.le_refl _, Heap.SameBut.refl r s.heap, hs, g⟩
  case fin =>
    rintro ⟨⟩ s' ⟨h', S', n', rfl, R', m, l, sb, k, _⟩
    exact hQ h' S' n' R' (fun k => by simpa using m k) (by simpa using l) sb k
  case turn =>
    rintro e rest ⟨⟩ s' ⟨h', S', n', rfl, R', m, l, sb, kk, g'⟩
    obtain ⟨k, tk, e1, e2⟩ := g' e List.mem_cons_self
    obtain ⟨eh, ev⟩ := e
    simp only at e1 e2
    subst e1 e2
    rw [List.length_cons] at l
    refine hf _ k tk _ _ rfl kk ?_
    refine setR_add_hashed (s := { s with heap := h' }) R' (by omega) fun h2 sb2 R2 => ?_
    have k2 : K { s with heap := h2 } := hK { s with heap := h' } h2 sb2 kk
    refine ⟨k2, h2, _, _, rfl, R2, fun j => ?_, ?_, sb_trans sb sb2, k2, fun e he => g' e (List.mem_cons_of_mem _ he)⟩
    · rw [← m j, List.map_cons, List.mem_cons, Bool.or_eq_true, decide_eq_true_eq]
      show ((S' j = true ∨ j = k) ∨ _) ↔ (S' j = true ∨ (j = k ∨ _))
      exact or_assoc
    · have : (if S' k = true then n' else n' + 1) ≤ n' + 1 := by split <;> omega
      omega

/-- what is merged into a set with members -/
theorem merge_more {r o : Addr} {each : Sem Unit} {er eo : Array (Int × Value)} {pr po : Nat} {tr to : SetTable} {Q : Unit → Shared → Prop} (hro : o ≠ r) (R : SetX w s.heap r er pr tr) (O : SetX w s.heap o eo po to)
    (hne : er.size ≠ 0) (hroom : (er.size + eo.size) * 2 < 128)
    (heach : ∀ s' Q', SetX w s'.heap o eo po to → Q' () s' → wpAny (model P w) A each Q' E s')
    (hQ : ∀ h' d' S' n', SetR w h' r S' n' → (∀ k, S' k = true ↔ k ∈ keys er ∨ k ∈ keys eo) → n' ≤ er.size + eo.size → Heap.SameBut r s.heap h' → Q () { s with heap := h', drawn := d' }) :
    wpAny (model P w) A (setMerge r o each) Q E s := by
  unfold setMerge
  refine wp_if_neg (c := (r == o) = true) (by simpa using Ne.symm hro) ?_
  try refine wpAny_bind (wpAny_pure ?_)
  refine wpAny_bind (wpAny_setState_of O.obj rfl O.fits ?_)
  dsimp only
  by_cases he : eo.isEmpty = true
  · refine wp_if_pos (c := eo.isEmpty = true) he ?_
    refine wpAny_pure (hQ s.heap s.drawn _ _ (R.toR (S := fun k => decide (k ∈ keys er)) (fun k => decide_eq_true_iff) rfl) (fun k => ?_) (by omega) (Heap.SameBut.refl r s.heap))
    have : eo = #[] := by simpa using he
    subst this
    simp
  · refine wp_if_neg (c := eo.isEmpty = true) he ?_
    try refine wpAny_bind (wpAny_pure ?_)
    refine wpAny_bind (room_x R hroom fun h1 er1 pr1 tr1 sb1 R1 p1 _ => ?_)
    have O1 := sx_other O sb1 hro
    refine wpAny_bind (wpAny_setState_of R1.obj rfl R1.fits ?_)
    dsimp only
    have z1 := perm_size p1
    have hfill : (tr1.fill != 0) = true := by
      have f := R1.fits
      unfold SetTable.fits at f
      rw [Bool.and_eq_true, beq_iff_eq] at f
      have : tr1.fill ≠ 0 := by
        unfold SetTable.fill
        omega
      simpa using this
    have er' : tr1.road to = .oneByOne := if_pos hfill
    rw [er']
    dsimp only
    refine wpAny_bind (unseen_x (s := { s with heap := h1 }) O1 (fun b hb => by rw [List.mem_singleton.mp hb]; exact ⟨_, _, _, R1⟩) R1 fun ys d h2 pf tf py sb2 R2 => ?_)
    have O2 := sx_other O1 sb2 hro
    have zy := perm_size py
    refine wpAny_bind (add_all (s := { s with heap := h2, drawn := d }) (P := P) (A := A) (E := E) _ (fun s1 => SetX w s1.heap o eo po to) (fun s1 h' sb k => sx_other k sb hro) ?hf ys (fun e he => O.good e (py.mem_iff.mp he))
      (R2.toR (S := fun k => decide (k ∈ keys er1)) (fun k => decide_eq_true_iff) rfl) (by have : scanBound = 4096 := rfl; omega) O2 ?hQ)
    case hQ =>
      intro h3 S' n' R3 m3 l3 sb3 _
      refine wpAny_pure (hQ h3 d S' n' R3 (fun k => ?_) (by omega) (sb_trans sb1 (sb_trans sb2 sb3)))
      rw [m3 k, decide_eq_true_iff, keys_perm p1 k, keys_perm py k]
    case hf =>
      intro e k tk s1 Q' ee kk hwp
      subst ee
      dsimp only
      refine wpAny_bind (wpAny_holding (wpAny_mono hwp (fun b s2 hs2 => ?_) fun _ _ z => z))
      obtain ⟨k2, q2⟩ := hs2
      refine wpAny_bind (heach s2 _ k2 ?_)
      refine wpAny_bind (wpAny_setState_of k2.obj rfl k2.fits ?_)
      refine wp_if_neg (c := (po != po) = true) (by simp) ?_
      exact wpAny_pure q2
end
end Cs

set_option Elab.async false
set_option linter.all false
set_option maxRecDepth 100000
set_option maxHeartbeats 1000000
namespace Cs
open PySem PySem.Spec PyProof.Rows L2
section
variable {P : Program} {w : World} {A : Around} {E : Value → Shared → Prop} {s : Shared}
theorem SetX.permTo {h h' : Heap} {a b : Addr} {es es' : Array (Int × Value)} {t t' : SetTable} {ep ep' : Nat} (R : SetX w h a es ep t) (p : es'.toList.Perm es.toList)
    (o : h'.get? b = some { cls := .type "set", dict := none, data := .set es' ep' t', slots := #[] }) (f : t'.fits es'.size = true) (r : Ris t'.place.toList) (l : w.params.followText "set-order" = true ∨ t'.led = true) : SetX w h' b es' ep' t' :=
  ⟨o, fun e he => R.good e (p.mem_iff.mp he), (p.map keyOf).nodup_iff.mpr R.nd, by rw [perm_size p]; exact R.few, f, r, l⟩
theorem nil_of_perm {es : Array (Int × Value)} (p : es.toList.Perm (#[] : Array (Int × Value)).toList) : es = #[] := by
  have q := List.perm_nil.mp p
  simpa using q
theorem merge_fresh {r o : Addr} {each : Sem Unit} {eo : Array (Int × Value)} {pr po : Nat} {tr to : SetTable} {Q : Unit → Shared → Prop} (hro : o ≠ r) (R : SetX w s.heap r #[] pr tr)
    (hm : tr.mask = 7) (hdm : tr.dummies = #[]) (O : SetX w s.heap o eo po to) (h63 : eo.size ≤ 63)
    (hQ : ∀ h' es' ep' t', SetX w h' r es' ep' t' → es'.toList.Perm eo.toList → Heap.SameBut r s.heap h' → Q () { s with heap := h' }) :
    wpAny (model P w) A (setMerge r o each) Q E s := by
  unfold setMerge
  refine wp_if_neg (c := (r == o) = true) (by simpa using Ne.symm hro) ?_
  try refine wpAny_bind (wpAny_pure ?_)
  refine wpAny_bind (wpAny_setState_of O.obj rfl O.fits ?_)
  dsimp only
  by_cases he : eo.isEmpty = true
  · refine wp_if_pos (c := eo.isEmpty = true) he ?_
    have e0 : eo = #[] := by simpa using he
    subst e0
    exact wpAny_pure (hQ s.heap _ _ _ R (List.Perm.refl _) (Heap.SameBut.refl r s.heap))
  · refine wp_if_neg (c := eo.isEmpty = true) he ?_
    try refine wpAny_bind (wpAny_pure ?_)
    have fr : tr.fill = 0 := by
      have f := R.fits
      unfold SetTable.fits at f
      rw [Bool.and_eq_true, beq_iff_eq] at f
      have f1 : tr.place.size = 0 := f.1
      unfold SetTable.fill
      rw [hdm, f1]
      rfl
    refine wpAny_bind (room_x R (by show (0 + eo.size) * 2 < 128; omega) fun h1 er1 pr1 tr1 sb1 R1 p1 alt => ?_)
    have e1 := nil_of_perm p1
    subst e1
    have O1 := sx_other O sb1 hro
    have hM : Msk tr1.mask ∧ eo.size ≤ tr1.mask ∧ tr1.dummies = #[] := by
      rcases alt with ⟨et, hlt⟩ | ⟨em, ed⟩
      · subst et
        rw [fr, hm] at hlt
        exact ⟨.inl hm, by rw [hm]; omega, hdm⟩
      · have z : (#[] : Array (Int × Value)).size = 0 := rfl
        rw [z] at em
        obtain ⟨a1, a2, a3⟩ := above_ok (n := (0 + eo.size) * 2) (by omega)
        exact ⟨em ▸ a1, by omega, ed⟩
    obtain ⟨hM1, hM2, hM3⟩ := hM
    have fr1 : tr1.fill = 0 := by
      have f := R1.fits
      unfold SetTable.fits at f
      rw [Bool.and_eq_true, beq_iff_eq] at f
      have f1 : tr1.place.size = 0 := f.1
      unfold SetTable.fill
      rw [hM3, f1]
      rfl
    refine wpAny_bind (wpAny_setState_of R1.obj rfl R1.fits ?_)
    dsimp only
    have led : w.params.followText "set-order" = true ∨ (tr1.led && to.led) = true := by
      rcases R1.led with z | z
      · exact .inl z
      · rcases O1.led with y | y
        · exact .inl y
        · exact .inr (by rw [z, y] <;> rfl)
    have er : tr1.road to = if (tr1.mask == to.mask && to.dummies.isEmpty) = true then .slotForSlot else .clean := if_neg (by rw [fr1]; simp)
    by_cases c : (tr1.mask == to.mask && to.dummies.isEmpty) = true
    · rw [er, if_pos c]
      dsimp only
      refine wpAny_storeSet_of R1.obj rfl ?_ (fits_of_scanBound O.few)
      refine hQ _ _ _ _ (O1.permTo (List.Perm.refl _) (store_at R1.obj rfl) ?_ O1.ris led) (List.Perm.refl _) (sb_trans sb1 (Heap.SameBut.update h1 r _))
      exact O1.fits
    · rw [er, if_neg c]
      dsimp only
      obtain ⟨t', order, e, hp, em, ed, el, eR, ez⟩ := laid_ok hM1 (hs := eo.map (·.1)) (by rw [Array.size_map]; exact hM2) tr1.finger tr1.moves (tr1.led && to.led) (tr1.plain && to.plain)
      rw [Array.size_map] at hp ez
      have p2 := order_perm hp
      have z2 := perm_size p2
      rw [e]
      refine wpAny_bind ?_
      refine wp_if_neg (c := ((order.filterMap (eo[·]?)).size != eo.size) = true) (by rw [z2]; simp) ?_
      try refine wpAny_bind (wpAny_pure ?_)
      refine wpAny_pure ?_
      dsimp only
      refine wpAny_storeSet_of R1.obj rfl ?_ (fits_of_scanBound (by rw [z2]; exact O.few))
      refine hQ _ _ _ _ (O1.permTo p2 (store_at R1.obj rfl) ?_ eR (by rw [el]; exact led)) p2 (sb_trans sb1 (Heap.SameBut.update h1 r _))
      unfold SetTable.fits SetTable.fill
      rw [ed, z2, ez, em, Bool.and_eq_true, beq_iff_eq, decide_eq_true_eq]
      exact ⟨rfl, by show eo.size + 0 ≤ _; omega⟩

/-! ### the words of the class -/
abbrev newObjOf (w : World) : Obj := { cls := .type "set", dict := none, data := .set #[] 0 (.fresh 0 0 (!w.params.followText "set-order")) }
theorem fresh_x (h : Heap) : SetX w (h.push (newObjOf w)) h.objs.size #[] 0 (.fresh 0 0 (!w.params.followText "set-order")) :=
  ⟨Heap.get?_push_size _ rfl, fun e he => by simp at he, by simp, by decide, rfl, List.Pairwise.nil, by
    show _ ∨ (!w.params.followText "set-order") = true
    cases w.params.followText "set-order" <;> simp⟩
theorem SetX.ty {h : Heap} {a : Addr} {es : Array (Int × Value)} {ep : Nat} {t : SetTable} (R : SetX w h a es ep t) {s : Shared} (e : s.heap = h) : s.TypeIs (.ref a) "set" :=
  ⟨_, by rw [e]; exact R.obj, rfl⟩
theorem base_x {a : Addr} {Q : Value → Shared → Prop} (hT : s.TypeIs (.ref a) "set") (q : Q (.type "set") s) : wpAny (model P w) A (Builtin.Frozenset.baseOf a) Q E s := by
  unfold Builtin.Frozenset.baseOf
  refine wpAny_bind (wpAny_isInstance (b := true) hT sub_set_self ?_)
  exact wpAny_pure q
theorem any_x {a : Addr} {Q : Bool → Shared → Prop} (hT : s.TypeIs (.ref a) "set") (q : Q true s) : wpAny (model P w) A (Builtin.Frozenset.isAnySet (.ref a)) Q E s := by
  unfold Builtin.Frozenset.isAnySet
  refine wpAny_bind (wpAny_isInstance (b := true) hT sub_set_self ?_)
  exact wpAny_pure q
theorem new_x {Q : Value → Shared → Prop} (q : Q (.ref s.heap.objs.size) { s with heap := s.heap.push (newObjOf w) }) : wpAny (model P w) A (newSet (.type "set")) Q E s := by
  unfold newSet
  refine wpAny_bind (wpAny_byText ?_)
  dsimp only
  simp only [newObj]
  exact wpAny_bind (wpAny_alloc (wpAny_pure q))
theorem size_x {a : Addr} {es : Array (Int × Value)} {ep : Nat} {t : SetTable} {Q : Nat → Shared → Prop} (R : SetX w s.heap a es ep t) (q : Q es.size s) : wpAny (model P w) A (Builtin.Frozenset.sizeOf a) Q E s := by
  unfold Builtin.Frozenset.sizeOf setEntries
  exact wpAny_bind (wpAny_bind (wpAny_setState_of R.obj rfl R.fits (wpAny_pure (wpAny_pure q))))
theorem unchanged_x {id : String} {a : Addr} {es : Array (Int × Value)} {ep : Nat} {t : SetTable} {Q : Unit → Shared → Prop} (R : SetX w s.heap a es ep t) (q : Q () s) : wpAny (model P w) A (Builtin.Frozenset.unchanged id a ep) Q E s := by
  unfold Builtin.Frozenset.unchanged
  refine wpAny_bind (wpAny_setEpoch_of R.obj rfl R.fits ?_)
  exact wp_if_neg (c := (ep != ep) = true) (by simp) (wpAny_pure q)

/-- heaps in which all is as it was but what is new -/
def Old (h h' : Heap) : Prop := ∀ b o, h.get? b = some o → h'.get? b = some o
theorem old_push (h : Heap) (o : Obj) : Old h (h.push o) := fun _ _ e => Heap.get?_push_of_some o e
theorem old_but {h h' : Heap} {o : Obj} (sb : Heap.SameBut h.objs.size (h.push o) h') : Old h h' := fun b u e => by
  rw [sb.2 b (Nat.ne_of_lt (Heap.lt_size e))]
  exact Heap.get?_push_of_some o e
theorem copy_x {a : Addr} {es : Array (Int × Value)} {ep : Nat} {t : SetTable} {Q : Value → Shared → Prop} (R : SetX w s.heap a es ep t) (h63 : es.size ≤ 63)
    (hQ : ∀ h' es' ep' t', SetX w h' s.heap.objs.size es' ep' t' → es'.toList.Perm es.toList → Heap.SameBut s.heap.objs.size (s.heap.push (newObjOf w)) h' → Q (.ref s.heap.objs.size) { s with heap := h' }) :
    wpAny (model P w) A (Builtin.Frozenset.copyOf a) Q E s := by
  unfold Builtin.Frozenset.copyOf
  refine wpAny_bind (base_x (R.ty rfl) ?_)
  refine wpAny_bind (new_x ?_)
  refine wpAny_bind (wpAny_pure ?_)
  have hne : a ≠ s.heap.objs.size := Nat.ne_of_lt (Heap.lt_size R.obj)
  refine wpAny_bind (merge_fresh (s := { s with heap := s.heap.push (newObjOf w) }) hne (fresh_x s.heap) rfl rfl (R.move fun o e => old_push _ _ _ _ e) h63 fun h' es' ep' t' X p sb => ?_)
  exact wpAny_pure (hQ h' es' ep' t' X p sb)
end
end Cs

set_option Elab.async false
set_option linter.all false
set_option maxRecDepth 100000
set_option maxHeartbeats 1000000
namespace Cs
open PySem PySem.Spec PyProof.Rows L2
section
variable {P : Program} {w : World} {A : Around} {E : Value → Shared → Prop} {s : Shared}
/-- adding those of a walk that a test lets in -/
theorem add_some {r : Addr} (C : Int → Bool) (f : (Int × Value) → PUnit → Sem (ForInStep PUnit)) (K : Shared → Prop) (hK : ∀ s1 h', Heap.SameBut r s1.heap h' → K s1 → K { s1 with heap := h' })
    (hf : ∀ e k tk s1 Q', e = (hashInt k, Value.int k tk) → K s1 → (C k = true → wpAny (model P w) A (setAddHashed r (.int k tk) (hashInt k)) (fun _ s2 => K s2 ∧ Q' (.yield ⟨⟩) s2) E s1) → (C k = false → Q' (.yield ⟨⟩) s1) →
      wpAny (model P w) A (f e ⟨⟩) Q' E s1)
    (ys : Array (Int × Value)) (g : ∀ e ∈ ys.toList, GoodE e) {S : Int → Bool} {n : Nat} (R : SetR w s.heap r S n) (hn : n + ys.size + 1 < scanBound) (hs : K s) {Q : PUnit → Shared → Prop}
    (hQ : ∀ h' S' n', SetR w h' r S' n' → (∀ k, S' k = true ↔ S k = true ∨ (k ∈ keys ys ∧ C k = true)) → n' ≤ n + ys.size → Heap.SameBut r s.heap h' → K { s with heap := h' } → Q ⟨⟩ { s with heap := h' }) :
    wpAny (model P w) A (forIn ys ⟨⟩ f) Q E s := by
  refine MeetsSeq2.wpAny_forIn_array f (fun rest _ s' => ∃ h' S' n', s' = { s with heap := h' } ∧ SetR w h' r S' n' ∧ (∀ k, (S' k = true ∨ (k ∈ rest.map keyOf ∧ C k = true)) ↔ (S k = true ∨ (k ∈ keys ys ∧ C k = true))) ∧ n' + rest.length ≤ n + ys.size ∧
    Heap.SameBut r s.heap h' ∧ K { s with heap := h' } ∧ ∀ e ∈ rest, GoodE e) Q ?turn ?fin ys ⟨⟩ ⟨s.heap, S, n, rfl, R, fun k => Iff.rfl, by rw [Array.length_toList]; exact Nat.le_refl _, Heap.SameBut.refl r s.heap, hs, g⟩
  case fin =>
    rintro ⟨⟩ s' ⟨h', S', n', rfl, R', m, l, sb, k, _⟩
    exact hQ h' S' n' R' (fun k => by simpa using m k) (by simpa using l) sb k
  case turn =>
    rintro e rest ⟨⟩ s' ⟨h', S', n', rfl, R', m, l, sb, kk, g'⟩
    obtain ⟨k, tk, e1, e2⟩ := g' e List.mem_cons_self
    obtain ⟨eh, ev⟩ := e
    simp only at e1 e2
    subst e1 e2
    rw [List.length_cons] at l
    refine hf _ k tk _ _ rfl kk (fun hc => ?_) (fun hc => ?_)
    · refine setR_add_hashed (s := { s with heap := h' }) R' (by omega) fun h2 sb2 R2 => ?_
      have k2 : K { s with heap := h2 } := hK { s with heap := h' } h2 sb2 kk
      refine ⟨k2, h2, _, _, rfl, R2, fun j => ?_, ?_, sb_trans sb sb2, k2, fun e he => g' e (List.mem_cons_of_mem _ he)⟩
      · rw [← m j, List.map_cons, List.mem_cons, Bool.or_eq_true, decide_eq_true_eq]
        show ((S' j = true ∨ j = k) ∨ _) ↔ (S' j = true ∨ ((j = k ∨ _) ∧ _))
        constructor
        · rintro ((z | z) | ⟨z, z2⟩)
          · exact .inl z
          · exact .inr ⟨.inl z, z ▸ hc⟩
          · exact .inr ⟨.inr z, z2⟩
        · rintro (z | ⟨z | z, z2⟩)
          · exact .inl (.inl z)
          · exact .inl (.inr z)
          · exact .inr ⟨z, z2⟩
      · have : (if S' k = true then n' else n' + 1) ≤ n' + 1 := by split <;> omega
        omega
    · refine ⟨h', S', n', rfl, R', fun j => ?_, by omega, sb, kk, fun e he => g' e (List.mem_cons_of_mem _ he)⟩
      rw [← m j, List.map_cons, List.mem_cons]
      show (S' j = true ∨ _) ↔ (S' j = true ∨ ((j = k ∨ _) ∧ _))
      constructor
      · rintro (z | ⟨z, z2⟩)
        · exact .inl z
        · exact .inr ⟨.inr z, z2⟩
      · rintro (z | ⟨z | z, z2⟩)
        · exact .inl z
        · rw [z, hc] at z2
          cases z2
        · exact .inr ⟨z, z2⟩

theorem find_x {a : Addr} {es : Array (Int × Value)} {ep : Nat} {t : SetTable} {k : Int} {tk : Tok} {Q : Option Nat → Shared → Prop} (R : SetX w s.heap a es ep t)
    (h : ∀ i : Option Nat, (i = none ∧ k ∉ keys es ∨ ∃ j, i = some j ∧ (keys es)[j]? = some k) → Q i s) : wpAny (model P w) A (setFind a (.int k tk) (hashInt k)) Q E s := by
  have hkey : (intKind P w).is k (.int k tk) = true := intKind_is P w k tk
  have hel : ElemsOf (intKind P w) es.toList := good_elems R.good
  unfold setFind setFindIn
  refine wpAny_bind (wpAny_setState_of R.obj rfl R.fits ?_)
  dsimp only
  rw [byScan_of (x := .int k tk) rfl R.few hel]
  simp only [↓reduceIte]
  refine wpAny_bind (wpAny_rule ?_)
  refine wpAny_bind (wpAny_setScan_of (knd := intKind P w) hkey R.obj rfl R.fits hel ?_)
  cases hr : List.findIdx? (fun e => (intKind P w).is k e.2) es.toList with
  | none =>
    dsimp only
    refine wpAny_pure (h none (.inl ⟨rfl, fun z => ?_⟩))
    obtain ⟨e, he, q⟩ := (good_mem (P := P) (w := w) R.good k).1 z
    have c := List.findIdx?_eq_none_iff.mp hr e he
    rw [q] at c
    cases c
  | some j =>
    dsimp only
    obtain ⟨hj, pj, _⟩ := List.findIdx?_eq_some_iff_getElem.mp hr
    refine wpAny_pure (h (some (0 + j)) (.inr ⟨0 + j, rfl, ?_⟩))
    rw [Nat.zero_add, List.getElem?_map, List.getElem?_eq_getElem hj]
    have := (good_is (P := P) (w := w) (R.good _ (List.getElem_mem hj)) k).1 pj
    exact congrArg some this
theorem found_x {a : Addr} {es : Array (Int × Value)} {ep : Nat} {t : SetTable} {k : Int} {tk : Tok} {Q : Option Nat → Shared → Prop} (R : SetX w s.heap a es ep t)
    (h : ∀ i : Option Nat, i.isSome = decide (k ∈ keys es) → Q i s) : wpAny (model P w) A (setFind a (.int k tk) (hashInt k)) Q E s := by
  refine find_x R fun i hi => h i ?_
  rcases hi with ⟨rfl, z⟩ | ⟨j, rfl, z⟩
  · simp [z]
  · have : k ∈ keys es := List.mem_of_getElem? z
    simp [this]

/-- a & b -/
theorem and_x {id : String} {a b : Addr} {ea eb : Array (Int × Value)} {pa pb : Nat} {ta tb : SetTable} {Q : Value → Shared → Prop} (hne : b ≠ a) (RA : SetX w s.heap a ea pa ta) (RB : SetX w s.heap b eb pb tb)
    (hl : ea.size ≤ 63) (hl2 : eb.size ≤ 63)
    (hQ : ∀ h' d' S n, SetR w h' s.heap.objs.size S n → (∀ k, S k = true ↔ k ∈ keys ea ∧ k ∈ keys eb) → n ≤ 63 → Old s.heap h' → Q (.ref s.heap.objs.size) { s with heap := h', drawn := d' }) :
    wpAny (model P w) A (Builtin.Frozenset.intersection id a (.ref b)) Q E s := by
  have hsb : scanBound = 4096 := rfl
  have na : a ≠ s.heap.objs.size := Nat.ne_of_lt (Heap.lt_size RA.obj)
  have nb : b ≠ s.heap.objs.size := Nat.ne_of_lt (Heap.lt_size RB.obj)
  unfold Builtin.Frozenset.intersection
  refine wp_if_neg (c := ((Value.ref b == Value.ref a) = true)) (by simpa using hne) ?_
  try refine wpAny_bind (wpAny_pure ?_)
  refine wpAny_bind (base_x (RA.ty rfl) ?_)
  refine wpAny_bind (new_x ?_)
  refine wpAny_bind (wpAny_pure ?_)
  have RA1 : SetX w (s.heap.push (newObjOf w)) a ea pa ta := RA.move fun o e => old_push _ _ _ _ e
  have RB1 : SetX w (s.heap.push (newObjOf w)) b eb pb tb := RB.move fun o e => old_push _ _ _ _ e
  have R1 := fresh_x (w := w) s.heap
  refine wpAny_bind (wpAny_holding ?_)
  refine wpAny_bind (any_x (RB1.ty rfl) ?_)
  refine wp_if_pos (c := (true = true)) rfl ?_
  refine wpAny_bind (wpAny_pure ?_)
  refine wpAny_bind (size_x (s := { s with heap := s.heap.push (newObjOf w) }) RB1 ?_)
  refine wpAny_bind (size_x (s := { s with heap := s.heap.push (newObjOf w) }) RA1 ?_)
  have key : ∀ (q v : Addr) (eq ev : Array (Int × Value)) (pq pv : Nat) (tq tv : SetTable), SetX w (s.heap.push (newObjOf w)) q eq pq tq → SetX w (s.heap.push (newObjOf w)) v ev pv tv → ev.size ≤ 63 → q ≠ s.heap.objs.size → v ≠ s.heap.objs.size →
      (∀ k, k ∈ keys ev ∧ k ∈ keys eq ↔ k ∈ keys ea ∧ k ∈ keys eb) → wpAny (model P w) A (do
        let was ← setEpoch v
        for (h, x) in ← setWalkUnseen v [q, s.heap.objs.size] (some s.heap.objs.size) do
          holding [x] do
            if (← setFind q x h).isSome then
              let _ ← setAddHashed s.heap.objs.size x h
          Builtin.Frozenset.unchanged id v was) (fun _ s' => wpAny (model P w) A (pure (Value.ref s.heap.objs.size)) Q E s') E { s with heap := s.heap.push (newObjOf w) } := by
    intro q v eq ev pq pv tq tv RQ RV hv nq nv hk
    refine wpAny_bind (wpAny_setEpoch_of RV.obj rfl RV.fits ?_)
    refine wpAny_bind (unseen_x (s := { s with heap := s.heap.push (newObjOf w) }) RV (fun c hc => ?_) R1 fun ys d h2 pf tf py sb2 R2 => ?_)
    · rcases List.mem_cons.mp hc with z | z
      · exact ⟨_, _, _, z ▸ RQ⟩
      · rw [List.mem_singleton.mp z]
        exact ⟨_, _, _, R1⟩
    have RQ2 := sx_other RQ sb2 nq
    have RV2 := sx_other RV sb2 nv
    have zy := perm_size py
    refine wpAny_bind (add_some (P := P) (A := A) (E := E) (s := { s with heap := h2, drawn := d }) (r := s.heap.objs.size) (fun k => decide (k ∈ keys eq)) _ (fun s1 => SetX w s1.heap q eq pq tq ∧ SetX w s1.heap v ev pv tv) (fun s1 h' sb k => ⟨sx_other k.1 sb nq, sx_other k.2 sb nv⟩) ?hf ys
      (fun e he => RV.good e (py.mem_iff.mp he)) (R2.toR (S := fun _ => false) (fun k => by simp) rfl) (by show 0 + ys.size + 1 < scanBound; omega) ⟨RQ2, RV2⟩ ?hQ)
    case hQ =>
      intro h3 S' n' R3 m3 l3 sb3 _
      refine wpAny_pure (wpAny_pure (hQ h3 d S' n' R3 (fun k => ?_) ?_ ?_))
      · rw [m3 k, keys_perm py k, decide_eq_true_iff, ← hk k]
        simp
      · have : n' ≤ 0 + ys.size := l3
        omega
      · exact old_but (sb_trans sb2 sb3)
    case hf =>
      intro e k tk s1 Q' ee kk h1 h0
      subst ee
      dsimp only
      refine wpAny_bind (wpAny_holding ?_)
      refine wpAny_bind (found_x kk.1 fun i hi => ?_)
      by_cases c : k ∈ keys eq
      · refine wp_if_pos (by rw [hi]; exact decide_eq_true c) ?_
        refine wpAny_bind (wpAny_mono (h1 (decide_eq_true c)) (fun b s2 hs2 => ?_) fun _ _ z => z)
        refine wpAny_pure ?_
        refine wpAny_bind (unchanged_x hs2.1.2 ?_)
        exact wpAny_pure hs2.2
      · refine wp_if_neg (by rw [hi]; simpa using c) ?_
        refine wpAny_pure ?_
        refine wpAny_bind (unchanged_x kk.2 ?_)
        exact wpAny_pure (h0 (decide_eq_false c))
  by_cases c : eb.size > ea.size
  · rw [if_pos c]
    exact key b a eb ea pb pa tb ta RB1 RA1 hl nb na (fun k => Iff.rfl)
  · rw [if_neg c]
    exact key a b ea eb pa pb ta tb RA1 RB1 hl2 na nb (fun k => And.comm)
end
end Cs

set_option Elab.async false
set_option linter.all false
set_option maxRecDepth 100000
set_option maxHeartbeats 1000000
namespace Cs
open PySem PySem.Spec PyProof.Rows L2
section
variable {P : Program} {w : World} {A : Around} {E : Value → Shared → Prop} {s : Shared}
theorem map_out {α β : Type} (f : α → β) : ∀ (l : List α) (i : Nat), (l.map f).eraseIdx i = (l.eraseIdx i).map f
  | [], i => by simp
  | x :: l, 0 => by simp
  | x :: l, i + 1 => by simp [map_out f l i]
/-- a | b -/
theorem union_x {id : String} {a b : Addr} {ea eb : Array (Int × Value)} {pa pb : Nat} {ta tb : SetTable} {Q : Unit → Shared → Prop} (hne : b ≠ a) (RA : SetX w s.heap a ea pa ta) (RB : SetX w s.heap b eb pb tb)
    (ha : ea.size ≠ 0 ∨ (ea = #[] ∧ ta.mask = 7 ∧ ta.dummies = #[])) (hl : (ea.size + eb.size) * 2 < 128)
    (hQ : ∀ h' d' S n, SetR w h' a S n → (∀ k, S k = true ↔ k ∈ keys ea ∨ k ∈ keys eb) → n ≤ ea.size + eb.size → Heap.SameBut a s.heap h' → Q () { s with heap := h', drawn := d' }) :
    wpAny (model P w) A (Builtin.Frozenset.updateFrom id a (.ref b)) Q E s := by
  unfold Builtin.Frozenset.updateFrom
  refine wpAny_bind (any_x (RB.ty rfl) ?_)
  refine wp_if_pos (c := (true = true)) rfl ?_
  refine wpAny_bind (wpAny_pure ?_)
  refine wpAny_bind (wpAny_setEpoch_of RB.obj rfl RB.fits ?_)
  rcases ha with ha | ⟨e0, em, ed⟩
  · refine merge_more hne RA RB ha hl (fun s' Q' k q => unchanged_x k q) fun h' d' S' n' R m l sb => ?_
    exact hQ h' d' S' n' R m l sb
  · subst e0
    have z0 : (#[] : Array (Int × Value)).size = 0 := rfl
    refine merge_fresh hne RA em ed RB (by omega) fun h' es' ep' t' X p sb => ?_
    have z := perm_size p
    exact hQ h' s.drawn _ _ (X.toR (S := fun k => decide (k ∈ keys es')) (fun k => decide_eq_true_iff) rfl) (fun k => by rw [decide_eq_true_iff, keys_perm p k]; simp) (by omega) sb

/-- what is struck out -/
theorem discard_x {a : Addr} {es : Array (Int × Value)} {ep : Nat} {t : SetTable} {k : Int} {tk : Tok} {Q : Bool → Shared → Prop} (R : SetX w s.heap a es ep t)
    (hQ : ∀ b h' es' ep' t', SetX w h' a es' ep' t' → (∀ j, j ∈ keys es' ↔ j ∈ keys es ∧ j ≠ k) → es'.size ≤ es.size → Heap.SameBut a s.heap h' → Q b { s with heap := h' }) :
    wpAny (model P w) A (setDiscardHashed a (.int k tk) (hashInt k)) Q E s := by
  unfold setDiscardHashed
  refine wpAny_bind (find_x R fun i hi => ?_)
  rcases hi with ⟨rfl, z⟩ | ⟨i, rfl, z⟩
  · exact wpAny_pure (hQ false s.heap es ep t R (fun j => ⟨fun q => ⟨q, fun e => z (e ▸ q)⟩, fun q => q.1⟩) (Nat.le_refl _) (Heap.SameBut.refl a s.heap))
  · dsimp only
    refine wpAny_bind (wpAny_setState_of R.obj rfl R.fits ?_)
    dsimp only
    have hf := R.fits
    unfold SetTable.fits SetTable.fill at hf
    rw [Bool.and_eq_true, beq_iff_eq, decide_eq_true_eq] at hf
    have hi : i < es.toList.length := by
      have := (List.getElem?_eq_some_iff.mp z).1
      rw [List.length_map] at this
      exact this
    have hi2 : i < t.place.size := by rw [hf.1, ← Array.length_toList]; exact hi
    have er : ∀ {α : Type} (xs : Array α), (SetTable.eraseAt xs i).toList = xs.toList.eraseIdx i := fun xs => by
      unfold SetTable.eraseAt
      rw [List.eraseIdx_eq_take_drop_succ]
      simp [List.extract_eq_take_drop, List.take_of_length_le]
    have ed : t.drop i = { t with place := SetTable.eraseAt t.place i, dummies := SetTable.insertAt t.dummies (SetTable.below t.dummies t.place[i]) t.place[i] } := by
      unfold SetTable.drop
      rw [Array.getElem?_eq_getElem hi2]
    have l1 : (SetTable.eraseAt es i).size + 1 = es.size := by
      rw [← Array.length_toList, er, List.length_eraseIdx, if_pos hi, Array.length_toList]
      rw [Array.length_toList] at hi
      omega
    have l2 : (SetTable.eraseAt t.place i).size + 1 = t.place.size := by
      rw [← Array.length_toList, er, List.length_eraseIdx, Array.length_toList, if_pos hi2]
      omega
    have l3 : ∀ p x, (SetTable.insertAt t.dummies p x).size = t.dummies.size + 1 := fun p x => by
      have := (SetTable.insertAt_perm t.dummies p x).length_eq
      rw [Array.length_toList, Array.length_toList, Array.size_push] at this
      exact this
    refine wpAny_bind (wpAny_storeSet_of R.obj rfl ?_ (fits_of_scanBound (by have := R.few; omega)))
    refine wpAny_bind (wpAny_point ?_)
    have ek : keys (SetTable.eraseAt es i) = (keys es).eraseIdx i := by
      show (SetTable.eraseAt es i).toList.map keyOf = _
      rw [er]
      exact (map_out keyOf es.toList i).symm
    have pk : (k :: (keys es).eraseIdx i).Perm (keys es) := erase_perm (keys es) i k z
    have nd : (k :: (keys es).eraseIdx i).Nodup := pk.nodup_iff.mpr R.nd
    refine wpAny_pure (hQ true _ _ _ _ ⟨store_at R.obj rfl, fun e he => R.good e ?_, ?_, ?_, ?_, ?_, ?_⟩ (fun j => ?_) (by omega) (Heap.SameBut.update s.heap a _))
    · rw [er] at he
      exact List.mem_of_mem_eraseIdx he
    · show (keys (SetTable.eraseAt es i)).Nodup
      rw [ek]
      exact (List.nodup_cons.mp nd).2
    · have := R.few
      omega
    · rw [ed]
      unfold SetTable.fits SetTable.fill
      rw [Bool.and_eq_true, beq_iff_eq, decide_eq_true_eq]
      simp only
      rw [l3]
      exact ⟨by omega, by omega⟩
    · rw [ed]
      show Ris (SetTable.eraseAt t.place i).toList
      rw [er]
      exact List.Pairwise.sublist (List.eraseIdx_sublist _ _) R.ris
    · rw [ed]
      exact R.led
    · rw [ek, ← (pk.mem_iff (a := j)), List.mem_cons]
      constructor
      · intro q
        exact ⟨.inr q, fun e => (List.nodup_cons.mp nd).1 (e ▸ q)⟩
      · rintro ⟨q | q, q2⟩
        · exact absurd q q2
        · exact q

theorem strike_all {r : Addr} (f : (Int × Value) → PUnit → Sem (ForInStep PUnit)) (K : Shared → Prop) (hK : ∀ s1 h', Heap.SameBut r s1.heap h' → K s1 → K { s1 with heap := h' })
    (hf : ∀ e k tk s1 Q', e = (hashInt k, Value.int k tk) → K s1 → (wpAny (model P w) A (setDiscardHashed r (.int k tk) (hashInt k)) (fun _ s2 => K s2 ∧ Q' (.yield ⟨⟩) s2) E s1) → wpAny (model P w) A (f e ⟨⟩) Q' E s1)
    (ys : Array (Int × Value)) (g : ∀ e ∈ ys.toList, GoodE e) {es : Array (Int × Value)} {ep : Nat} {t : SetTable} (R : SetX w s.heap r es ep t) (hs : K s) {Q : PUnit → Shared → Prop}
    (hQ : ∀ h' es' ep' t', SetX w h' r es' ep' t' → (∀ k, k ∈ keys es' ↔ k ∈ keys es ∧ k ∉ keys ys) → es'.size ≤ es.size → Heap.SameBut r s.heap h' → K { s with heap := h' } → Q ⟨⟩ { s with heap := h' }) :
    wpAny (model P w) A (forIn ys ⟨⟩ f) Q E s := by
  refine MeetsSeq2.wpAny_forIn_array f (fun rest _ s' => ∃ h' es' ep' t', s' = { s with heap := h' } ∧ SetX w h' r es' ep' t' ∧ (∀ k, (k ∈ keys es' ∧ k ∉ rest.map keyOf) ↔ (k ∈ keys es ∧ k ∉ keys ys)) ∧ es'.size ≤ es.size ∧
    Heap.SameBut r s.heap h' ∧ K { s with heap := h' } ∧ ∀ e ∈ rest, GoodE e) Q ?turn ?fin ys ⟨⟩ ⟨s.heap, es, ep, t, rfl, R, fun k => Iff.rfl, Nat.le_refl _, Heap.SameBut.refl r s.heap, hs, g⟩
  case fin =>
    rintro ⟨⟩ s' ⟨h', es', ep', t', rfl, R', m, l, sb, k, _⟩
    exact hQ h' es' ep' t' R' (fun k => by simpa using m k) l sb k
  case turn =>
    rintro e rest ⟨⟩ s' ⟨h', es', ep', t', rfl, R', m, l, sb, kk, g'⟩
    obtain ⟨k, tk, e1, e2⟩ := g' e List.mem_cons_self
    obtain ⟨eh, ev⟩ := e
    simp only at e1 e2
    subst e1 e2
    refine hf _ k tk _ _ rfl kk ?_
    refine discard_x (s := { s with heap := h' }) R' fun b h2 es2 ep2 t2 R2 m2 l2 sb2 => ?_
    have k2 : K { s with heap := h2 } := hK { s with heap := h' } h2 sb2 kk
    refine ⟨k2, h2, _, _, _, rfl, R2, fun j => ?_, by omega, sb_trans sb sb2, k2, fun e he => g' e (List.mem_cons_of_mem _ he)⟩
    rw [← m j, List.map_cons, List.mem_cons, m2 j]
    show ((j ∈ keys es' ∧ j ≠ k) ∧ _) ↔ (j ∈ keys es' ∧ ¬ (j = k ∨ _))
    constructor
    · rintro ⟨⟨z1, z2⟩, z3⟩
      exact ⟨z1, fun z => z.elim z2 z3⟩
    · rintro ⟨z1, z2⟩
      exact ⟨⟨z1, fun z => z2 (.inl z)⟩, fun z => z2 (.inr z)⟩

theorem tidy_x {a : Addr} {es : Array (Int × Value)} {ep : Nat} {t : SetTable} {Q : Unit → Shared → Prop} (R : SetX w s.heap a es ep t) (hl : es.size ≤ 31)
    (hQ : ∀ h' es' ep' t', SetX w h' a es' ep' t' → es'.toList.Perm es.toList → Heap.SameBut a s.heap h' → Q () { s with heap := h' }) :
    wpAny (model P w) A (setTidy a) Q E s := by
  unfold setTidy
  refine wpAny_bind (wpAny_setState_of R.obj rfl R.fits ?_)
  dsimp only
  have eg : SetTable.grown es.size = es.size * 4 := if_neg (by omega)
  split
  · rw [eg]
    exact relay_x R (by omega) (by omega) fun h' es' t' sb X p _ _ _ => hQ h' es' _ t' X p sb
  · exact wpAny_pure (hQ s.heap es ep t R (List.Perm.refl _) (Heap.SameBut.refl a s.heap))
end
end Cs

set_option Elab.async false
set_option linter.all false
set_option maxRecDepth 100000
set_option maxHeartbeats 2000000
namespace Cs
open PySem PySem.Spec PyProof.Rows L2
section
variable {P : Program} {w : World} {A : Around} {E : Value → Shared → Prop} {s : Shared}
/-- a - b -/
theorem sub_x {id : String} {a b : Addr} {ea eb : Array (Int × Value)} {pa pb : Nat} {ta tb : SetTable} {Q : Value → Shared → Prop} (hne : b ≠ a) (RA : SetX w s.heap a ea pa ta) (RB : SetX w s.heap b eb pb tb)
    (hl : ea.size ≤ 31) (hl2 : eb.size ≤ 63)
    (hQ : ∀ h' d' S n, SetR w h' s.heap.objs.size S n → (∀ k, S k = true ↔ k ∈ keys ea ∧ k ∉ keys eb) → n ≤ 31 → Old s.heap h' → Q (.ref s.heap.objs.size) { s with heap := h', drawn := d' }) :
    wpAny (model P w) A (Builtin.Frozenset.difference id a (.ref b)) Q E s := by
  have hsb : scanBound = 4096 := rfl
  have na : a ≠ s.heap.objs.size := Nat.ne_of_lt (Heap.lt_size RA.obj)
  have nb : b ≠ s.heap.objs.size := Nat.ne_of_lt (Heap.lt_size RB.obj)
  unfold Builtin.Frozenset.difference
  dsimp only
  refine wpAny_bind (any_x (RB.ty rfl) ?_)
  refine wp_if_neg (c := ((!true) = true)) (by simp) ?_
  try refine wpAny_bind (wpAny_pure ?_)
  try refine wpAny_bind (wpAny_pure ?_)
  refine wp_if_neg (c := ((!true && b == sysModules) = true)) (by simp) ?_
  try refine wpAny_bind (wpAny_pure ?_)
  refine wp_if_pos (c := (true = true)) rfl ?_
  refine wpAny_bind (size_x RB ?_)
  refine wpAny_bind (size_x RA ?_)
  by_cases c : ea.size / 4 > eb.size
  · refine wp_if_pos c ?_
    refine wpAny_bind (wpAny_rule ?_)
    refine wpAny_bind (copy_x RA (by omega) fun h1 es1 ep1 t1 X1 p1 sb1 => ?_)
    have z1 := perm_size p1
    have RB1 : SetX w h1 b eb pb tb := RB.move fun o e => old_but sb1 _ _ e
    refine wpAny_bind (wpAny_pure ?_)
    refine wpAny_bind (wpAny_holding ?_)
    unfold Builtin.Frozenset.differenceUpdate
    refine wp_if_neg (c := ((Value.ref b == Value.ref s.heap.objs.size) = true)) (by simpa using nb) ?_
    try refine wpAny_bind (wpAny_pure ?_)
    refine wpAny_bind (any_x (RB1.ty rfl) ?_)
    refine wp_if_pos (c := (true = true)) rfl ?_
    refine wpAny_bind (wpAny_pure ?_)
    dsimp only
    refine wpAny_bind (size_x (s := { s with heap := h1 }) RB1 ?_)
    refine wpAny_bind (size_x (s := { s with heap := h1 }) X1 ?_)
    refine wp_if_neg (by omega) ?_
    try refine wpAny_bind (wpAny_pure ?_)
    refine wpAny_bind (wpAny_setEpoch_of RB1.obj rfl RB1.fits ?_)
    refine wpAny_bind (wpAny_holding ?_)
    refine wpAny_bind (unseen_n (s := { s with heap := h1 }) RB1 (fun x hx => by rw [List.mem_singleton.mp hx]; exact ⟨_, _, _, X1⟩) fun ys d py => ?_)
    refine wpAny_bind (strike_all (P := P) (A := A) (E := E) (s := { s with heap := h1, drawn := d }) (r := s.heap.objs.size) _ (fun s1 => SetX w s1.heap b eb pb tb) (fun s1 h' sb k => sx_other k sb nb) ?hf ys
      (fun e he => RB.good e (py.mem_iff.mp he)) X1 RB1 ?hQ)
    case hf =>
      intro e k tk s1 Q' ee kk hwp
      subst ee
      dsimp only
      refine wpAny_bind (wpAny_holding (wpAny_mono hwp (fun b s2 hs2 => ?_) fun _ _ z => z))
      obtain ⟨k2, q2⟩ := hs2
      refine wpAny_bind (unchanged_x k2 ?_)
      exact wpAny_pure q2
    case hQ =>
      intro h2 es2 ep2 t2 X2 m2 l2 sb2 _
      refine wpAny_pure ?_
      refine tidy_x (s := { s with heap := h2, drawn := d }) X2 (by omega) fun h3 es3 ep3 t3 X3 p3 sb3 => ?_
      have z3 := perm_size p3
      refine wpAny_pure (hQ h3 d _ _ (X3.toR (S := fun k => decide (k ∈ keys es3)) (fun k => decide_eq_true_iff) rfl) (fun k => ?_) (by omega) ?_)
      · rw [decide_eq_true_iff, keys_perm p3 k, m2 k, keys_perm p1 k, keys_perm py k]
      · exact old_but (sb_trans sb1 (sb_trans sb2 sb3))
  · refine wp_if_neg c ?_
    try refine wpAny_bind (wpAny_pure ?_)
    refine wpAny_bind (base_x (RA.ty rfl) ?_)
    refine wpAny_bind (new_x ?_)
    refine wpAny_bind (wpAny_pure ?_)
    have RA1 : SetX w (s.heap.push (newObjOf w)) a ea pa ta := RA.move fun o e => old_push _ _ _ _ e
    have RB1 : SetX w (s.heap.push (newObjOf w)) b eb pb tb := RB.move fun o e => old_push _ _ _ _ e
    have R1 := fresh_x (w := w) s.heap
    refine wpAny_bind (wpAny_setEpoch_of RA1.obj rfl RA1.fits ?_)
    refine wpAny_bind (wpAny_holding ?_)
    refine wpAny_bind (wp_if_pos (c := (true = true)) rfl ?_)
    refine unseen_x (s := { s with heap := s.heap.push (newObjOf w) }) RA1 (fun x hx => ?_) R1 fun ys d h2 pf tf py sb2 R2 => ?_
    · rcases List.mem_cons.mp hx with z | z
      · exact ⟨_, _, _, z ▸ RB1⟩
      · rw [List.mem_singleton.mp z]
        exact ⟨_, _, _, R1⟩
    have RA2 := sx_other RA1 sb2 na
    have RB2 := sx_other RB1 sb2 nb
    have zy := perm_size py
    refine wpAny_bind (add_some (P := P) (A := A) (E := E) (s := { s with heap := h2, drawn := d }) (r := s.heap.objs.size) (fun k => decide (k ∉ keys eb)) _ (fun s1 => SetX w s1.heap b eb pb tb ∧ SetX w s1.heap a ea pa ta)
      (fun s1 h' sb k => ⟨sx_other k.1 sb nb, sx_other k.2 sb na⟩) ?hf ys
      (fun e he => RA.good e (py.mem_iff.mp he)) (R2.toR (S := fun _ => false) (fun k => by simp) rfl) (by show 0 + ys.size + 1 < scanBound; omega) ⟨RB2, RA2⟩ ?hQ)
    case hQ =>
      intro h3 S' n' R3 m3 l3 sb3 _
      refine wpAny_pure (wpAny_pure (hQ h3 d S' n' R3 (fun k => ?_) ?_ ?_))
      · rw [m3 k, keys_perm py k, decide_eq_true_iff]
        simp
      · have : n' ≤ 0 + ys.size := l3
        omega
      · exact old_but (sb_trans sb2 sb3)
    case hf =>
      intro e k tk s1 Q' ee kk h1 h0
      subst ee
      dsimp only
      refine wpAny_bind (wpAny_holding ?_)
      refine wp_if_pos (c := (true = true)) rfl ?_
      refine wpAny_bind (found_x kk.1 fun i hi => ?_)
      refine wpAny_bind (wpAny_pure ?_)
      try refine wpAny_bind (wpAny_pure ?_)
      by_cases c : k ∈ keys eb
      · refine wp_if_neg (by rw [hi]; simp [c]) ?_
        refine wpAny_pure ?_
        refine wpAny_bind (unchanged_x kk.2 ?_)
        exact wpAny_pure (h0 (by simp [c]))
      · refine wp_if_pos (by rw [hi]; simp [c]) ?_
        refine wpAny_bind (wpAny_mono (h1 (decide_eq_true c)) (fun b s2 hs2 => ?_) fun _ _ z => z)
        refine wpAny_pure ?_
        refine wpAny_bind (unchanged_x hs2.1.2 ?_)
        exact wpAny_pure hs2.2
end
end Cs

set_option Elab.async false
set_option linter.all false
set_option maxRecDepth 100000
set_option maxHeartbeats 2000000
namespace Cs
open PySem PySem.Spec PyProof.Rows L2
theorem entry_and : entryFor table "set.__and__" = some Builtin.«frozenset.__and__» := entryFor_alias (id' := "frozenset.__and__") (by kernel_rfl) rfl (by decide +kernel) (by kernel_rfl)
theorem entry_or : entryFor table "set.__or__" = some Builtin.«frozenset.__or__» := entryFor_alias (id' := "frozenset.__or__") (by kernel_rfl) rfl (by decide +kernel) (by kernel_rfl)
theorem entry_sub : entryFor table "set.__sub__" = some Builtin.«frozenset.__sub__» := entryFor_alias (id' := "frozenset.__sub__") (by kernel_rfl) rfl (by decide +kernel) (by kernel_rfl)
end Cs

set_option Elab.async false
set_option linter.all false
set_option maxRecDepth 100000
set_option maxHeartbeats 2000000
namespace Cs
open PySem PySem.Spec PyProof.Rows L2
section
variable {P : Program} {w : World} {A : Around} {E : Value → Shared → Prop} {s : Shared}
theorem slot1_x {name : String} {v u : Value} {Q : Value × Value → Shared → Prop} (q : Q (v, u) s) : wpAny (model P w) A (Builtin.Frozenset.slot1 name ⟨[v, u], []⟩) Q E s := by
  unfold Builtin.Frozenset.slot1 slotArgs
  exact wpAny_pure q
theorem op_and_x {a b : Addr} {SA SB : Int → Bool} {na nb : Nat} {Q : Value → Shared → Prop} (hne : b ≠ a) (RA : SetR w s.heap a SA na) (RB : SetR w s.heap b SB nb) (hl : na ≤ 63) (hl2 : nb ≤ 63)
    (hQ : ∀ h' d' S n, SetR w h' s.heap.objs.size S n → (∀ k, S k = true ↔ SA k = true ∧ SB k = true) → n ≤ 63 → Old s.heap h' → Q (.ref s.heap.objs.size) { s with heap := h', drawn := d' }) :
    wpAny (model P w) A (binaryOp .BitAnd (.ref a) (.ref b)) Q E s := by
  obtain ⟨ea, pa, ta, XA, mA, zA⟩ := xOf RA
  obtain ⟨eb, pb, tb, XB, mB, zB⟩ := xOf RB
  have TA : s.TypeIs (.ref a) "set" := XA.ty rfl
  have TB : s.TypeIs (.ref b) "set" := XB.ty rfl
  refine wpAny_binaryOp_same (op := .BitAnd) TA TB F.fills_set_and F.slot_set_and ?_
  refine wpAny_call_entry F.slot_set_and TA entry_and ?_ (F.args_set_and_2 _ _)
  refine wpAny_bind (slot1_x ?_)
  dsimp only
  refine wpAny_bind (wpAny_bind (any_x TA ?_))
  show wpAny _ _ (Builtin.Frozenset.isAnySet (.ref b)) _ _ _
  refine any_x TB ?_
  refine wp_if_neg (c := ((!true) = true)) (by simp) ?_
  refine wpAny_bind (wpAny_pure ?_)
  refine wpAny_bind (and_x hne XA XB (by omega) (by omega) fun h' d' S n R m l o => ?_)
  refine wpAny_pure ⟨_, rfl, (fun z => nomatch z), hQ h' d' S n R (fun k => ?_) l o⟩
  rw [m k, mA k, mB k]
theorem op_or_x {a b : Addr} {SA SB : Int → Bool} {na nb : Nat} {Q : Value → Shared → Prop} (hne : b ≠ a) (RA : SetR w s.heap a SA na) (RB : SetR w s.heap b SB nb) (hl : na + nb ≤ 63)
    (hQ : ∀ h' d' S n, SetR w h' s.heap.objs.size S n → (∀ k, S k = true ↔ SA k = true ∨ SB k = true) → n ≤ na + nb → Old s.heap h' → Q (.ref s.heap.objs.size) { s with heap := h', drawn := d' }) :
    wpAny (model P w) A (binaryOp .BitOr (.ref a) (.ref b)) Q E s := by
  obtain ⟨ea, pa, ta, XA, mA, zA⟩ := xOf RA
  obtain ⟨eb, pb, tb, XB, mB, zB⟩ := xOf RB
  have TA : s.TypeIs (.ref a) "set" := XA.ty rfl
  have TB : s.TypeIs (.ref b) "set" := XB.ty rfl
  have hbs : b ≠ s.heap.objs.size := Nat.ne_of_lt (Heap.lt_size XB.obj)
  refine wpAny_binaryOp_same (op := .BitOr) TA TB F.fills_set_or F.slot_set_or ?_
  refine wpAny_call_entry F.slot_set_or TA entry_or ?_ (F.args_set_or_2 _ _)
  refine wpAny_bind (slot1_x ?_)
  dsimp only
  refine wpAny_bind (wpAny_bind (any_x TA ?_))
  show wpAny _ _ (Builtin.Frozenset.isAnySet (.ref b)) _ _ _
  refine any_x TB ?_
  refine wp_if_neg (c := ((!true) = true)) (by simp) ?_
  refine wpAny_bind (wpAny_pure ?_)
  refine wpAny_bind ?_
  by_cases he : ea = #[]
  · subst he
    refine wpAny_bind (m := Builtin.Frozenset.copyOf a) ?_
    unfold Builtin.Frozenset.copyOf
    refine wpAny_bind (base_x TA ?_)
    refine wpAny_bind (new_x ?_)
    refine wpAny_bind (wpAny_pure ?_)
    have hae : a ≠ s.heap.objs.size := Nat.ne_of_lt (Heap.lt_size XA.obj)
    have XA1 : SetX w (s.heap.push (newObjOf w)) a #[] pa ta := XA.move fun o e => old_push _ _ _ _ e
    have XB1 : SetX w (s.heap.push (newObjOf w)) b eb pb tb := XB.move fun o e => old_push _ _ _ _ e
    refine wpAny_bind ?_
    unfold setMerge
    refine wp_if_neg (c := (s.heap.objs.size == a) = true) (by simpa using hae.symm) ?_
    try refine wpAny_bind (wpAny_pure ?_)
    refine wpAny_bind (wpAny_setState_of XA1.obj rfl XA1.fits ?_)
    dsimp only
    refine wp_if_pos (c := (#[] : Array (Int × Value)).isEmpty = true) rfl ?_
    refine wpAny_pure (wpAny_pure ?_)
    refine wp_if_pos (c := ((Value.ref b != Value.ref a) = true)) (by simpa using hne) ?_
    refine wpAny_bind (wpAny_pure ?_)
    have z0 : (#[] : Array (Int × Value)).size = 0 := rfl
    refine wpAny_bind (wpAny_holding (union_x (s := { s with heap := s.heap.push (newObjOf w) }) hbs (fresh_x s.heap) XB1 (.inr ⟨rfl, rfl, rfl⟩) (by omega) fun h' d' S n R m l sb => ?_))
    refine wpAny_pure (wpAny_pure ⟨_, rfl, (fun z => nomatch z), hQ h' d' S n R (fun k => ?_) (by omega) (old_but sb)⟩)
    rw [m k, mA k, mB k]
  · have hz : ea.size ≠ 0 := fun z => he (by simpa using z)
    refine wpAny_bind (m := Builtin.Frozenset.copyOf a) (copy_x XA (by omega) fun h1 es1 ep1 t1 X1 p1 sb1 => ?_)
    have z1 := perm_size p1
    have XB1 : SetX w h1 b eb pb tb := XB.move fun o e => old_but sb1 _ _ e
    refine wp_if_pos (c := ((Value.ref b != Value.ref a) = true)) (by simpa using hne) ?_
    refine wpAny_bind (wpAny_pure ?_)
    refine wpAny_bind (wpAny_holding (union_x (s := { s with heap := h1 }) hbs X1 XB1 (.inl (by omega)) (by omega) fun h' d' S n R m l sb => ?_))
    refine wpAny_pure (wpAny_pure ⟨_, rfl, (fun z => nomatch z), hQ h' d' S n R (fun k => ?_) (by omega) (old_but (sb_trans sb1 sb))⟩)
    rw [m k, keys_perm p1 k, mA k, mB k]
theorem op_sub_x {a b : Addr} {SA SB : Int → Bool} {na nb : Nat} {Q : Value → Shared → Prop} (hne : b ≠ a) (RA : SetR w s.heap a SA na) (RB : SetR w s.heap b SB nb) (hl : na ≤ 31) (hl2 : nb ≤ 63)
    (hQ : ∀ h' d' S n, SetR w h' s.heap.objs.size S n → (∀ k, S k = true ↔ SA k = true ∧ SB k = false) → n ≤ 31 → Old s.heap h' → Q (.ref s.heap.objs.size) { s with heap := h', drawn := d' }) :
    wpAny (model P w) A (binaryOp .Sub (.ref a) (.ref b)) Q E s := by
  obtain ⟨ea, pa, ta, XA, mA, zA⟩ := xOf RA
  obtain ⟨eb, pb, tb, XB, mB, zB⟩ := xOf RB
  have TA : s.TypeIs (.ref a) "set" := XA.ty rfl
  have TB : s.TypeIs (.ref b) "set" := XB.ty rfl
  refine wpAny_binaryOp_same (op := .Sub) TA TB F.fills_set_sub F.slot_set_sub ?_
  refine wpAny_call_entry F.slot_set_sub TA entry_sub ?_ (F.args_set_sub_2 _ _)
  refine wpAny_bind (slot1_x ?_)
  dsimp only
  refine wpAny_bind (wpAny_bind (any_x TA ?_))
  show wpAny _ _ (Builtin.Frozenset.isAnySet (.ref b)) _ _ _
  refine any_x TB ?_
  refine wp_if_neg (c := ((!true) = true)) (by simp) ?_
  refine wpAny_bind (wpAny_pure ?_)
  refine wpAny_bind (sub_x hne XA XB (by omega) (by omega) fun h' d' S n R m l o => ?_)
  refine wpAny_pure ⟨_, rfl, (fun z => nomatch z), hQ h' d' S n R (fun k => ?_) l o⟩
  rw [m k, mA k, ← mB k]
  simp
end
end Cs

set_option Elab.async false
set_option linter.all false
set_option maxRecDepth 100000
set_option maxHeartbeats 3200000
namespace Cs
open PySem PySem.Spec PyProof.Rows L2
section
variable {P : Program} {w : World} {A : Around} {E : Value → Shared → Prop} {s : Shared}
/-- set(l), l a list of ints: made empty, then its items one by one -/
theorem set_of_list {l : Addr} {items : Array Value} (ns : List Int) {Q : Value → Shared → Prop} (quiet : A.handled = none) (isl : s.heap.IsList l items) (hints : IntsAre items.toList ns) (room : ns.length + 1 < scanBound)
    (fin : ∀ (h' : Heap) (tk c : Nat), SetR w h' s.heap.objs.size (fun j => decide (j ∈ ns)) c → c ≤ ns.length → Old s.heap h' → Q (.ref s.heap.objs.size) { s with heap := h', toks := tk }) :
    wpAny (model P w) A (call (.type "set") [.ref l]) Q E s := by
  have many : items.size = ns.length := (Array.length_toList (xs := items)).symm.trans (IntsAre.length hints)
  have cs := F.called_set
  obtain ⟨mc, mt, mro⟩ := cs.mro
  have made := cs.made
  have under := cs.sub
  refine wpAny_call (codeAny_of_tree ?_)
  show wpAny _ _ (callAny (.type "set") ⟨[.ref l], []⟩) _ _ _
  refine wpAny_pure ⟨Code.quiet_builtin _ (by decide +kernel), ?_⟩
  refine codeAny_builtin F.entry_type_call ?_
  rw [Around.under_plain (weight_type_call_type "set" [Value.ref l] []) rfl]
  have k1 := cs.notType
  have k2 := cs.canCreate
  have k3 := F.typeCall_set_1 (.ref l)
  repeat (any_goals (first | assumption | wp_step))
  refine codeAny_mono (code_set_led1 (.ref l) (E := E) (Q₁ := fun o z => o = .ref s.heap.objs.size ∧ z = { s with heap := s.heap.push (newObjOf w) }) ⟨rfl, rfl⟩) fun r z hz => ?_
  cases r with
  | error e => exact hz
  | ok fl =>
    cases fl with
    | ret o =>
      obtain ⟨rfl, rfl⟩ := hz
      have here : (s.heap.push (newObjOf w)).get? s.heap.objs.size = some (newObjOf w) := Heap.get?_push_size _ rfl
      have ty : Shared.TypeIs { s with heap := s.heap.push (newObjOf w) } (.ref s.heap.objs.size) "set" := ⟨_, here, rfl⟩
      have k4 := cs.init.lookup
      have k5 := cs.init.bind (.ref s.heap.objs.size)
      repeat (any_goals (first | assumption | wp_step))
      refine codeAny_mono (codeAny_call_builtin (R := wants (fun r y => r = .none ∧ ∃ h' tk c, y = { s with heap := h', toks := tk } ∧ SetR w h' s.heap.objs.size (fun j => decide (j ∈ ns)) c ∧ c ≤ ns.length ∧ Old s.heap h') E)
        cs.init.plain F.entry_set_init (check_set_init_1 ty ?_)) fun r2 y hy => ?_
      · obtain ⟨⟨oc, od, oda, osl⟩, lo, lc, ln, ld⟩ := isl
        simp only at lc ld
        subst lc ld
        have isl2 : (s.heap.push (newObjOf w)).IsList l items := ⟨_, Heap.get?_push_of_some _ lo, rfl, ln, rfl⟩
        have ll : l < s.heap.objs.size := Heap.lt_size lo
        have isl3 := Heap.get?_push_of_some (newObjOf w) lo
        have n1 := PySem.F.sub_list_set
        have n2 := PySem.F.sub_list_frozenset
        have n3 : (Value.type "list" == Value.type "dict") = false := by decide
        unfold Builtin.«set.__init__» noKeywords Builtin.Frozenset.updateFrom
        generalize hp : pyIter = iterOf
        wp_walk
        subst hp
        refine wpAny_pyIter_list isl2 ?_
        refine wpAny_bind (wpAny_runValue ?_)
        have q3 : A.in1.in1.in1.handled = none := by simp [quiet]
        have sz : (s.heap.push (newObjOf w)).objs.size = s.heap.objs.size + 1 := Heap.size_push ..
        have apart : l ≠ (s.heap.push (newObjOf w)).objs.size := by
          rw [sz]
          exact Nat.ne_of_lt (Nat.lt_succ_of_lt ll)
        have away : s.heap.objs.size ∉ [(s.heap.push (newObjOf w)).objs.size, l] := by
          rw [sz]
          simp only [List.mem_cons, List.not_mem_nil, or_false, not_or]
          exact ⟨Nat.ne_of_lt (Nat.lt_succ_self _), Nat.ne_of_gt ll⟩
        have val : ∀ (i : Nat) (v : Value), items[i]? = some v → ∃ k t, ns[i]? = some k ∧ v = .int k t := fun i v hv => by
          have hi : i < ns.length := by rw [← many]; exact (Array.getElem?_eq_some_iff.mp hv).1
          obtain ⟨t, e⟩ := IntsAre.int_at hints i v (by rw [Array.getElem?_toList]; exact hv)
          exact ⟨ns[i], t, List.getElem?_eq_getElem hi, by rw [e, List.getD_eq_getElem?_getD, List.getElem?_eq_getElem hi] <;> rfl⟩
        refine set_update_ints ((Walks.list q3 _ l apart items).toS) s.heap.objs.size away ns many room val (items.size - 0) 0 _ (by omega) (Nat.zero_le _) ⟨⟨_, Heap.get?_push_size _ rfl, rfl, rfl⟩, (isl2.push _)⟩ ?start ?stop
        case start => exact ⟨0, Nat.le_refl 0, setR_new_at (Heap.get?_push_of_some _ here)⟩
        case stop =>
          intro s2 c2 hm hc hS
          obtain ⟨h2, g2, d2, t2, o2⟩ := s2
          have eg : g2 = s.gens := hm.gens
          have ed : d2 = s.drawn := hm.drawn
          have eo : o2 = s.os := hm.os
          subst eg ed eo
          show wpAny _ _ _ _ _ _
          refine wpAny_pure ?_
          show wpAny _ _ (ret Value.none) _ _ _
          refine wpAny_pure ⟨rfl, h2, t2, c2, rfl, hS, by omega, fun b u e => ?_⟩
          have hb := Heap.lt_size e
          refine hm.heap b u ?_ (Heap.get?_push_of_some _ (Heap.get?_push_of_some _ e))
          rw [sz]
          simp only [List.mem_cons, List.not_mem_nil, or_false, not_or]
          exact ⟨Nat.ne_of_lt hb, Nat.ne_of_lt (Nat.lt_succ_of_lt hb)⟩
      · cases r2 with
        | error e => exact hy
        | ok f2 =>
          cases f2 with
          | ret r =>
            obtain ⟨rfl, h', tk, c, rfl, hS, hc, old⟩ := hy
            repeat (any_goals (first | assumption | wp_step))
            exact fin h' tk c hS hc old
          | _ => exact hy.elim
    | _ => exact hz.elim
end
end Cs

set_option Elab.async false
set_option linter.all false
set_option maxRecDepth 100000
set_option maxHeartbeats 2000000
namespace Cs
open PySem PySem.Spec PyProof.Rows L2
section
variable {X : Cx}
/-- set(l) -/
def rSetI (K : PySem.W.Frag) (w : World) : List V → Hp → VK → Prop := fun xs H Q => ∃ (l : Addr) (ns : List Int), xs = [V.ref l] ∧ SqL K H l (ns.map V.int) ∧ ns.length ≤ 4000 ∧
  ∀ (p : Addr) (c : Nat), H p = none → c ≤ ns.length → Q (.ref p) (upd H p (SetO w p (fun j => decide (j ∈ ns)) c))
theorem cr_setI (hc : X.calm = true) : CallR X (.type "set") (rSetI X.K X.w) := by
  intro pins s σ H xs us Q I r h
  obtain ⟨l, ns, rfl, hq, hl, q⟩ := h
  rw [Vals.ref1 r]
  obtain ⟨its, rv, pl, hz⟩ := I.list hq
  refine set_of_list ns (I.ok.hd hc) pl.isList (by simpa using ints_of_vals rv) (by have : scanBound = 4096 := rfl; omega) fun h' tk c hS hcn old => ?_
  exact ⟨.ref _, upd H s.heap.objs.size (SetO X.w s.heap.objs.size (fun j => decide (j ∈ ns)) c), I.laid (t' := tk) old (Nat.le_refl _) (setO_new hS), rfl, q _ c (I.hok.fresh (Nat.le_refl _)) hcn⟩
theorem laidD {pins : List (Addr × Obj)} {σ : L2.St} {H : Hp} {s : Shared} {h' : Heap} {d' : Drawn} {S : Int → Bool} {n : Nat} (I : Inv X pins σ H s) (old : Old s.heap h') (R : SetR X.w h' s.heap.objs.size S n) :
    Inv X pins σ (upd H s.heap.objs.size (SetO X.w s.heap.objs.size S n)) { s with heap := h', drawn := d' } :=
  I.call (ch := []) (g' := s.gens) (t' := s.toks) (Un.laid old (Nat.le_refl _) (I.hok.fresh (Nat.le_refl _))) (I.hok.laid old (Nat.le_refl _) (setO_new R)) I.bare (fun _ z => nomatch z)
/-- a & b, a | b, a - b of two sets of ints -/
def rSetOp (w : World) (most : Nat → Nat → Prop) (mem : (Int → Bool) → (Int → Bool) → Int → Prop) : V → V → Hp → VK → Prop := fun x y H Q => ∃ (a b : Addr) (SA SB : Int → Bool) (na nb : Nat), x = V.ref a ∧ y = V.ref b ∧ b ≠ a ∧
  H a = some (SetO w a SA na) ∧ H b = some (SetO w b SB nb) ∧ most na nb ∧
  ∀ (p : Addr) (S : Int → Bool) (n : Nat), H p = none → (∀ k, S k = true ↔ mem SA SB k) → n ≤ 63 → Q (.ref p) (upd H p (SetO w p S n))
abbrev mAnd : Nat → Nat → Prop := fun na nb => na ≤ 63 ∧ nb ≤ 63
abbrev mOr : Nat → Nat → Prop := fun na nb => na + nb ≤ 63
abbrev mSub : Nat → Nat → Prop := fun na nb => na ≤ 31 ∧ nb ≤ 63
abbrev eAnd : (Int → Bool) → (Int → Bool) → Int → Prop := fun A B k => A k = true ∧ B k = true
abbrev eOr : (Int → Bool) → (Int → Bool) → Int → Prop := fun A B k => A k = true ∨ B k = true
abbrev eSub : (Int → Bool) → (Int → Bool) → Int → Prop := fun A B k => A k = true ∧ B k = false
theorem op_sand : OpR X (binaryOp .BitAnd) (rSetOp X.w mAnd eAnd) := by
  intro pins s σ H x y v u Q I rx ry h
  obtain ⟨a, b, SA, SB, na, nb, rfl, rfl, hne, ha, hb, hm, q⟩ := h
  cases rx
  cases ry
  exact op_and_x hne (setO_get I ha) (setO_get I hb) hm.1 hm.2 fun h' d' S n R m l old => ⟨.ref _, _, laidD I old R, rfl, q _ S n (I.hok.fresh (Nat.le_refl _)) m l⟩
theorem op_sor : OpR X (binaryOp .BitOr) (rSetOp X.w mOr eOr) := by
  intro pins s σ H x y v u Q I rx ry h
  obtain ⟨a, b, SA, SB, na, nb, rfl, rfl, hne, ha, hb, hm, q⟩ := h
  cases rx
  cases ry
  have hm' : na + nb ≤ 63 := hm
  exact op_or_x hne (setO_get I ha) (setO_get I hb) hm fun h' d' S n R m l old => ⟨.ref _, _, laidD I old R, rfl, q _ S n (I.hok.fresh (Nat.le_refl _)) m (by omega)⟩
theorem op_ssub : OpR X (binaryOp .Sub) (rSetOp X.w mSub eSub) := by
  intro pins s σ H x y v u Q I rx ry h
  obtain ⟨a, b, SA, SB, na, nb, rfl, rfl, hne, ha, hb, hm, q⟩ := h
  cases rx
  cases ry
  exact op_sub_x hne (setO_get I ha) (setO_get I hb) hm.1 hm.2 fun h' d' S n R m l old => ⟨.ref _, _, laidD I old R, rfl, q _ S n (I.hok.fresh (Nat.le_refl _)) m (by omega)⟩
/-- len(s) of a set of ints: none where it has no members -/
def rLenSet (w : World) : List V → Hp → VK → Prop := fun xs H Q => ∃ (a : Addr) (S : Int → Bool) (n : Nat), xs = [V.ref a] ∧ H a = some (SetO w a S n) ∧ (∀ c : Nat, (c = 0 ↔ ∀ k, S k = false) → Q (.int (c : Int)) H)
theorem call_len_sI : CallR X (.builtin "len") (rLenSet X.w) := by
  intro pins s σ H xs us Q I r h
  obtain ⟨a, S, n, rfl, ha, q⟩ := h
  rw [Vals.ref1 r]
  obtain ⟨es, ep, t, R, m, hn⟩ := xOf (setO_get I ha)
  refine call_len_set R.obj ⟨rfl, rfl, rfl⟩ rfl R.fits (by have := R.few; have : scanBound = 4096 := rfl; omega) ⟨.int (es.size : Nat), H, I.tok _, ⟨_, rfl⟩, q _ ?_⟩
  constructor
  · intro z k
    have e : es = #[] := by simpa using z
    subst e
    cases c : S k with
    | false => rfl
    | true => exact absurd ((m k).1 c) (by simp)
  · intro z
    cases c : es.toList with
    | nil =>
      rw [← Array.length_toList, c]
      rfl
    | cons e r =>
      have : S (keyOf e) = true := (m _).2 (by rw [c]; simp)
      rw [z] at this
      cases this
end
end Cs

set_option Elab.async false
set_option linter.all false
set_option maxRecDepth 100000
set_option maxHeartbeats 2000000
/-! != of two lists whose items are equal, deep -/
namespace Cs
open PySem PySem.Spec PyProof.Rows L2
open AutoSeq1 (wpAny_loadPart')
open MeetsSeq MeetsSeq2 MeetsSeq3 SeqRoads2 SeqAt
section
variable {prog : Program} {w : World}
abbrev seqO (us : Array Value) (n : Nat) (dd : Option Addr) (sl : Array (Option Value)) : Obj := { cls := .type "list", dict := dd, data := .seq us n, slots := sl }
abbrev AllP (prog : Program) (w : World) (A : Around) (s : Shared) (us ws : Array Value) : Prop := ∀ j (h1 : j < us.size) (h2 : j < ws.size), EqP prog w A s us[j] ws[j] true
theorem ne_stepP (a c : Addr) (us ws : Array Value) (n m : Nat) (d1 d2 : Option Addr) (s1 s2 : Array (Option Value)) (eq : us.size = ws.size) :
    ∀ (k i : Nat), us.size - i = k → MeetsIn prog w (Builtin.«list.__eq__.loop» ⟨[.ref a, .ref c, rawInt i, rawInt 3], []⟩)
      (fun A R s => s.heap.get? a = some (seqO us n d1 s1) ∧ s.heap.get? c = some (seqO ws m d2 s2) ∧ AllP prog w A.in1 s us ws ∧ R (.ok (.ret (.bool false))) s) := by
  intro k
  induction k with
  | zero =>
    intro i le A R s h
    obtain ⟨hp, g, d, tk, os⟩ := s
    obtain ⟨ha, hc, _, q⟩ := h
    wp_walk using wpAny_loadPart' ha, wpAny_loadPart' hc
    rw [show us[((i : Nat) : Int).toNat]? = none by simp; omega, show ws[((i : Nat) : Int).toNat]? = none by simp; omega]
    wp_walk using wpAny_loadPart' ha, wpAny_loadPart' hc
    show R (.ok (.ret (.bool (us.size != ws.size)))) _
    rw [eq]
    simpa using q
  | succ k ih =>
    intro i le A R s h
    obtain ⟨hp, g, d, tk, os⟩ := s
    obtain ⟨ha, hc, al, q⟩ := h
    have i1 : i < us.size := by omega
    have i2 : i < ws.size := by omega
    wp_walk using wpAny_loadPart' ha, wpAny_loadPart' hc
    rw [show us[((i : Nat) : Int).toNat]? = some us[i] by simp [i1], show ws[((i : Nat) : Int).toNat]? = some ws[i] by simp [i2]]
    refine wpAny_bind (al i i1 i2 _ _ ?_)
    wp_walk
    rw [show ((i : Int) + 1) = ((i + 1 : Nat) : Int) by push_cast; rfl]
    refine ⟨plainId_quiet plain_eq_loop _, codeAny_builtin entry_eq_loop ?_⟩
    rw [Around.under_plainId plain_eq_loop _]
    exact ih (i + 1) (by omega) A R _ ⟨ha, hc, al, q⟩
theorem ne_listP (a c : Addr) (us ws : Array Value) (n m : Nat) (d1 d2 : Option Addr) (s1 s2 : Array (Option Value)) (eq : us.size = ws.size) :
    MeetsIn prog w (Builtin.«list.__ne__» ⟨[.ref a, .ref c], []⟩)
      (fun A R s => s.heap.get? a = some (seqO us n d1 s1) ∧ s.heap.get? c = some (seqO ws m d2 s2) ∧ AllP prog w A.in1 s us ws ∧ R (.ok (.ret (.bool false))) s) := by
  intro A R s h
  obtain ⟨hp, g, d, tk, os⟩ := s
  obtain ⟨ha, hc, al, q⟩ := h
  have sub := AutoSeq1.sub_list_list
  have same : ¬ (us.size != ws.size) = true := by simp [eq]
  wp_walk using wpAny_loadPart' ha, wpAny_loadPart' hc
  refine ⟨plainId_quiet plain_eq_loop _, codeAny_builtin entry_eq_loop ?_⟩
  rw [Around.under_plainId plain_eq_loop _]
  exact ne_stepP a c us ws n m d1 d2 s1 s2 eq _ 0 rfl A R _ ⟨ha, hc, al, q⟩
theorem rc_neP {A : Around} {s : Shared} {a c : Addr} {us ws : Array Value} (ha : s.heap.IsList a us) (hc : s.heap.IsList c ws) (eq : us.size = ws.size) (hu : A.units < cLine)
    (al : AllP prog w A.in1 s us ws) (E Q : Value → Shared → Prop) (q : Q (.bool false) s) : wpAny (model prog w) A (richCompare .NotEq (.ref a) (.ref c)) Q E s := by
  obtain ⟨⟨c1, d1, x1, s1⟩, o1, e1, n, f1⟩ := id ha
  obtain ⟨⟨c2, d2, x2, s2⟩, o2, e2, m, f2⟩ := id hc
  simp only at e1 f1 e2 f2
  subst e1 f1 e2 f2
  have ta : s.TypeIs (.ref a) "list" := ⟨_, o1, rfl⟩
  have tc : s.TypeIs (.ref c) "list" := ⟨_, o2, rfl⟩
  exact wpAny_richCompare_same_room (op := .NotEq) ta tc F.slot_list_ne (call_meetsIn F.slot_list_ne ta F.entry_list_ne (F.args_list_ne_2 _ _) (ne_listP a c us ws n m d1 d2 s1 s2 eq)
    ⟨o1, o2, al, show Value.bool false ≠ Value.notImplemented ∧ Q (.bool false) s from ⟨(fun x => nomatch x), q⟩⟩) hu
end
section
variable {X : Cx}
/-- a != b, two lists that are equal -/
def rNeV (K : PySem.W.Frag) : R2 := fun x y H Q => ∃ a b xs ys, x = .ref a ∧ y = .ref b ∧ SqL K H a xs ∧ SqL K H b ys ∧ (∃ n, n ≤ 60 ∧ Paired (EqV K H n) xs ys) ∧ Q (.bl false) H
theorem op_neV (hu : X.A.units + 64 < cLine) : OpR X (compareOp .NotEq) (rNeV X.K) := by
  intro pins s σ H x y v u Q I rx ry h
  obtain ⟨a, b, xs, ys, rfl, rfl, ha, hb, ⟨n, hn, hp⟩, q⟩ := h
  cases (show v = Value.ref a from rx)
  cases (show u = Value.ref b from ry)
  obtain ⟨us, r1, p1, _⟩ := I.list ha
  obtain ⟨ws, r2, p2, _⟩ := I.list hb
  have hsz : us.toArray.size = ws.toArray.size := by
    rw [List.size_toArray, List.size_toArray, ← r1.length, ← r2.length]
    exact Paired.length hp
  refine rc_neP p1.isList p2.isList hsz (by omega) (fun j h1 h2 => ?_) _ _ ⟨.bl false, H, I, rfl, q⟩
  have k := items_run (eqV_run I n X.A.in1 (by show X.A.units + 1 + n < cLine; omega)) hp r1 r2 j (by simpa using h1) (by simpa using h2)
  simpa using k
end
end Cs

set_option Elab.async false
set_option linter.all false
set_option maxRecDepth 100000
set_option maxHeartbeats 4000000
/-! Sets of keys by a comprehension: {x for .. in ..}, the members ints or texts. -/
namespace Cs
open PySem PySem.Spec PyProof.Rows L2 PpSet
section
variable {X : Cx}
abbrev noK : Key → Bool := fun _ => false
abbrev withK (S : Key → Bool) (k : Key) : Key → Bool := fun j => S j || decide (j = k)
/-- one member more -/
theorem addK {pins : List (Addr × Obj)} {σ : L2.St} {H : Hp} {s : Shared} {E : Value → Shared → Prop} {D : Addr} {S : Key → Bool} {n : Nat} {k : Key} {u : Value} {Q : Value → Shared → Prop} (I : Inv X pins σ H s) (at_ : H D = some (SetK X.prog X.w D S n)) (few : n + 1 < scanBound) (r : RelV (kV k) u)
    (q : ∀ s', Inv X pins σ (upd H D (SetK X.prog X.w D (withK S k) (if S k = true then n else n + 1))) s' → Q .none s') : wpAny (model X.prog X.w) X.A (call (.builtin "set.add") [.ref D, u]) Q E s :=
  call_set_add (kV_is r) (key_scan r) (setK_get I at_) few fun h' sb new => q _ (I.write (e := D) (t' := s.toks + 1) (by rw [at_]; trivial) (.inl rfl) (fun b o hb ho => (sb.2 b hb).trans ho) (let ⟨o, _, _, _, ho, _⟩ := new; ⟨o, ho⟩) (setK_new new))
/-- what a comprehension asks: its walk, and a set that grows -/
def tScK (P : Program) (w : World) (wi : TI) (g : TG) (tt : TT) (te : TE) (vs : List Nat) : TE := fun σ H Q => wi σ H fun J H1 => ∀ D, H1 D = none → ∃ W : Nat → Nat → Hp → Prop, (∃ m, W 0 m (upd H1 D (SetK P w D noK 0))) ∧ ∀ i m H, W i m H →
  (J.stop i H ∧ Q (.ref D) H) ∨ (J.go i H ∧ ∃ Nx : Hp → Prop, (∀ H', Nx H' → ∃ m', m' < m ∧ W (i + 1) m' H') ∧ ∀ x H', J.yld i H x H' → g x (wipe σ vs) H' fun σ2 H2 => wipe σ2 vs = wipe σ vs ∧ tt σ2 H2 fun b H3 =>
    if b = true then te σ2 H3 fun y H4 => ∃ (k : Key) (S : Key → Bool) (n : Nat), y = kV k ∧ H4 D = some (SetK P w D S n) ∧ n + 1 < scanBound ∧ Nx (upd H4 D (SetK P w D (withK S k) (if S k = true then n else n + 1))) else Nx H3)
theorem scK_core {pins : List (Addr × Obj)} {s : Shared} {σ : L2.St} {H : Hp} {Q : VK} {el tg it : Expr} {cs : List Expr} {scope : Scope} {own : List (PySem.Str × Nat)} {pos pos' : Pos} {wi : TI} {g : TG} {tt : TT} {te : TE} {use : Option (Value → Sem Unit)} {Qf : Value → Shared → Prop}
    (hc : X.calm = true) (hN : X.N.Nodup) (I : Inv X pins σ H s) (hi : PI X tg it wi) (ok : BlkOk X.N X.env.scope scope own)
    (hg : ∀ (s : Shared) (H : Hp) (C : Addr) (cl : List (PySem.Str × Addr)) (fp : List Addr), PG (X.blk s H scope (compEnvC scope cl C X.env) fp) tg g)
    (ht : ∀ (s : Shared) (H : Hp) (C : Addr) (cl : List (PySem.Str × Addr)) (fp : List Addr), PTs (X.blk s H scope (compEnvC scope cl C X.env) fp) cs tt)
    (he : ∀ (s : Shared) (H : Hp) (C : Addr) (cl : List (PySem.Str × Addr)) (fp : List Addr), PE (X.blk s H scope (compEnvC scope cl C X.env) fp) el te)
    (hs : ∀ x, foldedSetIterable it X.env x = pure x) (h : tScK X.prog X.w wi g tt te (own.map (·.2)) σ H Q)
    (done : ∀ D C s' m H', Inv X pins σ H' s' → Q (.ref D) H' → s'.heap.Ns C m → FpOk X pins H' C → compPost (model X.prog X.w) X.A X.xe use Qf (.ref D) C (.ok .next) s') :
    wpAny (model X.prog X.w) X.A (comprehension (.SetComp el [⟨tg, it, cs, 0⟩] scope pos) scope X.env pos' (newSet (.type "set")) false (eval it X.env) use) Qf X.xe s := by
  refine wpAny_comprehension_free (use := use) rfl hs (closure_ok fun y hy e => (ok.free y hy e).elim (fun k => I.ok.has _ (.inl k)) fun k => I.ok.has _ (.inr k)) ok.kind (fun y hy e => by rw [ok.uniq y hy, e])
    (thn (hi.run pins s σ H _ I h) fun xv s1 hx => thn hx fun itv s2 ⟨ia, fp, tn, J, H2, eq, I2, T, st2, f2, q⟩ => ?_)
  subst eq
  refine newSet_ok (newEnv_comp ?_)
  generalize eD : s2.heap.objs.size = D
  have free : H2 D = none := I2.hok.fresh (Nat.le_of_eq eD)
  obtain ⟨W, ⟨m0, w0⟩, turn⟩ := q D free
  generalize e3 : ({ s2 with heap := s2.heap.push { cls := .type "set", dict := none, data := .set #[] 0 (.fresh 0 0 (!X.w.params.followText "set-order")) } } : Shared) = s3
  have heap3 : s3.heap = s2.heap.push { cls := .type "set", dict := none, data := .set #[] 0 (.fresh 0 0 (!X.w.params.followText "set-order")) } := by rw [← e3]
  have I3 : Inv X pins σ (upd H2 D (SetK X.prog X.w D noK 0)) s3 := by
    rw [← e3, ← eD]
    exact I2.laid (t' := s2.toks) (fun b o e => Heap.get?_push_of_some _ e) (Nat.le_refl _) (setK_new ⟨_, #[], 0, _, Heap.get?_push_size _ rfl, ⟨rfl, rfl, rfl⟩, rfl, (fun e he => by simp at he), (fun k => by simp), (by decide), (by rfl), rfl⟩)
  have below : ∀ b ∈ fp, b < s2.heap.objs.size := fun b hb => let ⟨o, e, _⟩ := T.obj _ _ st2 b hb; Heap.lt_size e
  have f3 : ∀ b ∈ fp, FpOk X pins (upd H2 D (SetK X.prog X.w D noK 0)) b ∧ b < s3.heap.objs.size := fun b hb =>
    ⟨⟨by rw [upd_ne (by rw [← eD]; exact Nat.ne_of_lt (below b hb))]; exact (f2 b hb).1, (f2 b hb).2⟩, by rw [heap3, Heap.size_push]; exact Nat.lt_succ_of_lt (below b hb)⟩
  have I4 := block_start I3 ok hN f3
  have pg := hg s3 (upd H2 D (SetK X.prog X.w D noK 0)) s3.heap.objs.size (cellsFrom (s3.heap.objs.size + 1) scope.names (cloFrom X.env.cells scope.names [])) fp
  have pt := ht s3 (upd H2 D (SetK X.prog X.w D noK 0)) s3.heap.objs.size (cellsFrom (s3.heap.objs.size + 1) scope.names (cloFrom X.env.cells scope.names [])) fp
  have pe := he s3 (upd H2 D (SetK X.prog X.w D noK 0)) s3.heap.objs.size (cellsFrom (s3.heap.objs.size + 1) scope.names (cloFrom X.env.cells scope.names [])) fp
  show codeAny _ _ (.compStart (.SetComp el [⟨tg, it, cs, 0⟩] scope pos) 0 (.ref ia) (.ref D) (compEnvC scope (cellsFrom (s3.heap.objs.size + 1) scope.names (cloFrom X.env.cells scope.names [])) s3.heap.objs.size X.env)) (compPost (model X.prog X.w) X.A X.xe use Qf (.ref D) s3.heap.objs.size) { s3 with heap := pushCells (s3.heap.push { cls := .type "dict", data := .dict #[] }) scope.names }
  have none3 : ∀ b ∈ fp, (upd H2 D (SetK X.prog X.w D noK 0)) b = none := fun b hb => (f3 b hb).1.1
  generalize ec : compEnvC scope (cellsFrom (s3.heap.objs.size + 1) scope.names (cloFrom X.env.cells scope.names [])) s3.heap.objs.size X.env = ce at I4 pg pt pe ⊢
  have loc : ce.locals = s3.heap.objs.size := by subst ec; rfl
  generalize upd H2 D (SetK X.prog X.w D noK 0) = H3 at I3 I4 pg pt pe w0 none3 f3
  generalize e4 : ({ s3 with heap := pushCells (s3.heap.push { cls := .type "dict", data := .dict #[] }) scope.names } : Shared) = s4 at I4 ⊢
  have st3 : tn 0 s3.heap := T.keep _ _ _ st2 fun b _ o e => by rw [heap3]; exact Heap.get?_push_of_some _ e
  have st4 : tn 0 s4.heap := T.keep _ _ _ st3 fun b _ o e => by rw [← e4]; exact pushCells_keeps _ _ _ _ (Heap.get?_push_of_some _ e)
  have still : ∀ {σ' : L2.St} {H' : Hp} {s' : Shared}, Inv (X.blk s3 H3 scope ce fp) [] σ' H' s' → (∀ b ∈ fp, H' b = none) → ∀ b ∈ fp, FpOk (X.blk s3 H3 scope ce fp) [] H' b := fun I' hn b hb =>
    ⟨hn b hb, (I'.ok.exf b hb).1, I'.ok.exfs b hb, .inl hb, fun x c e => (I'.ok.exf b hb).2 x c e, fun p hp => absurd (show p ∈ ([] : List (Addr × Obj)) ++ [] from hp) (by simp)⟩
  have loop : codeAny (model X.prog X.w) X.A (.compLoop (.SetComp el [⟨tg, it, cs, 0⟩] scope pos) 0 (.ref ia) (.ref D) ce) (compPost (model X.prog X.w) X.A X.xe use Qf (.ref D) s3.heap.objs.size) s4 := by
    refine compLoopS_any (fun n s' => ∃ i H', Inv (X.blk s3 H3 scope ce fp) [] (wipe σ (own.map (·.2))) H' s' ∧ tn i s'.heap ∧ (∀ b ∈ fp, H' b = none) ∧ W i n H') ?_ m0 ⟨0, H3, I4, st4, none3, w0⟩
    rintro n s5 ⟨i, H5, I5, st5, n5, w5⟩
    rcases turn i n H5 w5 with ⟨stop, last⟩ | ⟨go, Nx, next, step⟩
    · refine thnF (T.done (X.blk s3 H3 scope ce fp) rfl rfl rfl hc i [] s5 _ H5 (fun _ _ => False) I5 (still I5 n5) st5 stop) fun r s6 ⟨er, I6⟩ => ?_
      subst er
      have unused : H5 ce.locals = none := I6.free
      obtain ⟨m, ns, _⟩ := I6.loc
      have ns : s6.heap.Ns ce.locals m := ns
      rw [loc] at ns unused
      exact done D s3.heap.objs.size s6 m H5 (I3.call' (ch := fp) I6.os I6.base I6.hok I6.bare fun b hb => ⟨(f3 b hb).1.2.2.2.1, (f3 b hb).1.2.1, (f3 b hb).1.2.2.2.2.1, (f3 b hb).1.2.2.2.2.2⟩) last ns (I3.fpOk (Nat.le_refl _) unused)
    · refine thnF (T.item (X.blk s3 H3 scope ce fp) rfl rfl rfl hc i [] s5 _ H5 (fun _ _ => False) I5 (still I5 n5) st5 go) fun r s6 ⟨u, er, h6⟩ => ?_
      subst er
      refine thnF h6 fun _ s7 ⟨x, H7, I7, r7, y7, st7, n7⟩ => ?_
      refine thnF (pg.run _ s7 _ H7 x u _ (I7.pinned (still I7 n7) (T.obj _ _ st7)) r7 (step x H7 y7)) fun _ s8 ⟨σ8, H8, I8, w8, q8⟩ => ?_
      refine thnF (pt.run _ s8 σ8 H8 _ I8 q8) fun b s9 ⟨H9, I9, q9⟩ => ?_
      have round : ∀ {s' : Shared} {H' : Hp}, Inv (X.blk s3 H3 scope ce fp) ([] ++ pinsAt fp s7.heap) σ8 H' s' → Nx H' → ∃ m, m < n ∧ ∃ i H', Inv (X.blk s3 H3 scope ce fp) [] (wipe σ (own.map (·.2))) H' s' ∧ tn i s'.heap ∧ (∀ b ∈ fp, H' b = none) ∧ W i m H' := fun {s' H'} I' nx => by
        obtain ⟨m', lt, w'⟩ := next H' nx
        have held : ∀ b ∈ fp, ∀ o, s7.heap.get? b = some o → s'.heap.get? b = some o ∧ H' b = none := fun b hb o e => let z := I'.pin (b, o) (List.mem_append_right _ (List.mem_append_right _ (mem_pinsAt hb e))); ⟨z.1, z.2.1⟩
        refine ⟨m', lt, i + 1, H', (I'.unpinned (pins := [])).weak (by rw [← w8, wipe_length]) (fun j v e => ?_), T.keep _ _ _ st7 fun b hb o e => (held b hb o e).1, fun b hb => ?_, w'⟩
        · rw [← w8] at e
          exact (wipe_some e).1
        · obtain ⟨o, e, _⟩ := T.obj _ _ st7 b hb
          exact (held b hb o e).2
      cases b with
      | false =>
        simp only [Bool.false_eq_true, if_false] at q9 ⊢
        exact round I9 q9
      | true =>
        simp only [if_true] at q9 ⊢
        refine thnF (pe.run _ s9 σ8 H9 _ I9 q9) fun z s10 ⟨y, H10, I10, r10, k, S, n0, ey, at10, few, nx⟩ => ?_
        subst ey
        exact addK (X := X.blk s3 H3 scope ce fp) I10 at10 few r10 fun s11 I11 => round I11 nx
  exact codeAny_compStart_set loop (T.self X.A 0 _ _ _ st4 loop)
/-- name = {..} on one line, the name a local -/
theorem ps_setScK {i : Nat} {y : Str} {py : Pos} {el tg it : Expr} {cs : List Expr} {scope : Scope} {own : List (PySem.Str × Nat)} {pos spos : Pos} {wi : TI} {g : TG} {tt : TT} {te : TE} (hc : X.calm = true) (hN : X.N.Nodup) (hy : X.N[i]? = some y) (hyl : X.env.scope.names.lookup y = some .local)
    (hsw : swapsWith (.SetComp el [⟨tg, it, cs, 0⟩] scope pos) (some (.Name y py)) spos.line X.env = pure true) (hi : PI X tg it wi) (ok : BlkOk X.N X.env.scope scope own)
    (hg : ∀ (s : Shared) (H : Hp) (C : Addr) (cl : List (PySem.Str × Addr)) (fp : List Addr), PG (X.blk s H scope (compEnvC scope cl C X.env) fp) tg g)
    (ht : ∀ (s : Shared) (H : Hp) (C : Addr) (cl : List (PySem.Str × Addr)) (fp : List Addr), PTs (X.blk s H scope (compEnvC scope cl C X.env) fp) cs tt)
    (he : ∀ (s : Shared) (H : Hp) (C : Addr) (cl : List (PySem.Str × Addr)) (fp : List Addr), PE (X.blk s H scope (compEnvC scope cl C X.env) fp) el te)
    (hs : ∀ x, foldedSetIterable it X.env x = pure x := by intro _; rfl) :
    PS X (.Assign [.Name y py] (.SetComp el [⟨tg, it, cs, 0⟩] scope pos) spos) (tAsg (tScK X.prog X.w wi g tt te (own.map (·.2))) (gName i)) := by
  refine ⟨fun pins s σ H D I h => ?_⟩
  rw [exec_Assign_Name_used _ _ _ _ hsw]
  refine wpAny_bind (wpAny_standAt (wpAny_bind ?_))
  show wpAny _ X.A (do let _ ← comprehension (.SetComp el [⟨tg, it, cs, 0⟩] scope pos) scope X.env (firstIterPos [⟨tg, it, cs, 0⟩] pos) (newSet (.type "set")) false (eval it X.env) (some (assign (.Name y py) X.env))) _ _ s
  have h : tScK X.prog X.w wi g tt te (own.map (·.2)) σ H (fun x H1 => gName i x σ H1 D.nx) := h
  refine wpAny_bind (thn (scK_core (Qf := fun _ s' => SP X pins D .next s') hc hN I hi ok hg ht he hs h fun L C s' m H' I' q hn f => ?_) fun _ s' hq => wpAny_pure (wpAny_pure hq))
  obtain ⟨f0, f1, f2, f3, f4, f5⟩ := f
  show wpAny _ _ (assign (.Name y py) X.env (.ref L)) _ _ _
  refine wpAny_assign_Name (store_ok2 (v := V.ref L) I' hN hy (.inl hyl) rfl (fun s2 I2 ⟨a, sb, ha⟩ => ?_) (.inr hyl))
  have apart : C ≠ a := ha.elim (fun z => z ▸ f1) fun z e => f4 y a z e.symm
  exact ⟨m, hn.sameBut sb apart, fun h3 sb3 => ⟨_, H', I2.turned (t' := s2.toks) (fun b o hb e => (sb3.2 b hb).trans e) f0 f1 f3 f4 f5, q⟩⟩
end
end Cs

set_option Elab.async false
set_option linter.all false
set_option maxRecDepth 100000
set_option maxHeartbeats 400000
/-! != of two dicts that are equal, deep -/
namespace Cs
open PySem PySem.Spec PyProof.Rows L2
section
variable {X : Cx}
def rNeDV (K : PySem.W.Frag) : R2 := fun x y H Q => ∃ a b ks ls, x = .ref a ∧ y = .ref b ∧ H a = some (.dK ks) ∧ H b = some (.dK ls) ∧ ks.length = ls.length ∧ (∃ n, n ≤ 60 ∧ ∀ p ∈ ks, ∃ u, valV ls p.1 = some u ∧ EqV K H n p.2 u) ∧ Q (.bl false) H
theorem op_neDV (hu : X.A.units + 64 < cLine) : OpR X (compareOp .NotEq) (rNeDV X.K) := by
  intro pins s σ H x y v u Q I rx ry h
  obtain ⟨a, b, ks, ls, rfl, rfl, ea, eb, len, ⟨n, hn, hp⟩, q⟩ := h
  cases (show v = Value.ref a from rx)
  cases (show u = Value.ref b from ry)
  obtain ⟨_, ya, va, ra, da⟩ := (show ObjOk X.prog X.w H s.heap a (.dK ks) from I.hok a _ ea)
  obtain ⟨_, yb, vb, rb, db⟩ := (show ObjOk X.prog X.w H s.heap b (.dK ls) from I.hok b _ eb)
  have e : va.length = vb.length := by rw [← ra.length, ← rb.length]; exact len
  have hits := hits_run (eqV_run I n X.A.in1 (by show X.A.units + 1 + n < cLine; omega)) rb ra hp
  refine wpAny_richCompare_same_room (op := .NotEq) da.typeIs db.typeIs PySem.F.slot_dict_ne (wpAny_call_entry PySem.F.slot_dict_ne da.typeIs PySem.F.entry_dict_ne ?_ (PySem.F.args_dict_ne_2 _ _)) (by omega)
  show wpAny _ _ (Builtin.Dict.dictSlotArgs "__ne__" ⟨[.ref a, .ref b], []⟩ >>= _) _ _ s
  unfold Builtin.Dict.dictSlotArgs
  refine wpAny_bind (wpAny_bind (wpAny_notOrdered_dict da.typeIs ?_))
  show wpAny _ _ (pure (Value.ref a, Value.ref b)) _ _ s
  refine wpAny_pure (wpAny_bind (wpAny_isInstance (T := "dict") db.typeIs PySem.F.sub_dict_dict ?_))
  simp only [Bool.not_true, Bool.false_eq_true, if_false]
  refine wpAny_bind (wpAny_pure (wpAny_bind (wpAny_pure ?_)))
  refine wpAny_bind (PySem.W.samePairsP (r := true) ya yb da db (fun _ => hits) ?_)
  have w0 : ((va.length == vb.length && true) == false) = false := by rw [e]; simp
  refine wpAny_pure ⟨_, rfl, ?_, ?_⟩
  · intro x
    cases x
  · have z : EP X pins σ Q (.bool false) s := ⟨.bl false, H, I, rfl, q⟩
    rw [← w0] at z
    exact z
end
end Cs

set_option Elab.async false
set_option linter.all false
set_option maxRecDepth 100000
set_option maxHeartbeats 4000000
/-! Exceptions of own classes with fields: made, raised while a dict is walked, caught, asked for their class. -/
namespace CsX
open PySem PySem.Spec PyProof.Rows L2
/-- a block that is not reached -/
theorem pss_any {X : Cx} {l : List Stmt} : PSs X l (fun _ _ _ => False) := ⟨fun _ _ _ _ _ _ h => h.elim⟩
/-- a raise while the thing at d is locked -/
theorem Takes.lock {X : Cx} {W : WX} {d : Addr} (tk : Takes X W) (hn : ∀ o' u', X.H_0 d ≠ some (.frz o' u')) : Takes X (fun cls dd σ H => ∃ od u, H d = some (.frz od u) ∧ W cls dd σ (upd H d u)) :=
  fun u s' ⟨a, B, sI, pins, σ, H, cls, dd, e, I, nb, up, sky, na, os, ag, od, uu, hd, w⟩ =>
    tk u s' ⟨a, B, sI, pins, σ, upd H d uu, cls, dd, e, I.unlock hd hn, nb, up, sky, (by rw [upd_ne (fun z => by rw [z, hd] at na; cases na)]; exact na), os, ag, w⟩
/-- __init__(self, f): self.f = f -/
def spIni (C : Addr) (f : Str) : Sp := fun vs H Q _ => ∃ (a : Addr) (v : V), vs = [.ref a, v] ∧ H a = some (exo a C none) ∧
  ∀ dx, H dx = none → dx ≠ a → Q .non (upd (upd H dx (exd dx [(f, v)])) a (exo a C (some dx)))
/-- __init__(self, f, g): self.f = f; self.g = g -/
def spIni2 (C : Addr) (f g : Str) : Sp := fun vs H Q _ => ∃ (a : Addr) (v u : V), vs = [.ref a, v, u] ∧ H a = some (exo a C none) ∧
  ∀ dx, H dx = none → dx ≠ a → Q .non (upd (upd (upd H dx (exd dx [(f, v)])) a (exo a C (some dx))) dx (exd dx [(g, u), (f, v)]))
/-- what the top has written of an own error with the fields fs, its __init__ at fI -/
structure Own (K : PySem.W.Frag) (mg : Str → Option Value) (x : Str) (C fI : Addr) (fs : List Str) : Prop where
  gC : mg x = some (.ref C)
  oex : OexC K C
  xf : XfC K C
  no : ∀ f ∈ fs, PySem.W.findIn K (.ref C) f = some none
  iC : PySem.W.findIn K (.ref C) "__init__" = some (some (.ref fI))
  tI : PySem.W.typeIn K (.ref fI) = some (.type "function")
  ex : ExcC K C
  te : PySem.W.exmOne K (.ref C) (.ref C) = some true
theorem same_upd {H : Hp} {p : Addr} {o : HO} (h : H p = none) : Same H (upd H p o) := fun b x e => by
  rw [upd_ne (ne_of_none e h)]
  exact e
/-- what is asked of C(v) -/
theorem mk_one {C : Addr} {f : Str} {H1 : Hp} {v : V} {Q : XK} (h : ∀ d H2, H1 d = none → Same H1 H2 → H2 d = some (.xd [(f, v)]) → Q (.ref C) (some d) H2) :
    [v].length ≤ 1000 ∧ ∀ a, H1 a = none → spIni C f (V.ref a :: ([v] ++ [])) (upd H1 a (exo a C none)) (fun x H2 => x = .non ∧ ∃ (d : Addr) (fs : List (Str × V)), H2 a = some (exo a C (some d)) ∧ H2 d = some (exd d fs) ∧ H1 d = none ∧ Q (.ref C) (some d) (upd (del H2 a) d (.xd fs))) (fun _ _ _ => False) := by
  refine ⟨by show 1 ≤ 1000; decide, fun a na => ⟨a, v, rfl, upd_same, fun dx n ne => ?_⟩⟩
  have n1 : H1 dx = none := by rw [upd_ne ne] at n; exact n
  refine ⟨rfl, dx, _, upd_same, by rw [upd_ne ne, upd_same], n1, h dx _ n1 (fun b o e => ?_) upd_same⟩
  have hb : b ≠ dx := ne_of_none e n1
  have ha : b ≠ a := ne_of_none e na
  rw [upd_ne hb, del_ne ha, upd_ne ha, upd_ne hb, upd_ne ha]
  exact e
/-- what is asked of C(v, u) -/
theorem mk_two {C : Addr} {f g : Str} {H1 : Hp} {v u : V} {Q : XK} (h : ∀ d H2, H1 d = none → Same H1 H2 → H2 d = some (.xd [(g, u), (f, v)]) → Q (.ref C) (some d) H2) :
    [v, u].length ≤ 1000 ∧ ∀ a, H1 a = none → spIni2 C f g (V.ref a :: ([v, u] ++ [])) (upd H1 a (exo a C none)) (fun x H2 => x = .non ∧ ∃ (d : Addr) (fs : List (Str × V)), H2 a = some (exo a C (some d)) ∧ H2 d = some (exd d fs) ∧ H1 d = none ∧ Q (.ref C) (some d) (upd (del H2 a) d (.xd fs))) (fun _ _ _ => False) := by
  refine ⟨by show 2 ≤ 1000; decide, fun a na => ⟨a, v, u, rfl, upd_same, fun dx n ne => ?_⟩⟩
  have n1 : H1 dx = none := by rw [upd_ne ne] at n; exact n
  refine ⟨rfl, dx, _, by rw [upd_ne (Ne.symm ne), upd_same], upd_same, n1, h dx _ n1 (fun b o e => ?_) upd_same⟩
  have hb : b ≠ dx := ne_of_none e n1
  have ha : b ≠ a := ne_of_none e na
  rw [upd_ne hb, del_ne ha, upd_ne hb, upd_ne ha, upd_ne hb, upd_ne ha]
  exact e
/-- isinstance(e, c), isinstance(e, (c, ..)): e the exception that the suite holds, with fields -/
def rIsED (K : PySem.W.Frag) (a : Addr) (cls : Value) (d : Option Addr) : List V → Hp → VK → Prop := fun xs H Q => ∃ (C dd : Addr) (fs : List (Str × V)) (c : V) (b : Bool), xs = [.ref a, c] ∧ cls = .ref C ∧ d = some dd ∧ H dd = some (.xd fs) ∧ ExcC K C ∧
  ((∃ cv, (∀ u, RelV c u → u = cv) ∧ PySem.W.kitOne K (.ref C) cv = some b) ∨ ∃ (t : Addr) (cs : List Addr), c = .ref t ∧ H t = some (.tup (cs.map V.ref)) ∧ PySem.W.kitAny K (.ref C) (cs.map Value.ref) = some b) ∧ Q (.bl b) H
theorem vals_refs : ∀ {cs : List Addr} {us : List Value}, Vals (cs.map V.ref) us → us = cs.map Value.ref
  | [], _, h => by cases h; rfl
  | c :: cs, _, h => by
    cases h with
    | cons a b =>
      cases a
      exact congrArg (Value.ref c :: ·) (vals_refs b)
theorem call_isED {X : Cx} {a : Addr} {cls : Value} {d : Option Addr} {oe : Obj} {pn : List (Addr × Obj)} (hz : Zc cls d oe) (hf : ∃ vs, oe.data = .fields vs) : CallR (X.suite a ((a, oe) :: pn)) (.builtin "isinstance") (rIsED X.K a cls d) := by
  intro pins s σ H xs us Q I r h
  obtain ⟨D, dd, fs, c, b, rfl, rfl, rfl, hdd, C, hc, q⟩ := h
  cases r with
  | cons rx rr =>
    cases rr with
    | cons rt rr =>
      cases rr
      cases rx
      obtain ⟨hget, _⟩ := I.pin (a, oe) (List.mem_append.mpr (.inl List.mem_cons_self))
      obtain ⟨vs, hv⟩ := hf
      have hx : ObjOk X.prog X.w H s.heap dd (.xd fs) := I.hok dd _ hdd
      obtain ⟨mA, hns, hr⟩ := hx
      obtain ⟨od, ho, hl⟩ := lookIn_ns hns
      have J : PySem.W.InstAt s.heap a oe D (some od) := ⟨hget, hz.1, by unfold PySem.W.notCls; rw [hv] <;> rfl, by rw [hz.2]; exact ho⟩
      have cl : (PySem.W.clsIn X.K D).isSome = true := by
        obtain ⟨cd, e, _⟩ := PySem.W.any_some C.hd
        rw [e]; rfl
      have Z := fun (od : Option Obj) => PySem.W.kitx_exc (x := a) (ox := oe) (od := od) cl C.hg C.hk C.hs C.ha C.hn C.ht C.hm
      rcases hc with ⟨cv, hcv, e⟩ | ⟨t, cs, rfl, ht, e⟩
      · have ec := hcv _ rt
        subst ec
        exact PySem.W.kia_one (Z _) I.kIn J e (fun z => nomatch z) fun tk => ⟨.bl b, H, I.kept (t' := tk) fun _ _ z => z, rfl, q⟩
      · cases rt
        obtain ⟨_, its, rv, o, ho2, hcls, n, hdat⟩ := (show ObjOk X.prog X.w H s.heap t (.tup (cs.map V.ref)) from I.hok t _ ht)
        obtain ⟨oc, oda, odt, osl⟩ := o
        dsimp only at hcls hdat
        subst hcls hdat
        rw [← vals_refs rv] at e
        exact PySem.W.kia_tup (Z _) I.kIn J ho2 e (fun z => nomatch z) fun tk => ⟨.bl b, H, I.kept (t' := tk) fun _ _ z => z, rfl, q⟩
end CsX

set_option Elab.async false
set_option linter.all false
set_option maxRecDepth 100000
set_option maxHeartbeats 4000000
/-! name = {k: v for ..} as a statement. -/
namespace Cs
open PySem PySem.Spec PyProof.Rows L2
section
variable {X : Cx}
theorem ps_setDc {i : Nat} {y : Str} {py : Pos} {kx vx tg it : Expr} {cs : List Expr} {scope : Scope} {own : List (PySem.Str × Nat)} {pos spos : Pos} {wi : TI} {g : TG} {tt : TT} {tk tv : TE} (hc : X.calm = true) (hN : X.N.Nodup) (hy : X.N[i]? = some y) (hyl : X.env.scope.names.lookup y = some .local)
    (hsw : swapsWith (.DictComp kx vx [⟨tg, it, cs, 0⟩] scope pos) (some (.Name y py)) spos.line X.env = pure true) (hi : PI X tg it wi) (ok : BlkOk X.N X.env.scope scope own)
    (hg : ∀ (s : Shared) (H : Hp) (C : Addr) (cl : List (PySem.Str × Addr)) (fp : List Addr), PG (X.blk s H scope (compEnvC scope cl C X.env) fp) tg g)
    (ht : ∀ (s : Shared) (H : Hp) (C : Addr) (cl : List (PySem.Str × Addr)) (fp : List Addr), PTs (X.blk s H scope (compEnvC scope cl C X.env) fp) cs tt)
    (hk : ∀ (s : Shared) (H : Hp) (C : Addr) (cl : List (PySem.Str × Addr)) (fp : List Addr), PE (X.blk s H scope (compEnvC scope cl C X.env) fp) kx tk)
    (he : ∀ (s : Shared) (H : Hp) (C : Addr) (cl : List (PySem.Str × Addr)) (fp : List Addr), PE (X.blk s H scope (compEnvC scope cl C X.env) fp) vx tv)
    (hs : ∀ x, foldedSetIterable it X.env x = pure x := by intro _; rfl) :
    PS X (.Assign [.Name y py] (.DictComp kx vx [⟨tg, it, cs, 0⟩] scope pos) spos) (tAsg (tDc wi g tt tk tv (own.map (·.2))) (gName i)) := by
  refine ⟨fun pins s σ H D I h => ?_⟩
  rw [exec_Assign_Name_used _ _ _ _ hsw]
  refine wpAny_bind (wpAny_standAt (wpAny_bind ?_))
  have h : tDc wi g tt tk tv (own.map (·.2)) σ H (fun x H1 => gName i x σ H1 D.nx) := h
  refine wpAny_bind (thn (dc_core (Qf := fun _ s' => SP X pins D .next s') hc hN I hi ok hg ht hk he hs h fun L C s' m H' I' q hn f => ?_) fun _ s' hq => wpAny_pure (wpAny_pure hq))
  obtain ⟨f0, f1, f2, f3, f4, f5⟩ := f
  show wpAny _ _ (assign (.Name y py) X.env (.ref L)) _ _ _
  refine wpAny_assign_Name (store_ok2 (v := V.ref L) I' hN hy (.inl hyl) rfl (fun s2 I2 ⟨a, sb, ha⟩ => ?_) (.inr hyl))
  have apart : C ≠ a := ha.elim (fun z => z ▸ f1) fun z e => f4 y a z e.symm
  exact ⟨m, hn.sameBut sb apart, fun h3 sb3 => ⟨_, H', I2.turned (t' := s2.toks) (fun b o hb e => (sb3.2 b hb).trans e) f0 f1 f3 f4 f5, q⟩⟩
end
end Cs

set_option Elab.async false
set_option linter.all false
set_option maxRecDepth 100000
set_option maxHeartbeats 4000000
/-! == of two tuples that are equal, deep. -/
namespace Cs
open PySem PySem.Spec PyProof.Rows L2
def rEqT (K : PySem.W.Frag) : R2 := fun x y H Q => ∃ a b xs ys, x = .ref a ∧ y = .ref b ∧ SqT K H a xs ∧ SqT K H b ys ∧ Paired (EqV K H 2) xs ys ∧ Q (.bl true) H
theorem op_eqT {X : Cx} (hu : X.A.units + 64 < cLine) : OpR X (compareOp .Eq) (rEqT X.K) := by
  intro pins s σ H x y v u Q I rx ry h
  obtain ⟨a, b, xs, ys, rfl, rfl, ha, hb, hp, q⟩ := h
  cases (show v = Value.ref a from rx)
  cases (show u = Value.ref b from ry)
  obtain ⟨its, r, e, z⟩ := I.tuple ha
  obtain ⟨its2, r2, e2, z2⟩ := I.tuple hb
  have hsz : its.toArray.size = its2.toArray.size := by rw [List.size_toArray, List.size_toArray, ← r.length, ← r2.length]; exact Paired.length hp
  refine GQ.rc_tupG hsz (by omega) (fun _ s' => s' = s) e e2 (fun i h1 h2 s' hs => ?_) (fun s' hs => ?_) rfl
  · subst hs
    have k := items_run (A := X.A.in1) (eqV_run I 2 X.A.in1 (by show X.A.units + 1 + 2 < cLine; omega)) hp r r2 i (by simpa using h1) (by simpa using h2)
    have k2 : SeqAt.EqP X.prog X.w X.A.in1 s' its.toArray[i] its2.toArray[i] true := by simpa using k
    exact k2 _ _ ⟨rfl, rfl⟩
  · subst hs
    exact ⟨.bl true, H, I, rfl, q⟩
end Cs

set_option Elab.async false
set_option linter.all false
set_option maxRecDepth 100000
set_option maxHeartbeats 4000000
namespace CsX
open PySem PySem.Spec PyProof.Rows L2
section
variable {X : Cx}
/-- X(), X an own exception class without own __init__ -/
theorem pmk_own0 {C : Addr} {bmB : List Value} {B newId initId : String} {x : Str} {p pos : Pos} (F : ExcBaseFacts B newId initId bmB) (q : PySem.W.excIn X.K C bmB newId = true) (gC : X.mg x = some (.ref C))
    (kC : PySem.W.keepIn X.K (.ref C) = true) (r : Raises X (.ref C)) (hg : Gl X x) (hdb : (x == ("__debug__" : Str)) = false := by decide) :
    PMk X (.Call (.Name x p) [] [] pos) (fun _ H Q => Q (.ref C) none H) := by
  intro pins s σ H Q I h
  refine wpAny_Call_Name_kw (ld_glob I hg gC ?_ hdb)
  refine PySem.W.callWith_K0 I.kIn kC ?_
  show wpAny _ _ (call (.ref C) []) _ _ _
  obtain ⟨bm, N, nm, qn, bs, hdct, sn, sub, ab, col, dd, k0, k1, k2, k3, k5, mN, hC, hN, hni, T⟩ := exc_obj I.kIn q
  refine wpAny_call_exc_subT F T hC hN hni (fun h' e hm => ?_) (by show 0 ≤ sizeLine; rw [sizeLine_eq]; omega)
  exact mk_of I hm r h (I.hok.gone hm.new)
end
end CsX
/-! ### an own error without fields; classes, methods, properties -/
namespace CsX
open PySem PySem.Spec PyProof.Rows L2
/-- an own error class without an own __init__ (facts of the head) -/
structure Own0 (K : PySem.W.Frag) (mg : Str → Option Value) (x : Str) (C : Addr) : Prop where
  gC : mg x = some (.ref C)
  ex : PySem.W.excIn K C [.type "ValueError", .type "Exception", .type "BaseException", .type "object"] "ValueError.__new__" = true
  kC : PySem.W.keepIn K (.ref C) = true
  sB : PySem.W.subIn K (.ref C) (.type "BaseException") = some true
  tC : PySem.W.typeIn K (.ref C) = some (.type "type")
theorem Own0.mk0 {X : Cx} {x : Str} {C : Addr} {p pos : Pos} (U : Own0 X.K X.mg x C) (hg : Gl X x) (hdb : (x == ("__debug__" : Str)) = false := by decide) : PMk X (.Call (.Name x p) [] [] pos) (fun _ H Q => Q (.ref C) none H) :=
  pmk_own0 PySem.F.excBase_ValueError U.ex U.gC U.kC (raises_own U.sB U.tC) hg hdb
/-- a class of the program: its text, its name, its attributes (no class attribute has the name) -/
structure Kls (K : PySem.W.Frag) (mg : Str → Option Value) (x : Str) (C : Addr) (fs : List Str) : Prop where
  cl : Cls K C
  gC : mg x = some (.ref C)
  no : ∀ f ∈ fs, NoAttr K C f
/-- its __init__ -/
structure CallN (P : Program) (w : World) (K : PySem.W.Frag) (mg : Str → Option Value) (base : Heap) (k : Nat) (C f : Addr) (fd : FuncData) (ps : List Str) (sp : Sp) : Prop where
  ok : FnOk P w K mg base CX0 k f fd ps sp
  mkr : Mk K C f
  bd : Binds K fd ps []
/-- a method -/
structure CallM (P : Program) (w : World) (K : PySem.W.Frag) (mg : Str → Option Value) (base : Heap) (k : Nat) (C : Addr) (m : Str) (f : Addr) (fd : FuncData) (ps : List Str) (sp : Sp) : Prop where
  ok : FnOk P w K mg base CX0 k f fd ps sp
  mt : Meth K C m f
  bd : Binds K fd ps []
/-- a method that may raise -/
structure CallMX (P : Program) (w : World) (K : PySem.W.Frag) (mg : Str → Option Value) (base : Heap) (k : Nat) (C : Addr) (m : Str) (f : Addr) (fd : FuncData) (ps : List Str) (sp : Sp) : Prop where
  ok : FnOk P w K mg base (L2.CX P w) k f fd ps sp
  mt : Meth K C m f
  bd : Binds K fd ps []
/-- a property -/
structure CallP (P : Program) (w : World) (K : PySem.W.Frag) (mg : Str → Option Value) (base : Heap) (k : Nat) (C : Addr) (m : Str) (p f : Addr) (fd : FuncData) (sp : Sp) : Prop where
  ok : FnOk P w K mg base CX0 k f fd ["self"] sp
  pr : PropOf K C m p f
  bd : Binds K fd ["self"] []
end CsX

set_option Elab.async false
set_option linter.all false
set_option maxRecDepth 100000
set_option maxHeartbeats 4000000
namespace CsX
open PySem PySem.Spec PyProof.Rows L2
/-- two promises of one def, in one -/
theorem FnOk.or {P : Program} {w : World} {K : PySem.W.Frag} {mg : Str → Option Value} {base : Heap} {CX : CXT} {k : Nat} {f : Addr} {fd : FuncData} {ps : List Str} {sp1 sp2 : Sp} (F1 : FnOk P w K mg base CX k f fd ps sp1) (F2 : FnOk P w K mg base CX k f fd ps sp2) :
    FnOk P w K mg base CX k f fd ps (fun vs H Q E => sp1 vs H Q E ∨ sp2 vs H Q E) :=
  ⟨fun vs H Q E h => h.elim (F1.len vs H Q E) (F2.len vs H Q E), fun A outer s H args us vs Q E hr he hb hv h => h.elim (F1.run A outer s H args us vs Q E hr he hb hv) (F2.run A outer s H args us vs Q E hr he hb hv)⟩
/-- o.m(..) that may raise: the ends of the raise know the slots -/
def tMethX (C : Addr) (m : Str) (sp : Sp) (E : L2.St → XK) (ta : TE) (t : TA) : TE := fun σ H Q => ta σ H fun x H1 => ∃ a dx fs, x = .ref a ∧ H1 a = some (.ins C dx fs) ∧ fs.lookup m = none ∧ t σ H1 fun vs H2 => sp (x :: vs) H2 Q (E σ)
section
variable {X : Cx} {CX : CXT} {k : Nat} {f C : Addr} {fd : FuncData} {ps : List Str} {sp : Sp} {E : L2.St → XK} {m : Str} {pos apos : Pos} {e o : Expr} {es : List Expr} {ta : TE} {t : TA}
theorem pe_methX0 {pl : Sem Bool} (he : PE X o ta) (c : Cls X.K C) (hm : Meth X.K C m f) (F : FnOk X.prog X.w X.K X.mg X.base CX k f fd ps sp) (hr : Room k X.A) (hb : Binds X.K fd ps []) (hx : ∀ σ, PassesAt CX X σ (E σ))
    (ht : eval (.Call (.Attribute o m apos) [] [] pos) X.env = (do
      let ov ← eval o X.env
      standAt apos.atName
      let (f, first) ← holding [ov] (getMethod ov m pl)
      callWith pos f first (backTo pos (starEach [] X.env)) (backToKw pos (keywordEach [] X.env))) := by rfl) :
    PE X (.Call (.Attribute o m apos) [] [] pos) (tMethX C m sp E ta tNil) := by
  refine ⟨fun pins s σ H Q I h => ?_⟩
  refine PySem.W.methodCall_KW (pl := pl) (thn (he.run pins s σ H _ I h) fun u s1 ⟨x, H1, I1, rx, a, dx, fs, ex, ea, l, q⟩ => ?_) ht
  subst ex
  obtain rfl : u = Value.ref a := rx
  exact getmeth_ok I1 ea c hm l (PySem.W.callWith_K0 (first := [.ref a]) I1.kIn hm.kp (run_fnS (us := [.ref a]) (vs := [.ref a]) F hr hb (hx σ) I1 (.cons rfl .nil) q))
theorem pe_methX {pl : Sem Bool} (he : PE X o ta) (c : Cls X.K C) (hm : Meth X.K C m f) (F : FnOk X.prog X.w X.K X.mg X.base CX k f fd ps sp) (hr : Room k X.A) (hb : Binds X.K fd ps []) (hx : ∀ σ, PassesAt CX X σ (E σ)) (ha : PA X (e :: es) t)
    (hst : starEach (e :: es) X.env = (false, eval e X.env) :: starEach es X.env := by rfl) (hpl : (backTo pos (starEach es X.env)).any (·.1) = false := by rfl)
    (ht : eval (.Call (.Attribute o m apos) (e :: es) [] pos) X.env = (do
      let ov ← eval o X.env
      standAt apos.atName
      let (f, first) ← holding [ov] (getMethod ov m pl)
      callWith pos f first (backTo pos (starEach (e :: es) X.env)) (backToKw pos (keywordEach [] X.env))) := by rfl) :
    PE X (.Call (.Attribute o m apos) (e :: es) [] pos) (tMethX C m sp E ta t) := by
  refine ⟨fun pins s σ H Q I h => ?_⟩
  refine PySem.W.methodCall_KW (pl := pl) (thn (he.run pins s σ H _ I h) fun u s1 ⟨x, H1, I1, rx, a, dx, fs, ex, ea, l, q⟩ => ?_) ht
  subst ex
  obtain rfl : u = Value.ref a := rx
  refine getmeth_ok I1 ea c hm l ?_
  refine PySem.W.callWith_K (first := [.ref a]) (h₀ := X.base) I.ok.mod.kin hm.kp (thn (ha.run pos pins s1 σ H1 _ I1 q) fun us s2 ⟨vs, H2, I2, r, q2⟩ => ⟨I2.kIn, ?_⟩) hst hpl
  exact run_fnS (us := .ref a :: us) (vs := .ref a :: vs) F hr hb (hx σ) I2 (.cons rfl r) q2
end
/-- isinstance(e, c), isinstance(e, (c, ..)): e the exception that the suite holds, without fields -/
def rIsEN (K : PySem.W.Frag) (a : Addr) (cls : Value) (d : Option Addr) : List V → Hp → VK → Prop := fun xs H Q => ∃ (C : Addr) (c : V) (b : Bool), xs = [.ref a, c] ∧ cls = .ref C ∧ d = none ∧ ExcC K C ∧
  ((∃ cv, (∀ u, RelV c u → u = cv) ∧ PySem.W.kitOne K (.ref C) cv = some b) ∨ ∃ (t : Addr) (cs : List Addr), c = .ref t ∧ H t = some (.tup (cs.map V.ref)) ∧ PySem.W.kitAny K (.ref C) (cs.map Value.ref) = some b) ∧ Q (.bl b) H
theorem call_isEN {X : Cx} {a : Addr} {cls : Value} {d : Option Addr} {oe : Obj} {pn : List (Addr × Obj)} (hz : Zc cls d oe) (hf : ∃ vs, oe.data = .fields vs) : CallR (X.suite a ((a, oe) :: pn)) (.builtin "isinstance") (rIsEN X.K a cls d) := by
  intro pins s σ H xs us Q I r h
  obtain ⟨D, c, b, rfl, rfl, rfl, C, hc, q⟩ := h
  cases r with
  | cons rx rr =>
    cases rr with
    | cons rt rr =>
      cases rr
      cases rx
      obtain ⟨hget, _⟩ := I.pin (a, oe) (List.mem_append.mpr (.inl List.mem_cons_self))
      obtain ⟨vs, hv⟩ := hf
      have J : PySem.W.InstAt s.heap a oe D none := ⟨hget, hz.1, by unfold PySem.W.notCls; rw [hv] <;> rfl, by rw [hz.2]; trivial⟩
      have Z := PySem.W.handS_kitx_exc (x := a) (ox := oe) C.hg C.hk C.hs C.hd C.ha C.hn C.ht C.hm
      rcases hc with ⟨cv, hcv, e⟩ | ⟨t, cs, rfl, ht, e⟩
      · have ec := hcv _ rt
        subst ec
        exact PySem.W.kia_one Z I.kIn J e (fun z => nomatch z) fun tk => ⟨.bl b, H, I.kept (t' := tk) fun _ _ z => z, rfl, q⟩
      · cases rt
        obtain ⟨_, its, rv, o, ho2, hcls, n, hdat⟩ := (show ObjOk X.prog X.w H s.heap t (.tup (cs.map V.ref)) from I.hok t _ ht)
        obtain ⟨oc, oda, odt, osl⟩ := o
        dsimp only at hcls hdat
        subst hcls hdat
        rw [← vals_refs rv] at e
        exact PySem.W.kia_tup Z I.kIn J ho2 e (fun z => nomatch z) fun tk => ⟨.bl b, H, I.kept (t' := tk) fun _ _ z => z, rfl, q⟩
end CsX

set_option Elab.async false
set_option linter.all false
set_option maxRecDepth 100000
set_option maxHeartbeats 4000000
/-! ### errors whose context is known to be None; calls within an except suite -/
namespace CsX
open PySem PySem.Spec PyProof.Rows L2 L2H HotX
section
variable {P : Program} {w : World} {K : PySem.W.Frag} {mg : Str → Option Value} {base : Heap}
/-- a promise without errors, as one with any errors -/
theorem liftE {CX : CXT} {k : Nat} {f : Addr} {fd : FuncData} {ps : List Str} {sp : Sp} (F : FnOk P w K mg base CX0 k f fd ps sp) : FnOk P w K mg base CX k f fd ps sp :=
  ⟨F.len, fun A outer s H args us vs Q E hr he hb hv hs => codeAny_mono (F.run A outer s H args us vs Q E hr he hb hv hs) fun r s' q => by
    cases r with
    | error e => exact False.elim q
    | ok fl => cases fl with
      | ret u => exact q
      | next => exact False.elim q
      | brk => exact False.elim q
      | cont => exact False.elim q⟩
/-- a def by its body, with errors of any kind -/
theorem okN {CX : CXT} {x qual : Str} {st : Stmt} {f : Addr} {fd : FuncData} {N ps : List Str}
    {k : Nat} {sp : Sp} (F : Fun K x qual st f fd) (S : FnScope N ps (defScope st))
    (count : ∀ vs H Q E, sp vs H Q E → vs.length = ps.length)
    (body : ∀ cdv A outer s H vs Q E, Room k (A.deeper (envOfC qual (defScope st) s.heap.objs.size f cdv)) →
      sp vs H Q E → ∃ t, PSs (cxOf CX P w K mg base N qual (defScope st) f cdv A outer s H E) (defBody st) t ∧
        t { nx := fun _ H' => Q .non H', rt := Q } (start N vs) H) :
    FnOk P w K mg base CX (k + 1) f fd ps sp := by
  obtain ⟨_, _, _, _, _, _, _, _, _, rfl, at_, code⟩ := F.ex
  exact fn_of at_ code S count (body _)
/-- a def by its body, for calls within an except suite -/
theorem okH {x qual : Str} {st : Stmt} {f : Addr} {fd : FuncData} {N ps : List Str}
    {k : Nat} {sp : Sp} (F : Fun K x qual st f fd) (S : FnScope N ps (defScope st))
    (count : ∀ vs H Q E, sp vs H Q E → vs.length = ps.length)
    (body : ∀ cdv A outer s H vs Q E p, sp vs H Q E →
      ∃ t, PSs (cxH CX0 P w K mg base N qual (defScope st) f cdv A outer s H E p).nox (defBody st) t ∧
        t { nx := fun _ H' => Q .non H', rt := Q } (start N vs) H) :
    FnH P w K mg base CX0 (k + 1) f fd ps sp := by
  obtain ⟨_, _, _, _, _, _, _, _, _, rfl, at_, code⟩ := F.ex
  refine fn_ofH at_ code S count fun A outer s H vs Q E p _ _ hs => ?_
  obtain ⟨t, good, q⟩ := body _ A outer s H vs Q E p hs
  exact ⟨t, good.nox, q⟩
end
/-! C(x): an own error with fields, its context None (after ExcInit's and ExcInitHot's own, for L2N) -/
abbrev atE (hp : Heap) : Addr := hp.objs.size + 1
abbrev withE (hp : Heap) (us : List Value) (C : Addr) : Heap :=
  (hp.push (PySem.W.kdv_tup us)).push (PySem.HandSPX.excO C hp.objs.size)
theorem withE_old {hp : Heap} {us : List Value} {C b : Addr} {o : Obj}
    (e : hp.get? b = some o) : (withE hp us C).get? b = some o :=
  Heap.get?_push_of_some _ (Heap.get?_push_of_some _ e)
theorem withE_new {hp : Heap} {us : List Value} {C : Addr} :
    (withE hp us C).get? (atE hp) = some (PySem.HandSPX.excO C hp.objs.size) := by heap_get
section
variable {X : Cx} {CX : CXT} {C fI : Addr} {k : Nat} {fd : FuncData} {ps : List Str} {sp : Sp}
theorem call_madeN (T : OexC X.K C)
    (iC : PySem.W.findIn X.K (.ref C) "__init__" = some (some (.ref fI)))
    (tI : PySem.W.typeIn X.K (.ref fI) = some (.type "function"))
    (G : FnOk X.prog X.w X.K X.mg X.base CX k fI fd ps sp) (room : Room (k + 1) X.A)
    (bd : Binds X.K fd ps []) (hx : Passes CX X (fun _ _ _ => False))
    {pins : List (Addr × Obj)} {σ : L2.St} {H1 : Hp} {Q : XK} {us : List Value} {vs : List V}
    {hp : Heap} {g : Array GenState} {dr : Drawn} {tk : Nat} {os : OsState}
    (J1 : Inv X pins σ H1 ⟨hp, g, dr, tk, os⟩) (rel : Vals vs us) (few : vs.length ≤ 1000)
    (init : ∀ a, H1 a = none → sp (V.ref a :: (vs ++ [])) (upd H1 a (exo a C none))
      (fun v H2 => v = .non ∧ ∃ d fs, H2 a = some (exo a C (some d)) ∧ H2 d = some (exd d fs) ∧
        H1 d = none ∧ Q (.ref C) (some d) (upd (del H2 a) d (.xd fs))) (fun _ _ _ => False)) :
    wpAny (model X.prog X.w) X.A (call (.ref C) us) (L2N.MkP X pins σ Q) X.xe ⟨hp, g, dr, tk, os⟩ := by
  have up1 : hp.objs.size ≤ atE hp := Nat.le_succ _
  have free := J1.hok.fresh up1
  have q0 := init (atE hp) free
  rw [List.append_nil] at q0
  have J2 : Inv X pins σ (upd H1 (atE hp) (exo (atE hp) C none)) ⟨withE hp us C, g, dr, tk, os⟩ :=
    J1.laid (t' := tk) (fun _ _ e => withE_old e) up1 (exo_ok withE_new)
  have rel2 : Vals (V.ref (atE hp) :: vs) (Value.ref (atE hp) :: us) := .cons rfl rel
  have many : (Value.ref (atE hp) :: us).length = ps.length := by
    rw [← rel2.length]
    exact G.len _ _ _ _ q0
  have b2 := bd _ (Value.ref (atE hp) :: us) J2.kIn (by rw [List.append_nil]; exact many)
  rw [List.append_nil] at b2
  have small : us.length ≤ sizeLine := by
    have := Paired.length rel
    rw [sizeLine_eq]
    omega
  obtain ⟨_, _, _, _, bm, _, _, _, _, _, _, _, _, _, _, hC, hbm⟩ := T.cls
  have ran := G.run (X.A.under (.builtin "type.__call__" ⟨.ref C :: us, []⟩)) X.stack
    ⟨withE hp us C, g, dr, tk, os⟩ _ ⟨Value.ref (atE hp) :: us, []⟩ _ _ _ (fun _ _ _ => False)
    (room.make C us []) (J2.env0.make C us []) b2 rel2 q0
  refine wpAny_call (PySem.HandSPX.call_own F.excBase_ValueError
    (fun Y => PySem.HandSPX.refsVE_contains Y bm hbm) (J1.kIn _ _ hC) (PySem.W.looks_findIn J1.kIn iC)
    (fun self => PySem.W.bind_fn J1.kIn self tI) small (codeAny_mono ran fun r s2 end2 => ?_))
  match r, end2 with
  | .error er, end2 => exact hx pins σ _ _ er s2 J2 end2
  | .ok (.ret u), end2 =>
    obtain ⟨v, H2, same, bare2, un2, ok2, rv, rfl, d, fs, oA, oD, newD, q2⟩ := end2
    obtain ⟨h2, g2, d2, t2, os2⟩ := s2
    obtain ⟨t0, B, JB, kB, gone, there, nA⟩ := mk_end0 (d2 := d2) (t2 := t2) J1 up1
      (fun _ _ e => withE_old e) un2 ok2 same bare2 oA oD newD
    refine ⟨rv, ⟨atE hp, _, _, ⟨B, g2, d2, t2, os2⟩, _, .ref C, some d, rfl, JB, kB, gone, there,
      ⟨rfl, rfl, fun us2 e2 => ?_⟩, rfl, rfl, nA, rfl, bare2, raises_own T.exC T.tyC, q2⟩⟩
    cases e2
    rfl
  | .ok .next, end2 => exact end2.elim
  | .ok .brk, end2 => exact end2.elim
  | .ok .cont, end2 => exact end2.elim
theorem pmk_oexN {x : Str} {e : Expr} {es : List Expr} {ta : TA} {p pos : Pos} (T : OexC X.K C)
    (iC : PySem.W.findIn X.K (.ref C) "__init__" = some (some (.ref fI)))
    (tI : PySem.W.typeIn X.K (.ref fI) = some (.type "function"))
    (G : FnOk X.prog X.w X.K X.mg X.base CX k fI fd ps sp) (room : Room (k + 1) X.A)
    (bd : Binds X.K fd ps []) (hx : Passes CX X (fun _ _ _ => False)) (hg : Gl X x)
    (hm : X.mg x = some (.ref C)) (ha : PA X (e :: es) ta)
    (hdb : (x == ("__debug__" : Str)) = false := by decide)
    (st : starEach (e :: es) X.env = (false, eval e X.env) :: starEach es X.env := by rfl)
    (pl : (backTo pos (starEach es X.env)).any (·.1) = false := by rfl) :
    L2N.PMk X (.Call (.Name x p) (e :: es) [] pos) (tMkO C sp [] ta) := fun pins s σ H Q I h =>
  wpAny_Call_Name_kw (ld_glob I hg hm (PySem.W.callWith_K (h₀ := X.base) I.ok.mod.kin T.kC
    (thn (ha.run pos pins s σ H _ I h) fun us s1 ⟨vs, H1, J1, rel, few, init⟩ => ⟨J1.kIn, by
      match s1, J1, init with
      | ⟨hp, g, dr, tk, os⟩, J1, init => exact call_madeN T iC tI G room bd hx J1 rel few init⟩) st pl) hdb)
end
end CsX

set_option Elab.async false
set_option linter.all false
set_option maxRecDepth 100000
set_option maxHeartbeats 4000000
namespace K16
open PySem PySem.Spec PyProof.Rows L2 Cs
def topS (i : Nat) : Stmt := PySem.Challenge.pw_curbdesk_k16_history.main.body.getD i (.Pass ⟨0, 0, 0, 0⟩)
structure Bt (mg : Str → Option Value) : Prop where
  sorted : mg "sorted" = none
  set : mg "set" = none
  len : mg "len" = none
  isi : mg "isinstance" = none
  int : mg "int" = none
  bool : mg "bool" = none
  list : mg "list" = none
  all : mg "all" = none
  range : mg "range" = none
  dict : mg "dict" = none
abbrev Srt (ms : List Int) : Prop := ms.Pairwise (· < ·)
theorem same_new {H : Hp} {p : Addr} {o : HO} (h : H p = none) : Same H (upd H p o) := fun b x e => by
  rw [upd_ne (ne_of_none e h)]
  exact e
theorem same_at {H H' : Hp} {p : Addr} {o : HO} (s : Same H H') (h : H p = none) : Same H (upd H' p o) := fun b x e => by
  rw [upd_ne (ne_of_none e h)]
  exact s _ _ e
theorem sl_map {K : PySem.W.Frag} {H : Hp} {a : Addr} {xs : List V} (h : H a = some (.lst xs)) : SqL K H a xs := .inl (.inl h)
theorem and_iff (ns ks : List Int) (k : Int) : eAnd (fun j => decide (j ∈ ns)) (fun j => decide (j ∈ ks)) k ↔ k ∈ ns ∧ k ∈ ks := by
  show (decide (k ∈ ns) = true ∧ decide (k ∈ ks) = true) ↔ _
  simp
theorem or_iff' (ns ks : List Int) (k : Int) : eOr (fun j => decide (j ∈ ns)) (fun j => decide (j ∈ ks)) k ↔ k ∈ ns ∨ k ∈ ks := by
  show (decide (k ∈ ns) = true ∨ decide (k ∈ ks) = true) ↔ _
  simp
theorem sub_iff (ns ks : List Int) (k : Int) : eSub (fun j => decide (j ∈ ns)) (fun j => decide (j ∈ ks)) k ↔ k ∈ ns ∧ k ∉ ks := by
  show (decide (k ∈ ns) = true ∧ decide (k ∈ ks) = false) ↔ _
  simp
section
variable {P : Program} {w : World} {K : PySem.W.Frag} {mg : Str → Option Value} {base : Heap}
/-! ### the program: sides -/
/-- two lists, and what is said of the members -/
def spTwo (K : PySem.W.Frag) (mem : List Int → List Int → Int → Prop) : Sp := fun vs H Q _ => ∃ (a b : Addr) (ns ks : List Int), vs = [.ref a, .ref b] ∧ SqL K H a (ns.map V.int) ∧ SqL K H b (ks.map V.int) ∧ ns.length ≤ 31 ∧ ks.length ≤ 31 ∧
  ∀ H' p ms, Same H H' → H p = none → H' p = some (.lst (ms.map V.int)) → Srt ms → (∀ k, k ∈ ms ↔ mem ns ks k) → ms.length ≤ 63 → Q (.ref p) H'
end
section
variable {P : Program} {w : World} {K : PySem.W.Frag} {mg : Str → Option Value} {base : Heap}
abbrev sIsInt : Stmt := topS 37
abbrev sStream : Stmt := topS 38
abbrev sDraw : Stmt := topS 39
theorem scIsInt : FnScope ["_law_actual"] ["_law_actual"] (defScope sIsInt) := ⟨rfl, rfl, rfl, by decide +kernel, rfl, by decide +kernel, by decide +kernel⟩
theorem scStream : FnScope ["_law_script", "_law_k", "_law_cell"] ["_law_script", "_law_k"] (defScope sStream) := ⟨rfl, rfl, rfl, by decide +kernel, rfl, by decide +kernel, by decide +kernel⟩
theorem scDraw : FnScope ["_law_stream_here", "_law_size", "_law_digit", "_law_mixed"] ["_law_stream_here", "_law_size"] (defScope sDraw) := ⟨rfl, rfl, rfl, by decide +kernel, rfl, by decide +kernel, by decide +kernel⟩
def spIsInt : Sp := fun vs H Q _ => ∃ k : Int, vs = [.int k] ∧ Q (.bl true) H
theorem ok_isInt {f : Addr} {fd : FuncData} {k : Nat} (F : Fun K "_law_is_integer" "_law_is_integer" sIsInt f fd) (B : Bt mg) : FnOk P w K mg base CX0 (k + 1) f fd ["_law_actual"] spIsInt := by
  refine F.ok scIsInt (fun vs H Q E h => ?_) (fun cdv A outer s H vs Q E hr h => ?_)
  · obtain ⟨a, rfl, _⟩ := h
    rfl
  · obtain ⟨a, rfl, q⟩ := h
    refine ⟨_, pss_one (ps_ret (pe_and (pe_callB call_isi (by rfl) B.isi PyProof.Rows.boot_isinstance (pa_cons (pv 0) (pa_cons (pe_bltn (by rfl) B.int PyProof.Rows.boot_int (v := .ty "int") rfl) pa_nil)))
      (pe_one (pe_not (pe_callB call_isi (by rfl) B.isi PyProof.Rows.boot_isinstance (pa_cons (pv 0) (pa_cons (pe_bltn (by rfl) B.bool PyProof.Rows.boot_bool (v := .ty "bool") rfl) pa_nil))))))), ?_⟩
    refine ⟨.int a, rfl, .int a, .ty "int", .type "int", .type "int", true, rfl, .ty _, .base (.int a), kit_ty (by decide +kernel), true, rfl, iteT ?_⟩
    exact ⟨.int a, rfl, .int a, .ty "bool", .type "int", .type "bool", false, rfl, .ty _, .base (.int a), kit_ty (by decide +kernel), false, rfl, q⟩

/-- a stream: three ints -/
def Strm (H : Hp) (p : Addr) : Prop := ∃ x y z : Int, H p = some (.lst [.int x, .int y, .int z])
def spStream (K : PySem.W.Frag) : Sp := fun vs H Q _ => ∃ (a : Addr) (ns : List Int) (k : Nat), vs = [.ref a, .int (k : Int)] ∧ SqL K H a (ns.map V.int) ∧
  ∀ H' p, Same H H' → H p = none → Strm H' p → Q (.ref p) H'
theorem ok_stream {f : Addr} {fd : FuncData} {k : Nat} (F : Fun K "_law_stream" "_law_stream" sStream f fd) (B : Bt mg) : FnOk P w K mg base CX0 (k + 1) f fd ["_law_script", "_law_k"] (spStream K) := by
  refine F.ok scStream (fun vs H Q E h => ?_) (fun cdv A outer s H vs Q E hr h => ?_)
  · obtain ⟨a, ns, k, rfl, _⟩ := h
    rfl
  · obtain ⟨a, ns, k, rfl, hS, q⟩ := h
    refine ⟨_, pss_cons (ps_set (i := 2) scStream.nd rfl (.inl rfl) pe_int)
      (pss_cons (ps_if (pt_cmpR op_lt (pv 1) (pe_callB call_len_seq (by rfl) B.len PySem.boot_len (pa_cons (pv 0) pa_nil)) (nomark _))
        (pss_one (ps_set (i := 2) scStream.nd rfl (.inl rfl) (pe_ix ix_list (pv 0) (pv 1) (fun _ _ => rfl)))) pss_nil)
      (pss_one (ps_ret (pe_lst (pa_cons (pe_op op_mul (pv 2) (pe_callTy call_int1 (by rfl) B.int PyProof.Rows.boot_int (pa_cons (pe_cmpR op_ge (pv 2) (pe_op op_pow pe_int pe_int) (nomark _)) pa_nil))) (pa_cons pe_int (pa_cons (pv 2) pa_nil))))))), ?_⟩
    have tail : ∀ (c : Int) (b : Bool), -(2 ^ 64) < (if b = true then (1 : Int) else 0) ∧ (if b = true then (1 : Int) else 0) < 2 ^ 64 := fun c b => by cases b <;> decide
    refine ⟨.int k, rfl, .ref a, rfl, a, _, rfl, .inl hS, (k : Int), _, rfl, rfl, _, rfl, ite2 (fun c => ?_) (fun c => ?_)⟩
    · have hk : k < ns.length := by
        have := of_decide_eq_true c
        rw [List.length_map] at this
        omega
      have g : (ns.map V.int)[k]? = some (.int ns[k]) := by
        rw [List.getElem?_map, List.getElem?_eq_getElem hk]
        rfl
      refine ⟨.ref a, rfl, .int k, rfl, a, _, (k : Int), _, rfl, rfl, hS, atI_nat g, ?_⟩
      refine ⟨.int ns[k], rfl, .int ns[k], rfl, 10, 18, rfl, rfl, ⟨by decide, by decide, by decide⟩, ns[k], _, rfl, rfl, .inr ⟨_, rfl, ns[k], _, rfl, rfl, .inr (tail 0 _), .int ns[k], rfl, by show 3 ≤ sizeLine; decide, fun l hl => ?_⟩⟩
      exact q _ l (same_new hl) hl ⟨_, _, _, upd_same⟩
    · refine ⟨.int 0, rfl, .int 0, rfl, 10, 18, rfl, rfl, ⟨by decide, by decide, by decide⟩, 0, _, rfl, rfl, .inr ⟨_, rfl, 0, _, rfl, rfl, .inr (tail 0 _), .int 0, rfl, by show 3 ≤ sizeLine; decide, fun l hl => ?_⟩⟩
      exact q _ l (same_new hl) hl ⟨_, _, _, upd_same⟩
/-- all but the one at p is as it was -/
def Oth (p : Addr) (H H' : Hp) : Prop := ∀ b, b ≠ p → H' b = H b
def spDraw : Sp := fun vs H Q _ => ∃ (p : Addr) (m : Int), vs = [.ref p, .int m] ∧ Strm H p ∧ 0 < m ∧ m < 1073741824 ∧
  ∀ H' d, Oth p H H' → Strm H' p → 0 ≤ d → d < m → Q (.int d) H'
theorem at0 {x y z : V} : atI [x, y, z] (0 : Int) = some x := atI_nat (j := 0) rfl
theorem at1 {x y z : V} : atI [x, y, z] (1 : Int) = some y := atI_nat (j := 1) rfl
theorem at2 {x y z : V} : atI [x, y, z] (2 : Int) = some z := atI_nat (j := 2) rfl
theorem ok_draw {f : Addr} {fd : FuncData} {k : Nat} (F : Fun K "_law_next" "_law_next" sDraw f fd) (B : Bt mg) : FnOk P w K mg base CX0 (k + 1) f fd ["_law_stream_here", "_law_size"] spDraw := by
  refine F.ok scDraw (fun vs H Q E h => ?_) (fun cdv A outer s H vs Q E hr h => ?_)
  · obtain ⟨p, m, rfl, _⟩ := h
    rfl
  · obtain ⟨p, m, rfl, ⟨x, y, z, hp⟩, m0, m1, q⟩ := h
    refine ⟨_, pss_cons (ps_asg (pe_op op_add (pe_ix ix_list (pv 0) pe_int (fun _ _ => rfl)) pe_int) (pg_sub (pv 0) pe_int set_list))
      (pss_cons (ps_if (pt_cmpR op_gt (pe_ix ix_list (pv 0) pe_int (fun _ _ => rfl)) pe_int (nomark _))
        (pss_cons (ps_set (i := 2) scDraw.nd rfl (.inl rfl) (pe_op op_mod (pe_callTy call_int1 (by rfl) B.int PyProof.Rows.boot_int (pa_cons (pe_ix ix_list (pv 0) pe_int (fun _ _ => rfl)) pa_nil)) (pv 1)))
          (pss_cons (ps_asg (pe_op op_fdiv (pe_ix ix_list (pv 0) pe_int (fun _ _ => rfl)) (pv 1)) (pg_sub (pv 0) pe_int set_list))
          (pss_one (ps_ret (pv 2))))) pss_nil)
      (pss_cons (ps_set (i := 3) scDraw.nd rfl (.inl rfl) (pe_op op_mod (pe_callTy call_int1 (by rfl) B.int PyProof.Rows.boot_int (pa_cons
          (pe_op op_add (pe_op op_add (pe_ix ix_list (pv 0) pe_int (fun _ _ => rfl)) (pe_op op_mul pe_int (pe_ix ix_list (pv 0) pe_int (fun _ _ => rfl)))) pe_int) pa_nil)) pe_int))
      (pss_cons (ps_set (i := 3) scDraw.nd rfl (.inl rfl) (pe_op op_mod (pe_callTy call_int1 (by rfl) B.int PyProof.Rows.boot_int (pa_cons
          (pe_op op_mul (pv 3) (pe_op op_add (pv 3) pe_int)) pa_nil)) pe_int))
      (pss_cons (ps_set (i := 3) scDraw.nd rfl (.inl rfl) (pe_op op_mod (pe_callTy call_int1 (by rfl) B.int PyProof.Rows.boot_int (pa_cons
          (pe_op op_add (pe_op op_mul (pv 3) (pe_op op_add (pv 3) pe_int)) (pe_op op_mul pe_int (pe_ix ix_list (pv 0) pe_int (fun _ _ => rfl)))) pa_nil)) pe_int))
      (pss_one (ps_ret (pe_op op_mod (pe_callTy call_int1 (by rfl) B.int PyProof.Rows.boot_int (pa_cons (pe_op op_fdiv (pv 3) pe_int) pa_nil)) (pv 1)))))))), ?_⟩
    have pos1 : (0 : Int) < 2147483647 := by decide
    have pos2 : (0 : Int) < 2147483629 := by decide
    -- stream[1] = stream[1] + 1
    refine ⟨.ref p, rfl, p, _, 1, .int y, rfl, rfl, sl_map hp, at1, y, 1, rfl, rfl, .ref p, rfl, p, _, 1, 1, rfl, rfl, hp, rfl, ?_⟩
    have h1 : ∀ o, (upd H p o) p = some o := fun o => upd_same
    -- if stream[0] > 0
    refine ⟨.ref p, rfl, p, _, 0, .int x, rfl, rfl, sl_map upd_same, at0, x, 0, rfl, rfl, _, rfl, ite2 (fun c => ?_) (fun c => ?_)⟩
    · refine ⟨.ref p, rfl, p, _, 0, .int x, rfl, rfl, sl_map upd_same, at0, .inl ⟨x, rfl, .int m, rfl, x, m, rfl, rfl, m0, ?_⟩⟩
      refine ⟨.ref p, rfl, p, _, 0, .int x, rfl, rfl, sl_map upd_same, at0, .int m, rfl, x, m, rfl, rfl, ⟨m0, m1⟩, .ref p, rfl, p, _, 0, 0, rfl, rfl, upd_same, rfl, ?_⟩
      refine ⟨.int (x % m), rfl, q _ _ (fun b hb => by rw [upd_ne hb, upd_ne hb]) ⟨_, _, _, upd_same⟩ (Int.emod_nonneg _ (by omega)) (Int.emod_lt_of_pos _ m0)⟩
    · refine ⟨.ref p, rfl, p, _, 2, .int z, rfl, rfl, sl_map upd_same, at2, .ref p, rfl, p, _, 1, .int (y + 1), rfl, rfl, sl_map upd_same, at1, 7919, y + 1, rfl, rfl, .inl ⟨by decide, by decide⟩, z, _, rfl, rfl, _, 13, rfl, rfl,
        .inl ⟨_, rfl, _, 2147483647, rfl, rfl, pos1, ?_⟩⟩
      have r1 : ∀ u : Int, 0 ≤ u % 2147483647 ∧ u % 2147483647 < 2147483647 := fun u => ⟨Int.emod_nonneg _ (by decide), Int.emod_lt_of_pos _ (by decide)⟩
      have r2 : ∀ u : Int, 0 ≤ u % 2147483629 ∧ u % 2147483629 < 2147483629 := fun u => ⟨Int.emod_nonneg _ (by decide), Int.emod_lt_of_pos _ (by decide)⟩
      have big : (2147483647 : Int) < 2 ^ 64 := by decide
      have big2 : (-(2 ^ 64) : Int) < 0 := by decide
      have b1 := r1 (z + 7919 * (y + 1) + 13)
      refine ⟨_, rfl, _, rfl, (z + 7919 * (y + 1) + 13) % 2147483647, 48271, rfl, rfl, (z + 7919 * (y + 1) + 13) % 2147483647, _, rfl, rfl, .inl ⟨by omega, by omega⟩, .inl ⟨_, rfl, _, 2147483629, rfl, rfl, pos2, ?_⟩⟩
      have b2 := r2 ((z + 7919 * (y + 1) + 13) % 2147483647 * ((z + 7919 * (y + 1) + 13) % 2147483647 + 48271))
      refine ⟨_, rfl, _, rfl, _, 69621, rfl, rfl, (z + 7919 * (y + 1) + 13) % 2147483647 * ((z + 7919 * (y + 1) + 13) % 2147483647 + 48271) % 2147483629, _, rfl, rfl, .inl ⟨?_, ?_⟩, .ref p, rfl, p, _, 1, .int (y + 1), rfl, rfl, sl_map upd_same, at1, 31, y + 1, rfl, rfl, .inl ⟨by decide, by decide⟩, _, _, rfl, rfl,
        .inl ⟨_, rfl, _, 2147483647, rfl, rfl, pos1, ?_⟩⟩
      · generalize (z + 7919 * (y + 1) + 13) % 2147483647 * ((z + 7919 * (y + 1) + 13) % 2147483647 + 48271) % 2147483629 = v at b2
        omega
      · generalize (z + 7919 * (y + 1) + 13) % 2147483647 * ((z + 7919 * (y + 1) + 13) % 2147483647 + 48271) % 2147483629 = v at b2
        omega
      refine ⟨_, rfl, _, 9, rfl, rfl, ⟨by decide, by decide⟩, .inl ⟨_, rfl, .int m, rfl, _, m, rfl, rfl, m0, ?_⟩⟩
      exact q _ _ (fun b hb => by rw [upd_ne hb]) ⟨_, _, _, upd_same⟩ (Int.emod_nonneg _ (by omega)) (Int.emod_lt_of_pos _ m0)
/-- a def that stands, with its promise -/
structure Call (P : Program) (w : World) (K : PySem.W.Frag) (mg : Str → Option Value) (base : Heap) (k : Nat) (x : Str) (f : Addr) (fd : FuncData) (ps : List Str) (sp : Sp) : Prop where
  ok : FnOk P w K mg base CX0 k f fd ps sp
  at_ : mg x = some (.ref f)
  kp : PySem.W.keepIn K (.ref f) = true
  bd : Binds K fd ps []
abbrev nIsSide : List Str := ["_law_actual", "_law_value", "_law_k"]
def spIsSide : Sp := fun vs H Q _ => ∃ (a : Addr) (ns : List Int), vs = [.ref a] ∧ H a = some (.lst (ns.map V.int)) ∧ Srt ns ∧ ns.length ≤ 1000 ∧ ∀ H', Same H H' → Q (.bl true) H'
theorem all_rep (n : Nat) : (List.replicate n true).all id = true := by simp
/-- what was tracked, but for the one at p, is as it was -/
def Keep (p : Addr) (H H' : Hp) : Prop := ∀ b o, b ≠ p → H b = some o → H' b = some o
theorem Keep.refl (p : Addr) (H : Hp) : Keep p H H := fun _ _ _ e => e
theorem Keep.oth {p : Addr} {H H1 H2 : Hp} (k : Keep p H H1) (o : Oth p H1 H2) : Keep p H H2 := fun b u hb e => (o b hb).trans (k b u hb e)
theorem Keep.trans {p : Addr} {H H1 H2 : Hp} (k : Keep p H H1) (k2 : Keep p H1 H2) : Keep p H H2 := fun b u hb e => k2 b u hb (k b u hb e)
theorem Keep.at_ {p q : Addr} {o : HO} {H H1 : Hp} (k : Keep p H H1) (n : H q = none) : Keep p H (upd H1 q o) := fun b u hb e => by
  rw [upd_ne (ne_of_none e n)]
  exact k b u hb e
theorem Keep.same {p : Addr} {H H1 : Hp} (s : Same H H1) : Keep p H H1 := fun b u _ e => s b u e
theorem Strm.some {H : Hp} {p : Addr} (s : Strm H p) : H p ≠ none := fun z => by
  obtain ⟨x, y, z', e⟩ := s
  rw [z] at e
  cases e
theorem Strm.keep {H H' : Hp} {p q : Addr} (s : Strm H p) (k : Keep q H H') (h : p ≠ q) : Strm H' p := by
  obtain ⟨x, y, z, e⟩ := s
  exact ⟨x, y, z, k _ _ h e⟩
theorem Strm.upd {H : Hp} {p q : Addr} {o : HO} (s : Strm H p) (h : p ≠ q) : Strm (upd H q o) p := by
  obtain ⟨x, y, z, e⟩ := s
  exact ⟨x, y, z, by rw [upd_ne h]; exact e⟩
theorem Keep.free {p q : Addr} {H H1 : Hp} (k : Keep p H H1) (s : Strm H1 p) (n : H1 q = none) : H q = none := by
  have hp : q ≠ p := fun z => s.some (z ▸ n)
  cases c : H q with
  | none => rfl
  | some o =>
    rw [k q o hp c] at n
    cases n
end
theorem srt_ext : ∀ {xs ys : List Int}, Srt xs → Srt ys → (∀ k, k ∈ xs ↔ k ∈ ys) → xs = ys
  | [], [], _, _, _ => rfl
  | [], y :: ys, _, _, h => absurd ((h y).2 List.mem_cons_self) (by simp)
  | x :: xs, [], _, _, h => absurd ((h x).1 List.mem_cons_self) (by simp)
  | x :: xs, y :: ys, sx, sy, h => by
    obtain ⟨x1, x2⟩ := List.pairwise_cons.mp sx
    obtain ⟨y1, y2⟩ := List.pairwise_cons.mp sy
    have e : x = y := by
      rcases List.mem_cons.mp ((h x).1 List.mem_cons_self) with a | a
      · exact a
      · rcases List.mem_cons.mp ((h y).2 List.mem_cons_self) with b | b
        · exact b.symm
        · have := x1 y b
          have := y1 x a
          omega
    subst e
    have t : ∀ k, k ∈ xs ↔ k ∈ ys := fun k => by
      constructor
      · intro hk
        rcases List.mem_cons.mp ((h k).1 (List.mem_cons_of_mem _ hk)) with a | a
        · have := x1 k hk
          omega
        · exact a
      · intro hk
        rcases List.mem_cons.mp ((h k).2 (List.mem_cons_of_mem _ hk)) with a | a
        · have := y1 k hk
          omega
        · exact a
    rw [srt_ext x2 y2 t]
/-! ### lists of ints as data -/
abbrev dI (ns : List Int) : PyData := .list (ns.map PyData.int)
theorem dp_all {K : PySem.W.Frag} {H : Hp} : ∀ ns : List Int, DpAll K H (ns.map V.int) (ns.map PyData.int)
  | [] => .nil
  | n :: ns => .cons (.int n) (dp_all ns)
theorem dpI {K : PySem.W.Frag} {H : Hp} {a : Addr} {ns : List Int} (h : SqL K H a (ns.map V.int)) : Dp K H (.ref a) (dI ns) := .lst h (dp_all ns)
theorem lay_all : ∀ ns : List Int, PyData.canLayAll0 (ns.map PyData.int) = true
  | [] => rfl
  | n :: ns => by
    show (PyData.canLay0 (.int n) && PyData.canLayAll0 (ns.map PyData.int)) = true
    rw [lay_all ns] <;> rfl
theorem layI (ns : List Int) : (dI ns).canLay0 = true := lay_all ns
theorem deep_all : ∀ ns : List Int, PyData.depthAll (ns.map PyData.int) ≤ 1
  | [] => by simp [PyData.depthAll]
  | n :: ns => by
    have := deep_all ns
    simp only [List.map_cons, PyData.depthAll, PyData.depth]
    omega
theorem deepI (ns : List Int) : (dI ns).depth ≤ 2 := by
  have := deep_all ns
  simp only [dI, PyData.depth]
  omega
theorem shI (ns : List Int) : SeqAt.shaped (dI ns) = true := by
  unfold SeqAt.shaped
  rw [layI]
  have := deepI ns
  simp
  omega
theorem eqI (ns : List Int) : PyData.eqv (dI ns) (dI ns) = true := SeqAt.eqv_refl _ (layI ns)
theorem lay2 (ns ks : List Int) : (PyData.list [dI ns, dI ks]).canLay0 = true := by
  show (PyData.canLay0 (dI ns) && (PyData.canLay0 (dI ks) && true)) = true
  rw [layI, layI]
  rfl
theorem sh2 (ns ks : List Int) : SeqAt.shaped (.list [dI ns, dI ks]) = true := by
  unfold SeqAt.shaped
  rw [lay2]
  have h1 := deepI ns
  have h2 := deepI ks
  have : (PyData.list [dI ns, dI ks]).depth ≤ 3 := by
    simp only [PyData.depth, PyData.depthAll] at *
    omega
  simp
  omega
theorem eq2 (ns ks : List Int) : PyData.eqv (.list [dI ns, dI ks]) (.list [dI ns, dI ks]) = true := SeqAt.eqv_refl _ (lay2 ns ks)
/-! ### boxes: dicts from texts to lists of ints -/
abbrev Ent := Str × Addr × List Int
def entK (L : List Ent) : List (Key × V) := L.map fun e => (Sum.inr e.1, V.ref e.2.1)
def getE (L : List Ent) (x : Str) : Option Ent := L.find? fun e => decide (e.1 = x)
def look (L : List Ent) (x : Str) : Option (List Int) := (getE L x).map (·.2.2)
theorem getE_nil (x : Str) : getE [] x = none := rfl
theorem getE_pos {e : Ent} {L : List Ent} {x : Str} (h : e.1 = x) : getE (e :: L) x = some e := by simp [getE, List.find?_cons, h]
theorem getE_neg {e : Ent} {L : List Ent} {x : Str} (h : ¬ e.1 = x) : getE (e :: L) x = getE L x := by simp [getE, List.find?_cons, h]
theorem getE_mem {L : List Ent} {x : Str} {e : Ent} (h : getE L x = some e) : e ∈ L ∧ e.1 = x :=
  ⟨List.mem_of_find?_eq_some h, of_decide_eq_true (List.find?_some (p := fun e : Ent => decide (e.1 = x)) h)⟩
theorem getE_of : ∀ {L : List Ent} {e : Ent}, (L.map (·.1)).Nodup → e ∈ L → getE L e.1 = some e
  | [], _, _, h => by cases h
  | a :: L, e, nd, h => by
    rw [List.map_cons, List.nodup_cons] at nd
    rcases List.mem_cons.mp h with z | z
    · rw [z]; exact getE_pos rfl
    · have ne : ¬ a.1 = e.1 := fun q => nd.1 (q ▸ List.mem_map_of_mem z)
      rw [getE_neg ne]
      exact getE_of nd.2 z
theorem getE_none {L : List Ent} {x : Str} : getE L x = none ↔ x ∉ L.map (·.1) := by
  unfold getE
  rw [List.find?_eq_none]
  constructor
  · intro h hx
    obtain ⟨e, he, q⟩ := List.mem_map.mp hx
    exact h e he (decide_eq_true q)
  · intro h e he q
    exact h (of_decide_eq_true q ▸ List.mem_map_of_mem he)
theorem look_mem {L : List Ent} {e : Ent} (nd : (L.map (·.1)).Nodup) (h : e ∈ L) : look L e.1 = some e.2.2 := by
  unfold look
  rw [getE_of nd h]
  rfl
theorem valV_ent (x : Str) : ∀ L : List Ent, valV (entK L) (.inr x) = (getE L x).map fun e => V.ref e.2.1
  | [] => rfl
  | e :: L => by
    by_cases h : e.1 = x
    · rw [getE_pos h]
      exact valV_pos (congrArg Sum.inr h)
    · rw [getE_neg h]
      have : valV (entK (e :: L)) (.inr x) = valV (entK L) (.inr x) := valV_neg (fun z => h (Sum.inr.inj z))
      rw [this]
      exact valV_ent x L
structure Bx (H : Hp) (d : Addr) (L : List Ent) : Prop where
  rd : Rd H d (.dK (entK L))
  sides : ∀ e ∈ L, H e.2.1 = some (.lst (e.2.2.map V.int))
  nd : (L.map (·.1)).Nodup
  few : L.length ≤ 40
theorem Rd.same {H H' : Hp} {a : Addr} {u : HO} (s : Same H H') (r : Rd H a u) : Rd H' a u := r.elim (fun h => .inl (s _ _ h)) fun ⟨o, h⟩ => .inr ⟨o, s _ _ h⟩
theorem Bx.same {H H' : Hp} {d : Addr} {L : List Ent} (B : Bx H d L) (s : Same H H') : Bx H' d L := ⟨Rd.same s B.rd, fun e he => s _ _ (B.sides e he), B.nd, B.few⟩
theorem Bx.get {H : Hp} {d : Addr} {L : List Ent} (B : Bx H d L) (x : Str) : DGet H d (.str x) ((getE L x).map fun e => V.ref e.2.1) := .inl ⟨entK L, .inr x, B.rd, rfl, (valV_ent x L).symm⟩
/-- a locked dict is read as before -/
theorem Bx.lock {H : Hp} {d d' : Addr} {L L' : List Ent} {od : Obj} (B : Bx H d L) (h : H d' = some (.dK (entK L'))) : Bx (upd H d' (.frz od (.dK (entK L')))) d L := by
  refine ⟨?_, fun e he => ?_, B.nd, B.few⟩
  · by_cases z : d = d'
    · subst z
      have : entK L' = entK L := by
        rcases B.rd with q | ⟨o, q⟩
        · rw [h] at q
          exact HO.dK.inj (Option.some.inj q)
        · rw [h] at q; cases q
      rw [← this]
      exact .inr ⟨od, upd_same⟩
    · rcases B.rd with q | ⟨o, q⟩
      · exact .inl (by rw [upd_ne z]; exact q)
      · exact .inr ⟨o, by rw [upd_ne z]; exact q⟩
  · have : e.2.1 ≠ d' := fun z => by have q := B.sides e he; rw [z, h] at q; cases q
    rw [upd_ne this]
    exact B.sides e he
theorem unlock {H H' : Hp} {d : Addr} {u : HO} {od : Obj} (h : H d = some u) (s : Same (upd H d (.frz od u)) H') : Same H (upd H' d u) := fun b o e => by
  by_cases z : b = d
  · subst z
    rw [upd_same]
    exact h.symm.trans e
  · rw [upd_ne z]
    exact s b o (by rw [upd_ne z]; exact e)
/-- put -/
def putE (L : List Ent) (x : Str) (a : Addr) (s : List Int) : List Ent := if (L.any fun e => decide (e.1 = x)) = true then L.map (fun e => if e.1 = x then (x, a, s) else e) else L ++ [(x, a, s)]
theorem any_ent (L : List Ent) (x : Str) : ((entK L).any fun kv => decide (kv.1 = Sum.inr x)) = L.any fun e => decide (e.1 = x) := by
  unfold entK
  rw [List.any_map]
  congr 1
  funext e
  simp
theorem putK_ent (L : List Ent) (x : Str) (a : Addr) (s : List Int) : putK (entK L) (.inr x) (V.ref a) = entK (putE L x a s) := by
  unfold putK putE
  rw [any_ent]
  by_cases h : (L.any fun e => decide (e.1 = x)) = true
  · rw [if_pos h, if_pos h]
    unfold entK
    rw [List.map_map, List.map_map]
    congr 1
    funext e
    by_cases z : e.1 = x
    · simp [z]
    · simp [z]
  · rw [if_neg h, if_neg h]
    unfold entK
    rw [List.map_append]
    rfl
theorem any_iff {L : List Ent} {x : Str} : (L.any fun e => decide (e.1 = x)) = true ↔ x ∈ L.map (·.1) := by
  rw [List.any_eq_true, List.mem_map]
  constructor
  · rintro ⟨e, he, q⟩; exact ⟨e, he, of_decide_eq_true q⟩
  · rintro ⟨e, he, q⟩; exact ⟨e, he, decide_eq_true q⟩
theorem putE_keys (L : List Ent) (x : Str) (a : Addr) (s : List Int) : (putE L x a s).map (·.1) = if x ∈ L.map (·.1) then L.map (·.1) else L.map (·.1) ++ [x] := by
  unfold putE
  by_cases h : (L.any fun e => decide (e.1 = x)) = true
  · rw [if_pos h, if_pos (any_iff.mp h), List.map_map]
    congr 1
    funext e
    by_cases z : e.1 = x
    · simp [z]
    · simp [z]
  · rw [if_neg h, if_neg (fun z => h (any_iff.mpr z)), List.map_append]
    rfl
theorem putE_nd {L : List Ent} {x : Str} {a : Addr} {s : List Int} (nd : (L.map (·.1)).Nodup) : ((putE L x a s).map (·.1)).Nodup := by
  rw [putE_keys]
  split
  · exact nd
  · rename_i h
    rw [List.nodup_append]
    exact ⟨nd, by simp, fun y hy z hz => by rw [List.mem_singleton.mp hz]; exact fun e => h (e ▸ hy)⟩
theorem putE_len (L : List Ent) (x : Str) (a : Addr) (s : List Int) : (putE L x a s).length ≤ L.length + 1 := by
  unfold putE
  split
  · rw [List.length_map]; omega
  · rw [List.length_append]; exact Nat.le_refl _
theorem putE_mem {L : List Ent} {x : Str} {a : Addr} {s : List Int} {e : Ent} (h : e ∈ putE L x a s) : e = (x, a, s) ∨ (e ∈ L ∧ e.1 ≠ x) := by
  unfold putE at h
  split at h
  · obtain ⟨f, hf, q⟩ := List.mem_map.mp h
    by_cases z : f.1 = x
    · rw [if_pos z] at q; exact .inl q.symm
    · rw [if_neg z] at q; exact .inr (q ▸ ⟨hf, z⟩)
  · rename_i g
    rcases List.mem_append.mp h with q | q
    · exact .inr ⟨q, fun z => g (any_iff.mpr (z ▸ List.mem_map_of_mem q))⟩
    · exact .inl (List.mem_singleton.mp q)
theorem find_map_at {x y : Str} {a : Addr} {s : List Int} (h : ¬ x = y) : ∀ L : List Ent, getE (L.map (fun e => if e.1 = x then (x, a, s) else e)) y = getE L y
  | [] => rfl
  | e :: L => by
    rw [List.map_cons]
    by_cases z : e.1 = x
    · rw [if_pos z, getE_neg (show ¬ (x, a, s).1 = y from h), getE_neg (fun q => h (z.symm.trans q))]
      exact find_map_at h L
    · rw [if_neg z]
      by_cases q : e.1 = y
      · rw [getE_pos q, getE_pos q]
      · rw [getE_neg q, getE_neg q]
        exact find_map_at h L
theorem find_map_self {x : Str} {a : Addr} {s : List Int} : ∀ L : List Ent, x ∈ L.map (·.1) → getE (L.map (fun e => if e.1 = x then (x, a, s) else e)) x = some (x, a, s)
  | [], h => by cases h
  | e :: L, h => by
    rw [List.map_cons]
    by_cases z : e.1 = x
    · rw [if_pos z]; exact getE_pos rfl
    · rw [if_neg z, getE_neg z]
      rw [List.map_cons] at h
      exact find_map_self L ((List.mem_cons.mp h).elim (fun q => absurd q.symm z) id)
theorem getE_app (L M : List Ent) (y : Str) : getE (L ++ M) y = (getE L y).or (getE M y) := List.find?_append
theorem getE_put (L : List Ent) (x y : Str) (a : Addr) (s : List Int) : getE (putE L x a s) y = if y = x then some (x, a, s) else getE L y := by
  unfold putE
  by_cases h : (L.any fun e => decide (e.1 = x)) = true
  · rw [if_pos h]
    by_cases z : y = x
    · rw [if_pos z, z]
      exact find_map_self L (any_iff.mp h)
    · rw [if_neg z]
      exact find_map_at (fun q => z q.symm) L
  · rw [if_neg h, getE_app]
    by_cases z : y = x
    · rw [if_pos z, z, getE_none.mpr (fun q => h (any_iff.mpr q))]
      exact getE_pos rfl
    · rw [if_neg z, show getE [(x, a, s)] y = none from getE_neg (fun q => z q.symm)]
      cases getE L y <;> rfl
theorem look_put (L : List Ent) (x y : Str) (a : Addr) (s : List Int) : look (putE L x a s) y = if y = x then some s else look L y := by
  unfold look
  rw [getE_put]
  by_cases z : y = x
  · rw [if_pos z, if_pos z]; rfl
  · rw [if_neg z, if_neg z]
/-- drop -/
def dropE (L : List Ent) (x : Str) : List Ent := L.filter fun e => decide (e.1 ≠ x)
theorem dropK_ent (L : List Ent) (x : Str) : dropK (entK L) (.inr x) = entK (dropE L x) := by
  unfold dropK dropE entK
  rw [List.filter_map]
  congr 1
  apply List.filter_congr
  intro e _
  simp
theorem getE_drop (x y : Str) : ∀ L : List Ent, getE (dropE L x) y = if y = x then none else getE L y
  | [] => by unfold dropE; simp [getE]
  | e :: L => by
    have ih := getE_drop x y L
    unfold dropE at ih ⊢
    by_cases z : e.1 = x
    · rw [List.filter_cons_of_neg (by simp [z]), ih]
      by_cases q : y = x
      · rw [if_pos q, if_pos q]
      · rw [if_neg q, if_neg q, getE_neg (fun w => q (w.symm.trans z))]
    · rw [List.filter_cons_of_pos (by simp [z])]
      by_cases w : e.1 = y
      · rw [getE_pos w, getE_pos w, if_neg (fun q => z (w.trans q))]
      · rw [getE_neg w, getE_neg w, ih]
theorem look_drop (L : List Ent) (x y : Str) : look (dropE L x) y = if y = x then none else look L y := by
  unfold look
  rw [getE_drop]
  by_cases q : y = x
  · rw [if_pos q, if_pos q]; rfl
  · rw [if_neg q, if_neg q]
theorem dropE_nd {L : List Ent} {x : Str} (nd : (L.map (·.1)).Nodup) : ((dropE L x).map (·.1)).Nodup := List.Pairwise.sublist (List.Sublist.map _ List.filter_sublist) nd
theorem dropE_mem {L : List Ent} {x : Str} {e : Ent} (h : e ∈ dropE L x) : e ∈ L := (List.mem_filter.mp h).1
theorem dropE_len (L : List Ent) (x : Str) : (dropE L x).length ≤ L.length := List.length_filter_le _ _
/-- two boxes that say the same -/
def SameB (L M : List Ent) : Prop := ∀ x, look L x = look M x
theorem look_isSome {L : List Ent} {x : Str} : (look L x).isSome = true ↔ x ∈ L.map (·.1) := by
  unfold look
  rw [Option.isSome_map]
  cases h : getE L x with
  | none => simp [getE_none.mp h]
  | some e => simp only [Option.isSome_some, true_iff]; obtain ⟨a, b⟩ := getE_mem h; exact b ▸ List.mem_map_of_mem a
theorem len_le {α : Type} [DecidableEq α] : ∀ {l m : List α}, l.Nodup → (∀ x ∈ l, x ∈ m) → l.length ≤ m.length
  | [], _, _, _ => Nat.zero_le _
  | x :: l, m, nd, h => by
    rw [List.nodup_cons] at nd
    have hx := h x List.mem_cons_self
    have ih := len_le (m := m.erase x) nd.2 (fun y hy => (List.mem_erase_of_ne (fun (e : y = x) => nd.1 (by rw [← e]; exact hy))).2 (h y (List.mem_cons_of_mem _ hy)))
    rw [List.length_erase_of_mem hx] at ih
    have : 0 < m.length := List.length_pos_of_mem hx
    rw [List.length_cons]
    omega
theorem SameB.len {L M : List Ent} (s : SameB L M) (n1 : (L.map (·.1)).Nodup) (n2 : (M.map (·.1)).Nodup) : L.length = M.length := by
  have h1 := len_le n1 (fun x hx => look_isSome.mp (by rw [← s x]; exact look_isSome.mpr hx))
  have h2 := len_le n2 (fun x hx => look_isSome.mp (by rw [s x]; exact look_isSome.mpr hx))
  rw [List.length_map, List.length_map] at h1 h2
  omega
/-- v in ks, as the model asks it -/
theorem in_ints (ks : List Int) (v : Int) : inV (.int v) (ks.map V.int) = decide (v ∈ ks) := by
  unfold inV
  induction ks with
  | nil => simp
  | cons k ks ih =>
    rw [List.map_cons, List.any_cons, ih]
    have e : eqV (.int k) (.int v) = decide (k = v) := by
      by_cases c : k = v
      · subst c; simp [eqV]
      · simp [eqV, c]
    rw [e]
    by_cases c : k = v
    · subst c; simp
    · have c2 : ¬ v = k := fun z => c z.symm
      simp [c, c2]
theorem flat_ints (ks : List Int) : (ks.map V.int).all flatV = true := by
  rw [List.all_map]
  exact List.all_eq_true.mpr fun _ _ => rfl
section
variable {P : Program} {w : World} {K : PySem.W.Frag} {mg : Str → Option Value} {base : Heap}
/-! ### the program: boxes -/
/-- a box that no walk has locked -/
structure Bu (H : Hp) (d : Addr) (L : List Ent) : Prop extends Bx H d L where
  un : H d = some (.dK (entK L))
theorem Bu.same' {H H' : Hp} {d : Addr} {L : List Ent} (B : Bu H d L) (s : Same H H') : Bu H' d L := ⟨B.toBx.same s, s _ _ B.un⟩
theorem upd_back {H : Hp} {d : Addr} {u x : HO} (h : H d = some u) : upd (upd H d x) d u = H := by
  funext b
  by_cases z : b = d
  · rw [z, upd_same, h]
  · rw [upd_ne z, upd_ne z]
theorem entK_get {L : List Ent} {i : Nat} : (entK L)[i]? = (L[i]?).map fun e => (Sum.inr e.1, V.ref e.2.1) := by
  unfold entK
  rw [List.getElem?_map]
/-! ### holds -/
def intK (A : List (Str × Int)) : List (Key × V) := A.map fun e => (Sum.inr e.1, V.int e.2)
def aget (A : List (Str × Int)) (x : Str) : Option Int := (A.find? fun e => decide (e.1 = x)).map (·.2)
theorem valV_int (x : Str) : ∀ A : List (Str × Int), valV (intK A) (.inr x) = (aget A x).map V.int
  | [] => rfl
  | e :: A => by
    by_cases h : e.1 = x
    · have : aget (e :: A) x = some e.2 := by simp [aget, List.find?_cons, h]
      rw [this]
      exact valV_pos (congrArg Sum.inr h)
    · have : aget (e :: A) x = aget A x := by simp [aget, List.find?_cons, h]
      rw [this]
      have : valV (intK (e :: A)) (.inr x) = valV (intK A) (.inr x) := valV_neg (fun z => h (Sum.inr.inj z))
      rw [this]
      exact valV_int x A
/-- an assignment: a dict from texts to ints -/
structure Ax (H : Hp) (d : Addr) (A : List (Str × Int)) : Prop where
  rd : Rd H d (.dK (intK A))
theorem Ax.same {H H' : Hp} {d : Addr} {A : List (Str × Int)} (B : Ax H d A) (s : Same H H') : Ax H' d A := ⟨Rd.same s B.rd⟩
theorem Ax.get {H : Hp} {d : Addr} {A : List (Str × Int)} (B : Ax H d A) (x : Str) : DGet H d (.str x) ((aget A x).map V.int) := .inl ⟨intK A, .inr x, B.rd, rfl, (valV_int x A).symm⟩
def inSide (A : List (Str × Int)) (e : Ent) : Bool := match aget A e.1 with
  | some v => decide (v ∈ e.2.2)
  | none => true
def holdsE (L : List Ent) (A : List (Str × Int)) : Bool := L.all (inSide A)
theorem same_frz {H H' : Hp} {d : Addr} {u : HO} {od : Obj} (h : H d = some u) (s : Same H H') : Same (upd H d (.frz od u)) (upd H' d (.frz od u)) := fun b o e => by
  by_cases z : b = d
  · subst z
    rw [upd_same] at e ⊢
    exact e
  · rw [upd_ne z] at e ⊢
    exact s _ _ e
theorem take_all {α : Type} {L : List α} {i : Nat} {e : α} {p : α → Bool} (h : L[i]? = some e) : (L.take (i + 1)).all p = ((L.take i).all p && p e) := by
  rw [List.take_add_one, h, List.all_append]
  simp
theorem not_all {α : Type} {L : List α} {i : Nat} {e : α} {p : α → Bool} (h : L[i]? = some e) (q : p e = false) : L.all p = false := by
  rw [List.all_eq_false]
  exact ⟨e, List.mem_of_getElem? h, by simp [q]⟩
theorem Ax.frz {H : Hp} {v d : Addr} {A : List (Str × Int)} {u : HO} (B : Ax H v A) (h : v ≠ d) : Ax (upd H d u) v A := ⟨B.rd.elim (fun q => .inl (by rw [upd_ne h]; exact q)) fun ⟨o, q⟩ => .inr ⟨o, by rw [upd_ne h]; exact q⟩⟩
theorem entK_len (L : List Ent) : (entK L).length = L.length := by unfold entK; rw [List.length_map]
theorem items_at {L : List Ent} {i : Nat} {x1 x2 : V} (g1 : ((entK L)[i]?.map fun kv => kV kv.1) = some x1) (g2 : ((entK L)[i]?.map Prod.snd) = some x2) : ∃ e, L[i]? = some e ∧ x1 = .str e.1 ∧ x2 = .ref e.2.1 := by
  rw [entK_get] at g1 g2
  cases c : L[i]? with
  | none => rw [c] at g1; cases g1
  | some e => rw [c] at g1 g2; exact ⟨e, rfl, (Option.some.inj g1).symm, (Option.some.inj g2).symm⟩
theorem keys_at {L : List Ent} {i : Nat} {k : Key} {v : V} (h : (entK L)[i]? = some (k, v)) : ∃ e, L[i]? = some e ∧ k = .inr e.1 ∧ v = .ref e.2.1 := by
  rw [entK_get] at h
  obtain ⟨e, he, q⟩ := Option.map_eq_some_iff.mp h
  cases q
  exact ⟨e, he, rfl, rfl⟩
/-! ### box_within -/
end
/-- a new box with sides of its own -/
structure Nb (H0 H : Hp) (d : Addr) (L : List Ent) : Prop extends Bu H d L where
  fresh : H0 d = none
  freshS : ∀ e ∈ L, H0 e.2.1 = none
  inj : (L.map (·.2.1)).Nodup
theorem Nb.pull {H H0 H1 : Hp} {d : Addr} {L : List Ent} (N : Nb H0 H1 d L) (s : Same H H0) : Nb H H1 d L := ⟨N.toBu, s.free N.fresh, fun e he => s.free (N.freshS e he), N.inj⟩
theorem Nb.push {H0 H1 H2 : Hp} {d : Addr} {L : List Ent} (N : Nb H0 H1 d L) (s : Same H1 H2) : Nb H0 H2 d L := ⟨N.toBu.same' s, N.fresh, N.freshS, N.inj⟩
abbrev shape (L : List Ent) : List (Str × List Int) := L.map fun e => (e.1, e.2.2)
theorem look_shape : ∀ {L M : List Ent}, shape L = shape M → SameB L M
  | [], [], _, _ => rfl
  | [], _ :: _, h, _ => by cases h
  | _ :: _, [], h, _ => by cases h
  | e :: L, f :: M, h, x => by
    simp only [shape, List.map_cons, List.cons.injEq, Prod.mk.injEq] at h
    obtain ⟨⟨h1, h2⟩, h3⟩ := h
    have ih := look_shape (L := L) (M := M) h3 x
    unfold look at ih ⊢
    by_cases z : e.1 = x
    · rw [getE_pos z, getE_pos (h1 ▸ z)]
      exact congrArg some h2
    · rw [getE_neg z, getE_neg (fun q => z (h1.trans q))]
      exact ih
theorem shape_keys {L M : List Ent} (h : shape L = shape M) : L.map (·.1) = M.map (·.1) := by
  have q := congrArg (List.map Prod.fst) h
  unfold shape at q
  rw [List.map_map, List.map_map] at q
  exact q
theorem putE_new {L : List Ent} {x : Str} {a : Addr} {s : List Int} (h : x ∉ L.map (·.1)) : putE L x a s = L ++ [(x, a, s)] := if_neg fun z => h (any_iff.mp z)
theorem nd_snoc {α : Type} {l : List α} {x : α} (nd : l.Nodup) (h : x ∉ l) : (l ++ [x]).Nodup := by
  rw [List.nodup_append]
  exact ⟨nd, by simp, fun y hy z hz => by rw [List.mem_singleton.mp hz]; exact fun e => h (e ▸ hy)⟩
theorem dc_it {J : It} {n : Nat} {G : Hp → Prop} {Y : Nat → Hp → V → Hp → Prop} (w : Walk J n G Y) {g : TG} {tt : TT} {tk tv : TE} {vs : List Nat} {σ : L2.St} {H1 : Hp} {D : Addr} {Qd : Hp → Prop} (Pv : Nat → Hp → Prop) (start : Pv 0 (upd H1 D (.dK []))) (stays : ∀ i H, i ≤ n → Pv i H → G H)
    (turn : ∀ i x H H', i < n → Pv i H → Y i H x H' → g x (wipe σ vs) H' fun σ2 H2 => wipe σ2 vs = wipe σ vs ∧ tt σ2 H2 fun b H3 =>
      if b = true then tk σ2 H3 fun y H4 => tv σ2 H4 fun z H5 => ∃ kvs k, y = kV k ∧ H5 D = some (.dK kvs) ∧ kvs.length < sizeLine ∧ Pv (i + 1) (upd H5 D (.dK (putK kvs k z))) else Pv (i + 1) H3) (after : ∀ H, Pv n H → Qd H) :
    ∃ W : Nat → Nat → Hp → Prop, (∃ m, W 0 m (upd H1 D (.dK []))) ∧ ∀ i m H, W i m H →
      (J.stop i H ∧ Qd H) ∨ (J.go i H ∧ ∃ Nx : Hp → Prop, (∀ H', Nx H' → ∃ m', m' < m ∧ W (i + 1) m' H') ∧ ∀ x H', J.yld i H x H' → g x (wipe σ vs) H' fun σ2 H2 => wipe σ2 vs = wipe σ vs ∧ tt σ2 H2 fun b H3 =>
        if b = true then tk σ2 H3 fun y H4 => tv σ2 H4 fun z H5 => ∃ kvs k, y = kV k ∧ H5 D = some (.dK kvs) ∧ kvs.length < sizeLine ∧ Nx (upd H5 D (.dK (putK kvs k z))) else Nx H3) := by
  refine ⟨fun i m H => m = n - i ∧ i ≤ n ∧ Pv i H, ⟨n, rfl, Nat.zero_le _, start⟩, fun i m H h => ?_⟩
  obtain ⟨em, le, pv⟩ := h
  by_cases lt : i < n
  · exact .inr ⟨w.goes i H lt (stays i H le pv), Pv (i + 1), fun H' p => ⟨n - (i + 1), by omega, rfl, lt, p⟩, fun x H' y => turn i x H H' lt pv (w.yields i H x H' lt (stays i H le pv) y)⟩
  · obtain rfl : i = n := by omega
    exact .inl ⟨w.stops H (stays _ H le pv), after H pv⟩
section
variable {P : Program} {w : World} {K : PySem.W.Frag} {mg : Str → Option Value} {base : Heap}
abbrev rLst (K : PySem.W.Frag) : List V → Hp → VK → Prop := fun xs H Q => ∃ p ys, xs = [.ref p] ∧ (SqL K H p ys ∨ SqT K H p ys) ∧ ∀ l, H l = none → Q (.ref l) (upd H l (.lst ys))
def spCopy : Sp := fun vs H Q _ => ∃ (d : Addr) (L : List Ent), vs = [.ref d] ∧ Bu H d L ∧ ∀ (H' : Hp) (d' : Addr) (M : List Ent), Same H H' → Nb H H' d' M → shape M = shape L → Q (.ref d') H'
end
/-! ### what two sorted lists have together -/
def ins (k : Int) : List Int → List Int
  | [] => [k]
  | x :: l => if k < x then k :: x :: l else if k = x then x :: l else x :: ins k l
theorem ins_mem (k j : Int) : ∀ l : List Int, j ∈ ins k l ↔ j = k ∨ j ∈ l
  | [] => by simp [ins]
  | x :: l => by
    unfold ins
    by_cases a : k < x
    · rw [if_pos a]; simp
    · rw [if_neg a]
      by_cases b : k = x
      · rw [if_pos b, b]; simp
      · rw [if_neg b, List.mem_cons, ins_mem k j l, List.mem_cons]
        constructor
        · rintro (h | h | h)
          · exact .inr (.inl h)
          · exact .inl h
          · exact .inr (.inr h)
        · rintro (h | h | h)
          · exact .inr (.inl h)
          · exact .inl h
          · exact .inr (.inr h)
theorem ins_srt (k : Int) : ∀ l : List Int, Srt l → Srt (ins k l)
  | [], _ => List.pairwise_singleton _ _
  | x :: l, s => by
    obtain ⟨s1, s2⟩ := List.pairwise_cons.mp s
    unfold ins
    by_cases a : k < x
    · rw [if_pos a]
      refine List.pairwise_cons.mpr ⟨fun y hy => ?_, s⟩
      rcases List.mem_cons.mp hy with h | h
      · rw [h]; exact a
      · have := s1 y h; omega
    · rw [if_neg a]
      by_cases b : k = x
      · rw [if_pos b]; exact s
      · rw [if_neg b]
        refine List.pairwise_cons.mpr ⟨fun y hy => ?_, ins_srt k l s2⟩
        rcases (ins_mem k y l).mp hy with h | h
        · rw [h]; omega
        · exact s1 y h
theorem ins_len (k : Int) : ∀ l : List Int, (ins k l).length ≤ l.length + 1
  | [] => Nat.le_refl _
  | x :: l => by
    have := ins_len k l
    unfold ins
    split
    · simp
    · split
      · simp
      · simp only [List.length_cons]; omega
def uni (a b : List Int) : List Int := b.foldr ins a
theorem uni_mem (a : List Int) (j : Int) : ∀ b : List Int, j ∈ uni a b ↔ j ∈ a ∨ j ∈ b
  | [] => by simp [uni]
  | k :: b => by
    have ih := uni_mem a j b
    show j ∈ ins k (uni a b) ↔ _
    rw [ins_mem, ih, List.mem_cons]
    constructor
    · rintro (h | h | h)
      · exact .inr (.inl h)
      · exact .inl h
      · exact .inr (.inr h)
    · rintro (h | h | h)
      · exact .inr (.inl h)
      · exact .inl h
      · exact .inr (.inr h)
theorem uni_srt {a : List Int} (s : Srt a) : ∀ b : List Int, Srt (uni a b)
  | [] => s
  | k :: b => ins_srt k _ (uni_srt s b)
theorem uni_len (a : List Int) : ∀ b : List Int, (uni a b).length ≤ a.length + b.length
  | [] => Nat.le_refl _
  | k :: b => by
    have h1 := ins_len k (uni a b)
    have h2 := uni_len a b
    show (ins k (uni a b)).length ≤ a.length + (b.length + 1)
    omega
def both (a s : List Int) : List Int := a.filter fun k => decide (k ∈ s)
theorem both_srt {a s : List Int} (h : Srt a) : Srt (both a s) := List.Pairwise.filter _ h
theorem both_mem (a s : List Int) (k : Int) : k ∈ both a s ↔ k ∈ a ∧ k ∈ s := by
  unfold both
  rw [List.mem_filter, decide_eq_true_iff]
theorem look_snoc (L : List Ent) (e : Ent) (y : Str) (h : e.1 ∉ L.map (·.1)) : look (L ++ [e]) y = if y = e.1 then some e.2.2 else look L y := by
  unfold look
  rw [getE_app]
  by_cases z : y = e.1
  · rw [if_pos z, z, getE_none.mpr h, getE_pos rfl]
    rfl
  · rw [if_neg z, getE_neg (fun q => z q.symm), getE_nil]
    cases getE L y <;> rfl
theorem take_keys {L : List Ent} {i : Nat} {e : Ent} (nd : (L.map (·.1)).Nodup) (he : L[i]? = some e) : e.1 ∉ (L.take i).map (·.1) := by
  intro z
  obtain ⟨g, hg, eg⟩ := List.mem_map.mp z
  obtain ⟨j, hj⟩ := List.mem_iff_getElem?.mp hg
  rw [List.getElem?_take] at hj
  split at hj
  · rename_i hji
    have a1 : (L.map (·.1))[j]? = some e.1 := by rw [List.getElem?_map, hj]; exact congrArg some eg
    have a2 : (L.map (·.1))[i]? = some e.1 := by rw [List.getElem?_map, he]; rfl
    have := nd_ix nd a1 a2
    omega
  · cases hj
theorem look_take {L : List Ent} {i : Nat} {e : Ent} (nd : (L.map (·.1)).Nodup) (he : L[i]? = some e) (y : Str) : look (L.take (i + 1)) y = if y = e.1 then some e.2.2 else look (L.take i) y := by
  rw [List.take_add_one, he]
  exact look_snoc (L.take i) e y (take_keys nd he)
structure Sz (L : List Ent) (n : Nat) : Prop where
  srt : ∀ e ∈ L, Srt e.2.2
  len : ∀ e ∈ L, e.2.2.length ≤ n
theorem look_of {L : List Ent} {x : Str} {s : List Int} (h : look L x = some s) : ∃ e ∈ L, e.1 = x ∧ e.2.2 = s := by
  unfold look at h
  obtain ⟨e, he, q⟩ := Option.map_eq_some_iff.mp h
  obtain ⟨a, b⟩ := getE_mem he
  exact ⟨e, a, b, q⟩
/-- what a new box needs when one more side is put -/
theorem Nb.put {H0 H H3 : Hp} {d l : Addr} {M : List Ent} {x : Str} {s : List Int} (N : Nb H0 H d M) (n0 : H0 l = none) (nl : H l = none) (s3 : Same H H3) (el : H3 l = some (.lst (s.map V.int))) (few : M.length + 1 ≤ 40) :
    Nb H0 (upd H3 d (.dK (entK (putE M x l s)))) d (putE M x l s) := by
  have nld : l ≠ d := fun z => by rw [z, N.un] at nl; cases nl
  have sd : ∀ e ∈ putE M x l s, (upd H3 d (.dK (entK (putE M x l s)))) e.2.1 = some (.lst (e.2.2.map V.int)) := fun e he => by
    rcases putE_mem he with z | ⟨z, _⟩
    · rw [z, upd_ne nld]
      exact el
    · have h1 := N.sides e z
      have h2 : e.2.1 ≠ d := fun w => by rw [w, N.un] at h1; cases h1
      rw [upd_ne h2]
      exact s3 _ _ h1
  refine ⟨⟨⟨.inl upd_same, sd, putE_nd N.nd, by have := putE_len M x l s; omega⟩, upd_same⟩, N.fresh, fun e he => ?_, ?_⟩
  · rcases putE_mem he with z | ⟨z, _⟩
    · rw [z]; exact n0
    · exact N.freshS e z
  · have lM : l ∉ M.map (·.2.1) := fun w => by
      obtain ⟨g, hg, eg⟩ := List.mem_map.mp w
      have eg' : g.2.1 = l := eg
      have h1 := N.sides g hg
      rw [eg', nl] at h1
      cases h1
    unfold putE
    split
    · rw [List.map_map]
      have key : ∀ L : List Ent, (L.map (·.1)).Nodup → (L.map (·.2.1)).Nodup → l ∉ L.map (·.2.1) → (L.map ((fun e : Ent => e.2.1) ∘ fun e => if e.1 = x then (x, l, s) else e)).Nodup ∧ ∀ q ∈ L.map ((fun e : Ent => e.2.1) ∘ fun e => if e.1 = x then (x, l, s) else e), q ∈ L.map (·.2.1) ∨ (q = l ∧ x ∈ L.map (·.1)) := by
        intro L
        induction L with
        | nil => intro _ _ _; exact ⟨List.Pairwise.nil, fun q hq => by cases hq⟩
        | cons e L ih =>
          intro n1 n2 n3
          rw [List.map_cons, List.nodup_cons] at n1 n2
          rw [List.map_cons, List.mem_cons, not_or] at n3
          obtain ⟨i1, i2⟩ := ih n1.2 n2.2 n3.2
          rw [List.map_cons, List.nodup_cons]
          by_cases c : e.1 = x
          · have ef : ((fun e : Ent => e.2.1) ∘ fun e => if e.1 = x then (x, l, s) else e) e = l := by simp [c]
            rw [ef]
            refine ⟨⟨fun w => ?_, i1⟩, fun q hq => ?_⟩
            · rcases i2 l w with z | ⟨_, z⟩
              · exact n3.2 z
              · exact n1.1 (c ▸ z)
            · rcases List.mem_cons.mp hq with z | z
              · exact .inr ⟨z, by rw [List.map_cons, c]; exact List.mem_cons_self⟩
              · rcases i2 q z with y | ⟨y1, y2⟩
                · exact .inl (List.mem_cons_of_mem _ y)
                · exact .inr ⟨y1, List.mem_cons_of_mem _ y2⟩
          · have ef : ((fun e : Ent => e.2.1) ∘ fun e => if e.1 = x then (x, l, s) else e) e = e.2.1 := by simp [c]
            rw [ef]
            refine ⟨⟨fun w => ?_, i1⟩, fun q hq => ?_⟩
            · rcases i2 _ w with z | ⟨z, _⟩
              · exact n2.1 z
              · exact n3.1 z.symm
            · rcases List.mem_cons.mp hq with z | z
              · exact .inl (by rw [z]; exact List.mem_cons_self)
              · rcases i2 q z with y | ⟨y1, y2⟩
                · exact .inl (List.mem_cons_of_mem _ y)
                · exact .inr ⟨y1, List.mem_cons_of_mem _ y2⟩
      exact (key M N.nd N.inj lM).1
    · rw [List.map_append]
      exact nd_snoc N.inj lM
theorem Same.unl {H H' : Hp} {d : Addr} {u : HO} {od : Obj} (h : H d = some u) (s : Same (upd H d (.frz od u)) H') : Same H (upd H' d u) := unlock h s
/-- a new box behind a lock elsewhere -/
theorem Nb.unl {H0 H' : Hp} {b d : Addr} {u : HO} {M : List Ent} {od : Obj} (N : Nb H0 H' d M) (hb : H0 b = some u) (eF : H' b = some (.frz od u)) : Nb H0 (upd H' b u) d M := by
  have db : d ≠ b := fun z => by have := N.un; rw [z, eF] at this; cases this
  have away : ∀ g ∈ M, g.2.1 ≠ b := fun g hg z => by have := N.sides g hg; rw [z, eF] at this; cases this
  exact ⟨⟨⟨.inl (by rw [upd_ne db]; exact N.un), fun g hg => by rw [upd_ne (away g hg)]; exact N.sides g hg, N.nd, N.few⟩, by rw [upd_ne db]; exact N.un⟩, N.fresh, N.freshS, N.inj⟩
theorem Nb.lck {H0 H : Hp} {b d : Addr} {u : HO} {M : List Ent} {od : Obj} (N : Nb H0 H d M) (hb : H0 b ≠ none) : Nb H0 (upd H b (.frz od u)) d M := by
  have db : d ≠ b := fun z => hb (z ▸ N.fresh)
  have away : ∀ g ∈ M, g.2.1 ≠ b := fun g hg z => hb (z ▸ N.freshS g hg)
  exact ⟨⟨⟨.inl (by rw [upd_ne db]; exact N.un), fun g hg => by rw [upd_ne (away g hg)]; exact N.sides g hg, N.nd, N.few⟩, by rw [upd_ne db]; exact N.un⟩, N.fresh, N.freshS, N.inj⟩
section
variable {P : Program} {w : World} {K : PySem.W.Frag} {mg : Str → Option Value} {base : Heap}
end
theorem ne_some' {H : Hp} {p q : Addr} {o : HO} (h : H p = some o) (n : H q = none) : p ≠ q := fun e => by rw [e, n] at h; cases h
section
variable {P : Program} {w : World} {K : PySem.W.Frag} {mg : Str → Option Value} {base : Heap}
/-! ### the pool, a part of it -/
abbrev nPool : List Str := ["_law_stream_here", "_law_count", "_law_pool_here", "_law_k", "_law_scale", "_law_value"]
abbrev nPart : List Str := ["_law_stream_here", "_law_side", "_law_value"]
theorem srt_snoc {ss : List Int} {v : Int} (s : Srt ss) (h : ∀ k ∈ ss, k < v) : Srt (ss ++ [v]) :=
  List.pairwise_append.mpr ⟨s, List.pairwise_singleton _ _, fun a ha b hb => by rw [List.mem_singleton.mp hb]; exact h a ha⟩
def spPool : Sp := fun vs H Q _ => ∃ (p : Addr) (m : Nat), vs = [.ref p, .int (m : Int)] ∧ Strm H p ∧ 1 ≤ m ∧ m ≤ 100 ∧
  ∀ (H' : Hp) (l : Addr) (ns : List Int), Keep p H H' → H l = none → Strm H' p → H' l = some (.lst (ns.map V.int)) → Srt ns → ns.length = m → Q (.ref l) H'
def spPart (K : PySem.W.Frag) : Sp := fun vs H Q _ => ∃ (p a : Addr) (ns : List Int), vs = [.ref p, .ref a] ∧ Strm H p ∧ H a = some (.lst (ns.map V.int)) ∧ p ≠ a ∧ ns.length ≤ 1000 ∧
  ∀ (H' : Hp) (l : Addr) (ms : List Int), Keep p H H' → H l = none → Strm H' p → H' l = some (.lst (ms.map V.int)) → ms.Sublist ns → Q (.ref l) H'
end
/-! ### names -/
def plainN : List Str := ["x", "yard", "z", "u", "wide_one", "q", "pp", "t"]
def lettersN : Str := "qwertyuiopasdfghjklzxcvbnm_zyx"
def digitsN : Str := "7305186429"
theorem plain_nodup : ((List.range 8).all fun s => decide (((List.range 8).map fun k => plainN.getD ((k * 3 + s) % 8) "x").Nodup)) = true := by decide +kernel
def isDig (c : Nat) : Bool := decide (48 ≤ c) && decide (c ≤ 57)
def mark (z : Str) : Option Nat := z.cps.toList.find? isDig
theorem letters_none : (lettersN.cps.toList.all fun c => !isDig c) = true := by decide +kernel
theorem digits_are : (digitsN.cps.toList.all isDig) = true := by decide +kernel
theorem digits_nodup : digitsN.cps.toList.Nodup := by decide +kernel
theorem digits_len : digitsN.cps.toList.length = 10 := by decide +kernel
theorem letters_len : lettersN.length = 30 := by decide +kernel
theorem cut_letters (lo hi : Option Int) : ∀ c ∈ (cutS lettersN lo hi).cps.toList, isDig c = false := fun c hc => by
  have h1 : c ∈ lettersN.cps.toList := by
    have : (cutS lettersN lo hi).cps.toList = (lettersN.cps.toList.drop (HT.sIx lettersN.length 0 lo)).take (HT.sIx lettersN.length lettersN.length hi - HT.sIx lettersN.length 0 lo) := by
      unfold cutS
      simp
    rw [this] at hc
    exact List.mem_of_mem_drop (List.mem_of_mem_take hc)
  have := List.all_eq_true.mp letters_none c h1
  simpa using this
theorem cut_len (lo hi : Option Int) : (cutS lettersN lo hi).length ≤ 30 := by
  have h : (cutS lettersN lo hi).cps.toList.length ≤ 30 := by
    unfold cutS
    simp only [List.toList_toArray]
    have l : lettersN.cps.toList.length = 30 := letters_len
    rw [List.length_take, List.length_drop]
    omega
  exact h
theorem mark_of (x t : Str) (c : Nat) (hx : ∀ d ∈ x.cps.toList, isDig d = false) (hc : isDig c = true) : mark (x ++ ⟨#[c]⟩ ++ t) = some c := by
  unfold mark
  have e : (x ++ ⟨#[c]⟩ ++ t).cps.toList = x.cps.toList ++ [c] ++ t.cps.toList := by
    show ((x.cps ++ #[c]) ++ t.cps).toList = _
    simp
  rw [e, List.append_assoc, List.find?_append]
  have : x.cps.toList.find? isDig = none := List.find?_eq_none.mpr fun d hd => by rw [hx d hd]; simp
  rw [this]
  show (([c] ++ t.cps.toList).find? isDig) = some c
  simp [hc]
theorem ok_of {x : Str} (h : ∀ c ∈ x.cps.toList, c < 0x110000) : PyData.strOk x = true := by
  unfold PyData.strOk
  rw [← Array.all_toList]
  exact List.all_eq_true.mpr fun c hc => decide_eq_true (h c hc)
theorem plain_ok : (plainN.all fun x => PyData.strOk x) = true := by decide +kernel
theorem letters_low : (lettersN.cps.toList.all fun c => decide (c < 0x110000)) = true := by decide +kernel
theorem digits_low : (digitsN.cps.toList.all fun c => decide (c < 0x110000)) = true := by decide +kernel
theorem cut_low (lo hi : Option Int) : ∀ c ∈ (cutS lettersN lo hi).cps.toList, c < 0x110000 := fun c hc => by
  have h1 : c ∈ lettersN.cps.toList := by
    have : (cutS lettersN lo hi).cps.toList = (lettersN.cps.toList.drop (HT.sIx lettersN.length 0 lo)).take (HT.sIx lettersN.length lettersN.length hi - HT.sIx lettersN.length 0 lo) := by
      unfold cutS
      simp
    rw [this] at hc
    exact List.mem_of_mem_drop (List.mem_of_mem_take hc)
  exact of_decide_eq_true (List.all_eq_true.mp letters_low c h1)
theorem name_ok (lo hi lo2 hi2 : Option Int) (c : Nat) (hc : c ∈ digitsN.cps.toList) : PyData.strOk (cutS lettersN lo hi ++ ⟨#[c]⟩ ++ cutS lettersN lo2 hi2) = true := ok_of fun d hd => by
  have e : (cutS lettersN lo hi ++ ⟨#[c]⟩ ++ cutS lettersN lo2 hi2).cps.toList = (cutS lettersN lo hi).cps.toList ++ [c] ++ (cutS lettersN lo2 hi2).cps.toList := by
    show (((cutS lettersN lo hi).cps ++ #[c]) ++ (cutS lettersN lo2 hi2).cps).toList = _
    simp
  rw [e] at hd
  rcases List.mem_append.mp hd with h | h
  · rcases List.mem_append.mp h with h | h
    · exact cut_low lo hi d h
    · rw [List.mem_singleton.mp h]
      exact of_decide_eq_true (List.all_eq_true.mp digits_low c hc)
  · exact cut_low lo2 hi2 d h
theorem str_one (c : Nat) : (⟨#[c]⟩ : Str).length = 1 := rfl
theorem len_app (x y : Str) : (x ++ y).length = x.length + y.length := by
  show (x.cps ++ y.cps).size = _
  exact Array.size_append
section
variable {P : Program} {w : World} {K : PySem.W.Frag} {mg : Str → Option Value} {base : Heap}
abbrev nNames : List Str := ["_law_stream_here", "_law_count", "_law_shift", "_law_plain", "_law_k", "_law_letters", "_law_names_here", "_law_at", "_law_size", "_law_tail"]
def spNames : Sp := fun vs H Q _ => ∃ (p : Addr) (m : Nat), vs = [.ref p, .int (m : Int)] ∧ Strm H p ∧ m ≤ 8 ∧
  ∀ (H' : Hp) (l : Addr) (xs : List Str), Keep p H H' → H l = none → Strm H' p → H' l = some (.lst (xs.map V.str)) → xs.Nodup → xs.length = m → (∀ x ∈ xs, PyData.strOk x = true) → Q (.ref l) H'
end
section
variable {P : Program} {w : World} {K : PySem.W.Frag} {mg : Str → Option Value} {base : Heap}
/-! ### a copy, by a loop -/
abbrev nCopied : List Str := ["_law_sides", "_law_copied_here", "_law_name"]
theorem Nb.nil {H H' : Hp} {D : Addr} (n : H D = none) (h : H' D = some (.dK [])) : Nb H H' D [] := ⟨⟨⟨.inl h, (fun _ he => nomatch he), .nil, Nat.zero_le _⟩, h⟩, n, (fun _ he => nomatch he), .nil⟩
theorem shape_len {L M : List Ent} (h : shape L = shape M) : L.length = M.length := by have := congrArg List.length h; simpa [shape] using this
theorem shape_take {L M : List Ent} {i : Nat} {e : Ent} {l : Addr} (h : shape M = shape (L.take i)) (he : L[i]? = some e) : shape (M ++ [(e.1, l, e.2.2)]) = shape (L.take (i + 1)) := by
  rw [List.take_add_one, he]
  unfold shape at h ⊢
  rw [List.map_append, List.map_append, h]
  rfl
/-! ### _law_holds, _law_within, _law_is -/
end
theorem Nb.alias {H0 H : Hp} {d l : Addr} {M : List Ent} {x : Str} {s : List Int} (N : Nb H0 H d M) (n0 : H0 l = none) (el : H l = some (.lst (s.map V.int))) (nx : x ∉ M.map (·.1)) (nl : l ∉ M.map (·.2.1)) (few : M.length + 1 ≤ 40) :
    Nb H0 (upd H d (.dK (entK (M ++ [(x, l, s)])))) d (M ++ [(x, l, s)]) := by
  have ld : ∀ {c : Addr} {ys : List V}, H c = some (.lst ys) → c ≠ d := fun h z => by rw [z, N.un] at h; cases h
  refine ⟨⟨⟨.inl upd_same, fun e he => ?_, ?_, by rw [List.length_append]; exact few⟩, upd_same⟩, N.fresh, fun e he => ?_, ?_⟩
  · rcases List.mem_append.mp he with z | z
    · have h1 := N.sides e z
      rw [upd_ne (ld h1)]
      exact h1
    · rw [List.mem_singleton.mp z, upd_ne (ld el)]
      exact el
  · rw [List.map_append]
    exact nd_snoc N.nd nx
  · rcases List.mem_append.mp he with z | z
    · exact N.freshS e z
    · rw [List.mem_singleton.mp z]; exact n0
  · rw [List.map_append]
    exact nd_snoc N.inj nl
theorem Nb.unl' {H0 H' : Hp} {b d : Addr} {u : HO} {M : List Ent} {od : Obj} (N : Nb H0 H' d M) (eF : H' b = some (.frz od u)) : Nb H0 (upd H' b u) d M := by
  have db : d ≠ b := fun z => by have := N.un; rw [z, eF] at this; cases this
  have away : ∀ g ∈ M, g.2.1 ≠ b := fun g hg z => by have := N.sides g hg; rw [z, eF] at this; cases this
  exact ⟨⟨⟨.inl (by rw [upd_ne db]; exact N.un), fun g hg => by rw [upd_ne (away g hg)]; exact N.sides g hg, N.nd, N.few⟩, by rw [upd_ne db]; exact N.un⟩, N.fresh, N.freshS, N.inj⟩
section
variable {P : Program} {w : World} {K : PySem.W.Frag} {mg : Str → Option Value} {base : Heap}
end
/-- all that was there, but what stands at one of these -/
def KeepL (as : List Addr) (H H' : Hp) : Prop := ∀ b o, b ∉ as → H b = some o → H' b = some o
theorem KeepL.refl (as : List Addr) (H : Hp) : KeepL as H H := fun _ _ _ e => e
theorem KeepL.same {as : List Addr} {H H1 H2 : Hp} (k : KeepL as H H1) (s : Same H1 H2) : KeepL as H H2 := fun b o h e => s _ _ (k b o h e)
theorem KeepL.trans {as : List Addr} {H H1 H2 : Hp} (k : KeepL as H H1) (s : KeepL as H1 H2) : KeepL as H H2 := fun b o h e => s b o h (k b o h e)
abbrev big : Int := 10 ^ (13 : Int).toNat
def grown (ks : List Str) (e : Ent) : List Int := if e.1 ∈ ks then e.2.2 ++ [big] else e.2.2
theorem SameB.get {L M : List Ent} (s : SameB L M) {e : Ent} (nd : (M.map (·.1)).Nodup) (h : e ∈ M) : ∃ t ∈ L, t.1 = e.1 ∧ t.2.2 = e.2.2 ∧ getE L e.1 = some t := by
  have q := s e.1
  rw [look_mem nd h] at q
  unfold look at q
  obtain ⟨t, ht, eq⟩ := Option.map_eq_some_iff.mp q
  obtain ⟨m1, m2⟩ := getE_mem ht
  exact ⟨t, m1, m2, eq, ht⟩
theorem inj_eq {L : List Ent} (nd : (L.map (·.2.1)).Nodup) {e g : Ent} (he : e ∈ L) (hg : g ∈ L) (h : e.2.1 = g.2.1) : e = g := by
  obtain ⟨i, hi⟩ := List.mem_iff_getElem?.mp he
  obtain ⟨j, hj⟩ := List.mem_iff_getElem?.mp hg
  have a1 : (L.map (·.2.1))[i]? = some e.2.1 := by rw [List.getElem?_map, hi]; rfl
  have a2 : (L.map (·.2.1))[j]? = some e.2.1 := by rw [List.getElem?_map, hj, h]; rfl
  have := nd_ix nd a1 a2
  subst this
  exact Option.some.inj (hi.symm.trans hj)
theorem key_eq {L : List Ent} (nd : (L.map (·.1)).Nodup) {e g : Ent} (he : e ∈ L) (hg : g ∈ L) (h : e.1 = g.1) : e = g := by
  have a := getE_of nd he
  rw [h, getE_of nd hg] at a
  exact (Option.some.inj a).symm
section
variable {P : Program} {w : World} {K : PySem.W.Frag} {mg : Str → Option Value} {base : Heap}
abbrev nLNew : List Str := ["_law_told", "_law_expected", "_law_name"]
def spLNew : Sp := fun vs H Q _ => ∃ (t e : Addr) (T E : List Ent), vs = [.ref t, .ref e] ∧ Bu H t T ∧ (T.map (·.2.1)).Nodup ∧ Bu H e E ∧ SameB T E ∧ (∀ x ∈ E, x.2.1 ∉ T.map (·.2.1)) ∧ t ≠ e ∧ (∀ x ∈ E, x.2.2.length ≤ 100) ∧
  ∀ H', KeepL (T.map (·.2.1)) H H' → Q (.bl true) H'
end
section
variable {P : Program} {w : World} {K : PySem.W.Frag} {mg : Str → Option Value} {base : Heap}
abbrev nSame : List Str := ["_law_actual", "_law_expected", "_law_found", "_law_name"]
def spSame : Sp := fun vs H Q _ => ∃ (a e : Addr) (M E : List Ent), vs = [.ref a, .ref e] ∧ Bu H a M ∧ Bu H e E ∧ SameB M E ∧ (∀ g ∈ M, Srt g.2.2 ∧ g.2.2.length ≤ 1000) ∧ ∀ H', Same H H' → Q (.bl true) H'
end
theorem cutV_to (xs : List V) (j : Nat) : cutV xs none (some (j : Int)) = xs.take j := by
  unfold cutV
  rw [HT.sIx_none, HT.sIx_nat, List.drop_zero, Nat.sub_zero]
  by_cases h : j ≤ xs.length
  · rw [Nat.min_eq_left h]
  · rw [Nat.min_eq_right (by omega), List.take_of_length_le (Nat.le_refl _), List.take_of_length_le (by omega)]
theorem cutV_from (xs : List V) (j : Nat) : cutV xs (some (j : Int)) none = xs.drop j := by
  unfold cutV
  rw [HT.sIx_none, HT.sIx_nat]
  by_cases h : j ≤ xs.length
  · rw [Nat.min_eq_left h, List.take_of_length_le (by rw [List.length_drop]; exact Nat.le_refl _)]
  · rw [Nat.min_eq_right (by omega), List.drop_length, List.drop_of_length_le (by omega)]
    simp
theorem Nb.keep {H0 H H' : Hp} {p d : Addr} {M : List Ent} (N : Nb H0 H d M) (hp : H0 p ≠ none) (k : Keep p H H') : Nb H0 H' d M := by
  have pd : d ≠ p := fun z => hp (z ▸ N.fresh)
  have away : ∀ g ∈ M, g.2.1 ≠ p := fun g hg z => hp (z ▸ N.freshS g hg)
  exact ⟨⟨⟨.inl (k _ _ pd N.un), fun g hg => k _ _ (away g hg) (N.sides g hg), N.nd, N.few⟩, k _ _ pd N.un⟩, N.fresh, N.freshS, N.inj⟩
theorem Bu.keep {H H' : Hp} {p d : Addr} {M : List Ent} (N : Bu H d M) (s : Strm H p) (k : Keep p H H') (away : ∀ g ∈ M, g.2.1 ≠ p) : Bu H' d M := by
  have pd : d ≠ p := fun z => by
    obtain ⟨x, y, w, e⟩ := s
    have := N.un
    rw [z, e] at this
    cases this
  exact ⟨⟨.inl (k _ _ pd N.un), fun g hg => k _ _ (away g hg) (N.sides g hg), N.nd, N.few⟩, k _ _ pd N.un⟩
theorem with_rest2 {R : Hp → Prop} {G : Prop} (C : Hp → Prop) (r : ∀ H, C H → R H) (g : (∀ H, C H → R H) → G) : G := g r
section
variable {P : Program} {w : World} {K : PySem.W.Frag} {mg : Str → Option Value} {base : Heap}
end
theorem with_rest {R G : Prop} (r : R) (g : R → G) : G := g r
theorem Bu.aput {H : Hp} {d l : Addr} {M : List Ent} {x : Str} {s : List Int} (B : Bu H d M) (el : H l = some (.lst (s.map V.int))) (few : M.length + 1 ≤ 40) : Bu (upd H d (.dK (entK (putE M x l s)))) d (putE M x l s) := by
  have ld : ∀ {c : Addr} {ys : List V}, H c = some (.lst ys) → c ≠ d := fun h z => by rw [z, B.un] at h; cases h
  refine ⟨⟨.inl upd_same, fun e he => ?_, putE_nd B.nd, by have := putE_len M x l s; omega⟩, upd_same⟩
  rcases putE_mem he with z | ⟨z, _⟩
  · rw [z, upd_ne (ld el)]
    exact el
  · have h1 := B.sides e z
    rw [upd_ne (ld h1)]
    exact h1
section
variable {P : Program} {w : World} {K : PySem.W.Frag} {mg : Str → Option Value} {base : Heap}
end
theorem small10k {n : Nat} (h : n ≤ 10000) : n < sizeLine := Nat.lt_of_le_of_lt h (by decide)
section
variable {P : Program} {w : World} {K : PySem.W.Frag} {mg : Str → Option Value} {base : Heap}
end
/-! ### equal boxes, deep -/
theorem paired_flat {K : PySem.W.Frag} {H : Hp} {n : Nat} : ∀ xs : List V, (∀ x ∈ xs, flatB x = true) → Paired (EqV K H (n + 1)) xs xs
  | [], _ => .nil
  | x :: xs, h => .cons (.inl ⟨rfl, h x List.mem_cons_self⟩) (paired_flat xs fun y hy => h y (List.mem_cons_of_mem _ hy))
theorem eqL {K : PySem.W.Frag} {H : Hp} {a b : Addr} {ns : List Int} (ha : H a = some (.lst (ns.map V.int))) (hb : H b = some (.lst (ns.map V.int))) : EqV K H 2 (.ref a) (.ref b) :=
  .inr (.inr (.inl ⟨a, b, _, _, rfl, rfl, sl_map ha, sl_map hb, paired_flat _ fun x hx => by obtain ⟨k, _, rfl⟩ := List.mem_map.mp hx; rfl⟩))
theorem eqB {K : PySem.W.Frag} {H : Hp} {d e : Addr} {M X : List Ent} (bd : Bu H d M) (be : Bu H e X) (s : SameB M X) : EqR K H (EqV K H 2) (.ref d) (.ref e) := by
  refine .inr ⟨d, e, _, _, rfl, rfl, bd.un, be.un, by rw [entK_len, entK_len]; exact s.len bd.nd be.nd, fun p hp => ?_⟩
  unfold entK at hp
  obtain ⟨g, hg, rfl⟩ := List.mem_map.mp hp
  have s' : SameB X M := fun x => (s x).symm
  obtain ⟨t, tm, t1, t2, t3⟩ := s'.get bd.nd hg
  refine ⟨.ref t.2.1, ?_, ?_⟩
  · show valV (entK X) (Sum.inr g.1) = _
    rw [valV_ent, t3]
    rfl
  · have h1 := be.sides t tm
    rw [t2] at h1
    exact eqL (bd.sides g hg) h1
theorem shape_same {L M : List Ent} (h : shape L = shape M) : SameB L M := look_shape h
theorem Sz.look {L : List Ent} {n : Nat} (z : Sz L n) {x : Str} {s : List Int} (h : look L x = some s) : Srt s ∧ s.length ≤ n := by
  obtain ⟨e, em, _, rfl⟩ := look_of h
  exact ⟨z.srt e em, z.len e em⟩
theorem sides_ok {M : List Ent} {n : Nat} (nd : (M.map (·.1)).Nodup) (f : Str → Option (List Int)) (h : ∀ x, look M x = f x) (ok : ∀ x s, f x = some s → Srt s ∧ s.length ≤ n) : Sz M n :=
  ⟨fun e he => (ok e.1 _ ((h e.1).symm.trans (look_mem nd he))).1, fun e he => (ok e.1 _ ((h e.1).symm.trans (look_mem nd he))).2⟩
theorem Sz.shape {L M : List Ent} {n : Nat} (z : Sz L n) (h : shape M = shape L) : Sz M n := by
  have q : ∀ e ∈ M, ∃ g ∈ L, g.2.2 = e.2.2 := fun e he => by
    have : (e.1, e.2.2) ∈ K16.shape L := h ▸ List.mem_map_of_mem (f := fun e : Ent => (e.1, e.2.2)) he
    obtain ⟨g, hg, eq⟩ := List.mem_map.mp this
    exact ⟨g, hg, (Prod.mk.inj eq).2⟩
  refine ⟨fun e he => ?_, fun e he => ?_⟩
  · obtain ⟨g, hg, eq⟩ := q e he
    exact eq ▸ z.srt g hg
  · obtain ⟨g, hg, eq⟩ := q e he
    exact eq ▸ z.len g hg
/-- what a change of fresh sides leaves -/
theorem keepL_same {H0 H1 H2 : Hp} {as : List Addr} (s : Same H0 H1) (k : KeepL as H1 H2) (f : ∀ a ∈ as, H0 a = none) : Same H0 H2 := fun b o e => k b o (fun z => by rw [f b z] at e; cases e) (s _ _ e)
theorem Bu.keepL {H H' : Hp} {d : Addr} {M : List Ent} {as : List Addr} (B : Bu H d M) (k : KeepL as H H') (h1 : d ∉ as) (h2 : ∀ e ∈ M, e.2.1 ∉ as) : Bu H' d M :=
  ⟨⟨.inl (k _ _ h1 B.un), fun e he => k _ _ (h2 e he) (B.sides e he), B.nd, B.few⟩, k _ _ h1 B.un⟩
theorem not_side {H : Hp} {d : Addr} {as : List Addr} (n : H d = none) (sd : ∀ a ∈ as, H a ≠ none) : d ∉ as := fun z => sd d z n
theorem side_some {H : Hp} {M : List Ent} (sd : ∀ e ∈ M, H e.2.1 = some (.lst (e.2.2.map V.int))) : ∀ a ∈ M.map (·.2.1), H a ≠ none := fun a ha z => by
  obtain ⟨e, he, rfl⟩ := List.mem_map.mp ha
  have := sd e he
  rw [z] at this
  cases this
section
variable {P : Program} {w : World} {K : PySem.W.Frag} {mg : Str → Option Value} {base : Heap}
end
/-! ### what the meet and the join hold -/
theorem Sz.mono {L : List Ent} {n m : Nat} (z : Sz L n) (h : n ≤ m) : Sz L m := ⟨z.srt, fun e he => Nat.le_trans (z.len e he) h⟩
theorem sq_keep {K : PySem.W.Frag} {H H' : Hp} {a p : Addr} {xs : List V} (h : SqL K H a xs) (np : H p = none) (k : Keep p H H') : SqL K H' a xs := by
  have ap : ∀ o, H a = some o → a ≠ p := fun o e z => by rw [z, np] at e; cases e
  rcases h with (h | ⟨o, h⟩) | h
  · exact .inl (.inl (k _ _ (ap _ h) h))
  · exact .inl (.inr ⟨o, k _ _ (ap _ h) h⟩)
  · exact .inr h
/-! ### domains: a list of pairs of a name and a side -/
abbrev DomE := Addr × Ent
structure Doms (H : Hp) (l : Addr) (ds : List DomE) : Prop where
  lst : H l = some (.lst (ds.map fun d => V.ref d.1))
  tup : ∀ d ∈ ds, H d.1 = some (.tup [V.str d.2.1, V.ref d.2.2.1])
  side : ∀ d ∈ ds, H d.2.2.1 = some (.lst (d.2.2.2.map V.int))
theorem Doms.same {H H' : Hp} {l : Addr} {ds : List DomE} (D : Doms H l ds) (s : Same H H') : Doms H' l ds := ⟨s _ _ D.lst, fun d h => s _ _ (D.tup d h), fun d h => s _ _ (D.side d h)⟩
theorem Srt.sub {a b : List Int} (s : Srt b) (h : a.Sublist b) : Srt a := List.Pairwise.sublist h s
theorem Doms.keep {H H' : Hp} {p l : Addr} {ds : List DomE} (D : Doms H l ds) (k : Keep p H H') (hl : l ≠ p) (h : ∀ d ∈ ds, d.1 ≠ p ∧ d.2.2.1 ≠ p) : Doms H' l ds :=
  ⟨k _ _ hl D.lst, fun d hd => k _ _ (h d hd).1 (D.tup d hd), fun d hd => k _ _ (h d hd).2 (D.side d hd)⟩
theorem refs_ints {ds : List DomE} {ns : List Int} (h : (ds.map fun d => V.ref d.1) = ns.map V.int) : ds = [] := by
  cases ds with
  | nil => rfl
  | cons d ds =>
    cases ns with
    | nil => cases h
    | cons n ns =>
      rw [List.map_cons, List.map_cons] at h
      cases (List.cons.inj h).1
/-- a pair more -/
theorem Doms.snoc {H : Hp} {l T Z : Addr} {ds : List DomE} {x : Str} {zs : List Int} (D : Doms H l ds) (hT : H T = some (.tup [V.str x, V.ref Z])) (hZ : H Z = some (.lst (zs.map V.int))) (nZ : Z ≠ l) :
    Doms (upd H l (.lst ((ds.map fun d => V.ref d.1) ++ [V.ref T]))) l (ds ++ [(T, x, Z, zs)]) := by
  have tl : ∀ {c : Addr} {vs : List V}, H c = some (.tup vs) → c ≠ l := fun h z => by rw [z, D.lst] at h; cases h
  refine ⟨by rw [upd_same, List.map_append]; rfl, fun d hd => ?_, fun d hd => ?_⟩
  · rcases List.mem_append.mp hd with h | h
    · rw [upd_ne (tl (D.tup d h))]
      exact D.tup d h
    · rw [List.mem_singleton.mp h, upd_ne (tl hT)]
      exact hT
  · rcases List.mem_append.mp hd with h | h
    · have q := D.side d h
      have : d.2.2.1 ≠ l := fun z => by
        rw [z, D.lst] at q
        have e := refs_ints (HO.lst.inj (Option.some.inj q))
        rw [e] at h
        cases h
      rw [upd_ne this]
      exact q
    · rw [List.mem_singleton.mp h, upd_ne nZ]
      exact hZ
theorem with_restA {α : Type} {R : α → Hp → Prop} {G : Prop} (C : α → Hp → Prop) (r : ∀ a H, C a H → R a H) (g : (∀ a H, C a H → R a H) → G) : G := g r
section
variable {P : Program} {w : World} {K : PySem.W.Frag} {mg : Str → Option Value} {base : Heap}
abbrev nDoms : List Str := ["_law_stream_here", "_law_names_here", "_law_pool_here", "_law_most", "_law_domains_here", "_law_name", "_law_side", "_law_value"]
def spDoms : Sp := fun vs H Q _ => ∃ (p nm pl : Addr) (xs : List Str) (ns : List Int) (m : Nat), vs = [.ref p, .ref nm, .ref pl, .int (m : Int)] ∧ Strm H p ∧ H nm = some (.lst (xs.map V.str)) ∧ H pl = some (.lst (ns.map V.int)) ∧ p ≠ nm ∧ p ≠ pl ∧ Srt ns ∧ 1 ≤ ns.length ∧ ns.length ≤ 100 ∧ xs.length ≤ 100 ∧
  ∀ (H' : Hp) (l : Addr) (ds : List DomE), Keep p H H' → H l = none → Strm H' p → Doms H' l ds → ds.map (·.2.1) = xs → (∀ d ∈ ds, Srt d.2.2.2 ∧ d.2.2.2.length ≤ max m 1 ∧ H d.1 = none ∧ H d.2.2.1 = none ∧ ∀ v ∈ d.2.2.2, v ∈ ns) → (ds.map (·.2.2.1)).Nodup → Q (.ref l) H'
end
end K16

set_option Elab.async false
set_option linter.all false
set_option maxRecDepth 100000
set_option maxHeartbeats 4000000
namespace K16
open PySem PySem.Spec PyProof.Rows L2 Cs CsX
/-! ### facts of the heap, for grind; small helpers -/
@[grind =] theorem g_upd (H : Hp) (a b : Addr) (o : HO) : upd H a o b = if b = a then some o else H b := rfl
@[grind =] theorem g_same (H H' : Hp) : Same H H' ↔ (∀ a o, H a = some o → H' a = some o) ∧ ∀ a, H' a = none → H a = none := ⟨fun s => ⟨s, fun a h => s.free h⟩, fun h => h.1⟩
@[grind =] theorem g_keep (p : Addr) (H H' : Hp) : Keep p H H' ↔ (∀ a o, a ≠ p → H a = some o → H' a = some o) ∧ ∀ a, a ≠ p → H' a = none → H a = none := ⟨fun s => ⟨s, fun a hp h => by
  cases c : H a with
  | none => rfl
  | some o => rw [s a o hp c] at h; cases h⟩, fun h => h.1⟩
@[grind =] theorem g_oth (p : Addr) (H H' : Hp) : Oth p H H' ↔ ∀ a, a ≠ p → H' a = H a := Iff.rfl
@[grind =] theorem g_strm (H : Hp) (p : Addr) : Strm H p ↔ ∃ x y z : Int, H p = some (.lst [.int x, .int y, .int z]) := Iff.rfl
theorem g_new {H : Hp} {q : Addr} {o : HO} (n : H q = none) : Same H (upd H q o) := same_new n
grind_pattern g_new => upd H q o
@[grind =] theorem g_keepL (as : List Addr) (H H' : Hp) : KeepL as H H' ↔ ∀ b o, b ∉ as → H b = some o → H' b = some o := Iff.rfl
theorem ite_both {A B : Prop} {c : Bool} (h1 : c = true → A) (h2 : c = false → B) : if c = true then A else B := by
  cases c with
  | true => rw [if_pos rfl]; exact h1 rfl
  | false => rw [if_neg (by decide)]; exact h2 rfl
theorem at_int {xs : List V} {i : Int} {v : V} (h0 : 0 ≤ i) (h : xs[i.toNat]? = some v) : atI xs i = some v := by
  have := atI_nat h
  rw [show ((i.toNat : Nat) : Int) = i by omega] at this
  exact this
theorem at_eq {xs : List V} {i : Int} {j : Nat} {v : V} (h : i = (j : Int)) (hx : xs[j]? = some v) : atI xs i = some v := by
  rw [h]; exact atI_nat hx
theorem at_in {ns : List Int} {d : Int} (h0 : 0 ≤ d) (h1 : d < (ns.length : Nat)) : ∃ v ∈ ns, atI (ns.map V.int) d = some (.int v) := by
  have h : d.toNat < ns.length := by omega
  exact ⟨ns[d.toNat], List.getElem_mem h, at_int h0 (by rw [List.getElem?_map, List.getElem?_eq_getElem h] <;> rfl)⟩
theorem at_inS {ns : List Str} {d : Int} (h0 : 0 ≤ d) (h1 : d < (ns.length : Nat)) : ∃ v ∈ ns, atI (ns.map V.str) d = some (.str v) := by
  have h : d.toNat < ns.length := by omega
  exact ⟨ns[d.toNat], List.getElem_mem h, at_int h0 (by rw [List.getElem?_map, List.getElem?_eq_getElem h] <;> rfl)⟩
theorem ixN_nat {n j : Nat} (h : j < n) : ixN n (j : Int) = some j := by
  unfold ixN
  rw [if_pos (by omega), if_pos (by omega)]; simp
theorem with_restS {R : L2.St → Hp → Prop} {G : Prop} (C : L2.St → Hp → Prop) (r : ∀ σ H, C σ H → R σ H) (g : (∀ σ H, C σ H → R σ H) → G) : G := g r
theorem nd_ix {α : Type} {l : List α} (nd : l.Nodup) {i j : Nat} {x : α} (hi : l[i]? = some x) (hj : l[j]? = some x) : i = j :=
  (List.getElem?_inj (List.getElem?_eq_some_iff.mp hi).1 nd).mp (hi.trans hj.symm)
theorem not_take {α : Type} {l : List α} (nd : l.Nodup) {i : Nat} {x : α} (hi : l[i]? = some x) : x ∉ l.take i := fun z => by
  obtain ⟨j, hj⟩ := List.mem_iff_getElem?.mp z
  rw [List.getElem?_take] at hj
  split at hj
  · next c => exact absurd (nd_ix nd hj hi) (by omega)
  · cases hj
theorem srt_nd {l : List Int} (s : Srt l) : l.Nodup := List.Pairwise.imp (fun h z => by rw [z] at h; exact absurd h (Int.lt_irrefl _)) s
theorem filter_snoc {α : Type} {s : List α} {j : Nat} {v : α} {p : α → Bool} (h : s[j]? = some v) : (s.take (j + 1)).filter p = (s.take j).filter p ++ (if p v = true then [v] else []) := by
  rw [List.take_add_one, h, List.filter_append]
  congr 1
  show List.filter p [v] = _
  rw [List.filter_cons] <;> rfl
theorem filter_len {α : Type} (s : List α) (p : α → Bool) (j : Nat) : ((s.take j).filter p).length ≤ s.length := by
  have h1 := List.length_filter_le p (s.take j)
  rw [List.length_take] at h1
  omega
theorem take_snoc {α : Type} {s : List α} {j : Nat} {v : α} (h : s[j]? = some v) : s.take (j + 1) = s.take j ++ [v] := by
  rw [List.take_add_one, h] <;> rfl
theorem pe_or {X : Cx} {e : Expr} {t u : TE} (a : PE X e t) (b : PE X e u) : PE X e (fun σ H Q => t σ H Q ∨ u σ H Q) :=
  ⟨fun pins s σ H Q I h => h.elim (fun h => a.run pins s σ H Q I h) fun h => b.run pins s σ H Q I h⟩
theorem paired_same {K : PySem.W.Frag} {H : Hp} {n : Nat} : ∀ as : List Addr, Paired (EqV K H (n + 1)) (as.map V.ref) (as.map V.ref)
  | [] => .nil
  | a :: as => .cons (.inr (.inl ⟨a, rfl, rfl⟩)) (paired_same as)
theorem in_strs (ks : List Str) (v : Str) : inV (.str v) (ks.map V.str) = decide (v ∈ ks) := by
  unfold inV
  induction ks with
  | nil => simp
  | cons k ks ih =>
    rw [List.map_cons, List.any_cons, ih]
    have e : eqV (.str k) (.str v) = decide (k = v) := by
      by_cases c : k = v
      · subst c; simp [eqV]
      · simp [eqV, c]
    rw [e]
    by_cases c : k = v
    · subst c; simp
    · have : ¬ v = k := fun z => c z.symm
      simp [c, this]
theorem flats_str (xs : List Str) : (xs.map V.str).all flatV = true := by
  rw [List.all_eq_true]
  intro v hv
  obtain ⟨x, _, rfl⟩ := List.mem_map.mp hv
  rfl
/-! ### dicts of values -/
def putA (A : List (Str × Int)) (x : Str) (v : Int) : List (Str × Int) := if (A.any fun e => decide (e.1 = x)) = true then A.map (fun e => if e.1 = x then (x, v) else e) else A ++ [(x, v)]
theorem any_int (A : List (Str × Int)) (x : Str) : ((intK A).any fun kv => decide (kv.1 = Sum.inr x)) = A.any fun e => decide (e.1 = x) := by
  unfold intK
  rw [List.any_map]
  congr 1
  funext e
  simp
theorem putK_int (A : List (Str × Int)) (x : Str) (v : Int) : putK (intK A) (.inr x) (V.int v) = intK (putA A x v) := by
  unfold putK putA
  rw [any_int]
  by_cases h : (A.any fun e => decide (e.1 = x)) = true
  · rw [if_pos h, if_pos h]
    unfold intK
    rw [List.map_map, List.map_map]
    congr 1
    funext e
    by_cases z : e.1 = x
    · simp [z]
    · simp [z]
  · rw [if_neg h, if_neg h]
    unfold intK
    rw [List.map_append]
    rfl
theorem anyA {A : List (Str × Int)} {x : Str} : (A.any fun e => decide (e.1 = x)) = true ↔ x ∈ A.map (·.1) := by
  rw [List.any_eq_true, List.mem_map]
  constructor
  · rintro ⟨e, he, h⟩; exact ⟨e, he, of_decide_eq_true h⟩
  · rintro ⟨e, he, h⟩; exact ⟨e, he, decide_eq_true h⟩
theorem putA_new {A : List (Str × Int)} {x : Str} {v : Int} (h : x ∉ A.map (·.1)) : putA A x v = A ++ [(x, v)] := if_neg fun z => h (anyA.mp z)
theorem putA_keys {A : List (Str × Int)} {x : Str} {v : Int} (h : x ∈ A.map (·.1)) : (putA A x v).map (·.1) = A.map (·.1) := by
  unfold putA
  rw [if_pos (anyA.mpr h), List.map_map]
  refine List.map_congr_left fun e _ => ?_
  show (if e.1 = x then (x, v) else e).1 = e.1
  split
  · next z => exact z.symm
  · rfl
theorem aget_cons (e : Str × Int) (A : List (Str × Int)) (y : Str) : aget (e :: A) y = if e.1 = y then some e.2 else aget A y := by
  unfold aget
  rw [List.find?_cons]
  by_cases h : e.1 = y
  · simp [h]
  · simp [h]
theorem aget_app {A : List (Str × Int)} {x : Str} {v : Int} (h : x ∉ A.map (·.1)) (y : Str) : aget (A ++ [(x, v)]) y = if x = y then some v else aget A y := by
  induction A with
  | nil => rw [List.nil_append, aget_cons] <;> rfl
  | cons e A ih =>
    rw [List.cons_append, aget_cons, aget_cons, ih fun z => h (List.mem_cons_of_mem _ z)]
    by_cases c : e.1 = y
    · rw [if_pos c, if_pos c]
      by_cases d : x = y
      · exact absurd (by rw [d, ← c]; exact List.mem_cons_self) h
      · rw [if_neg d]
    · rw [if_neg c, if_neg c]
theorem aget_rep (x : Str) (v : Int) (y : Str) : ∀ A : List (Str × Int), aget (A.map fun e => if e.1 = x then (x, v) else e) y = if x = y then (if x ∈ A.map (·.1) then some v else none) else aget A y
  | [] => by split <;> rfl
  | e :: A => by
    rw [List.map_cons, aget_cons, aget_cons, aget_rep x v y A]
    by_cases c : e.1 = x
    · rw [if_pos c]
      by_cases d : x = y
      · rw [if_pos d, if_pos d, if_pos (by rw [List.map_cons, c]; exact List.mem_cons_self)]
      · have h1 : ¬ e.1 = y := fun z => d (c.symm.trans z)
        simp [d, h1]
    · rw [if_neg c]
      by_cases d : x = y
      · have h1 : ¬ e.1 = y := fun z => c (z.trans d.symm)
        rw [if_neg h1, if_pos d, if_pos d]
        have : x ∈ (e :: A).map (·.1) ↔ x ∈ A.map (·.1) := by
          rw [List.map_cons, List.mem_cons]
          exact ⟨fun h => h.elim (fun z => absurd z.symm c) id, .inr⟩
        by_cases m : x ∈ A.map (·.1)
        · rw [if_pos m, if_pos (this.mpr m)]
        · rw [if_neg m, if_neg fun z => m (this.mp z)]
      · rw [if_neg d, if_neg d]
theorem aget_put {A : List (Str × Int)} {x : Str} {v : Int} (y : Str) : aget (putA A x v) y = if x = y then some v else aget A y := by
  by_cases h : x ∈ A.map (·.1)
  · unfold putA
    rw [if_pos (anyA.mpr h), aget_rep, if_pos h]
  · rw [putA_new h, aget_app h]
theorem aget_mem {A : List (Str × Int)} {x : Str} : (aget A x).isSome = true ↔ x ∈ A.map (·.1) := by
  induction A with
  | nil => simp [aget]
  | cons e A ih =>
    rw [aget_cons, List.map_cons, List.mem_cons, ← ih]
    by_cases c : e.1 = x
    · rw [if_pos c]; simp [c]
    · rw [if_neg c]; simp [Ne.symm c]
/-- a dict of values -/
structure Vd (H : Hp) (d : Addr) (A : List (Str × Int)) : Prop where
  un : H d = some (.dK (intK A))
  nd : (A.map (·.1)).Nodup
  few : A.length ≤ 40
theorem Vd.same {H H' : Hp} {d : Addr} {A : List (Str × Int)} (B : Vd H d A) (s : Same H H') : Vd H' d A := ⟨s _ _ B.un, B.nd, B.few⟩
theorem Vd.ax {H : Hp} {d : Addr} {A : List (Str × Int)} (B : Vd H d A) : Ax H d A := ⟨.inl B.un⟩
theorem intK_len (A : List (Str × Int)) : (intK A).length = A.length := by unfold intK; rw [List.length_map]
theorem aget_iff {A : List (Str × Int)} (nd : (A.map (·.1)).Nodup) (x : Str) (v : Int) : aget A x = some v ↔ (x, v) ∈ A := by
  induction A with
  | nil => simp [aget]
  | cons e A ih =>
    obtain ⟨n1, n2⟩ := List.nodup_cons.mp nd
    rw [aget_cons, List.mem_cons]
    by_cases c : e.1 = x
    · rw [if_pos c]
      constructor
      · intro h
        left
        have := Option.some.inj h
        rw [← c, ← this]
      · rintro (h | h)
        · rw [← h]
        · rw [← c] at h
          exact absurd (List.mem_map_of_mem (f := fun e : Str × Int => e.1) h) n1
    · rw [if_neg c, ih n2]
      constructor
      · exact .inr
      · rintro (h | h)
        · exact absurd (congrArg Prod.fst h).symm c
        · exact h
def SameA (L M : List (Str × Int)) : Prop := ∀ x, aget L x = aget M x
theorem SameA.keys {L M : List (Str × Int)} (s : SameA L M) {x : Str} (h : x ∈ L.map (·.1)) : x ∈ M.map (·.1) := by
  rw [← aget_mem] at h ⊢
  rw [← s x]
  exact h
theorem SameA.len {L M : List (Str × Int)} (s : SameA L M) (n1 : (L.map (·.1)).Nodup) (n2 : (M.map (·.1)).Nodup) : L.length = M.length := by
  have h1 := List.Nodup.length_le_of_subset n1 fun x hx => s.keys hx
  have h2 := List.Nodup.length_le_of_subset n2 fun x hx => SameA.keys (fun y => (s y).symm) hx
  rw [List.length_map, List.length_map] at h1 h2
  omega
theorem keysI {L : List (Str × Int)} {i : Nat} {k : Key} {v : V} (h : (intK L)[i]? = some (k, v)) : ∃ e, L[i]? = some e ∧ k = .inr e.1 ∧ v = .int e.2 := by
  unfold intK at h
  rw [List.getElem?_map] at h
  obtain ⟨e, he, q⟩ := Option.map_eq_some_iff.mp h
  exact ⟨e, he, (Prod.mk.inj q).1.symm, (Prod.mk.inj q).2.symm⟩
theorem all_repl (n : Nat) : (List.replicate n true).all id = true := by simp

theorem putA_mem {A : List (Str × Int)} {x y : Str} {v : Int} : y ∈ (putA A x v).map (·.1) ↔ y = x ∨ y ∈ A.map (·.1) := by
  rw [← aget_mem, aget_put, ← aget_mem]
  by_cases c : x = y
  · rw [if_pos c]; simp [c]
  · rw [if_neg c]; simp [Ne.symm c]
theorem putA_nd {A : List (Str × Int)} {x : Str} {v : Int} (nd : (A.map (·.1)).Nodup) : ((putA A x v).map (·.1)).Nodup := by
  by_cases h : x ∈ A.map (·.1)
  · rw [putA_keys h]; exact nd
  · rw [putA_new h, List.map_append]
    exact nd_snoc nd h
theorem putA_len (A : List (Str × Int)) (x : Str) (v : Int) : (putA A x v).length ≤ A.length + 1 := by
  unfold putA
  split
  · rw [List.length_map]; omega
  · rw [List.length_append] <;> exact Nat.le_refl _
end K16

set_option Elab.async false
set_option linter.all false
set_option maxRecDepth 100000
set_option maxHeartbeats 4000000
namespace K16
open PySem PySem.Spec PyProof.Rows L2 Cs CsX
/-! ### History -/
abbrev sHIni : Stmt := inClass (topS 28) 0
abbrev sHSta : Stmt := inClass (topS 28) 1
abbrev sHSte : Stmt := inClass (topS 28) 2
abbrev sHUnd : Stmt := inClass (topS 28) 3
abbrev sHPus : Stmt := inClass (topS 28) 4
abbrev sHUdo : Stmt := inClass (topS 28) 5
abbrev sHRdo : Stmt := inClass (topS 28) 6
abbrev sHBak : Stmt := inClass (topS 28) 7
abbrev hF : List Str := ["_past", "_present", "_future"]
/-- the attributes, as __init__ stores them -/
def flds (pa : Addr) (v : V) (fu : Addr) : List (Str × V) := [("_past", V.ref pa), ("_present", v), ("_future", V.ref fu)]
theorem n12 : ¬ (("_past" : Str) = "_present") := by decide +kernel
theorem n13 : ¬ (("_past" : Str) = "_future") := by decide +kernel
theorem n23 : ¬ (("_present" : Str) = "_future") := by decide +kernel
theorem look1 (pa : Addr) (v : V) (fu : Addr) : (flds pa v fu).lookup ("_past" : Str) = some (.ref pa) := by
  unfold flds
  simp [List.lookup]
theorem look2 (pa : Addr) (v : V) (fu : Addr) : (flds pa v fu).lookup ("_present" : Str) = some v := by
  unfold flds
  have : (("_present" : Str) == "_past") = false := beq_eq_false_iff_ne.mpr fun z => n12 z.symm
  simp only [List.lookup, this, beq_self_eq_true]
theorem look3 (pa : Addr) (v : V) (fu : Addr) : (flds pa v fu).lookup ("_future" : Str) = some (.ref fu) := by
  unfold flds
  have h1 : (("_future" : Str) == "_past") = false := beq_eq_false_iff_ne.mpr fun z => n13 z.symm
  have h2 : (("_future" : Str) == "_present") = false := beq_eq_false_iff_ne.mpr fun z => n23 z.symm
  simp only [List.lookup, h1, h2, beq_self_eq_true]
theorem put2 (pa : Addr) (v u : V) (fu : Addr) : putF "_present" u (flds pa v fu) = flds pa u fu := by
  show (if ("_past" : Str) = "_present" then _ else (("_past" : Str), V.ref pa) :: (if ("_present" : Str) = "_present" then _ else _)) = _
  rw [if_neg n12, if_pos rfl] <;> rfl
theorem put3 (pa : Addr) (v : V) (fu gu : Addr) : putF "_future" (.ref gu) (flds pa v fu) = flds pa v gu := by
  show (if ("_past" : Str) = "_future" then _ else (("_past" : Str), V.ref pa) :: (if ("_present" : Str) = "_future" then _ else (("_present" : Str), v) :: (if ("_future" : Str) = "_future" then _ else _))) = _
  rw [if_neg n13, if_neg n23, if_pos rfl] <;> rfl
theorem put0 (pa : Addr) (v : V) (fu : Addr) : putF "_future" (.ref fu) (putF "_present" v (putF "_past" (.ref pa) [])) = flds pa v fu := by
  show putF "_future" (.ref fu) (if ("_past" : Str) = "_present" then _ else (("_past" : Str), V.ref pa) :: [("_present", v)]) = _
  rw [if_neg n12]
  show (if ("_past" : Str) = "_future" then _ else (("_past" : Str), V.ref pa) :: (if ("_present" : Str) = "_future" then _ else (("_present" : Str), v) :: [("_future", V.ref fu)])) = _
  rw [if_neg n13, if_neg n23] <;> rfl
/-- a History stands at p -/
structure Hist (C : Addr) (H : Hp) (p : Addr) (xs : List V) (v : V) (ys : List V) : Prop where
  ob : ∃ dx pa fu, H p = some (.ins C dx (flds pa v fu)) ∧ H pa = some (.lst xs) ∧ H fu = some (.lst ys) ∧ pa ≠ fu
section
variable {P : Program} {w : World} {K : PySem.W.Frag} {mg : Str → Option Value} {base : Heap}
theorem scHIni : FnScope ["self", "start"] ["self", "start"] (defScope sHIni) := ⟨rfl, rfl, rfl, by decide +kernel, rfl, by decide +kernel, by decide +kernel⟩
def spHIni (C : Addr) : Sp := fun vs H Q _ => ∃ (p dx : Addr) (v : V), vs = [.ref p, v] ∧ H p = some (.ins C dx []) ∧ ∀ (H' : Hp) (pa fu : Addr), H' p = some (.ins C dx (flds pa v fu)) → H' pa = some (.lst []) → H' fu = some (.lst []) → pa ≠ fu → H pa = none → H fu = none → (∀ b o, b ≠ p → H b = some o → H' b = some o) → (∀ b, H' b = none → H b = none) → Q .non H'
theorem ok_HIni {f C : Addr} {fd : FuncData} (F : Fun K "__init__" "History.__init__" sHIni f fd) (T : Kls K mg "History" C hF) : FnOk P w K mg base CX0 1 f fd ["self", "start"] (spHIni C) := by
  refine F.ok scHIni (fun vs H Q E h => ?_) (fun cdv A outer s H vs Q E hr h => ?_)
  · obtain ⟨p, dx, v, rfl, _⟩ := h
    rfl
  · obtain ⟨p, dx, v, rfl, hp, k⟩ := h
    refine ⟨_, pss_cons (ps_fld (pv 0) (pe_lst pa_nil) rfl) (pss_cons (ps_fld (pv 0) (pv 1) rfl) (pss_one (ps_fld (pv 0) (pe_lst pa_nil) rfl))), ?_⟩
    refine ⟨by show 0 ≤ sizeLine; decide, fun pa npa => ?_⟩
    have e1 : p ≠ pa := fun z => by rw [z, npa] at hp; cases hp
    refine ⟨_, rfl, p, C, dx, [], rfl, by rw [upd_ne e1]; exact hp, T.cl, T.no _ (by simp), by show 0 < 1000; decide, ?_⟩
    refine ⟨_, rfl, _, rfl, p, C, dx, _, rfl, upd_same, T.cl, T.no _ (by simp), by show 1 < 1000; decide, ?_⟩
    refine ⟨by show 0 ≤ sizeLine; decide, fun fu nfu => ?_⟩
    have e2 : p ≠ fu := fun z => by rw [z, upd_same] at nfu; cases nfu
    have e3 : pa ≠ fu := fun z => by rw [← z, upd_ne e1.symm, upd_ne e1.symm, upd_same] at nfu; cases nfu
    refine ⟨_, rfl, p, C, dx, _, rfl, by rw [upd_ne e2, upd_same], T.cl, T.no _ (by simp), ?_, ?_⟩
    · show (putF "_present" v [("_past", V.ref pa)]).length < 1000
      show (if ("_past" : Str) = "_present" then _ else (("_past" : Str), V.ref pa) :: [("_present", v)]).length < 1000
      rw [if_neg n12]; show 2 < 1000; decide
    · refine k _ pa fu ?_ ?_ ?_ e3 npa ?_ (fun b o hb h => ?_) fun b h => ?_
      · rw [upd_same]
        exact congrArg (fun l => some (HO.ins C dx l)) (put0 pa v fu)
      · rw [upd_ne e1.symm, upd_ne e3, upd_ne e1.symm, upd_ne e1.symm, upd_same]
      · rw [upd_ne e2.symm, upd_same]
      · clear k; grind only [= g_upd]
      · grind only [= g_upd]
      · grind only [= g_upd]
theorem scHSta : FnScope ["self"] ["self"] (defScope sHSta) := ⟨rfl, rfl, rfl, by decide +kernel, rfl, by decide +kernel, by decide +kernel⟩
/-- a getter of a History: what it gives -/
def spGet (C : Addr) (g : List V → V → List V → V) : Sp := fun vs H Q _ => ∃ (p : Addr) (xs : List V) (v : V) (ys : List V), vs = [.ref p] ∧ Hist C H p xs v ys ∧ Q (g xs v ys) H
theorem ok_HSta {f C : Addr} {fd : FuncData} (F : Fun K "state" "History.state" sHSta f fd) (T : Kls K mg "History" C hF) : FnOk P w K mg base CX0 1 f fd ["self"] (spGet C fun _ v _ => v) := by
  refine F.ok scHSta (fun vs H Q E h => ?_) (fun cdv A outer s H vs Q E hr h => ?_)
  · obtain ⟨p, xs, v, ys, rfl, _⟩ := h
    rfl
  · obtain ⟨p, xs, v, ys, rfl, ⟨dx, pa, fu, h1, h2, h3, h4⟩, q⟩ := h
    refine ⟨_, pss_one (ps_ret (pe_fld (pv 0) rfl)), ?_⟩
    exact ⟨_, rfl, p, C, dx, _, _, rfl, h1, T.cl, T.no _ (by simp), look2 _ _ _, q⟩
theorem scHSte : FnScope ["self"] ["self"] (defScope sHSte) := ⟨rfl, rfl, rfl, by decide +kernel, rfl, by decide +kernel, by decide +kernel⟩
theorem ok_HSte {f C : Addr} {fd : FuncData} (F : Fun K "steps" "History.steps" sHSte f fd) (T : Kls K mg "History" C hF) (B : Bt mg) : FnOk P w K mg base CX0 1 f fd ["self"] (spGet C fun xs _ _ => .int (xs.length : Nat)) := by
  refine F.ok scHSte (fun vs H Q E h => ?_) (fun cdv A outer s H vs Q E hr h => ?_)
  · obtain ⟨p, xs, v, ys, rfl, _⟩ := h
    rfl
  · obtain ⟨p, xs, v, ys, rfl, ⟨dx, pa, fu, h1, h2, h3, h4⟩, q⟩ := h
    refine ⟨_, pss_one (ps_ret (pe_callB call_len_seq (by rfl) B.len PySem.boot_len (pa_cons (pe_fld (pv 0) rfl) pa_nil))), ?_⟩
    exact ⟨_, rfl, p, C, dx, _, _, rfl, h1, T.cl, T.no _ (by simp), look1 _ _ _, pa, _, rfl, .inl (sl_map h2), q⟩
theorem scHUnd : FnScope ["self"] ["self"] (defScope sHUnd) := ⟨rfl, rfl, rfl, by decide +kernel, rfl, by decide +kernel, by decide +kernel⟩
theorem ok_HUnd {f C : Addr} {fd : FuncData} (F : Fun K "undone" "History.undone" sHUnd f fd) (T : Kls K mg "History" C hF) (B : Bt mg) : FnOk P w K mg base CX0 1 f fd ["self"] (spGet C fun _ _ ys => .int (ys.length : Nat)) := by
  refine F.ok scHUnd (fun vs H Q E h => ?_) (fun cdv A outer s H vs Q E hr h => ?_)
  · obtain ⟨p, xs, v, ys, rfl, _⟩ := h
    rfl
  · obtain ⟨p, xs, v, ys, rfl, ⟨dx, pa, fu, h1, h2, h3, h4⟩, q⟩ := h
    refine ⟨_, pss_one (ps_ret (pe_callB call_len_seq (by rfl) B.len PySem.boot_len (pa_cons (pe_fld (pv 0) rfl) pa_nil))), ?_⟩
    exact ⟨_, rfl, p, C, dx, _, _, rfl, h1, T.cl, T.no _ (by simp), look3 _ _ _, fu, _, rfl, .inl (sl_map h3), q⟩
end
end K16

set_option Elab.async false
set_option linter.all false
set_option maxRecDepth 100000
set_option maxHeartbeats 4000000
namespace K16
open PySem PySem.Spec PyProof.Rows L2 Cs CsX
/-- what another def may rely on when a History at p has been worked upon: all but p and its two lists stays -/
structure HistF (C : Addr) (H : Hp) (p : Addr) (xs : List V) (v : V) (ys : List V) (dx pa fu : Addr) : Prop where
  ob : H p = some (.ins C dx (flds pa v fu))
  e1 : H pa = some (.lst xs)
  e2 : H fu = some (.lst ys)
  ne : pa ≠ fu
theorem HistF.off {C : Addr} {H : Hp} {p : Addr} {xs ys : List V} {v : V} {dx pa fu : Addr} (h : HistF C H p xs v ys dx pa fu) : p ≠ pa ∧ p ≠ fu := ⟨(fun z => by have := h.ob; rw [z, h.e1] at this; cases this), fun z => by have := h.ob; rw [z, h.e2] at this; cases this⟩
theorem HistF.same {C : Addr} {H H' : Hp} {p : Addr} {xs ys : List V} {v : V} {dx pa fu : Addr} (h : HistF C H p xs v ys dx pa fu) (s : Same H H') : HistF C H' p xs v ys dx pa fu := ⟨s _ _ h.ob, s _ _ h.e1, s _ _ h.e2, h.ne⟩
section
variable {P : Program} {w : World} {K : PySem.W.Frag} {mg : Str → Option Value} {base : Heap}
theorem scHPus : FnScope ["self", "state"] ["self", "state"] (defScope sHPus) := ⟨rfl, rfl, rfl, by decide +kernel, rfl, by decide +kernel, by decide +kernel⟩
def spHPus (C : Addr) : Sp := fun vs H Q _ => ∃ (p : Addr) (u : V) (xs : List V) (v : V) (ys : List V) (dx pa fu : Addr), vs = [.ref p, u] ∧ HistF C H p xs v ys dx pa fu ∧ xs.length < 100000 ∧
  ∀ (H' : Hp) (gu : Addr), HistF C H' p (xs ++ [v]) u [] dx pa gu → H gu = none → (∀ b o, b ≠ p → b ≠ pa → H b = some o → H' b = some o) → (∀ b, H' b = none → H b = none) → Q .non H'
theorem ok_HPus {f C : Addr} {fd : FuncData} (F : Fun K "push" "History.push" sHPus f fd) (T : Kls K mg "History" C hF) : FnOk P w K mg base CX0 1 f fd ["self", "state"] (spHPus C) := by
  refine F.ok scHPus (fun vs H Q E h => ?_) (fun cdv A outer s H vs Q E hr h => ?_)
  · obtain ⟨p, u, xs, v, ys, dx, pa, fu, rfl, _⟩ := h
    rfl
  · obtain ⟨p, u, xs, v, ys, dx, pa, fu, rfl, h, few, k⟩ := h
    obtain ⟨n1, n2⟩ := h.off
    refine ⟨_, pss_cons (ps_expr (pe_bm PySem.F.plainAttrs_list PySem.F.slot_list_append PySem.F.type_list_append mt_append (pe_fld (pv 0) rfl) (pa_cons (pe_fld (pv 0) rfl) pa_nil)))
      (pss_cons (ps_fld (pv 0) (pv 1) rfl) (pss_one (ps_fld (pv 0) (pe_lst pa_nil) rfl))), ?_⟩
    refine ⟨_, rfl, p, C, dx, _, _, rfl, h.ob, T.cl, T.no _ (by simp), look1 _ _ _, .inl ⟨rfl, _, sl_map h.e1⟩, _, rfl, p, C, dx, _, _, rfl, h.ob, T.cl, T.no _ (by simp), look2 _ _ _, pa, _, _, rfl, rfl, h.e1, ?_, ?_⟩
    · exact Nat.lt_of_lt_of_le few (by rw [sizeLine_eq]; decide)
    refine ⟨_, rfl, _, rfl, p, C, dx, _, rfl, by rw [upd_ne n1]; exact h.ob, T.cl, T.no _ (by simp), by show 3 < 1000; decide, ?_⟩
    refine ⟨by show 0 ≤ sizeLine; decide, fun gu ngu => ?_⟩
    rw [put2] at *
    have g1 : gu ≠ p := fun z => by rw [z, upd_same] at ngu; cases ngu
    have g2 : gu ≠ pa := fun z => by rw [z, upd_ne n1.symm, upd_same] at ngu; cases ngu
    refine ⟨_, rfl, p, C, dx, _, rfl, by rw [upd_ne g1.symm, upd_same], T.cl, T.no _ (by simp), by show 3 < 1000; decide, ?_⟩
    rw [put3]
    refine k _ gu ⟨upd_same, ?_, ?_, g2.symm⟩ ?_ (fun b o h1 h2 h3 => ?_) fun b h1 => ?_
    · rw [upd_ne n1.symm, upd_ne g2.symm, upd_ne n1.symm, upd_same]
    · rw [upd_ne g1, upd_same]
    · rw [upd_ne g1, upd_ne g2] at ngu; exact ngu
    · rw [upd_ne h1]
      have : b ≠ gu := fun z => by rw [← z, upd_ne h1, upd_ne h2, h3] at ngu; cases ngu
      rw [upd_ne this, upd_ne h1, upd_ne h2]; exact h3
    · grind only [= g_upd]
end
end K16

set_option Elab.async false
set_option linter.all false
set_option maxRecDepth 100000
set_option maxHeartbeats 4000000
namespace K16
open PySem PySem.Spec PyProof.Rows L2 Cs CsX
theorem last_of {xs : List V} {z : V} : (xs ++ [z])[(xs ++ [z]).length - 1]? = some z := by
  rw [List.length_append, List.length_singleton, Nat.add_sub_cancel, List.getElem?_append_right (Nat.le_refl _), Nat.sub_self] <;> rfl
theorem drop_last {xs : List V} {z : V} : (xs ++ [z]).dropLast = xs := List.dropLast_concat
/-- what stays -/
def Keep3 (p q r : Addr) (H H' : Hp) : Prop := (∀ b o, b ≠ p → b ≠ q → b ≠ r → H b = some o → H' b = some o) ∧ ∀ b, H' b = none → H b = none
theorem Keep3.refl (p q r : Addr) (H : Hp) : Keep3 p q r H H := ⟨(fun _ _ _ _ _ h => h), fun _ h => h⟩
theorem Keep3.trans {p q r : Addr} {H H1 H2 : Hp} (a : Keep3 p q r H H1) (b : Keep3 p q r H1 H2) : Keep3 p q r H H2 := ⟨fun c o h1 h2 h3 h => b.1 c o h1 h2 h3 (a.1 c o h1 h2 h3 h), fun c h => a.2 c (b.2 c h)⟩
section
variable {P : Program} {w : World} {K : PySem.W.Frag} {mg : Str → Option Value} {base : Heap}
theorem scHUdo : FnScope ["self"] ["self"] (defScope sHUdo) := ⟨rfl, rfl, rfl, by decide +kernel, rfl, by decide +kernel, by decide +kernel⟩
def spHUdo (C : Addr) : Sp := fun vs H Q _ => ∃ (p : Addr) (xs : List V) (z v : V) (ys : List V) (dx pa fu : Addr), vs = [.ref p] ∧ HistF C H p (xs ++ [z]) v ys dx pa fu ∧ ys.length < 100000 ∧
  ∀ (H' : Hp), HistF C H' p xs z (ys ++ [v]) dx pa fu → Keep3 p pa fu H H' → Q z H'
theorem ok_HUdo {f C : Addr} {fd : FuncData} (F : Fun K "undo" "History.undo" sHUdo f fd) (T : Kls K mg "History" C hF) (B : Bt mg) : FnOk P w K mg base CX0 1 f fd ["self"] (spHUdo C) := by
  refine F.ok scHUdo (fun vs H Q E h => ?_) (fun cdv A outer s H vs Q E hr h => ?_)
  · obtain ⟨p, xs, z, v, ys, dx, pa, fu, rfl, _⟩ := h
    rfl
  · obtain ⟨p, xs, z, v, ys, dx, pa, fu, rfl, h, few, k⟩ := h
    obtain ⟨n1, n2⟩ := h.off
    have n3 := h.ne
    refine ⟨_, pss_cons (ps_if (pt_cmpR op_eq (pe_callB call_len_seq (by rfl) B.len PySem.boot_len (pa_cons (pe_fld (pv 0) rfl) pa_nil)) pe_int rfl) pss_any pss_nil)
      (pss_cons (ps_expr (pe_bm PySem.F.plainAttrs_list PySem.F.slot_list_append PySem.F.type_list_append mt_append (pe_fld (pv 0) rfl) (pa_cons (pe_fld (pv 0) rfl) pa_nil)))
      (pss_cons (ps_fld (pv 0) (pe_bm0 PySem.F.plainAttrs_list PySem.F.slot_list_pop PySem.F.type_list_pop mt_pop (pe_fld (pv 0) rfl)) rfl) (pss_one (ps_ret (pe_fld (pv 0) rfl))))), ?_⟩
    refine ⟨_, rfl, p, C, dx, _, _, rfl, h.ob, T.cl, T.no _ (by simp), look1 _ _ _, pa, _, rfl, .inl (sl_map h.e1), rfl, _, rfl, ite_both (fun c => ?_) fun _ => ?_⟩
    · have := V.int.inj (of_decide_eq_true c)
      rw [List.length_append, List.length_singleton] at this
      omega
    refine ⟨_, rfl, p, C, dx, _, _, rfl, h.ob, T.cl, T.no _ (by simp), look3 _ _ _, .inl ⟨rfl, _, sl_map h.e2⟩, _, rfl, p, C, dx, _, _, rfl, h.ob, T.cl, T.no _ (by simp), look2 _ _ _, fu, _, _, rfl, rfl, h.e2, Nat.lt_of_lt_of_le few (by rw [sizeLine_eq]; decide), ?_⟩
    have ob1 : (upd H fu (.lst (ys ++ [v]))) p = some (.ins C dx (flds pa v fu)) := by rw [upd_ne n2]; exact h.ob
    have e1 : (upd H fu (.lst (ys ++ [v]))) pa = some (.lst (xs ++ [z])) := by rw [upd_ne n3]; exact h.e1
    refine ⟨_, rfl, p, C, dx, _, _, rfl, ob1, T.cl, T.no _ (by simp), look1 _ _ _, .inl ⟨rfl, _, sl_map e1⟩, pa, _, z, rfl, rfl, e1, last_of, ?_⟩
    rw [drop_last]
    refine ⟨_, rfl, p, C, dx, _, rfl, by rw [upd_ne n1]; exact ob1, T.cl, T.no _ (by simp), by show 3 < 1000; decide, ?_⟩
    rw [put2]
    refine ⟨_, rfl, p, C, dx, _, _, rfl, upd_same, T.cl, T.no _ (by simp), look2 _ _ _, ?_⟩
    refine k _ ⟨upd_same, ?_, ?_, n3⟩ ⟨fun b o h1 h2 h3 h4 => ?_, fun b h1 => ?_⟩
    · rw [upd_ne n1.symm, upd_same]
    · rw [upd_ne n2.symm, upd_ne n3.symm, upd_same]
    · rw [upd_ne h1, upd_ne h2, upd_ne h3]; exact h4
    · grind only [= g_upd]
def spHUdoX (C CE : Addr) : Sp := fun vs H _ E => ∃ (p : Addr) (v : V) (ys : List V) (dx pa fu : Addr), vs = [.ref p] ∧ HistF C H p [] v ys dx pa fu ∧ E (.ref CE) none H
theorem ok_HUdoX {f C CE : Addr} {fd : FuncData} (F : Fun K "undo" "History.undo" sHUdo f fd) (T : Kls K mg "History" C hF) (B : Bt mg) (U : Own0 K mg "NothingToUndo" CE) : FnOk P w K mg base (L2.CX P w) 1 f fd ["self"] (spHUdoX C CE) := by
  refine F.okX scHUdo (fun vs H Q E h => ?_) (fun cdv A outer s H vs Q E hr h => ?_)
  · obtain ⟨p, v, ys, dx, pa, fu, rfl, _⟩ := h
    rfl
  · obtain ⟨p, v, ys, dx, pa, fu, rfl, h, k⟩ := h
    refine ⟨_, pss_cons (ps_if (pt_cmpR op_eq (pe_callB call_len_seq (by rfl) B.len PySem.boot_len (pa_cons (pe_fld (pv 0) rfl) pa_nil)) pe_int rfl) (pss_one (ps_raise rfl (takes_of rfl rfl rfl rfl) (U.mk0 (by rfl)))) pss_nil) pss_any, ?_⟩
    exact ⟨_, rfl, p, C, dx, _, _, rfl, h.ob, T.cl, T.no _ (by simp), look1 _ _ _, pa, _, rfl, .inl (sl_map h.e1), rfl, _, rfl, ite_both (fun _ => k) fun c => absurd rfl (of_decide_eq_false c)⟩
theorem scHRdo : FnScope ["self"] ["self"] (defScope sHRdo) := ⟨rfl, rfl, rfl, by decide +kernel, rfl, by decide +kernel, by decide +kernel⟩
def spHRdo (C : Addr) : Sp := fun vs H Q _ => ∃ (p : Addr) (xs : List V) (z v : V) (ys : List V) (dx pa fu : Addr), vs = [.ref p] ∧ HistF C H p xs v (ys ++ [z]) dx pa fu ∧ xs.length < 100000 ∧
  ∀ (H' : Hp), HistF C H' p (xs ++ [v]) z ys dx pa fu → Keep3 p pa fu H H' → Q z H'
theorem ok_HRdo {f C : Addr} {fd : FuncData} (F : Fun K "redo" "History.redo" sHRdo f fd) (T : Kls K mg "History" C hF) (B : Bt mg) : FnOk P w K mg base CX0 1 f fd ["self"] (spHRdo C) := by
  refine F.ok scHRdo (fun vs H Q E h => ?_) (fun cdv A outer s H vs Q E hr h => ?_)
  · obtain ⟨p, xs, z, v, ys, dx, pa, fu, rfl, _⟩ := h
    rfl
  · obtain ⟨p, xs, z, v, ys, dx, pa, fu, rfl, h, few, k⟩ := h
    obtain ⟨n1, n2⟩ := h.off
    have n3 := h.ne
    refine ⟨_, pss_cons (ps_if (pt_cmpR op_eq (pe_callB call_len_seq (by rfl) B.len PySem.boot_len (pa_cons (pe_fld (pv 0) rfl) pa_nil)) pe_int rfl) pss_any pss_nil)
      (pss_cons (ps_expr (pe_bm PySem.F.plainAttrs_list PySem.F.slot_list_append PySem.F.type_list_append mt_append (pe_fld (pv 0) rfl) (pa_cons (pe_fld (pv 0) rfl) pa_nil)))
      (pss_cons (ps_fld (pv 0) (pe_bm0 PySem.F.plainAttrs_list PySem.F.slot_list_pop PySem.F.type_list_pop mt_pop (pe_fld (pv 0) rfl)) rfl) (pss_one (ps_ret (pe_fld (pv 0) rfl))))), ?_⟩
    refine ⟨_, rfl, p, C, dx, _, _, rfl, h.ob, T.cl, T.no _ (by simp), look3 _ _ _, fu, _, rfl, .inl (sl_map h.e2), rfl, _, rfl, ite_both (fun c => ?_) fun _ => ?_⟩
    · have := V.int.inj (of_decide_eq_true c)
      rw [List.length_append, List.length_singleton] at this
      omega
    refine ⟨_, rfl, p, C, dx, _, _, rfl, h.ob, T.cl, T.no _ (by simp), look1 _ _ _, .inl ⟨rfl, _, sl_map h.e1⟩, _, rfl, p, C, dx, _, _, rfl, h.ob, T.cl, T.no _ (by simp), look2 _ _ _, pa, _, _, rfl, rfl, h.e1, Nat.lt_of_lt_of_le few (by rw [sizeLine_eq]; decide), ?_⟩
    have ob1 : (upd H pa (.lst (xs ++ [v]))) p = some (.ins C dx (flds pa v fu)) := by rw [upd_ne n1]; exact h.ob
    have e2 : (upd H pa (.lst (xs ++ [v]))) fu = some (.lst (ys ++ [z])) := by rw [upd_ne n3.symm]; exact h.e2
    refine ⟨_, rfl, p, C, dx, _, _, rfl, ob1, T.cl, T.no _ (by simp), look3 _ _ _, .inl ⟨rfl, _, sl_map e2⟩, fu, _, z, rfl, rfl, e2, last_of, ?_⟩
    rw [drop_last]
    refine ⟨_, rfl, p, C, dx, _, rfl, by rw [upd_ne n2]; exact ob1, T.cl, T.no _ (by simp), by show 3 < 1000; decide, ?_⟩
    rw [put2]
    refine ⟨_, rfl, p, C, dx, _, _, rfl, upd_same, T.cl, T.no _ (by simp), look2 _ _ _, ?_⟩
    refine k _ ⟨upd_same, ?_, ?_, n3⟩ ⟨fun b o h1 h2 h3 h4 => ?_, fun b h1 => ?_⟩
    · rw [upd_ne n1.symm, upd_ne n3, upd_same]
    · rw [upd_ne n2.symm, upd_same]
    · rw [upd_ne h1, upd_ne h3, upd_ne h2]; exact h4
    · grind only [= g_upd]
def spHRdoX (C CE : Addr) : Sp := fun vs H _ E => ∃ (p : Addr) (xs : List V) (v : V) (dx pa fu : Addr), vs = [.ref p] ∧ HistF C H p xs v [] dx pa fu ∧ E (.ref CE) none H
theorem ok_HRdoX {f C CE : Addr} {fd : FuncData} (F : Fun K "redo" "History.redo" sHRdo f fd) (T : Kls K mg "History" C hF) (B : Bt mg) (U : Own0 K mg "NothingToRedo" CE) : FnOk P w K mg base (L2.CX P w) 1 f fd ["self"] (spHRdoX C CE) := by
  refine F.okX scHRdo (fun vs H Q E h => ?_) (fun cdv A outer s H vs Q E hr h => ?_)
  · obtain ⟨p, xs, v, dx, pa, fu, rfl, _⟩ := h
    rfl
  · obtain ⟨p, xs, v, dx, pa, fu, rfl, h, k⟩ := h
    refine ⟨_, pss_cons (ps_if (pt_cmpR op_eq (pe_callB call_len_seq (by rfl) B.len PySem.boot_len (pa_cons (pe_fld (pv 0) rfl) pa_nil)) pe_int rfl) (pss_one (ps_raise rfl (takes_of rfl rfl rfl rfl) (U.mk0 (by rfl)))) pss_nil) pss_any, ?_⟩
    exact ⟨_, rfl, p, C, dx, _, _, rfl, h.ob, T.cl, T.no _ (by simp), look3 _ _ _, fu, _, rfl, .inl (sl_map h.e2), rfl, _, rfl, ite_both (fun _ => k) fun c => absurd rfl (of_decide_eq_false c)⟩
end
end K16

set_option Elab.async false
set_option linter.all false
set_option maxRecDepth 100000
set_option maxHeartbeats 4000000
namespace K16
open PySem PySem.Spec PyProof.Rows L2 Cs CsX
theorem HistF.hist {C : Addr} {H : Hp} {p : Addr} {xs ys : List V} {v : V} {dx pa fu : Addr} (h : HistF C H p xs v ys dx pa fu) : Hist C H p xs v ys := ⟨dx, pa, fu, h.ob, h.e1, h.e2, h.ne⟩
/-- the states in a row: those before, the one that stands -/
def row (L : List V) (v : V) (m : Nat) : V := (L ++ [v]).getD m .non
theorem row_at {L : List V} {v : V} {m : Nat} (h : m ≤ L.length) : (L ++ [v])[m]? = some (row L v m) := by
  unfold row
  have : m < (L ++ [v]).length := by rw [List.length_append]; show m < L.length + 1; omega
  rw [List.getD_eq_getElem?_getD, List.getElem?_eq_getElem this] <;> rfl
theorem row_lt {L : List V} {v : V} {m : Nat} (h : m < L.length) : L[m]? = some (row L v m) := by
  rw [← row_at (Nat.le_of_lt h), List.getElem?_append_left h]
theorem row_top (L : List V) (v : V) : row L v L.length = v := by
  have := row_at (L := L) (v := v) (Nat.le_refl _)
  rw [List.getElem?_append_right (Nat.le_refl _), Nat.sub_self] at this
  exact (Option.some.inj this).symm
theorem take_row {L : List V} {v : V} {m : Nat} (h : m < L.length) : L.take (m + 1) = L.take m ++ [row L v m] := take_snoc (row_lt h)
theorem drop_row {L : List V} {v : V} {m : Nat} (h : m ≤ L.length) : ((L ++ [v]).drop m).reverse = ((L ++ [v]).drop (m + 1)).reverse ++ [row L v m] := by
  have h1 : m < (L ++ [v]).length := by rw [List.length_append]; show m < L.length + 1; omega
  have h2 := row_at (v := v) h
  rw [List.getElem?_eq_getElem h1] at h2
  rw [List.drop_eq_getElem_cons h1, List.reverse_cons, Option.some.inj h2]
section
variable {P : Program} {w : World} {K : PySem.W.Frag} {mg : Str → Option Value} {base : Heap}
theorem scHBak : FnScope ["self", "steps"] ["self", "steps"] (defScope sHBak) := ⟨rfl, rfl, rfl, by decide +kernel, rfl, by decide +kernel, by decide +kernel⟩
def spHBak (C : Addr) : Sp := fun vs H Q _ => ∃ (p : Addr) (n : Nat) (L : List V) (v : V) (ys : List V) (dx pa fu : Addr), vs = [.ref p, .int (n : Int)] ∧ HistF C H p L v ys dx pa fu ∧ n ≤ L.length ∧ L.length + ys.length ≤ 5000 ∧
  ∀ (H' : Hp), HistF C H' p (L.take n) (row L v n) (ys ++ ((L ++ [v]).drop (n + 1)).reverse) dx pa fu → Keep3 p pa fu H H' → Q (row L v n) H'
theorem ok_HBak {f C ps fs fu' : Addr} {fd fds fdu : FuncData} (F : Fun K "back_to" "History.back_to" sHBak f fd) (T : Kls K mg "History" C hF) (B : Bt mg)
    (St : CallP P w K mg base 1 C "steps" ps fs fds (spGet C fun xs _ _ => .int (xs.length : Nat))) (Un : CallM P w K mg base 1 C "undo" fu' fdu ["self"] (spHUdo C)) (nu : ∀ pa v fu, (flds pa v fu).lookup ("undo" : Str) = none) :
    FnOk P w K mg base CX0 3 f fd ["self", "steps"] (spHBak C) := by
  refine F.ok scHBak (fun vs H Q E h => ?_) (fun cdv A outer s H vs Q E hr h => ?_)
  · obtain ⟨p, n, L, v, ys, dx, pa, fu, rfl, _⟩ := h
    rfl
  · obtain ⟨p, n, L, v, ys, dx, pa, fu, rfl, h, nl, few, k⟩ := h
    refine ⟨_, pss_cons (ps_if (PW.pt (pw_or (pt_cmpR op_lt (pv 1) pe_int rfl) (pw_or1 (pt_cmpR op_gt (pv 1) (pe_prop (pv 0) T.cl St.pr St.ok (hr.mono (by decide)) St.bd .nil pass0 rfl) rfl)))) pss_any pss_nil)
      (pss_cons (ps_while PassesOwn.never (pt_cmpR op_gt (pe_prop (pv 0) T.cl St.pr St.ok (hr.mono (by decide)) St.bd .nil pass0 rfl) (pv 1) rfl)
        (pss_one (ps_expr (pe_meth0 (pv 0) T.cl Un.mt Un.ok (hr.mono (by decide)) Un.bd .nil pass0))))
      (pss_one (ps_ret (pe_fld (pv 0) rfl)))), ?_⟩
    refine ⟨_, rfl, _, _, rfl, rfl, _, rfl, ite_both (fun c => absurd (of_decide_eq_true c) (by omega)) fun _ => ?_⟩
    refine ⟨_, rfl, _, rfl, p, dx, _, rfl, h.ob, p, L, v, ys, rfl, h.hist, _, _, rfl, rfl, _, rfl, ite_both (fun c => absurd (of_decide_eq_true c) (by omega)) fun _ => ?_⟩
    refine ⟨fun d σ H' => ∃ m : Nat, d = m - n ∧ n ≤ m ∧ m ≤ L.length ∧ σ = [some (.ref p), some (.int (n : Int))] ∧ HistF C H' p (L.take m) (row L v m) (ys ++ ((L ++ [v]).drop (m + 1)).reverse) dx pa fu ∧ Keep3 p pa fu H H',
      ⟨_, L.length, rfl, nl, Nat.le_refl _, rfl, ?_, Keep3.refl _ _ _ _⟩, ?_⟩
    · rw [List.take_length, row_top, List.drop_eq_nil_of_le (by rw [List.length_append]; exact Nat.le_refl _)]
      show HistF C H p L v (ys ++ []) dx pa fu
      rw [List.append_nil]; exact h
    rintro d σ H1 ⟨m, rfl, nm, ml, rfl, h1, kp⟩
    have lt : (L.take m).length = m := by rw [List.length_take]; omega
    refine ⟨_, rfl, p, dx, _, rfl, h1.ob, p, _, _, _, rfl, h1.hist, _, rfl, _, _, rfl, rfl, _, rfl, ite_both (fun c => ?_) fun c => ?_⟩
    · have c' := of_decide_eq_true c
      rw [lt] at c'
      obtain ⟨j, rfl⟩ : ∃ j, m = j + 1 := ⟨m - 1, by omega⟩
      refine ⟨fun σ' H' => ∃ m' : Nat, m' + 1 = j + 1 ∧ n ≤ m' ∧ m' ≤ L.length ∧ σ' = [some (.ref p), some (.int (n : Int))] ∧ HistF C H' p (L.take m') (row L v m') (ys ++ ((L ++ [v]).drop (m' + 1)).reverse) dx pa fu ∧ Keep3 p pa fu H H', ?_, ?_⟩
      · rintro σ' H' ⟨m', e, h2⟩
        exact ⟨_, by omega, m', rfl, h2⟩
      rw [take_row (v := v) (by omega)] at h1
      have fw : (ys ++ ((L ++ [v]).drop (j + 1 + 1)).reverse).length < 100000 := by
        rw [List.length_append, List.length_reverse, List.length_drop, List.length_append]
        show ys.length + (L.length + 1 - (j + 1 + 1)) < 100000
        omega
      refine ⟨_, rfl, p, dx, _, rfl, h1.ob, nu _ _ _, p, _, _, _, _, dx, pa, fu, rfl, h1, fw, fun H2 h2 kp2 => ⟨j, rfl, by omega, by omega, rfl, ?_, kp.trans kp2⟩⟩
      rw [List.append_assoc, ← drop_row (by omega)] at h2
      exact h2
    · have c' := of_decide_eq_false c
      rw [lt] at c'
      have e : m = n := by omega
      subst e
      exact ⟨_, rfl, p, C, dx, _, _, rfl, h1.ob, T.cl, T.no _ (by simp), look2 _ _ _, k _ h1 kp⟩
end
end K16

set_option Elab.async false
set_option linter.all false
set_option maxRecDepth 100000
set_option maxHeartbeats 4000000
namespace K16
open PySem PySem.Spec PyProof.Rows L2 Cs CsX
section
variable {P : Program} {w : World} {K : PySem.W.Frag} {mg : Str → Option Value} {base : Heap}
/-! ### UnknownStep(number), back_to that raises it -/
abbrev sUst : Stmt := inClass (topS 25) 0
theorem scUst : FnScope ["self", "number"] ["self", "number"] (defScope sUst) := ⟨rfl, rfl, rfl, by decide +kernel, rfl, by decide +kernel, by decide +kernel⟩
theorem ok_Ust {f C : Addr} {fd : FuncData} (F : Fun K "__init__" "UnknownStep.__init__" sUst f fd) (U : Own K mg "UnknownStep" C f ["number"]) : FnOk P w K mg base CX0 1 f fd ["self", "number"] (spIni C "number") := by
  refine F.ok scUst (fun vs H Q E h => ?_) (fun cdv A outer s H vs Q E hr h => ?_)
  · obtain ⟨a, v, rfl, _⟩ := h
    rfl
  · obtain ⟨a, v, rfl, e, q⟩ := h
    refine ⟨_, pss_one (ps_ost (pv 0) (pv 1)), ?_⟩
    exact ⟨v, rfl, .ref a, rfl, a, C, rfl, U.oex, U.no _ (by simp), .inl ⟨e, fun dx n ne => q dx n ne⟩⟩
def spHBakX (C CE : Addr) : Sp := fun vs H _ E => ∃ (p : Addr) (n : Int) (L : List V) (v : V) (ys : List V) (dx pa fu : Addr), vs = [.ref p, .int n] ∧ HistF C H p L v ys dx pa fu ∧ (n < 0 ∨ (L.length : Int) < n) ∧
  ∀ d H', H d = none → Same H H' → H' d = some (.xd [("number", .int n)]) → E (.ref CE) (some d) H'
theorem ok_HBakX {f C ps fs CE fI : Addr} {fd fds fdI : FuncData} (F : Fun K "back_to" "History.back_to" sHBak f fd) (T : Kls K mg "History" C hF) (B : Bt mg)
    (St : CallP P w K mg base 1 C "steps" ps fs fds (spGet C fun xs _ _ => .int (xs.length : Nat)))
    (U : Own K mg "UnknownStep" CE fI ["number"]) (Io : FnOk P w K mg base CX0 1 fI fdI ["self", "number"] (spIni CE "number")) (Ib : Binds K fdI ["self", "number"] []) :
    FnOk P w K mg base (L2.CX P w) 3 f fd ["self", "steps"] (spHBakX C CE) := by
  refine F.okX scHBak (fun vs H Q E h => ?_) (fun cdv A outer s H vs Q E hr h => ?_)
  · obtain ⟨p, n, L, v, ys, dx, pa, fu, rfl, _⟩ := h
    rfl
  · obtain ⟨p, n, L, v, ys, dx, pa, fu, rfl, h, out, k⟩ := h
    refine ⟨_, pss_cons (ps_if (PW.pt (pw_or (pt_cmpR op_lt (pv 1) pe_int rfl) (pw_or1 (pt_cmpR op_gt (pv 1) (pe_prop (pv 0) T.cl St.pr St.ok (hr.mono (by decide)) St.bd .nil pass0 rfl) rfl))))
      (pss_one (ps_raise rfl (takes_of rfl rfl rfl rfl) (pmk_oex U.oex U.iC U.tI Io (hr.mono (by decide)) Ib .nil pass0 (by rfl) U.gC (pa_cons (pv 1) pa_nil)))) pss_nil) pss_any, ?_⟩
    have rs := mk_one (C := CE) (f := "number") (H1 := H) (v := .int n) (Q := E) k
    refine ⟨_, rfl, _, _, rfl, rfl, _, rfl, ite_both (fun _ => ⟨.int n, rfl, rs⟩) fun c1 => ?_⟩
    refine ⟨_, rfl, _, rfl, p, dx, _, rfl, h.ob, p, L, v, ys, rfl, h.hist, _, _, rfl, rfl, _, rfl, ite_both (fun _ => ⟨.int n, rfl, rs⟩) fun c2 => ?_⟩
    have d1 := of_decide_eq_false c1
    have d2 := of_decide_eq_false c2
    rcases out with o | o
    · exact absurd o d1
    · exact absurd (show n > ((L.length : Nat) : Int) from o) d2
end
end K16

set_option Elab.async false
set_option linter.all false
set_option maxRecDepth 100000
set_option maxHeartbeats 4000000
namespace K16
open PySem PySem.Spec PyProof.Rows L2 Cs CsX
section
variable {P : Program} {w : World} {K : PySem.W.Frag} {mg : Str → Option Value} {base : Heap}
/-! ### checked_names, of names that are all right -/
abbrev sChk : Stmt := topS 32
abbrev nChk : List Str := ["names", "earlier", "name"]
theorem scChk : FnScope nChk ["names"] (defScope sChk) := ⟨rfl, rfl, rfl, by decide +kernel, rfl, by decide +kernel, by decide +kernel⟩
def spChk : Sp := fun vs H Q _ => ∃ (a : Addr) (xs : List Str), vs = [.ref a] ∧ H a = some (.lst (xs.map V.str)) ∧ xs ≠ [] ∧ xs.Nodup ∧ xs.length ≤ 1000 ∧
  ∀ (H' : Hp) (t : Addr), Same H H' → (∀ b, H' b = none → H b = none) → H t = none → H' t = some (.tup (xs.map V.str)) → Q (.ref t) H'
theorem ok_Chk {f : Addr} {fd : FuncData} (F : Fun K "checked_names" "checked_names" sChk f fd) (B : Bt mg) (ztuple : mg "tuple" = none) : FnOk P w K mg base CX0 1 f fd ["names"] spChk := by
  refine F.ok scChk (fun vs H Q E h => ?_) (fun cdv A outer s H vs Q E hr h => ?_)
  · obtain ⟨a, xs, rfl, _⟩ := h
    rfl
  · obtain ⟨a, xs, rfl, ha, ne, nd0, few, k⟩ := h
    have nd := scChk.nd
    refine ⟨_, pss_cons (ps_if (pt_cmpR op_eq (pe_callB call_len_seq (by rfl) B.len PySem.boot_len (pa_cons (pv 0) pa_nil)) pe_int rfl) pss_any pss_nil)
      (pss_cons (ps_set (i := 1) nd rfl (.inl rfl) (pe_callTy0 cr_set0K (by rfl) B.set PyProof.Rows.boot_set))
      (pss_cons (ps_for PassesOwn.never rfl (pi_list (pv 0)) (pg_name (i := 2) nd rfl (.inl rfl))
        (pss_cons (ps_if (pt_cmpR or_sinK (pv 2) (pv 1) rfl) pss_any pss_nil)
        (pss_one (ps_expr (pe_saddK (pv 1) (pa_cons (pv 2) pa_nil))))))
      (pss_one (ps_ret (pe_callTy call_tuple_of (by rfl) ztuple PyProof.Rows.boot_tuple (pa_cons (pv 0) pa_nil)))))), ?_⟩
    refine ⟨_, rfl, a, _, rfl, .inl (sl_map ha), rfl, _, rfl, ite_both (fun c => ?_) fun _ => ?_⟩
    · have := V.int.inj (of_decide_eq_true c)
      rw [List.length_map] at this
      cases xs with
      | nil => exact absurd rfl ne
      | cons x xs => rw [List.length_cons] at this; omega
    refine ⟨rfl, fun D nD => ?_⟩
    have s0 := same_new (o := SetK P w D (fun _ => false) 0) nD
    refine ⟨.ref a, rfl, a, rfl, ⟨_, sl_map (s0 _ _ ha)⟩, for_list (xs := xs.map V.str) (fun i σ H' => ∃ (S : Key → Bool) (n : Nat) (y2 : Option V), σ = [some (.ref a), some (.ref D), y2] ∧ Same H H' ∧ (∀ b, H' b = none → H b = none) ∧ H' D = some (SetK P w D S n) ∧ n ≤ i ∧ ∀ x, S (.inr x) = true → x ∈ xs.take i)
      ⟨_, 0, none, rfl, s0, (fun b e => by grind only [= g_upd]), upd_same, Nat.le_refl _, (fun _ h => nomatch h)⟩ (fun i σ H' _ h => by obtain ⟨_, _, _, _, h, _⟩ := h; exact sl_map (h _ _ ha)) ?_ ?_⟩
    · rintro i x σ H' hx ⟨S, n, y2, rfl, sm, fr, hD, ni, hS⟩
      rw [List.getElem?_map] at hx
      obtain ⟨x, hv, rfl⟩ := Option.map_eq_some_iff.mp hx
      obtain ⟨hi, ex⟩ := List.getElem?_eq_some_iff.mp hv
      have out : S (.inr x) = false := by
        cases e : S (.inr x) with
        | false => rfl
        | true =>
          obtain ⟨j, hj, ej⟩ := List.mem_iff_getElem.mp (hS x e)
          rw [List.length_take] at hj
          rw [List.getElem_take] at ej
          have := (List.getElem_inj nd0).mp (ej.trans ex.symm)
          omega
      refine ⟨_, rfl, _, rfl, .inr x, D, S, n, rfl, rfl, hD, _, rfl, ite_both (fun c => ?_) fun _ => ?_⟩
      · have c' : S (.inr x) = true := c
        rw [out] at c'; cases c'
      refine ⟨_, rfl, ⟨D, S, n, rfl, hD⟩, _, rfl, D, .inr x, S, n, rfl, rfl, hD, by show n + 1 < 4096; omega, ?_⟩
      refine ⟨_, _, _, rfl, fun b o e => ?_, fun b e => ?_, upd_same, ?_, fun z hz => ?_⟩
      · have : b ≠ D := fun q => by rw [q, nD] at e; cases e
        rw [upd_ne this]; exact sm b o e
      · by_cases q : b = D
        · rw [q, upd_same] at e; cases e
        · rw [upd_ne q] at e; exact fr b e
      · rw [out]; show n + 1 ≤ i + 1; omega
      · rw [take_snoc hv]
        rcases Bool.or_eq_true_iff.mp hz with q | q
        · exact List.mem_append_left _ (hS z q)
        · have := Sum.inr.inj (of_decide_eq_true q)
          rw [this]; exact List.mem_append_right _ (List.mem_singleton.mpr rfl)
    · rintro σ H' ⟨S, n, y2, rfl, sm, fr, hD, _, _⟩
      refine ⟨_, rfl, a, _, rfl, .inl ⟨sl_map (sm _ _ ha), fun l nl => k _ l (fun b o e => ?_) (fun b e => ?_) (fr l nl) upd_same⟩⟩
      · have : b ≠ l := fun q => by rw [q, fr l nl] at e; cases e
        rw [upd_ne this]; exact sm b o e
      · by_cases q : b = l
        · rw [q, upd_same] at e; cases e
        · rw [upd_ne q] at e; exact fr b e
/-! ### Unlike(names) -/
abbrev sUni : Stmt := inClass (topS 35) 0
theorem scUni : FnScope ["self", "names"] ["self", "names"] (defScope sUni) := ⟨rfl, rfl, rfl, by decide +kernel, rfl, by decide +kernel, by decide +kernel⟩
/-- an Unlike of these names stands at p -/
def Unl (C : Addr) (H : Hp) (p : Addr) (xs : List Str) : Prop := ∃ dx t, H p = some (.ins C dx [("names", V.ref t)]) ∧ H t = some (.tup (xs.map V.str))
def spUni (C : Addr) : Sp := fun vs H Q _ => ∃ (p dx a : Addr) (xs : List Str), vs = [.ref p, .ref a] ∧ H p = some (.ins C dx []) ∧ H a = some (.lst (xs.map V.str)) ∧ xs ≠ [] ∧ xs.Nodup ∧ xs.length ≤ 1000 ∧
  ∀ (H' : Hp), Unl C H' p xs → (∀ b o, b ≠ p → H b = some o → H' b = some o) → (∀ b, H' b = none → H b = none) → Q .non H'
theorem ok_Uni {f C fC : Addr} {fd fdC : FuncData} (F : Fun K "__init__" "Unlike.__init__" sUni f fd) (T : Kls K mg "Unlike" C ["names"]) (Ck : Call P w K mg base 1 "checked_names" fC fdC ["names"] spChk) : FnOk P w K mg base CX0 2 f fd ["self", "names"] (spUni C) := by
  refine F.ok scUni (fun vs H Q E h => ?_) (fun cdv A outer s H vs Q E hr h => ?_)
  · obtain ⟨p, dx, a, xs, rfl, _⟩ := h
    rfl
  · obtain ⟨p, dx, a, xs, rfl, hp, ha, ne, nd0, few, k⟩ := h
    refine ⟨_, pss_one (ps_fld (pv 0) (pe_call Ck.ok (hr.mono (by decide)) (by rfl) Ck.at_ Ck.kp Ck.bd .nil pass0 (pa_cons (pv 1) pa_nil)) rfl), ?_⟩
    refine ⟨_, rfl, a, xs, rfl, ha, ne, nd0, few, fun H' t sm fr nt ht => ?_⟩
    have np : t ≠ p := fun q => by rw [q, hp] at nt; cases nt
    refine ⟨_, rfl, p, C, dx, _, rfl, sm _ _ hp, T.cl, T.no _ (by simp), by show 0 < 1000; decide, ?_⟩
    refine k _ ⟨dx, t, upd_same, by rw [upd_ne np]; exact ht⟩ (fun b o h1 h2 => by rw [upd_ne h1]; exact sm b o h2) fun b e => ?_
    by_cases q : b = p
    · rw [q, upd_same] at e; cases e
    · rw [upd_ne q] at e; exact fr b e
end
end K16

set_option Elab.async false
set_option linter.all false
set_option maxRecDepth 100000
set_option maxHeartbeats 4000000
namespace K16
open PySem PySem.Spec PyProof.Rows L2 Cs CsX
/-- a state: a number, a text or an Unlike -/
def IsSt (C : Addr) (H : Hp) (v : V) : Prop := (∃ k, v = .int k) ∨ (∃ x, v = .str x) ∨ ∃ p xs, v = .ref p ∧ xs.length ≤ 1000 ∧ Unl C H p xs
theorem Unl.mono {C : Addr} {H H' : Hp} {p : Addr} {xs : List Str} (h : Unl C H p xs) (s : ∀ b o, H b = some o → (∀ ys, o ≠ .lst ys) → H' b = some o) : Unl C H' p xs := by
  obtain ⟨dx, t, h1, h2⟩ := h
  exact ⟨dx, t, s _ _ h1 (fun _ z => nomatch z), s _ _ h2 (fun _ z => nomatch z)⟩
section
variable {P : Program} {w : World} {K : PySem.W.Frag} {mg : Str → Option Value} {base : Heap}
abbrev sSta : Stmt := topS 40
abbrev nSta : List Str := ["_law_stream_here", "_law_way"]
theorem scSta : FnScope nSta ["_law_stream_here"] (defScope sSta) := ⟨rfl, rfl, rfl, by decide +kernel, rfl, by decide +kernel, by decide +kernel⟩
def spSta (C : Addr) : Sp := fun vs H Q _ => ∃ (p : Addr), vs = [.ref p] ∧ Strm H p ∧
  ∀ (H' : Hp) (v : V), Keep p H H' → Strm H' p → (∀ b, H' b = none → H b = none) → IsSt C H' v → Q v H'
theorem oth_free {p : Addr} {H H' : Hp} (o : Oth p H H') (s : Strm H' p) : ∀ b, H' b = none → H b = none := fun b e => by
  by_cases q : b = p
  · exact absurd (q ▸ e) s.some
  · rw [← o b q]; exact e
theorem str_app (x y : Str) : (x ++ y).cps = x.cps ++ y.cps := rfl
theorem ab_nd {x : Str} : (["a", ("b" : Str) ++ x] : List Str).Nodup := by
  refine List.nodup_cons.mpr ⟨fun h => ?_, List.nodup_cons.mpr ⟨fun h => (nomatch h), List.nodup_nil⟩⟩
  have e := congrArg (fun s : Str => s.cps.toList.head?) (List.mem_singleton.mp h)
  have e1 : (("a" : Str)).cps.toList.head? = some 97 := by decide +kernel
  have e2 : (("b" : Str)).cps = #[98] := by decide +kernel
  have e3 : (("b" : Str) ++ x).cps.toList.head? = some 98 := by rw [str_app, e2, Array.toList_append] <;> rfl
  exact absurd (e1.symm.trans ((show (("a" : Str)).cps.toList.head? = (("b" : Str) ++ x).cps.toList.head? from e).trans e3)) (by decide)
theorem log100 : ∀ k ∈ List.range 100, ((k : Nat) : Int).natAbs.log2 < 1920 ∧ (Str.ofString (toString ((k : Nat) : Int))).length ≤ 2 := by decide +kernel
theorem log100' {e : Int} (h0 : 0 ≤ e) (h1 : e < 100) : e.natAbs.log2 < 1920 ∧ (Str.ofString (toString e)).length ≤ 2 := by
  obtain ⟨k, rfl⟩ := Int.eq_ofNat_of_zero_le h0
  exact log100 k (List.mem_range.mpr (by omega))
def wordsSt : List Str := ["", "a", "0", "state", "b7", "-1"]
theorem ok_Sta {f f0 CU fU : Addr} {fd fd0 fdU : FuncData} (F : Fun K "_law_state" "_law_state" sSta f fd) (zstr : mg "str" = none) (D : Call P w K mg base 1 "_law_next" f0 fd0 ["_law_stream_here", "_law_size"] spDraw)
    (TU : Kls K mg "Unlike" CU ["names"]) (UN : CallN P w K mg base 2 CU fU fdU ["self", "names"] (spUni CU)) : FnOk P w K mg base CX0 4 f fd ["_law_stream_here"] (spSta CU) := by
  refine F.ok scSta (fun vs H Q E h => ?_) (fun cdv A outer s H vs Q E hr h => ?_)
  · obtain ⟨p, rfl, _⟩ := h
    rfl
  · obtain ⟨p, rfl, hp, k⟩ := h
    have nd := scSta.nd
    refine ⟨_, pss_cons (ps_set (i := 1) nd rfl (.inl rfl) (pe_call D.ok (hr.mono (by decide)) (by rfl) D.at_ D.kp D.bd .nil pass0 (pa_cons (pv 0) (pa_cons pe_int pa_nil))))
      (pss_cons (ps_if (pt_cmpR op_eq (pv 1) pe_int rfl)
        (pss_one (ps_ret (pe_make UN.mkr UN.ok (hr.mono (by decide)) (by rfl) TU.gC UN.bd .nil pass0 (pa_cons (pe_lst (pa_cons pe_str (pa_cons (pe_op op_add_str pe_str (pe_callTy call_str_int (by rfl) zstr PyProof.Rows.boot_str (pa_cons (pe_call D.ok (hr.mono (by decide)) (by rfl) D.at_ D.kp D.bd .nil pass0 (pa_cons (pv 0) (pa_cons pe_int pa_nil))) pa_nil))) pa_nil))) pa_nil))))
        pss_nil)
      (pss_cons (ps_if (pt_cmpR op_eq (pv 1) pe_int rfl)
        (pss_one (ps_ret (pe_op op_sub (pe_call D.ok (hr.mono (by decide)) (by rfl) D.at_ D.kp D.bd .nil pass0 (pa_cons (pv 0) (pa_cons pe_int pa_nil))) pe_int)))
        pss_nil)
      (pss_cons (ps_if (pt_cmpR op_eq (pv 1) pe_int rfl)
        (pss_one (ps_ret (pe_ix ix_list (pe_lst (pa_cons pe_str (pa_cons pe_str (pa_cons pe_str (pa_cons pe_str (pa_cons pe_str (pa_cons pe_str pa_nil))))))) (pe_call D.ok (hr.mono (by decide)) (by rfl) D.at_ D.kp D.bd .nil pass0 (pa_cons (pv 0) (pa_cons pe_int pa_nil))) (fun _ _ => rfl))))
        pss_nil)
      (pss_cons (ps_if (pt_cmpR op_eq (pv 1) pe_int rfl)
        (pss_one (ps_ret (pe_op op_mul (pe_op op_sub (pe_call D.ok (hr.mono (by decide)) (by rfl) D.at_ D.kp D.bd .nil pass0 (pa_cons (pv 0) (pa_cons pe_int pa_nil))) pe_int) (pe_op op_pow pe_int pe_int))))
        pss_nil)
      (pss_one (ps_ret (pe_op op_add_str pe_str (pe_callTy call_str_int (by rfl) zstr PyProof.Rows.boot_str (pa_cons (pe_call D.ok (hr.mono (by decide)) (by rfl) D.at_ D.kp D.bd .nil pass0 (pa_cons (pv 0) (pa_cons pe_int pa_nil))) pa_nil))))))))), ?_⟩
    refine ⟨_, rfl, p, 5, rfl, hp, by decide, by decide, fun H1 d o1 s1 d0 d5 => ?_⟩
    have f1 := oth_free o1 s1
    have k1 : Keep p H H1 := (Keep.refl p H).oth o1
    refine ⟨_, rfl, rfl, _, rfl, ite_both (fun _ => ?_) fun _ => ⟨_, rfl, rfl, _, rfl, ite_both (fun _ => ?_) fun _ => ⟨_, rfl, rfl, _, rfl, ite_both (fun _ => ?_) fun _ => ⟨_, rfl, rfl, _, rfl, ite_both (fun _ => ?_) fun _ => ?_⟩⟩⟩⟩
    · refine ⟨_, rfl, p, 100, rfl, s1, by decide, by decide, fun H2 e o2 s2 e0 e1 => ?_⟩
      obtain ⟨g1, g2⟩ := log100' e0 e1
      refine ⟨e, rfl, g1, _, _, rfl, rfl, Nat.le_trans (Nat.add_le_add_left g2 _) (by decide), ?_⟩
      refine ⟨by show 2 ≤ sizeLine; decide, fun l nl => ?_⟩
      intro x dx nx ndx ne
      have npl : p ≠ l := fun z => s2.some (z ▸ nl)
      have npx : p ≠ x := fun z => (s2.upd npl).some (z ▸ nx)
      have npd : p ≠ dx := fun z => (s2.upd npl).some (z ▸ ndx)
      have nlx : l ≠ x := fun z => by rw [← z, upd_same] at nx; cases nx
      have nld : l ≠ dx := fun z => by rw [← z, upd_same] at ndx; cases ndx
      have k2 : Keep p H H2 := k1.oth o2
      refine ⟨x, dx, l, ["a", ("b" : Str) ++ Str.ofString (toString e)], rfl, upd_same, by rw [upd_ne nlx, upd_ne nld, upd_same] <;> rfl, (fun z => nomatch z), ab_nd, (by show 2 ≤ 1000; decide), fun H' un kp fr => ⟨rfl, ?_⟩⟩
      have fr2 : ∀ b, H' b = none → H2 b = none := fun b z => by grind only [= g_upd]
      refine k _ _ (fun b o hb ho => ?_) ?_ (fun b z => f1 b (oth_free o2 s2 b (fr2 b z))) (.inr (.inr ⟨x, _, rfl, (by show 2 ≤ 1000; decide), un⟩))
      · have h2 := k2 b o hb ho
        grind only [= g_upd]
      · obtain ⟨a1, a2, a3, a4⟩ := s2
        exact ⟨a1, a2, a3, by grind only [= g_upd]⟩
    · refine ⟨_, rfl, p, 5, rfl, s1, by decide, by decide, fun H2 e o2 s2 e0 e1 => ?_⟩
      exact ⟨_, _, rfl, rfl, k _ _ (k1.oth o2) s2 (fun b z => f1 b (oth_free o2 s2 b z)) (.inl ⟨_, rfl⟩)⟩
    · refine ⟨by show 6 ≤ sizeLine; decide, fun l nl => ?_⟩
      have npl : p ≠ l := fun z => s1.some (z ▸ nl)
      refine ⟨_, rfl, p, 6, rfl, s1.upd npl, by decide, by decide, fun H2 e o2 s2 e0 e1 => ?_⟩
      obtain ⟨j, rfl⟩ := Int.eq_ofNat_of_zero_le e0
      have hj : j < wordsSt.length := by show j < 6; omega
      have fr2 : ∀ b, H2 b = none → H1 b = none := fun b z => by
        have := oth_free o2 s2 b z
        grind only [= g_upd]
      refine ⟨l, wordsSt.map V.str, (j : Int), .str wordsSt[j], rfl, rfl, sl_map (by rw [o2 l npl.symm, upd_same] <;> rfl), atI_nat (by rw [List.getElem?_map, List.getElem?_eq_getElem hj] <;> rfl), k _ _ ((k1.at_ (f1 l nl)).oth o2) s2 (fun b z => f1 b (fr2 b z)) (.inr (.inl ⟨_, rfl⟩))⟩
    · refine ⟨_, rfl, p, 1000, rfl, s1, by decide, by decide, fun H2 e o2 s2 e0 e1 => ?_⟩
      refine ⟨_, _, rfl, rfl, _, _, rfl, rfl, ⟨by decide, by decide, by decide⟩, _, _, rfl, rfl, .inl ⟨by omega, by omega⟩, ?_⟩
      exact k _ _ (k1.oth o2) s2 (fun b z => f1 b (oth_free o2 s2 b z)) (.inl ⟨_, rfl⟩)
    · refine ⟨_, rfl, p, 100, rfl, s1, by decide, by decide, fun H2 e o2 s2 e0 e1 => ?_⟩
      obtain ⟨g1, g2⟩ := log100' e0 e1
      refine ⟨e, rfl, g1, _, _, rfl, rfl, Nat.le_trans (Nat.add_le_add_left g2 _) (by decide), ?_⟩
      exact k _ _ (k1.oth o2) s2 (fun b z => f1 b (oth_free o2 s2 b z)) (.inr (.inl ⟨_, rfl⟩))
end
end K16

set_option Elab.async false
set_option linter.all false
set_option maxRecDepth 100000
set_option maxHeartbeats 4000000
namespace K16
open PySem PySem.Spec PyProof.Rows L2 Cs CsX
/-- facts for isinstance with the class C -/
structure IsiC (K : PySem.W.Frag) (C : Addr) : Prop where
  kc : PySem.W.keepIn K (.ref C) = true
  ha : PySem.W.findIn K (.ref C) "__class__" = some (some (.builtin "object.__class__"))
  hn : PySem.W.specialIn K (.builtin "object.__class__") "__get__" = some (some (.builtin "getset_descriptor.__get__"))
  ht : PySem.W.takesIn K (.builtin "object.__class__") = some true
  hm : PySem.W.mroIn K C (.type "object") = some true
  own : PySem.W.kitOne K (.ref C) (.ref C) = some true
  int : PySem.W.kitOne K (.type "int") (.ref C) = some false
  str : PySem.W.kitOne K (.type "str") (.ref C) = some false
section
variable {P : Program} {w : World} {K : PySem.W.Frag} {mg : Str → Option Value} {base : Heap}
theorem paired_txt {H : Hp} {n : Nat} : ∀ xs : List Str, Paired (EqV K H (n + 1)) (xs.map V.str) (xs.map V.str)
  | [] => .nil
  | x :: xs => .cons (.inl ⟨rfl, rfl⟩) (paired_txt xs)
theorem k1_is : PySem.W.kitOne K (.type "int") (.type "str") = some false := rfl
theorem k1_ss : PySem.W.kitOne K (.type "str") (.type "str") = some true := rfl
abbrev sSam : Stmt := topS 41
abbrev nSam : List Str := ["_law_actual", "_law_due"]
theorem scSam : FnScope nSam ["_law_actual", "_law_due"] (defScope sSam) := ⟨rfl, rfl, rfl, by decide +kernel, rfl, by decide +kernel, by decide +kernel⟩
def spSam (C : Addr) : Sp := fun vs H Q _ => ∃ v : V, vs = [v, v] ∧ IsSt C H v ∧ Q (.bl true) H
theorem ok_Sam {f f0 CU : Addr} {fd fd0 : FuncData} (F : Fun K "_law_same_state" "_law_same_state" sSam f fd) (B : Bt mg) (zstr : mg "str" = none) (Cii : Call P w K mg base 1 "_law_is_integer" f0 fd0 ["_law_actual"] spIsInt)
    (TU : Kls K mg "Unlike" CU ["names"]) (IU : IsiC K CU) : FnOk P w K mg base CX0 3 f fd ["_law_actual", "_law_due"] (spSam CU) := by
  refine F.ok scSam (fun vs H Q E h => ?_) (fun cdv A outer s H vs Q E hr h => ?_)
  · obtain ⟨v, rfl, _⟩ := h
    rfl
  · obtain ⟨v, rfl, st, k⟩ := h
    have nd := scSam.nd
    have hu := hu_of hr
    refine ⟨_, pss_cons (ps_if (pt_val (pe_callB call_isi (by rfl) B.isi PyProof.Rows.boot_isinstance (pa_cons (pv 1) (pa_cons (pe_glob (by rfl) TU.gC (v := .ref CU) rfl) pa_nil))))
        (pss_one (ps_ret (pe_and (pe_callB call_isi (by rfl) B.isi PyProof.Rows.boot_isinstance (pa_cons (pv 0) (pa_cons (pe_glob (by rfl) TU.gC (v := .ref CU) rfl) pa_nil))) (pe_one (pe_cmpR (op_eqT hr.units) (pe_fld (pv 0) rfl) (pe_fld (pv 1) rfl) rfl)))))
        pss_nil)
      (pss_cons (ps_if (pt_val (pe_callB call_isi (by rfl) B.isi PyProof.Rows.boot_isinstance (pa_cons (pv 1) (pa_cons (pe_bltn (by rfl) zstr PyProof.Rows.boot_str (v := .ty "str") rfl) pa_nil))))
        (pss_one (ps_ret (pe_and (pe_callB call_isi (by rfl) B.isi PyProof.Rows.boot_isinstance (pa_cons (pv 0) (pa_cons (pe_bltn (by rfl) zstr PyProof.Rows.boot_str (v := .ty "str") rfl) pa_nil))) (pe_one (pe_cmpR op_eq (pv 0) (pv 1) rfl)))))
        pss_nil)
      (pss_one (ps_ret (pe_and (pe_call Cii.ok (hr.mono (by decide)) (by rfl) Cii.at_ Cii.kp Cii.bd .nil pass0 (pa_cons (pv 0) pa_nil)) (pe_one (pe_cmpR op_eq (pv 0) (pv 1) rfl)))))), ?_⟩
    rcases st with ⟨i, rfl⟩ | ⟨x, rfl⟩ | ⟨p, xs, rfl, few, dx, t, ob, et⟩
    · refine ⟨_, rfl, _, _, _, _, _, rfl, .own CU, .base (.int i), IU.int, _, rfl, ite_both (fun c => nomatch c) fun _ => ?_⟩
      refine ⟨_, rfl, _, _, _, _, _, rfl, .ty "str", .base (.int i), k1_is, _, rfl, ite_both (fun c => nomatch c) fun _ => ?_⟩
      refine ⟨_, rfl, i, rfl, _, rfl, ite_both (fun _ => ⟨_, rfl, _, rfl, rfl, ?_⟩) fun c => nomatch c⟩
      rw [decide_eq_true rfl]; exact k
    · refine ⟨_, rfl, _, _, _, _, _, rfl, .own CU, .base (.str x), IU.str, _, rfl, ite_both (fun c => nomatch c) fun _ => ?_⟩
      refine ⟨_, rfl, _, _, _, _, _, rfl, .ty "str", .base (.str x), k1_ss, _, rfl, ite_both (fun _ => ?_) fun c => nomatch c⟩
      refine ⟨_, rfl, _, _, _, _, _, rfl, .ty "str", .base (.str x), k1_ss, _, rfl, ite_both (fun _ => ⟨_, rfl, _, rfl, rfl, ?_⟩) fun c => nomatch c⟩
      rw [decide_eq_true rfl]; exact k
    · have ty : TyX K H (.ref p) (.ref CU) := .base (.ins ob TU.cl IU.ha IU.hn IU.ht IU.hm)
      have lk : ([("names", V.ref t)] : List (Str × V)).lookup ("names" : Str) = some (.ref t) := by simp [List.lookup]
      have tt : SqT K H t (xs.map V.str) := .inl (.inl et)
      refine ⟨_, rfl, _, _, _, _, _, rfl, .own CU, ty, IU.own, _, rfl, ite_both (fun _ => ?_) fun c => nomatch c⟩
      refine ⟨_, rfl, _, _, _, _, _, rfl, .own CU, ty, IU.own, _, rfl, ite_both (fun _ => ?_) fun c => nomatch c⟩
      refine ⟨_, rfl, p, CU, dx, _, _, rfl, ob, TU.cl, TU.no _ (by simp), lk, _, rfl, p, CU, dx, _, _, rfl, ob, TU.cl, TU.no _ (by simp), lk, ?_⟩
      exact ⟨t, t, _, _, rfl, rfl, tt, tt, paired_txt _, k⟩
end
end K16

set_option Elab.async false
set_option linter.all false
set_option maxRecDepth 100000
set_option maxHeartbeats 4000000
namespace K16
open PySem PySem.Spec PyProof.Rows L2 Cs CsX
/-- a History at p with the law's own lists at b (before) and a (after); A: the places it owns -/
structure Hs (C CU : Addr) (H : Hp) (A : List Addr) (p b a : Addr) (xs : List V) (v : V) (ys : List V) : Prop where
  F : ∃ dx pa fu, HistF C H p xs v ys dx pa fu ∧ A = [p, pa, fu, b, a] ∧ b ≠ pa ∧ b ≠ fu ∧ a ≠ pa ∧ a ≠ fu
  lb : H b = some (.lst (xs ++ [v]))
  la : H a = some (.lst ys)
  ab : a ≠ b
  st : ∀ u ∈ xs ++ v :: ys, IsSt CU H u
/-- what an operation leaves -/
structure Left (A A' : List Addr) (H H' : Hp) : Prop where
  keep : ∀ c o, c ∉ A → H c = some o → H' c = some o
  free : ∀ c, H' c = none → H c = none
  new : ∀ c ∈ A', c ∈ A ∨ H c = none
theorem Left.refl (A : List Addr) (H : Hp) : Left A A H H := ⟨fun _ _ _ e => e, fun _ e => e, fun _ h => .inl h⟩
theorem Left.trans {A A1 A2 : List Addr} {H H1 H2 : Hp} (a : Left A A1 H H1) (b : Left A1 A2 H1 H2) : Left A A2 H H2 :=
  ⟨fun c o h e => b.keep c o (fun z => (a.new c z).elim h fun n => by rw [e] at n; cases n) (a.keep c o h e), fun c e => a.free c (b.free c e), fun c h => (b.new c h).elim (fun z => a.new c z) fun n => .inr (a.free c n)⟩
theorem Hs.off {C CU : Addr} {H : Hp} {A : List Addr} {p b a : Addr} {xs ys : List V} {v : V} (h : Hs C CU H A p b a xs v ys) {c dx : Addr} {w : V} : H c = some (.ins CU dx [("names", w)]) → c ∉ A := by
  obtain ⟨dx0, pa, fu, hf, rfl, _⟩ := h.F
  intro e m
  have l1 := hf.ob; have l2 := hf.e1; have l3 := hf.e2; have l4 := h.lb; have l5 := h.la
  simp only [List.mem_cons, List.not_mem_nil, or_false] at m
  rcases m with rfl | rfl | rfl | rfl | rfl
  · rw [l1] at e
    have := (HO.ins.inj (Option.some.inj e)).2.2
    cases this
  · rw [l2] at e; cases e
  · rw [l3] at e; cases e
  · rw [l4] at e; cases e
  · rw [l5] at e; cases e
theorem Hs.offT {C CU : Addr} {H : Hp} {A : List Addr} {p b a : Addr} {xs ys : List V} {v : V} (h : Hs C CU H A p b a xs v ys) {c : Addr} {ws : List V} : H c = some (.tup ws) → c ∉ A := by
  obtain ⟨dx0, pa, fu, hf, rfl, _⟩ := h.F
  intro e m
  have l1 := hf.ob; have l2 := hf.e1; have l3 := hf.e2; have l4 := h.lb; have l5 := h.la
  simp only [List.mem_cons, List.not_mem_nil, or_false] at m
  rcases m with rfl | rfl | rfl | rfl | rfl
  · rw [l1] at e; cases e
  · rw [l2] at e; cases e
  · rw [l3] at e; cases e
  · rw [l4] at e; cases e
  · rw [l5] at e; cases e
/-- states outlast an operation on a History -/
theorem Hs.isSt {C CU : Addr} {H H' : Hp} {A : List Addr} {p b a : Addr} {xs ys : List V} {v u : V} (h : Hs C CU H A p b a xs v ys) (l : ∀ c o, c ∉ A → H c = some o → H' c = some o) (s : IsSt CU H u) : IsSt CU H' u := by
  rcases s with s | s | ⟨q, zs, rfl, few, dx, t, e1, e2⟩
  · exact .inl s
  · exact .inr (.inl s)
  · exact .inr (.inr ⟨q, zs, rfl, few, dx, t, l _ _ (h.off e1) e1, l _ _ (h.offT e2) e2⟩)
section
variable {P : Program} {w : World} {K : PySem.W.Frag} {mg : Str → Option Value} {base : Heap}
abbrev sLoo : Stmt := topS 42
abbrev nLoo : List Str := ["_law_history", "_law_before", "_law_after", "_law_turn"]
theorem scLoo : FnScope nLoo ["_law_history", "_law_before", "_law_after"] (defScope sLoo) := ⟨rfl, rfl, rfl, by decide +kernel, rfl, by decide +kernel, by decide +kernel⟩
def spLoo (C CU : Addr) : Sp := fun vs H Q _ => ∃ (A : List Addr) (p b a : Addr) (xs : List V) (v : V) (ys : List V), vs = [.ref p, .ref b, .ref a] ∧ Hs C CU H A p b a xs v ys ∧ Q (.bl true) H
theorem ok_Loo {f f0 f1 C CU ps fs ps1 fs1 ps2 fs2 : Addr} {fd fd0 fd1 fds fds1 fds2 : FuncData} (F : Fun K "_law_looks" "_law_looks" sLoo f fd) (B : Bt mg) (Cii : Call P w K mg base 1 "_law_is_integer" f0 fd0 ["_law_actual"] spIsInt)
    (CSa : Call P w K mg base 3 "_law_same_state" f1 fd1 ["_law_actual", "_law_due"] (spSam CU)) (T : Kls K mg "History" C hF)
    (G0 : CallP P w K mg base 1 C "state" ps fs fds (spGet C fun _ v _ => v)) (G1 : CallP P w K mg base 1 C "steps" ps1 fs1 fds1 (spGet C fun xs _ _ => .int (xs.length : Nat))) (G2 : CallP P w K mg base 1 C "undone" ps2 fs2 fds2 (spGet C fun _ _ ys => .int (ys.length : Nat))) :
    FnOk P w K mg base CX0 4 f fd ["_law_history", "_law_before", "_law_after"] (spLoo C CU) := by
  refine F.ok scLoo (fun vs H Q E h => ?_) (fun cdv A outer s H vs Q E hr h => ?_)
  · obtain ⟨A, p, b, a, xs, v, ys, rfl, _⟩ := h
    rfl
  · obtain ⟨A, p, b, a, xs, v, ys, rfl, h, k⟩ := h
    obtain ⟨dx, pa, fu, hf, _⟩ := h.F
    have nd := scLoo.nd
    refine ⟨_, pss_cons (ps_for PassesOwn.never rfl (pi_range1 (by rfl) B.range (pa_cons pe_int pa_nil)) (pg_name (i := 3) nd rfl (.inl rfl))
        (pss_cons (ps_if (pt_not (pt_val (pe_call CSa.ok (hr.mono (by decide)) (by rfl) CSa.at_ CSa.kp CSa.bd .nil pass0 (pa_cons (pe_prop (pv 0) T.cl G0.pr G0.ok (hr.mono (by decide)) G0.bd .nil pass0 rfl) (pa_cons (pe_ix ix_list (pv 1) (pe_un un_neg pe_int) (fun _ _ => rfl)) pa_nil)))))
            (pss_one (ps_ret pe_bl))
            pss_nil)
          (pss_cons (ps_if (PW.pt (pw_or (pt_not (pt_val (pe_call Cii.ok (hr.mono (by decide)) (by rfl) Cii.at_ Cii.kp Cii.bd .nil pass0 (pa_cons (pe_prop (pv 0) T.cl G1.pr G1.ok (hr.mono (by decide)) G1.bd .nil pass0 rfl) pa_nil)))) (pw_or1 (pt_cmpR op_ne (pe_prop (pv 0) T.cl G1.pr G1.ok (hr.mono (by decide)) G1.bd .nil pass0 rfl) (pe_op op_sub (pe_callB call_len_seq (by rfl) B.len PySem.boot_len (pa_cons (pv 1) pa_nil)) pe_int) rfl))))
            (pss_one (ps_ret pe_bl))
            pss_nil)
          (pss_one (ps_if (PW.pt (pw_or (pt_not (pt_val (pe_call Cii.ok (hr.mono (by decide)) (by rfl) Cii.at_ Cii.kp Cii.bd .nil pass0 (pa_cons (pe_prop (pv 0) T.cl G2.pr G2.ok (hr.mono (by decide)) G2.bd .nil pass0 rfl) pa_nil)))) (pw_or1 (pt_cmpR op_ne (pe_prop (pv 0) T.cl G2.pr G2.ok (hr.mono (by decide)) G2.bd .nil pass0 rfl) (pe_callB call_len_seq (by rfl) B.len PySem.boot_len (pa_cons (pv 2) pa_nil)) rfl))))
            (pss_one (ps_ret pe_bl))
            pss_nil)))))
      (pss_one (ps_ret pe_bl)), ?_⟩
    refine ⟨(2 : Int), rfl, by decide, by decide, for_range (lo := 0) (fun i σ H' => H' = H ∧ ∃ y3, σ = [some (.ref p), some (.ref b), some (.ref a), y3]) ⟨rfl, none, rfl⟩ ?_ ?_⟩
    · rintro i σ H1 hi ⟨rfl, y3, rfl⟩
      refine ⟨_, rfl, p, dx, _, rfl, hf.ob, p, xs, v, ys, rfl, hf.hist, _, rfl, 1, rfl, b, _, _, _, rfl, rfl, sl_map h.lb, atI_last _ _, v, rfl, h.st v (by simp), _, rfl, ite_both (fun c => absurd c (by decide)) fun _ => ?_⟩
      refine ⟨_, rfl, p, dx, _, rfl, hf.ob, p, xs, v, ys, rfl, hf.hist, _, rfl, _, rfl, ite_both (fun c => absurd c (by decide)) fun _ => ?_⟩
      refine ⟨_, rfl, p, dx, _, rfl, hf.ob, p, xs, v, ys, rfl, hf.hist, _, rfl, b, _, rfl, .inl (sl_map h.lb), _, _, rfl, rfl, rfl, _, rfl, ite_both (fun c => ?_) fun _ => ?_⟩
      · have e : (V.int ((xs.length : Nat) : Int)) = V.int ((((xs ++ [v]).length : Nat) : Int) - 1) := by rw [List.length_append, List.length_singleton]; congr 1; omega
        have c' : (!decide ((V.int ((xs.length : Nat) : Int)) = V.int ((((xs ++ [v]).length : Nat) : Int) - 1))) = true := c
        rw [decide_eq_true e] at c'
        cases c'
      refine ⟨_, rfl, p, dx, _, rfl, hf.ob, p, xs, v, ys, rfl, hf.hist, _, rfl, _, rfl, ite_both (fun c => absurd c (by decide)) fun _ => ?_⟩
      refine ⟨_, rfl, p, dx, _, rfl, hf.ob, p, xs, v, ys, rfl, hf.hist, _, rfl, a, _, rfl, .inl (sl_map h.la), rfl, _, rfl, ite_both (fun c => ?_) fun _ => ?_⟩
      · have c' : (!decide ((V.int ((ys.length : Nat) : Int)) = V.int ((ys.length : Nat) : Int))) = true := c
        rw [decide_eq_true rfl] at c'
        cases c'
      exact ⟨rfl, _, rfl⟩
    · rintro σ H1 ⟨rfl, y3, rfl⟩
      exact k
end
end K16

set_option Elab.async false
set_option linter.all false
set_option maxRecDepth 100000
set_option maxHeartbeats 4000000
namespace K16
open PySem PySem.Spec PyProof.Rows L2 Cs CsX
section
variable {P : Program} {w : World} {K : PySem.W.Frag} {mg : Str → Option Value} {base : Heap}
abbrev sPus : Stmt := topS 46
abbrev nPus : List Str := ["_law_history", "_law_before", "_law_after", "_law_pushed", "_law_actual"]
theorem scPus : FnScope nPus ["_law_history", "_law_before", "_law_after", "_law_pushed"] (defScope sPus) := ⟨rfl, rfl, rfl, by decide +kernel, rfl, by decide +kernel, by decide +kernel⟩
def spPus (C CU : Addr) : Sp := fun vs H Q _ => ∃ (A : List Addr) (p b a : Addr) (xs : List V) (v : V) (ys : List V) (u : V), vs = [.ref p, .ref b, .ref a, u] ∧ Hs C CU H A p b a xs v ys ∧ IsSt CU H u ∧ xs.length < 9000 ∧
  ∀ (H' : Hp) (A' : List Addr), Hs C CU H' A' p b a (xs ++ [v]) u [] → Left A A' H H' → Q (.bl true) H'
theorem ok_Pus {f f0 C CU : Addr} {fd fd0 : FuncData} (F : Fun K "_law_push" "_law_push" sPus f fd) (T : Kls K mg "History" C hF)
    (Pu : CallM P w K mg base 1 C "push" f0 fd0 ["self", "state"] (spHPus C)) (nu : ∀ pa v fu, (flds pa v fu).lookup ("push" : Str) = none) :
    FnOk P w K mg base CX0 3 f fd ["_law_history", "_law_before", "_law_after", "_law_pushed"] (spPus C CU) := by
  refine F.ok scPus (fun vs H Q E h => ?_) (fun cdv A outer s H vs Q E hr h => ?_)
  · obtain ⟨A, p, b, a, xs, v, ys, u, rfl, _⟩ := h
    rfl
  · obtain ⟨A, p, b, a, xs, v, ys, u, rfl, h, su, few, k⟩ := h
    obtain ⟨dx, pa, fu, hf, rfl, bpa, bfu, apa, afu⟩ := h.F
    have nd := scPus.nd
    have n0 := h.lb; have n1 := h.la; have n2 := hf.ob
    have bp : b ≠ p := fun z => by rw [z, n2] at n0; cases n0
    have ap : a ≠ p := fun z => by rw [z, n2] at n1; cases n1
    refine ⟨_, pss_cons (ps_set (i := 4) nd rfl (.inl rfl) (pe_meth (pv 0) T.cl Pu.mt Pu.ok (hr.mono (by decide)) Pu.bd .nil pass0 (pa_cons (pv 3) pa_nil)))
      (pss_cons (ps_expr (pe_bm PySem.F.plainAttrs_list PySem.F.slot_list_append PySem.F.type_list_append mt_append (pv 1) (pa_cons (pv 3) pa_nil)))
      (pss_cons (ps_expr (pe_bm0 PySem.F.plainAttrs_list PySem.F.slot_list_clear PySem.F.type_list_clear mt_clear (pv 2)))
      (pss_one (ps_ret (pe_cmp (pc_isN (pv 4)) rfl))))), ?_⟩
    refine ⟨_, rfl, p, dx, _, rfl, hf.ob, nu _ _ _, _, rfl, p, u, xs, v, ys, dx, pa, fu, rfl, hf, by omega, fun H1 gu h1 ng kp fr => ?_⟩
    have b1 := kp _ _ bp bpa h.lb
    have a1 := kp _ _ ap apa h.la
    have gb : gu ≠ b := fun z => by rw [z, n0] at ng; cases ng
    have ga : gu ≠ a := fun z => by rw [z, n1] at ng; cases ng
    refine ⟨_, rfl, .inl ⟨rfl, _, sl_map b1⟩, _, rfl, b, _, _, rfl, rfl, b1, Nat.lt_of_lt_of_le (m := 100000) (by rw [List.length_append]; show xs.length + 1 < 100000; omega) (by rw [sizeLine_eq]; decide), ?_⟩
    have a2 : (upd H1 b (.lst (xs ++ [v] ++ [u]))) a = some (.lst ys) := by rw [upd_ne h.ab]; exact a1
    refine ⟨_, rfl, .inl ⟨rfl, _, sl_map a2⟩, a, _, rfl, rfl, a2, ?_⟩
    refine ⟨_, rfl, ?_⟩
    have h2 := h1.off
    have lf : ∀ c o, c ∉ [p, pa, fu, b, a] → H c = some o → (upd (upd H1 b (.lst (xs ++ [v] ++ [u]))) a (.lst [])) c = some o := fun c o hc e => by
      simp only [List.mem_cons, List.not_mem_nil, or_false, not_or] at hc
      rw [upd_ne hc.2.2.2.2, upd_ne hc.2.2.2.1]
      exact kp c o hc.1 hc.2.1 e
    refine k _ [p, pa, gu, b, a] ⟨⟨dx, pa, gu, ⟨?_, ?_, ?_, h1.ne⟩, rfl, bpa, gb.symm, apa, ga.symm⟩, ?_, ?_, h.ab, fun z hz => ?_⟩ ⟨lf, fun c e => fr c ?_, fun c hc => ?_⟩
    · rw [upd_ne ap.symm, upd_ne bp.symm]; exact h1.ob
    · rw [upd_ne apa.symm, upd_ne bpa.symm]; exact h1.e1
    · rw [upd_ne ga, upd_ne gb]; exact h1.e2
    · rw [upd_ne h.ab.symm, upd_same]
    · rw [upd_same]
    · refine h.isSt lf ?_
      simp only [List.mem_append, List.mem_cons, List.not_mem_nil, or_false] at hz
      rcases hz with (hz | rfl) | rfl
      · exact h.st z (by simp [hz])
      · exact h.st z (by simp)
      · exact su
    · grind only [= g_upd]
    · simp only [List.mem_cons, List.not_mem_nil, or_false] at hc ⊢
      rcases hc with rfl | rfl | rfl | rfl | rfl
      · exact .inl (.inl rfl)
      · exact .inl (.inr (.inl rfl))
      · exact .inr ng
      · exact .inl (.inr (.inr (.inr (.inl rfl))))
      · exact .inl (.inr (.inr (.inr (.inr rfl))))
end
end K16

set_option Elab.async false
set_option linter.all false
set_option maxRecDepth 100000
set_option maxHeartbeats 4000000
namespace K16
open PySem PySem.Spec PyProof.Rows L2 Cs CsX
/-- a promise without errors, as one with errors -/
theorem lift0 {P : Program} {w : World} {K : PySem.W.Frag} {mg : Str → Option Value} {base : Heap} {k : Nat} {f : Addr} {fd : FuncData} {ps : List Str} {sp : Sp} (F : FnOk P w K mg base CX0 k f fd ps sp) : FnOk P w K mg base (L2.CX P w) k f fd ps sp :=
  ⟨F.len, fun A outer s H args us vs Q E hr he hb hv hs => codeAny_mono (F.run A outer s H args us vs Q E hr he hb hv hs) fun r s' q => by
    cases r with
    | error e => exact False.elim q
    | ok fl => cases fl with
      | ret u => exact q
      | next => exact False.elim q
      | brk => exact False.elim q
      | cont => exact False.elim q⟩
section
variable {P : Program} {w : World} {K : PySem.W.Frag} {mg : Str → Option Value} {base : Heap}
abbrev sUdo : Stmt := topS 43
abbrev nUdo : List Str := ["_law_history", "_law_before", "_law_after", "_law_refused", "_law_actual", "e"]
theorem scUdo : FnScope nUdo ["_law_history", "_law_before", "_law_after"] (defScope sUdo) := ⟨rfl, rfl, rfl, by decide +kernel, rfl, by decide +kernel, by decide +kernel⟩
/-- undo with something to undo, or with nothing -/
def spHUdoB (C CE : Addr) : Sp := fun vs H Q E => spHUdo C vs H Q E ∨ spHUdoX C CE vs H Q E
def spUdoA (C CU : Addr) : Sp := fun vs H Q _ => ∃ (A : List Addr) (p b a : Addr) (xs : List V) (z v : V) (ys : List V), vs = [.ref p, .ref b, .ref a] ∧ Hs C CU H A p b a (xs ++ [z]) v ys ∧ ys.length < 9000 ∧
  ∀ (H' : Hp) (A' : List Addr), Hs C CU H' A' p b a xs z (ys ++ [v]) → Left A A' H H' → Q (.bl true) H'
theorem ok_UdoA {f f0 f1 C CU CE : Addr} {fd fd0 fd1 : FuncData} (F : Fun K "_law_undo" "_law_undo" sUdo f fd) (B : Bt mg) (T : Kls K mg "History" C hF) (O : Own0 K mg "NothingToUndo" CE)
    (CSa : Call P w K mg base 3 "_law_same_state" f1 fd1 ["_law_actual", "_law_due"] (spSam CU))
    (Un : CallMX P w K mg base 1 C "undo" f0 fd0 ["self"] (spHUdoB C CE)) (nu : ∀ pa v fu, (flds pa v fu).lookup ("undo" : Str) = none) :
    FnOk P w K mg base CX0 4 f fd ["_law_history", "_law_before", "_law_after"] (spUdoA C CU) := by
  refine F.ok scUdo (fun vs H Q E h => ?_) (fun cdv A outer s H vs Q E hr h => ?_)
  · obtain ⟨A, p, b, a, xs, z, v, ys, rfl, _⟩ := h
    rfl
  · obtain ⟨A, p, b, a, xs, z, v, ys, rfl, h, few, k⟩ := h
    obtain ⟨dx, pa, fu, hf, rfl, bpa, bfu, apa, afu⟩ := h.F
    have nd := scUdo.nd
    have n0 := h.lb; have n1 := h.la; have n2 := hf.ob
    have bp : b ≠ p := fun z => by rw [z, n2] at n0; cases n0
    have ap : a ≠ p := fun z => by rw [z, n2] at n1; cases n1
    refine ⟨_, pss_cons (ps_set (i := 3) nd rfl (.inl rfl) pe_bl)
      (pss_cons (ps_set (i := 4) nd rfl (.inl rfl) pe_non)
      (pss_cons (ps_try_as (i := 5) (c := .ref CE) (Wout := fun _ _ _ _ => False)
        (tb := fun W => tAsg (tMethX C "undo" (spHUdoB C CE) (WE W) (tVar 0) tNil) (gName 4))
        rfl rfl nd rfl rfl ⟨rfl, by decide, Or.inl O.gC⟩ takes0
        (fun W pn xe tk _ => pss_one (ps_set (i := 4) nd rfl (.inl rfl) (pe_methX0 (pv 0) T.cl Un.mt Un.ok (hr.mono (by decide)) Un.bd (fun σ => passAt tk σ))))
        (fun a oe cls d pn hz hf => pss_any))
      (pss_cons (ps_if (pt_cmpR op_eq (pe_callB call_len_seq (by rfl) B.len PySem.boot_len (pa_cons (pv 1) pa_nil)) pe_int rfl)
        (pss_one (ps_ret (pv 3)))
        pss_nil)
      (pss_cons (ps_expr (pe_bm PySem.F.plainAttrs_list PySem.F.slot_list_append PySem.F.type_list_append mt_append (pv 2) (pa_cons (pe_bm0 PySem.F.plainAttrs_list PySem.F.slot_list_pop PySem.F.type_list_pop mt_pop (pv 1)) pa_nil)))
      (pss_one (ps_ret (pe_and (pe_not (pv 3)) (pe_one (pe_call CSa.ok (hr.mono (by decide)) (by rfl) CSa.at_ CSa.kp CSa.bd .nil pass0 (pa_cons (pv 4) (pa_cons (pe_ix ix_list (pv 1) (pe_un un_neg pe_int) (fun _ _ => rfl)) pa_nil))))))))))), ?_⟩
    refine ⟨_, rfl, p, dx, _, rfl, hf.ob, nu _ _ _, .inl ⟨p, xs, z, v, ys, dx, pa, fu, rfl, hf, by omega, fun H1 h1 kp => ?_⟩⟩
    have b1 := kp.1 _ _ bp bpa bfu h.lb
    have a1 := kp.1 _ _ ap apa afu h.la
    refine ⟨_, rfl, b, _, rfl, .inl (sl_map b1), rfl, _, rfl, ite_both (fun c => ?_) fun _ => ?_⟩
    · have := V.int.inj (of_decide_eq_true c)
      rw [List.length_append, List.length_append, List.length_singleton] at this
      simp at this
      omega
    have a2 : (upd H1 b (.lst (xs ++ [z]))) a = some (.lst ys) := by rw [upd_ne h.ab]; exact a1
    refine ⟨_, rfl, .inl ⟨rfl, _, sl_map a1⟩, _, rfl, .inl ⟨rfl, _, sl_map b1⟩, b, _, v, rfl, rfl, b1, last_of, ?_⟩
    rw [drop_last]
    refine ⟨a, _, _, rfl, rfl, a2, Nat.lt_of_lt_of_le (m := 100000) (by omega) (by rw [sizeLine_eq]; decide), ?_⟩
    have lf : ∀ c o, c ∉ [p, pa, fu, b, a] → H c = some o → (upd (upd H1 b (.lst (xs ++ [z]))) a (.lst (ys ++ [v]))) c = some o := fun c o hc e => by
      simp only [List.mem_cons, List.not_mem_nil, or_false, not_or] at hc
      rw [upd_ne hc.2.2.2.2, upd_ne hc.2.2.2.1]
      exact kp.1 c o hc.1 hc.2.1 hc.2.2.1 e
    have eb : (upd (upd H1 b (.lst (xs ++ [z]))) a (.lst (ys ++ [v]))) b = some (.lst (xs ++ [z])) := by rw [upd_ne h.ab.symm, upd_same]
    have st : ∀ u ∈ xs ++ z :: (ys ++ [v]), IsSt CU (upd (upd H1 b (.lst (xs ++ [z]))) a (.lst (ys ++ [v]))) u := fun u hu => h.isSt lf (h.st u (by
      simp only [List.mem_append, List.mem_cons, List.not_mem_nil, or_false] at hu ⊢
      rcases hu with hu | hu | hu | hu
      · exact .inl (.inl hu)
      · exact .inl (.inr hu)
      · exact .inr (.inr hu)
      · exact .inr (.inl hu)))
    refine ⟨_, rfl, _, rfl, _, rfl, ite_both (fun _ => ?_) fun c => nomatch c⟩
    refine ⟨_, rfl, _, rfl, 1, rfl, b, _, _, _, rfl, rfl, sl_map eb, atI_last _ _, z, rfl, st z (by simp), ?_⟩
    refine k _ [p, pa, fu, b, a] ⟨⟨dx, pa, fu, ⟨?_, ?_, ?_, h1.ne⟩, rfl, bpa, bfu, apa, afu⟩, eb, upd_same, h.ab, st⟩ ⟨lf, fun c e => kp.2 c ?_, fun c hc => .inl hc⟩
    · rw [upd_ne ap.symm, upd_ne bp.symm]; exact h1.ob
    · rw [upd_ne apa.symm, upd_ne bpa.symm]; exact h1.e1
    · rw [upd_ne afu.symm, upd_ne bfu.symm]; exact h1.e2
    · grind only [= g_upd]
end
end K16

set_option Elab.async false
set_option linter.all false
set_option maxRecDepth 100000
set_option maxHeartbeats 4000000
namespace K16
open PySem PySem.Spec PyProof.Rows L2 Cs CsX
/-- an own error in an except clause: DeskError at cd -/
structure OwnX (K : PySem.W.Frag) (mg : Str → Option Value) (C cd : Addr) : Prop where
  ex : ExcC K C
  te : PySem.W.exmOne K (.ref C) (.ref C) = some true
  gd : mg "DeskError" = some (.ref cd)
  kd : PySem.W.kitOne K (.ref C) (.ref cd) = some true
  kv : PySem.W.kitOne K (.ref C) (.type "ValueError") = some true
  ve : mg "ValueError" = none
/-- none of these classes -/
structure Not7 (os : List Str) (K : PySem.W.Frag) (mg : Str → Option Value) (C : Addr) (cs : List Addr) : Prop where
  len : ∃ c0 c1 c2 c3 c4 c5 c6 : Addr, cs = [c0, c1, c2, c3, c4, c5, c6]
  at_ : ∀ (i : Nat) (x : Str), os[i]? = some x → mg x = some (.ref (cs.getD i 0))
  any : PySem.W.kitAny K (.ref C) (cs.map Value.ref) = some false
structure Not9 (os : List Str) (K : PySem.W.Frag) (mg : Str → Option Value) (C : Addr) (cs : List Addr) : Prop where
  len : ∃ c0 c1 c2 c3 c4 c5 c6 c7 c8 : Addr, cs = [c0, c1, c2, c3, c4, c5, c6, c7, c8]
  at_ : ∀ (i : Nat) (x : Str), os[i]? = some x → mg x = some (.ref (cs.getD i 0))
  any : PySem.W.kitAny K (.ref C) (cs.map Value.ref) = some false
abbrev os1 : List Str := ["UnknownName", "RepeatedName", "UnknownValue", "RepeatedValue", "UnknownKey", "RepeatedKey", "EmptyRule"]
abbrev os2 : List Str := ["BadRow", "BadBounds", "BadNumber", "BadStep", "NoMark", "NotStruck", "BadOrder", "NotBare", "NoClash"]
abbrev osU : List Str := ["HoldsAnswer", "BadLine", "UnknownLine", "BadText", "NothingToRedo", "UnknownStep", "BadDeed"]
abbrev osR : List Str := ["HoldsAnswer", "BadLine", "UnknownLine", "BadText", "NothingToUndo", "UnknownStep", "BadDeed"]
abbrev osB : List Str := ["HoldsAnswer", "BadLine", "UnknownLine", "BadText", "NothingToUndo", "NothingToRedo", "BadDeed"]
section
variable {P : Program} {w : World} {K : PySem.W.Frag} {mg : Str → Option Value} {base : Heap}
def spUdoB (C CU : Addr) : Sp := fun vs H Q _ => ∃ (A : List Addr) (p b a : Addr) (v : V) (ys : List V), vs = [.ref p, .ref b, .ref a] ∧ Hs C CU H A p b a [] v ys ∧
  ∀ (H' : Hp), Same H H' → (∀ c, H' c = none → H c = none) → Q (.bl true) H'
theorem ok_UdoB {f f0 C CU CE cd : Addr} {fd fd0 : FuncData} {cs1 cs2 cs3 : List Addr} (F : Fun K "_law_undo" "_law_undo" sUdo f fd) (B : Bt mg) (T : Kls K mg "History" C hF) (O : Own0 K mg "NothingToUndo" CE) (X0 : OwnX K mg CE cd)
    (N1 : Not7 os1 K mg CE cs1) (N2 : Not9 os2 K mg CE cs2) (N3 : Not7 osU K mg CE cs3)
    (Un : CallMX P w K mg base 1 C "undo" f0 fd0 ["self"] (spHUdoB C CE)) (nu : ∀ pa v fu, (flds pa v fu).lookup ("undo" : Str) = none) :
    FnOk P w K mg base CX0 4 f fd ["_law_history", "_law_before", "_law_after"] (spUdoB C CU) := by
  refine F.ok scUdo (fun vs H Q E h => ?_) (fun cdv A outer s H vs Q E hr h => ?_)
  · obtain ⟨A, p, b, a, v, ys, rfl, _⟩ := h
    rfl
  · obtain ⟨A, p, b, a, v, ys, rfl, h, k⟩ := h
    obtain ⟨dx, pa, fu, hf, rfl, bpa, bfu, apa, afu⟩ := h.F
    have nd := scUdo.nd
    obtain ⟨c0, c1, c2, c3, c4, c5, c6, rfl⟩ := N1.len
    obtain ⟨d0, d1, d2, d3, d4, d5, d6, d7, d8, rfl⟩ := N2.len
    obtain ⟨e0, e1, e2, e3, e4, e5, e6, rfl⟩ := N3.len
    refine ⟨_, pss_cons (ps_set (i := 3) nd rfl (.inl rfl) pe_bl)
      (pss_cons (ps_set (i := 4) nd rfl (.inl rfl) pe_non)
      (pss_cons (ps_try_as (i := 5) (c := .ref CE) (Wout := fun _ _ _ _ => False)
        (tb := fun W => tAsg (tMethX C "undo" (spHUdoB C CE) (WE W) (tVar 0) tNil) (gName 4))
        rfl rfl nd rfl rfl ⟨rfl, by decide, Or.inl O.gC⟩ takes0
        (fun W pn xe tk _ => pss_one (ps_set (i := 4) nd rfl (.inl rfl) (pe_methX0 (pv 0) T.cl Un.mt Un.ok (hr.mono (by decide)) Un.bd (fun σ => passAt tk σ))))
        (fun a oe cls d pn hz hf => pss_cons (ps_if (PW.pt (pw_or (pt_not (pt_val (pe_callB (r := rIsEN K a cls d) (call_isEN hz hf) (by rfl) B.isi PyProof.Rows.boot_isinstance (pa_cons (pv 5) (pa_cons (pe_glob (by rfl) X0.gd (v := .ref cd) rfl) pa_nil))))) (pw_or1 (pt_not (pt_val (pe_callB (r := rIsEN K a cls d) (call_isEN hz hf) (by rfl) B.isi PyProof.Rows.boot_isinstance (pa_cons (pv 5) (pa_cons (pe_bltn (by rfl) X0.ve PyProof.Rows.Boot.«ValueError» (v := .ty "ValueError") rfl) pa_nil)))))))) (pss_one (ps_ret pe_bl)) pss_nil)
          (pss_cons (ps_if (pt_val (pe_callB (r := rIsEN K a cls d) (call_isEN hz hf) (by rfl) B.isi PyProof.Rows.boot_isinstance (pa_cons (pv 5) (pa_cons (pe_tup (pa_cons (pe_glob (by rfl) (N1.at_ 0 _ rfl) (v := .ref c0) rfl) (pa_cons (pe_glob (by rfl) (N1.at_ 1 _ rfl) (v := .ref c1) rfl) (pa_cons (pe_glob (by rfl) (N1.at_ 2 _ rfl) (v := .ref c2) rfl) (pa_cons (pe_glob (by rfl) (N1.at_ 3 _ rfl) (v := .ref c3) rfl) (pa_cons (pe_glob (by rfl) (N1.at_ 4 _ rfl) (v := .ref c4) rfl) (pa_cons (pe_glob (by rfl) (N1.at_ 5 _ rfl) (v := .ref c5) rfl) (pa_cons (pe_glob (by rfl) (N1.at_ 6 _ rfl) (v := .ref c6) rfl) pa_nil)))))))) pa_nil)))) (pss_one (ps_ret pe_bl)) pss_nil)
          (pss_cons (ps_if (pt_val (pe_callB (r := rIsEN K a cls d) (call_isEN hz hf) (by rfl) B.isi PyProof.Rows.boot_isinstance (pa_cons (pv 5) (pa_cons (pe_tup (pa_cons (pe_glob (by rfl) (N2.at_ 0 _ rfl) (v := .ref d0) rfl) (pa_cons (pe_glob (by rfl) (N2.at_ 1 _ rfl) (v := .ref d1) rfl) (pa_cons (pe_glob (by rfl) (N2.at_ 2 _ rfl) (v := .ref d2) rfl) (pa_cons (pe_glob (by rfl) (N2.at_ 3 _ rfl) (v := .ref d3) rfl) (pa_cons (pe_glob (by rfl) (N2.at_ 4 _ rfl) (v := .ref d4) rfl) (pa_cons (pe_glob (by rfl) (N2.at_ 5 _ rfl) (v := .ref d5) rfl) (pa_cons (pe_glob (by rfl) (N2.at_ 6 _ rfl) (v := .ref d6) rfl) (pa_cons (pe_glob (by rfl) (N2.at_ 7 _ rfl) (v := .ref d7) rfl) (pa_cons (pe_glob (by rfl) (N2.at_ 8 _ rfl) (v := .ref d8) rfl) pa_nil)))))))))) pa_nil)))) (pss_one (ps_ret pe_bl)) pss_nil)
          (pss_cons (ps_if (pt_val (pe_callB (r := rIsEN K a cls d) (call_isEN hz hf) (by rfl) B.isi PyProof.Rows.boot_isinstance (pa_cons (pv 5) (pa_cons (pe_tup (pa_cons (pe_glob (by rfl) (N3.at_ 0 _ rfl) (v := .ref e0) rfl) (pa_cons (pe_glob (by rfl) (N3.at_ 1 _ rfl) (v := .ref e1) rfl) (pa_cons (pe_glob (by rfl) (N3.at_ 2 _ rfl) (v := .ref e2) rfl) (pa_cons (pe_glob (by rfl) (N3.at_ 3 _ rfl) (v := .ref e3) rfl) (pa_cons (pe_glob (by rfl) (N3.at_ 4 _ rfl) (v := .ref e4) rfl) (pa_cons (pe_glob (by rfl) (N3.at_ 5 _ rfl) (v := .ref e5) rfl) (pa_cons (pe_glob (by rfl) (N3.at_ 6 _ rfl) (v := .ref e6) rfl) pa_nil)))))))) pa_nil)))) (pss_one (ps_ret pe_bl)) pss_nil)
          (pss_one (ps_set (i := 3) nd rfl (.inl rfl) pe_bl)))))))
      (pss_cons (ps_if (pt_cmpR op_eq (pe_callB call_len_seq (by rfl) B.len PySem.boot_len (pa_cons (pv 1) pa_nil)) pe_int rfl)
        (pss_one (ps_ret (pv 3)))
        pss_nil) pss_any))), ?_⟩
    refine ⟨_, rfl, p, dx, _, rfl, hf.ob, nu _ _ _, .inr ⟨p, v, ys, dx, pa, fu, rfl, hf, true, X0.te, fun _ e ne => ?_, fun z => nomatch z⟩⟩
    refine ⟨_, rfl, CE, .ref cd, true, rfl, rfl, rfl, X0.ex, .inl ⟨.ref cd, fun u r => by cases r; rfl, X0.kd⟩, true, rfl, iteF ⟨_, rfl, CE, .ty "ValueError", true, rfl, rfl, rfl, X0.ex, .inl ⟨.type "ValueError", fun u r => by cases r; rfl, X0.kv⟩, true, rfl, iteF ?_⟩⟩
    refine ⟨_, rfl, by show 7 ≤ sizeLine; decide, fun T1 nT1 => ⟨CE, .ref T1, false, rfl, rfl, rfl, X0.ex, .inr ⟨T1, [c0, c1, c2, c3, c4, c5, c6], rfl, upd_same, N1.any⟩, false, rfl, iteF ?_⟩⟩
    refine ⟨_, rfl, by show 9 ≤ sizeLine; decide, fun T2 nT2 => ⟨CE, .ref T2, false, rfl, rfl, rfl, X0.ex, .inr ⟨T2, [d0, d1, d2, d3, d4, d5, d6, d7, d8], rfl, upd_same, N2.any⟩, false, rfl, iteF ?_⟩⟩
    refine ⟨_, rfl, by show 7 ≤ sizeLine; decide, fun T3 nT3 => ⟨CE, .ref T3, false, rfl, rfl, rfl, X0.ex, .inr ⟨T3, [e0, e1, e2, e3, e4, e5, e6], rfl, upd_same, N3.any⟩, false, rfl, iteF ?_⟩⟩

    have s1 := same_new (o := HO.tup ([c0, c1, c2, c3, c4, c5, c6].map V.ref)) nT1
    have s2 := s1.trans (same_new (o := HO.tup ([d0, d1, d2, d3, d4, d5, d6, d7, d8].map V.ref)) nT2)
    have s3 := s2.trans (same_new (o := HO.tup ([e0, e1, e2, e3, e4, e5, e6].map V.ref)) nT3)
    refine ⟨_, rfl, b, _, rfl, .inl (sl_map (s3 _ _ h.lb)), rfl, _, rfl, ite_both (fun c => ?_) fun c => ?_⟩
    · exact ⟨_, rfl, k _ s3 (fun c e => by grind only [= g_upd])⟩
    · exact absurd rfl (of_decide_eq_false c)
end
end K16

set_option Elab.async false
set_option linter.all false
set_option maxRecDepth 100000
set_option maxHeartbeats 4000000
namespace K16
open PySem PySem.Spec PyProof.Rows L2 Cs CsX
section
variable {P : Program} {w : World} {K : PySem.W.Frag} {mg : Str → Option Value} {base : Heap}
def spUdo (C CU : Addr) : Sp := fun vs H Q E => spUdoA C CU vs H Q E ∨ spUdoB C CU vs H Q E
/-- redo with something to redo, or with nothing -/
def spHRdoB (C CE : Addr) : Sp := fun vs H Q E => spHRdo C vs H Q E ∨ spHRdoX C CE vs H Q E
abbrev sRdo : Stmt := topS 44
abbrev nRdo : List Str := ["_law_history", "_law_before", "_law_after", "_law_refused", "_law_actual", "e"]
theorem scRdo : FnScope nRdo ["_law_history", "_law_before", "_law_after"] (defScope sRdo) := ⟨rfl, rfl, rfl, by decide +kernel, rfl, by decide +kernel, by decide +kernel⟩
def spRdoA (C CU : Addr) : Sp := fun vs H Q _ => ∃ (A : List Addr) (p b a : Addr) (xs : List V) (z v : V) (ys : List V), vs = [.ref p, .ref b, .ref a] ∧ Hs C CU H A p b a xs v (ys ++ [z]) ∧ xs.length < 9000 ∧
  ∀ (H' : Hp) (A' : List Addr), Hs C CU H' A' p b a (xs ++ [v]) z ys → Left A A' H H' → Q (.bl true) H'
theorem ok_RdoA {f f0 f1 C CU CE : Addr} {fd fd0 fd1 : FuncData} (F : Fun K "_law_redo" "_law_redo" sRdo f fd) (B : Bt mg) (T : Kls K mg "History" C hF) (O : Own0 K mg "NothingToRedo" CE)
    (CSa : Call P w K mg base 3 "_law_same_state" f1 fd1 ["_law_actual", "_law_due"] (spSam CU))
    (Un : CallMX P w K mg base 1 C "redo" f0 fd0 ["self"] (spHRdoB C CE)) (nu : ∀ pa v fu, (flds pa v fu).lookup ("redo" : Str) = none) :
    FnOk P w K mg base CX0 4 f fd ["_law_history", "_law_before", "_law_after"] (spRdoA C CU) := by
  refine F.ok scRdo (fun vs H Q E h => ?_) (fun cdv A outer s H vs Q E hr h => ?_)
  · obtain ⟨A, p, b, a, xs, z, v, ys, rfl, _⟩ := h
    rfl
  · obtain ⟨A, p, b, a, xs, z, v, ys, rfl, h, few, k⟩ := h
    obtain ⟨dx, pa, fu, hf, rfl, bpa, bfu, apa, afu⟩ := h.F
    have nd := scRdo.nd
    have n0 := h.lb; have n1 := h.la; have n2 := hf.ob
    have bp : b ≠ p := fun z => by rw [z, n2] at n0; cases n0
    have ap : a ≠ p := fun z => by rw [z, n2] at n1; cases n1
    refine ⟨_, pss_cons (ps_set (i := 3) nd rfl (.inl rfl) pe_bl)
      (pss_cons (ps_set (i := 4) nd rfl (.inl rfl) pe_non)
      (pss_cons (ps_try_as (i := 5) (c := .ref CE) (Wout := fun _ _ _ _ => False)
        (tb := fun W => tAsg (tMethX C "redo" (spHRdoB C CE) (WE W) (tVar 0) tNil) (gName 4))
        rfl rfl nd rfl rfl ⟨rfl, by decide, Or.inl O.gC⟩ takes0
        (fun W pn xe tk _ => pss_one (ps_set (i := 4) nd rfl (.inl rfl) (pe_methX0 (pv 0) T.cl Un.mt Un.ok (hr.mono (by decide)) Un.bd (fun σ => passAt tk σ))))
        (fun a oe cls d pn hz hf => pss_any))
      (pss_cons (ps_if (pt_cmpR op_eq (pe_callB call_len_seq (by rfl) B.len PySem.boot_len (pa_cons (pv 2) pa_nil)) pe_int rfl)
        (pss_one (ps_ret (pv 3)))
        pss_nil)
      (pss_cons (ps_expr (pe_bm PySem.F.plainAttrs_list PySem.F.slot_list_append PySem.F.type_list_append mt_append (pv 1) (pa_cons (pe_bm0 PySem.F.plainAttrs_list PySem.F.slot_list_pop PySem.F.type_list_pop mt_pop (pv 2)) pa_nil)))
      (pss_one (ps_ret (pe_and (pe_not (pv 3)) (pe_one (pe_call CSa.ok (hr.mono (by decide)) (by rfl) CSa.at_ CSa.kp CSa.bd .nil pass0 (pa_cons (pv 4) (pa_cons (pe_ix ix_list (pv 1) (pe_un un_neg pe_int) (fun _ _ => rfl)) pa_nil))))))))))), ?_⟩
    refine ⟨_, rfl, p, dx, _, rfl, hf.ob, nu _ _ _, .inl ⟨p, xs, z, v, ys, dx, pa, fu, rfl, hf, (by omega), fun H1 h1 kp => ?_⟩⟩
    have b1 := kp.1 _ _ bp bpa bfu h.lb
    have a1 := kp.1 _ _ ap apa afu h.la
    refine ⟨_, rfl, a, _, rfl, .inl (sl_map a1), rfl, _, rfl, ite_both (fun c => ?_) fun _ => ?_⟩
    · have := V.int.inj (of_decide_eq_true c)
      rw [List.length_append, List.length_singleton] at this
      simp at this
      omega
    have b2 : (upd H1 a (.lst ys)) b = some (.lst (xs ++ [v])) := by rw [upd_ne h.ab.symm]; exact b1
    refine ⟨_, rfl, .inl ⟨rfl, _, sl_map b1⟩, _, rfl, .inl ⟨rfl, _, sl_map a1⟩, a, _, z, rfl, rfl, a1, last_of, ?_⟩
    rw [drop_last]
    refine ⟨b, _, _, rfl, rfl, b2, Nat.lt_of_lt_of_le (m := 100000) (by rw [List.length_append]; show xs.length + 1 < 100000; omega) (by rw [sizeLine_eq]; decide), ?_⟩
    have lf : ∀ c o, c ∉ [p, pa, fu, b, a] → H c = some o → (upd (upd H1 a (.lst ys)) b (.lst (xs ++ [v] ++ [z]))) c = some o := fun c o hc e => by
      simp only [List.mem_cons, List.not_mem_nil, or_false, not_or] at hc
      rw [upd_ne hc.2.2.2.1, upd_ne hc.2.2.2.2]
      exact kp.1 c o hc.1 hc.2.1 hc.2.2.1 e
    have eb : (upd (upd H1 a (.lst ys)) b (.lst (xs ++ [v] ++ [z]))) b = some (.lst (xs ++ [v] ++ [z])) := upd_same
    have st : ∀ u ∈ xs ++ [v] ++ z :: ys, IsSt CU (upd (upd H1 a (.lst ys)) b (.lst (xs ++ [v] ++ [z]))) u := fun u hu => h.isSt lf (h.st u (by
      simp only [List.mem_append, List.mem_cons, List.not_mem_nil, or_false] at hu ⊢
      rcases hu with (hu | hu) | hu | hu
      · exact .inl hu
      · exact .inr (.inl hu)
      · exact .inr (.inr (.inr hu))
      · exact .inr (.inr (.inl hu))))
    refine ⟨_, rfl, _, rfl, _, rfl, ite_both (fun _ => ?_) fun c => nomatch c⟩
    refine ⟨_, rfl, _, rfl, 1, rfl, b, _, _, _, rfl, rfl, sl_map eb, atI_last _ _, z, rfl, st z (by simp), ?_⟩
    refine k _ [p, pa, fu, b, a] ⟨⟨dx, pa, fu, ⟨?_, ?_, ?_, h1.ne⟩, rfl, bpa, bfu, apa, afu⟩, eb, (by rw [upd_ne h.ab, upd_same]), h.ab, st⟩ ⟨lf, fun c e => kp.2 c ?_, fun c hc => .inl hc⟩
    · rw [upd_ne bp.symm, upd_ne ap.symm]; exact h1.ob
    · rw [upd_ne bpa.symm, upd_ne apa.symm]; exact h1.e1
    · rw [upd_ne bfu.symm, upd_ne afu.symm]; exact h1.e2
    · grind only [= g_upd]
def spRdoB (C CU : Addr) : Sp := fun vs H Q _ => ∃ (A : List Addr) (p b a : Addr) (xs : List V) (v : V), vs = [.ref p, .ref b, .ref a] ∧ Hs C CU H A p b a xs v [] ∧
  ∀ (H' : Hp), Same H H' → (∀ c, H' c = none → H c = none) → Q (.bl true) H'
theorem ok_RdoB {f f0 C CU CE cd : Addr} {fd fd0 : FuncData} {cs1 cs2 cs3 : List Addr} (F : Fun K "_law_redo" "_law_redo" sRdo f fd) (B : Bt mg) (T : Kls K mg "History" C hF) (O : Own0 K mg "NothingToRedo" CE) (X0 : OwnX K mg CE cd)
    (N1 : Not7 os1 K mg CE cs1) (N2 : Not9 os2 K mg CE cs2) (N3 : Not7 osR K mg CE cs3)
    (Un : CallMX P w K mg base 1 C "redo" f0 fd0 ["self"] (spHRdoB C CE)) (nu : ∀ pa v fu, (flds pa v fu).lookup ("redo" : Str) = none) :
    FnOk P w K mg base CX0 4 f fd ["_law_history", "_law_before", "_law_after"] (spRdoB C CU) := by
  refine F.ok scRdo (fun vs H Q E h => ?_) (fun cdv A outer s H vs Q E hr h => ?_)
  · obtain ⟨A, p, b, a, xs, v, rfl, _⟩ := h
    rfl
  · obtain ⟨A, p, b, a, xs, v, rfl, h, k⟩ := h
    obtain ⟨dx, pa, fu, hf, rfl, bpa, bfu, apa, afu⟩ := h.F
    have nd := scRdo.nd
    obtain ⟨c0, c1, c2, c3, c4, c5, c6, rfl⟩ := N1.len
    obtain ⟨d0, d1, d2, d3, d4, d5, d6, d7, d8, rfl⟩ := N2.len
    obtain ⟨e0, e1, e2, e3, e4, e5, e6, rfl⟩ := N3.len
    refine ⟨_, pss_cons (ps_set (i := 3) nd rfl (.inl rfl) pe_bl)
      (pss_cons (ps_set (i := 4) nd rfl (.inl rfl) pe_non)
      (pss_cons (ps_try_as (i := 5) (c := .ref CE) (Wout := fun _ _ _ _ => False)
        (tb := fun W => tAsg (tMethX C "redo" (spHRdoB C CE) (WE W) (tVar 0) tNil) (gName 4))
        rfl rfl nd rfl rfl ⟨rfl, by decide, Or.inl O.gC⟩ takes0
        (fun W pn xe tk _ => pss_one (ps_set (i := 4) nd rfl (.inl rfl) (pe_methX0 (pv 0) T.cl Un.mt Un.ok (hr.mono (by decide)) Un.bd (fun σ => passAt tk σ))))
        (fun a oe cls d pn hz hf => pss_cons (ps_if (PW.pt (pw_or (pt_not (pt_val (pe_callB (r := rIsEN K a cls d) (call_isEN hz hf) (by rfl) B.isi PyProof.Rows.boot_isinstance (pa_cons (pv 5) (pa_cons (pe_glob (by rfl) X0.gd (v := .ref cd) rfl) pa_nil))))) (pw_or1 (pt_not (pt_val (pe_callB (r := rIsEN K a cls d) (call_isEN hz hf) (by rfl) B.isi PyProof.Rows.boot_isinstance (pa_cons (pv 5) (pa_cons (pe_bltn (by rfl) X0.ve PyProof.Rows.Boot.«ValueError» (v := .ty "ValueError") rfl) pa_nil)))))))) (pss_one (ps_ret pe_bl)) pss_nil)
          (pss_cons (ps_if (pt_val (pe_callB (r := rIsEN K a cls d) (call_isEN hz hf) (by rfl) B.isi PyProof.Rows.boot_isinstance (pa_cons (pv 5) (pa_cons (pe_tup (pa_cons (pe_glob (by rfl) (N1.at_ 0 _ rfl) (v := .ref c0) rfl) (pa_cons (pe_glob (by rfl) (N1.at_ 1 _ rfl) (v := .ref c1) rfl) (pa_cons (pe_glob (by rfl) (N1.at_ 2 _ rfl) (v := .ref c2) rfl) (pa_cons (pe_glob (by rfl) (N1.at_ 3 _ rfl) (v := .ref c3) rfl) (pa_cons (pe_glob (by rfl) (N1.at_ 4 _ rfl) (v := .ref c4) rfl) (pa_cons (pe_glob (by rfl) (N1.at_ 5 _ rfl) (v := .ref c5) rfl) (pa_cons (pe_glob (by rfl) (N1.at_ 6 _ rfl) (v := .ref c6) rfl) pa_nil)))))))) pa_nil)))) (pss_one (ps_ret pe_bl)) pss_nil)
          (pss_cons (ps_if (pt_val (pe_callB (r := rIsEN K a cls d) (call_isEN hz hf) (by rfl) B.isi PyProof.Rows.boot_isinstance (pa_cons (pv 5) (pa_cons (pe_tup (pa_cons (pe_glob (by rfl) (N2.at_ 0 _ rfl) (v := .ref d0) rfl) (pa_cons (pe_glob (by rfl) (N2.at_ 1 _ rfl) (v := .ref d1) rfl) (pa_cons (pe_glob (by rfl) (N2.at_ 2 _ rfl) (v := .ref d2) rfl) (pa_cons (pe_glob (by rfl) (N2.at_ 3 _ rfl) (v := .ref d3) rfl) (pa_cons (pe_glob (by rfl) (N2.at_ 4 _ rfl) (v := .ref d4) rfl) (pa_cons (pe_glob (by rfl) (N2.at_ 5 _ rfl) (v := .ref d5) rfl) (pa_cons (pe_glob (by rfl) (N2.at_ 6 _ rfl) (v := .ref d6) rfl) (pa_cons (pe_glob (by rfl) (N2.at_ 7 _ rfl) (v := .ref d7) rfl) (pa_cons (pe_glob (by rfl) (N2.at_ 8 _ rfl) (v := .ref d8) rfl) pa_nil)))))))))) pa_nil)))) (pss_one (ps_ret pe_bl)) pss_nil)
          (pss_cons (ps_if (pt_val (pe_callB (r := rIsEN K a cls d) (call_isEN hz hf) (by rfl) B.isi PyProof.Rows.boot_isinstance (pa_cons (pv 5) (pa_cons (pe_tup (pa_cons (pe_glob (by rfl) (N3.at_ 0 _ rfl) (v := .ref e0) rfl) (pa_cons (pe_glob (by rfl) (N3.at_ 1 _ rfl) (v := .ref e1) rfl) (pa_cons (pe_glob (by rfl) (N3.at_ 2 _ rfl) (v := .ref e2) rfl) (pa_cons (pe_glob (by rfl) (N3.at_ 3 _ rfl) (v := .ref e3) rfl) (pa_cons (pe_glob (by rfl) (N3.at_ 4 _ rfl) (v := .ref e4) rfl) (pa_cons (pe_glob (by rfl) (N3.at_ 5 _ rfl) (v := .ref e5) rfl) (pa_cons (pe_glob (by rfl) (N3.at_ 6 _ rfl) (v := .ref e6) rfl) pa_nil)))))))) pa_nil)))) (pss_one (ps_ret pe_bl)) pss_nil)
          (pss_one (ps_set (i := 3) nd rfl (.inl rfl) pe_bl)))))))
      (pss_cons (ps_if (pt_cmpR op_eq (pe_callB call_len_seq (by rfl) B.len PySem.boot_len (pa_cons (pv 2) pa_nil)) pe_int rfl)
        (pss_one (ps_ret (pv 3)))
        pss_nil) pss_any))), ?_⟩
    refine ⟨_, rfl, p, dx, _, rfl, hf.ob, nu _ _ _, .inr ⟨p, xs, v, dx, pa, fu, rfl, hf, true, X0.te, fun _ e ne => ?_, fun z => nomatch z⟩⟩
    refine ⟨_, rfl, CE, .ref cd, true, rfl, rfl, rfl, X0.ex, .inl ⟨.ref cd, fun u r => by cases r; rfl, X0.kd⟩, true, rfl, iteF ⟨_, rfl, CE, .ty "ValueError", true, rfl, rfl, rfl, X0.ex, .inl ⟨.type "ValueError", fun u r => by cases r; rfl, X0.kv⟩, true, rfl, iteF ?_⟩⟩
    refine ⟨_, rfl, by show 7 ≤ sizeLine; decide, fun T1 nT1 => ⟨CE, .ref T1, false, rfl, rfl, rfl, X0.ex, .inr ⟨T1, [c0, c1, c2, c3, c4, c5, c6], rfl, upd_same, N1.any⟩, false, rfl, iteF ?_⟩⟩
    refine ⟨_, rfl, by show 9 ≤ sizeLine; decide, fun T2 nT2 => ⟨CE, .ref T2, false, rfl, rfl, rfl, X0.ex, .inr ⟨T2, [d0, d1, d2, d3, d4, d5, d6, d7, d8], rfl, upd_same, N2.any⟩, false, rfl, iteF ?_⟩⟩
    refine ⟨_, rfl, by show 7 ≤ sizeLine; decide, fun T3 nT3 => ⟨CE, .ref T3, false, rfl, rfl, rfl, X0.ex, .inr ⟨T3, [e0, e1, e2, e3, e4, e5, e6], rfl, upd_same, N3.any⟩, false, rfl, iteF ?_⟩⟩

    have s1 := same_new (o := HO.tup ([c0, c1, c2, c3, c4, c5, c6].map V.ref)) nT1
    have s2 := s1.trans (same_new (o := HO.tup ([d0, d1, d2, d3, d4, d5, d6, d7, d8].map V.ref)) nT2)
    have s3 := s2.trans (same_new (o := HO.tup ([e0, e1, e2, e3, e4, e5, e6].map V.ref)) nT3)
    refine ⟨_, rfl, a, _, rfl, .inl (sl_map (s3 _ _ h.la)), rfl, _, rfl, ite_both (fun c => ?_) fun c => ?_⟩
    · exact ⟨_, rfl, k _ s3 (fun c e => by grind only [= g_upd])⟩
    · exact absurd rfl (of_decide_eq_false c)
def spRdo (C CU : Addr) : Sp := fun vs H Q E => spRdoA C CU vs H Q E ∨ spRdoB C CU vs H Q E
end
end K16

set_option Elab.async false
set_option linter.all false
set_option maxRecDepth 100000
set_option maxHeartbeats 4000000
namespace K16
open PySem PySem.Spec PyProof.Rows L2 Cs CsX L2H HotX
theorem _root_.L2.Same.free0 {H H' : Hp} (s : Same H H') (c : Addr) (e : H' c = none) : H c = none := by
  cases e1 : H c with
  | none => rfl
  | some o => rw [s _ _ e1] at e; cases e
theorem hot_suite {X : Cx} {a : Addr} {oe : Obj} {cls : Value} {d : Option Addr} {pn : List (Addr × Obj)} (hz : L2N.Zn cls d oe) (hf : ∃ vs, oe.data = .fields vs) : HotC (X.suite a ((a, oe) :: pn)) :=
  ⟨(a, oe), ⟨rfl, hf.elim fun vs e => ⟨vs, e, hz.2.2 vs e⟩⟩, List.mem_cons_self⟩
section
variable {P : Program} {w : World} {K : PySem.W.Frag} {mg : Str → Option Value} {base : Heap}
/-- _law_is_integer, called within an except suite -/
theorem ok_isIntH {f : Addr} {fd : FuncData} (F : Fun K "_law_is_integer" "_law_is_integer" sIsInt f fd) (B : Bt mg) : FnH P w K mg base CX0 1 f fd ["_law_actual"] spIsInt := by
  refine okH F scIsInt (fun vs H Q E h => ?_) (fun cdv A outer s H vs Q E p h => ?_)
  · obtain ⟨a, rfl, _⟩ := h
    rfl
  · obtain ⟨a, rfl, q⟩ := h
    refine ⟨_, pss_one (ps_ret (pe_and (pe_callB call_isi (by rfl) B.isi PyProof.Rows.boot_isinstance (pa_cons (pv 0) (pa_cons (pe_bltn (by rfl) B.int PyProof.Rows.boot_int (v := .ty "int") rfl) pa_nil)))
      (pe_one (pe_not (pe_callB call_isi (by rfl) B.isi PyProof.Rows.boot_isinstance (pa_cons (pv 0) (pa_cons (pe_bltn (by rfl) B.bool PyProof.Rows.boot_bool (v := .ty "bool") rfl) pa_nil))))))), ?_⟩
    refine ⟨.int a, rfl, .int a, .ty "int", .type "int", .type "int", true, rfl, .ty _, .base (.int a), kit_ty (by decide +kernel), true, rfl, iteT ?_⟩
    exact ⟨.int a, rfl, .int a, .ty "bool", .type "int", .type "bool", false, rfl, .ty _, .base (.int a), kit_ty (by decide +kernel), false, rfl, q⟩
/-- back_to that raises, the context of the error known -/
theorem ok_HBakN {f C ps fs CE fI : Addr} {fd fds fdI : FuncData} (F : Fun K "back_to" "History.back_to" sHBak f fd) (T : Kls K mg "History" C hF) (B : Bt mg)
    (St : CallP P w K mg base 1 C "steps" ps fs fds (spGet C fun xs _ _ => .int (xs.length : Nat)))
    (U : Own K mg "UnknownStep" CE fI ["number"]) (Io : FnOk P w K mg base CX0 1 fI fdI ["self", "number"] (spIni CE "number")) (Ib : Binds K fdI ["self", "number"] []) :
    FnOk P w K mg base (L2N.CX P w) 3 f fd ["self", "steps"] (spHBakX C CE) := by
  refine okN F scHBak (fun vs H Q E h => ?_) (fun cdv A outer s H vs Q E hr h => ?_)
  · obtain ⟨p, n, L, v, ys, dx, pa, fu, rfl, _⟩ := h
    rfl
  · obtain ⟨p, n, L, v, ys, dx, pa, fu, rfl, h, out, k⟩ := h
    refine ⟨_, pss_cons (ps_if (PW.pt (pw_or (pt_cmpR op_lt (pv 1) pe_int rfl) (pw_or1 (pt_cmpR op_gt (pv 1) (pe_prop (pv 0) T.cl St.pr St.ok (hr.mono (by decide)) St.bd .nil pass0 rfl) rfl))))
      (pss_one (L2N.ps_raise rfl (L2N.takes_of rfl rfl rfl rfl) (pmk_oexN U.oex U.iC U.tI Io (hr.mono (by decide)) Ib pass0 (by rfl) U.gC (pa_cons (pv 1) pa_nil)))) pss_nil) pss_any, ?_⟩
    have rs := mk_one (C := CE) (f := "number") (H1 := H) (v := .int n) (Q := E) k
    refine ⟨_, rfl, _, _, rfl, rfl, _, rfl, ite_both (fun _ => ⟨.int n, rfl, rs⟩) fun c1 => ?_⟩
    refine ⟨_, rfl, _, rfl, p, dx, _, rfl, h.ob, p, L, v, ys, rfl, h.hist, _, _, rfl, rfl, _, rfl, ite_both (fun _ => ⟨.int n, rfl, rs⟩) fun c2 => ?_⟩
    have d1 := of_decide_eq_false c1
    have d2 := of_decide_eq_false c2
    rcases out with o | o
    · exact absurd o d1
    · exact absurd (show n > ((L.length : Nat) : Int) from o) d2
abbrev sBak : Stmt := topS 45
abbrev nBak : List Str := ["_law_history", "_law_before", "_law_after", "_law_target", "_law_refused", "_law_actual", "e", "_law_turn"]
theorem scBak : FnScope nBak ["_law_history", "_law_before", "_law_after", "_law_target"] (defScope sBak) := ⟨rfl, rfl, rfl, by decide +kernel, rfl, by decide +kernel, by decide +kernel⟩
/-- back_to, both ways -/
def spHBakB (C CE : Addr) : Sp := fun vs H Q E => spHBak C vs H Q E ∨ spHBakX C CE vs H Q E
def spBakB (C CU : Addr) : Sp := fun vs H Q _ => ∃ (A : List Addr) (p b a : Addr) (xs : List V) (v : V) (ys : List V) (n : Int), vs = [.ref p, .ref b, .ref a, .int n] ∧ Hs C CU H A p b a xs v ys ∧ (n < 0 ∨ (xs.length : Int) < n) ∧
  ∀ (H' : Hp), Same H H' → (∀ c, H' c = none → H c = none) → Q (.bl true) H'
theorem ok_BakB {f f0 f1 C CU CE cd fI : Addr} {fd fd0 fd1 : FuncData} {cs1 cs2 cs3 : List Addr} (F : Fun K "_law_back" "_law_back" sBak f fd) (B : Bt mg) (T : Kls K mg "History" C hF) (U : Own K mg "UnknownStep" CE fI ["number"]) (X0 : OwnX K mg CE cd)
    (N1 : Not7 os1 K mg CE cs1) (N2 : Not9 os2 K mg CE cs2) (N3 : Not7 osB K mg CE cs3) (Cii : Call P w K mg base 1 "_law_is_integer" f1 fd1 ["_law_actual"] spIsInt) (CiH : FnH P w K mg base CX0 1 f1 fd1 ["_law_actual"] spIsInt)
    (Ba : FnOk P w K mg base (L2N.CX P w) 3 f0 fd0 ["self", "steps"] (spHBakB C CE)) (Bm : Meth K C "back_to" f0) (Bb : Binds K fd0 ["self", "steps"] []) (nu : ∀ pa v fu, (flds pa v fu).lookup ("back_to" : Str) = none) :
    FnOk P w K mg base CX0 5 f fd ["_law_history", "_law_before", "_law_after", "_law_target"] (spBakB C CU) := by
  refine F.ok scBak (fun vs H Q E h => ?_) (fun cdv A outer s H vs Q E hr h => ?_)
  · obtain ⟨A, p, b, a, xs, v, ys, n, rfl, _⟩ := h
    rfl
  · obtain ⟨A, p, b, a, xs, v, ys, n, rfl, h, out, k⟩ := h
    obtain ⟨dx, pa, fu, hf, rfl, bpa, bfu, apa, afu⟩ := h.F
    have nd := scBak.nd
    obtain ⟨c0, c1, c2, c3, c4, c5, c6, rfl⟩ := N1.len
    obtain ⟨d0, d1, d2, d3, d4, d5, d6, d7, d8, rfl⟩ := N2.len
    obtain ⟨e0, e1, e2, e3, e4, e5, e6, rfl⟩ := N3.len
    refine ⟨_, pss_cons (ps_set (i := 4) nd rfl (.inl rfl) pe_bl)
      (pss_cons (ps_set (i := 5) nd rfl (.inl rfl) pe_non)
      (pss_cons (L2N.ps_try_as (i := 6) (c := .ref CE) (Wout := fun _ _ _ _ => False)
        (tb := fun W => tAsg (tMethX C "back_to" (spHBakB C CE) (WE W) (tVar 0) (tCons (tVar 3) tNil)) (gName 5))
        rfl rfl nd rfl rfl ⟨rfl, by decide, Or.inl U.gC⟩ (fun _ _ ⟨_, _, _, _, _, _, _, _, _, _, _, _, _, _, _, _, w⟩ => w.elim)
        (fun W pn xe tk _ => pss_one (ps_set (i := 5) nd rfl (.inl rfl) (pe_methX (pv 0) T.cl Bm Ba (hr.mono (by decide)) Bb (fun σ => L2N.passAt tk σ) (pa_cons (pv 3) pa_nil))))
        (fun a oe cls d pn hzn hf => pss_cons (ps_if (PW.pt (pw_or (pt_not (pt_val (pe_callB (r := rIsED K a cls d) (call_isED hzn.zc hf) (by rfl) B.isi PyProof.Rows.boot_isinstance (pa_cons (pv 6) (pa_cons (pe_glob (by rfl) X0.gd (v := .ref cd) rfl) pa_nil))))) (pw_or1 (pt_not (pt_val (pe_callB (r := rIsED K a cls d) (call_isED hzn.zc hf) (by rfl) B.isi PyProof.Rows.boot_isinstance (pa_cons (pv 6) (pa_cons (pe_bltn (by rfl) X0.ve PyProof.Rows.Boot.«ValueError» (v := .ty "ValueError") rfl) pa_nil)))))))) (pss_one (ps_ret pe_bl)) pss_nil)
          (pss_cons (ps_if (pt_val (pe_callB (r := rIsED K a cls d) (call_isED hzn.zc hf) (by rfl) B.isi PyProof.Rows.boot_isinstance (pa_cons (pv 6) (pa_cons (pe_tup (pa_cons (pe_glob (by rfl) (N1.at_ 0 _ rfl) (v := .ref c0) rfl) (pa_cons (pe_glob (by rfl) (N1.at_ 1 _ rfl) (v := .ref c1) rfl) (pa_cons (pe_glob (by rfl) (N1.at_ 2 _ rfl) (v := .ref c2) rfl) (pa_cons (pe_glob (by rfl) (N1.at_ 3 _ rfl) (v := .ref c3) rfl) (pa_cons (pe_glob (by rfl) (N1.at_ 4 _ rfl) (v := .ref c4) rfl) (pa_cons (pe_glob (by rfl) (N1.at_ 5 _ rfl) (v := .ref c5) rfl) (pa_cons (pe_glob (by rfl) (N1.at_ 6 _ rfl) (v := .ref c6) rfl) pa_nil)))))))) pa_nil)))) (pss_one (ps_ret pe_bl)) pss_nil)
          (pss_cons (ps_if (pt_val (pe_callB (r := rIsED K a cls d) (call_isED hzn.zc hf) (by rfl) B.isi PyProof.Rows.boot_isinstance (pa_cons (pv 6) (pa_cons (pe_tup (pa_cons (pe_glob (by rfl) (N2.at_ 0 _ rfl) (v := .ref d0) rfl) (pa_cons (pe_glob (by rfl) (N2.at_ 1 _ rfl) (v := .ref d1) rfl) (pa_cons (pe_glob (by rfl) (N2.at_ 2 _ rfl) (v := .ref d2) rfl) (pa_cons (pe_glob (by rfl) (N2.at_ 3 _ rfl) (v := .ref d3) rfl) (pa_cons (pe_glob (by rfl) (N2.at_ 4 _ rfl) (v := .ref d4) rfl) (pa_cons (pe_glob (by rfl) (N2.at_ 5 _ rfl) (v := .ref d5) rfl) (pa_cons (pe_glob (by rfl) (N2.at_ 6 _ rfl) (v := .ref d6) rfl) (pa_cons (pe_glob (by rfl) (N2.at_ 7 _ rfl) (v := .ref d7) rfl) (pa_cons (pe_glob (by rfl) (N2.at_ 8 _ rfl) (v := .ref d8) rfl) pa_nil)))))))))) pa_nil)))) (pss_one (ps_ret pe_bl)) pss_nil)
          (pss_cons (ps_if (pt_val (pe_callB (r := rIsED K a cls d) (call_isED hzn.zc hf) (by rfl) B.isi PyProof.Rows.boot_isinstance (pa_cons (pv 6) (pa_cons (pe_tup (pa_cons (pe_glob (by rfl) (N3.at_ 0 _ rfl) (v := .ref e0) rfl) (pa_cons (pe_glob (by rfl) (N3.at_ 1 _ rfl) (v := .ref e1) rfl) (pa_cons (pe_glob (by rfl) (N3.at_ 2 _ rfl) (v := .ref e2) rfl) (pa_cons (pe_glob (by rfl) (N3.at_ 3 _ rfl) (v := .ref e3) rfl) (pa_cons (pe_glob (by rfl) (N3.at_ 4 _ rfl) (v := .ref e4) rfl) (pa_cons (pe_glob (by rfl) (N3.at_ 5 _ rfl) (v := .ref e5) rfl) (pa_cons (pe_glob (by rfl) (N3.at_ 6 _ rfl) (v := .ref e6) rfl) pa_nil)))))))) pa_nil)))) (pss_one (ps_ret pe_bl)) pss_nil)
          (pss_cons (ps_if (PW.pt (pw_or (pt_not (pt_val (pe_callH (E := fun _ _ _ _ => False) CiH (roomH_mark (hr.mono (show 1 ≤ 4 by decide)) _) (hot_suite hzn hf) (by rfl) Cii.at_ Cii.kp Cii.bd (fun _ _ _ _ _ _ _ h => h.elim) (pa_cons (pe_xf U.xf (U.no _ (by simp)) hzn.zc hf (pv 6)) pa_nil)))) (pw_or1 (pt_cmpR op_ne (pe_xf U.xf (U.no _ (by simp)) hzn.zc hf (pv 6)) (pv 3) rfl)))) (pss_one (ps_ret pe_bl)) pss_nil) (pss_one (ps_set (i := 4) nd rfl (.inl rfl) pe_bl))))))))
      (pss_cons (ps_if (PW.pt (pw_or (pt_cmpR op_lt (pv 3) pe_int rfl) (pw_or1 (pt_cmpR op_ge (pv 3) (pe_callB call_len_seq (by rfl) B.len PySem.boot_len (pa_cons (pv 1) pa_nil)) rfl))))
        (pss_one (ps_ret (pv 4)))
        pss_nil) pss_any))), ?_⟩
    refine ⟨_, rfl, p, dx, _, rfl, hf.ob, nu _ _ _, _, rfl, .inr ⟨p, n, xs, v, ys, dx, pa, fu, rfl, hf, out, fun d H1 ndd sm ed => ⟨true, X0.te, fun _ e ne => ?_, fun z => nomatch z⟩⟩⟩
    refine ⟨_, rfl, CE, d, _, .ref cd, true, rfl, rfl, rfl, ed, X0.ex, .inl ⟨.ref cd, fun u r => by cases r; rfl, X0.kd⟩, true, rfl, iteF ⟨_, rfl, CE, d, _, .ty "ValueError", true, rfl, rfl, rfl, ed, X0.ex, .inl ⟨.type "ValueError", fun u r => by cases r; rfl, X0.kv⟩, true, rfl, iteF ?_⟩⟩
    refine ⟨_, rfl, by show 7 ≤ sizeLine; decide, fun T1 nT1 => ?_⟩
    replace ed := same_new (o := HO.tup ([c0, c1, c2, c3, c4, c5, c6].map V.ref)) nT1 _ _ ed
    replace sm := sm.trans (same_new (o := HO.tup ([c0, c1, c2, c3, c4, c5, c6].map V.ref)) nT1)
    refine ⟨CE, d, _, .ref T1, false, rfl, rfl, rfl, ed, X0.ex, .inr ⟨T1, [c0, c1, c2, c3, c4, c5, c6], rfl, upd_same, N1.any⟩, false, rfl, iteF ?_⟩
    refine ⟨_, rfl, by show 9 ≤ sizeLine; decide, fun T2 nT2 => ?_⟩
    replace ed := same_new (o := HO.tup ([d0, d1, d2, d3, d4, d5, d6, d7, d8].map V.ref)) nT2 _ _ ed
    replace sm := sm.trans (same_new (o := HO.tup ([d0, d1, d2, d3, d4, d5, d6, d7, d8].map V.ref)) nT2)
    refine ⟨CE, d, _, .ref T2, false, rfl, rfl, rfl, ed, X0.ex, .inr ⟨T2, [d0, d1, d2, d3, d4, d5, d6, d7, d8], rfl, upd_same, N2.any⟩, false, rfl, iteF ?_⟩
    refine ⟨_, rfl, by show 7 ≤ sizeLine; decide, fun T3 nT3 => ?_⟩
    replace ed := same_new (o := HO.tup ([e0, e1, e2, e3, e4, e5, e6].map V.ref)) nT3 _ _ ed
    replace sm := sm.trans (same_new (o := HO.tup ([e0, e1, e2, e3, e4, e5, e6].map V.ref)) nT3)
    refine ⟨CE, d, _, .ref T3, false, rfl, rfl, rfl, ed, X0.ex, .inr ⟨T3, [e0, e1, e2, e3, e4, e5, e6], rfl, upd_same, N3.any⟩, false, rfl, iteF ?_⟩

    have lk : ([("number", V.int n)] : List (Str × V)).lookup ("number" : Str) = some (.int n) := by simp [List.lookup]
    refine ⟨_, rfl, rfl, rfl, d, _, .int n, rfl, ed, lk, n, rfl, _, rfl, ite_both (fun c => absurd c (by decide)) fun _ => ?_⟩
    refine ⟨_, rfl, rfl, rfl, d, _, .int n, rfl, ed, lk, _, rfl, rfl, _, rfl, ite_both (fun c => ?_) fun _ => ?_⟩
    · have c' : (!decide (V.int n = V.int n)) = true := c
      rw [decide_eq_true rfl] at c'
      cases c'
    refine ⟨_, rfl, _, _, rfl, rfl, _, rfl, ite_both (fun _ => ⟨_, rfl, k _ sm sm.free0⟩) fun c1 => ?_⟩
    refine ⟨_, rfl, _, rfl, b, _, rfl, .inl (sl_map (sm _ _ h.lb)), _, _, rfl, rfl, _, rfl, ite_both (fun _ => ⟨_, rfl, k _ sm sm.free0⟩) fun c2 => ?_⟩
    have d1 := of_decide_eq_false c1
    have d2 := of_decide_eq_false c2
    rw [List.length_append, List.length_singleton] at d2
    exfalso
    rcases out with o | o
    · exact d1 o
    · exact d2 (by show ((xs.length + 1 : Nat) : Int) ≤ n; omega)
end
end K16

set_option Elab.async false
set_option linter.all false
set_option maxRecDepth 100000
set_option maxHeartbeats 4000000
namespace K16
open PySem PySem.Spec PyProof.Rows L2 Cs CsX L2H HotX
theorem take_top {L : List V} {v : V} : (L ++ [v]).take (L.length + 1) = L ++ [v] := List.take_of_length_le (by rw [List.length_append]; exact Nat.le_refl _)
theorem take_rowv {L : List V} {v : V} {m : Nat} (h : m ≤ L.length) : (L ++ [v]).take (m + 1) = (L ++ [v]).take m ++ [row L v m] := take_snoc (row_at h)
theorem take_in {L : List V} {v : V} {m : Nat} (h : m ≤ L.length) : (L ++ [v]).take m = L.take m := by rw [List.take_append_of_le_length h]
section
variable {P : Program} {w : World} {K : PySem.W.Frag} {mg : Str → Option Value} {base : Heap}
/-- a heap that says of p, pa, fu what H1 says, and b, a -/
def spBakA (C CU : Addr) : Sp := fun vs H Q _ => ∃ (A : List Addr) (p b a : Addr) (xs : List V) (v : V) (ys : List V) (n : Nat), vs = [.ref p, .ref b, .ref a, .int (n : Int)] ∧ Hs C CU H A p b a xs v ys ∧ n ≤ xs.length ∧ xs.length + ys.length ≤ 5000 ∧
  ∀ (H' : Hp) (A' : List Addr), Hs C CU H' A' p b a (xs.take n) (row xs v n) (ys ++ ((xs ++ [v]).drop (n + 1)).reverse) → Left A A' H H' → Q (.bl true) H'
theorem ok_BakA {f f0 f1 C CU CE fI : Addr} {fd fd0 fd1 : FuncData} (F : Fun K "_law_back" "_law_back" sBak f fd) (B : Bt mg) (T : Kls K mg "History" C hF) (U : Own K mg "UnknownStep" CE fI ["number"])
    (CSa : Call P w K mg base 3 "_law_same_state" f1 fd1 ["_law_actual", "_law_due"] (spSam CU))
    (Ba : FnOk P w K mg base (L2N.CX P w) 3 f0 fd0 ["self", "steps"] (spHBakB C CE)) (Bm : Meth K C "back_to" f0) (Bb : Binds K fd0 ["self", "steps"] []) (nu : ∀ pa v fu, (flds pa v fu).lookup ("back_to" : Str) = none) :
    FnOk P w K mg base CX0 5 f fd ["_law_history", "_law_before", "_law_after", "_law_target"] (spBakA C CU) := by
  refine F.ok scBak (fun vs H Q E h => ?_) (fun cdv A outer s H vs Q E hr h => ?_)
  · obtain ⟨A, p, b, a, xs, v, ys, n, rfl, _⟩ := h
    rfl
  · obtain ⟨A, p, b, a, xs, v, ys, n, rfl, h, nl, few, k⟩ := h
    obtain ⟨dx, pa, fu, hf, rfl, bpa, bfu, apa, afu⟩ := h.F
    have nd := scBak.nd
    have n0 := h.lb; have n1 := h.la; have n2 := hf.ob
    have bp : b ≠ p := fun z => by rw [z, n2] at n0; cases n0
    have ap : a ≠ p := fun z => by rw [z, n2] at n1; cases n1
    refine ⟨_, pss_cons (ps_set (i := 4) nd rfl (.inl rfl) pe_bl)
      (pss_cons (ps_set (i := 5) nd rfl (.inl rfl) pe_non)
      (pss_cons (L2N.ps_try_as (i := 6) (c := .ref CE) (Wout := fun _ _ _ _ => False)
        (tb := fun W => tAsg (tMethX C "back_to" (spHBakB C CE) (WE W) (tVar 0) (tCons (tVar 3) tNil)) (gName 5))
        rfl rfl nd rfl rfl ⟨rfl, by decide, Or.inl U.gC⟩ (fun _ _ ⟨_, _, _, _, _, _, _, _, _, _, _, _, _, _, _, _, w⟩ => w.elim)
        (fun W pn xe tk _ => pss_one (ps_set (i := 5) nd rfl (.inl rfl) (pe_methX (pv 0) T.cl Bm Ba (hr.mono (by decide)) Bb (fun σ => L2N.passAt tk σ) (pa_cons (pv 3) pa_nil))))
        (fun a oe cls d pn hzn hf => pss_any))
      (pss_cons (ps_if (PW.pt (pw_or (pt_cmpR op_lt (pv 3) pe_int rfl) (pw_or1 (pt_cmpR op_ge (pv 3) (pe_callB call_len_seq (by rfl) B.len PySem.boot_len (pa_cons (pv 1) pa_nil)) rfl))))
        (pss_one (ps_ret (pv 4)))
        pss_nil)
      (pss_cons (ps_for PassesOwn.never rfl (pi_range1 (by rfl) B.range (pa_cons (pe_op op_sub (pe_op op_sub (pe_callB call_len_seq (by rfl) B.len PySem.boot_len (pa_cons (pv 1) pa_nil)) pe_int) (pv 3)) pa_nil)) (pg_name (i := 7) nd rfl (.inl rfl))
        (pss_one (ps_expr (pe_bm PySem.F.plainAttrs_list PySem.F.slot_list_append PySem.F.type_list_append mt_append (pv 2) (pa_cons (pe_bm0 PySem.F.plainAttrs_list PySem.F.slot_list_pop PySem.F.type_list_pop mt_pop (pv 1)) pa_nil)))))
      (pss_one (ps_ret (pe_and (pe_not (pv 4)) (pe_one (pe_call CSa.ok (hr.mono (by decide)) (by rfl) CSa.at_ CSa.kp CSa.bd .nil pass0 (pa_cons (pv 5) (pa_cons (pe_ix ix_list (pv 1) (pe_un un_neg pe_int) (fun _ _ => rfl)) pa_nil))))))))))), ?_⟩
    refine ⟨_, rfl, p, dx, _, rfl, hf.ob, nu _ _ _, _, rfl, .inl ⟨p, n, xs, v, ys, dx, pa, fu, rfl, hf, nl, few, fun H1 h1 kp => ?_⟩⟩
    have b1 := kp.1 _ _ bp bpa bfu h.lb
    have a1 := kp.1 _ _ ap apa afu h.la
    refine ⟨_, rfl, _, _, rfl, rfl, _, rfl, ite_both (fun c => absurd (of_decide_eq_true c) (by omega)) fun _ => ?_⟩
    refine ⟨_, rfl, _, rfl, b, _, rfl, .inl (sl_map b1), _, _, rfl, rfl, _, rfl, ite_both (fun c => ?_) fun _ => ?_⟩
    · have c' := of_decide_eq_true c
      rw [List.length_append, List.length_singleton] at c'
      exact absurd c' (by omega)
    have hn : (((xs ++ [v]).length : Nat) : Int) - 1 - (n : Int) = ((xs.length - n : Nat) : Int) := by rw [List.length_append, List.length_singleton]; omega
    refine ⟨_, rfl, b, _, rfl, .inl (sl_map b1), _, _, rfl, rfl, _, rfl, _, _, rfl, rfl, _, rfl, by rw [hn]; omega, by rw [hn]; omega, ?_⟩
    rw [hn]
    refine for_range (lo := 0) (fun i σ H' => i ≤ xs.length - n ∧ H' b = some (.lst ((xs ++ [v]).take (xs.length + 1 - i))) ∧ H' a = some (.lst (ys ++ ((xs ++ [v]).drop (xs.length + 1 - i)).reverse)) ∧ (∀ c, c ≠ a → c ≠ b → H' c = H1 c) ∧ ∃ y7, σ = [some (.ref p), some (.ref b), some (.ref a), some (.int (n : Int)), some (.bl false), some (row xs v n), none, y7]) ?start ?turn ?done
    case start =>
      refine ⟨Nat.zero_le _, ?_, ?_, fun _ _ _ => rfl, none, rfl⟩
      · show H1 b = some (.lst ((xs ++ [v]).take (xs.length + 1)))
        rw [take_top]; exact b1
      · show H1 a = some (.lst (ys ++ ((xs ++ [v]).drop (xs.length + 1)).reverse))
        rw [List.drop_eq_nil_of_le (by rw [List.length_append]; exact Nat.le_refl _)]
        show H1 a = some (.lst (ys ++ []))
        rw [List.append_nil]; exact a1
    case turn =>
      rintro i σ H2 hi ⟨_, e1, e2, ot, y7, rfl⟩
      have hi' : i < xs.length - n := by omega
      obtain ⟨m, hm⟩ : ∃ m, xs.length + 1 - i = m + 1 := ⟨xs.length - i, by omega⟩
      have mx : m ≤ xs.length := by omega
      rw [hm, take_rowv mx] at e1
      rw [hm] at e2
      have e3 : (upd H2 b (.lst ((xs ++ [v]).take m))) a = some (.lst (ys ++ ((xs ++ [v]).drop (m + 1)).reverse)) := by rw [upd_ne h.ab]; exact e2
      refine ⟨_, rfl, .inl ⟨rfl, _, sl_map e2⟩, _, rfl, .inl ⟨rfl, _, sl_map e1⟩, b, _, row xs v m, rfl, rfl, e1, last_of, ?_⟩
      rw [drop_last]
      refine ⟨a, _, _, rfl, rfl, e3, Nat.lt_of_lt_of_le (m := 100000) ?_ (by rw [sizeLine_eq]; decide), by omega, ?_, ?_, fun c ca cb => ?_, _, rfl⟩
      · rw [List.length_append, List.length_reverse, List.length_drop, List.length_append]
        show ys.length + (xs.length + 1 - (m + 1)) < 100000
        omega
      · rw [upd_ne h.ab.symm, upd_same, show xs.length + 1 - (i + 1) = m by omega]
      · rw [upd_same, show xs.length + 1 - (i + 1) = m by omega, drop_row mx, List.append_assoc]
      · rw [upd_ne ca, upd_ne cb]; exact ot c ca cb
    case done =>
      rintro σ H2 ⟨_, e1, e2, ot, y7, rfl⟩
      rw [Int.toNat_natCast] at e1 e2
      rw [show xs.length + 1 - (xs.length - n) = n + 1 by omega, take_rowv nl, take_in nl] at e1
      rw [show xs.length + 1 - (xs.length - n) = n + 1 by omega] at e2
      have lf : ∀ c o, c ∉ [p, pa, fu, b, a] → H c = some o → H2 c = some o := fun c o hc e => by
        simp only [List.mem_cons, List.not_mem_nil, or_false, not_or] at hc
        rw [ot c hc.2.2.2.2 hc.2.2.2.1]
        exact kp.1 c o hc.1 hc.2.1 hc.2.2.1 e
      have all : ∀ u, u ∈ xs.take n ++ row xs v n :: (ys ++ ((xs ++ [v]).drop (n + 1)).reverse) → u ∈ xs ++ v :: ys := fun u hu => by
        have r1 : row xs v n ∈ xs ++ [v] := List.mem_of_getElem? (row_at nl)
        simp only [List.mem_append, List.mem_cons, List.not_mem_nil, or_false, List.mem_reverse] at hu r1 ⊢
        rcases hu with hu | rfl | hu | hu
        · exact .inl (List.mem_of_mem_take hu)
        · exact r1.elim .inl fun z => .inr (.inl z)
        · exact .inr (.inr hu)
        · have := List.mem_of_mem_drop hu
          simp only [List.mem_append, List.mem_cons, List.not_mem_nil, or_false] at this
          exact this.elim .inl fun z => .inr (.inl z)
      have st : ∀ u ∈ xs.take n ++ row xs v n :: (ys ++ ((xs ++ [v]).drop (n + 1)).reverse), IsSt CU H2 u := fun u hu => h.isSt lf (h.st u (all u hu))
      refine ⟨_, rfl, _, rfl, _, rfl, ite_both (fun _ => ?_) fun c => nomatch c⟩
      refine ⟨_, rfl, _, rfl, 1, rfl, b, _, _, _, rfl, rfl, sl_map e1, atI_last _ _, row xs v n, rfl, st _ (by simp), ?_⟩
      refine k _ [p, pa, fu, b, a] ⟨⟨dx, pa, fu, ⟨?_, ?_, ?_, h1.ne⟩, rfl, bpa, bfu, apa, afu⟩, e1, e2, h.ab, st⟩ ⟨lf, fun c e => ?_, fun c hc => .inl hc⟩
      · rw [ot _ ap.symm bp.symm]; exact h1.ob
      · rw [ot _ apa.symm bpa.symm]; exact h1.e1
      · rw [ot _ afu.symm bfu.symm]; exact h1.e2
      · by_cases ca : c = a
        · rw [ca, e2] at e; cases e
        by_cases cb : c = b
        · rw [cb, e1] at e; cases e
        rw [ot c ca cb] at e
        exact kp.2 c e
def spBak (C CU : Addr) : Sp := fun vs H Q E => spBakA C CU vs H Q E ∨ spBakB C CU vs H Q E
end
end K16

set_option Elab.async false
set_option linter.all false
set_option maxRecDepth 100000
set_option maxHeartbeats 4000000
namespace K16
open PySem PySem.Spec PyProof.Rows L2 Cs CsX
theorem FnOk.weak {P : Program} {w : World} {K : PySem.W.Frag} {mg : Str → Option Value} {base : Heap} {CX : CXT} {k : Nat} {f : Addr} {fd : FuncData} {ps : List Str} {sp sp2 : Sp} (F : FnOk P w K mg base CX k f fd ps sp) (h : ∀ vs H Q E, sp2 vs H Q E → sp vs H Q E) : FnOk P w K mg base CX k f fd ps sp2 :=
  ⟨fun vs H Q E s => F.len vs H Q E (h _ _ _ _ s), fun A outer s H args us vs Q E hr he hb hv hs => F.run A outer s H args us vs Q E hr he hb hv (h _ _ _ _ hs)⟩
/-- a History with the law's own lists; n: how many states there are beside the present one -/
def HsN (C CU : Addr) (H : Hp) (A : List Addr) (p b a : Addr) (n : Nat) : Prop := ∃ xs v ys, Hs C CU H A p b a xs v ys ∧ xs.length + ys.length = n
theorem Hs.same {C CU : Addr} {H H' : Hp} {A : List Addr} {p b a : Addr} {xs ys : List V} {v : V} (h : Hs C CU H A p b a xs v ys) (s : Same H H') : Hs C CU H' A p b a xs v ys := by
  obtain ⟨dx, pa, fu, hf, e⟩ := h.F
  exact ⟨⟨dx, pa, fu, ⟨s _ _ hf.ob, s _ _ hf.e1, s _ _ hf.e2, hf.ne⟩, e⟩, s _ _ h.lb, s _ _ h.la, h.ab, fun u hu => h.isSt (fun c o _ e => s c o e) (h.st u hu)⟩
theorem HsN.same {C CU : Addr} {H H' : Hp} {A : List Addr} {p b a : Addr} {n : Nat} (h : HsN C CU H A p b a n) (s : Same H H') : HsN C CU H' A p b a n := by
  obtain ⟨xs, v, ys, h, e⟩ := h
  exact ⟨xs, v, ys, h.same s, e⟩
theorem Left.same (A : List Addr) {H H' : Hp} (s : Same H H') : Left A A H H' := ⟨fun c o _ e => s c o e, s.free0, fun _ h => .inl h⟩
/-- what is said of the places of a list -/
theorem Hs.far {C CU : Addr} {H H' : Hp} {A : List Addr} {p b a st : Addr} {xs ys : List V} {v : V} (h : Hs C CU H A p b a xs v ys) (n : st ∉ A) (s : Strm H st) (k : Keep st H H') : Hs C CU H' A p b a xs v ys := by
  obtain ⟨dx, pa, fu, hf, rfl, r⟩ := h.F
  simp only [List.mem_cons, List.not_mem_nil, or_false, not_or] at n
  obtain ⟨i, j, l, hst⟩ := s
  refine ⟨⟨dx, pa, fu, ⟨k _ _ (Ne.symm n.1) hf.ob, k _ _ (Ne.symm n.2.1) hf.e1, k _ _ (Ne.symm n.2.2.1) hf.e2, hf.ne⟩, rfl, r⟩, k _ _ (Ne.symm n.2.2.2.1) h.lb, k _ _ (Ne.symm n.2.2.2.2) h.la, h.ab, fun u hu => ?_⟩
  rcases h.st u hu with t | t | ⟨q, zs, rfl, few, dx, t, e1, e2⟩
  · exact .inl t
  · exact .inr (.inl t)
  · refine .inr (.inr ⟨q, zs, rfl, few, dx, t, k _ _ (fun z => ?_) e1, k _ _ (fun z => ?_) e2⟩)
    · rw [z, hst] at e1; cases e1
    · rw [z, hst] at e2; cases e2
theorem HsN.far {C CU : Addr} {H H' : Hp} {A : List Addr} {p b a st : Addr} {n : Nat} (h : HsN C CU H A p b a n) (m : st ∉ A) (s : Strm H st) (k : Keep st H H') : HsN C CU H' A p b a n := by
  obtain ⟨xs, v, ys, h, e⟩ := h
  exact ⟨xs, v, ys, h.far m s k, e⟩
/-- of a list of states at p, b, a: what an operation promises -/
def spOp (C CU : Addr) : Sp := fun vs H Q _ => ∃ (A : List Addr) (p b a : Addr) (n : Nat), vs = [.ref p, .ref b, .ref a] ∧ HsN C CU H A p b a n ∧ n ≤ 4000 ∧
  ∀ (H' : Hp) (A' : List Addr), HsN C CU H' A' p b a n → Left A A' H H' → Q (.bl true) H'
def spBakN (C CU : Addr) : Sp := fun vs H Q _ => ∃ (A : List Addr) (p b a : Addr) (n : Nat) (m : Int), vs = [.ref p, .ref b, .ref a, .int m] ∧ HsN C CU H A p b a n ∧ n ≤ 4000 ∧
  ∀ (H' : Hp) (A' : List Addr), HsN C CU H' A' p b a n → Left A A' H H' → Q (.bl true) H'
def spPusN (C CU : Addr) : Sp := fun vs H Q _ => ∃ (A : List Addr) (p b a : Addr) (n : Nat) (u : V), vs = [.ref p, .ref b, .ref a, u] ∧ HsN C CU H A p b a n ∧ n ≤ 4000 ∧ IsSt CU H u ∧
  ∀ (H' : Hp) (A' : List Addr) (n' : Nat), HsN C CU H' A' p b a n' → n' ≤ n + 1 → Left A A' H H' → Q (.bl true) H'
def spLooN (C CU : Addr) : Sp := fun vs H Q _ => ∃ (A : List Addr) (p b a : Addr) (n : Nat), vs = [.ref p, .ref b, .ref a] ∧ HsN C CU H A p b a n ∧ Q (.bl true) H
theorem udo_op {C CU : Addr} (vs : List V) (H : Hp) (Q : VK) (E : XK) (h : spOp C CU vs H Q E) : spUdoA C CU vs H Q E ∨ spUdoB C CU vs H Q E := by
  obtain ⟨A, p, b, a, n, rfl, ⟨xs, v, ys, h, e⟩, few, k⟩ := h
  rcases List.eq_nil_or_concat xs with rfl | ⟨L, z, rfl⟩
  · exact .inr ⟨A, p, b, a, v, ys, rfl, h, fun H' s _ => k _ _ ⟨_, _, _, h.same s, e⟩ (Left.same A s)⟩
  · rw [List.concat_eq_append] at h e
    rw [List.length_append, List.length_singleton] at e
    exact .inl ⟨A, p, b, a, L, z, v, ys, rfl, h, by omega, fun H' A' h' l => k _ _ ⟨_, _, _, h', by rw [List.length_append, List.length_singleton]; omega⟩ l⟩
theorem rdo_op {C CU : Addr} (vs : List V) (H : Hp) (Q : VK) (E : XK) (h : spOp C CU vs H Q E) : spRdoA C CU vs H Q E ∨ spRdoB C CU vs H Q E := by
  obtain ⟨A, p, b, a, n, rfl, ⟨xs, v, ys, h, e⟩, few, k⟩ := h
  rcases List.eq_nil_or_concat ys with rfl | ⟨L, z, rfl⟩
  · exact .inr ⟨A, p, b, a, xs, v, rfl, h, fun H' s _ => k _ _ ⟨_, _, _, h.same s, e⟩ (Left.same A s)⟩
  · rw [List.concat_eq_append] at h e
    rw [List.length_append, List.length_singleton] at e
    exact .inl ⟨A, p, b, a, xs, z, v, L, rfl, h, by omega, fun H' A' h' l => k _ _ ⟨_, _, _, h', by rw [List.length_append, List.length_singleton]; omega⟩ l⟩
theorem bak_op {C CU : Addr} (vs : List V) (H : Hp) (Q : VK) (E : XK) (h : spBakN C CU vs H Q E) : spBakA C CU vs H Q E ∨ spBakB C CU vs H Q E := by
  obtain ⟨A, p, b, a, n, m, rfl, ⟨xs, v, ys, h, e⟩, few, k⟩ := h
  by_cases c : m < 0 ∨ (xs.length : Int) < m
  · exact .inr ⟨A, p, b, a, xs, v, ys, m, rfl, h, c, fun H' s _ => k _ _ ⟨_, _, _, h.same s, e⟩ (Left.same A s)⟩
  · obtain ⟨j, rfl⟩ := Int.eq_ofNat_of_zero_le (a := m) (by omega)
    refine .inl ⟨A, p, b, a, xs, v, ys, j, rfl, h, by omega, by omega, fun H' A' h' l => k _ _ ⟨_, _, _, h', ?_⟩ l⟩
    rw [List.length_append, List.length_reverse, List.length_drop, List.length_append, List.length_take, List.length_singleton]
    omega
theorem pus_op {C CU : Addr} (vs : List V) (H : Hp) (Q : VK) (E : XK) (h : spPusN C CU vs H Q E) : spPus C CU vs H Q E := by
  obtain ⟨A, p, b, a, n, u, rfl, ⟨xs, v, ys, h, e⟩, few, su, k⟩ := h
  refine ⟨A, p, b, a, xs, v, ys, u, rfl, h, su, by omega, fun H' A' h' l => k _ _ _ ⟨_, _, _, h', rfl⟩ ?_ l⟩
  rw [List.length_append, List.length_singleton]
  show xs.length + 1 + 0 ≤ n + 1
  omega
theorem loo_op {C CU : Addr} (vs : List V) (H : Hp) (Q : VK) (E : XK) (h : spLooN C CU vs H Q E) : spLoo C CU vs H Q E := by
  obtain ⟨A, p, b, a, n, rfl, ⟨xs, v, ys, h, e⟩, k⟩ := h
  exact ⟨A, p, b, a, xs, v, ys, rfl, h, k⟩
/-- what a deed leaves: the stream at st, and the History's own -/
structure LeftS (st : Addr) (A A' : List Addr) (H H' : Hp) : Prop where
  keep : ∀ c o, c ∉ A → c ≠ st → H c = some o → H' c = some o
  free : ∀ c, H' c = none → H c = none
  new : ∀ c ∈ A', c ∈ A ∨ H c = none
theorem LeftS.of {st : Addr} {A A' : List Addr} {H H1 H' : Hp} (k : Keep st H H1) (f : ∀ c, H1 c = none → H c = none) (l : Left A A' H1 H') : LeftS st A A' H H' :=
  ⟨fun c o n m e => l.keep c o n (k c o m e), fun c e => f c (l.free c e), fun c h => (l.new c h).imp id (f c)⟩
section
variable {P : Program} {w : World} {K : PySem.W.Frag} {mg : Str → Option Value} {base : Heap}
abbrev sDee : Stmt := topS 47
abbrev nDee : List Str := ["_law_history", "_law_before", "_law_after", "_law_stream_here", "_law_way"]
theorem scDee : FnScope nDee ["_law_history", "_law_before", "_law_after", "_law_stream_here"] (defScope sDee) := ⟨rfl, rfl, rfl, by decide +kernel, rfl, by decide +kernel, by decide +kernel⟩
def spDee (C CU : Addr) : Sp := fun vs H Q _ => ∃ (A : List Addr) (p b a st : Addr) (n : Nat), vs = [.ref p, .ref b, .ref a, .ref st] ∧ HsN C CU H A p b a n ∧ n ≤ 3000 ∧ Strm H st ∧ st ∉ A ∧
  ∀ (H' : Hp) (A' : List Addr) (n' : Nat), HsN C CU H' A' p b a n' → n' ≤ n + 1 → LeftS st A A' H H' → Strm H' st → Q (.bl true) H'
theorem ok_Dee {f f0 f1 f2 f3 f4 f5 C CU : Addr} {fd fd0 fd1 fd2 fd3 fd4 fd5 : FuncData} (F : Fun K "_law_deed" "_law_deed" sDee f fd) (B : Bt mg) (D : Call P w K mg base 1 "_law_next" f0 fd0 ["_law_stream_here", "_law_size"] spDraw)
    (CSt : Call P w K mg base 4 "_law_state" f1 fd1 ["_law_stream_here"] (spSta CU))
    (CUdo : Call P w K mg base 4 "_law_undo" f2 fd2 ["_law_history", "_law_before", "_law_after"] (spOp C CU)) (CRdo : Call P w K mg base 4 "_law_redo" f3 fd3 ["_law_history", "_law_before", "_law_after"] (spOp C CU))
    (CBak : Call P w K mg base 5 "_law_back" f4 fd4 ["_law_history", "_law_before", "_law_after", "_law_target"] (spBakN C CU)) (CPus : Call P w K mg base 3 "_law_push" f5 fd5 ["_law_history", "_law_before", "_law_after", "_law_pushed"] (spPusN C CU)) :
    FnOk P w K mg base CX0 6 f fd ["_law_history", "_law_before", "_law_after", "_law_stream_here"] (spDee C CU) := by
  refine F.ok scDee (fun vs H Q E h => ?_) (fun cdv A outer s H vs Q E hr h => ?_)
  · obtain ⟨A, p, b, a, st, n, rfl, _⟩ := h
    rfl
  · obtain ⟨A, p, b, a, st, n, rfl, h, few, hs, na, k⟩ := h
    have nd := scDee.nd
    refine ⟨_, pss_cons (ps_set (i := 4) nd rfl (.inl rfl) (pe_call D.ok (hr.mono (by decide)) (by rfl) D.at_ D.kp D.bd .nil pass0 (pa_cons (pv 3) (pa_cons pe_int pa_nil))))
      (pss_cons (ps_if (pt_cmpR op_eq (pv 4) pe_int rfl)
        (pss_one (ps_ret (pe_call CPus.ok (hr.mono (by decide)) (by rfl) CPus.at_ CPus.kp CPus.bd .nil pass0 (pa_cons (pv 0) (pa_cons (pv 1) (pa_cons (pv 2) (pa_cons (pe_ix ix_list (pv 1) (pe_un un_neg pe_int) (fun _ _ => rfl)) pa_nil)))))))
        pss_nil)
      (pss_cons (ps_if (pt_cmpR op_lt (pv 4) pe_int rfl)
        (pss_one (ps_ret (pe_call CPus.ok (hr.mono (by decide)) (by rfl) CPus.at_ CPus.kp CPus.bd .nil pass0 (pa_cons (pv 0) (pa_cons (pv 1) (pa_cons (pv 2) (pa_cons (pe_call CSt.ok (hr.mono (by decide)) (by rfl) CSt.at_ CSt.kp CSt.bd .nil pass0 (pa_cons (pv 3) pa_nil)) pa_nil)))))))
        pss_nil)
      (pss_cons (ps_if (pt_cmpR op_lt (pv 4) pe_int rfl)
        (pss_one (ps_ret (pe_call CUdo.ok (hr.mono (by decide)) (by rfl) CUdo.at_ CUdo.kp CUdo.bd .nil pass0 (pa_cons (pv 0) (pa_cons (pv 1) (pa_cons (pv 2) pa_nil))))))
        pss_nil)
      (pss_cons (ps_if (pt_cmpR op_eq (pv 4) pe_int rfl)
        (pss_one (ps_ret (pe_call CRdo.ok (hr.mono (by decide)) (by rfl) CRdo.at_ CRdo.kp CRdo.bd .nil pass0 (pa_cons (pv 0) (pa_cons (pv 1) (pa_cons (pv 2) pa_nil))))))
        pss_nil)
      (pss_one (ps_ret (pe_call CBak.ok (hr.mono (by decide)) (by rfl) CBak.at_ CBak.kp CBak.bd .nil pass0 (pa_cons (pv 0) (pa_cons (pv 1) (pa_cons (pv 2) (pa_cons (pe_op op_sub (pe_call D.ok (hr.mono (by decide)) (by rfl) D.at_ D.kp D.bd .nil pass0 (pa_cons (pv 3) (pa_cons (pe_op op_add (pe_callB call_len_seq (by rfl) B.len PySem.boot_len (pa_cons (pv 1) pa_nil)) pe_int) pa_nil))) pe_int) pa_nil))))))))))), ?_⟩
    have fin : ∀ Hm, Keep st H Hm → (∀ c, Hm c = none → H c = none) → Strm Hm st → ∀ (H' : Hp) (A' : List Addr) (n' : Nat), HsN C CU H' A' p b a n' → n' ≤ n + 1 → Left A A' Hm H' → Q (.bl true) H' := fun Hm km fm sm H' A' n' h' le l => by
      refine k H' A' n' h' le (LeftS.of km fm l) ?_
      obtain ⟨x, y, z, e⟩ := sm
      exact ⟨x, y, z, l.keep _ _ na e⟩
    refine ⟨_, rfl, st, 8, rfl, hs, by decide, by decide, fun H1 d o1 s1 d0 d8 => ?_⟩
    have f1 := oth_free o1 s1
    have k1 : Keep st H H1 := (Keep.refl st H).oth o1
    have h1 := h.far na hs k1
    have h1' := h1
    obtain ⟨xs, v, ys, g, e⟩ := h1'
    refine ⟨_, rfl, rfl, _, rfl, ite_both (fun _ => ?_) fun _ => ⟨_, rfl, _, _, rfl, rfl, _, rfl, ite_both (fun _ => ?_) fun _ => ⟨_, rfl, _, _, rfl, rfl, _, rfl, ite_both (fun _ => ?_) fun _ => ⟨_, rfl, rfl, _, rfl, ite_both (fun _ => ?_) fun _ => ?_⟩⟩⟩⟩
    · exact ⟨_, rfl, _, rfl, _, rfl, _, rfl, 1, rfl, b, _, _, _, rfl, rfl, sl_map g.lb, atI_last _ _, A, p, b, a, n, v, rfl, h1, by omega, g.st v (by simp), fun H' A' n' h' le l => fin H1 k1 f1 s1 H' A' n' h' le l⟩
    · refine ⟨_, rfl, _, rfl, _, rfl, _, rfl, st, rfl, s1, fun H2 u k2 s2 f2 su => ?_⟩
      exact ⟨A, p, b, a, n, u, rfl, h1.far na s1 k2, by omega, su, fun H' A' n' h' le l => fin H2 (k1.trans k2) (fun c z => f1 c (f2 c z)) s2 H' A' n' h' le l⟩
    · exact ⟨_, rfl, _, rfl, _, rfl, A, p, b, a, n, rfl, h1, by omega, fun H' A' h' l => fin H1 k1 f1 s1 H' A' n h' (Nat.le_succ n) l⟩
    · exact ⟨_, rfl, _, rfl, _, rfl, A, p, b, a, n, rfl, h1, by omega, fun H' A' h' l => fin H1 k1 f1 s1 H' A' n h' (Nat.le_succ n) l⟩
    · refine ⟨_, rfl, _, rfl, _, rfl, _, rfl, _, rfl, b, _, rfl, .inl (sl_map g.lb), _, _, rfl, rfl, st, _, rfl, s1, by omega, ?_, fun H2 i o2 s2 i0 i1 => ?_⟩
      · rw [List.length_append, List.length_singleton]; omega
      have k2 : Keep st H H2 := k1.oth o2
      exact ⟨_, _, rfl, rfl, A, p, b, a, n, _, rfl, h.far na hs k2, by omega, fun H' A' h' l => fin H2 k2 (fun c z => f1 c (oth_free o2 s2 c z)) s2 H' A' n h' (Nat.le_succ n) l⟩
end
end K16

set_option Elab.async false
set_option linter.all false
set_option maxRecDepth 100000
set_option maxHeartbeats 4000000
namespace K16
open PySem PySem.Spec PyProof.Rows L2 Cs CsX
theorem HsN.used {C CU : Addr} {H : Hp} {A : List Addr} {p b a : Addr} {n : Nat} (h : HsN C CU H A p b a n) : ∀ c ∈ A, H c ≠ none := by
  obtain ⟨xs, v, ys, h, _⟩ := h
  obtain ⟨dx, pa, fu, hf, rfl, _⟩ := h.F
  intro c hc e
  simp only [List.mem_cons, List.not_mem_nil, or_false] at hc
  rcases hc with rfl | rfl | rfl | rfl | rfl
  · rw [hf.ob] at e; cases e
  · rw [hf.e1] at e; cases e
  · rw [hf.e2] at e; cases e
  · rw [h.lb] at e; cases e
  · rw [h.la] at e; cases e
section
variable {P : Program} {w : World} {K : PySem.W.Frag} {mg : Str → Option Value} {base : Heap}
abbrev sDow : Stmt := topS 48
abbrev nDow : List Str := ["_law_history", "_law_before", "_law_after", "_law_turn", "_law_target"]
theorem scDow : FnScope nDow ["_law_history", "_law_before", "_law_after"] (defScope sDow) := ⟨rfl, rfl, rfl, by decide +kernel, rfl, by decide +kernel, by decide +kernel⟩
def spDow (C CU : Addr) : Sp := fun vs H Q _ => ∃ (A : List Addr) (p b a : Addr) (n : Nat), vs = [.ref p, .ref b, .ref a] ∧ HsN C CU H A p b a n ∧ n ≤ 3000 ∧
  ∀ (H' : Hp) (A' : List Addr) (n' : Nat), HsN C CU H' A' p b a n' → n' ≤ n + 1 → Left A A' H H' → Q (.bl true) H'
theorem ok_Dow {f f2 f3 f4 f5 f6 C CU : Addr} {fd fd2 fd3 fd4 fd5 fd6 : FuncData} (F : Fun K "_law_down_and_up" "_law_down_and_up" sDow f fd) (B : Bt mg)
    (CUdo : Call P w K mg base 4 "_law_undo" f2 fd2 ["_law_history", "_law_before", "_law_after"] (spOp C CU)) (CRdo : Call P w K mg base 4 "_law_redo" f3 fd3 ["_law_history", "_law_before", "_law_after"] (spOp C CU))
    (CBak : Call P w K mg base 5 "_law_back" f4 fd4 ["_law_history", "_law_before", "_law_after", "_law_target"] (spBakN C CU)) (CPus : Call P w K mg base 3 "_law_push" f5 fd5 ["_law_history", "_law_before", "_law_after", "_law_pushed"] (spPusN C CU))
    (CLoo : Call P w K mg base 4 "_law_looks" f6 fd6 ["_law_history", "_law_before", "_law_after"] (spLooN C CU)) :
    FnOk P w K mg base CX0 6 f fd ["_law_history", "_law_before", "_law_after"] (spDow C CU) := by
  refine F.ok scDow (fun vs H Q E h => ?_) (fun cdv A outer s H vs Q E hr h => ?_)
  · obtain ⟨A, p, b, a, n, rfl, _⟩ := h
    rfl
  · obtain ⟨A, p, b, a, n, rfl, h, few, k⟩ := h
    have nd := scDow.nd
    refine ⟨_, pss_cons (ps_for PassesOwn.never rfl (pi_range1 (by rfl) B.range (pa_cons (pe_callB call_len_seq (by rfl) B.len PySem.boot_len (pa_cons (pv 1) pa_nil)) pa_nil)) (pg_name (i := 3) nd rfl (.inl rfl))
        (pss_one (ps_if (PW.pt (pw_or (pt_not (pt_val (pe_call CUdo.ok (hr.mono (by decide)) (by rfl) CUdo.at_ CUdo.kp CUdo.bd .nil pass0 (pa_cons (pv 0) (pa_cons (pv 1) (pa_cons (pv 2) pa_nil)))))) (pw_or1 (pt_not (pt_val (pe_call CLoo.ok (hr.mono (by decide)) (by rfl) CLoo.at_ CLoo.kp CLoo.bd .nil pass0 (pa_cons (pv 0) (pa_cons (pv 1) (pa_cons (pv 2) pa_nil)))))))))
            (pss_one (ps_ret pe_bl))
            pss_nil)))
      (pss_cons (ps_for PassesOwn.never rfl (pi_range1 (by rfl) B.range (pa_cons (pe_op op_add (pe_callB call_len_seq (by rfl) B.len PySem.boot_len (pa_cons (pv 2) pa_nil)) pe_int) pa_nil)) (pg_name (i := 3) nd rfl (.inl rfl))
        (pss_one (ps_if (PW.pt (pw_or (pt_not (pt_val (pe_call CRdo.ok (hr.mono (by decide)) (by rfl) CRdo.at_ CRdo.kp CRdo.bd .nil pass0 (pa_cons (pv 0) (pa_cons (pv 1) (pa_cons (pv 2) pa_nil)))))) (pw_or1 (pt_not (pt_val (pe_call CLoo.ok (hr.mono (by decide)) (by rfl) CLoo.at_ CLoo.kp CLoo.bd .nil pass0 (pa_cons (pv 0) (pa_cons (pv 1) (pa_cons (pv 2) pa_nil)))))))))
            (pss_one (ps_ret pe_bl))
            pss_nil)))
      (pss_cons (ps_for PassesOwn.never rfl (pi_list (pe_lst (pa_cons (pe_un un_neg pe_int) (pa_cons (pe_callB call_len_seq (by rfl) B.len PySem.boot_len (pa_cons (pv 1) pa_nil)) (pa_cons (pe_op op_sub (pe_callB call_len_seq (by rfl) B.len PySem.boot_len (pa_cons (pv 1) pa_nil)) pe_int) (pa_cons (pe_op op_fdiv (pe_callB call_len_seq (by rfl) B.len PySem.boot_len (pa_cons (pv 1) pa_nil)) pe_int) (pa_cons pe_int pa_nil))))))) (pg_name (i := 4) nd rfl (.inl rfl))
        (pss_one (ps_if (PW.pt (pw_or (pt_not (pt_val (pe_call CBak.ok (hr.mono (by decide)) (by rfl) CBak.at_ CBak.kp CBak.bd .nil pass0 (pa_cons (pv 0) (pa_cons (pv 1) (pa_cons (pv 2) (pa_cons (pv 4) pa_nil))))))) (pw_or1 (pt_not (pt_val (pe_call CLoo.ok (hr.mono (by decide)) (by rfl) CLoo.at_ CLoo.kp CLoo.bd .nil pass0 (pa_cons (pv 0) (pa_cons (pv 1) (pa_cons (pv 2) pa_nil)))))))))
            (pss_one (ps_ret pe_bl))
            pss_nil)))
      (pss_cons (ps_if (PW.pt (pw_or (pt_not (pt_val (pe_call CPus.ok (hr.mono (by decide)) (by rfl) CPus.at_ CPus.kp CPus.bd .nil pass0 (pa_cons (pv 0) (pa_cons (pv 1) (pa_cons (pv 2) (pa_cons (pe_ix ix_list (pv 1) (pe_un un_neg pe_int) (fun _ _ => rfl)) pa_nil))))))) (pw_or1 (pt_not (pt_val (pe_call CLoo.ok (hr.mono (by decide)) (by rfl) CLoo.at_ CLoo.kp CLoo.bd .nil pass0 (pa_cons (pv 0) (pa_cons (pv 1) (pa_cons (pv 2) pa_nil)))))))))
        (pss_one (ps_ret pe_bl))
        pss_nil)
      (pss_one (ps_ret (pe_and (pe_call CRdo.ok (hr.mono (by decide)) (by rfl) CRdo.at_ CRdo.kp CRdo.bd .nil pass0 (pa_cons (pv 0) (pa_cons (pv 1) (pa_cons (pv 2) pa_nil)))) (pe_one (pe_call CLoo.ok (hr.mono (by decide)) (by rfl) CLoo.at_ CLoo.kp CLoo.bd .nil pass0 (pa_cons (pv 0) (pa_cons (pv 1) (pa_cons (pv 2) pa_nil))))))))))), ?_⟩
    have h' := h
    obtain ⟨xs, v, ys, g, e⟩ := h'
    refine ⟨_, rfl, b, _, rfl, .inl (sl_map g.lb), _, rfl, by rw [List.length_append, List.length_singleton]; omega, by rw [List.length_append, List.length_singleton]; omega, for_range (lo := 0) (fun i σ H' => ∃ A' y3, HsN C CU H' A' p b a n ∧ Left A A' H H' ∧ σ = [some (.ref p), some (.ref b), some (.ref a), y3, none]) ⟨A, none, h, Left.refl A H, rfl⟩ ?_ ?_⟩
    · rintro i σ H1 hi ⟨A1, y3, h1, l1, rfl⟩
      refine ⟨_, rfl, _, rfl, _, rfl, A1, p, b, a, n, rfl, h1, by omega, fun H2 A2 h2 l2 => ⟨_, rfl, ite_both (fun c => absurd c (by decide)) fun _ => ?_⟩⟩
      exact ⟨_, rfl, _, rfl, _, rfl, A2, p, b, a, n, rfl, h2, _, rfl, ite_both (fun c => absurd c (by decide)) fun _ => ⟨A2, _, h2, l1.trans l2, rfl⟩⟩
    rintro σ H1 ⟨A1, y3, h1, l1, rfl⟩
    have h1' := h1
    obtain ⟨xs1, v1, ys1, g1, e1⟩ := h1'
    refine ⟨_, rfl, a, _, rfl, .inl (sl_map g1.la), _, _, rfl, rfl, _, rfl, by omega, by omega, for_range (lo := 0) (fun i σ H' => ∃ A' y3, HsN C CU H' A' p b a n ∧ Left A A' H H' ∧ σ = [some (.ref p), some (.ref b), some (.ref a), y3, none]) ⟨A1, _, h1, l1, rfl⟩ ?_ ?_⟩
    · rintro i σ H2 hi ⟨A2, y3, h2, l2, rfl⟩
      refine ⟨_, rfl, _, rfl, _, rfl, A2, p, b, a, n, rfl, h2, by omega, fun H3 A3 h3 l3 => ⟨_, rfl, ite_both (fun c => absurd c (by decide)) fun _ => ?_⟩⟩
      exact ⟨_, rfl, _, rfl, _, rfl, A3, p, b, a, n, rfl, h3, _, rfl, ite_both (fun c => absurd c (by decide)) fun _ => ⟨A3, _, h3, l2.trans l3, rfl⟩⟩
    rintro σ H2 ⟨A2, y3', h2, l2, rfl⟩
    have h2' := h2
    obtain ⟨xs2, v2, ys2, g2, e2⟩ := h2'
    refine ⟨1, rfl, _, rfl, b, _, rfl, .inl (sl_map g2.lb), _, rfl, b, _, rfl, .inl (sl_map g2.lb), _, _, rfl, rfl, _, rfl, b, _, rfl, .inl (sl_map g2.lb), _, _, rfl, rfl, ⟨by decide, by decide⟩, by show 5 ≤ sizeLine; decide, fun l nl => ?_⟩
    have sl := same_new (o := HO.lst [V.int (-1), V.int (((xs2 ++ [v2]).length : Nat) : Int), V.int ((((xs2 ++ [v2]).length : Nat) : Int) - 1), V.int ((((xs2 ++ [v2]).length : Nat) : Int) / 2), V.int 0]) nl
    have nA : l ∉ A2 := fun z => h2.used l z nl
    refine ⟨l, rfl, ⟨_, sl_map upd_same⟩, for_list (xs := [V.int (-1), V.int (((xs2 ++ [v2]).length : Nat) : Int), V.int ((((xs2 ++ [v2]).length : Nat) : Int) - 1), V.int ((((xs2 ++ [v2]).length : Nat) : Int) / 2), V.int 0]) (fun i σ H' => ∃ A' y4, HsN C CU H' A' p b a n ∧ Left A A' H H' ∧ l ∉ A' ∧ H' l = some (.lst [V.int (-1), V.int (((xs2 ++ [v2]).length : Nat) : Int), V.int ((((xs2 ++ [v2]).length : Nat) : Int) - 1), V.int ((((xs2 ++ [v2]).length : Nat) : Int) / 2), V.int 0]) ∧ σ = [some (.ref p), some (.ref b), some (.ref a), y3', y4])
      ⟨A2, none, h2.same sl, l2.trans (Left.same A2 sl), nA, upd_same, rfl⟩ (fun i σ H' _ h => by obtain ⟨_, _, _, _, _, h, _⟩ := h; exact sl_map h) ?_ ?_⟩
    · rintro i x σ H3 hx ⟨A3, y4, h3, l3, n3, el, rfl⟩
      obtain ⟨z, rfl⟩ : ∃ z : Int, x = .int z := by
        have := List.mem_of_getElem? hx
        simp only [List.mem_cons, List.not_mem_nil, or_false] at this
        rcases this with r | r | r | r | r <;> exact ⟨_, r⟩
      refine ⟨_, rfl, _, rfl, _, rfl, _, rfl, A3, p, b, a, n, z, rfl, h3, by omega, fun H4 A4 h4 l4 => ⟨_, rfl, ite_both (fun c => absurd c (by decide)) fun _ => ?_⟩⟩
      exact ⟨_, rfl, _, rfl, _, rfl, A4, p, b, a, n, rfl, h4, _, rfl, ite_both (fun c => absurd c (by decide)) fun _ => ⟨A4, _, h4, l3.trans l4, fun z => (l4.new l z).elim n3 (fun w => by rw [el] at w; cases w), l4.keep _ _ n3 el, rfl⟩⟩
    rintro σ H3 ⟨A3, y4, h3, l3, n3, el, rfl⟩
    have h3' := h3
    obtain ⟨xs3, v3, ys3, g3, e3⟩ := h3'
    refine ⟨_, rfl, _, rfl, _, rfl, _, rfl, 1, rfl, b, _, _, _, rfl, rfl, sl_map g3.lb, atI_last _ _, A3, p, b, a, n, v3, rfl, h3, by omega, g3.st v3 (by simp), fun H4 A4 n4 h4 le l4 => ⟨_, rfl, ite_both (fun c => absurd c (by decide)) fun _ => ?_⟩⟩
    refine ⟨_, rfl, _, rfl, _, rfl, A4, p, b, a, n4, rfl, h4, _, rfl, ite_both (fun c => absurd c (by decide)) fun _ => ?_⟩
    refine ⟨_, rfl, _, rfl, _, rfl, A4, p, b, a, n4, rfl, h4, by omega, fun H5 A5 h5 l5 => ⟨_, rfl, ite_both (fun _ => ?_) fun c => nomatch c⟩⟩
    exact ⟨_, rfl, _, rfl, _, rfl, A5, p, b, a, n4, rfl, h5, k _ _ _ h5 le ((l3.trans l4).trans l5)⟩
end
end K16

set_option Elab.async false
set_option linter.all false
set_option maxRecDepth 100000
set_option maxHeartbeats 4000000
namespace K16
open PySem PySem.Spec PyProof.Rows L2 Cs CsX
/-- the state number i of the long history: 0, 0, 1, 2, .. -/
def gS (i : Nat) : V := .int ((i - 1 : Nat) : Int)
theorem long_len (i : Nat) : ((List.range i).map gS).length = i := by rw [List.length_map, List.length_range]
theorem long_succ (i : Nat) : (List.range i).map gS ++ [gS i] = (List.range (i + 1)).map gS := by
  rw [List.range_succ, List.map_append] <;> rfl
theorem long_row : row ((List.range 1500).map gS) (gS 1500) 0 = .int 0 := by
  have := row_lt (L := (List.range 1500).map gS) (v := gS 1500) (m := 0) (by rw [long_len]; decide)
  rw [List.getElem?_map, List.getElem?_range (by decide)] at this
  exact (Option.some.inj this).symm
theorem long_drop : ∃ F : List V, F.length = 1498 ∧ [] ++ (((List.range 1500).map gS ++ [gS 1500]).drop (0 + 1)).reverse = F ++ [V.int 1] ++ [V.int 0] := by
  rw [long_succ]
  have n := long_len 1501
  have e1 := List.drop_eq_getElem_cons (l := (List.range 1501).map gS) (i := 1) (by rw [n]; decide)
  have e2 := List.drop_eq_getElem_cons (l := (List.range 1501).map gS) (i := 2) (by rw [n]; decide)
  rw [List.getElem_map, List.getElem_range] at e1 e2
  refine ⟨(((List.range 1501).map gS).drop 3).reverse, ?_, ?_⟩
  · rw [List.length_reverse, List.length_drop, n]
  · show [] ++ (((List.range 1501).map gS).drop 1).reverse = _
    rw [e1, List.reverse_cons]
    show [] ++ ((((List.range 1501).map gS).drop 2).reverse ++ [V.int 0]) = _
    rw [e2, List.reverse_cons, List.nil_append] <;> rfl
section
variable {P : Program} {w : World} {K : PySem.W.Frag} {mg : Str → Option Value} {base : Heap}
abbrev sLon : Stmt := topS 49
abbrev nLon : List Str := ["_law_history", "_law_k"]
theorem scLon : FnScope nLon [] (defScope sLon) := ⟨rfl, rfl, rfl, by decide +kernel, rfl, by decide +kernel, by decide +kernel⟩
def spLon : Sp := fun vs H Q _ => vs = [] ∧ ∀ H', Same H H' → Q (.bl true) H'
theorem ok_Lon {f C f1 f2 f3 f4 p5 f5 p6 f6 : Addr} {fd fd1 fd2 fd3 fd4 fd5 fd6 : FuncData} (F : Fun K "_law_long_holds" "_law_long_holds" sLon f fd) (B : Bt mg) (T : Kls K mg "History" C hF)
    (M1 : CallN P w K mg base 1 C f1 fd1 ["self", "start"] (spHIni C)) (Pu : CallM P w K mg base 1 C "push" f2 fd2 ["self", "state"] (spHPus C)) (Re : CallM P w K mg base 1 C "redo" f3 fd3 ["self"] (spHRdo C))
    (Ba : CallM P w K mg base 3 C "back_to" f4 fd4 ["self", "steps"] (spHBak C))
    (G1 : CallP P w K mg base 1 C "steps" p5 f5 fd5 (spGet C fun xs _ _ => .int (xs.length : Nat))) (G2 : CallP P w K mg base 1 C "undone" p6 f6 fd6 (spGet C fun _ _ ys => .int (ys.length : Nat)))
    (nu1 : ∀ pa v fu, (flds pa v fu).lookup ("push" : Str) = none) (nu2 : ∀ pa v fu, (flds pa v fu).lookup ("redo" : Str) = none) (nu3 : ∀ pa v fu, (flds pa v fu).lookup ("back_to" : Str) = none) :
    FnOk P w K mg base CX0 4 f fd [] spLon := by
  refine F.ok scLon (fun vs H Q E h => ?_) (fun cdv A outer s H vs Q E hr h => ?_)
  · obtain ⟨rfl, _⟩ := h
    rfl
  · obtain ⟨rfl, k⟩ := h
    have nd := scLon.nd
    refine ⟨_, pss_cons (ps_set (i := 0) nd rfl (.inl rfl) (pe_make M1.mkr M1.ok (hr.mono (by decide)) (by rfl) T.gC M1.bd .nil pass0 (pa_cons pe_int pa_nil)))
      (pss_cons (ps_for PassesOwn.never rfl (pi_range1 (by rfl) B.range (pa_cons pe_int pa_nil)) (pg_name (i := 1) nd rfl (.inl rfl))
        (pss_one (ps_expr (pe_meth (pv 0) T.cl Pu.mt Pu.ok (hr.mono (by decide)) Pu.bd .nil pass0 (pa_cons (pv 1) pa_nil)))))
      (pss_cons (ps_if (PW.pt (pw_or (pt_cmpR op_ne (pe_meth (pv 0) T.cl Ba.mt Ba.ok (hr.mono (by decide)) Ba.bd .nil pass0 (pa_cons pe_int pa_nil)) pe_int rfl) (pw_or (pt_cmpR op_ne (pe_prop (pv 0) T.cl G1.pr G1.ok (hr.mono (by decide)) G1.bd .nil pass0 rfl) pe_int rfl) (pw_or1 (pt_cmpR op_ne (pe_prop (pv 0) T.cl G2.pr G2.ok (hr.mono (by decide)) G2.bd .nil pass0 rfl) pe_int rfl)))))
        (pss_one (ps_ret pe_bl))
        pss_nil)
      (pss_one (ps_ret (pe_and (pe_cmpR op_eq (pe_meth0 (pv 0) T.cl Re.mt Re.ok (hr.mono (by decide)) Re.bd .nil pass0) pe_int rfl) (pe_and (pe_cmpR op_eq (pe_meth0 (pv 0) T.cl Re.mt Re.ok (hr.mono (by decide)) Re.bd .nil pass0) pe_int rfl) (pe_and (pe_cmpR op_eq (pe_prop (pv 0) T.cl G1.pr G1.ok (hr.mono (by decide)) G1.bd .nil pass0 rfl) pe_int rfl) (pe_one (pe_cmpR op_eq (pe_prop (pv 0) T.cl G2.pr G2.ok (hr.mono (by decide)) G2.bd .nil pass0 rfl) pe_int rfl))))))))), ?_⟩
    intro p dx np ndx ne
    refine ⟨p, dx, .int 0, rfl, upd_same, fun H1 pa fu ob e1 e2 e3 ypa yfu kp fr => ⟨rfl, ?_⟩⟩
    have ypa : H pa = none := by grind only [= g_upd]
    have yfu : H fu = none := by grind only [= g_upd]
    have sm1 : Same H H1 := fun c o e => by grind only [= g_upd]
    refine ⟨(1500 : Int), rfl, by decide, by decide, for_range (lo := 0) (fun i σ H' => ∃ (dx pa fu : Addr) (y1 : Option V), HistF C H' p ((List.range i).map gS) (gS i) [] dx pa fu ∧ H pa = none ∧ H fu = none ∧ Same H H' ∧ σ = [some (.ref p), y1]) ⟨dx, pa, fu, none, ⟨ob, e1, e2, e3⟩, ypa, yfu, sm1, rfl⟩ ?_ ?_⟩
    · rintro i σ H2 hi ⟨dx, pa, fu, y1, h2, ypa, yfu, sm, rfl⟩
      refine ⟨_, rfl, p, dx, _, rfl, h2.ob, nu1 _ _ _, _, rfl, p, _, _, _, _, dx, pa, fu, rfl, h2, (by rw [long_len]; have := hi; omega), fun H3 gu h3 ng kp3 _ => ?_⟩
      rw [long_succ] at h3
      refine ⟨dx, pa, gu, _, ?_, ypa, sm.free0 _ ng, fun c o e => kp3 c o (ne_of_none e np) (ne_of_none e ypa) (sm c o e), rfl⟩
      have e : V.int (0 + (i : Int)) = gS (i + 1) := by show V.int (0 + (i : Int)) = V.int (((i + 1 - 1 : Nat)) : Int); congr 1; omega
      rw [← e]
      exact h3
    rintro σ H2 ⟨dx, pa, fu, y1, h2, ypa, yfu, sm, rfl⟩
    have h2 : HistF C H2 p ((List.range 1500).map gS) (gS 1500) [] dx pa fu := h2
    have len := long_len 1500
    refine ⟨_, rfl, p, dx, _, rfl, h2.ob, nu3 _ _ _, p, 0, _, _, _, dx, pa, fu, rfl, h2, Nat.zero_le _, (by rw [len]; decide), fun H3 h3 kp3 => ?_⟩
    have sm3 : Same H H3 := fun c o e => kp3.1 c o (ne_of_none e np) (ne_of_none e ypa) (ne_of_none e yfu) (sm c o e)
    obtain ⟨G, gl, ge⟩ := long_drop
    rw [ge, long_row] at h3
    rw [long_row]
    replace h3 : HistF C H3 p [] (V.int 0) (G ++ [V.int 1] ++ [V.int 0]) dx pa fu := h3
    have n3 : (G ++ [V.int 1] ++ [V.int 0]).length = 1500 := by rw [List.length_append, List.length_append, gl] <;> rfl
    refine ⟨rfl, _, rfl, ite_both (fun c => absurd c (by decide)) fun _ => ?_⟩
    refine ⟨_, rfl, p, dx, _, rfl, h3.ob, p, _, _, _, rfl, h3.hist, rfl, _, rfl, ite_both (fun c => absurd c (by simp)) fun _ => ?_⟩
    refine ⟨_, rfl, p, dx, _, rfl, h3.ob, p, _, _, _, rfl, h3.hist, rfl, _, rfl, ite_both (fun c => absurd c (by simp [gl])) fun _ => ?_⟩
    refine ⟨_, rfl, p, dx, _, rfl, h3.ob, nu2 _ _ _, p, _, _, _, _, dx, pa, fu, rfl, h3, by decide, fun H4 h4 kp4 => ?_⟩
    have sm4 : Same H H4 := fun c o e => kp4.1 c o (ne_of_none e np) (ne_of_none e ypa) (ne_of_none e yfu) (sm3 c o e)
    refine ⟨rfl, _, rfl, ite_both (fun _ => ?_) fun c => absurd c (by decide)⟩
    refine ⟨_, rfl, p, dx, _, rfl, h4.ob, nu2 _ _ _, p, _, _, _, _, dx, pa, fu, rfl, h4, by decide, fun H5 h5 kp5 => ?_⟩
    have sm5 : Same H H5 := fun c o e => kp5.1 c o (ne_of_none e np) (ne_of_none e ypa) (ne_of_none e yfu) (sm4 c o e)
    refine ⟨rfl, _, rfl, ite_both (fun _ => ?_) fun c => absurd c (by decide)⟩
    refine ⟨_, rfl, p, dx, _, rfl, h5.ob, p, _, _, _, rfl, h5.hist, rfl, _, rfl, ite_both (fun _ => ?_) fun c => absurd c (by simp)⟩
    refine ⟨_, rfl, p, dx, _, rfl, h5.ob, p, _, _, _, rfl, h5.hist, rfl, ?_⟩
    have e : decide (V.int ((G.length : Nat) : Int) = V.int 1498) = true := by simp [gl]
    exact (show Q (.bl (decide (V.int ((G.length : Nat) : Int) = V.int 1498))) H5 from by rw [e]; exact k _ sm5)
end
end K16

set_option Elab.async false
set_option linter.all false
set_option maxRecDepth 100000
set_option maxHeartbeats 4000000
namespace K16
open PySem PySem.Spec PyProof.Rows L2 Cs CsX
/-! ### two histories -/
theorem Hs.away {C CU : Addr} {H H' : Hp} {A A2 A' : List Addr} {p b a p2 b2 a2 st : Addr} {xs ys xs2 ys2 : List V} {v v2 : V} (h : Hs C CU H A p b a xs v ys) (g : Hs C CU H A2 p2 b2 a2 xs2 v2 ys2) (dj : ∀ c ∈ A, c ∉ A2) (n : st ∉ A) (s : Strm H st) (l : LeftS st A2 A' H H') : Hs C CU H' A p b a xs v ys := by
  obtain ⟨dx, pa, fu, hf, rfl, r⟩ := h.F
  have kp : ∀ c o, c ∈ [p, pa, fu, b, a] → H c = some o → H' c = some o := fun c o m e => l.keep c o (dj c m) (fun z => n (z ▸ m)) e
  obtain ⟨i, j, m, hst⟩ := s
  refine ⟨⟨dx, pa, fu, ⟨kp _ _ (by simp) hf.ob, kp _ _ (by simp) hf.e1, kp _ _ (by simp) hf.e2, hf.ne⟩, rfl, r⟩, kp _ _ (by simp) h.lb, kp _ _ (by simp) h.la, h.ab, fun u hu => ?_⟩
  rcases h.st u hu with t | t | ⟨q, zs, rfl, few, dx, t, e1, e2⟩
  · exact .inl t
  · exact .inr (.inl t)
  · refine .inr (.inr ⟨q, zs, rfl, few, dx, t, l.keep _ _ (g.off e1) (fun z => ?_) e1, l.keep _ _ (g.offT e2) (fun z => ?_) e2⟩)
    · rw [z, hst] at e1; cases e1
    · rw [z, hst] at e2; cases e2
theorem HsN.away {C CU : Addr} {H H' : Hp} {A A2 A' : List Addr} {p b a p2 b2 a2 st : Addr} {n n2 : Nat} (h : HsN C CU H A p b a n) (g : HsN C CU H A2 p2 b2 a2 n2) (dj : ∀ c ∈ A, c ∉ A2) (m : st ∉ A) (s : Strm H st) (l : LeftS st A2 A' H H') : HsN C CU H' A p b a n := by
  obtain ⟨xs, v, ys, h, e⟩ := h
  obtain ⟨_, _, _, g, _⟩ := g
  exact ⟨xs, v, ys, h.away g dj m s l, e⟩
theorem Left.toS {A A' : List Addr} {H H' : Hp} (st : Addr) (l : Left A A' H H') : LeftS st A A' H H' := ⟨fun c o n _ e => l.keep c o n e, l.free, l.new⟩
structure Duo (C CU : Addr) (H0 H : Hp) (hs bs as s0 : Addr) (p b a : Nat → Addr) (A : Nat → List Addr) (n : Nat) : Prop where
  sm : Same H0 H
  new : ∀ i, i < 2 → ∀ c ∈ A i, H0 c = none
  ne0 : H0 s0 = none
  st : Strm H s0
  lh : H hs = some (.lst [.ref (p 0), .ref (p 1)])
  lb : H bs = some (.lst [.ref (b 0), .ref (b 1)])
  la : H as = some (.lst [.ref (a 0), .ref (a 1)])
  out : ∀ i, i < 2 → hs ∉ A i ∧ bs ∉ A i ∧ as ∉ A i ∧ s0 ∉ A i
  h : ∀ i, i < 2 → ∃ m, m ≤ n ∧ HsN C CU H (A i) (p i) (b i) (a i) m
  dj : ∀ c ∈ A 0, c ∉ A 1
section
variable {C CU : Addr} {H0 H H' : Hp} {hs bs as s0 st : Addr} {p b a : Nat → Addr} {A : Nat → List Addr} {n : Nat}
theorem Duo.dj2 (D : Duo C CU H0 H hs bs as s0 p b a A n) {i j : Nat} (hi : i < 2) (hj : j < 2) (ne : i ≠ j) : ∀ c ∈ A i, c ∉ A j := fun c m z => by
  have : (i = 0 ∧ j = 1) ∨ (i = 1 ∧ j = 0) := by omega
  rcases this with ⟨rfl, rfl⟩ | ⟨rfl, rfl⟩
  · exact D.dj c m z
  · exact D.dj c z m
theorem strm_notL (s : Strm H st) {q : Addr} {x y : Addr} (e : H q = some (.lst [.ref x, .ref y])) : q ≠ st := fun z => by
  obtain ⟨i, j, l, h⟩ := s
  rw [z, h] at e
  cases e
theorem Duo.same (D : Duo C CU H0 H hs bs as s0 p b a A n) (s : Same H H') : Duo C CU H0 H' hs bs as s0 p b a A n :=
  ⟨fun c o e => s c o (D.sm c o e), D.new, D.ne0, by obtain ⟨i, j, l, h⟩ := D.st; exact ⟨i, j, l, s _ _ h⟩, s _ _ D.lh, s _ _ D.lb, s _ _ D.la, D.out, fun i hi => (D.h i hi).imp fun m h => ⟨h.1, h.2.same s⟩, D.dj⟩
/-- the stream at st has moved on -/
theorem Duo.turn (D : Duo C CU H0 H hs bs as s0 p b a A n) (ss : Strm H st) (nA : ∀ i, i < 2 → st ∉ A i) (n0 : H0 st = none) (o : Oth st H H') (s' : Strm H' st) : Duo C CU H0 H' hs bs as s0 p b a A n :=
  have k : Keep st H H' := (Keep.refl st H).oth o
  ⟨fun c u e => k c u (ne_of_none e n0) (D.sm c u e), D.new, D.ne0, by
    by_cases z : s0 = st
    · exact z ▸ s'
    · exact D.st.keep k z,
   k _ _ (strm_notL ss D.lh) D.lh, k _ _ (strm_notL ss D.lb) D.lb, k _ _ (strm_notL ss D.la) D.la, D.out, fun i hi => (D.h i hi).imp fun m h => ⟨h.1, h.2.far (nA i hi) ss k⟩, D.dj⟩
/-- an operation on the history i -/
theorem Duo.step (D : Duo C CU H0 H hs bs as s0 p b a A n) {i : Nat} (hi : i < 2) (ss : Strm H st) (nA : ∀ i, i < 2 → st ∉ A i) (n0 : H0 st = none) (s' : Strm H' st) {A' : List Addr} {m n' : Nat} (l : LeftS st (A i) A' H H') (h' : HsN C CU H' A' (p i) (b i) (a i) m) (le : m ≤ n') (nn : n ≤ n') :
    Duo C CU H0 H' hs bs as s0 p b a (fun j => if j = i then A' else A j) n' := by
  have ot := D.out i hi
  have used : ∀ c, H c ≠ none → c ∉ A i → c ∉ A' := fun c u na z => (l.new c z).elim na u
  have some_ : ∀ {c o}, H c = some o → H c ≠ none := fun e z => by rw [e] at z; cases z
  refine ⟨fun c u e => l.keep c u (fun z => ?_) (ne_of_none e n0) (D.sm c u e), fun j hj c m => ?_, D.ne0, ?_, l.keep _ _ ot.1 (strm_notL ss D.lh) D.lh, l.keep _ _ ot.2.1 (strm_notL ss D.lb) D.lb, l.keep _ _ ot.2.2.1 (strm_notL ss D.la) D.la, fun j hj => ?_, fun j hj => ?_, ?_⟩
  · rw [D.new i hi c z] at e; cases e
  · by_cases ji : j = i
    · rw [if_pos ji] at m
      exact (l.new c m).elim (fun z => D.new i hi c z) fun z => D.sm.free0 c z
    · rw [if_neg ji] at m
      exact D.new j hj c m
  · by_cases z : s0 = st
    · exact z ▸ s'
    · obtain ⟨x, y, w, e⟩ := D.st
      exact ⟨x, y, w, l.keep _ _ ot.2.2.2 z e⟩
  · by_cases ji : j = i
    · simp only [if_pos ji]
      refine ⟨used _ (some_ D.lh) ot.1, used _ (some_ D.lb) ot.2.1, used _ (some_ D.la) ot.2.2.1, used _ D.st.some ot.2.2.2⟩
    · simp only [if_neg ji]
      exact D.out j hj
  · by_cases ji : j = i
    · subst ji
      rw [if_pos rfl]
      exact ⟨m, le, h'⟩
    · rw [if_neg ji]
      obtain ⟨mj, lj, hj'⟩ := D.h j hj
      obtain ⟨mi, _, hi'⟩ := D.h i hi
      exact ⟨mj, Nat.le_trans lj nn, hj'.away hi' (D.dj2 hj hi ji) (nA j hj) ss l⟩
  · intro c m0 m1
    have au : ∀ j, j < 2 → ∀ c ∈ A j, H c ≠ none := fun j hj c hc => by
      obtain ⟨_, _, g⟩ := D.h j hj
      exact g.used c hc
    have : i = 0 ∨ i = 1 := by omega
    rcases this with rfl | rfl
    · rw [if_pos rfl] at m0
      rw [if_neg (by decide)] at m1
      exact (l.new c m0).elim (fun z => D.dj c z m1) fun z => au 1 (by decide) c m1 z
    · rw [if_pos rfl] at m1
      rw [if_neg (by decide)] at m0
      exact (l.new c m1).elim (fun z => D.dj c m0 z) fun z => au 0 (by decide) c m0 z
end
theorem at_duo {f : Nat → Addr} {i : Nat} (hi : i < 2) : atI [V.ref (f 0), V.ref (f 1)] (i : Int) = some (.ref (f i)) := by
  have : i = 0 ∨ i = 1 := by omega
  rcases this with rfl | rfl
  · exact atI_nat (j := 0) rfl
  · exact atI_nat (j := 1) rfl
theorem nd_new {l : List Addr} {H : Hp} {c : Addr} (n : l.Nodup) (a : ∀ d ∈ l, H d ≠ none) (h : H c = none) : (c :: l).Nodup := List.nodup_cons.mpr ⟨fun m => a c m h, n⟩
theorem al_new {l : List Addr} {H H' : Hp} {c : Addr} (s : Same H H') (a : ∀ d ∈ l, H d ≠ none) (h : H' c ≠ none) : ∀ d ∈ c :: l, H' d ≠ none := fun d m => by
  rcases List.mem_cons.mp m with rfl | m
  · exact h
  · intro z
    exact a d m (s.free0 d z)
theorem not_none {H : Hp} {c : Addr} {o : HO} (e : H c = some o) : H c ≠ none := fun z => by rw [e] at z; cases z
theorem same_make {H H' : Hp} {x dx : Addr} {o1 o2 : HO} (nx : H x = none) (ndx : H dx = none) (kp : ∀ b o, b ≠ x → upd (upd H dx o1) x o2 b = some o → H' b = some o) : Same H H' := fun c o e =>
  kp c o (ne_of_none e nx) (by rw [upd_ne (ne_of_none e nx), upd_ne (ne_of_none e ndx)]; exact e)
theorem new_make {H : Hp} {x dx c : Addr} {o1 o2 : HO} (n : upd (upd H dx o1) x o2 c = none) : H c = none ∧ c ≠ x := by
  by_cases cx : c = x
  · rw [cx, upd_same] at n; cases n
  by_cases cd : c = dx
  · rw [cd] at n cx
    rw [upd_ne cx, upd_same] at n; cases n
  rw [upd_ne cx, upd_ne cd] at n
  exact ⟨n, cx⟩
theorem nd_make {l : List Addr} {H H' : Hp} {x dx pa fu : Addr} {o1 o2 q1 q2 q3 : HO} (n : l.Nodup) (al : ∀ d ∈ l, H d ≠ none) (nx : H x = none) (ndx : H dx = none) (npa : upd (upd H dx o1) x o2 pa = none) (nfu : upd (upd H dx o1) x o2 fu = none) (e3 : pa ≠ fu)
    (kp : ∀ b o, b ≠ x → upd (upd H dx o1) x o2 b = some o → H' b = some o) (ob : H' x = some q1) (e1 : H' pa = some q2) (e2 : H' fu = some q3) : (fu :: pa :: x :: l).Nodup ∧ ∀ d ∈ fu :: pa :: x :: l, H' d ≠ none := by
  obtain ⟨p0, px⟩ := new_make npa
  obtain ⟨f0, fx⟩ := new_make nfu
  have sm := same_make nx ndx kp
  refine ⟨List.nodup_cons.mpr ⟨fun m => ?_, List.nodup_cons.mpr ⟨fun m => ?_, nd_new n al nx⟩⟩, fun d m => ?_⟩
  · simp only [List.mem_cons] at m
    rcases m with m | m | m
    · exact e3 m.symm
    · exact fx m
    · exact al _ m f0
  · simp only [List.mem_cons] at m
    rcases m with m | m
    · exact px m
    · exact al _ m p0
  · simp only [List.mem_cons] at m
    intro z
    rcases m with rfl | rfl | rfl | m
    · rw [e2] at z; cases z
    · rw [e1] at z; cases z
    · rw [ob] at z; cases z
    · exact al d m (sm.free0 d z)
end K16

set_option Elab.async false
set_option linter.all false
set_option maxRecDepth 100000
set_option maxHeartbeats 4000000
namespace K16
open PySem PySem.Spec PyProof.Rows L2 Cs CsX
theorem at_duo0 {f : Nat → Addr} {i : Nat} (hi : i < 2) : atI [V.ref (f 0), V.ref (f 1)] (0 + (i : Int)) = some (.ref (f i)) := by rw [Int.zero_add]; exact at_duo hi
theorem at_duoE {f : Nat → Addr} {i : Nat} {z : Int} (hi : i < 2) (e : z = (i : Int)) : atI [V.ref (f 0), V.ref (f 1)] z = some (.ref (f i)) := by rw [e]; exact at_duo hi
section
variable {P : Program} {w : World} {K : PySem.W.Frag} {mg : Str → Option Value} {base : Heap}
abbrev sLaw : Stmt := topS 50
abbrev nLaw : List Str := ["_law_script", "_law_starts", "_law_one", "_law_two", "_law_histories", "_law_before", "_law_after", "_law_k", "_law_stream_here", "_law_at", "_law_other"]
theorem scLaw : FnScope nLaw ["_law_script"] (defScope sLaw) := ⟨rfl, rfl, rfl, by decide +kernel, rfl, by decide +kernel, by decide +kernel⟩
def spLaw (K : PySem.W.Frag) : Sp := fun vs H Q _ => ∃ (a : Addr) (ns : List Int), vs = [.ref a] ∧ SqL K H a (ns.map V.int) ∧ ns.length ≤ 63 ∧ ∀ H', Q (.bl true) H'
theorem ok_Law {f f0 f1 f2 f3 f4 f5 f6 f7 C CU : Addr} {fd fd0 fd1 fd2 fd3 fd4 fd5 fd6 fd7 : FuncData} (F : Fun K "law" "law" sLaw f fd) (B : Bt mg) (zmin : mg "min" = none) (T : Kls K mg "History" C hF)
    (M1 : CallN P w K mg base 1 C f1 fd1 ["self", "start"] (spHIni C)) (Cst : Call P w K mg base 1 "_law_stream" f0 fd0 ["_law_script", "_law_k"] (spStream K)) (D : Call P w K mg base 1 "_law_next" f2 fd2 ["_law_stream_here", "_law_size"] spDraw)
    (CSt : Call P w K mg base 4 "_law_state" f3 fd3 ["_law_stream_here"] (spSta CU)) (CLoo : Call P w K mg base 4 "_law_looks" f4 fd4 ["_law_history", "_law_before", "_law_after"] (spLooN C CU))
    (CDee : Call P w K mg base 6 "_law_deed" f5 fd5 ["_law_history", "_law_before", "_law_after", "_law_stream_here"] (spDee C CU)) (CDow : Call P w K mg base 6 "_law_down_and_up" f6 fd6 ["_law_history", "_law_before", "_law_after"] (spDow C CU)) (CLon : Call P w K mg base 4 "_law_long_holds" f7 fd7 [] spLon) :
    FnOk P w K mg base CX0 7 f fd ["_law_script"] (spLaw K) := by
  refine F.ok scLaw (fun vs H Q E h => ?_) (fun cdv A outer s H vs Q E hr h => ?_)
  · obtain ⟨a, ns, rfl, _⟩ := h
    rfl
  · obtain ⟨scr, ns, rfl, hS, few, k⟩ := h
    have nd := scLaw.nd
    refine ⟨_, pss_cons (ps_set (i := 1) nd rfl (.inl rfl) (pe_call Cst.ok (hr.mono (by decide)) (by rfl) Cst.at_ Cst.kp Cst.bd .nil pass0 (pa_cons (pv 0) (pa_cons pe_int pa_nil))))
      (pss_cons (ps_set (i := 2) nd rfl (.inl rfl) (pe_call CSt.ok (hr.mono (by decide)) (by rfl) CSt.at_ CSt.kp CSt.bd .nil pass0 (pa_cons (pv 1) pa_nil)))
      (pss_cons (ps_set (i := 3) nd rfl (.inl rfl) (pe_call CSt.ok (hr.mono (by decide)) (by rfl) CSt.at_ CSt.kp CSt.bd .nil pass0 (pa_cons (pv 1) pa_nil)))
      (pss_cons (ps_set (i := 4) nd rfl (.inl rfl) (pe_lst (pa_cons (pe_make M1.mkr M1.ok (hr.mono (by decide)) (by rfl) T.gC M1.bd .nil pass0 (pa_cons (pv 2) pa_nil)) (pa_cons (pe_make M1.mkr M1.ok (hr.mono (by decide)) (by rfl) T.gC M1.bd .nil pass0 (pa_cons (pv 3) pa_nil)) pa_nil))))
      (pss_cons (ps_set (i := 5) nd rfl (.inl rfl) (pe_lst (pa_cons (pe_lst (pa_cons (pv 2) pa_nil)) (pa_cons (pe_lst (pa_cons (pv 3) pa_nil)) pa_nil))))
      (pss_cons (ps_set (i := 6) nd rfl (.inl rfl) (pe_lst (pa_cons (pe_lst pa_nil) (pa_cons (pe_lst pa_nil) pa_nil))))
      (pss_cons (ps_for PassesOwn.never rfl (pi_range2 (by rfl) B.range (pa_cons pe_int (pa_cons (pe_callB (call_min2 rfl) (by rfl) zmin PyProof.Rows.boot_min (pa_cons (pe_callB call_len_seq (by rfl) B.len PySem.boot_len (pa_cons (pv 0) pa_nil)) (pa_cons pe_int pa_nil))) pa_nil))) (pg_name (i := 7) nd rfl (.inl rfl))
        (pss_cons (ps_set (i := 8) nd rfl (.inl rfl) (pe_call Cst.ok (hr.mono (by decide)) (by rfl) Cst.at_ Cst.kp Cst.bd .nil pass0 (pa_cons (pv 0) (pa_cons (pv 7) pa_nil))))
          (pss_cons (ps_set (i := 9) nd rfl (.inl rfl) (pe_op op_fdiv (pe_call D.ok (hr.mono (by decide)) (by rfl) D.at_ D.kp D.bd .nil pass0 (pa_cons (pv 8) (pa_cons pe_int pa_nil))) pe_int))
          (pss_cons (ps_if (pt_not (pt_val (pe_call CDee.ok (hr.mono (by decide)) (by rfl) CDee.at_ CDee.kp CDee.bd .nil pass0 (pa_cons (pe_ix ix_list (pv 4) (pv 9) (fun _ _ => rfl)) (pa_cons (pe_ix ix_list (pv 5) (pv 9) (fun _ _ => rfl)) (pa_cons (pe_ix ix_list (pv 6) (pv 9) (fun _ _ => rfl)) (pa_cons (pv 8) pa_nil)))))))
            (pss_one (ps_ret pe_bl))
            pss_nil)
          (pss_one (ps_if (pt_cmpR op_eq (pe_call D.ok (hr.mono (by decide)) (by rfl) D.at_ D.kp D.bd .nil pass0 (pa_cons (pv 8) (pa_cons pe_int pa_nil))) pe_int rfl)
            (pss_one (ps_for PassesOwn.never rfl (pi_range1 (by rfl) B.range (pa_cons pe_int pa_nil)) (pg_name (i := 10) nd rfl (.inl rfl))
                (pss_one (ps_if (pt_not (pt_val (pe_call CLoo.ok (hr.mono (by decide)) (by rfl) CLoo.at_ CLoo.kp CLoo.bd .nil pass0 (pa_cons (pe_ix ix_list (pv 4) (pv 10) (fun _ _ => rfl)) (pa_cons (pe_ix ix_list (pv 5) (pv 10) (fun _ _ => rfl)) (pa_cons (pe_ix ix_list (pv 6) (pv 10) (fun _ _ => rfl)) pa_nil))))))
                    (pss_one (ps_ret pe_bl))
                    pss_nil))))
            pss_nil))))))
      (pss_cons (ps_if (PW.pt (pw_and (pt_cmpR op_eq (pe_call D.ok (hr.mono (by decide)) (by rfl) D.at_ D.kp D.bd .nil pass0 (pa_cons (pv 1) (pa_cons pe_int pa_nil))) pe_int rfl) (pw_and1 (pt_not (pt_val (pe_call0 CLon.ok (hr.mono (by decide)) (by rfl) CLon.at_ CLon.kp CLon.bd .nil pass0))))))
        (pss_one (ps_ret pe_bl))
        pss_nil)
      (pss_cons (ps_for PassesOwn.never rfl (pi_range1 (by rfl) B.range (pa_cons pe_int pa_nil)) (pg_name (i := 9) nd rfl (.inl rfl))
        (pss_cons (ps_if (pt_not (pt_val (pe_call CLoo.ok (hr.mono (by decide)) (by rfl) CLoo.at_ CLoo.kp CLoo.bd .nil pass0 (pa_cons (pe_ix ix_list (pv 4) (pv 9) (fun _ _ => rfl)) (pa_cons (pe_ix ix_list (pv 5) (pv 9) (fun _ _ => rfl)) (pa_cons (pe_ix ix_list (pv 6) (pv 9) (fun _ _ => rfl)) pa_nil))))))
            (pss_one (ps_ret pe_bl))
            pss_nil)
          (pss_one (ps_if (pt_not (pt_val (pe_call CDow.ok (hr.mono (by decide)) (by rfl) CDow.at_ CDow.kp CDow.bd .nil pass0 (pa_cons (pe_ix ix_list (pv 4) (pv 9) (fun _ _ => rfl)) (pa_cons (pe_ix ix_list (pv 5) (pv 9) (fun _ _ => rfl)) (pa_cons (pe_ix ix_list (pv 6) (pv 9) (fun _ _ => rfl)) pa_nil))))))
            (pss_one (ps_ret pe_bl))
            pss_nil))))
      (pss_one (ps_ret (pe_call CLoo.ok (hr.mono (by decide)) (by rfl) CLoo.at_ CLoo.kp CLoo.bd .nil pass0 (pa_cons (pe_ix ix_list (pv 4) pe_int (fun _ _ => rfl)) (pa_cons (pe_ix ix_list (pv 5) pe_int (fun _ _ => rfl)) (pa_cons (pe_ix ix_list (pv 6) pe_int (fun _ _ => rfl)) pa_nil)))))))))))))), ?_⟩
    refine ⟨_, rfl, scr, ns, 0, rfl, hS, fun H1 s0 sm1 n0 st1 => ?_⟩
    refine ⟨_, rfl, s0, rfl, st1, fun H2 u1 k2 st2 f2 su1 => ?_⟩
    refine ⟨_, rfl, s0, rfl, st2, fun H3 u2 k3 st3 f3 su2 => ?_⟩
    refine ⟨_, rfl, fun x dx nx ndx ne => ⟨x, dx, u1, rfl, upd_same, fun H4 pa fu ob e1 e2 e3 npa nfu kp fr => ⟨rfl, _, rfl, fun x2 dx2 nx2 ndx2 ne2 => ⟨x2, dx2, u2, rfl, upd_same, fun H5 pa2 fu2 ob2 e12 e22 e32 npa2 nfu2 kp2 fr2 => ⟨rfl, by show 2 ≤ sizeLine; decide, fun hs nhs => ?_⟩⟩⟩⟩⟩
    obtain ⟨H6, s6, l6, r6⟩ : ∃ H6, Same H5 H6 ∧ H6 hs = some (.lst [.ref x, .ref x2]) ∧ upd H5 hs (.lst [.ref x, .ref x2]) = H6 := ⟨_, same_new nhs, upd_same, rfl⟩
    rw [r6]
    refine ⟨_, rfl, by show 1 ≤ sizeLine; decide, fun b0 nb0 => ?_⟩
    obtain ⟨H7, s7, l7, r7⟩ : ∃ H7, Same H6 H7 ∧ H7 b0 = some (.lst [u1]) ∧ upd H6 b0 (.lst [u1]) = H7 := ⟨_, same_new nb0, upd_same, rfl⟩
    rw [r7]
    refine ⟨_, rfl, by show 1 ≤ sizeLine; decide, fun b1 nb1 => ?_⟩
    obtain ⟨H8, s8, l8, r8⟩ : ∃ H8, Same H7 H8 ∧ H8 b1 = some (.lst [u2]) ∧ upd H7 b1 (.lst [u2]) = H8 := ⟨_, same_new nb1, upd_same, rfl⟩
    rw [r8]
    refine ⟨by show 2 ≤ sizeLine; decide, fun bs nbs => ?_⟩
    obtain ⟨H9, s9, l9, r9⟩ : ∃ H9, Same H8 H9 ∧ H9 bs = some (.lst [.ref b0, .ref b1]) ∧ upd H8 bs (.lst [.ref b0, .ref b1]) = H9 := ⟨_, same_new nbs, upd_same, rfl⟩
    rw [r9]
    refine ⟨by show 0 ≤ sizeLine; decide, fun a0 na0 => ?_⟩
    obtain ⟨H10, s10, l10, r10⟩ : ∃ H10, Same H9 H10 ∧ H10 a0 = some (.lst []) ∧ upd H9 a0 (.lst []) = H10 := ⟨_, same_new na0, upd_same, rfl⟩
    rw [r10]
    refine ⟨by show 0 ≤ sizeLine; decide, fun a1 na1 => ?_⟩
    obtain ⟨H11, s11, l11, r11⟩ : ∃ H11, Same H10 H11 ∧ H11 a1 = some (.lst []) ∧ upd H10 a1 (.lst []) = H11 := ⟨_, same_new na1, upd_same, rfl⟩
    rw [r11]
    refine ⟨by show 2 ≤ sizeLine; decide, fun aa naa => ?_⟩
    obtain ⟨H12, s12, l12, r12⟩ : ∃ H12, Same H11 H12 ∧ H12 aa = some (.lst [.ref a0, .ref a1]) ∧ upd H11 aa (.lst [.ref a0, .ref a1]) = H12 := ⟨_, same_new naa, upd_same, rfl⟩
    rw [r12]
    have D0 : Duo C CU H H12 hs bs aa s0 (fun i => if i = 0 then x else x2) (fun i => if i = 0 then b0 else b1) (fun i => if i = 0 then a0 else a1) (fun i => if i = 0 then [x, pa, fu, b0, a0] else [x2, pa2, fu2, b1, a1]) 0 := by
      have s3 : Same H H3 := fun c o e => k3 _ _ (ne_of_none e n0) (k2 _ _ (ne_of_none e n0) (sm1 _ _ e))
      have s4 := same_make nx ndx kp
      have s5 := same_make nx2 ndx2 kp2
      have m3 : ∀ d ∈ [s0], H3 d ≠ none := fun d m => by rw [List.mem_singleton.mp m]; exact st3.some
      obtain ⟨nd4, m4⟩ := nd_make (List.nodup_cons.mpr ⟨by simp, List.nodup_nil⟩) m3 nx ndx npa nfu e3 kp ob e1 e2
      obtain ⟨nd5, m5⟩ := nd_make nd4 m4 nx2 ndx2 npa2 nfu2 e32 kp2 ob2 e12 e22
      have nd6 := nd_new nd5 m5 nhs
      have m6 := al_new s6 m5 (not_none l6)
      have nd7 := nd_new nd6 m6 nb0
      have m7 := al_new s7 m6 (not_none l7)
      have nd8 := nd_new nd7 m7 nb1
      have m8 := al_new s8 m7 (not_none l8)
      have nd9 := nd_new nd8 m8 nbs
      have m9 := al_new s9 m8 (not_none l9)
      have nd10 := nd_new nd9 m9 na0
      have m10 := al_new s10 m9 (not_none l10)
      have nd11 := nd_new nd10 m10 na1
      have m11 := al_new s11 m10 (not_none l11)
      have nd12 := nd_new nd11 m11 naa
      have t34 : Same H H4 := s3.trans s4
      have t5 : Same H H5 := t34.trans s5
      have u5 : Same H5 H12 := ((((((s6.trans s7).trans s8).trans s9).trans s10).trans s11).trans s12)
      have u4 : Same H4 H12 := s5.trans u5
      have ist : ∀ u, (u = u1 ∨ u = u2) → IsSt CU H12 u := fun u hu => by
        have i3 : IsSt CU H3 u := by
          rcases hu with rfl | rfl
          · rcases su1 with t | t | ⟨q, zs, rfl, few, dx, t, e1, e2⟩
            · exact .inl t
            · exact .inr (.inl t)
            · obtain ⟨i, j, m, hst⟩ := st2
              refine .inr (.inr ⟨q, zs, rfl, few, dx, t, k3 _ _ (fun z => ?_) e1, k3 _ _ (fun z => ?_) e2⟩)
              · rw [z, hst] at e1; cases e1
              · rw [z, hst] at e2; cases e2
          · exact su2
        rcases i3 with t | t | ⟨q, zs, rfl, few, dx, t, e1, e2⟩
        · exact .inl t
        · exact .inr (.inl t)
        · exact .inr (.inr ⟨q, zs, rfl, few, dx, t, u4 _ _ (s4 _ _ e1), u4 _ _ (s4 _ _ e2)⟩)
      have z3 : ∀ {c}, H3 c = none → H c = none := fun e => s3.free0 _ e
      have z4 : ∀ {c}, H4 c = none → H c = none := fun e => t34.free0 _ e
      have z5 : ∀ {c}, H5 c = none → H c = none := fun e => t5.free0 _ e
      have y6 := t5.trans s6
      have y7 := y6.trans s7
      have y8 := y7.trans s8
      have y9 := y8.trans s9
      have y10 := y9.trans s10
      simp only [List.nodup_cons, List.mem_cons, List.not_mem_nil, or_false, not_or, not_false_eq_true, List.nodup_nil, and_true] at nd12
      have h0 : Hs C CU H12 [x, pa, fu, b0, a0] x b0 a0 [] u1 [] := ⟨⟨dx, pa, fu, ⟨u4 _ _ ob, u4 _ _ e1, u4 _ _ e2, e3⟩, rfl, by grind only, by grind only, by grind only, by grind only⟩, s12 _ _ (s11 _ _ (s10 _ _ (s9 _ _ (s8 _ _ l7)))), s12 _ _ (s11 _ _ l10), by grind only, fun u hu => ist u (.inl (by simpa using hu))⟩
      have h1 : Hs C CU H12 [x2, pa2, fu2, b1, a1] x2 b1 a1 [] u2 [] := ⟨⟨dx2, pa2, fu2, ⟨u5 _ _ ob2, u5 _ _ e12, u5 _ _ e22, e32⟩, rfl, by grind only, by grind only, by grind only, by grind only⟩, s12 _ _ (s11 _ _ (s10 _ _ (s9 _ _ l8))), s12 _ _ l11, by grind only, fun u hu => ist u (.inr (by simpa using hu))⟩
      refine ⟨t5.trans u5, fun i hi c hc => ?_, n0, ?_, s12 _ _ (s11 _ _ (s10 _ _ (s9 _ _ (s8 _ _ (s7 _ _ l6))))), s12 _ _ (s11 _ _ (s10 _ _ l9)), l12, fun i hi => ?_, fun i hi => ?_, ?_⟩
      · have : i = 0 ∨ i = 1 := by omega
        rcases this with rfl | rfl
        · simp only [if_pos, List.mem_cons, List.not_mem_nil, or_false] at hc
          rcases hc with rfl | rfl | rfl | rfl | rfl
          · exact z3 nx
          · exact z3 (new_make npa).1
          · exact z3 (new_make nfu).1
          · exact y6.free0 _ nb0
          · exact y9.free0 _ na0
        · rw [if_neg (by decide)] at hc
          simp only [List.mem_cons, List.not_mem_nil, or_false] at hc
          rcases hc with rfl | rfl | rfl | rfl | rfl
          · exact z4 nx2
          · exact z4 (new_make npa2).1
          · exact z4 (new_make nfu2).1
          · exact y7.free0 _ nb1
          · exact y10.free0 _ na1
      · obtain ⟨i, j, m, e⟩ := st3
        exact ⟨i, j, m, u4 _ _ (s4 _ _ e)⟩
      · have : i = 0 ∨ i = 1 := by omega
        rcases this with rfl | rfl
        · rw [if_pos rfl]
          simp only [List.mem_cons, List.not_mem_nil, or_false, not_or]
          refine ⟨⟨?_, ?_, ?_, ?_, ?_⟩, ⟨?_, ?_, ?_, ?_, ?_⟩, ⟨?_, ?_, ?_, ?_, ?_⟩, ?_, ?_, ?_, ?_, ?_⟩ <;> grind only
        · rw [if_neg (by decide)]
          simp only [List.mem_cons, List.not_mem_nil, or_false, not_or]
          refine ⟨⟨?_, ?_, ?_, ?_, ?_⟩, ⟨?_, ?_, ?_, ?_, ?_⟩, ⟨?_, ?_, ?_, ?_, ?_⟩, ?_, ?_, ?_, ?_, ?_⟩ <;> grind only
      · have : i = 0 ∨ i = 1 := by omega
        rcases this with rfl | rfl
        · exact ⟨0, Nat.le_refl _, [], u1, [], h0, rfl⟩
        · exact ⟨0, Nat.le_refl _, [], u2, [], h1, rfl⟩
      · intro c hc hd
        rw [if_pos rfl] at hc
        rw [if_neg (by decide)] at hd
        simp only [List.mem_cons, List.not_mem_nil, or_false] at hc hd
        rcases hc with rfl | rfl | rfl | rfl | rfl <;> rcases hd with hd | hd | hd | hd | hd <;> grind only
    generalize (fun i => if i = 0 then x else x2 : Nat → Addr) = pF at D0
    generalize (fun i => if i = 0 then b0 else b1 : Nat → Addr) = bF at D0
    generalize (fun i => if i = 0 then a0 else a1 : Nat → Addr) = aF at D0
    generalize (fun i => if i = 0 then [x, pa, fu, b0, a0] else [x2, pa2, fu2, b1, a1] : Nat → List Addr) = A0 at D0
    clear s6 l6 r6 s7 l7 r7 s8 l8 r8 s9 l9 r9 s10 l10 r10 s11 l11 r11 s12 l12 r12
    have hS' : ∀ {H' : Hp}, Same H H' → SqL K H' scr (ns.map V.int) := fun s => by
      rcases hS with (h | ⟨o, h⟩) | h
      · exact .inl (.inl (s _ _ h))
      · exact .inl (.inr ⟨o, s _ _ h⟩)
      · exact .inr h
    refine ⟨_, rfl, scr, _, rfl, .inl (hS' D0.sm), _, _, rfl, ?_⟩
    obtain ⟨z, hz⟩ : ∃ z : Int, z = (if (63 : Int) < (((ns.map V.int).length : Nat) : Int) then 63 else (((ns.map V.int).length : Nat) : Int)) := ⟨_, rfl⟩
    rw [← hz]
    have z63 : z ≤ 63 ∧ 0 ≤ z := by split at hz <;> omega
    refine ⟨1, z, rfl, ⟨by decide, by decide, by omega, by omega⟩, for_range (lo := 1) (n := (z - 1).toNat) (fun i σ H' => ∃ (A : Nat → List Addr) (y7 y8 y9 y10 : Option V), Duo C CU H H' hs bs aa s0 pF bF aF A i ∧ σ = [some (.ref scr), some (.ref s0), some u1, some u2, some (.ref hs), some (.ref bs), some (.ref aa), y7, y8, y9, y10]) ⟨_, none, none, none, none, D0, rfl⟩ ?turn ?done⟩
    case turn =>
      rintro i σ H13 hi ⟨A1, y7, y8, y9, y10, D1, rfl⟩
      refine ⟨_, rfl, _, rfl, scr, ns, 1 + i, ?_, hS' D1.sm, fun H14 st sm14 nst st14 => ?_⟩
      · show [V.ref scr, V.int (1 + (i : Int))] = [V.ref scr, V.int ((1 + i : Nat) : Int)]
        rw [Int.natCast_add] <;> rfl
      have nA : ∀ j, j < 2 → st ∉ A1 j := fun j hj m => by
        obtain ⟨_, _, g⟩ := D1.h j hj
        exact g.used _ m nst
      have n0' : H st = none := D1.sm.free0 _ nst
      refine ⟨_, rfl, st, 4, rfl, st14, by decide, by decide, fun H15 d o15 st15 d0 d4 => ?_⟩
      have D3 := (D1.same sm14).turn st14 nA n0' o15 st15
      obtain ⟨j, hj, ej⟩ : ∃ j : Nat, j < 2 ∧ d / 3 = (j : Int) := ⟨(d / 3).toNat, by omega, by omega⟩
      refine ⟨_, _, rfl, rfl, ⟨by decide, by decide⟩, ?_⟩
      obtain ⟨m, lm, hm⟩ := D3.h j hj
      refine ⟨_, rfl, _, rfl, hs, _, _, _, rfl, rfl, sl_map D3.lh, at_duoE hj ej, _, rfl, _, rfl, bs, _, _, _, rfl, rfl, sl_map D3.lb, at_duoE hj ej, _, rfl, _, rfl, aa, _, _, _, rfl, rfl, sl_map D3.la, at_duoE hj ej, _, rfl, A1 j, pF j, bF j, aF j, st, m, rfl, hm, by omega, st15, nA j hj, fun H16 A2 m2 h16 le16 l16 st16 => ⟨_, rfl, ite_both (fun c => absurd c (by decide)) fun _ => ?_⟩⟩
      have D4 := D3.step hj st15 nA n0' st16 l16 h16 (n' := i + 1) (by omega) (Nat.le_succ i)
      have nA2 : ∀ k, k < 2 → st ∉ (fun k => if k = j then A2 else A1 k) k := fun k hk => by
        by_cases kj : k = j
        · simp only [if_pos kj]
          exact fun m => (l16.new st m).elim (nA j hj) fun z => st15.some z
        · simp only [if_neg kj]
          exact nA k hk
      generalize (fun k => if k = j then A2 else A1 k) = A3 at D4 nA2
      refine ⟨_, rfl, st, 2, rfl, st16, by decide, by decide, fun H17 e o17 st17 _ _ => ⟨rfl, _, rfl, ite_both (fun _ => ?_) fun _ => ⟨A3, _, _, _, _, D4.turn st16 nA2 n0' o17 st17, rfl⟩⟩⟩
      have D5 := D4.turn st16 nA2 n0' o17 st17
      refine ⟨(2 : Int), rfl, by decide, by decide, for_range (lo := 0) (fun t σ H' => H' = H17 ∧ ∃ y10, σ = [some (.ref scr), some (.ref s0), some u1, some u2, some (.ref hs), some (.ref bs), some (.ref aa), some (.int (1 + (i : Int))), some (.ref st), some (.int (d / 3)), y10]) ⟨rfl, _, rfl⟩ ?_ ?_⟩
      · rintro t σ H18 ht ⟨rfl, y10, rfl⟩
        have ht2 : t < 2 := ht
        obtain ⟨m3, _, hm3⟩ := D5.h t ht2
        exact ⟨_, rfl, _, rfl, hs, _, _, _, rfl, rfl, sl_map D5.lh, at_duo0 ht2, _, rfl, _, rfl, bs, _, _, _, rfl, rfl, sl_map D5.lb, at_duo0 ht2, _, rfl, _, rfl, aa, _, _, _, rfl, rfl, sl_map D5.la, at_duo0 ht2, A3 t, pF t, bF t, aF t, m3, rfl, hm3, _, rfl, ite_both (fun c => absurd c (by decide)) fun _ => ⟨rfl, _, rfl⟩⟩
      · rintro σ H18 ⟨rfl, y10, rfl⟩
        exact ⟨A3, _, _, _, _, D5, rfl⟩
    case done =>
      rintro σ H13 ⟨A1, y7, y8, y9, y10, D1, rfl⟩
      have n62 : (z - 1).toNat ≤ 62 := by omega
      refine' with_restS (fun σ H' => ∃ (A : Nat → List Addr), Duo C CU H H' hs bs aa s0 pF bF aF A (z - 1).toNat ∧ σ = [some (.ref scr), some (.ref s0), some u1, some u2, some (.ref hs), some (.ref bs), some (.ref aa), y7, y8, y9, y10]) ?rest (fun rest => ?now)
      case now =>
        refine ⟨_, rfl, s0, 16, rfl, D1.st, by decide, by decide, fun H14 d o14 st14 _ _ => ?_⟩
        have D2 := D1.turn D1.st (fun i hi => (D1.out i hi).2.2.2) D1.ne0 o14 st14
        exact ⟨rfl, _, rfl, ite_both (fun _ => ⟨rfl, fun H15 s15 => ⟨_, rfl, ite_both (fun c => absurd c (by decide)) fun _ => rest _ _ ⟨A1, D2.same s15, rfl⟩⟩⟩) fun _ => iteF (rest _ _ ⟨A1, D2, rfl⟩)⟩
      case rest =>
        rintro σ H14 ⟨A2, D2, rfl⟩
        refine ⟨(2 : Int), rfl, by decide, by decide, for_range (lo := 0) (fun t σ H' => ∃ (A : Nat → List Addr) (y9 : Option V), Duo C CU H H' hs bs aa s0 pF bF aF A ((z - 1).toNat + t) ∧ σ = [some (.ref scr), some (.ref s0), some u1, some u2, some (.ref hs), some (.ref bs), some (.ref aa), y7, y8, y9, y10]) ⟨A2, _, D2, rfl⟩ ?_ ?_⟩
        · rintro t σ H15 ht ⟨A3, y9, D3, rfl⟩
          have ht2 : t < 2 := ht
          obtain ⟨m, lm, hm⟩ := D3.h t ht2
          refine ⟨_, rfl, _, rfl, hs, _, _, _, rfl, rfl, sl_map D3.lh, at_duo0 ht2, _, rfl, _, rfl, bs, _, _, _, rfl, rfl, sl_map D3.lb, at_duo0 ht2, _, rfl, _, rfl, aa, _, _, _, rfl, rfl, sl_map D3.la, at_duo0 ht2, A3 t, pF t, bF t, aF t, m, rfl, hm, _, rfl, ite_both (fun c => absurd c (by decide)) fun _ => ?_⟩
          refine ⟨_, rfl, _, rfl, hs, _, _, _, rfl, rfl, sl_map D3.lh, at_duo0 ht2, _, rfl, _, rfl, bs, _, _, _, rfl, rfl, sl_map D3.lb, at_duo0 ht2, _, rfl, _, rfl, aa, _, _, _, rfl, rfl, sl_map D3.la, at_duo0 ht2, A3 t, pF t, bF t, aF t, m, rfl, hm, by omega, fun H16 A4 m2 h16 le16 l16 => ⟨_, rfl, ite_both (fun c => absurd c (by decide)) fun _ => ?_⟩⟩
          have o := D3.out t ht2
          have st16 : Strm H16 s0 := by
            obtain ⟨i, j, l, e⟩ := D3.st
            exact ⟨i, j, l, l16.keep _ _ o.2.2.2 e⟩
          exact ⟨_, _, D3.step ht2 D3.st (fun i hi => (D3.out i hi).2.2.2) D3.ne0 st16 (l16.toS s0) h16 (by omega) (by omega), rfl⟩
        · rintro σ H15 ⟨A3, y9, D3, rfl⟩
          obtain ⟨m, lm, hm⟩ := D3.h 0 (by decide)
          exact ⟨_, rfl, hs, _, _, _, rfl, rfl, sl_map D3.lh, at_duo (f := pF) (i := 0) (by decide), _, rfl, bs, _, _, _, rfl, rfl, sl_map D3.lb, at_duo (f := bF) (i := 0) (by decide), _, rfl, aa, _, _, _, rfl, rfl, sl_map D3.la, at_duo (f := aF) (i := 0) (by decide), A3 0, pF 0, bF 0, aF 0, m, rfl, hm, k _⟩
end
end K16

set_option Elab.async false
set_option linter.all false
set_option maxRecDepth 100000
set_option maxHeartbeats 4000000
namespace K16
open PySem PySem.Spec PyProof.Rows L2 Cs CsX
/-- an __init__ of an error -/
structure CallI (P : Program) (w : World) (K : PySem.W.Frag) (mg : Str → Option Value) (base : Heap) (f : Addr) (fd : FuncData) (ps : List Str) (sp : Sp) : Prop where
  ok : FnOk P w K mg base CX0 1 f fd ps sp
  bd : Binds K fd ps []
theorem no_meth {m : Str} (h1 : (m == "_past") = false) (h2 : (m == "_present") = false) (h3 : (m == "_future") = false) (pa : Addr) (v : V) (fu : Addr) : (flds pa v fu).lookup m = none := by
  unfold flds
  simp only [List.lookup, h1, h2, h3]
theorem no_undo : ∀ pa v fu, (flds pa v fu).lookup ("undo" : Str) = none := no_meth (by decide +kernel) (by decide +kernel) (by decide +kernel)
theorem no_redo : ∀ pa v fu, (flds pa v fu).lookup ("redo" : Str) = none := no_meth (by decide +kernel) (by decide +kernel) (by decide +kernel)
theorem no_push : ∀ pa v fu, (flds pa v fu).lookup ("push" : Str) = none := no_meth (by decide +kernel) (by decide +kernel) (by decide +kernel)
theorem no_back : ∀ pa v fu, (flds pa v fu).lookup ("back_to" : Str) = none := no_meth (by decide +kernel) (by decide +kernel) (by decide +kernel)
section
variable {P : Program} {w : World} {K : PySem.W.Frag} {mg : Str → Option Value} {base : Heap}
theorem ok_HUdoB {f C CE : Addr} {fd : FuncData} (F : Fun K "undo" "History.undo" sHUdo f fd) (T : Kls K mg "History" C hF) (B : Bt mg) (U : Own0 K mg "NothingToUndo" CE) : FnOk P w K mg base (L2.CX P w) 1 f fd ["self"] (spHUdoB C CE) := CsX.FnOk.or (lift0 (ok_HUdo F T B)) (ok_HUdoX F T B U)
theorem ok_HRdoB {f C CE : Addr} {fd : FuncData} (F : Fun K "redo" "History.redo" sHRdo f fd) (T : Kls K mg "History" C hF) (B : Bt mg) (U : Own0 K mg "NothingToRedo" CE) : FnOk P w K mg base (L2.CX P w) 1 f fd ["self"] (spHRdoB C CE) := CsX.FnOk.or (lift0 (ok_HRdo F T B)) (ok_HRdoX F T B U)
theorem ok_HBakBN {f C ps fs fu' CE fI : Addr} {fd fds fdu fdI : FuncData} (F : Fun K "back_to" "History.back_to" sHBak f fd) (T : Kls K mg "History" C hF) (B : Bt mg)
    (St : CallP P w K mg base 1 C "steps" ps fs fds (spGet C fun xs _ _ => .int (xs.length : Nat))) (Un : CallM P w K mg base 1 C "undo" fu' fdu ["self"] (spHUdo C))
    (U : Own K mg "UnknownStep" CE fI ["number"]) (I : CallI P w K mg base fI fdI ["self", "number"] (spIni CE "number")) :
    FnOk P w K mg base (L2N.CX P w) 3 f fd ["self", "steps"] (spHBakB C CE) := CsX.FnOk.or (CsX.liftE (ok_HBak F T B St Un no_undo)) (ok_HBakN F T B St U I.ok I.bd)
end
end K16

set_option Elab.async false
set_option linter.all false
set_option maxRecDepth 100000
set_option maxHeartbeats 4000000
namespace K16
open PySem PySem.Spec PyProof.Rows L2 Cs CsX
/-! ### what the top has written -/
theorem all_mk {l : PySem.W.OpenLaw} {w : World} {K : PySem.W.Frag} {h : Heap} {mg : Str → Option Value} {fa kk0 kk1 km0_0 km0_1 km0_2 km0_3 km0_4 km1_0 kp0_0 kg0_0 kp0_1 kg0_1 kp0_2 kg0_2 f1 f2 f3 f4 f5 f6 f7 f8 f9 f10 f11 f12 f13 f14 f15 e0 e1 e2 e3 e4 e5 e6 e7 e8 e9 e10 e11 e12 e13 e14 e15 e16 e17 e18 e19 e20 e21 e22 e23 e24 i0 : Addr} (X : K.In h) (G : h.Ns mainGlobals mg) (hfa : mg "law" = some (.ref fa))
    {od1 an1 od2 an2 od3 an3 od4 an4 od5 an5 od6 an6 od7 an7 od8 an8 od9 an9 od10 an10 od11 an11 od12 an12 od13 an13 od14 an14 od15 an15 : Option Addr} {sl1 sl2 sl3 sl4 sl5 sl6 sl7 sl8 sl9 sl10 sl11 sl12 sl13 sl14 sl15 : Array (Option Value)}
    {oc1 kV1 dc1 pm1 cd1 ct1 oc2 kV2 dc2 pm2 cd2 ct2 oc3 kV3 dc3 pm3 cd3 ct3 oc4 kV4 dc4 pm4 cd4 ct4 oc5 kV5 dc5 pm5 cd5 ct5 oc6 kV6 dc6 pm6 cd6 ct6 oc7 kV7 dc7 pm7 cd7 ct7 oc8 kV8 dc8 pm8 cd8 ct8 oc9 kV9 dc9 pm9 cd9 ct9 oc10 kV10 dc10 pm10 cd10 ct10 oc11 kV11 dc11 pm11 cd11 ct11 oc12 kV12 dc12 pm12 cd12 ct12 oc13 kV13 dc13 pm13 cd13 ct13 oc14 kV14 dc14 pm14 cd14 ct14 oc15 kV15 dc15 pm15 cd15 ct15 : Value}
    {km0_0od km0_0an : Option Addr} {km0_0sl : Array (Option Value)} {km0_0oc km0_0kV km0_0dc km0_0pm km0_0cd km0_0ct : Value}
    {km0_1od km0_1an : Option Addr} {km0_1sl : Array (Option Value)} {km0_1oc km0_1kV km0_1dc km0_1pm km0_1cd km0_1ct : Value}
    {km0_2od km0_2an : Option Addr} {km0_2sl : Array (Option Value)} {km0_2oc km0_2kV km0_2dc km0_2pm km0_2cd km0_2ct : Value}
    {km0_3od km0_3an : Option Addr} {km0_3sl : Array (Option Value)} {km0_3oc km0_3kV km0_3dc km0_3pm km0_3cd km0_3ct : Value}
    {km0_4od km0_4an : Option Addr} {km0_4sl : Array (Option Value)} {km0_4oc km0_4kV km0_4dc km0_4pm km0_4cd km0_4ct : Value}
    {km1_0od km1_0an : Option Addr} {km1_0sl : Array (Option Value)} {km1_0oc km1_0kV km1_0dc km1_0pm km1_0cd km1_0ct : Value}
    {kg0_0od kg0_0an : Option Addr} {kg0_0sl : Array (Option Value)} {kg0_0oc kg0_0kV kg0_0dc kg0_0pm kg0_0cd kg0_0ct : Value} {kg0_0rs : List Value}
    {kg0_1od kg0_1an : Option Addr} {kg0_1sl : Array (Option Value)} {kg0_1oc kg0_1kV kg0_1dc kg0_1pm kg0_1cd kg0_1ct : Value} {kg0_1rs : List Value}
    {kg0_2od kg0_2an : Option Addr} {kg0_2sl : Array (Option Value)} {kg0_2oc kg0_2kV kg0_2dc kg0_2pm kg0_2cd kg0_2ct : Value} {kg0_2rs : List Value}
    {iod0 ian0 : Option Addr} {isl0 : Array (Option Value)} {ioc0 ikV0 idc0 ipm0 icd0 ict0 : Value} {nm0 q0 : Str} {N0 : Addr} {bs0 : List Value} {sn0 : List Str} {sub0 : List Value} {ab0 : Bool} {col0 : Option Bool} {dd0 : Option Addr} {m00 m10 m20 m30 m50 : Option Value}
    (a1 : PySem.W.nsIn K mainGlobals "_law_is_integer" = some (some (.ref f1))) (l1 : K.lookup f1 = some ⟨oc1, od1, .func (PySem.W.fnOf "_law_is_integer" "_law_is_integer" (defArgs sIsInt) (defBody sIsInt) (defScope sIsInt) .none kV1 dc1 pm1 an1 cd1 ct1), sl1⟩) (c1 : PySem.W.codeIn K cd1 "_law_is_integer" = true) (k1 : PySem.W.keepIn K (.ref f1) = true)
    (a2 : PySem.W.nsIn K mainGlobals "_law_stream" = some (some (.ref f2))) (l2 : K.lookup f2 = some ⟨oc2, od2, .func (PySem.W.fnOf "_law_stream" "_law_stream" (defArgs sStream) (defBody sStream) (defScope sStream) .none kV2 dc2 pm2 an2 cd2 ct2), sl2⟩) (c2 : PySem.W.codeIn K cd2 "_law_stream" = true) (k2 : PySem.W.keepIn K (.ref f2) = true)
    (a3 : PySem.W.nsIn K mainGlobals "_law_next" = some (some (.ref f3))) (l3 : K.lookup f3 = some ⟨oc3, od3, .func (PySem.W.fnOf "_law_next" "_law_next" (defArgs sDraw) (defBody sDraw) (defScope sDraw) .none kV3 dc3 pm3 an3 cd3 ct3), sl3⟩) (c3 : PySem.W.codeIn K cd3 "_law_next" = true) (k3 : PySem.W.keepIn K (.ref f3) = true)
    (a4 : PySem.W.nsIn K mainGlobals "checked_names" = some (some (.ref f4))) (l4 : K.lookup f4 = some ⟨oc4, od4, .func (PySem.W.fnOf "checked_names" "checked_names" (defArgs sChk) (defBody sChk) (defScope sChk) .none kV4 dc4 pm4 an4 cd4 ct4), sl4⟩) (c4 : PySem.W.codeIn K cd4 "checked_names" = true) (k4 : PySem.W.keepIn K (.ref f4) = true)
    (a5 : PySem.W.nsIn K mainGlobals "_law_state" = some (some (.ref f5))) (l5 : K.lookup f5 = some ⟨oc5, od5, .func (PySem.W.fnOf "_law_state" "_law_state" (defArgs sSta) (defBody sSta) (defScope sSta) .none kV5 dc5 pm5 an5 cd5 ct5), sl5⟩) (c5 : PySem.W.codeIn K cd5 "_law_state" = true) (k5 : PySem.W.keepIn K (.ref f5) = true)
    (a6 : PySem.W.nsIn K mainGlobals "_law_same_state" = some (some (.ref f6))) (l6 : K.lookup f6 = some ⟨oc6, od6, .func (PySem.W.fnOf "_law_same_state" "_law_same_state" (defArgs sSam) (defBody sSam) (defScope sSam) .none kV6 dc6 pm6 an6 cd6 ct6), sl6⟩) (c6 : PySem.W.codeIn K cd6 "_law_same_state" = true) (k6 : PySem.W.keepIn K (.ref f6) = true)
    (a7 : PySem.W.nsIn K mainGlobals "_law_looks" = some (some (.ref f7))) (l7 : K.lookup f7 = some ⟨oc7, od7, .func (PySem.W.fnOf "_law_looks" "_law_looks" (defArgs sLoo) (defBody sLoo) (defScope sLoo) .none kV7 dc7 pm7 an7 cd7 ct7), sl7⟩) (c7 : PySem.W.codeIn K cd7 "_law_looks" = true) (k7 : PySem.W.keepIn K (.ref f7) = true)
    (a8 : PySem.W.nsIn K mainGlobals "_law_undo" = some (some (.ref f8))) (l8 : K.lookup f8 = some ⟨oc8, od8, .func (PySem.W.fnOf "_law_undo" "_law_undo" (defArgs sUdo) (defBody sUdo) (defScope sUdo) .none kV8 dc8 pm8 an8 cd8 ct8), sl8⟩) (c8 : PySem.W.codeIn K cd8 "_law_undo" = true) (k8 : PySem.W.keepIn K (.ref f8) = true)
    (a9 : PySem.W.nsIn K mainGlobals "_law_redo" = some (some (.ref f9))) (l9 : K.lookup f9 = some ⟨oc9, od9, .func (PySem.W.fnOf "_law_redo" "_law_redo" (defArgs sRdo) (defBody sRdo) (defScope sRdo) .none kV9 dc9 pm9 an9 cd9 ct9), sl9⟩) (c9 : PySem.W.codeIn K cd9 "_law_redo" = true) (k9 : PySem.W.keepIn K (.ref f9) = true)
    (a10 : PySem.W.nsIn K mainGlobals "_law_back" = some (some (.ref f10))) (l10 : K.lookup f10 = some ⟨oc10, od10, .func (PySem.W.fnOf "_law_back" "_law_back" (defArgs sBak) (defBody sBak) (defScope sBak) .none kV10 dc10 pm10 an10 cd10 ct10), sl10⟩) (c10 : PySem.W.codeIn K cd10 "_law_back" = true) (k10 : PySem.W.keepIn K (.ref f10) = true)
    (a11 : PySem.W.nsIn K mainGlobals "_law_push" = some (some (.ref f11))) (l11 : K.lookup f11 = some ⟨oc11, od11, .func (PySem.W.fnOf "_law_push" "_law_push" (defArgs sPus) (defBody sPus) (defScope sPus) .none kV11 dc11 pm11 an11 cd11 ct11), sl11⟩) (c11 : PySem.W.codeIn K cd11 "_law_push" = true) (k11 : PySem.W.keepIn K (.ref f11) = true)
    (a12 : PySem.W.nsIn K mainGlobals "_law_deed" = some (some (.ref f12))) (l12 : K.lookup f12 = some ⟨oc12, od12, .func (PySem.W.fnOf "_law_deed" "_law_deed" (defArgs sDee) (defBody sDee) (defScope sDee) .none kV12 dc12 pm12 an12 cd12 ct12), sl12⟩) (c12 : PySem.W.codeIn K cd12 "_law_deed" = true) (k12 : PySem.W.keepIn K (.ref f12) = true)
    (a13 : PySem.W.nsIn K mainGlobals "_law_down_and_up" = some (some (.ref f13))) (l13 : K.lookup f13 = some ⟨oc13, od13, .func (PySem.W.fnOf "_law_down_and_up" "_law_down_and_up" (defArgs sDow) (defBody sDow) (defScope sDow) .none kV13 dc13 pm13 an13 cd13 ct13), sl13⟩) (c13 : PySem.W.codeIn K cd13 "_law_down_and_up" = true) (k13 : PySem.W.keepIn K (.ref f13) = true)
    (a14 : PySem.W.nsIn K mainGlobals "_law_long_holds" = some (some (.ref f14))) (l14 : K.lookup f14 = some ⟨oc14, od14, .func (PySem.W.fnOf "_law_long_holds" "_law_long_holds" (defArgs sLon) (defBody sLon) (defScope sLon) .none kV14 dc14 pm14 an14 cd14 ct14), sl14⟩) (c14 : PySem.W.codeIn K cd14 "_law_long_holds" = true) (k14 : PySem.W.keepIn K (.ref f14) = true)
    (a15 : PySem.W.nsIn K mainGlobals "law" = some (some (.ref f15))) (l15 : K.lookup f15 = some ⟨oc15, od15, .func (PySem.W.fnOf "law" "law" (defArgs sLaw) (defBody sLaw) (defScope sLaw) .none kV15 dc15 pm15 an15 cd15 ct15), sl15⟩) (c15 : PySem.W.codeIn K cd15 "law" = true) (k15 : PySem.W.keepIn K (.ref f15) = true)
    (kc0 : PySem.W.nsIn K mainGlobals "History" = some (some (.ref kk0)))
    (kpg0 : PySem.W.plainGet K kk0 Str.empty = true)
    (khd0 : PySem.W.hasDictIn K kk0 = true)
    (kpo0 : PySem.W.plainOver K kk0 = true)
    (ksa0 : PySem.W.findIn K (.ref kk0) "__setattr__" = some (some (.builtin "object.__setattr__")))
    (kmk0 : PySem.W.makesIn K kk0 = true)
    (kkc0 : PySem.W.keepIn K (.ref kk0) = true)
    (kn0_0 : PySem.W.findIn K (.ref kk0) "_past" = some none)
    (kn0_1 : PySem.W.findIn K (.ref kk0) "_present" = some none)
    (kn0_2 : PySem.W.findIn K (.ref kk0) "_future" = some none)
    (km0_0a : PySem.W.findIn K (.ref kk0) "__init__" = some (some (.ref km0_0)))
    (km0_0i : PySem.W.isFn K (.ref km0_0) = true)
    (km0_0l : K.lookup km0_0 = some ⟨km0_0oc, km0_0od, .func (PySem.W.fnOf "__init__" "History.__init__" (defArgs sHIni) (defBody sHIni) (defScope sHIni) .none km0_0kV km0_0dc km0_0pm km0_0an km0_0cd km0_0ct), km0_0sl⟩)
    (km0_0c : PySem.W.codeIn K km0_0cd "History.__init__" = true)
    (km0_0k : PySem.W.keepIn K (.ref km0_0) = true)
    (km0_1a : PySem.W.findIn K (.ref kk0) "push" = some (some (.ref km0_1)))
    (km0_1i : PySem.W.isFn K (.ref km0_1) = true)
    (km0_1l : K.lookup km0_1 = some ⟨km0_1oc, km0_1od, .func (PySem.W.fnOf "push" "History.push" (defArgs sHPus) (defBody sHPus) (defScope sHPus) .none km0_1kV km0_1dc km0_1pm km0_1an km0_1cd km0_1ct), km0_1sl⟩)
    (km0_1c : PySem.W.codeIn K km0_1cd "History.push" = true)
    (km0_1k : PySem.W.keepIn K (.ref km0_1) = true)
    (km0_2a : PySem.W.findIn K (.ref kk0) "undo" = some (some (.ref km0_2)))
    (km0_2i : PySem.W.isFn K (.ref km0_2) = true)
    (km0_2l : K.lookup km0_2 = some ⟨km0_2oc, km0_2od, .func (PySem.W.fnOf "undo" "History.undo" (defArgs sHUdo) (defBody sHUdo) (defScope sHUdo) .none km0_2kV km0_2dc km0_2pm km0_2an km0_2cd km0_2ct), km0_2sl⟩)
    (km0_2c : PySem.W.codeIn K km0_2cd "History.undo" = true)
    (km0_2k : PySem.W.keepIn K (.ref km0_2) = true)
    (km0_3a : PySem.W.findIn K (.ref kk0) "redo" = some (some (.ref km0_3)))
    (km0_3i : PySem.W.isFn K (.ref km0_3) = true)
    (km0_3l : K.lookup km0_3 = some ⟨km0_3oc, km0_3od, .func (PySem.W.fnOf "redo" "History.redo" (defArgs sHRdo) (defBody sHRdo) (defScope sHRdo) .none km0_3kV km0_3dc km0_3pm km0_3an km0_3cd km0_3ct), km0_3sl⟩)
    (km0_3c : PySem.W.codeIn K km0_3cd "History.redo" = true)
    (km0_3k : PySem.W.keepIn K (.ref km0_3) = true)
    (km0_4a : PySem.W.findIn K (.ref kk0) "back_to" = some (some (.ref km0_4)))
    (km0_4i : PySem.W.isFn K (.ref km0_4) = true)
    (km0_4l : K.lookup km0_4 = some ⟨km0_4oc, km0_4od, .func (PySem.W.fnOf "back_to" "History.back_to" (defArgs sHBak) (defBody sHBak) (defScope sHBak) .none km0_4kV km0_4dc km0_4pm km0_4an km0_4cd km0_4ct), km0_4sl⟩)
    (km0_4c : PySem.W.codeIn K km0_4cd "History.back_to" = true)
    (km0_4k : PySem.W.keepIn K (.ref km0_4) = true)
    (kp0_0a : PySem.W.findIn K (.ref kk0) "state" = some (some (.ref kp0_0)))
    (kp0_0g : PySem.W.specialIn K (.ref kp0_0) "__get__" = some (some (.builtin "property.__get__")))
    (kp0_0t : PySem.W.takesIn K (.ref kp0_0) = some true)
    (kp0_0r : PySem.W.recIn K kp0_0 "property" = some (.ref kg0_0 :: kg0_0rs))
    (kg0_0l : K.lookup kg0_0 = some ⟨kg0_0oc, kg0_0od, .func (PySem.W.fnOf "state" "History.state" (defArgs sHSta) (defBody sHSta) (defScope sHSta) .none kg0_0kV kg0_0dc kg0_0pm kg0_0an kg0_0cd kg0_0ct), kg0_0sl⟩)
    (kg0_0c : PySem.W.codeIn K kg0_0cd "History.state" = true)
    (kg0_0k : PySem.W.keepIn K (.ref kg0_0) = true)
    (kp0_1a : PySem.W.findIn K (.ref kk0) "steps" = some (some (.ref kp0_1)))
    (kp0_1g : PySem.W.specialIn K (.ref kp0_1) "__get__" = some (some (.builtin "property.__get__")))
    (kp0_1t : PySem.W.takesIn K (.ref kp0_1) = some true)
    (kp0_1r : PySem.W.recIn K kp0_1 "property" = some (.ref kg0_1 :: kg0_1rs))
    (kg0_1l : K.lookup kg0_1 = some ⟨kg0_1oc, kg0_1od, .func (PySem.W.fnOf "steps" "History.steps" (defArgs sHSte) (defBody sHSte) (defScope sHSte) .none kg0_1kV kg0_1dc kg0_1pm kg0_1an kg0_1cd kg0_1ct), kg0_1sl⟩)
    (kg0_1c : PySem.W.codeIn K kg0_1cd "History.steps" = true)
    (kg0_1k : PySem.W.keepIn K (.ref kg0_1) = true)
    (kp0_2a : PySem.W.findIn K (.ref kk0) "undone" = some (some (.ref kp0_2)))
    (kp0_2g : PySem.W.specialIn K (.ref kp0_2) "__get__" = some (some (.builtin "property.__get__")))
    (kp0_2t : PySem.W.takesIn K (.ref kp0_2) = some true)
    (kp0_2r : PySem.W.recIn K kp0_2 "property" = some (.ref kg0_2 :: kg0_2rs))
    (kg0_2l : K.lookup kg0_2 = some ⟨kg0_2oc, kg0_2od, .func (PySem.W.fnOf "undone" "History.undone" (defArgs sHUnd) (defBody sHUnd) (defScope sHUnd) .none kg0_2kV kg0_2dc kg0_2pm kg0_2an kg0_2cd kg0_2ct), kg0_2sl⟩)
    (kg0_2c : PySem.W.codeIn K kg0_2cd "History.undone" = true)
    (kg0_2k : PySem.W.keepIn K (.ref kg0_2) = true)
    (kc1 : PySem.W.nsIn K mainGlobals "Unlike" = some (some (.ref kk1)))
    (kpg1 : PySem.W.plainGet K kk1 Str.empty = true)
    (khd1 : PySem.W.hasDictIn K kk1 = true)
    (kpo1 : PySem.W.plainOver K kk1 = true)
    (ksa1 : PySem.W.findIn K (.ref kk1) "__setattr__" = some (some (.builtin "object.__setattr__")))
    (kmk1 : PySem.W.makesIn K kk1 = true)
    (kkc1 : PySem.W.keepIn K (.ref kk1) = true)
    (kn1_0 : PySem.W.findIn K (.ref kk1) "names" = some none)
    (km1_0a : PySem.W.findIn K (.ref kk1) "__init__" = some (some (.ref km1_0)))
    (km1_0i : PySem.W.isFn K (.ref km1_0) = true)
    (km1_0l : K.lookup km1_0 = some ⟨km1_0oc, km1_0od, .func (PySem.W.fnOf "__init__" "Unlike.__init__" (defArgs sUni) (defBody sUni) (defScope sUni) .none km1_0kV km1_0dc km1_0pm km1_0an km1_0cd km1_0ct), km1_0sl⟩)
    (km1_0c : PySem.W.codeIn K km1_0cd "Unlike.__init__" = true)
    (km1_0k : PySem.W.keepIn K (.ref km1_0) = true)
    (cg0 : PySem.W.nsIn K mainGlobals "UnknownStep" = some (some (.ref e0)))
    (cg1 : PySem.W.nsIn K mainGlobals "NothingToUndo" = some (some (.ref e1)))
    (cg2 : PySem.W.nsIn K mainGlobals "NothingToRedo" = some (some (.ref e2)))
    (cg3 : PySem.W.nsIn K mainGlobals "UnknownName" = some (some (.ref e3)))
    (cg4 : PySem.W.nsIn K mainGlobals "RepeatedName" = some (some (.ref e4)))
    (cg5 : PySem.W.nsIn K mainGlobals "UnknownValue" = some (some (.ref e5)))
    (cg6 : PySem.W.nsIn K mainGlobals "RepeatedValue" = some (some (.ref e6)))
    (cg7 : PySem.W.nsIn K mainGlobals "UnknownKey" = some (some (.ref e7)))
    (cg8 : PySem.W.nsIn K mainGlobals "RepeatedKey" = some (some (.ref e8)))
    (cg9 : PySem.W.nsIn K mainGlobals "EmptyRule" = some (some (.ref e9)))
    (cg10 : PySem.W.nsIn K mainGlobals "BadRow" = some (some (.ref e10)))
    (cg11 : PySem.W.nsIn K mainGlobals "BadBounds" = some (some (.ref e11)))
    (cg12 : PySem.W.nsIn K mainGlobals "BadNumber" = some (some (.ref e12)))
    (cg13 : PySem.W.nsIn K mainGlobals "BadStep" = some (some (.ref e13)))
    (cg14 : PySem.W.nsIn K mainGlobals "NoMark" = some (some (.ref e14)))
    (cg15 : PySem.W.nsIn K mainGlobals "NotStruck" = some (some (.ref e15)))
    (cg16 : PySem.W.nsIn K mainGlobals "BadOrder" = some (some (.ref e16)))
    (cg17 : PySem.W.nsIn K mainGlobals "NotBare" = some (some (.ref e17)))
    (cg18 : PySem.W.nsIn K mainGlobals "NoClash" = some (some (.ref e18)))
    (cg19 : PySem.W.nsIn K mainGlobals "HoldsAnswer" = some (some (.ref e19)))
    (cg20 : PySem.W.nsIn K mainGlobals "BadLine" = some (some (.ref e20)))
    (cg21 : PySem.W.nsIn K mainGlobals "UnknownLine" = some (some (.ref e21)))
    (cg22 : PySem.W.nsIn K mainGlobals "BadText" = some (some (.ref e22)))
    (cg23 : PySem.W.nsIn K mainGlobals "BadDeed" = some (some (.ref e23)))
    (cg24 : PySem.W.nsIn K mainGlobals "DeskError" = some (some (.ref e24)))
    (oe0 : PySem.W.excIn K e1 [.type "ValueError", .type "Exception", .type "BaseException", .type "object"] "ValueError.__new__" = true)
    (ok0 : PySem.W.keepIn K (.ref e1) = true)
    (ob0 : PySem.W.subIn K (.ref e1) (.type "BaseException") = some true)
    (ot0 : PySem.W.typeIn K (.ref e1) = some (.type "type"))
    (oe1 : PySem.W.excIn K e2 [.type "ValueError", .type "Exception", .type "BaseException", .type "object"] "ValueError.__new__" = true)
    (ok1 : PySem.W.keepIn K (.ref e2) = true)
    (ob1 : PySem.W.subIn K (.ref e2) (.type "BaseException") = some true)
    (ot1 : PySem.W.typeIn K (.ref e2) = some (.type "type"))
    (x0 : K.lookup e0 = some (excClassObj nm0 q0 e0 N0 bs0 [.ref e24, .type "ValueError", .type "Exception", .type "BaseException", .type "object"] true sn0 sub0 ab0 col0 dd0 m00 m10 m20 m30 m50 "ValueError.__new__"))
    (xsa0 : PySem.W.findIn K (.ref e0) "__setattr__" = some (some (.builtin "object.__setattr__")))
    (xga0 : PySem.W.findIn K (.ref e0) "__getattribute__" = some (some (.builtin "BaseException.__getattribute__")))
    (xgg0 : PySem.W.findIn K (.ref e0) "__getattr__" = some none)
    (xf0_0 : PySem.W.findIn K (.ref e0) "number" = some none)
    (xin0 : PySem.W.findIn K (.ref e0) "__init__" = some (some (.ref i0)))
    (xti0 : PySem.W.typeIn K (.ref i0) = some (.type "function"))
    (xli0 : K.lookup i0 = some ⟨ioc0, iod0, .func (PySem.W.fnOf "__init__" "UnknownStep.__init__" (defArgs sUst) (defBody sUst) (defScope sUst) .none ikV0 idc0 ipm0 ian0 icd0 ict0), isl0⟩)
    (xci0 : PySem.W.codeIn K icd0 "UnknownStep.__init__" = true)
    (xki0 : PySem.W.keepIn K (.ref i0) = true)
    (xkc0 : PySem.W.keepIn K (.ref e0) = true)
    (xec0 : PySem.W.subIn K (.ref e0) (.type "BaseException") = some true)
    (xtc0 : PySem.W.typeIn K (.ref e0) = some (.type "type"))
    (xhc0 : PySem.W.hasDictIn K e0 = true)
    (xsc0 : PySem.W.subIn K (.ref e0) (.ref e0) = some true)
    (xha0 : PySem.W.findIn K (.ref e0) "__class__" = some (some (.builtin "object.__class__")))
    (xhn0 : PySem.W.specialIn K (.builtin "object.__class__") "__get__" = some (some (.builtin "getset_descriptor.__get__")))
    (xht0 : PySem.W.takesIn K (.builtin "object.__class__") = some true)
    (xhm0 : PySem.W.mroIn K e0 (.type "object") = some true)
    (ria0 : PySem.W.findIn K (.ref kk1) "__class__" = some (some (.builtin "object.__class__")))
    (rin0 : PySem.W.specialIn K (.builtin "object.__class__") "__get__" = some (some (.builtin "getset_descriptor.__get__")))
    (rit0 : PySem.W.takesIn K (.builtin "object.__class__") = some true)
    (rim0 : PySem.W.mroIn K kk1 (.type "object") = some true)
    (rio0 : PySem.W.kitOne K (.ref kk1) (.ref kk1) = some true)
    (rii0 : PySem.W.kitOne K (.type "int") (.ref kk1) = some false)
    (ris0 : PySem.W.kitOne K (.type "str") (.ref kk1) = some false)
    (rwg0 : PySem.W.findIn K (.ref e1) "__getattribute__" = some (some (.builtin "BaseException.__getattribute__")))
    (rwk0 : PySem.W.findIn K (.ref e1) "__getattr__" = some none)
    (rws0 : PySem.W.subIn K (.ref e1) (.type "BaseException") = some true)
    (rwd0 : PySem.W.hasDictIn K e1 = true)
    (rwa0 : PySem.W.findIn K (.ref e1) "__class__" = some (some (.builtin "object.__class__")))
    (rwn0 : PySem.W.specialIn K (.builtin "object.__class__") "__get__" = some (some (.builtin "getset_descriptor.__get__")))
    (rwt0 : PySem.W.takesIn K (.builtin "object.__class__") = some true)
    (rwm0 : PySem.W.mroIn K e1 (.type "object") = some true)
    (rwy0 : PySem.W.typeIn K (.ref e1) = some (.type "type"))
    (rwc0 : PySem.W.subIn K (.ref e1) (.ref e1) = some true)
    (rwb0 : PySem.W.kitOne K (.ref e1) (.ref e24) = some true)
    (rwv0 : PySem.W.kitOne K (.ref e1) (.type "ValueError") = some true)
    (rwg1 : PySem.W.findIn K (.ref e2) "__getattribute__" = some (some (.builtin "BaseException.__getattribute__")))
    (rwk1 : PySem.W.findIn K (.ref e2) "__getattr__" = some none)
    (rws1 : PySem.W.subIn K (.ref e2) (.type "BaseException") = some true)
    (rwd1 : PySem.W.hasDictIn K e2 = true)
    (rwa1 : PySem.W.findIn K (.ref e2) "__class__" = some (some (.builtin "object.__class__")))
    (rwn1 : PySem.W.specialIn K (.builtin "object.__class__") "__get__" = some (some (.builtin "getset_descriptor.__get__")))
    (rwt1 : PySem.W.takesIn K (.builtin "object.__class__") = some true)
    (rwm1 : PySem.W.mroIn K e2 (.type "object") = some true)
    (rwy1 : PySem.W.typeIn K (.ref e2) = some (.type "type"))
    (rwc1 : PySem.W.subIn K (.ref e2) (.ref e2) = some true)
    (rwb1 : PySem.W.kitOne K (.ref e2) (.ref e24) = some true)
    (rwv1 : PySem.W.kitOne K (.ref e2) (.type "ValueError") = some true)
    (rwg2 : PySem.W.findIn K (.ref e0) "__getattribute__" = some (some (.builtin "BaseException.__getattribute__")))
    (rwk2 : PySem.W.findIn K (.ref e0) "__getattr__" = some none)
    (rws2 : PySem.W.subIn K (.ref e0) (.type "BaseException") = some true)
    (rwd2 : PySem.W.hasDictIn K e0 = true)
    (rwa2 : PySem.W.findIn K (.ref e0) "__class__" = some (some (.builtin "object.__class__")))
    (rwn2 : PySem.W.specialIn K (.builtin "object.__class__") "__get__" = some (some (.builtin "getset_descriptor.__get__")))
    (rwt2 : PySem.W.takesIn K (.builtin "object.__class__") = some true)
    (rwm2 : PySem.W.mroIn K e0 (.type "object") = some true)
    (rwy2 : PySem.W.typeIn K (.ref e0) = some (.type "type"))
    (rwc2 : PySem.W.subIn K (.ref e0) (.ref e0) = some true)
    (rwb2 : PySem.W.kitOne K (.ref e0) (.ref e24) = some true)
    (rwv2 : PySem.W.kitOne K (.ref e0) (.type "ValueError") = some true)
    (rn0 : PySem.W.kitAny K (.ref e1) [.ref e3, .ref e4, .ref e5, .ref e6, .ref e7, .ref e8, .ref e9] = some false)
    (rn1 : PySem.W.kitAny K (.ref e1) [.ref e10, .ref e11, .ref e12, .ref e13, .ref e14, .ref e15, .ref e16, .ref e17, .ref e18] = some false)
    (rn2 : PySem.W.kitAny K (.ref e1) [.ref e19, .ref e20, .ref e21, .ref e22, .ref e2, .ref e0, .ref e23] = some false)
    (rn3 : PySem.W.kitAny K (.ref e2) [.ref e3, .ref e4, .ref e5, .ref e6, .ref e7, .ref e8, .ref e9] = some false)
    (rn4 : PySem.W.kitAny K (.ref e2) [.ref e10, .ref e11, .ref e12, .ref e13, .ref e14, .ref e15, .ref e16, .ref e17, .ref e18] = some false)
    (rn5 : PySem.W.kitAny K (.ref e2) [.ref e19, .ref e20, .ref e21, .ref e22, .ref e1, .ref e0, .ref e23] = some false)
    (rn6 : PySem.W.kitAny K (.ref e0) [.ref e3, .ref e4, .ref e5, .ref e6, .ref e7, .ref e8, .ref e9] = some false)
    (rn7 : PySem.W.kitAny K (.ref e0) [.ref e10, .ref e11, .ref e12, .ref e13, .ref e14, .ref e15, .ref e16, .ref e17, .ref e18] = some false)
    (rn8 : PySem.W.kitAny K (.ref e0) [.ref e19, .ref e20, .ref e21, .ref e22, .ref e1, .ref e2, .ref e23] = some false)
    (z1 : PySem.W.nsIn K mainGlobals "sorted" = some none) (z2 : PySem.W.nsIn K mainGlobals "set" = some none) (z3 : PySem.W.nsIn K mainGlobals "len" = some none) (z4 : PySem.W.nsIn K mainGlobals "isinstance" = some none) (z5 : PySem.W.nsIn K mainGlobals "int" = some none) (z6 : PySem.W.nsIn K mainGlobals "bool" = some none) (z7 : PySem.W.nsIn K mainGlobals "list" = some none) (z8 : PySem.W.nsIn K mainGlobals "all" = some none) (z9 : PySem.W.nsIn K mainGlobals "range" = some none) (z10 : PySem.W.nsIn K mainGlobals "dict" = some none) (z11 : PySem.W.nsIn K mainGlobals "ValueError" = some none) (z12 : PySem.W.nsIn K mainGlobals "str" = some none) (z13 : PySem.W.nsIn K mainGlobals "tuple" = some none) (z14 : PySem.W.nsIn K mainGlobals "min" = some none) :
    ∃ fd : FuncData, (∀ (s : Shared) (v : Value), BindsTo s fd ⟨[v], []⟩ [("_law_script", v)]) ∧ ∀ base : Heap, K.In base → base.Ns mainGlobals mg → FnOk l.prog w K mg base CX0 7 fa fd ["_law_script"] (spLaw K) := by
  have e := hfa.symm.trans (PySem.W.mg_of X G a15)
  cases e
  have B : Bt mg := ⟨PySem.W.mg_none_of X G z1, PySem.W.mg_none_of X G z2, PySem.W.mg_none_of X G z3, PySem.W.mg_none_of X G z4, PySem.W.mg_none_of X G z5, PySem.W.mg_none_of X G z6, PySem.W.mg_none_of X G z7, PySem.W.mg_none_of X G z8, PySem.W.mg_none_of X G z9, PySem.W.mg_none_of X G z10⟩
  have F1 := fun_mk (st := sIsInt) l1 c1 k1
  have b1 := F1.binds (ps := ["_law_actual"]) fun _ _ _ _ _ _ us hl => match us, hl with | [_], _ => rfl
  have F2 := fun_mk (st := sStream) l2 c2 k2
  have b2 := F2.binds (ps := ["_law_script", "_law_k"]) fun _ _ _ _ _ _ us hl => match us, hl with | [_, _], _ => rfl
  have F3 := fun_mk (st := sDraw) l3 c3 k3
  have b3 := F3.binds (ps := ["_law_stream_here", "_law_size"]) fun _ _ _ _ _ _ us hl => match us, hl with | [_, _], _ => rfl
  have F4 := fun_mk (st := sChk) l4 c4 k4
  have b4 := F4.binds (ps := ["names"]) fun _ _ _ _ _ _ us hl => match us, hl with | [_], _ => rfl
  have F5 := fun_mk (st := sSta) l5 c5 k5
  have b5 := F5.binds (ps := ["_law_stream_here"]) fun _ _ _ _ _ _ us hl => match us, hl with | [_], _ => rfl
  have F6 := fun_mk (st := sSam) l6 c6 k6
  have b6 := F6.binds (ps := ["_law_actual", "_law_due"]) fun _ _ _ _ _ _ us hl => match us, hl with | [_, _], _ => rfl
  have F7 := fun_mk (st := sLoo) l7 c7 k7
  have b7 := F7.binds (ps := ["_law_history", "_law_before", "_law_after"]) fun _ _ _ _ _ _ us hl => match us, hl with | [_, _, _], _ => rfl
  have F8 := fun_mk (st := sUdo) l8 c8 k8
  have b8 := F8.binds (ps := ["_law_history", "_law_before", "_law_after"]) fun _ _ _ _ _ _ us hl => match us, hl with | [_, _, _], _ => rfl
  have F9 := fun_mk (st := sRdo) l9 c9 k9
  have b9 := F9.binds (ps := ["_law_history", "_law_before", "_law_after"]) fun _ _ _ _ _ _ us hl => match us, hl with | [_, _, _], _ => rfl
  have F10 := fun_mk (st := sBak) l10 c10 k10
  have b10 := F10.binds (ps := ["_law_history", "_law_before", "_law_after", "_law_target"]) fun _ _ _ _ _ _ us hl => match us, hl with | [_, _, _, _], _ => rfl
  have F11 := fun_mk (st := sPus) l11 c11 k11
  have b11 := F11.binds (ps := ["_law_history", "_law_before", "_law_after", "_law_pushed"]) fun _ _ _ _ _ _ us hl => match us, hl with | [_, _, _, _], _ => rfl
  have F12 := fun_mk (st := sDee) l12 c12 k12
  have b12 := F12.binds (ps := ["_law_history", "_law_before", "_law_after", "_law_stream_here"]) fun _ _ _ _ _ _ us hl => match us, hl with | [_, _, _, _], _ => rfl
  have F13 := fun_mk (st := sDow) l13 c13 k13
  have b13 := F13.binds (ps := ["_law_history", "_law_before", "_law_after"]) fun _ _ _ _ _ _ us hl => match us, hl with | [_, _, _], _ => rfl
  have F14 := fun_mk (st := sLon) l14 c14 k14
  have b14 := F14.binds (ps := []) fun _ _ _ _ _ _ us hl => match us, hl with | [], _ => rfl
  have F15 := fun_mk (st := sLaw) l15 c15 k15
  have T0 : Kls K mg "History" kk0 ["_past", "_present", "_future"] := ⟨⟨kpg0, khd0, kpo0, ksa0⟩, PySem.W.mg_of X G kc0, fun f hf => by
      simp only [List.mem_cons, List.not_mem_nil, or_false] at hf
      rcases hf with rfl | rfl | rfl
      · exact kn0_0
      · exact kn0_1
      · exact kn0_2⟩
  have Fkm0_0 := fun_mk (st := sHIni) km0_0l km0_0c km0_0k
  have bkm0_0 := Fkm0_0.binds (ps := ["self", "start"]) fun _ _ _ _ _ _ us hl => match us, hl with | [_, _], _ => rfl
  have Fkm0_1 := fun_mk (st := sHPus) km0_1l km0_1c km0_1k
  have bkm0_1 := Fkm0_1.binds (ps := ["self", "state"]) fun _ _ _ _ _ _ us hl => match us, hl with | [_, _], _ => rfl
  have Fkm0_2 := fun_mk (st := sHUdo) km0_2l km0_2c km0_2k
  have bkm0_2 := Fkm0_2.binds (ps := ["self"]) fun _ _ _ _ _ _ us hl => match us, hl with | [_], _ => rfl
  have Fkm0_3 := fun_mk (st := sHRdo) km0_3l km0_3c km0_3k
  have bkm0_3 := Fkm0_3.binds (ps := ["self"]) fun _ _ _ _ _ _ us hl => match us, hl with | [_], _ => rfl
  have Fkm0_4 := fun_mk (st := sHBak) km0_4l km0_4c km0_4k
  have bkm0_4 := Fkm0_4.binds (ps := ["self", "steps"]) fun _ _ _ _ _ _ us hl => match us, hl with | [_, _], _ => rfl
  have Fkg0_0 := fun_mk (st := sHSta) kg0_0l kg0_0c kg0_0k
  have bkg0_0 := Fkg0_0.binds (ps := ["self"]) fun _ _ _ _ _ _ us hl => match us, hl with | [_], _ => rfl
  have Fkg0_1 := fun_mk (st := sHSte) kg0_1l kg0_1c kg0_1k
  have bkg0_1 := Fkg0_1.binds (ps := ["self"]) fun _ _ _ _ _ _ us hl => match us, hl with | [_], _ => rfl
  have Fkg0_2 := fun_mk (st := sHUnd) kg0_2l kg0_2c kg0_2k
  have bkg0_2 := Fkg0_2.binds (ps := ["self"]) fun _ _ _ _ _ _ us hl => match us, hl with | [_], _ => rfl
  have T1 : Kls K mg "Unlike" kk1 ["names"] := ⟨⟨kpg1, khd1, kpo1, ksa1⟩, PySem.W.mg_of X G kc1, fun f hf => by
      simp only [List.mem_cons, List.not_mem_nil, or_false] at hf
      rcases hf with rfl
      · exact kn1_0⟩
  have Fkm1_0 := fun_mk (st := sUni) km1_0l km1_0c km1_0k
  have bkm1_0 := Fkm1_0.binds (ps := ["self", "names"]) fun _ _ _ _ _ _ us hl => match us, hl with | [_, _], _ => rfl
  have O0 : Own0 K mg "NothingToUndo" e1 := ⟨PySem.W.mg_of X G cg1, oe0, ok0, ob0, ot0⟩
  have O1 : Own0 K mg "NothingToRedo" e2 := ⟨PySem.W.mg_of X G cg2, oe1, ok1, ob1, ot1⟩
  have U0 : Own K mg "UnknownStep" e0 i0 ["number"] := { gC := PySem.W.mg_of X G cg0, oex := ⟨⟨nm0, q0, N0, bs0, _, sn0, sub0, ab0, col0, dd0, m00, m10, m20, m30, m50, x0, rfl⟩, xsa0, xec0, xtc0, xkc0⟩, xf := ⟨xga0, xgg0, xec0, xhc0⟩, iC := xin0, tI := xti0, ex := ⟨xga0, xgg0, xec0, xhc0, xha0, xhn0, xht0, xhm0⟩, te := PySem.W.exm_ref xec0 xhc0 xtc0 xsc0, no := (fun f hf => (List.mem_singleton.mp hf) ▸ xf0_0) }
  have I0 := fun_mk (st := sUst) xli0 xci0 xki0
  have ib0 := I0.binds (ps := ["self", "number"]) fun _ _ _ _ _ _ us hl => match us, hl with | [_, _], _ => rfl
  have S0 : IsiC K kk1 := ⟨kkc1, ria0, rin0, rit0, rim0, rio0, rii0, ris0⟩
  have W0 : OwnX K mg e1 e24 := ⟨⟨rwg0, rwk0, rws0, rwd0, rwa0, rwn0, rwt0, rwm0⟩, PySem.W.exm_ref rws0 rwd0 rwy0 rwc0, PySem.W.mg_of X G cg24, rwb0, rwv0, PySem.W.mg_none_of X G z11⟩
  have W1 : OwnX K mg e2 e24 := ⟨⟨rwg1, rwk1, rws1, rwd1, rwa1, rwn1, rwt1, rwm1⟩, PySem.W.exm_ref rws1 rwd1 rwy1 rwc1, PySem.W.mg_of X G cg24, rwb1, rwv1, PySem.W.mg_none_of X G z11⟩
  have W2 : OwnX K mg e0 e24 := ⟨⟨rwg2, rwk2, rws2, rwd2, rwa2, rwn2, rwt2, rwm2⟩, PySem.W.exm_ref rws2 rwd2 rwy2 rwc2, PySem.W.mg_of X G cg24, rwb2, rwv2, PySem.W.mg_none_of X G z11⟩
  have nt0 : ∀ (i : Nat) (x : Str), os1[i]? = some x → mg x = some (.ref (([e3, e4, e5, e6, e7, e8, e9] : List Addr).getD i 0)) := by
    intro i x hx
    match i, hx with
    | 0, hx => obtain rfl := Option.some.inj hx; exact PySem.W.mg_of X G cg3
    | 1, hx => obtain rfl := Option.some.inj hx; exact PySem.W.mg_of X G cg4
    | 2, hx => obtain rfl := Option.some.inj hx; exact PySem.W.mg_of X G cg5
    | 3, hx => obtain rfl := Option.some.inj hx; exact PySem.W.mg_of X G cg6
    | 4, hx => obtain rfl := Option.some.inj hx; exact PySem.W.mg_of X G cg7
    | 5, hx => obtain rfl := Option.some.inj hx; exact PySem.W.mg_of X G cg8
    | 6, hx => obtain rfl := Option.some.inj hx; exact PySem.W.mg_of X G cg9
    | k + 7, hx => exact absurd (show none = some x from hx) (by simp)
  have N0 : Not7 os1 K mg e1 [e3, e4, e5, e6, e7, e8, e9] := ⟨⟨_, _, _, _, _, _, _, rfl⟩, nt0, rn0⟩
  have nt1 : ∀ (i : Nat) (x : Str), os2[i]? = some x → mg x = some (.ref (([e10, e11, e12, e13, e14, e15, e16, e17, e18] : List Addr).getD i 0)) := by
    intro i x hx
    match i, hx with
    | 0, hx => obtain rfl := Option.some.inj hx; exact PySem.W.mg_of X G cg10
    | 1, hx => obtain rfl := Option.some.inj hx; exact PySem.W.mg_of X G cg11
    | 2, hx => obtain rfl := Option.some.inj hx; exact PySem.W.mg_of X G cg12
    | 3, hx => obtain rfl := Option.some.inj hx; exact PySem.W.mg_of X G cg13
    | 4, hx => obtain rfl := Option.some.inj hx; exact PySem.W.mg_of X G cg14
    | 5, hx => obtain rfl := Option.some.inj hx; exact PySem.W.mg_of X G cg15
    | 6, hx => obtain rfl := Option.some.inj hx; exact PySem.W.mg_of X G cg16
    | 7, hx => obtain rfl := Option.some.inj hx; exact PySem.W.mg_of X G cg17
    | 8, hx => obtain rfl := Option.some.inj hx; exact PySem.W.mg_of X G cg18
    | k + 9, hx => exact absurd (show none = some x from hx) (by simp)
  have N1 : Not9 os2 K mg e1 [e10, e11, e12, e13, e14, e15, e16, e17, e18] := ⟨⟨_, _, _, _, _, _, _, _, _, rfl⟩, nt1, rn1⟩
  have nt2 : ∀ (i : Nat) (x : Str), osU[i]? = some x → mg x = some (.ref (([e19, e20, e21, e22, e2, e0, e23] : List Addr).getD i 0)) := by
    intro i x hx
    match i, hx with
    | 0, hx => obtain rfl := Option.some.inj hx; exact PySem.W.mg_of X G cg19
    | 1, hx => obtain rfl := Option.some.inj hx; exact PySem.W.mg_of X G cg20
    | 2, hx => obtain rfl := Option.some.inj hx; exact PySem.W.mg_of X G cg21
    | 3, hx => obtain rfl := Option.some.inj hx; exact PySem.W.mg_of X G cg22
    | 4, hx => obtain rfl := Option.some.inj hx; exact PySem.W.mg_of X G cg2
    | 5, hx => obtain rfl := Option.some.inj hx; exact PySem.W.mg_of X G cg0
    | 6, hx => obtain rfl := Option.some.inj hx; exact PySem.W.mg_of X G cg23
    | k + 7, hx => exact absurd (show none = some x from hx) (by simp)
  have N2 : Not7 osU K mg e1 [e19, e20, e21, e22, e2, e0, e23] := ⟨⟨_, _, _, _, _, _, _, rfl⟩, nt2, rn2⟩
  have nt3 : ∀ (i : Nat) (x : Str), os1[i]? = some x → mg x = some (.ref (([e3, e4, e5, e6, e7, e8, e9] : List Addr).getD i 0)) := by
    intro i x hx
    match i, hx with
    | 0, hx => obtain rfl := Option.some.inj hx; exact PySem.W.mg_of X G cg3
    | 1, hx => obtain rfl := Option.some.inj hx; exact PySem.W.mg_of X G cg4
    | 2, hx => obtain rfl := Option.some.inj hx; exact PySem.W.mg_of X G cg5
    | 3, hx => obtain rfl := Option.some.inj hx; exact PySem.W.mg_of X G cg6
    | 4, hx => obtain rfl := Option.some.inj hx; exact PySem.W.mg_of X G cg7
    | 5, hx => obtain rfl := Option.some.inj hx; exact PySem.W.mg_of X G cg8
    | 6, hx => obtain rfl := Option.some.inj hx; exact PySem.W.mg_of X G cg9
    | k + 7, hx => exact absurd (show none = some x from hx) (by simp)
  have N3 : Not7 os1 K mg e2 [e3, e4, e5, e6, e7, e8, e9] := ⟨⟨_, _, _, _, _, _, _, rfl⟩, nt3, rn3⟩
  have nt4 : ∀ (i : Nat) (x : Str), os2[i]? = some x → mg x = some (.ref (([e10, e11, e12, e13, e14, e15, e16, e17, e18] : List Addr).getD i 0)) := by
    intro i x hx
    match i, hx with
    | 0, hx => obtain rfl := Option.some.inj hx; exact PySem.W.mg_of X G cg10
    | 1, hx => obtain rfl := Option.some.inj hx; exact PySem.W.mg_of X G cg11
    | 2, hx => obtain rfl := Option.some.inj hx; exact PySem.W.mg_of X G cg12
    | 3, hx => obtain rfl := Option.some.inj hx; exact PySem.W.mg_of X G cg13
    | 4, hx => obtain rfl := Option.some.inj hx; exact PySem.W.mg_of X G cg14
    | 5, hx => obtain rfl := Option.some.inj hx; exact PySem.W.mg_of X G cg15
    | 6, hx => obtain rfl := Option.some.inj hx; exact PySem.W.mg_of X G cg16
    | 7, hx => obtain rfl := Option.some.inj hx; exact PySem.W.mg_of X G cg17
    | 8, hx => obtain rfl := Option.some.inj hx; exact PySem.W.mg_of X G cg18
    | k + 9, hx => exact absurd (show none = some x from hx) (by simp)
  have N4 : Not9 os2 K mg e2 [e10, e11, e12, e13, e14, e15, e16, e17, e18] := ⟨⟨_, _, _, _, _, _, _, _, _, rfl⟩, nt4, rn4⟩
  have nt5 : ∀ (i : Nat) (x : Str), osR[i]? = some x → mg x = some (.ref (([e19, e20, e21, e22, e1, e0, e23] : List Addr).getD i 0)) := by
    intro i x hx
    match i, hx with
    | 0, hx => obtain rfl := Option.some.inj hx; exact PySem.W.mg_of X G cg19
    | 1, hx => obtain rfl := Option.some.inj hx; exact PySem.W.mg_of X G cg20
    | 2, hx => obtain rfl := Option.some.inj hx; exact PySem.W.mg_of X G cg21
    | 3, hx => obtain rfl := Option.some.inj hx; exact PySem.W.mg_of X G cg22
    | 4, hx => obtain rfl := Option.some.inj hx; exact PySem.W.mg_of X G cg1
    | 5, hx => obtain rfl := Option.some.inj hx; exact PySem.W.mg_of X G cg0
    | 6, hx => obtain rfl := Option.some.inj hx; exact PySem.W.mg_of X G cg23
    | k + 7, hx => exact absurd (show none = some x from hx) (by simp)
  have N5 : Not7 osR K mg e2 [e19, e20, e21, e22, e1, e0, e23] := ⟨⟨_, _, _, _, _, _, _, rfl⟩, nt5, rn5⟩
  have nt6 : ∀ (i : Nat) (x : Str), os1[i]? = some x → mg x = some (.ref (([e3, e4, e5, e6, e7, e8, e9] : List Addr).getD i 0)) := by
    intro i x hx
    match i, hx with
    | 0, hx => obtain rfl := Option.some.inj hx; exact PySem.W.mg_of X G cg3
    | 1, hx => obtain rfl := Option.some.inj hx; exact PySem.W.mg_of X G cg4
    | 2, hx => obtain rfl := Option.some.inj hx; exact PySem.W.mg_of X G cg5
    | 3, hx => obtain rfl := Option.some.inj hx; exact PySem.W.mg_of X G cg6
    | 4, hx => obtain rfl := Option.some.inj hx; exact PySem.W.mg_of X G cg7
    | 5, hx => obtain rfl := Option.some.inj hx; exact PySem.W.mg_of X G cg8
    | 6, hx => obtain rfl := Option.some.inj hx; exact PySem.W.mg_of X G cg9
    | k + 7, hx => exact absurd (show none = some x from hx) (by simp)
  have N6 : Not7 os1 K mg e0 [e3, e4, e5, e6, e7, e8, e9] := ⟨⟨_, _, _, _, _, _, _, rfl⟩, nt6, rn6⟩
  have nt7 : ∀ (i : Nat) (x : Str), os2[i]? = some x → mg x = some (.ref (([e10, e11, e12, e13, e14, e15, e16, e17, e18] : List Addr).getD i 0)) := by
    intro i x hx
    match i, hx with
    | 0, hx => obtain rfl := Option.some.inj hx; exact PySem.W.mg_of X G cg10
    | 1, hx => obtain rfl := Option.some.inj hx; exact PySem.W.mg_of X G cg11
    | 2, hx => obtain rfl := Option.some.inj hx; exact PySem.W.mg_of X G cg12
    | 3, hx => obtain rfl := Option.some.inj hx; exact PySem.W.mg_of X G cg13
    | 4, hx => obtain rfl := Option.some.inj hx; exact PySem.W.mg_of X G cg14
    | 5, hx => obtain rfl := Option.some.inj hx; exact PySem.W.mg_of X G cg15
    | 6, hx => obtain rfl := Option.some.inj hx; exact PySem.W.mg_of X G cg16
    | 7, hx => obtain rfl := Option.some.inj hx; exact PySem.W.mg_of X G cg17
    | 8, hx => obtain rfl := Option.some.inj hx; exact PySem.W.mg_of X G cg18
    | k + 9, hx => exact absurd (show none = some x from hx) (by simp)
  have N7 : Not9 os2 K mg e0 [e10, e11, e12, e13, e14, e15, e16, e17, e18] := ⟨⟨_, _, _, _, _, _, _, _, _, rfl⟩, nt7, rn7⟩
  have nt8 : ∀ (i : Nat) (x : Str), osB[i]? = some x → mg x = some (.ref (([e19, e20, e21, e22, e1, e2, e23] : List Addr).getD i 0)) := by
    intro i x hx
    match i, hx with
    | 0, hx => obtain rfl := Option.some.inj hx; exact PySem.W.mg_of X G cg19
    | 1, hx => obtain rfl := Option.some.inj hx; exact PySem.W.mg_of X G cg20
    | 2, hx => obtain rfl := Option.some.inj hx; exact PySem.W.mg_of X G cg21
    | 3, hx => obtain rfl := Option.some.inj hx; exact PySem.W.mg_of X G cg22
    | 4, hx => obtain rfl := Option.some.inj hx; exact PySem.W.mg_of X G cg1
    | 5, hx => obtain rfl := Option.some.inj hx; exact PySem.W.mg_of X G cg2
    | 6, hx => obtain rfl := Option.some.inj hx; exact PySem.W.mg_of X G cg23
    | k + 7, hx => exact absurd (show none = some x from hx) (by simp)
  have N8 : Not7 osB K mg e0 [e19, e20, e21, e22, e1, e2, e23] := ⟨⟨_, _, _, _, _, _, _, rfl⟩, nt8, rn8⟩
  refine ⟨PySem.W.fnOf "law" "law" (defArgs sLaw) (defBody sLaw) (defScope sLaw) .none kV15 dc15 pm15 an15 cd15 ct15, fun s v => .of_eq rfl, fun base _ _ => ?_⟩
  have Cii : Call l.prog w K mg base 1 "_law_is_integer" f1 _ ["_law_actual"] spIsInt := ⟨ok_isInt F1 B, PySem.W.mg_of X G a1, k1, b1⟩
  have Cst : Call l.prog w K mg base 1 "_law_stream" f2 _ ["_law_script", "_law_k"] (spStream K) := ⟨ok_stream F2 B, PySem.W.mg_of X G a2, k2, b2⟩
  have D : Call l.prog w K mg base 1 "_law_next" f3 _ ["_law_stream_here", "_law_size"] spDraw := ⟨ok_draw F3 B, PySem.W.mg_of X G a3, k3, b3⟩
  have Cch : Call l.prog w K mg base 1 "checked_names" f4 _ ["names"] spChk := ⟨ok_Chk F4 B (PySem.W.mg_none_of X G z13), PySem.W.mg_of X G a4, k4, b4⟩
  have MU : CallN l.prog w K mg base 2 kk1 km1_0 _ ["self", "names"] (spUni kk1) := ⟨ok_Uni Fkm1_0 T1 Cch, ⟨kmk1, km1_0a, km1_0i, kkc1⟩, bkm1_0⟩
  have CSt : Call l.prog w K mg base 4 "_law_state" f5 _ ["_law_stream_here"] (spSta kk1) := ⟨ok_Sta F5 (PySem.W.mg_none_of X G z12) D T1 MU, PySem.W.mg_of X G a5, k5, b5⟩
  have CSa : Call l.prog w K mg base 3 "_law_same_state" f6 _ ["_law_actual", "_law_due"] (spSam kk1) := ⟨ok_Sam F6 B (PySem.W.mg_none_of X G z12) Cii T1 S0, PySem.W.mg_of X G a6, k6, b6⟩
  have M1 : CallN l.prog w K mg base 1 kk0 km0_0 _ ["self", "start"] (spHIni kk0) := ⟨ok_HIni Fkm0_0 T0, ⟨kmk0, km0_0a, km0_0i, kkc0⟩, bkm0_0⟩
  have Pu : CallM l.prog w K mg base 1 kk0 "push" km0_1 _ ["self", "state"] (spHPus kk0) := ⟨ok_HPus Fkm0_1 T0, ⟨km0_1a, km0_1i, km0_1k⟩, bkm0_1⟩
  have Un : CallM l.prog w K mg base 1 kk0 "undo" km0_2 _ ["self"] (spHUdo kk0) := ⟨ok_HUdo Fkm0_2 T0 B, ⟨km0_2a, km0_2i, km0_2k⟩, bkm0_2⟩
  have UnB : CallMX l.prog w K mg base 1 kk0 "undo" km0_2 _ ["self"] (spHUdoB kk0 e1) := ⟨ok_HUdoB Fkm0_2 T0 B O0, ⟨km0_2a, km0_2i, km0_2k⟩, bkm0_2⟩
  have Re : CallM l.prog w K mg base 1 kk0 "redo" km0_3 _ ["self"] (spHRdo kk0) := ⟨ok_HRdo Fkm0_3 T0 B, ⟨km0_3a, km0_3i, km0_3k⟩, bkm0_3⟩
  have ReB : CallMX l.prog w K mg base 1 kk0 "redo" km0_3 _ ["self"] (spHRdoB kk0 e2) := ⟨ok_HRdoB Fkm0_3 T0 B O1, ⟨km0_3a, km0_3i, km0_3k⟩, bkm0_3⟩
  have G0 : CallP l.prog w K mg base 1 kk0 "state" kp0_0 kg0_0 _ (spGet kk0 fun _ v _ => v) := ⟨ok_HSta Fkg0_0 T0, ⟨kp0_0a, kp0_0g, kp0_0t, ⟨_, kp0_0r⟩⟩, bkg0_0⟩
  have G1 : CallP l.prog w K mg base 1 kk0 "steps" kp0_1 kg0_1 _ (spGet kk0 fun xs _ _ => .int (xs.length : Nat)) := ⟨ok_HSte Fkg0_1 T0 B, ⟨kp0_1a, kp0_1g, kp0_1t, ⟨_, kp0_1r⟩⟩, bkg0_1⟩
  have G2 : CallP l.prog w K mg base 1 kk0 "undone" kp0_2 kg0_2 _ (spGet kk0 fun _ _ ys => .int (ys.length : Nat)) := ⟨ok_HUnd Fkg0_2 T0 B, ⟨kp0_2a, kp0_2g, kp0_2t, ⟨_, kp0_2r⟩⟩, bkg0_2⟩
  have Iu : CallI l.prog w K mg base i0 _ ["self", "number"] (spIni e0 "number") := ⟨ok_Ust I0 U0, ib0⟩
  have Ba : CallM l.prog w K mg base 3 kk0 "back_to" km0_4 _ ["self", "steps"] (spHBak kk0) := ⟨ok_HBak Fkm0_4 T0 B G1 Un no_undo, ⟨km0_4a, km0_4i, km0_4k⟩, bkm0_4⟩
  have CLoo : Call l.prog w K mg base 4 "_law_looks" f7 _ ["_law_history", "_law_before", "_law_after"] (spLooN kk0 kk1) := ⟨FnOk.weak (ok_Loo F7 B Cii CSa T0 G0 G1 G2) loo_op, PySem.W.mg_of X G a7, k7, b7⟩
  have CPus : Call l.prog w K mg base 3 "_law_push" f11 _ ["_law_history", "_law_before", "_law_after", "_law_pushed"] (spPusN kk0 kk1) := ⟨FnOk.weak (ok_Pus F11 T0 Pu no_push) pus_op, PySem.W.mg_of X G a11, k11, b11⟩
  have CUdo : Call l.prog w K mg base 4 "_law_undo" f8 _ ["_law_history", "_law_before", "_law_after"] (spOp kk0 kk1) := ⟨FnOk.weak (CsX.FnOk.or (ok_UdoA F8 B T0 O0 CSa UnB no_undo) (ok_UdoB F8 B T0 O0 W0 N0 N1 N2 UnB no_undo)) udo_op, PySem.W.mg_of X G a8, k8, b8⟩
  have CRdo : Call l.prog w K mg base 4 "_law_redo" f9 _ ["_law_history", "_law_before", "_law_after"] (spOp kk0 kk1) := ⟨FnOk.weak (CsX.FnOk.or (ok_RdoA F9 B T0 O1 CSa ReB no_redo) (ok_RdoB F9 B T0 O1 W1 N3 N4 N5 ReB no_redo)) rdo_op, PySem.W.mg_of X G a9, k9, b9⟩
  have CBak : Call l.prog w K mg base 5 "_law_back" f10 _ ["_law_history", "_law_before", "_law_after", "_law_target"] (spBakN kk0 kk1) := ⟨FnOk.weak (CsX.FnOk.or (ok_BakA F10 B T0 U0 CSa (ok_HBakBN Fkm0_4 T0 B G1 Un U0 Iu) Ba.mt Ba.bd no_back) (ok_BakB F10 B T0 U0 W2 N6 N7 N8 Cii (ok_isIntH F1 B) (ok_HBakBN Fkm0_4 T0 B G1 Un U0 Iu) Ba.mt Ba.bd no_back)) bak_op, PySem.W.mg_of X G a10, k10, b10⟩
  have CDee : Call l.prog w K mg base 6 "_law_deed" f12 _ ["_law_history", "_law_before", "_law_after", "_law_stream_here"] (spDee kk0 kk1) := ⟨ok_Dee F12 B D CSt CUdo CRdo CBak CPus, PySem.W.mg_of X G a12, k12, b12⟩
  have CDow : Call l.prog w K mg base 6 "_law_down_and_up" f13 _ ["_law_history", "_law_before", "_law_after"] (spDow kk0 kk1) := ⟨ok_Dow F13 B CUdo CRdo CBak CPus CLoo, PySem.W.mg_of X G a13, k13, b13⟩
  have CLon : Call l.prog w K mg base 4 "_law_long_holds" f14 _ [] spLon := ⟨ok_Lon F14 B T0 M1 Pu Re Ba G1 G2 no_push no_redo no_back, PySem.W.mg_of X G a14, k14, b14⟩
  exact ok_Law F15 B (PySem.W.mg_none_of X G z14) T0 M1 Cst D CSt CLoo CDee CDow CLon
theorem walk {l : PySem.W.OpenLaw} {q : Program} {loose : List Str} {XP : (Str → Option Value) → Heap → Prop} {YP : World → Heap → Prop} {d : DefRec} {K : Params → PySem.W.Frag} (hn : l.most = some 63) (hdf : d.params.defaults = [])
    (hY : ∀ (w : World) (h : Heap), YP w h → (K w.params).In h)
    (F : ∀ (w : World) (mg : Str → Option Value) (fa : Addr) (h : Heap), (K w.params).In h → h.Ns mainGlobals mg → mg d.name = some (.ref fa) →
      ∃ fd : FuncData, (∀ (s : Shared) (u : Value), BindsTo s fd ⟨[u], []⟩ [("_law_script", u)]) ∧ ∀ base : Heap, (K w.params).In base → base.Ns mainGlobals mg → FnOk l.prog w (K w.params) mg base CX0 7 fa fd ["_law_script"] (spLaw (K w.params))) :
    PySem.W.WalkO q loose XP YP l.row.toRowW d [] (fun f vs => PySem.call f vs) :=
  L2.walk_of (n := 63) (k := 7) (x := "_law_script") (CX := fun _ => CX0) (sp := fun w => spLaw (K w.params)) hn (by decide) hdf ⟨rfl, by decide, by decide⟩ hY F (fun _ _ a ns hl _ hS => ⟨a, ns, rfl, hS, hl, fun _ => rfl⟩) fun _ _ _ _ _ z => z
end K16

set_option Elab.async false
set_option linter.all false
open PySem PySem.W PyProof.Rows
set_option maxRecDepth 100000 in
set_option maxHeartbeats 0 in
theorem PySem.Challenge.cw_curbdesk_k16_history_holds : PySem.Challenge.rw_curbdesk_k16_history.Holds := by
  w_on; o_law; k_head; (case hw => w_witness2)
  k_fill
  refine K16.walk (l := PySem.Challenge.rw_curbdesk_k16_history) rfl rfl (fun w h Y => PySem.W.kIn_of Y) ?F
  case F =>
    intro w mg fa h KX G hmg
    refine' K16.all_mk KX G hmg ?a1 ?l1 ?c1 ?k1 ?a2 ?l2 ?c2 ?k2 ?a3 ?l3 ?c3 ?k3 ?a4 ?l4 ?c4 ?k4 ?a5 ?l5 ?c5 ?k5 ?a6 ?l6 ?c6 ?k6 ?a7 ?l7 ?c7 ?k7 ?a8 ?l8 ?c8 ?k8 ?a9 ?l9 ?c9 ?k9 ?a10 ?l10 ?c10 ?k10 ?a11 ?l11 ?c11 ?k11 ?a12 ?l12 ?c12 ?k12 ?a13 ?l13 ?c13 ?k13 ?a14 ?l14 ?c14 ?k14 ?a15 ?l15 ?c15 ?k15 ?kc0 ?kpg0 ?khd0 ?kpo0 ?ksa0 ?kmk0 ?kkc0 ?kn0_0 ?kn0_1 ?kn0_2 ?km0_0a ?km0_0i ?km0_0l ?km0_0c ?km0_0k ?km0_1a ?km0_1i ?km0_1l ?km0_1c ?km0_1k ?km0_2a ?km0_2i ?km0_2l ?km0_2c ?km0_2k ?km0_3a ?km0_3i ?km0_3l ?km0_3c ?km0_3k ?km0_4a ?km0_4i ?km0_4l ?km0_4c ?km0_4k ?kp0_0a ?kp0_0g ?kp0_0t ?kp0_0r ?kg0_0l ?kg0_0c ?kg0_0k ?kp0_1a ?kp0_1g ?kp0_1t ?kp0_1r ?kg0_1l ?kg0_1c ?kg0_1k ?kp0_2a ?kp0_2g ?kp0_2t ?kp0_2r ?kg0_2l ?kg0_2c ?kg0_2k ?kc1 ?kpg1 ?khd1 ?kpo1 ?ksa1 ?kmk1 ?kkc1 ?kn1_0 ?km1_0a ?km1_0i ?km1_0l ?km1_0c ?km1_0k ?cg0 ?cg1 ?cg2 ?cg3 ?cg4 ?cg5 ?cg6 ?cg7 ?cg8 ?cg9 ?cg10 ?cg11 ?cg12 ?cg13 ?cg14 ?cg15 ?cg16 ?cg17 ?cg18 ?cg19 ?cg20 ?cg21 ?cg22 ?cg23 ?cg24 ?oe0 ?ok0 ?ob0 ?ot0 ?oe1 ?ok1 ?ob1 ?ot1 ?x0 ?xsa0 ?xga0 ?xgg0 ?xf0_0 ?xin0 ?xti0 ?xli0 ?xci0 ?xki0 ?xkc0 ?xec0 ?xtc0 ?xhc0 ?xsc0 ?xha0 ?xhn0 ?xht0 ?xhm0 ?ria0 ?rin0 ?rit0 ?rim0 ?rio0 ?rii0 ?ris0 ?rwg0 ?rwk0 ?rws0 ?rwd0 ?rwa0 ?rwn0 ?rwt0 ?rwm0 ?rwy0 ?rwc0 ?rwb0 ?rwv0 ?rwg1 ?rwk1 ?rws1 ?rwd1 ?rwa1 ?rwn1 ?rwt1 ?rwm1 ?rwy1 ?rwc1 ?rwb1 ?rwv1 ?rwg2 ?rwk2 ?rws2 ?rwd2 ?rwa2 ?rwn2 ?rwt2 ?rwm2 ?rwy2 ?rwc2 ?rwb2 ?rwv2 ?rn0 ?rn1 ?rn2 ?rn3 ?rn4 ?rn5 ?rn6 ?rn7 ?rn8 ?z1 ?z2 ?z3 ?z4 ?z5 ?z6 ?z7 ?z8 ?z9 ?z10 ?z11 ?z12 ?z13 ?z14
    (case a1 => k_is)
    (case l1 => k_is)
    (case c1 => k_is)
    (case k1 => k_is)
    (case a2 => k_is)
    (case l2 => k_is)
    (case c2 => k_is)
    (case k2 => k_is)
    (case a3 => k_is)
    (case l3 => k_is)
    (case c3 => k_is)
    (case k3 => k_is)
    (case a4 => k_is)
    (case l4 => k_is)
    (case c4 => k_is)
    (case k4 => k_is)
    (case a5 => k_is)
    (case l5 => k_is)
    (case c5 => k_is)
    (case k5 => k_is)
    (case a6 => k_is)
    (case l6 => k_is)
    (case c6 => k_is)
    (case k6 => k_is)
    (case a7 => k_is)
    (case l7 => k_is)
    (case c7 => k_is)
    (case k7 => k_is)
    (case a8 => k_is)
    (case l8 => k_is)
    (case c8 => k_is)
    (case k8 => k_is)
    (case a9 => k_is)
    (case l9 => k_is)
    (case c9 => k_is)
    (case k9 => k_is)
    (case a10 => k_is)
    (case l10 => k_is)
    (case c10 => k_is)
    (case k10 => k_is)
    (case a11 => k_is)
    (case l11 => k_is)
    (case c11 => k_is)
    (case k11 => k_is)
    (case a12 => k_is)
    (case l12 => k_is)
    (case c12 => k_is)
    (case k12 => k_is)
    (case a13 => k_is)
    (case l13 => k_is)
    (case c13 => k_is)
    (case k13 => k_is)
    (case a14 => k_is)
    (case l14 => k_is)
    (case c14 => k_is)
    (case k14 => k_is)
    (case a15 => k_is)
    (case l15 => k_is)
    (case c15 => k_is)
    (case k15 => k_is)
    (case kc0 => k_is)
    (case kpg0 => k_is)
    (case khd0 => k_is)
    (case kpo0 => k_is)
    (case ksa0 => k_is)
    (case kmk0 => k_is)
    (case kkc0 => k_is)
    (case kn0_0 => k_is)
    (case kn0_1 => k_is)
    (case kn0_2 => k_is)
    (case km0_0a => k_is)
    (case km0_0i => k_is)
    (case km0_0l => k_is)
    (case km0_0c => k_is)
    (case km0_0k => k_is)
    (case km0_1a => k_is)
    (case km0_1i => k_is)
    (case km0_1l => k_is)
    (case km0_1c => k_is)
    (case km0_1k => k_is)
    (case km0_2a => k_is)
    (case km0_2i => k_is)
    (case km0_2l => k_is)
    (case km0_2c => k_is)
    (case km0_2k => k_is)
    (case km0_3a => k_is)
    (case km0_3i => k_is)
    (case km0_3l => k_is)
    (case km0_3c => k_is)
    (case km0_3k => k_is)
    (case km0_4a => k_is)
    (case km0_4i => k_is)
    (case km0_4l => k_is)
    (case km0_4c => k_is)
    (case km0_4k => k_is)
    (case kp0_0a => k_is)
    (case kp0_0g => k_is)
    (case kp0_0t => k_is)
    (case kp0_0r => k_is)
    (case kg0_0l => k_is)
    (case kg0_0c => k_is)
    (case kg0_0k => k_is)
    (case kp0_1a => k_is)
    (case kp0_1g => k_is)
    (case kp0_1t => k_is)
    (case kp0_1r => k_is)
    (case kg0_1l => k_is)
    (case kg0_1c => k_is)
    (case kg0_1k => k_is)
    (case kp0_2a => k_is)
    (case kp0_2g => k_is)
    (case kp0_2t => k_is)
    (case kp0_2r => k_is)
    (case kg0_2l => k_is)
    (case kg0_2c => k_is)
    (case kg0_2k => k_is)
    (case kc1 => k_is)
    (case kpg1 => k_is)
    (case khd1 => k_is)
    (case kpo1 => k_is)
    (case ksa1 => k_is)
    (case kmk1 => k_is)
    (case kkc1 => k_is)
    (case kn1_0 => k_is)
    (case km1_0a => k_is)
    (case km1_0i => k_is)
    (case km1_0l => k_is)
    (case km1_0c => k_is)
    (case km1_0k => k_is)
    (case cg0 => k_is)
    (case cg1 => k_is)
    (case cg2 => k_is)
    (case cg3 => k_is)
    (case cg4 => k_is)
    (case cg5 => k_is)
    (case cg6 => k_is)
    (case cg7 => k_is)
    (case cg8 => k_is)
    (case cg9 => k_is)
    (case cg10 => k_is)
    (case cg11 => k_is)
    (case cg12 => k_is)
    (case cg13 => k_is)
    (case cg14 => k_is)
    (case cg15 => k_is)
    (case cg16 => k_is)
    (case cg17 => k_is)
    (case cg18 => k_is)
    (case cg19 => k_is)
    (case cg20 => k_is)
    (case cg21 => k_is)
    (case cg22 => k_is)
    (case cg23 => k_is)
    (case cg24 => k_is)
    (case oe0 => k_exc)
    (case ok0 => k_is)
    (case ob0 => k_is)
    (case ot0 => k_is)
    (case oe1 => k_exc)
    (case ok1 => k_is)
    (case ob1 => k_is)
    (case ot1 => k_is)
    (case x0 => first | k_is | rfl)
    (case xsa0 => first | k_is | rfl)
    (case xga0 => first | k_is | rfl)
    (case xgg0 => first | k_is | rfl)
    (case xf0_0 => first | k_is | rfl)
    (case xin0 => first | k_is | rfl)
    (case xti0 => first | k_is | rfl)
    (case xli0 => first | k_is | rfl)
    (case xci0 => first | k_is | rfl)
    (case xki0 => first | k_is | rfl)
    (case xkc0 => first | k_is | rfl)
    (case xec0 => first | k_is | rfl)
    (case xtc0 => first | k_is | rfl)
    (case xhc0 => first | k_is | rfl)
    (case xsc0 => first | k_is | rfl)
    (case xha0 => first | k_is | rfl)
    (case xhn0 => first | k_is | rfl)
    (case xht0 => first | k_is | rfl)
    (case xhm0 => first | k_is | rfl)
    (case ria0 => first | k_is | rfl)
    (case rin0 => first | k_is | rfl)
    (case rit0 => first | k_is | rfl)
    (case rim0 => first | k_is | rfl)
    (case rio0 => first | k_is | rfl)
    (case rii0 => first | k_is | rfl)
    (case ris0 => first | k_is | rfl)
    (case rwg0 => first | k_is | rfl)
    (case rwk0 => first | k_is | rfl)
    (case rws0 => first | k_is | rfl)
    (case rwd0 => first | k_is | rfl)
    (case rwa0 => first | k_is | rfl)
    (case rwn0 => first | k_is | rfl)
    (case rwt0 => first | k_is | rfl)
    (case rwm0 => first | k_is | rfl)
    (case rwy0 => first | k_is | rfl)
    (case rwc0 => first | k_is | rfl)
    (case rwb0 => first | k_is | rfl)
    (case rwv0 => first | k_is | rfl)
    (case rwg1 => first | k_is | rfl)
    (case rwk1 => first | k_is | rfl)
    (case rws1 => first | k_is | rfl)
    (case rwd1 => first | k_is | rfl)
    (case rwa1 => first | k_is | rfl)
    (case rwn1 => first | k_is | rfl)
    (case rwt1 => first | k_is | rfl)
    (case rwm1 => first | k_is | rfl)
    (case rwy1 => first | k_is | rfl)
    (case rwc1 => first | k_is | rfl)
    (case rwb1 => first | k_is | rfl)
    (case rwv1 => first | k_is | rfl)
    (case rwg2 => first | k_is | rfl)
    (case rwk2 => first | k_is | rfl)
    (case rws2 => first | k_is | rfl)
    (case rwd2 => first | k_is | rfl)
    (case rwa2 => first | k_is | rfl)
    (case rwn2 => first | k_is | rfl)
    (case rwt2 => first | k_is | rfl)
    (case rwm2 => first | k_is | rfl)
    (case rwy2 => first | k_is | rfl)
    (case rwc2 => first | k_is | rfl)
    (case rwb2 => first | k_is | rfl)
    (case rwv2 => first | k_is | rfl)
    (case rn0 => first | k_is | rfl)
    (case rn1 => first | k_is | rfl)
    (case rn2 => first | k_is | rfl)
    (case rn3 => first | k_is | rfl)
    (case rn4 => first | k_is | rfl)
    (case rn5 => first | k_is | rfl)
    (case rn6 => first | k_is | rfl)
    (case rn7 => first | k_is | rfl)
    (case rn8 => first | k_is | rfl)
    (case z1 => k_is)
    (case z2 => k_is)
    (case z3 => k_is)
    (case z4 => k_is)
    (case z5 => k_is)
    (case z6 => k_is)
    (case z7 => k_is)
    (case z8 => k_is)
    (case z9 => k_is)
    (case z10 => k_is)
    (case z11 => k_is)
    (case z12 => k_is)
    (case z13 => k_is)
    (case z14 => k_is)
