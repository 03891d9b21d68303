import PyProof.Rows.All
import Wide.All
import OpenK.AllK
import Wide.FinOn
import HandS.ForMost
import HandS.Strs
import HandS.Set
import HandS.SetFor
import HandS.TupSets
import HandS.IsInst
import HandS.Flow
import HandS.Style
import HandS.Zip
import HandS.SortInts
import HandS.DeepEq
import HandS.SetBool
import HandS.SetKeys
import HandS.ExcInit
import HandS.ExcField
import HandS.ExcOwn
import HandS.WordsExc
import HandS.ExcIs
import KE.KExcIs
import HandS.Walk
import HandS.DictComp
import PySem.Challenge.RW_curbdesk_k06_run_plan
set_option Elab.async false
set_option linter.all false
set_option maxRecDepth 100000
/-! Tables of sets that are laid anew, for the masks that merging asks for. -/
namespace Cs
open PySem PySem.Spec PyProof.Rows

def hop (m : Nat) (q : Nat × Nat) : Nat × Nat := SetTable.leap m q.1 q.2
def hops (m : Nat) : Nat → Nat × Nat → Nat × Nat
  | 0, q => q
  | n + 1, q => hops m n (hop m q)
abbrev own (ow : Array (Option Nat)) (j : Nat) : Option Nat := ow.getD j (some 0)

theorem free_step (m : Nat) (ow : Array (Option Nat)) (f : Nat) (q : Nat × Nat) : SetTable.layClean.free m ow (f + 1) q.1 q.2 =
    (match (List.range (SetTable.runEnd m q.1 + 1 - q.1)).find? (fun k => (own ow (q.1 + k)).isNone) with
      | some k => some (q.1 + k)
      | none => SetTable.layClean.free m ow f (hop m q).1 (hop m q).2) := rfl
theorem run_ge (m i : Nat) : i ≤ SetTable.runEnd m i := by
  unfold SetTable.runEnd
  split <;> omega
theorem run_le {m i : Nat} (h : i ≤ m) : SetTable.runEnd m i ≤ m := by
  unfold SetTable.runEnd
  split <;> omega
theorem hop_le (m : Nat) (q : Nat × Nat) : (hop m q).1 ≤ m := Nat.le_of_lt_succ (Nat.mod_lt _ (Nat.succ_pos m))

theorem free_none (m : Nat) (ow : Array (Option Nat)) : ∀ (f : Nat) (q : Nat × Nat), SetTable.layClean.free m ow f q.1 q.2 = none → ∀ n, n < f → (own ow (hops m n q).1).isNone = false
  | 0, _, _, n, h => absurd h (Nat.not_lt_zero n)
  | f + 1, q, e, n, h => by
    rw [free_step] at e
    cases c : (List.range (SetTable.runEnd m q.1 + 1 - q.1)).find? (fun k => (own ow (q.1 + k)).isNone) with
    | some k => rw [c] at e; exact nomatch e
    | none =>
      rw [c] at e
      cases n with
      | zero =>
        have z := List.find?_eq_none.mp c 0 (List.mem_range.mpr (by have := run_ge m q.1; omega))
        have z2 : ¬ ((own ow q.1).isNone = true) := z
        exact Bool.eq_false_iff.mpr z2
      | succ n => exact free_none m ow f (hop m q) e n (by omega)

theorem free_some (m : Nat) (ow : Array (Option Nat)) : ∀ (f : Nat) (q : Nat × Nat) (j : Nat), SetTable.layClean.free m ow f q.1 q.2 = some j → q.1 ≤ m → j ≤ m ∧ (own ow j).isNone = true
  | 0, _, _, e, _ => nomatch e
  | f + 1, q, j, e, hq => by
    rw [free_step] at e
    cases c : (List.range (SetTable.runEnd m q.1 + 1 - q.1)).find? (fun k => (own ow (q.1 + k)).isNone) with
    | some k =>
      rw [c] at e
      have ej : q.1 + k = j := Option.some.inj e
      have h1 := List.mem_of_find?_eq_some c
      have h2 := List.find?_some c
      have h3 := List.mem_range.mp h1
      have h4 := run_le hq
      rw [← ej]
      exact ⟨by omega, h2⟩
    | none =>
      rw [c] at e
      exact free_some m ow f (hop m q) j e (hop_le m q)

theorem hops_back (m : Nat) : ∀ (n : Nat) (q : Nat × Nat), hops m (n + 1) q = hop m (hops m n q)
  | 0, _ => rfl
  | n + 1, q => hops_back m n (hop m q)
theorem hops_add (m : Nat) (a : Nat) : ∀ (k : Nat) (q : Nat × Nat), hops m (a + k) q = hops m k (hops m a q)
  | 0, _ => rfl
  | k + 1, q => by
    rw [show a + (k + 1) = (a + k) + 1 from rfl, hops_back, hops_back, hops_add m a k q]
theorem hops_snd (m : Nat) : ∀ (n : Nat) (q : Nat × Nat), (hops m n q).2 = q.2 / 32 ^ n
  | 0, q => (Nat.div_one q.2).symm
  | n + 1, q => by
    rw [hops_back]
    show (hops m n q).2 / 32 = _
    rw [hops_snd m n q, Nat.div_div_eq_div_mul, Nat.pow_succ]
theorem hops_fst_le (m : Nat) {q : Nat × Nat} (hq : q.1 ≤ m) : ∀ n, (hops m n q).1 ≤ m
  | 0 => hq
  | n + 1 => by rw [hops_back]; exact hop_le m _
theorem hops_zero (m i : Nat) : ∀ k, hops m k (i, 0) = (L2.lcgI m i k, 0)
  | 0 => rfl
  | k + 1 => by
    rw [hops_back, hops_zero m i k]
    show ((L2.lcgI m i k * 5 + 1 + 0 / 32) % (m + 1), 0 / 32) = _
    rw [Nat.zero_div, Nat.add_zero] <;> rfl

def Msk (m : Nat) : Prop := m = 7 ∨ m = 15 ∨ m = 31 ∨ m = 63 ∨ m = 127
def meetsAll (m : Nat) : Bool := (List.range (m + 1)).all fun i => (List.range (m + 1)).all fun j => (List.range (m + 1)).any fun k => L2.lcgI m i k == j
theorem lcg_of {m : Nat} (h : meetsAll m = true) {i j : Nat} (hi : i ≤ m) (hj : j ≤ m) : ∃ k, k ≤ m ∧ L2.lcgI m i k = j := by
  have h1 := List.all_eq_true.mp (List.all_eq_true.mp h i (List.mem_range.mpr (by omega))) j (List.mem_range.mpr (by omega))
  obtain ⟨k, hk, e⟩ := List.any_eq_true.mp h1
  exact ⟨k, Nat.le_of_lt_succ (List.mem_range.mp hk), eq_of_beq e⟩
/- one round from 0, then the shift -/
theorem all15 : ((List.range 16).all fun j => (List.range 16).any fun b => L2.lcgN 15 b == j) = true := by decide +kernel
theorem all63 : ((List.range 64).all fun j => (List.range 64).any fun b => L2.lcgN 63 b == j) = true := by decide +kernel
theorem round15 : L2.lcgN 15 16 = 0 := by decide +kernel
theorem round63 : L2.lcgN 63 64 = 0 := by decide +kernel
theorem turn_mod {m : Nat} (h : L2.lcgN m (m + 1) = 0) : ∀ k, L2.lcgN m (m + 1 + k) = L2.lcgN m k
  | 0 => h
  | k + 1 => by
    show (L2.lcgN m (m + 1 + k) * 5 + 1) % (m + 1) = (L2.lcgN m k * 5 + 1) % (m + 1)
    rw [turn_mod h k]
theorem lcg_by {m : Nat} (hr : L2.lcgN m (m + 1) = 0) (ha : ((List.range (m + 1)).all fun j => (List.range (m + 1)).any fun b => L2.lcgN m b == j) = true) {i j : Nat} (hi : i ≤ m) (hj : j ≤ m) :
    ∃ k, k ≤ m ∧ L2.lcgI m i k = j := by
  have at0 : ∀ x, x ≤ m → ∃ b, b ≤ m ∧ L2.lcgN m b = x := fun x hx => by
    obtain ⟨b, hb, e⟩ := List.any_eq_true.mp (List.all_eq_true.mp ha x (List.mem_range.mpr (by omega)))
    exact ⟨b, Nat.le_of_lt_succ (List.mem_range.mp hb), eq_of_beq e⟩
  obtain ⟨a, la, ea⟩ := at0 i hi
  obtain ⟨b, lb, eb⟩ := at0 j hj
  subst ea
  by_cases c : a ≤ b
  · exact ⟨b - a, by omega, by rw [L2.lcgN_add, Nat.add_sub_cancel' c]; exact eb⟩
  · refine ⟨m + 1 + b - a, by omega, ?_⟩
    rw [L2.lcgN_add, Nat.add_sub_cancel' (by omega), turn_mod hr]
    exact eb
theorem lcg_meets {m : Nat} (hm : Msk m) {i j : Nat} (hi : i ≤ m) (hj : j ≤ m) : ∃ k, k ≤ m ∧ L2.lcgI m i k = j := by
  rcases hm with e | e | e | e | e
  · exact L2.lcgI_all (.inl e) hi hj
  · subst e; exact lcg_by round15 all15 hi hj
  · exact L2.lcgI_all (.inr (.inl e)) hi hj
  · subst e; exact lcg_by round63 all63 hi hj
  · exact L2.lcgI_all (.inr (.inr e)) hi hj

theorem free_there {m : Nat} (hm : Msk m) (ow : Array (Option Nat)) (h : Int) {j0 : Nat} (hj : j0 ≤ m) (hf : (own ow j0).isNone = true) :
    ∃ j, SetTable.layClean.free m ow (SetTable.turns m) (SetTable.bits h % (m + 1)) (SetTable.bits h) = some j ∧ j ≤ m ∧ (own ow j).isNone = true := by
  have hq : SetTable.bits h % (m + 1) ≤ m := Nat.le_of_lt_succ (Nat.mod_lt _ (Nat.succ_pos m))
  cases e : SetTable.layClean.free m ow (SetTable.turns m) (SetTable.bits h % (m + 1)) (SetTable.bits h) with
  | some j => exact ⟨j, rfl, free_some m ow _ (SetTable.bits h % (m + 1), SetTable.bits h) j e hq⟩
  | none =>
    exfalso
    have all := free_none m ow _ (SetTable.bits h % (m + 1), SetTable.bits h) e
    have z : (hops m 13 (SetTable.bits h % (m + 1), SetTable.bits h)).2 = 0 := by
      rw [hops_snd]
      refine Nat.div_eq_of_lt (Nat.lt_trans (L2.bits_lt h) ?_)
      decide
    have le := hops_fst_le m (q := (SetTable.bits h % (m + 1), SetTable.bits h)) hq 13
    obtain ⟨k, hk, ek⟩ := lcg_meets hm le hj
    have q := all (13 + k) (by show 13 + k < m + 15; omega)
    have e2 : hops m 13 (SetTable.bits h % (m + 1), SetTable.bits h) = ((hops m 13 (SetTable.bits h % (m + 1), SetTable.bits h)).1, 0) := by
      rw [← z]
    rw [hops_add, e2, hops_zero] at q
    rw [ek] at q
    rw [hf] at q
    cases q

/-! ### who sits where -/
theorem put_perm : ∀ (l : List (Option Nat)) (j k : Nat), l[j]? = some none → ((l.set j (some k)).filterMap id).Perm (k :: l.filterMap id)
  | [], j, k, h => by simp at h
  | x :: l, 0, k, h => by
    have e : x = none := by simpa using h
    subst e
    simp
  | x :: l, j + 1, k, h => by
    have ih := put_perm l j k (by simpa using h)
    cases x with
    | none => simpa using ih
    | some y =>
      simp only [List.set_cons_succ, List.filterMap_cons, id]
      exact (ih.cons y).trans (List.Perm.swap k y _)
theorem gap : ∀ l : List (Option Nat), (l.filterMap id).length < l.length → ∃ j : Nat, j < l.length ∧ l[j]? = some none
  | [], h => by simp at h
  | none :: l, h => ⟨0, by simp, rfl⟩
  | some y :: l, h => by
    obtain ⟨j, hj, e⟩ := gap l (by simpa using h)
    exact ⟨j + 1, by simpa using hj, by simpa using e⟩
structure Sit (m k : Nat) (ow : Array (Option Nat)) : Prop where
  sz : ow.size = m + 1
  pm : (ow.toList.filterMap id).Perm (List.range k)
theorem Sit.start (m : Nat) : Sit m 0 (Array.replicate (m + 1) none) := ⟨by simp, by simp⟩
theorem Sit.next {m k : Nat} {ow : Array (Option Nat)} (S : Sit m k ow) (hm : Msk m) (hk : k ≤ m) (h : Int) :
    ∃ j, SetTable.layClean.free m ow (SetTable.turns m) (SetTable.bits h % (m + 1)) (SetTable.bits h) = some j ∧ Sit m (k + 1) (ow.setIfInBounds j (some k)) := by
  have l1 := S.pm.length_eq
  rw [List.length_range] at l1
  obtain ⟨j0, h0, e0⟩ := gap ow.toList (by rw [l1, Array.length_toList, S.sz]; omega)
  rw [Array.length_toList, S.sz] at h0
  have f0 : (own ow j0).isNone = true := by
    have : ow[j0]? = some none := by rw [← Array.getElem?_toList]; exact e0
    simp [own, Array.getD_eq_getD_getElem?, this]
  obtain ⟨j, ej, hj, hn⟩ := free_there hm ow h (by omega) f0
  have hjs : j < ow.size := by rw [S.sz]; omega
  have en : ow.toList[j]? = some none := by
    have : own ow j = none := by simpa using hn
    rw [Array.getElem?_toList]
    simp only [own, Array.getD_eq_getD_getElem?, Array.getElem?_eq_getElem hjs, Option.getD_some] at this
    rw [Array.getElem?_eq_getElem hjs, this]
  refine ⟨j, ej, by rw [Array.size_setIfInBounds]; exact S.sz, ?_⟩
  rw [Array.toList_setIfInBounds]
  refine (put_perm ow.toList j k en).trans ?_
  rw [List.range_succ]
  exact (S.pm.cons k).trans (List.perm_append_singleton k _).symm
theorem sit_all {m : Nat} (hm : Msk m) : ∀ (hs : List Int) (k : Nat) (ow : Array (Option Nat)), Sit m k ow → k + hs.length ≤ m →
    ∃ ow', hs.foldl (L2.stepF m) (some (ow, k)) = some (ow', k + hs.length) ∧ Sit m (k + hs.length) ow'
  | [], k, ow, S, _ => ⟨ow, rfl, S⟩
  | h :: hs, k, ow, S, hl => by
    rw [List.length_cons] at hl
    obtain ⟨j, ej, S2⟩ := S.next hm (by omega) h
    obtain ⟨ow', e, S3⟩ := sit_all hm hs (k + 1) _ S2 (by omega)
    refine ⟨ow', ?_, ?_⟩
    · rw [List.foldl_cons, L2.stepF_some ej, e, List.length_cons]
      exact congrArg (fun n => some (ow', n)) (by omega)
    · rw [List.length_cons, show k + (hs.length + 1) = k + 1 + hs.length by omega]
      exact S3
theorem lay_ok {m : Nat} (hm : Msk m) {hs : Array Int} (hn : hs.size ≤ m) : ∃ ow, SetTable.layClean m hs = some ow ∧ Sit m hs.size ow := by
  obtain ⟨ow, e, S⟩ := sit_all hm hs.toList 0 _ (Sit.start m) (by rw [Array.length_toList]; omega)
  rw [Nat.zero_add, Array.length_toList] at S
  refine ⟨ow, ?_, S⟩
  rw [L2.layClean_eq, e] <;> rfl

def liveAt (m : Nat) (ow : Array (Option Nat)) : List (Nat × Nat) := (List.range (m + 1)).filterMap fun j => (ow.getD j none).map (j, ·)
theorem live_snd {m : Nat} {ow : Array (Option Nat)} (hz : ow.size = m + 1) : (liveAt m ow).map (·.2) = ow.toList.filterMap id := by
  unfold liveAt
  rw [List.map_filterMap, ← hz]
  have e1 : (fun j => ((ow.getD j none).map (j, ·)).map (·.2)) = fun j => (ow[j]?).bind id := by
    funext j
    rw [Array.getD_eq_getD_getElem?]
    cases ow[j]? with
    | none => rfl
    | some y => cases y <;> rfl
  have e2 := filterMap_getElem?_range ow
  rw [e1, ← e2, List.filterMap_filterMap]
theorem laid_ok {m : Nat} (hm : Msk m) {hs : Array Int} (hn : hs.size ≤ m) (fi mv : Nat) (ld pl : Bool) :
    ∃ t order, SetTable.laid m fi mv ld pl hs = some (t, order) ∧ order.toList.Perm (List.range hs.size) ∧ t.mask = m ∧ t.dummies = #[] ∧ t.led = ld ∧ L2.Ris t.place.toList ∧ t.place.size = hs.size := by
  obtain ⟨ow, e, S⟩ := lay_ok hm hn
  have p : ((liveAt m ow).map (·.2)).Perm (List.range hs.size) := by
    rw [live_snd S.sz]
    exact S.pm
  refine ⟨_, _, by unfold SetTable.laid; rw [e]; rfl, p, rfl, rfl, rfl, ?_, ?_⟩
  · refine (L2.ris_live (fun j => ow.getD j none) (List.range (m + 1)) ?_).1
    unfold L2.Ris
    first | exact List.pairwise_lt_range | exact List.pairwise_lt_range _
  · have l := p.length_eq
    rw [List.length_map, List.length_range] at l
    show ((liveAt m ow).map (·.1)).toArray.size = hs.size
    rw [List.size_toArray, List.length_map]
    exact l
theorem above_msk : ((List.range 128).all fun n => (SetTable.sizeAbove n == 8 || SetTable.sizeAbove n == 16 || SetTable.sizeAbove n == 32 || SetTable.sizeAbove n == 64 || SetTable.sizeAbove n == 128) && decide (n < SetTable.sizeAbove n)) = true := by
  decide +kernel
theorem above_ok {n : Nat} (h : n < 128) : Msk (SetTable.sizeAbove n - 1) ∧ n ≤ SetTable.sizeAbove n - 1 ∧ SetTable.sizeAbove n ≤ 128 := by
  have q := List.all_eq_true.mp above_msk n (List.mem_range.mpr h)
  simp only [Bool.and_eq_true, Bool.or_eq_true, beq_iff_eq, decide_eq_true_eq] at q
  obtain ⟨q1, q2⟩ := q
  refine ⟨?_, by omega, by omega⟩
  unfold Msk
  omega
end Cs

set_option Elab.async false
set_option linter.all false
set_option maxRecDepth 100000
set_option maxHeartbeats 1000000
namespace Cs
open PySem PySem.Spec PyProof.Rows L2

/-- a set of ints, written out -/
structure SetX (w : World) (h : Heap) (a : Addr) (es : Array (Int × Value)) (ep : Nat) (t : SetTable) : Prop where
  obj : h.get? a = some { cls := .type "set", dict := none, data := .set es ep t, slots := #[] }
  good : ∀ e ∈ es.toList, GoodE e
  nd : (es.toList.map keyOf).Nodup
  few : es.size < scanBound
  fits : t.fits es.size = true
  ris : Ris t.place.toList
  led : w.params.followText "set-order" = true ∨ t.led = true
section
variable {w : World} {h h' : Heap} {a : Addr} {S : Int → Bool} {n : Nat} {es : Array (Int × Value)} {ep : Nat} {t : SetTable}
theorem SetX.toR (R : SetX w h a es ep t) (hS : ∀ k, S k = true ↔ k ∈ es.toList.map keyOf) (hn : es.size = n) : SetR w h a S n :=
  ⟨_, es, ep, t, R.obj, ⟨rfl, rfl, rfl⟩, rfl, R.good, R.nd, hS, R.few, R.fits, hn, R.ris, R.led⟩
theorem xOf (R : SetR w h a S n) : ∃ es ep t, SetX w h a es ep t ∧ (∀ k, S k = true ↔ k ∈ es.toList.map keyOf) ∧ es.size = n := by
  obtain ⟨⟨c, d, dt, sl⟩, es, ep, t, ho, ⟨e1, e2, e3⟩, hd, g, nd, m, fw, ft, hn, r, l⟩ := R
  simp only at e1 e2 e3 hd
  subst e1 e2 e3 hd
  exact ⟨es, ep, t, ⟨ho, g, nd, fw, ft, r, l⟩, m, hn⟩
theorem SetX.move (R : SetX w h a es ep t) (k : ∀ o, h.get? a = some o → h'.get? a = some o) : SetX w h' a es ep t :=
  ⟨k _ R.obj, R.good, R.nd, R.few, R.fits, R.ris, R.led⟩
theorem SetX.perm {es' : Array (Int × Value)} {t' : SetTable} {ep' : Nat} (R : SetX w h a es ep t) (p : es'.toList.Perm es.toList)
    (o : h'.get? a = some { cls := .type "set", dict := none, data := .set es' ep' t', slots := #[] }) (f : t'.fits es'.size = true) (r : Ris t'.place.toList) (l : w.params.followText "set-order" = true ∨ t'.led = true) : SetX w h' a es' ep' t' :=
  ⟨o, fun e he => R.good e (p.mem_iff.mp he), (p.map keyOf).nodup_iff.mpr R.nd, by
    have q := p.length_eq
    rw [Array.length_toList, Array.length_toList] at q
    rw [q]; exact R.few, f, r, l⟩
end
theorem order_perm {es : Array (Int × Value)} {order : Array Nat} (p : order.toList.Perm (List.range es.size)) : (order.filterMap (es[·]?)).toList.Perm es.toList := by
  have q := p.filterMap (fun i => es[i]?)
  rw [filterMap_getElem?_range] at q
  rw [Array.toList_filterMap]
  exact q
theorem perm_size {α : Type} {x y : Array α} (p : x.toList.Perm y.toList) : x.size = y.size := by
  have q := p.length_eq
  rw [Array.length_toList, Array.length_toList] at q
  exact q
section
variable {P : Program} {w : World} {A : Around} {E : Value → Shared → Prop} {s : Shared} {a : Addr} {es : Array (Int × Value)} {ep : Nat} {t : SetTable}

theorem relay_x {wanted : Nat} {Q : Unit → Shared → Prop} (R : SetX w s.heap a es ep t) (hw : wanted < 128) (hn : es.size ≤ wanted)
    (hQ : ∀ h' es' t', Heap.SameBut a s.heap h' → SetX w h' a es' (ep + 1) t' → es'.toList.Perm es.toList → t'.mask = SetTable.sizeAbove wanted - 1 → t'.dummies = #[] → t'.place.size = es.size → Q () { s with heap := h' }) :
    wpAny (model P w) A (setRelay a wanted) Q E s := by
  obtain ⟨hM, hMn, h128⟩ := above_ok hw
  obtain ⟨t', order, e, hp, em, ed, el, er, ez⟩ := laid_ok hM (hs := es.map (·.1)) (by rw [Array.size_map]; omega) t.finger (t.movedTo (SetTable.sizeAbove wanted - 1)) t.led t.plain
  rw [Array.size_map] at hp ez
  have p2 := order_perm hp
  have z2 := perm_size p2
  have fit : t'.fits (order.filterMap (es[·]?)).size = true := by
    unfold SetTable.fits SetTable.fill
    rw [ed, z2, ez, em, Bool.and_eq_true, beq_iff_eq, decide_eq_true_eq]
    exact ⟨rfl, by show es.size + 0 ≤ _; omega⟩
  have e' : t.relaid (es.map (·.1)) wanted = some (t', order) := e
  unfold setRelay
  refine wpAny_bind (wpAny_setState_of R.obj rfl R.fits ?_)
  dsimp only
  refine wp_if_neg (by rw [sizeLine_eq]; omega) ?_
  try refine wpAny_bind (wpAny_pure ?_)
  rw [e']
  refine wpAny_bind ?_
  refine wp_if_neg (c := ((order.filterMap (es[·]?)).size != es.size) = true) (by rw [z2]; simp) ?_
  try refine wpAny_bind (wpAny_pure ?_)
  refine wpAny_pure ?_
  dsimp only
  refine wpAny_storeSet_of R.obj rfl ?_ (fits_of_scanBound (by rw [z2]; exact R.few))
  have sb : Heap.SameBut a s.heap (s.heap.update a (Obj.putSet (order.filterMap (es[·]?)) t')) := Heap.SameBut.update ..
  exact hQ _ _ t' sb (R.perm p2 (store_at R.obj rfl) fit er (R.led.imp id fun z => el.trans z)) p2 em ed ez

/-! ### walking -/
theorem walk_x {Q : Array (Int × Value) → Shared → Prop} (R : SetX w s.heap a es ep t) (hQ : ∀ ys d, ys.toList.Perm es.toList → Q ys { s with drawn := d }) : wpAny (model P w) A (setWalk a) Q E s := by
  have rf : Q es s := hQ es s.drawn (List.Perm.refl _)
  unfold setWalk
  refine wpAny_bind (wpAny_setState_of R.obj rfl R.fits ?_)
  dsimp only
  refine wpAny_bind (wpAny_byText ?_)
  by_cases hb : w.params.followText "set-order" = true
  · refine wp_if_pos hb ?_
    refine wpAny_bind (wpAny_askSetting ?_)
    exact wpAny_pure (hQ _ s.drawn (pick_perm _ es))
  · refine wp_if_neg hb ?_
    by_cases hd : (!t.plain && decide (es.size > 1)) = true
    · refine wp_if_pos (c := (!t.plain && decide (es.size > 1)) = true) hd ?_
      refine wpAny_bind (drawOrder_at _ _ _ _ (Nat.le_of_eq Array.length_toList) fun ys d p => wpAny_pure (hQ _ d ?_))
      simpa using p
    · refine wp_if_neg (c := (!t.plain && decide (es.size > 1)) = true) hd ?_
      have hl : t.led = true := R.led.resolve_left hb
      refine wpAny_bind (m := (_ : Sem Unit)) ?_
      refine wp_if_neg (c := (!t.led && decide (es.size > 1)) = true) (by rw [hl]; simp) ?_
      exact wpAny_pure (wpAny_pure rf)
end
end Cs

set_option Elab.async false
set_option linter.all false
set_option maxRecDepth 100000
set_option maxHeartbeats 1000000
namespace Cs
open PySem PySem.Spec PyProof.Rows L2
section
variable {P : Program} {w : World} {A : Around} {E : Value → Shared → Prop} {s : Shared} {a : Addr} {es : Array (Int × Value)} {ep : Nat} {t : SetTable}

theorem quiet_x {Q : Bool → Shared → Prop} : ∀ (l : List Addr), (∀ b ∈ l, ∃ es ep t, SetX w s.heap b es ep t) → Q true s → wpAny (model P w) A (setsQuiet l) Q E s := by
  intro l hl hq
  unfold setsQuiet
  refine wpAny_bind (wpAny_forIn_list _ (fun rest b s' => b.1 = none ∧ s' = s ∧ ∀ x ∈ rest, ∃ es ep t, SetX w s.heap x es ep t) _ ?turn ?fin l _ ⟨rfl, rfl, hl⟩)
  case fin =>
    rintro ⟨b1, b2⟩ s' ⟨h1, rfl, _⟩
    cases h1
    exact wpAny_pure hq
  case turn =>
    rintro x rest ⟨b1, b2⟩ s' ⟨h1, rfl, h2⟩
    cases h1
    obtain ⟨es, ep, t, R⟩ := h2 x List.mem_cons_self
    unfold setEntries
    refine wpAny_bind (wpAny_bind (wpAny_setState_of R.obj rfl R.fits (wpAny_pure ?_)))
    refine wpAny_bind (MeetsSeq2.wpAny_forIn_array _ (fun rest' b s'' => b.1 = none ∧ s'' = s' ∧ ∀ e ∈ rest', GoodE e) _ ?t2 ?f2 es _ ⟨rfl, rfl, R.good⟩)
    case f2 =>
      rintro ⟨b1, b2⟩ s' ⟨h1, rfl, _⟩
      cases h1
      exact wpAny_pure ⟨rfl, rfl, fun y hy => h2 y (List.mem_cons_of_mem _ hy)⟩
    case t2 =>
      rintro ⟨hh, v⟩ rest' ⟨b1, b2⟩ s' ⟨h1, rfl, hg⟩
      cases h1
      obtain ⟨k, tk, e1, _⟩ := hg _ List.mem_cons_self
      have e2 : v = .int k tk := e1
      subst e2
      dsimp only
      refine wpAny_pure ⟨rfl, rfl, fun y hy => hg y (List.mem_cons_of_mem _ hy)⟩
end
end Cs

set_option Elab.async false
set_option linter.all false
set_option maxRecDepth 100000
set_option maxHeartbeats 1000000
namespace Cs
open PySem PySem.Spec PyProof.Rows L2
section
variable {P : Program} {w : World} {A : Around} {E : Value → Shared → Prop} {s : Shared} {a : Addr} {es : Array (Int × Value)} {ep : Nat} {t : SetTable}
theorem unseen_x {others : List Addr} {f : Addr} {ef : Array (Int × Value)} {pf : Nat} {tf : SetTable} {Q : Array (Int × Value) → Shared → Prop} (R : SetX w s.heap a es ep t)
    (ho : ∀ b ∈ others, ∃ es ep t, SetX w s.heap b es ep t) (F : SetX w s.heap f ef pf tf)
    (hQ : ∀ ys d h' pf' tf', ys.toList.Perm es.toList → Heap.SameBut f s.heap h' → SetX w h' f ef pf' tf' → Q ys { s with heap := h', drawn := d }) :
    wpAny (model P w) A (setWalkUnseen a others (some f)) Q E s := by
  have rf : ∀ ys d, ys.toList.Perm es.toList → Q ys { s with drawn := d } := fun ys d p => hQ ys d s.heap pf tf p (Heap.SameBut.refl f s.heap) F
  unfold setWalkUnseen
  refine wpAny_bind (wpAny_setState_of R.obj rfl R.fits ?_)
  dsimp only
  refine wpAny_bind (wpAny_byText ?_)
  by_cases hb : (w.params.followText "set-order" || (t.led && t.plain) || decide (es.size ≤ 1)) = true
  · refine wp_if_pos (c := (w.params.followText "set-order" || (t.led && t.plain) || decide (es.size ≤ 1)) = true) hb ?_
    exact walk_x R rf
  · refine wp_if_neg (c := (w.params.followText "set-order" || (t.led && t.plain) || decide (es.size ≤ 1)) = true) hb ?_
    have hnt : ¬ w.params.followText "set-order" = true := fun z => hb (by rw [z] <;> rfl)
    have hl : t.led = true := R.led.resolve_left hnt
    try refine wpAny_bind (wpAny_pure ?_)
    refine wpAny_bind (quiet_x _ (fun b hb' => (List.mem_cons.mp hb').elim (fun z => ⟨es, ep, t, z ▸ R⟩) (ho b)) ?_)
    refine wp_if_neg (c := (!true) = true) (by simp) ?_
    try refine wpAny_bind (wpAny_pure ?_)
    refine wpAny_bind (wpAny_rule ?_)
    try dsimp only
    refine wpAny_bind (wpAny_setState_of F.obj rfl F.fits ?_)
    dsimp only
    split
    · refine wpAny_bind (wpAny_storeSet_of F.obj rfl ?_ (fits_of_scanBound F.few))
      refine wpAny_pure ?_
      refine hQ es s.drawn _ _ _ (List.Perm.refl _) (Heap.SameBut.update s.heap f _) (F.perm (List.Perm.refl _) (store_at F.obj rfl) ?_ F.ris ?_)
      · exact F.fits
      · refine F.led.imp id fun z => ?_
        show (tf.led && t.led) = true
        rw [z, hl] <;> rfl
    · try refine wpAny_bind (wpAny_pure ?_)
      exact wpAny_pure (rf es s.drawn (List.Perm.refl _))
theorem unseen_n {others : List Addr} {Q : Array (Int × Value) → Shared → Prop} (R : SetX w s.heap a es ep t)
    (ho : ∀ b ∈ others, ∃ es ep t, SetX w s.heap b es ep t)
    (rf : ∀ ys d, ys.toList.Perm es.toList → Q ys { s with drawn := d }) :
    wpAny (model P w) A (setWalkUnseen a others none) Q E s := by
  unfold setWalkUnseen
  refine wpAny_bind (wpAny_setState_of R.obj rfl R.fits ?_)
  dsimp only
  refine wpAny_bind (wpAny_byText ?_)
  by_cases hb : (w.params.followText "set-order" || (t.led && t.plain) || decide (es.size ≤ 1)) = true
  · refine wp_if_pos (c := (w.params.followText "set-order" || (t.led && t.plain) || decide (es.size ≤ 1)) = true) hb ?_
    exact walk_x R rf
  · refine wp_if_neg (c := (w.params.followText "set-order" || (t.led && t.plain) || decide (es.size ≤ 1)) = true) hb ?_
    try refine wpAny_bind (wpAny_pure ?_)
    refine wpAny_bind (quiet_x _ (fun b hb' => (List.mem_cons.mp hb').elim (fun z => ⟨es, ep, t, z ▸ R⟩) (ho b)) ?_)
    refine wp_if_neg (c := (!true) = true) (by simp) ?_
    try refine wpAny_bind (wpAny_pure ?_)
    refine wpAny_bind (wpAny_rule ?_)
    try dsimp only
    try refine wpAny_bind (wpAny_pure ?_)
    exact wpAny_pure (rf es s.drawn (List.Perm.refl _))

theorem room_x {more : Nat} {Q : Unit → Shared → Prop} (R : SetX w s.heap a es ep t) (hm : (es.size + more) * 2 < 128)
    (hQ : ∀ h' es' ep' t', Heap.SameBut a s.heap h' → SetX w h' a es' ep' t' → es'.toList.Perm es.toList →
      ((t' = t ∧ (t.fill + more) * 5 < t.mask * 3) ∨ (t'.mask = SetTable.sizeAbove ((es.size + more) * 2) - 1 ∧ t'.dummies = #[])) → Q () { s with heap := h' }) :
    wpAny (model P w) A (setRoomFor a more) Q E s := by
  have hz : t.place.size = es.size := by
    have f := R.fits
    unfold SetTable.fits at f
    rw [Bool.and_eq_true, beq_iff_eq] at f
    exact f.1
  unfold setRoomFor
  refine wpAny_bind (wpAny_setState_of R.obj rfl R.fits ?_)
  dsimp only
  by_cases c : (t.fill + more) * 5 ≥ t.mask * 3
  · have e : t.roomFor more = some ((t.place.size + more) * 2) := if_pos c
    rw [e]
    dsimp only
    rw [hz]
    refine relay_x R hm (by omega) fun h' es' t' sb X p em ed _ => hQ h' es' _ t' sb X p (.inr ⟨em, ed⟩)
  · have e : t.roomFor more = none := if_neg c
    rw [e]
    dsimp only
    exact wpAny_pure (hQ s.heap es ep t (Heap.SameBut.refl a s.heap) R (List.Perm.refl _) (.inl ⟨rfl, by omega⟩))
end
end Cs

set_option Elab.async false
set_option linter.all false
set_option maxRecDepth 100000
set_option maxHeartbeats 1000000
namespace Cs
open PySem PySem.Spec PyProof.Rows L2
section
variable {P : Program} {w : World} {A : Around} {E : Value → Shared → Prop} {s : Shared}
abbrev keys (es : Array (Int × Value)) : List Int := es.toList.map keyOf
theorem keys_perm {x y : Array (Int × Value)} (p : x.toList.Perm y.toList) (k : Int) : k ∈ keys x ↔ k ∈ keys y := (p.map keyOf).mem_iff
theorem sb_trans {a : Addr} {h1 h2 h3 : Heap} (x : Heap.SameBut a h1 h2) (y : Heap.SameBut a h2 h3) : Heap.SameBut a h1 h3 := x.trans y
theorem sx_other {h h' : Heap} {a b : Addr} {es : Array (Int × Value)} {ep : Nat} {t : SetTable} (R : SetX w h b es ep t) (sb : Heap.SameBut a h h') (hne : b ≠ a) : SetX w h' b es ep t :=
  R.move fun o e => (sb.2 b hne).trans e
theorem sr_other {h h' : Heap} {a b : Addr} {S : Int → Bool} {n : Nat} (R : SetR w h b S n) (sb : Heap.SameBut a h h') (hne : b ≠ a) : SetR w h' b S n :=
  R.at fun o e => (sb.2 b hne).trans e

/-- adding the members of a walk, one by one -/
theorem add_all {r : Addr} (f : (Int × Value) → PUnit → Sem (ForInStep PUnit)) (K : Shared → Prop) (hK : ∀ s1 h', Heap.SameBut r s1.heap h' → K s1 → K { s1 with heap := h' })
    (hf : ∀ e k tk s1 Q', e = (hashInt k, Value.int k tk) → K s1 → (wpAny (model P w) A (setAddHashed r (.int k tk) (hashInt k)) (fun _ s2 => K s2 ∧ Q' (.yield ⟨⟩) s2) E s1) → wpAny (model P w) A (f e ⟨⟩) Q' E s1)
    (ys : Array (Int × Value)) (g : ∀ e ∈ ys.toList, GoodE e) {S : Int → Bool} {n : Nat} (R : SetR w s.heap r S n) (hn : n + ys.size + 1 < scanBound) (hs : K s) {Q : PUnit → Shared → Prop}
    (hQ : ∀ h' S' n', SetR w h' r S' n' → (∀ k, S' k = true ↔ S k = true ∨ k ∈ keys ys) → n' ≤ n + ys.size → Heap.SameBut r s.heap h' → K { s with heap := h' } → Q ⟨⟩ { s with heap := h' }) :
    wpAny (model P w) A (forIn ys ⟨⟩ f) Q E s := by
  refine MeetsSeq2.wpAny_forIn_array f (fun rest _ s' => ∃ h' S' n', s' = { s with heap := h' } ∧ SetR w h' r S' n' ∧ (∀ k, (S' k = true ∨ k ∈ rest.map keyOf) ↔ (S k = true ∨ k ∈ keys ys)) ∧ n' + rest.length ≤ n + ys.size ∧
    Heap.SameBut r s.heap h' ∧ K { s with heap := h' } ∧ ∀ e ∈ rest, GoodE e) Q ?turn ?fin ys ⟨⟩ ⟨s.heap, S, n, rfl, R, fun k => Iff.rfl, by rw [Array.length_toList]; exact Nat.le_refl _, Heap.SameBut.refl r s.heap, hs, g⟩
  case fin =>
    rintro ⟨⟩ s' ⟨h', S', n', rfl, R', m, l, sb, k, _⟩
    exact hQ h' S' n' R' (fun k => by simpa using m k) (by simpa using l) sb k
  case turn =>
    rintro e rest ⟨⟩ s' ⟨h', S', n', rfl, R', m, l, sb, kk, g'⟩
    obtain ⟨k, tk, e1, e2⟩ := g' e List.mem_cons_self
    obtain ⟨eh, ev⟩ := e
    simp only at e1 e2
    subst e1 e2
    rw [List.length_cons] at l
    refine hf _ k tk _ _ rfl kk ?_
    refine setR_add_hashed (s := { s with heap := h' }) R' (by omega) fun h2 sb2 R2 => ?_
    have k2 : K { s with heap := h2 } := hK { s with heap := h' } h2 sb2 kk
    refine ⟨k2, h2, _, _, rfl, R2, fun j => ?_, ?_, sb_trans sb sb2, k2, fun e he => g' e (List.mem_cons_of_mem _ he)⟩
    · rw [← m j, List.map_cons, List.mem_cons, Bool.or_eq_true, decide_eq_true_eq]
      show ((S' j = true ∨ j = k) ∨ _) ↔ (S' j = true ∨ (j = k ∨ _))
      exact or_assoc
    · have : (if S' k = true then n' else n' + 1) ≤ n' + 1 := by split <;> omega
      omega

/-- what is merged into a set with members -/
theorem merge_more {r o : Addr} {each : Sem Unit} {er eo : Array (Int × Value)} {pr po : Nat} {tr to : SetTable} {Q : Unit → Shared → Prop} (hro : o ≠ r) (R : SetX w s.heap r er pr tr) (O : SetX w s.heap o eo po to)
    (hne : er.size ≠ 0) (hroom : (er.size + eo.size) * 2 < 128)
    (heach : ∀ s' Q', SetX w s'.heap o eo po to → Q' () s' → wpAny (model P w) A each Q' E s')
    (hQ : ∀ h' d' S' n', SetR w h' r S' n' → (∀ k, S' k = true ↔ k ∈ keys er ∨ k ∈ keys eo) → n' ≤ er.size + eo.size → Heap.SameBut r s.heap h' → Q () { s with heap := h', drawn := d' }) :
    wpAny (model P w) A (setMerge r o each) Q E s := by
  unfold setMerge
  refine wp_if_neg (c := (r == o) = true) (by simpa using Ne.symm hro) ?_
  try refine wpAny_bind (wpAny_pure ?_)
  refine wpAny_bind (wpAny_setState_of O.obj rfl O.fits ?_)
  dsimp only
  by_cases he : eo.isEmpty = true
  · refine wp_if_pos (c := eo.isEmpty = true) he ?_
    refine wpAny_pure (hQ s.heap s.drawn _ _ (R.toR (S := fun k => decide (k ∈ keys er)) (fun k => decide_eq_true_iff) rfl) (fun k => ?_) (by omega) (Heap.SameBut.refl r s.heap))
    have : eo = #[] := by simpa using he
    subst this
    simp
  · refine wp_if_neg (c := eo.isEmpty = true) he ?_
    try refine wpAny_bind (wpAny_pure ?_)
    refine wpAny_bind (room_x R hroom fun h1 er1 pr1 tr1 sb1 R1 p1 _ => ?_)
    have O1 := sx_other O sb1 hro
    refine wpAny_bind (wpAny_setState_of R1.obj rfl R1.fits ?_)
    dsimp only
    have z1 := perm_size p1
    have hfill : (tr1.fill != 0) = true := by
      have f := R1.fits
      unfold SetTable.fits at f
      rw [Bool.and_eq_true, beq_iff_eq] at f
      have : tr1.fill ≠ 0 := by
        unfold SetTable.fill
        omega
      simpa using this
    have er' : tr1.road to = .oneByOne := if_pos hfill
    rw [er']
    dsimp only
    refine wpAny_bind (unseen_x (s := { s with heap := h1 }) O1 (fun b hb => by rw [List.mem_singleton.mp hb]; exact ⟨_, _, _, R1⟩) R1 fun ys d h2 pf tf py sb2 R2 => ?_)
    have O2 := sx_other O1 sb2 hro
    have zy := perm_size py
    refine wpAny_bind (add_all (s := { s with heap := h2, drawn := d }) (P := P) (A := A) (E := E) _ (fun s1 => SetX w s1.heap o eo po to) (fun s1 h' sb k => sx_other k sb hro) ?hf ys (fun e he => O.good e (py.mem_iff.mp he))
      (R2.toR (S := fun k => decide (k ∈ keys er1)) (fun k => decide_eq_true_iff) rfl) (by have : scanBound = 4096 := rfl; omega) O2 ?hQ)
    case hQ =>
      intro h3 S' n' R3 m3 l3 sb3 _
      refine wpAny_pure (hQ h3 d S' n' R3 (fun k => ?_) (by omega) (sb_trans sb1 (sb_trans sb2 sb3)))
      rw [m3 k, decide_eq_true_iff, keys_perm p1 k, keys_perm py k]
    case hf =>
      intro e k tk s1 Q' ee kk hwp
      subst ee
      dsimp only
      refine wpAny_bind (wpAny_holding (wpAny_mono hwp (fun b s2 hs2 => ?_) fun _ _ z => z))
      obtain ⟨k2, q2⟩ := hs2
      refine wpAny_bind (heach s2 _ k2 ?_)
      refine wpAny_bind (wpAny_setState_of k2.obj rfl k2.fits ?_)
      refine wp_if_neg (c := (po != po) = true) (by simp) ?_
      exact wpAny_pure q2
end
end Cs

set_option Elab.async false
set_option linter.all false
set_option maxRecDepth 100000
set_option maxHeartbeats 1000000
namespace Cs
open PySem PySem.Spec PyProof.Rows L2
section
variable {P : Program} {w : World} {A : Around} {E : Value → Shared → Prop} {s : Shared}
theorem SetX.permTo {h h' : Heap} {a b : Addr} {es es' : Array (Int × Value)} {t t' : SetTable} {ep ep' : Nat} (R : SetX w h a es ep t) (p : es'.toList.Perm es.toList)
    (o : h'.get? b = some { cls := .type "set", dict := none, data := .set es' ep' t', slots := #[] }) (f : t'.fits es'.size = true) (r : Ris t'.place.toList) (l : w.params.followText "set-order" = true ∨ t'.led = true) : SetX w h' b es' ep' t' :=
  ⟨o, fun e he => R.good e (p.mem_iff.mp he), (p.map keyOf).nodup_iff.mpr R.nd, by rw [perm_size p]; exact R.few, f, r, l⟩
theorem nil_of_perm {es : Array (Int × Value)} (p : es.toList.Perm (#[] : Array (Int × Value)).toList) : es = #[] := by
  have q := List.perm_nil.mp p
  simpa using q
theorem merge_fresh {r o : Addr} {each : Sem Unit} {eo : Array (Int × Value)} {pr po : Nat} {tr to : SetTable} {Q : Unit → Shared → Prop} (hro : o ≠ r) (R : SetX w s.heap r #[] pr tr)
    (hm : tr.mask = 7) (hdm : tr.dummies = #[]) (O : SetX w s.heap o eo po to) (h63 : eo.size ≤ 63)
    (hQ : ∀ h' es' ep' t', SetX w h' r es' ep' t' → es'.toList.Perm eo.toList → Heap.SameBut r s.heap h' → Q () { s with heap := h' }) :
    wpAny (model P w) A (setMerge r o each) Q E s := by
  unfold setMerge
  refine wp_if_neg (c := (r == o) = true) (by simpa using Ne.symm hro) ?_
  try refine wpAny_bind (wpAny_pure ?_)
  refine wpAny_bind (wpAny_setState_of O.obj rfl O.fits ?_)
  dsimp only
  by_cases he : eo.isEmpty = true
  · refine wp_if_pos (c := eo.isEmpty = true) he ?_
    have e0 : eo = #[] := by simpa using he
    subst e0
    exact wpAny_pure (hQ s.heap _ _ _ R (List.Perm.refl _) (Heap.SameBut.refl r s.heap))
  · refine wp_if_neg (c := eo.isEmpty = true) he ?_
    try refine wpAny_bind (wpAny_pure ?_)
    have fr : tr.fill = 0 := by
      have f := R.fits
      unfold SetTable.fits at f
      rw [Bool.and_eq_true, beq_iff_eq] at f
      have f1 : tr.place.size = 0 := f.1
      unfold SetTable.fill
      rw [hdm, f1]
      rfl
    refine wpAny_bind (room_x R (by show (0 + eo.size) * 2 < 128; omega) fun h1 er1 pr1 tr1 sb1 R1 p1 alt => ?_)
    have e1 := nil_of_perm p1
    subst e1
    have O1 := sx_other O sb1 hro
    have hM : Msk tr1.mask ∧ eo.size ≤ tr1.mask ∧ tr1.dummies = #[] := by
      rcases alt with ⟨et, hlt⟩ | ⟨em, ed⟩
      · subst et
        rw [fr, hm] at hlt
        exact ⟨.inl hm, by rw [hm]; omega, hdm⟩
      · have z : (#[] : Array (Int × Value)).size = 0 := rfl
        rw [z] at em
        obtain ⟨a1, a2, a3⟩ := above_ok (n := (0 + eo.size) * 2) (by omega)
        exact ⟨em ▸ a1, by omega, ed⟩
    obtain ⟨hM1, hM2, hM3⟩ := hM
    have fr1 : tr1.fill = 0 := by
      have f := R1.fits
      unfold SetTable.fits at f
      rw [Bool.and_eq_true, beq_iff_eq] at f
      have f1 : tr1.place.size = 0 := f.1
      unfold SetTable.fill
      rw [hM3, f1]
      rfl
    refine wpAny_bind (wpAny_setState_of R1.obj rfl R1.fits ?_)
    dsimp only
    have led : w.params.followText "set-order" = true ∨ (tr1.led && to.led) = true := by
      rcases R1.led with z | z
      · exact .inl z
      · rcases O1.led with y | y
        · exact .inl y
        · exact .inr (by rw [z, y] <;> rfl)
    have er : tr1.road to = if (tr1.mask == to.mask && to.dummies.isEmpty) = true then .slotForSlot else .clean := if_neg (by rw [fr1]; simp)
    by_cases c : (tr1.mask == to.mask && to.dummies.isEmpty) = true
    · rw [er, if_pos c]
      dsimp only
      refine wpAny_storeSet_of R1.obj rfl ?_ (fits_of_scanBound O.few)
      refine hQ _ _ _ _ (O1.permTo (List.Perm.refl _) (store_at R1.obj rfl) ?_ O1.ris led) (List.Perm.refl _) (sb_trans sb1 (Heap.SameBut.update h1 r _))
      exact O1.fits
    · rw [er, if_neg c]
      dsimp only
      obtain ⟨t', order, e, hp, em, ed, el, eR, ez⟩ := laid_ok hM1 (hs := eo.map (·.1)) (by rw [Array.size_map]; exact hM2) tr1.finger tr1.moves (tr1.led && to.led) (tr1.plain && to.plain)
      rw [Array.size_map] at hp ez
      have p2 := order_perm hp
      have z2 := perm_size p2
      rw [e]
      refine wpAny_bind ?_
      refine wp_if_neg (c := ((order.filterMap (eo[·]?)).size != eo.size) = true) (by rw [z2]; simp) ?_
      try refine wpAny_bind (wpAny_pure ?_)
      refine wpAny_pure ?_
      dsimp only
      refine wpAny_storeSet_of R1.obj rfl ?_ (fits_of_scanBound (by rw [z2]; exact O.few))
      refine hQ _ _ _ _ (O1.permTo p2 (store_at R1.obj rfl) ?_ eR (by rw [el]; exact led)) p2 (sb_trans sb1 (Heap.SameBut.update h1 r _))
      unfold SetTable.fits SetTable.fill
      rw [ed, z2, ez, em, Bool.and_eq_true, beq_iff_eq, decide_eq_true_eq]
      exact ⟨rfl, by show eo.size + 0 ≤ _; omega⟩

/-! ### the words of the class -/
abbrev newObjOf (w : World) : Obj := { cls := .type "set", dict := none, data := .set #[] 0 (.fresh 0 0 (!w.params.followText "set-order")) }
theorem fresh_x (h : Heap) : SetX w (h.push (newObjOf w)) h.objs.size #[] 0 (.fresh 0 0 (!w.params.followText "set-order")) :=
  ⟨Heap.get?_push_size _ rfl, fun e he => by simp at he, by simp, by decide, rfl, List.Pairwise.nil, by
    show _ ∨ (!w.params.followText "set-order") = true
    cases w.params.followText "set-order" <;> simp⟩
theorem SetX.ty {h : Heap} {a : Addr} {es : Array (Int × Value)} {ep : Nat} {t : SetTable} (R : SetX w h a es ep t) {s : Shared} (e : s.heap = h) : s.TypeIs (.ref a) "set" :=
  ⟨_, by rw [e]; exact R.obj, rfl⟩
theorem base_x {a : Addr} {Q : Value → Shared → Prop} (hT : s.TypeIs (.ref a) "set") (q : Q (.type "set") s) : wpAny (model P w) A (Builtin.Frozenset.baseOf a) Q E s := by
  unfold Builtin.Frozenset.baseOf
  refine wpAny_bind (wpAny_isInstance (b := true) hT sub_set_self ?_)
  exact wpAny_pure q
theorem any_x {a : Addr} {Q : Bool → Shared → Prop} (hT : s.TypeIs (.ref a) "set") (q : Q true s) : wpAny (model P w) A (Builtin.Frozenset.isAnySet (.ref a)) Q E s := by
  unfold Builtin.Frozenset.isAnySet
  refine wpAny_bind (wpAny_isInstance (b := true) hT sub_set_self ?_)
  exact wpAny_pure q
theorem new_x {Q : Value → Shared → Prop} (q : Q (.ref s.heap.objs.size) { s with heap := s.heap.push (newObjOf w) }) : wpAny (model P w) A (newSet (.type "set")) Q E s := by
  unfold newSet
  refine wpAny_bind (wpAny_byText ?_)
  dsimp only
  simp only [newObj]
  exact wpAny_bind (wpAny_alloc (wpAny_pure q))
theorem size_x {a : Addr} {es : Array (Int × Value)} {ep : Nat} {t : SetTable} {Q : Nat → Shared → Prop} (R : SetX w s.heap a es ep t) (q : Q es.size s) : wpAny (model P w) A (Builtin.Frozenset.sizeOf a) Q E s := by
  unfold Builtin.Frozenset.sizeOf setEntries
  exact wpAny_bind (wpAny_bind (wpAny_setState_of R.obj rfl R.fits (wpAny_pure (wpAny_pure q))))
theorem unchanged_x {id : String} {a : Addr} {es : Array (Int × Value)} {ep : Nat} {t : SetTable} {Q : Unit → Shared → Prop} (R : SetX w s.heap a es ep t) (q : Q () s) : wpAny (model P w) A (Builtin.Frozenset.unchanged id a ep) Q E s := by
  unfold Builtin.Frozenset.unchanged
  refine wpAny_bind (wpAny_setEpoch_of R.obj rfl R.fits ?_)
  exact wp_if_neg (c := (ep != ep) = true) (by simp) (wpAny_pure q)

/-- heaps in which all is as it was but what is new -/
def Old (h h' : Heap) : Prop := ∀ b o, h.get? b = some o → h'.get? b = some o
theorem old_push (h : Heap) (o : Obj) : Old h (h.push o) := fun _ _ e => Heap.get?_push_of_some o e
theorem old_but {h h' : Heap} {o : Obj} (sb : Heap.SameBut h.objs.size (h.push o) h') : Old h h' := fun b u e => by
  rw [sb.2 b (Nat.ne_of_lt (Heap.lt_size e))]
  exact Heap.get?_push_of_some o e
theorem copy_x {a : Addr} {es : Array (Int × Value)} {ep : Nat} {t : SetTable} {Q : Value → Shared → Prop} (R : SetX w s.heap a es ep t) (h63 : es.size ≤ 63)
    (hQ : ∀ h' es' ep' t', SetX w h' s.heap.objs.size es' ep' t' → es'.toList.Perm es.toList → Heap.SameBut s.heap.objs.size (s.heap.push (newObjOf w)) h' → Q (.ref s.heap.objs.size) { s with heap := h' }) :
    wpAny (model P w) A (Builtin.Frozenset.copyOf a) Q E s := by
  unfold Builtin.Frozenset.copyOf
  refine wpAny_bind (base_x (R.ty rfl) ?_)
  refine wpAny_bind (new_x ?_)
  refine wpAny_bind (wpAny_pure ?_)
  have hne : a ≠ s.heap.objs.size := Nat.ne_of_lt (Heap.lt_size R.obj)
  refine wpAny_bind (merge_fresh (s := { s with heap := s.heap.push (newObjOf w) }) hne (fresh_x s.heap) rfl rfl (R.move fun o e => old_push _ _ _ _ e) h63 fun h' es' ep' t' X p sb => ?_)
  exact wpAny_pure (hQ h' es' ep' t' X p sb)
end
end Cs

set_option Elab.async false
set_option linter.all false
set_option maxRecDepth 100000
set_option maxHeartbeats 1000000
namespace Cs
open PySem PySem.Spec PyProof.Rows L2
section
variable {P : Program} {w : World} {A : Around} {E : Value → Shared → Prop} {s : Shared}
/-- adding those of a walk that a test lets in -/
theorem add_some {r : Addr} (C : Int → Bool) (f : (Int × Value) → PUnit → Sem (ForInStep PUnit)) (K : Shared → Prop) (hK : ∀ s1 h', Heap.SameBut r s1.heap h' → K s1 → K { s1 with heap := h' })
    (hf : ∀ e k tk s1 Q', e = (hashInt k, Value.int k tk) → K s1 → (C k = true → wpAny (model P w) A (setAddHashed r (.int k tk) (hashInt k)) (fun _ s2 => K s2 ∧ Q' (.yield ⟨⟩) s2) E s1) → (C k = false → Q' (.yield ⟨⟩) s1) →
      wpAny (model P w) A (f e ⟨⟩) Q' E s1)
    (ys : Array (Int × Value)) (g : ∀ e ∈ ys.toList, GoodE e) {S : Int → Bool} {n : Nat} (R : SetR w s.heap r S n) (hn : n + ys.size + 1 < scanBound) (hs : K s) {Q : PUnit → Shared → Prop}
    (hQ : ∀ h' S' n', SetR w h' r S' n' → (∀ k, S' k = true ↔ S k = true ∨ (k ∈ keys ys ∧ C k = true)) → n' ≤ n + ys.size → Heap.SameBut r s.heap h' → K { s with heap := h' } → Q ⟨⟩ { s with heap := h' }) :
    wpAny (model P w) A (forIn ys ⟨⟩ f) Q E s := by
  refine MeetsSeq2.wpAny_forIn_array f (fun rest _ s' => ∃ h' S' n', s' = { s with heap := h' } ∧ SetR w h' r S' n' ∧ (∀ k, (S' k = true ∨ (k ∈ rest.map keyOf ∧ C k = true)) ↔ (S k = true ∨ (k ∈ keys ys ∧ C k = true))) ∧ n' + rest.length ≤ n + ys.size ∧
    Heap.SameBut r s.heap h' ∧ K { s with heap := h' } ∧ ∀ e ∈ rest, GoodE e) Q ?turn ?fin ys ⟨⟩ ⟨s.heap, S, n, rfl, R, fun k => Iff.rfl, by rw [Array.length_toList]; exact Nat.le_refl _, Heap.SameBut.refl r s.heap, hs, g⟩
  case fin =>
    rintro ⟨⟩ s' ⟨h', S', n', rfl, R', m, l, sb, k, _⟩
    exact hQ h' S' n' R' (fun k => by simpa using m k) (by simpa using l) sb k
  case turn =>
    rintro e rest ⟨⟩ s' ⟨h', S', n', rfl, R', m, l, sb, kk, g'⟩
    obtain ⟨k, tk, e1, e2⟩ := g' e List.mem_cons_self
    obtain ⟨eh, ev⟩ := e
    simp only at e1 e2
    subst e1 e2
    rw [List.length_cons] at l
    refine hf _ k tk _ _ rfl kk (fun hc => ?_) (fun hc => ?_)
    · refine setR_add_hashed (s := { s with heap := h' }) R' (by omega) fun h2 sb2 R2 => ?_
      have k2 : K { s with heap := h2 } := hK { s with heap := h' } h2 sb2 kk
      refine ⟨k2, h2, _, _, rfl, R2, fun j => ?_, ?_, sb_trans sb sb2, k2, fun e he => g' e (List.mem_cons_of_mem _ he)⟩
      · rw [← m j, List.map_cons, List.mem_cons, Bool.or_eq_true, decide_eq_true_eq]
        show ((S' j = true ∨ j = k) ∨ _) ↔ (S' j = true ∨ ((j = k ∨ _) ∧ _))
        constructor
        · rintro ((z | z) | ⟨z, z2⟩)
          · exact .inl z
          · exact .inr ⟨.inl z, z ▸ hc⟩
          · exact .inr ⟨.inr z, z2⟩
        · rintro (z | ⟨z | z, z2⟩)
          · exact .inl (.inl z)
          · exact .inl (.inr z)
          · exact .inr ⟨z, z2⟩
      · have : (if S' k = true then n' else n' + 1) ≤ n' + 1 := by split <;> omega
        omega
    · refine ⟨h', S', n', rfl, R', fun j => ?_, by omega, sb, kk, fun e he => g' e (List.mem_cons_of_mem _ he)⟩
      rw [← m j, List.map_cons, List.mem_cons]
      show (S' j = true ∨ _) ↔ (S' j = true ∨ ((j = k ∨ _) ∧ _))
      constructor
      · rintro (z | ⟨z, z2⟩)
        · exact .inl z
        · exact .inr ⟨.inr z, z2⟩
      · rintro (z | ⟨z | z, z2⟩)
        · exact .inl z
        · rw [z, hc] at z2
          cases z2
        · exact .inr ⟨z, z2⟩

theorem find_x {a : Addr} {es : Array (Int × Value)} {ep : Nat} {t : SetTable} {k : Int} {tk : Tok} {Q : Option Nat → Shared → Prop} (R : SetX w s.heap a es ep t)
    (h : ∀ i : Option Nat, (i = none ∧ k ∉ keys es ∨ ∃ j, i = some j ∧ (keys es)[j]? = some k) → Q i s) : wpAny (model P w) A (setFind a (.int k tk) (hashInt k)) Q E s := by
  have hkey : (intKind P w).is k (.int k tk) = true := intKind_is P w k tk
  have hel : ElemsOf (intKind P w) es.toList := good_elems R.good
  unfold setFind setFindIn
  refine wpAny_bind (wpAny_setState_of R.obj rfl R.fits ?_)
  dsimp only
  rw [byScan_of (x := .int k tk) rfl R.few hel]
  simp only [↓reduceIte]
  refine wpAny_bind (wpAny_rule ?_)
  refine wpAny_bind (wpAny_setScan_of (knd := intKind P w) hkey R.obj rfl R.fits hel ?_)
  cases hr : List.findIdx? (fun e => (intKind P w).is k e.2) es.toList with
  | none =>
    dsimp only
    refine wpAny_pure (h none (.inl ⟨rfl, fun z => ?_⟩))
    obtain ⟨e, he, q⟩ := (good_mem (P := P) (w := w) R.good k).1 z
    have c := List.findIdx?_eq_none_iff.mp hr e he
    rw [q] at c
    cases c
  | some j =>
    dsimp only
    obtain ⟨hj, pj, _⟩ := List.findIdx?_eq_some_iff_getElem.mp hr
    refine wpAny_pure (h (some (0 + j)) (.inr ⟨0 + j, rfl, ?_⟩))
    rw [Nat.zero_add, List.getElem?_map, List.getElem?_eq_getElem hj]
    have := (good_is (P := P) (w := w) (R.good _ (List.getElem_mem hj)) k).1 pj
    exact congrArg some this
theorem found_x {a : Addr} {es : Array (Int × Value)} {ep : Nat} {t : SetTable} {k : Int} {tk : Tok} {Q : Option Nat → Shared → Prop} (R : SetX w s.heap a es ep t)
    (h : ∀ i : Option Nat, i.isSome = decide (k ∈ keys es) → Q i s) : wpAny (model P w) A (setFind a (.int k tk) (hashInt k)) Q E s := by
  refine find_x R fun i hi => h i ?_
  rcases hi with ⟨rfl, z⟩ | ⟨j, rfl, z⟩
  · simp [z]
  · have : k ∈ keys es := List.mem_of_getElem? z
    simp [this]

/-- a & b -/
theorem and_x {id : String} {a b : Addr} {ea eb : Array (Int × Value)} {pa pb : Nat} {ta tb : SetTable} {Q : Value → Shared → Prop} (hne : b ≠ a) (RA : SetX w s.heap a ea pa ta) (RB : SetX w s.heap b eb pb tb)
    (hl : ea.size ≤ 63) (hl2 : eb.size ≤ 63)
    (hQ : ∀ h' d' S n, SetR w h' s.heap.objs.size S n → (∀ k, S k = true ↔ k ∈ keys ea ∧ k ∈ keys eb) → n ≤ 63 → Old s.heap h' → Q (.ref s.heap.objs.size) { s with heap := h', drawn := d' }) :
    wpAny (model P w) A (Builtin.Frozenset.intersection id a (.ref b)) Q E s := by
  have hsb : scanBound = 4096 := rfl
  have na : a ≠ s.heap.objs.size := Nat.ne_of_lt (Heap.lt_size RA.obj)
  have nb : b ≠ s.heap.objs.size := Nat.ne_of_lt (Heap.lt_size RB.obj)
  unfold Builtin.Frozenset.intersection
  refine wp_if_neg (c := ((Value.ref b == Value.ref a) = true)) (by simpa using hne) ?_
  try refine wpAny_bind (wpAny_pure ?_)
  refine wpAny_bind (base_x (RA.ty rfl) ?_)
  refine wpAny_bind (new_x ?_)
  refine wpAny_bind (wpAny_pure ?_)
  have RA1 : SetX w (s.heap.push (newObjOf w)) a ea pa ta := RA.move fun o e => old_push _ _ _ _ e
  have RB1 : SetX w (s.heap.push (newObjOf w)) b eb pb tb := RB.move fun o e => old_push _ _ _ _ e
  have R1 := fresh_x (w := w) s.heap
  refine wpAny_bind (wpAny_holding ?_)
  refine wpAny_bind (any_x (RB1.ty rfl) ?_)
  refine wp_if_pos (c := (true = true)) rfl ?_
  refine wpAny_bind (wpAny_pure ?_)
  refine wpAny_bind (size_x (s := { s with heap := s.heap.push (newObjOf w) }) RB1 ?_)
  refine wpAny_bind (size_x (s := { s with heap := s.heap.push (newObjOf w) }) RA1 ?_)
  have key : ∀ (q v : Addr) (eq ev : Array (Int × Value)) (pq pv : Nat) (tq tv : SetTable), SetX w (s.heap.push (newObjOf w)) q eq pq tq → SetX w (s.heap.push (newObjOf w)) v ev pv tv → ev.size ≤ 63 → q ≠ s.heap.objs.size → v ≠ s.heap.objs.size →
      (∀ k, k ∈ keys ev ∧ k ∈ keys eq ↔ k ∈ keys ea ∧ k ∈ keys eb) → wpAny (model P w) A (do
        let was ← setEpoch v
        for (h, x) in ← setWalkUnseen v [q, s.heap.objs.size] (some s.heap.objs.size) do
          holding [x] do
            if (← setFind q x h).isSome then
              let _ ← setAddHashed s.heap.objs.size x h
          Builtin.Frozenset.unchanged id v was) (fun _ s' => wpAny (model P w) A (pure (Value.ref s.heap.objs.size)) Q E s') E { s with heap := s.heap.push (newObjOf w) } := by
    intro q v eq ev pq pv tq tv RQ RV hv nq nv hk
    refine wpAny_bind (wpAny_setEpoch_of RV.obj rfl RV.fits ?_)
    refine wpAny_bind (unseen_x (s := { s with heap := s.heap.push (newObjOf w) }) RV (fun c hc => ?_) R1 fun ys d h2 pf tf py sb2 R2 => ?_)
    · rcases List.mem_cons.mp hc with z | z
      · exact ⟨_, _, _, z ▸ RQ⟩
      · rw [List.mem_singleton.mp z]
        exact ⟨_, _, _, R1⟩
    have RQ2 := sx_other RQ sb2 nq
    have RV2 := sx_other RV sb2 nv
    have zy := perm_size py
    refine wpAny_bind (add_some (P := P) (A := A) (E := E) (s := { s with heap := h2, drawn := d }) (r := s.heap.objs.size) (fun k => decide (k ∈ keys eq)) _ (fun s1 => SetX w s1.heap q eq pq tq ∧ SetX w s1.heap v ev pv tv) (fun s1 h' sb k => ⟨sx_other k.1 sb nq, sx_other k.2 sb nv⟩) ?hf ys
      (fun e he => RV.good e (py.mem_iff.mp he)) (R2.toR (S := fun _ => false) (fun k => by simp) rfl) (by show 0 + ys.size + 1 < scanBound; omega) ⟨RQ2, RV2⟩ ?hQ)
    case hQ =>
      intro h3 S' n' R3 m3 l3 sb3 _
      refine wpAny_pure (wpAny_pure (hQ h3 d S' n' R3 (fun k => ?_) ?_ ?_))
      · rw [m3 k, keys_perm py k, decide_eq_true_iff, ← hk k]
        simp
      · have : n' ≤ 0 + ys.size := l3
        omega
      · exact old_but (sb_trans sb2 sb3)
    case hf =>
      intro e k tk s1 Q' ee kk h1 h0
      subst ee
      dsimp only
      refine wpAny_bind (wpAny_holding ?_)
      refine wpAny_bind (found_x kk.1 fun i hi => ?_)
      by_cases c : k ∈ keys eq
      · refine wp_if_pos (by rw [hi]; exact decide_eq_true c) ?_
        refine wpAny_bind (wpAny_mono (h1 (decide_eq_true c)) (fun b s2 hs2 => ?_) fun _ _ z => z)
        refine wpAny_pure ?_
        refine wpAny_bind (unchanged_x hs2.1.2 ?_)
        exact wpAny_pure hs2.2
      · refine wp_if_neg (by rw [hi]; simpa using c) ?_
        refine wpAny_pure ?_
        refine wpAny_bind (unchanged_x kk.2 ?_)
        exact wpAny_pure (h0 (decide_eq_false c))
  by_cases c : eb.size > ea.size
  · rw [if_pos c]
    exact key b a eb ea pb pa tb ta RB1 RA1 hl nb na (fun k => Iff.rfl)
  · rw [if_neg c]
    exact key a b ea eb pa pb ta tb RA1 RB1 hl2 na nb (fun k => And.comm)
end
end Cs

set_option Elab.async false
set_option linter.all false
set_option maxRecDepth 100000
set_option maxHeartbeats 1000000
namespace Cs
open PySem PySem.Spec PyProof.Rows L2
section
variable {P : Program} {w : World} {A : Around} {E : Value → Shared → Prop} {s : Shared}
theorem map_out {α β : Type} (f : α → β) : ∀ (l : List α) (i : Nat), (l.map f).eraseIdx i = (l.eraseIdx i).map f
  | [], i => by simp
  | x :: l, 0 => by simp
  | x :: l, i + 1 => by simp [map_out f l i]
/-- a | b -/
theorem union_x {id : String} {a b : Addr} {ea eb : Array (Int × Value)} {pa pb : Nat} {ta tb : SetTable} {Q : Unit → Shared → Prop} (hne : b ≠ a) (RA : SetX w s.heap a ea pa ta) (RB : SetX w s.heap b eb pb tb)
    (ha : ea.size ≠ 0 ∨ (ea = #[] ∧ ta.mask = 7 ∧ ta.dummies = #[])) (hl : (ea.size + eb.size) * 2 < 128)
    (hQ : ∀ h' d' S n, SetR w h' a S n → (∀ k, S k = true ↔ k ∈ keys ea ∨ k ∈ keys eb) → n ≤ ea.size + eb.size → Heap.SameBut a s.heap h' → Q () { s with heap := h', drawn := d' }) :
    wpAny (model P w) A (Builtin.Frozenset.updateFrom id a (.ref b)) Q E s := by
  unfold Builtin.Frozenset.updateFrom
  refine wpAny_bind (any_x (RB.ty rfl) ?_)
  refine wp_if_pos (c := (true = true)) rfl ?_
  refine wpAny_bind (wpAny_pure ?_)
  refine wpAny_bind (wpAny_setEpoch_of RB.obj rfl RB.fits ?_)
  rcases ha with ha | ⟨e0, em, ed⟩
  · refine merge_more hne RA RB ha hl (fun s' Q' k q => unchanged_x k q) fun h' d' S' n' R m l sb => ?_
    exact hQ h' d' S' n' R m l sb
  · subst e0
    have z0 : (#[] : Array (Int × Value)).size = 0 := rfl
    refine merge_fresh hne RA em ed RB (by omega) fun h' es' ep' t' X p sb => ?_
    have z := perm_size p
    exact hQ h' s.drawn _ _ (X.toR (S := fun k => decide (k ∈ keys es')) (fun k => decide_eq_true_iff) rfl) (fun k => by rw [decide_eq_true_iff, keys_perm p k]; simp) (by omega) sb

/-- what is struck out -/
theorem discard_x {a : Addr} {es : Array (Int × Value)} {ep : Nat} {t : SetTable} {k : Int} {tk : Tok} {Q : Bool → Shared → Prop} (R : SetX w s.heap a es ep t)
    (hQ : ∀ b h' es' ep' t', SetX w h' a es' ep' t' → (∀ j, j ∈ keys es' ↔ j ∈ keys es ∧ j ≠ k) → es'.size ≤ es.size → Heap.SameBut a s.heap h' → Q b { s with heap := h' }) :
    wpAny (model P w) A (setDiscardHashed a (.int k tk) (hashInt k)) Q E s := by
  unfold setDiscardHashed
  refine wpAny_bind (find_x R fun i hi => ?_)
  rcases hi with ⟨rfl, z⟩ | ⟨i, rfl, z⟩
  · exact wpAny_pure (hQ false s.heap es ep t R (fun j => ⟨fun q => ⟨q, fun e => z (e ▸ q)⟩, fun q => q.1⟩) (Nat.le_refl _) (Heap.SameBut.refl a s.heap))
  · dsimp only
    refine wpAny_bind (wpAny_setState_of R.obj rfl R.fits ?_)
    dsimp only
    have hf := R.fits
    unfold SetTable.fits SetTable.fill at hf
    rw [Bool.and_eq_true, beq_iff_eq, decide_eq_true_eq] at hf
    have hi : i < es.toList.length := by
      have := (List.getElem?_eq_some_iff.mp z).1
      rw [List.length_map] at this
      exact this
    have hi2 : i < t.place.size := by rw [hf.1, ← Array.length_toList]; exact hi
    have er : ∀ {α : Type} (xs : Array α), (SetTable.eraseAt xs i).toList = xs.toList.eraseIdx i := fun xs => by
      unfold SetTable.eraseAt
      rw [List.eraseIdx_eq_take_drop_succ]
      simp [List.extract_eq_take_drop, List.take_of_length_le]
    have ed : t.drop i = { t with place := SetTable.eraseAt t.place i, dummies := SetTable.insertAt t.dummies (SetTable.below t.dummies t.place[i]) t.place[i] } := by
      unfold SetTable.drop
      rw [Array.getElem?_eq_getElem hi2]
    have l1 : (SetTable.eraseAt es i).size + 1 = es.size := by
      rw [← Array.length_toList, er, List.length_eraseIdx, if_pos hi, Array.length_toList]
      rw [Array.length_toList] at hi
      omega
    have l2 : (SetTable.eraseAt t.place i).size + 1 = t.place.size := by
      rw [← Array.length_toList, er, List.length_eraseIdx, Array.length_toList, if_pos hi2]
      omega
    have l3 : ∀ p x, (SetTable.insertAt t.dummies p x).size = t.dummies.size + 1 := fun p x => by
      have := (SetTable.insertAt_perm t.dummies p x).length_eq
      rw [Array.length_toList, Array.length_toList, Array.size_push] at this
      exact this
    refine wpAny_bind (wpAny_storeSet_of R.obj rfl ?_ (fits_of_scanBound (by have := R.few; omega)))
    refine wpAny_bind (wpAny_point ?_)
    have ek : keys (SetTable.eraseAt es i) = (keys es).eraseIdx i := by
      show (SetTable.eraseAt es i).toList.map keyOf = _
      rw [er]
      exact (map_out keyOf es.toList i).symm
    have pk : (k :: (keys es).eraseIdx i).Perm (keys es) := erase_perm (keys es) i k z
    have nd : (k :: (keys es).eraseIdx i).Nodup := pk.nodup_iff.mpr R.nd
    refine wpAny_pure (hQ true _ _ _ _ ⟨store_at R.obj rfl, fun e he => R.good e ?_, ?_, ?_, ?_, ?_, ?_⟩ (fun j => ?_) (by omega) (Heap.SameBut.update s.heap a _))
    · rw [er] at he
      exact List.mem_of_mem_eraseIdx he
    · show (keys (SetTable.eraseAt es i)).Nodup
      rw [ek]
      exact (List.nodup_cons.mp nd).2
    · have := R.few
      omega
    · rw [ed]
      unfold SetTable.fits SetTable.fill
      rw [Bool.and_eq_true, beq_iff_eq, decide_eq_true_eq]
      simp only
      rw [l3]
      exact ⟨by omega, by omega⟩
    · rw [ed]
      show Ris (SetTable.eraseAt t.place i).toList
      rw [er]
      exact List.Pairwise.sublist (List.eraseIdx_sublist _ _) R.ris
    · rw [ed]
      exact R.led
    · rw [ek, ← (pk.mem_iff (a := j)), List.mem_cons]
      constructor
      · intro q
        exact ⟨.inr q, fun e => (List.nodup_cons.mp nd).1 (e ▸ q)⟩
      · rintro ⟨q | q, q2⟩
        · exact absurd q q2
        · exact q

theorem strike_all {r : Addr} (f : (Int × Value) → PUnit → Sem (ForInStep PUnit)) (K : Shared → Prop) (hK : ∀ s1 h', Heap.SameBut r s1.heap h' → K s1 → K { s1 with heap := h' })
    (hf : ∀ e k tk s1 Q', e = (hashInt k, Value.int k tk) → K s1 → (wpAny (model P w) A (setDiscardHashed r (.int k tk) (hashInt k)) (fun _ s2 => K s2 ∧ Q' (.yield ⟨⟩) s2) E s1) → wpAny (model P w) A (f e ⟨⟩) Q' E s1)
    (ys : Array (Int × Value)) (g : ∀ e ∈ ys.toList, GoodE e) {es : Array (Int × Value)} {ep : Nat} {t : SetTable} (R : SetX w s.heap r es ep t) (hs : K s) {Q : PUnit → Shared → Prop}
    (hQ : ∀ h' es' ep' t', SetX w h' r es' ep' t' → (∀ k, k ∈ keys es' ↔ k ∈ keys es ∧ k ∉ keys ys) → es'.size ≤ es.size → Heap.SameBut r s.heap h' → K { s with heap := h' } → Q ⟨⟩ { s with heap := h' }) :
    wpAny (model P w) A (forIn ys ⟨⟩ f) Q E s := by
  refine MeetsSeq2.wpAny_forIn_array f (fun rest _ s' => ∃ h' es' ep' t', s' = { s with heap := h' } ∧ SetX w h' r es' ep' t' ∧ (∀ k, (k ∈ keys es' ∧ k ∉ rest.map keyOf) ↔ (k ∈ keys es ∧ k ∉ keys ys)) ∧ es'.size ≤ es.size ∧
    Heap.SameBut r s.heap h' ∧ K { s with heap := h' } ∧ ∀ e ∈ rest, GoodE e) Q ?turn ?fin ys ⟨⟩ ⟨s.heap, es, ep, t, rfl, R, fun k => Iff.rfl, Nat.le_refl _, Heap.SameBut.refl r s.heap, hs, g⟩
  case fin =>
    rintro ⟨⟩ s' ⟨h', es', ep', t', rfl, R', m, l, sb, k, _⟩
    exact hQ h' es' ep' t' R' (fun k => by simpa using m k) l sb k
  case turn =>
    rintro e rest ⟨⟩ s' ⟨h', es', ep', t', rfl, R', m, l, sb, kk, g'⟩
    obtain ⟨k, tk, e1, e2⟩ := g' e List.mem_cons_self
    obtain ⟨eh, ev⟩ := e
    simp only at e1 e2
    subst e1 e2
    refine hf _ k tk _ _ rfl kk ?_
    refine discard_x (s := { s with heap := h' }) R' fun b h2 es2 ep2 t2 R2 m2 l2 sb2 => ?_
    have k2 : K { s with heap := h2 } := hK { s with heap := h' } h2 sb2 kk
    refine ⟨k2, h2, _, _, _, rfl, R2, fun j => ?_, by omega, sb_trans sb sb2, k2, fun e he => g' e (List.mem_cons_of_mem _ he)⟩
    rw [← m j, List.map_cons, List.mem_cons, m2 j]
    show ((j ∈ keys es' ∧ j ≠ k) ∧ _) ↔ (j ∈ keys es' ∧ ¬ (j = k ∨ _))
    constructor
    · rintro ⟨⟨z1, z2⟩, z3⟩
      exact ⟨z1, fun z => z.elim z2 z3⟩
    · rintro ⟨z1, z2⟩
      exact ⟨⟨z1, fun z => z2 (.inl z)⟩, fun z => z2 (.inr z)⟩

theorem tidy_x {a : Addr} {es : Array (Int × Value)} {ep : Nat} {t : SetTable} {Q : Unit → Shared → Prop} (R : SetX w s.heap a es ep t) (hl : es.size ≤ 31)
    (hQ : ∀ h' es' ep' t', SetX w h' a es' ep' t' → es'.toList.Perm es.toList → Heap.SameBut a s.heap h' → Q () { s with heap := h' }) :
    wpAny (model P w) A (setTidy a) Q E s := by
  unfold setTidy
  refine wpAny_bind (wpAny_setState_of R.obj rfl R.fits ?_)
  dsimp only
  have eg : SetTable.grown es.size = es.size * 4 := if_neg (by omega)
  split
  · rw [eg]
    exact relay_x R (by omega) (by omega) fun h' es' t' sb X p _ _ _ => hQ h' es' _ t' X p sb
  · exact wpAny_pure (hQ s.heap es ep t R (List.Perm.refl _) (Heap.SameBut.refl a s.heap))
end
end Cs

set_option Elab.async false
set_option linter.all false
set_option maxRecDepth 100000
set_option maxHeartbeats 2000000
namespace Cs
open PySem PySem.Spec PyProof.Rows L2
section
variable {P : Program} {w : World} {A : Around} {E : Value → Shared → Prop} {s : Shared}
/-- a - b -/
theorem sub_x {id : String} {a b : Addr} {ea eb : Array (Int × Value)} {pa pb : Nat} {ta tb : SetTable} {Q : Value → Shared → Prop} (hne : b ≠ a) (RA : SetX w s.heap a ea pa ta) (RB : SetX w s.heap b eb pb tb)
    (hl : ea.size ≤ 31) (hl2 : eb.size ≤ 63)
    (hQ : ∀ h' d' S n, SetR w h' s.heap.objs.size S n → (∀ k, S k = true ↔ k ∈ keys ea ∧ k ∉ keys eb) → n ≤ 31 → Old s.heap h' → Q (.ref s.heap.objs.size) { s with heap := h', drawn := d' }) :
    wpAny (model P w) A (Builtin.Frozenset.difference id a (.ref b)) Q E s := by
  have hsb : scanBound = 4096 := rfl
  have na : a ≠ s.heap.objs.size := Nat.ne_of_lt (Heap.lt_size RA.obj)
  have nb : b ≠ s.heap.objs.size := Nat.ne_of_lt (Heap.lt_size RB.obj)
  unfold Builtin.Frozenset.difference
  dsimp only
  refine wpAny_bind (any_x (RB.ty rfl) ?_)
  refine wp_if_neg (c := ((!true) = true)) (by simp) ?_
  try refine wpAny_bind (wpAny_pure ?_)
  try refine wpAny_bind (wpAny_pure ?_)
  refine wp_if_neg (c := ((!true && b == sysModules) = true)) (by simp) ?_
  try refine wpAny_bind (wpAny_pure ?_)
  refine wp_if_pos (c := (true = true)) rfl ?_
  refine wpAny_bind (size_x RB ?_)
  refine wpAny_bind (size_x RA ?_)
  by_cases c : ea.size / 4 > eb.size
  · refine wp_if_pos c ?_
    refine wpAny_bind (wpAny_rule ?_)
    refine wpAny_bind (copy_x RA (by omega) fun h1 es1 ep1 t1 X1 p1 sb1 => ?_)
    have z1 := perm_size p1
    have RB1 : SetX w h1 b eb pb tb := RB.move fun o e => old_but sb1 _ _ e
    refine wpAny_bind (wpAny_pure ?_)
    refine wpAny_bind (wpAny_holding ?_)
    unfold Builtin.Frozenset.differenceUpdate
    refine wp_if_neg (c := ((Value.ref b == Value.ref s.heap.objs.size) = true)) (by simpa using nb) ?_
    try refine wpAny_bind (wpAny_pure ?_)
    refine wpAny_bind (any_x (RB1.ty rfl) ?_)
    refine wp_if_pos (c := (true = true)) rfl ?_
    refine wpAny_bind (wpAny_pure ?_)
    dsimp only
    refine wpAny_bind (size_x (s := { s with heap := h1 }) RB1 ?_)
    refine wpAny_bind (size_x (s := { s with heap := h1 }) X1 ?_)
    refine wp_if_neg (by omega) ?_
    try refine wpAny_bind (wpAny_pure ?_)
    refine wpAny_bind (wpAny_setEpoch_of RB1.obj rfl RB1.fits ?_)
    refine wpAny_bind (wpAny_holding ?_)
    refine wpAny_bind (unseen_n (s := { s with heap := h1 }) RB1 (fun x hx => by rw [List.mem_singleton.mp hx]; exact ⟨_, _, _, X1⟩) fun ys d py => ?_)
    refine wpAny_bind (strike_all (P := P) (A := A) (E := E) (s := { s with heap := h1, drawn := d }) (r := s.heap.objs.size) _ (fun s1 => SetX w s1.heap b eb pb tb) (fun s1 h' sb k => sx_other k sb nb) ?hf ys
      (fun e he => RB.good e (py.mem_iff.mp he)) X1 RB1 ?hQ)
    case hf =>
      intro e k tk s1 Q' ee kk hwp
      subst ee
      dsimp only
      refine wpAny_bind (wpAny_holding (wpAny_mono hwp (fun b s2 hs2 => ?_) fun _ _ z => z))
      obtain ⟨k2, q2⟩ := hs2
      refine wpAny_bind (unchanged_x k2 ?_)
      exact wpAny_pure q2
    case hQ =>
      intro h2 es2 ep2 t2 X2 m2 l2 sb2 _
      refine wpAny_pure ?_
      refine tidy_x (s := { s with heap := h2, drawn := d }) X2 (by omega) fun h3 es3 ep3 t3 X3 p3 sb3 => ?_
      have z3 := perm_size p3
      refine wpAny_pure (hQ h3 d _ _ (X3.toR (S := fun k => decide (k ∈ keys es3)) (fun k => decide_eq_true_iff) rfl) (fun k => ?_) (by omega) ?_)
      · rw [decide_eq_true_iff, keys_perm p3 k, m2 k, keys_perm p1 k, keys_perm py k]
      · exact old_but (sb_trans sb1 (sb_trans sb2 sb3))
  · refine wp_if_neg c ?_
    try refine wpAny_bind (wpAny_pure ?_)
    refine wpAny_bind (base_x (RA.ty rfl) ?_)
    refine wpAny_bind (new_x ?_)
    refine wpAny_bind (wpAny_pure ?_)
    have RA1 : SetX w (s.heap.push (newObjOf w)) a ea pa ta := RA.move fun o e => old_push _ _ _ _ e
    have RB1 : SetX w (s.heap.push (newObjOf w)) b eb pb tb := RB.move fun o e => old_push _ _ _ _ e
    have R1 := fresh_x (w := w) s.heap
    refine wpAny_bind (wpAny_setEpoch_of RA1.obj rfl RA1.fits ?_)
    refine wpAny_bind (wpAny_holding ?_)
    refine wpAny_bind (wp_if_pos (c := (true = true)) rfl ?_)
    refine unseen_x (s := { s with heap := s.heap.push (newObjOf w) }) RA1 (fun x hx => ?_) R1 fun ys d h2 pf tf py sb2 R2 => ?_
    · rcases List.mem_cons.mp hx with z | z
      · exact ⟨_, _, _, z ▸ RB1⟩
      · rw [List.mem_singleton.mp z]
        exact ⟨_, _, _, R1⟩
    have RA2 := sx_other RA1 sb2 na
    have RB2 := sx_other RB1 sb2 nb
    have zy := perm_size py
    refine wpAny_bind (add_some (P := P) (A := A) (E := E) (s := { s with heap := h2, drawn := d }) (r := s.heap.objs.size) (fun k => decide (k ∉ keys eb)) _ (fun s1 => SetX w s1.heap b eb pb tb ∧ SetX w s1.heap a ea pa ta)
      (fun s1 h' sb k => ⟨sx_other k.1 sb nb, sx_other k.2 sb na⟩) ?hf ys
      (fun e he => RA.good e (py.mem_iff.mp he)) (R2.toR (S := fun _ => false) (fun k => by simp) rfl) (by show 0 + ys.size + 1 < scanBound; omega) ⟨RB2, RA2⟩ ?hQ)
    case hQ =>
      intro h3 S' n' R3 m3 l3 sb3 _
      refine wpAny_pure (wpAny_pure (hQ h3 d S' n' R3 (fun k => ?_) ?_ ?_))
      · rw [m3 k, keys_perm py k, decide_eq_true_iff]
        simp
      · have : n' ≤ 0 + ys.size := l3
        omega
      · exact old_but (sb_trans sb2 sb3)
    case hf =>
      intro e k tk s1 Q' ee kk h1 h0
      subst ee
      dsimp only
      refine wpAny_bind (wpAny_holding ?_)
      refine wp_if_pos (c := (true = true)) rfl ?_
      refine wpAny_bind (found_x kk.1 fun i hi => ?_)
      refine wpAny_bind (wpAny_pure ?_)
      try refine wpAny_bind (wpAny_pure ?_)
      by_cases c : k ∈ keys eb
      · refine wp_if_neg (by rw [hi]; simp [c]) ?_
        refine wpAny_pure ?_
        refine wpAny_bind (unchanged_x kk.2 ?_)
        exact wpAny_pure (h0 (by simp [c]))
      · refine wp_if_pos (by rw [hi]; simp [c]) ?_
        refine wpAny_bind (wpAny_mono (h1 (decide_eq_true c)) (fun b s2 hs2 => ?_) fun _ _ z => z)
        refine wpAny_pure ?_
        refine wpAny_bind (unchanged_x hs2.1.2 ?_)
        exact wpAny_pure hs2.2
end
end Cs

set_option Elab.async false
set_option linter.all false
set_option maxRecDepth 100000
set_option maxHeartbeats 2000000
namespace Cs
open PySem PySem.Spec PyProof.Rows L2
theorem entry_and : entryFor table "set.__and__" = some Builtin.«frozenset.__and__» := entryFor_alias (id' := "frozenset.__and__") (by kernel_rfl) rfl (by decide +kernel) (by kernel_rfl)
theorem entry_or : entryFor table "set.__or__" = some Builtin.«frozenset.__or__» := entryFor_alias (id' := "frozenset.__or__") (by kernel_rfl) rfl (by decide +kernel) (by kernel_rfl)
theorem entry_sub : entryFor table "set.__sub__" = some Builtin.«frozenset.__sub__» := entryFor_alias (id' := "frozenset.__sub__") (by kernel_rfl) rfl (by decide +kernel) (by kernel_rfl)
end Cs

set_option Elab.async false
set_option linter.all false
set_option maxRecDepth 100000
set_option maxHeartbeats 2000000
namespace Cs
open PySem PySem.Spec PyProof.Rows L2
section
variable {P : Program} {w : World} {A : Around} {E : Value → Shared → Prop} {s : Shared}
theorem slot1_x {name : String} {v u : Value} {Q : Value × Value → Shared → Prop} (q : Q (v, u) s) : wpAny (model P w) A (Builtin.Frozenset.slot1 name ⟨[v, u], []⟩) Q E s := by
  unfold Builtin.Frozenset.slot1 slotArgs
  exact wpAny_pure q
theorem op_and_x {a b : Addr} {SA SB : Int → Bool} {na nb : Nat} {Q : Value → Shared → Prop} (hne : b ≠ a) (RA : SetR w s.heap a SA na) (RB : SetR w s.heap b SB nb) (hl : na ≤ 63) (hl2 : nb ≤ 63)
    (hQ : ∀ h' d' S n, SetR w h' s.heap.objs.size S n → (∀ k, S k = true ↔ SA k = true ∧ SB k = true) → n ≤ 63 → Old s.heap h' → Q (.ref s.heap.objs.size) { s with heap := h', drawn := d' }) :
    wpAny (model P w) A (binaryOp .BitAnd (.ref a) (.ref b)) Q E s := by
  obtain ⟨ea, pa, ta, XA, mA, zA⟩ := xOf RA
  obtain ⟨eb, pb, tb, XB, mB, zB⟩ := xOf RB
  have TA : s.TypeIs (.ref a) "set" := XA.ty rfl
  have TB : s.TypeIs (.ref b) "set" := XB.ty rfl
  refine wpAny_binaryOp_same (op := .BitAnd) TA TB F.fills_set_and F.slot_set_and ?_
  refine wpAny_call_entry F.slot_set_and TA entry_and ?_ (F.args_set_and_2 _ _)
  refine wpAny_bind (slot1_x ?_)
  dsimp only
  refine wpAny_bind (wpAny_bind (any_x TA ?_))
  show wpAny _ _ (Builtin.Frozenset.isAnySet (.ref b)) _ _ _
  refine any_x TB ?_
  refine wp_if_neg (c := ((!true) = true)) (by simp) ?_
  refine wpAny_bind (wpAny_pure ?_)
  refine wpAny_bind (and_x hne XA XB (by omega) (by omega) fun h' d' S n R m l o => ?_)
  refine wpAny_pure ⟨_, rfl, (fun z => nomatch z), hQ h' d' S n R (fun k => ?_) l o⟩
  rw [m k, mA k, mB k]
theorem op_or_x {a b : Addr} {SA SB : Int → Bool} {na nb : Nat} {Q : Value → Shared → Prop} (hne : b ≠ a) (RA : SetR w s.heap a SA na) (RB : SetR w s.heap b SB nb) (hl : na + nb ≤ 63)
    (hQ : ∀ h' d' S n, SetR w h' s.heap.objs.size S n → (∀ k, S k = true ↔ SA k = true ∨ SB k = true) → n ≤ na + nb → Old s.heap h' → Q (.ref s.heap.objs.size) { s with heap := h', drawn := d' }) :
    wpAny (model P w) A (binaryOp .BitOr (.ref a) (.ref b)) Q E s := by
  obtain ⟨ea, pa, ta, XA, mA, zA⟩ := xOf RA
  obtain ⟨eb, pb, tb, XB, mB, zB⟩ := xOf RB
  have TA : s.TypeIs (.ref a) "set" := XA.ty rfl
  have TB : s.TypeIs (.ref b) "set" := XB.ty rfl
  have hbs : b ≠ s.heap.objs.size := Nat.ne_of_lt (Heap.lt_size XB.obj)
  refine wpAny_binaryOp_same (op := .BitOr) TA TB F.fills_set_or F.slot_set_or ?_
  refine wpAny_call_entry F.slot_set_or TA entry_or ?_ (F.args_set_or_2 _ _)
  refine wpAny_bind (slot1_x ?_)
  dsimp only
  refine wpAny_bind (wpAny_bind (any_x TA ?_))
  show wpAny _ _ (Builtin.Frozenset.isAnySet (.ref b)) _ _ _
  refine any_x TB ?_
  refine wp_if_neg (c := ((!true) = true)) (by simp) ?_
  refine wpAny_bind (wpAny_pure ?_)
  refine wpAny_bind ?_
  by_cases he : ea = #[]
  · subst he
    refine wpAny_bind (m := Builtin.Frozenset.copyOf a) ?_
    unfold Builtin.Frozenset.copyOf
    refine wpAny_bind (base_x TA ?_)
    refine wpAny_bind (new_x ?_)
    refine wpAny_bind (wpAny_pure ?_)
    have hae : a ≠ s.heap.objs.size := Nat.ne_of_lt (Heap.lt_size XA.obj)
    have XA1 : SetX w (s.heap.push (newObjOf w)) a #[] pa ta := XA.move fun o e => old_push _ _ _ _ e
    have XB1 : SetX w (s.heap.push (newObjOf w)) b eb pb tb := XB.move fun o e => old_push _ _ _ _ e
    refine wpAny_bind ?_
    unfold setMerge
    refine wp_if_neg (c := (s.heap.objs.size == a) = true) (by simpa using hae.symm) ?_
    try refine wpAny_bind (wpAny_pure ?_)
    refine wpAny_bind (wpAny_setState_of XA1.obj rfl XA1.fits ?_)
    dsimp only
    refine wp_if_pos (c := (#[] : Array (Int × Value)).isEmpty = true) rfl ?_
    refine wpAny_pure (wpAny_pure ?_)
    refine wp_if_pos (c := ((Value.ref b != Value.ref a) = true)) (by simpa using hne) ?_
    refine wpAny_bind (wpAny_pure ?_)
    have z0 : (#[] : Array (Int × Value)).size = 0 := rfl
    refine wpAny_bind (wpAny_holding (union_x (s := { s with heap := s.heap.push (newObjOf w) }) hbs (fresh_x s.heap) XB1 (.inr ⟨rfl, rfl, rfl⟩) (by omega) fun h' d' S n R m l sb => ?_))
    refine wpAny_pure (wpAny_pure ⟨_, rfl, (fun z => nomatch z), hQ h' d' S n R (fun k => ?_) (by omega) (old_but sb)⟩)
    rw [m k, mA k, mB k]
  · have hz : ea.size ≠ 0 := fun z => he (by simpa using z)
    refine wpAny_bind (m := Builtin.Frozenset.copyOf a) (copy_x XA (by omega) fun h1 es1 ep1 t1 X1 p1 sb1 => ?_)
    have z1 := perm_size p1
    have XB1 : SetX w h1 b eb pb tb := XB.move fun o e => old_but sb1 _ _ e
    refine wp_if_pos (c := ((Value.ref b != Value.ref a) = true)) (by simpa using hne) ?_
    refine wpAny_bind (wpAny_pure ?_)
    refine wpAny_bind (wpAny_holding (union_x (s := { s with heap := h1 }) hbs X1 XB1 (.inl (by omega)) (by omega) fun h' d' S n R m l sb => ?_))
    refine wpAny_pure (wpAny_pure ⟨_, rfl, (fun z => nomatch z), hQ h' d' S n R (fun k => ?_) (by omega) (old_but (sb_trans sb1 sb))⟩)
    rw [m k, keys_perm p1 k, mA k, mB k]
theorem op_sub_x {a b : Addr} {SA SB : Int → Bool} {na nb : Nat} {Q : Value → Shared → Prop} (hne : b ≠ a) (RA : SetR w s.heap a SA na) (RB : SetR w s.heap b SB nb) (hl : na ≤ 31) (hl2 : nb ≤ 63)
    (hQ : ∀ h' d' S n, SetR w h' s.heap.objs.size S n → (∀ k, S k = true ↔ SA k = true ∧ SB k = false) → n ≤ 31 → Old s.heap h' → Q (.ref s.heap.objs.size) { s with heap := h', drawn := d' }) :
    wpAny (model P w) A (binaryOp .Sub (.ref a) (.ref b)) Q E s := by
  obtain ⟨ea, pa, ta, XA, mA, zA⟩ := xOf RA
  obtain ⟨eb, pb, tb, XB, mB, zB⟩ := xOf RB
  have TA : s.TypeIs (.ref a) "set" := XA.ty rfl
  have TB : s.TypeIs (.ref b) "set" := XB.ty rfl
  refine wpAny_binaryOp_same (op := .Sub) TA TB F.fills_set_sub F.slot_set_sub ?_
  refine wpAny_call_entry F.slot_set_sub TA entry_sub ?_ (F.args_set_sub_2 _ _)
  refine wpAny_bind (slot1_x ?_)
  dsimp only
  refine wpAny_bind (wpAny_bind (any_x TA ?_))
  show wpAny _ _ (Builtin.Frozenset.isAnySet (.ref b)) _ _ _
  refine any_x TB ?_
  refine wp_if_neg (c := ((!true) = true)) (by simp) ?_
  refine wpAny_bind (wpAny_pure ?_)
  refine wpAny_bind (sub_x hne XA XB (by omega) (by omega) fun h' d' S n R m l o => ?_)
  refine wpAny_pure ⟨_, rfl, (fun z => nomatch z), hQ h' d' S n R (fun k => ?_) l o⟩
  rw [m k, mA k, ← mB k]
  simp
end
end Cs

set_option Elab.async false
set_option linter.all false
set_option maxRecDepth 100000
set_option maxHeartbeats 3200000
namespace Cs
open PySem PySem.Spec PyProof.Rows L2
section
variable {P : Program} {w : World} {A : Around} {E : Value → Shared → Prop} {s : Shared}
/-- set(l), l a list of ints: made empty, then its items one by one -/
theorem set_of_list {l : Addr} {items : Array Value} (ns : List Int) {Q : Value → Shared → Prop} (quiet : A.handled = none) (isl : s.heap.IsList l items) (hints : IntsAre items.toList ns) (room : ns.length + 1 < scanBound)
    (fin : ∀ (h' : Heap) (tk c : Nat), SetR w h' s.heap.objs.size (fun j => decide (j ∈ ns)) c → c ≤ ns.length → Old s.heap h' → Q (.ref s.heap.objs.size) { s with heap := h', toks := tk }) :
    wpAny (model P w) A (call (.type "set") [.ref l]) Q E s := by
  have many : items.size = ns.length := (Array.length_toList (xs := items)).symm.trans (IntsAre.length hints)
  have cs := F.called_set
  obtain ⟨mc, mt, mro⟩ := cs.mro
  have made := cs.made
  have under := cs.sub
  refine wpAny_call (codeAny_of_tree ?_)
  show wpAny _ _ (callAny (.type "set") ⟨[.ref l], []⟩) _ _ _
  refine wpAny_pure ⟨Code.quiet_builtin _ (by decide +kernel), ?_⟩
  refine codeAny_builtin F.entry_type_call ?_
  rw [Around.under_plain (weight_type_call_type "set" [Value.ref l] []) rfl]
  have k1 := cs.notType
  have k2 := cs.canCreate
  have k3 := F.typeCall_set_1 (.ref l)
  repeat (any_goals (first | assumption | wp_step))
  refine codeAny_mono (code_set_led1 (.ref l) (E := E) (Q₁ := fun o z => o = .ref s.heap.objs.size ∧ z = { s with heap := s.heap.push (newObjOf w) }) ⟨rfl, rfl⟩) fun r z hz => ?_
  cases r with
  | error e => exact hz
  | ok fl =>
    cases fl with
    | ret o =>
      obtain ⟨rfl, rfl⟩ := hz
      have here : (s.heap.push (newObjOf w)).get? s.heap.objs.size = some (newObjOf w) := Heap.get?_push_size _ rfl
      have ty : Shared.TypeIs { s with heap := s.heap.push (newObjOf w) } (.ref s.heap.objs.size) "set" := ⟨_, here, rfl⟩
      have k4 := cs.init.lookup
      have k5 := cs.init.bind (.ref s.heap.objs.size)
      repeat (any_goals (first | assumption | wp_step))
      refine codeAny_mono (codeAny_call_builtin (R := wants (fun r y => r = .none ∧ ∃ h' tk c, y = { s with heap := h', toks := tk } ∧ SetR w h' s.heap.objs.size (fun j => decide (j ∈ ns)) c ∧ c ≤ ns.length ∧ Old s.heap h') E)
        cs.init.plain F.entry_set_init (check_set_init_1 ty ?_)) fun r2 y hy => ?_
      · obtain ⟨⟨oc, od, oda, osl⟩, lo, lc, ln, ld⟩ := isl
        simp only at lc ld
        subst lc ld
        have isl2 : (s.heap.push (newObjOf w)).IsList l items := ⟨_, Heap.get?_push_of_some _ lo, rfl, ln, rfl⟩
        have ll : l < s.heap.objs.size := Heap.lt_size lo
        have isl3 := Heap.get?_push_of_some (newObjOf w) lo
        have n1 := PySem.F.sub_list_set
        have n2 := PySem.F.sub_list_frozenset
        have n3 : (Value.type "list" == Value.type "dict") = false := by decide
        unfold Builtin.«set.__init__» noKeywords Builtin.Frozenset.updateFrom
        generalize hp : pyIter = iterOf
        wp_walk
        subst hp
        refine wpAny_pyIter_list isl2 ?_
        refine wpAny_bind (wpAny_runValue ?_)
        have q3 : A.in1.in1.in1.handled = none := by simp [quiet]
        have sz : (s.heap.push (newObjOf w)).objs.size = s.heap.objs.size + 1 := Heap.size_push ..
        have apart : l ≠ (s.heap.push (newObjOf w)).objs.size := by
          rw [sz]
          exact Nat.ne_of_lt (Nat.lt_succ_of_lt ll)
        have away : s.heap.objs.size ∉ [(s.heap.push (newObjOf w)).objs.size, l] := by
          rw [sz]
          simp only [List.mem_cons, List.not_mem_nil, or_false, not_or]
          exact ⟨Nat.ne_of_lt (Nat.lt_succ_self _), Nat.ne_of_gt ll⟩
        have val : ∀ (i : Nat) (v : Value), items[i]? = some v → ∃ k t, ns[i]? = some k ∧ v = .int k t := fun i v hv => by
          have hi : i < ns.length := by rw [← many]; exact (Array.getElem?_eq_some_iff.mp hv).1
          obtain ⟨t, e⟩ := IntsAre.int_at hints i v (by rw [Array.getElem?_toList]; exact hv)
          exact ⟨ns[i], t, List.getElem?_eq_getElem hi, by rw [e, List.getD_eq_getElem?_getD, List.getElem?_eq_getElem hi] <;> rfl⟩
        refine set_update_ints ((Walks.list q3 _ l apart items).toS) s.heap.objs.size away ns many room val (items.size - 0) 0 _ (by omega) (Nat.zero_le _) ⟨⟨_, Heap.get?_push_size _ rfl, rfl, rfl⟩, (isl2.push _)⟩ ?start ?stop
        case start => exact ⟨0, Nat.le_refl 0, setR_new_at (Heap.get?_push_of_some _ here)⟩
        case stop =>
          intro s2 c2 hm hc hS
          obtain ⟨h2, g2, d2, t2, o2⟩ := s2
          have eg : g2 = s.gens := hm.gens
          have ed : d2 = s.drawn := hm.drawn
          have eo : o2 = s.os := hm.os
          subst eg ed eo
          show wpAny _ _ _ _ _ _
          refine wpAny_pure ?_
          show wpAny _ _ (ret Value.none) _ _ _
          refine wpAny_pure ⟨rfl, h2, t2, c2, rfl, hS, by omega, fun b u e => ?_⟩
          have hb := Heap.lt_size e
          refine hm.heap b u ?_ (Heap.get?_push_of_some _ (Heap.get?_push_of_some _ e))
          rw [sz]
          simp only [List.mem_cons, List.not_mem_nil, or_false, not_or]
          exact ⟨Nat.ne_of_lt hb, Nat.ne_of_lt (Nat.lt_succ_of_lt hb)⟩
      · cases r2 with
        | error e => exact hy
        | ok f2 =>
          cases f2 with
          | ret r =>
            obtain ⟨rfl, h', tk, c, rfl, hS, hc, old⟩ := hy
            repeat (any_goals (first | assumption | wp_step))
            exact fin h' tk c hS hc old
          | _ => exact hy.elim
    | _ => exact hz.elim
end
end Cs

set_option Elab.async false
set_option linter.all false
set_option maxRecDepth 100000
set_option maxHeartbeats 2000000
namespace Cs
open PySem PySem.Spec PyProof.Rows L2
section
variable {X : Cx}
/-- set(l) -/
def rSetI (K : PySem.W.Frag) (w : World) : List V → Hp → VK → Prop := fun xs H Q => ∃ (l : Addr) (ns : List Int), xs = [V.ref l] ∧ SqL K H l (ns.map V.int) ∧ ns.length ≤ 4000 ∧
  ∀ (p : Addr) (c : Nat), H p = none → c ≤ ns.length → Q (.ref p) (upd H p (SetO w p (fun j => decide (j ∈ ns)) c))
theorem cr_setI (hc : X.calm = true) : CallR X (.type "set") (rSetI X.K X.w) := by
  intro pins s σ H xs us Q I r h
  obtain ⟨l, ns, rfl, hq, hl, q⟩ := h
  rw [Vals.ref1 r]
  obtain ⟨its, rv, pl, hz⟩ := I.list hq
  refine set_of_list ns (I.ok.hd hc) pl.isList (by simpa using ints_of_vals rv) (by have : scanBound = 4096 := rfl; omega) fun h' tk c hS hcn old => ?_
  exact ⟨.ref _, upd H s.heap.objs.size (SetO X.w s.heap.objs.size (fun j => decide (j ∈ ns)) c), I.laid (t' := tk) old (Nat.le_refl _) (setO_new hS), rfl, q _ c (I.hok.fresh (Nat.le_refl _)) hcn⟩
theorem laidD {pins : List (Addr × Obj)} {σ : L2.St} {H : Hp} {s : Shared} {h' : Heap} {d' : Drawn} {S : Int → Bool} {n : Nat} (I : Inv X pins σ H s) (old : Old s.heap h') (R : SetR X.w h' s.heap.objs.size S n) :
    Inv X pins σ (upd H s.heap.objs.size (SetO X.w s.heap.objs.size S n)) { s with heap := h', drawn := d' } :=
  I.call (ch := []) (g' := s.gens) (t' := s.toks) (Un.laid old (Nat.le_refl _) (I.hok.fresh (Nat.le_refl _))) (I.hok.laid old (Nat.le_refl _) (setO_new R)) I.bare (fun _ z => nomatch z)
/-- a & b, a | b, a - b of two sets of ints -/
def rSetOp (w : World) (most : Nat → Nat → Prop) (mem : (Int → Bool) → (Int → Bool) → Int → Prop) : V → V → Hp → VK → Prop := fun x y H Q => ∃ (a b : Addr) (SA SB : Int → Bool) (na nb : Nat), x = V.ref a ∧ y = V.ref b ∧ b ≠ a ∧
  H a = some (SetO w a SA na) ∧ H b = some (SetO w b SB nb) ∧ most na nb ∧
  ∀ (p : Addr) (S : Int → Bool) (n : Nat), H p = none → (∀ k, S k = true ↔ mem SA SB k) → n ≤ 63 → Q (.ref p) (upd H p (SetO w p S n))
abbrev mAnd : Nat → Nat → Prop := fun na nb => na ≤ 63 ∧ nb ≤ 63
abbrev mOr : Nat → Nat → Prop := fun na nb => na + nb ≤ 63
abbrev mSub : Nat → Nat → Prop := fun na nb => na ≤ 31 ∧ nb ≤ 63
abbrev eAnd : (Int → Bool) → (Int → Bool) → Int → Prop := fun A B k => A k = true ∧ B k = true
abbrev eOr : (Int → Bool) → (Int → Bool) → Int → Prop := fun A B k => A k = true ∨ B k = true
abbrev eSub : (Int → Bool) → (Int → Bool) → Int → Prop := fun A B k => A k = true ∧ B k = false
theorem op_sand : OpR X (binaryOp .BitAnd) (rSetOp X.w mAnd eAnd) := by
  intro pins s σ H x y v u Q I rx ry h
  obtain ⟨a, b, SA, SB, na, nb, rfl, rfl, hne, ha, hb, hm, q⟩ := h
  cases rx
  cases ry
  exact op_and_x hne (setO_get I ha) (setO_get I hb) hm.1 hm.2 fun h' d' S n R m l old => ⟨.ref _, _, laidD I old R, rfl, q _ S n (I.hok.fresh (Nat.le_refl _)) m l⟩
theorem op_sor : OpR X (binaryOp .BitOr) (rSetOp X.w mOr eOr) := by
  intro pins s σ H x y v u Q I rx ry h
  obtain ⟨a, b, SA, SB, na, nb, rfl, rfl, hne, ha, hb, hm, q⟩ := h
  cases rx
  cases ry
  have hm' : na + nb ≤ 63 := hm
  exact op_or_x hne (setO_get I ha) (setO_get I hb) hm fun h' d' S n R m l old => ⟨.ref _, _, laidD I old R, rfl, q _ S n (I.hok.fresh (Nat.le_refl _)) m (by omega)⟩
theorem op_ssub : OpR X (binaryOp .Sub) (rSetOp X.w mSub eSub) := by
  intro pins s σ H x y v u Q I rx ry h
  obtain ⟨a, b, SA, SB, na, nb, rfl, rfl, hne, ha, hb, hm, q⟩ := h
  cases rx
  cases ry
  exact op_sub_x hne (setO_get I ha) (setO_get I hb) hm.1 hm.2 fun h' d' S n R m l old => ⟨.ref _, _, laidD I old R, rfl, q _ S n (I.hok.fresh (Nat.le_refl _)) m (by omega)⟩
/-- len(s) of a set of ints: none where it has no members -/
def rLenSet (w : World) : List V → Hp → VK → Prop := fun xs H Q => ∃ (a : Addr) (S : Int → Bool) (n : Nat), xs = [V.ref a] ∧ H a = some (SetO w a S n) ∧ (∀ c : Nat, (c = 0 ↔ ∀ k, S k = false) → Q (.int (c : Int)) H)
theorem call_len_sI : CallR X (.builtin "len") (rLenSet X.w) := by
  intro pins s σ H xs us Q I r h
  obtain ⟨a, S, n, rfl, ha, q⟩ := h
  rw [Vals.ref1 r]
  obtain ⟨es, ep, t, R, m, hn⟩ := xOf (setO_get I ha)
  refine call_len_set R.obj ⟨rfl, rfl, rfl⟩ rfl R.fits (by have := R.few; have : scanBound = 4096 := rfl; omega) ⟨.int (es.size : Nat), H, I.tok _, ⟨_, rfl⟩, q _ ?_⟩
  constructor
  · intro z k
    have e : es = #[] := by simpa using z
    subst e
    cases c : S k with
    | false => rfl
    | true => exact absurd ((m k).1 c) (by simp)
  · intro z
    cases c : es.toList with
    | nil =>
      rw [← Array.length_toList, c]
      rfl
    | cons e r =>
      have : S (keyOf e) = true := (m _).2 (by rw [c]; simp)
      rw [z] at this
      cases this
end
end Cs

set_option Elab.async false
set_option linter.all false
set_option maxRecDepth 100000
set_option maxHeartbeats 2000000
/-! != of two lists whose items are equal, deep -/
namespace Cs
open PySem PySem.Spec PyProof.Rows L2
open AutoSeq1 (wpAny_loadPart')
open MeetsSeq MeetsSeq2 MeetsSeq3 SeqRoads2 SeqAt
section
variable {prog : Program} {w : World}
abbrev seqO (us : Array Value) (n : Nat) (dd : Option Addr) (sl : Array (Option Value)) : Obj := { cls := .type "list", dict := dd, data := .seq us n, slots := sl }
abbrev AllP (prog : Program) (w : World) (A : Around) (s : Shared) (us ws : Array Value) : Prop := ∀ j (h1 : j < us.size) (h2 : j < ws.size), EqP prog w A s us[j] ws[j] true
theorem ne_stepP (a c : Addr) (us ws : Array Value) (n m : Nat) (d1 d2 : Option Addr) (s1 s2 : Array (Option Value)) (eq : us.size = ws.size) :
    ∀ (k i : Nat), us.size - i = k → MeetsIn prog w (Builtin.«list.__eq__.loop» ⟨[.ref a, .ref c, rawInt i, rawInt 3], []⟩)
      (fun A R s => s.heap.get? a = some (seqO us n d1 s1) ∧ s.heap.get? c = some (seqO ws m d2 s2) ∧ AllP prog w A.in1 s us ws ∧ R (.ok (.ret (.bool false))) s) := by
  intro k
  induction k with
  | zero =>
    intro i le A R s h
    obtain ⟨hp, g, d, tk, os⟩ := s
    obtain ⟨ha, hc, _, q⟩ := h
    wp_walk using wpAny_loadPart' ha, wpAny_loadPart' hc
    rw [show us[((i : Nat) : Int).toNat]? = none by simp; omega, show ws[((i : Nat) : Int).toNat]? = none by simp; omega]
    wp_walk using wpAny_loadPart' ha, wpAny_loadPart' hc
    show R (.ok (.ret (.bool (us.size != ws.size)))) _
    rw [eq]
    simpa using q
  | succ k ih =>
    intro i le A R s h
    obtain ⟨hp, g, d, tk, os⟩ := s
    obtain ⟨ha, hc, al, q⟩ := h
    have i1 : i < us.size := by omega
    have i2 : i < ws.size := by omega
    wp_walk using wpAny_loadPart' ha, wpAny_loadPart' hc
    rw [show us[((i : Nat) : Int).toNat]? = some us[i] by simp [i1], show ws[((i : Nat) : Int).toNat]? = some ws[i] by simp [i2]]
    refine wpAny_bind (al i i1 i2 _ _ ?_)
    wp_walk
    rw [show ((i : Int) + 1) = ((i + 1 : Nat) : Int) by push_cast; rfl]
    refine ⟨plainId_quiet plain_eq_loop _, codeAny_builtin entry_eq_loop ?_⟩
    rw [Around.under_plainId plain_eq_loop _]
    exact ih (i + 1) (by omega) A R _ ⟨ha, hc, al, q⟩
theorem ne_listP (a c : Addr) (us ws : Array Value) (n m : Nat) (d1 d2 : Option Addr) (s1 s2 : Array (Option Value)) (eq : us.size = ws.size) :
    MeetsIn prog w (Builtin.«list.__ne__» ⟨[.ref a, .ref c], []⟩)
      (fun A R s => s.heap.get? a = some (seqO us n d1 s1) ∧ s.heap.get? c = some (seqO ws m d2 s2) ∧ AllP prog w A.in1 s us ws ∧ R (.ok (.ret (.bool false))) s) := by
  intro A R s h
  obtain ⟨hp, g, d, tk, os⟩ := s
  obtain ⟨ha, hc, al, q⟩ := h
  have sub := AutoSeq1.sub_list_list
  have same : ¬ (us.size != ws.size) = true := by simp [eq]
  wp_walk using wpAny_loadPart' ha, wpAny_loadPart' hc
  refine ⟨plainId_quiet plain_eq_loop _, codeAny_builtin entry_eq_loop ?_⟩
  rw [Around.under_plainId plain_eq_loop _]
  exact ne_stepP a c us ws n m d1 d2 s1 s2 eq _ 0 rfl A R _ ⟨ha, hc, al, q⟩
theorem rc_neP {A : Around} {s : Shared} {a c : Addr} {us ws : Array Value} (ha : s.heap.IsList a us) (hc : s.heap.IsList c ws) (eq : us.size = ws.size) (hu : A.units < cLine)
    (al : AllP prog w A.in1 s us ws) (E Q : Value → Shared → Prop) (q : Q (.bool false) s) : wpAny (model prog w) A (richCompare .NotEq (.ref a) (.ref c)) Q E s := by
  obtain ⟨⟨c1, d1, x1, s1⟩, o1, e1, n, f1⟩ := id ha
  obtain ⟨⟨c2, d2, x2, s2⟩, o2, e2, m, f2⟩ := id hc
  simp only at e1 f1 e2 f2
  subst e1 f1 e2 f2
  have ta : s.TypeIs (.ref a) "list" := ⟨_, o1, rfl⟩
  have tc : s.TypeIs (.ref c) "list" := ⟨_, o2, rfl⟩
  exact wpAny_richCompare_same_room (op := .NotEq) ta tc F.slot_list_ne (call_meetsIn F.slot_list_ne ta F.entry_list_ne (F.args_list_ne_2 _ _) (ne_listP a c us ws n m d1 d2 s1 s2 eq)
    ⟨o1, o2, al, show Value.bool false ≠ Value.notImplemented ∧ Q (.bool false) s from ⟨(fun x => nomatch x), q⟩⟩) hu
end
section
variable {X : Cx}
/-- a != b, two lists that are equal -/
def rNeV (K : PySem.W.Frag) : R2 := fun x y H Q => ∃ a b xs ys, x = .ref a ∧ y = .ref b ∧ SqL K H a xs ∧ SqL K H b ys ∧ (∃ n, n ≤ 60 ∧ Paired (EqV K H n) xs ys) ∧ Q (.bl false) H
theorem op_neV (hu : X.A.units + 64 < cLine) : OpR X (compareOp .NotEq) (rNeV X.K) := by
  intro pins s σ H x y v u Q I rx ry h
  obtain ⟨a, b, xs, ys, rfl, rfl, ha, hb, ⟨n, hn, hp⟩, q⟩ := h
  cases (show v = Value.ref a from rx)
  cases (show u = Value.ref b from ry)
  obtain ⟨us, r1, p1, _⟩ := I.list ha
  obtain ⟨ws, r2, p2, _⟩ := I.list hb
  have hsz : us.toArray.size = ws.toArray.size := by
    rw [List.size_toArray, List.size_toArray, ← r1.length, ← r2.length]
    exact Paired.length hp
  refine rc_neP p1.isList p2.isList hsz (by omega) (fun j h1 h2 => ?_) _ _ ⟨.bl false, H, I, rfl, q⟩
  have k := items_run (eqV_run I n X.A.in1 (by show X.A.units + 1 + n < cLine; omega)) hp r1 r2 j (by simpa using h1) (by simpa using h2)
  simpa using k
end
end Cs

set_option Elab.async false
set_option linter.all false
set_option maxRecDepth 100000
set_option maxHeartbeats 4000000
/-! Sets of keys by a comprehension: {x for .. in ..}, the members ints or texts. -/
namespace Cs
open PySem PySem.Spec PyProof.Rows L2 PpSet
section
variable {X : Cx}
abbrev noK : Key → Bool := fun _ => false
abbrev withK (S : Key → Bool) (k : Key) : Key → Bool := fun j => S j || decide (j = k)
/-- one member more -/
theorem addK {pins : List (Addr × Obj)} {σ : L2.St} {H : Hp} {s : Shared} {E : Value → Shared → Prop} {D : Addr} {S : Key → Bool} {n : Nat} {k : Key} {u : Value} {Q : Value → Shared → Prop} (I : Inv X pins σ H s) (at_ : H D = some (SetK X.prog X.w D S n)) (few : n + 1 < scanBound) (r : RelV (kV k) u)
    (q : ∀ s', Inv X pins σ (upd H D (SetK X.prog X.w D (withK S k) (if S k = true then n else n + 1))) s' → Q .none s') : wpAny (model X.prog X.w) X.A (call (.builtin "set.add") [.ref D, u]) Q E s :=
  call_set_add (kV_is r) (key_scan r) (setK_get I at_) few fun h' sb new => q _ (I.write (e := D) (t' := s.toks + 1) (by rw [at_]; trivial) (.inl rfl) (fun b o hb ho => (sb.2 b hb).trans ho) (let ⟨o, _, _, _, ho, _⟩ := new; ⟨o, ho⟩) (setK_new new))
/-- what a comprehension asks: its walk, and a set that grows -/
def tScK (P : Program) (w : World) (wi : TI) (g : TG) (tt : TT) (te : TE) (vs : List Nat) : TE := fun σ H Q => wi σ H fun J H1 => ∀ D, H1 D = none → ∃ W : Nat → Nat → Hp → Prop, (∃ m, W 0 m (upd H1 D (SetK P w D noK 0))) ∧ ∀ i m H, W i m H →
  (J.stop i H ∧ Q (.ref D) H) ∨ (J.go i H ∧ ∃ Nx : Hp → Prop, (∀ H', Nx H' → ∃ m', m' < m ∧ W (i + 1) m' H') ∧ ∀ x H', J.yld i H x H' → g x (wipe σ vs) H' fun σ2 H2 => wipe σ2 vs = wipe σ vs ∧ tt σ2 H2 fun b H3 =>
    if b = true then te σ2 H3 fun y H4 => ∃ (k : Key) (S : Key → Bool) (n : Nat), y = kV k ∧ H4 D = some (SetK P w D S n) ∧ n + 1 < scanBound ∧ Nx (upd H4 D (SetK P w D (withK S k) (if S k = true then n else n + 1))) else Nx H3)
theorem scK_core {pins : List (Addr × Obj)} {s : Shared} {σ : L2.St} {H : Hp} {Q : VK} {el tg it : Expr} {cs : List Expr} {scope : Scope} {own : List (PySem.Str × Nat)} {pos pos' : Pos} {wi : TI} {g : TG} {tt : TT} {te : TE} {use : Option (Value → Sem Unit)} {Qf : Value → Shared → Prop}
    (hc : X.calm = true) (hN : X.N.Nodup) (I : Inv X pins σ H s) (hi : PI X tg it wi) (ok : BlkOk X.N X.env.scope scope own)
    (hg : ∀ (s : Shared) (H : Hp) (C : Addr) (cl : List (PySem.Str × Addr)) (fp : List Addr), PG (X.blk s H scope (compEnvC scope cl C X.env) fp) tg g)
    (ht : ∀ (s : Shared) (H : Hp) (C : Addr) (cl : List (PySem.Str × Addr)) (fp : List Addr), PTs (X.blk s H scope (compEnvC scope cl C X.env) fp) cs tt)
    (he : ∀ (s : Shared) (H : Hp) (C : Addr) (cl : List (PySem.Str × Addr)) (fp : List Addr), PE (X.blk s H scope (compEnvC scope cl C X.env) fp) el te)
    (hs : ∀ x, foldedSetIterable it X.env x = pure x) (h : tScK X.prog X.w wi g tt te (own.map (·.2)) σ H Q)
    (done : ∀ D C s' m H', Inv X pins σ H' s' → Q (.ref D) H' → s'.heap.Ns C m → FpOk X pins H' C → compPost (model X.prog X.w) X.A X.xe use Qf (.ref D) C (.ok .next) s') :
    wpAny (model X.prog X.w) X.A (comprehension (.SetComp el [⟨tg, it, cs, 0⟩] scope pos) scope X.env pos' (newSet (.type "set")) false (eval it X.env) use) Qf X.xe s := by
  refine wpAny_comprehension_free (use := use) rfl hs (closure_ok fun y hy e => (ok.free y hy e).elim (fun k => I.ok.has _ (.inl k)) fun k => I.ok.has _ (.inr k)) ok.kind (fun y hy e => by rw [ok.uniq y hy, e])
    (thn (hi.run pins s σ H _ I h) fun xv s1 hx => thn hx fun itv s2 ⟨ia, fp, tn, J, H2, eq, I2, T, st2, f2, q⟩ => ?_)
  subst eq
  refine newSet_ok (newEnv_comp ?_)
  generalize eD : s2.heap.objs.size = D
  have free : H2 D = none := I2.hok.fresh (Nat.le_of_eq eD)
  obtain ⟨W, ⟨m0, w0⟩, turn⟩ := q D free
  generalize e3 : ({ s2 with heap := s2.heap.push { cls := .type "set", dict := none, data := .set #[] 0 (.fresh 0 0 (!X.w.params.followText "set-order")) } } : Shared) = s3
  have heap3 : s3.heap = s2.heap.push { cls := .type "set", dict := none, data := .set #[] 0 (.fresh 0 0 (!X.w.params.followText "set-order")) } := by rw [← e3]
  have I3 : Inv X pins σ (upd H2 D (SetK X.prog X.w D noK 0)) s3 := by
    rw [← e3, ← eD]
    exact I2.laid (t' := s2.toks) (fun b o e => Heap.get?_push_of_some _ e) (Nat.le_refl _) (setK_new ⟨_, #[], 0, _, Heap.get?_push_size _ rfl, ⟨rfl, rfl, rfl⟩, rfl, (fun e he => by simp at he), (fun k => by simp), (by decide), (by rfl), rfl⟩)
  have below : ∀ b ∈ fp, b < s2.heap.objs.size := fun b hb => let ⟨o, e, _⟩ := T.obj _ _ st2 b hb; Heap.lt_size e
  have f3 : ∀ b ∈ fp, FpOk X pins (upd H2 D (SetK X.prog X.w D noK 0)) b ∧ b < s3.heap.objs.size := fun b hb =>
    ⟨⟨by rw [upd_ne (by rw [← eD]; exact Nat.ne_of_lt (below b hb))]; exact (f2 b hb).1, (f2 b hb).2⟩, by rw [heap3, Heap.size_push]; exact Nat.lt_succ_of_lt (below b hb)⟩
  have I4 := block_start I3 ok hN f3
  have pg := hg s3 (upd H2 D (SetK X.prog X.w D noK 0)) s3.heap.objs.size (cellsFrom (s3.heap.objs.size + 1) scope.names (cloFrom X.env.cells scope.names [])) fp
  have pt := ht s3 (upd H2 D (SetK X.prog X.w D noK 0)) s3.heap.objs.size (cellsFrom (s3.heap.objs.size + 1) scope.names (cloFrom X.env.cells scope.names [])) fp
  have pe := he s3 (upd H2 D (SetK X.prog X.w D noK 0)) s3.heap.objs.size (cellsFrom (s3.heap.objs.size + 1) scope.names (cloFrom X.env.cells scope.names [])) fp
  show codeAny _ _ (.compStart (.SetComp el [⟨tg, it, cs, 0⟩] scope pos) 0 (.ref ia) (.ref D) (compEnvC scope (cellsFrom (s3.heap.objs.size + 1) scope.names (cloFrom X.env.cells scope.names [])) s3.heap.objs.size X.env)) (compPost (model X.prog X.w) X.A X.xe use Qf (.ref D) s3.heap.objs.size) { s3 with heap := pushCells (s3.heap.push { cls := .type "dict", data := .dict #[] }) scope.names }
  have none3 : ∀ b ∈ fp, (upd H2 D (SetK X.prog X.w D noK 0)) b = none := fun b hb => (f3 b hb).1.1
  generalize ec : compEnvC scope (cellsFrom (s3.heap.objs.size + 1) scope.names (cloFrom X.env.cells scope.names [])) s3.heap.objs.size X.env = ce at I4 pg pt pe ⊢
  have loc : ce.locals = s3.heap.objs.size := by subst ec; rfl
  generalize upd H2 D (SetK X.prog X.w D noK 0) = H3 at I3 I4 pg pt pe w0 none3 f3
  generalize e4 : ({ s3 with heap := pushCells (s3.heap.push { cls := .type "dict", data := .dict #[] }) scope.names } : Shared) = s4 at I4 ⊢
  have st3 : tn 0 s3.heap := T.keep _ _ _ st2 fun b _ o e => by rw [heap3]; exact Heap.get?_push_of_some _ e
  have st4 : tn 0 s4.heap := T.keep _ _ _ st3 fun b _ o e => by rw [← e4]; exact pushCells_keeps _ _ _ _ (Heap.get?_push_of_some _ e)
  have still : ∀ {σ' : L2.St} {H' : Hp} {s' : Shared}, Inv (X.blk s3 H3 scope ce fp) [] σ' H' s' → (∀ b ∈ fp, H' b = none) → ∀ b ∈ fp, FpOk (X.blk s3 H3 scope ce fp) [] H' b := fun I' hn b hb =>
    ⟨hn b hb, (I'.ok.exf b hb).1, I'.ok.exfs b hb, .inl hb, fun x c e => (I'.ok.exf b hb).2 x c e, fun p hp => absurd (show p ∈ ([] : List (Addr × Obj)) ++ [] from hp) (by simp)⟩
  have loop : codeAny (model X.prog X.w) X.A (.compLoop (.SetComp el [⟨tg, it, cs, 0⟩] scope pos) 0 (.ref ia) (.ref D) ce) (compPost (model X.prog X.w) X.A X.xe use Qf (.ref D) s3.heap.objs.size) s4 := by
    refine compLoopS_any (fun n s' => ∃ i H', Inv (X.blk s3 H3 scope ce fp) [] (wipe σ (own.map (·.2))) H' s' ∧ tn i s'.heap ∧ (∀ b ∈ fp, H' b = none) ∧ W i n H') ?_ m0 ⟨0, H3, I4, st4, none3, w0⟩
    rintro n s5 ⟨i, H5, I5, st5, n5, w5⟩
    rcases turn i n H5 w5 with ⟨stop, last⟩ | ⟨go, Nx, next, step⟩
    · refine thnF (T.done (X.blk s3 H3 scope ce fp) rfl rfl rfl hc i [] s5 _ H5 (fun _ _ => False) I5 (still I5 n5) st5 stop) fun r s6 ⟨er, I6⟩ => ?_
      subst er
      have unused : H5 ce.locals = none := I6.free
      obtain ⟨m, ns, _⟩ := I6.loc
      have ns : s6.heap.Ns ce.locals m := ns
      rw [loc] at ns unused
      exact done D s3.heap.objs.size s6 m H5 (I3.call' (ch := fp) I6.os I6.base I6.hok I6.bare fun b hb => ⟨(f3 b hb).1.2.2.2.1, (f3 b hb).1.2.1, (f3 b hb).1.2.2.2.2.1, (f3 b hb).1.2.2.2.2.2⟩) last ns (I3.fpOk (Nat.le_refl _) unused)
    · refine thnF (T.item (X.blk s3 H3 scope ce fp) rfl rfl rfl hc i [] s5 _ H5 (fun _ _ => False) I5 (still I5 n5) st5 go) fun r s6 ⟨u, er, h6⟩ => ?_
      subst er
      refine thnF h6 fun _ s7 ⟨x, H7, I7, r7, y7, st7, n7⟩ => ?_
      refine thnF (pg.run _ s7 _ H7 x u _ (I7.pinned (still I7 n7) (T.obj _ _ st7)) r7 (step x H7 y7)) fun _ s8 ⟨σ8, H8, I8, w8, q8⟩ => ?_
      refine thnF (pt.run _ s8 σ8 H8 _ I8 q8) fun b s9 ⟨H9, I9, q9⟩ => ?_
      have round : ∀ {s' : Shared} {H' : Hp}, Inv (X.blk s3 H3 scope ce fp) ([] ++ pinsAt fp s7.heap) σ8 H' s' → Nx H' → ∃ m, m < n ∧ ∃ i H', Inv (X.blk s3 H3 scope ce fp) [] (wipe σ (own.map (·.2))) H' s' ∧ tn i s'.heap ∧ (∀ b ∈ fp, H' b = none) ∧ W i m H' := fun {s' H'} I' nx => by
        obtain ⟨m', lt, w'⟩ := next H' nx
        have held : ∀ b ∈ fp, ∀ o, s7.heap.get? b = some o → s'.heap.get? b = some o ∧ H' b = none := fun b hb o e => let z := I'.pin (b, o) (List.mem_append_right _ (List.mem_append_right _ (mem_pinsAt hb e))); ⟨z.1, z.2.1⟩
        refine ⟨m', lt, i + 1, H', (I'.unpinned (pins := [])).weak (by rw [← w8, wipe_length]) (fun j v e => ?_), T.keep _ _ _ st7 fun b hb o e => (held b hb o e).1, fun b hb => ?_, w'⟩
        · rw [← w8] at e
          exact (wipe_some e).1
        · obtain ⟨o, e, _⟩ := T.obj _ _ st7 b hb
          exact (held b hb o e).2
      cases b with
      | false =>
        simp only [Bool.false_eq_true, if_false] at q9 ⊢
        exact round I9 q9
      | true =>
        simp only [if_true] at q9 ⊢
        refine thnF (pe.run _ s9 σ8 H9 _ I9 q9) fun z s10 ⟨y, H10, I10, r10, k, S, n0, ey, at10, few, nx⟩ => ?_
        subst ey
        exact addK (X := X.blk s3 H3 scope ce fp) I10 at10 few r10 fun s11 I11 => round I11 nx
  exact codeAny_compStart_set loop (T.self X.A 0 _ _ _ st4 loop)
/-- name = {..} on one line, the name a local -/
theorem ps_setScK {i : Nat} {y : Str} {py : Pos} {el tg it : Expr} {cs : List Expr} {scope : Scope} {own : List (PySem.Str × Nat)} {pos spos : Pos} {wi : TI} {g : TG} {tt : TT} {te : TE} (hc : X.calm = true) (hN : X.N.Nodup) (hy : X.N[i]? = some y) (hyl : X.env.scope.names.lookup y = some .local)
    (hsw : swapsWith (.SetComp el [⟨tg, it, cs, 0⟩] scope pos) (some (.Name y py)) spos.line X.env = pure true) (hi : PI X tg it wi) (ok : BlkOk X.N X.env.scope scope own)
    (hg : ∀ (s : Shared) (H : Hp) (C : Addr) (cl : List (PySem.Str × Addr)) (fp : List Addr), PG (X.blk s H scope (compEnvC scope cl C X.env) fp) tg g)
    (ht : ∀ (s : Shared) (H : Hp) (C : Addr) (cl : List (PySem.Str × Addr)) (fp : List Addr), PTs (X.blk s H scope (compEnvC scope cl C X.env) fp) cs tt)
    (he : ∀ (s : Shared) (H : Hp) (C : Addr) (cl : List (PySem.Str × Addr)) (fp : List Addr), PE (X.blk s H scope (compEnvC scope cl C X.env) fp) el te)
    (hs : ∀ x, foldedSetIterable it X.env x = pure x := by intro _; rfl) :
    PS X (.Assign [.Name y py] (.SetComp el [⟨tg, it, cs, 0⟩] scope pos) spos) (tAsg (tScK X.prog X.w wi g tt te (own.map (·.2))) (gName i)) := by
  refine ⟨fun pins s σ H D I h => ?_⟩
  rw [exec_Assign_Name_used _ _ _ _ hsw]
  refine wpAny_bind (wpAny_standAt (wpAny_bind ?_))
  show wpAny _ X.A (do let _ ← comprehension (.SetComp el [⟨tg, it, cs, 0⟩] scope pos) scope X.env (firstIterPos [⟨tg, it, cs, 0⟩] pos) (newSet (.type "set")) false (eval it X.env) (some (assign (.Name y py) X.env))) _ _ s
  have h : tScK X.prog X.w wi g tt te (own.map (·.2)) σ H (fun x H1 => gName i x σ H1 D.nx) := h
  refine wpAny_bind (thn (scK_core (Qf := fun _ s' => SP X pins D .next s') hc hN I hi ok hg ht he hs h fun L C s' m H' I' q hn f => ?_) fun _ s' hq => wpAny_pure (wpAny_pure hq))
  obtain ⟨f0, f1, f2, f3, f4, f5⟩ := f
  show wpAny _ _ (assign (.Name y py) X.env (.ref L)) _ _ _
  refine wpAny_assign_Name (store_ok2 (v := V.ref L) I' hN hy (.inl hyl) rfl (fun s2 I2 ⟨a, sb, ha⟩ => ?_) (.inr hyl))
  have apart : C ≠ a := ha.elim (fun z => z ▸ f1) fun z e => f4 y a z e.symm
  exact ⟨m, hn.sameBut sb apart, fun h3 sb3 => ⟨_, H', I2.turned (t' := s2.toks) (fun b o hb e => (sb3.2 b hb).trans e) f0 f1 f3 f4 f5, q⟩⟩
end
end Cs

set_option Elab.async false
set_option linter.all false
set_option maxRecDepth 100000
set_option maxHeartbeats 4000000
/-! Exceptions of own classes with fields: made, raised while a dict is walked, caught, asked for their class. -/
namespace CsX
open PySem PySem.Spec PyProof.Rows L2
/-- a block that is not reached -/
theorem pss_any {X : Cx} {l : List Stmt} : PSs X l (fun _ _ _ => False) := ⟨fun _ _ _ _ _ _ h => h.elim⟩
/-- a raise while the thing at d is locked -/
theorem Takes.lock {X : Cx} {W : WX} {d : Addr} (tk : Takes X W) (hn : ∀ o' u', X.H_0 d ≠ some (.frz o' u')) : Takes X (fun cls dd σ H => ∃ od u, H d = some (.frz od u) ∧ W cls dd σ (upd H d u)) :=
  fun u s' ⟨a, B, sI, pins, σ, H, cls, dd, e, I, nb, up, sky, na, os, ag, od, uu, hd, w⟩ =>
    tk u s' ⟨a, B, sI, pins, σ, upd H d uu, cls, dd, e, I.unlock hd hn, nb, up, sky, (by rw [upd_ne (fun z => by rw [z, hd] at na; cases na)]; exact na), os, ag, w⟩
/-- __init__(self, f): self.f = f -/
def spIni (C : Addr) (f : Str) : Sp := fun vs H Q _ => ∃ (a : Addr) (v : V), vs = [.ref a, v] ∧ H a = some (exo a C none) ∧
  ∀ dx, H dx = none → dx ≠ a → Q .non (upd (upd H dx (exd dx [(f, v)])) a (exo a C (some dx)))
/-- __init__(self, f, g): self.f = f; self.g = g -/
def spIni2 (C : Addr) (f g : Str) : Sp := fun vs H Q _ => ∃ (a : Addr) (v u : V), vs = [.ref a, v, u] ∧ H a = some (exo a C none) ∧
  ∀ dx, H dx = none → dx ≠ a → Q .non (upd (upd (upd H dx (exd dx [(f, v)])) a (exo a C (some dx))) dx (exd dx [(g, u), (f, v)]))
/-- what the top has written of an own error with the fields fs, its __init__ at fI -/
structure Own (K : PySem.W.Frag) (mg : Str → Option Value) (x : Str) (C fI : Addr) (fs : List Str) : Prop where
  gC : mg x = some (.ref C)
  oex : OexC K C
  xf : XfC K C
  no : ∀ f ∈ fs, PySem.W.findIn K (.ref C) f = some none
  iC : PySem.W.findIn K (.ref C) "__init__" = some (some (.ref fI))
  tI : PySem.W.typeIn K (.ref fI) = some (.type "function")
  ex : ExcC K C
  te : PySem.W.exmOne K (.ref C) (.ref C) = some true
theorem same_upd {H : Hp} {p : Addr} {o : HO} (h : H p = none) : Same H (upd H p o) := fun b x e => by
  rw [upd_ne (ne_of_none e h)]
  exact e
/-- what is asked of C(v) -/
theorem mk_one {C : Addr} {f : Str} {H1 : Hp} {v : V} {Q : XK} (h : ∀ d H2, H1 d = none → Same H1 H2 → H2 d = some (.xd [(f, v)]) → Q (.ref C) (some d) H2) :
    [v].length ≤ 1000 ∧ ∀ a, H1 a = none → spIni C f (V.ref a :: ([v] ++ [])) (upd H1 a (exo a C none)) (fun x H2 => x = .non ∧ ∃ (d : Addr) (fs : List (Str × V)), H2 a = some (exo a C (some d)) ∧ H2 d = some (exd d fs) ∧ H1 d = none ∧ Q (.ref C) (some d) (upd (del H2 a) d (.xd fs))) (fun _ _ _ => False) := by
  refine ⟨by show 1 ≤ 1000; decide, fun a na => ⟨a, v, rfl, upd_same, fun dx n ne => ?_⟩⟩
  have n1 : H1 dx = none := by rw [upd_ne ne] at n; exact n
  refine ⟨rfl, dx, _, upd_same, by rw [upd_ne ne, upd_same], n1, h dx _ n1 (fun b o e => ?_) upd_same⟩
  have hb : b ≠ dx := ne_of_none e n1
  have ha : b ≠ a := ne_of_none e na
  rw [upd_ne hb, del_ne ha, upd_ne ha, upd_ne hb, upd_ne ha]
  exact e
/-- what is asked of C(v, u) -/
theorem mk_two {C : Addr} {f g : Str} {H1 : Hp} {v u : V} {Q : XK} (h : ∀ d H2, H1 d = none → Same H1 H2 → H2 d = some (.xd [(g, u), (f, v)]) → Q (.ref C) (some d) H2) :
    [v, u].length ≤ 1000 ∧ ∀ a, H1 a = none → spIni2 C f g (V.ref a :: ([v, u] ++ [])) (upd H1 a (exo a C none)) (fun x H2 => x = .non ∧ ∃ (d : Addr) (fs : List (Str × V)), H2 a = some (exo a C (some d)) ∧ H2 d = some (exd d fs) ∧ H1 d = none ∧ Q (.ref C) (some d) (upd (del H2 a) d (.xd fs))) (fun _ _ _ => False) := by
  refine ⟨by show 2 ≤ 1000; decide, fun a na => ⟨a, v, u, rfl, upd_same, fun dx n ne => ?_⟩⟩
  have n1 : H1 dx = none := by rw [upd_ne ne] at n; exact n
  refine ⟨rfl, dx, _, by rw [upd_ne (Ne.symm ne), upd_same], upd_same, n1, h dx _ n1 (fun b o e => ?_) upd_same⟩
  have hb : b ≠ dx := ne_of_none e n1
  have ha : b ≠ a := ne_of_none e na
  rw [upd_ne hb, del_ne ha, upd_ne hb, upd_ne ha, upd_ne hb, upd_ne ha]
  exact e
/-- isinstance(e, c), isinstance(e, (c, ..)): e the exception that the suite holds, with fields -/
def rIsED (K : PySem.W.Frag) (a : Addr) (cls : Value) (d : Option Addr) : List V → Hp → VK → Prop := fun xs H Q => ∃ (C dd : Addr) (fs : List (Str × V)) (c : V) (b : Bool), xs = [.ref a, c] ∧ cls = .ref C ∧ d = some dd ∧ H dd = some (.xd fs) ∧ ExcC K C ∧
  ((∃ cv, (∀ u, RelV c u → u = cv) ∧ PySem.W.kitOne K (.ref C) cv = some b) ∨ ∃ (t : Addr) (cs : List Addr), c = .ref t ∧ H t = some (.tup (cs.map V.ref)) ∧ PySem.W.kitAny K (.ref C) (cs.map Value.ref) = some b) ∧ Q (.bl b) H
theorem vals_refs : ∀ {cs : List Addr} {us : List Value}, Vals (cs.map V.ref) us → us = cs.map Value.ref
  | [], _, h => by cases h; rfl
  | c :: cs, _, h => by
    cases h with
    | cons a b =>
      cases a
      exact congrArg (Value.ref c :: ·) (vals_refs b)
theorem call_isED {X : Cx} {a : Addr} {cls : Value} {d : Option Addr} {oe : Obj} {pn : List (Addr × Obj)} (hz : Zc cls d oe) (hf : ∃ vs, oe.data = .fields vs) : CallR (X.suite a ((a, oe) :: pn)) (.builtin "isinstance") (rIsED X.K a cls d) := by
  intro pins s σ H xs us Q I r h
  obtain ⟨D, dd, fs, c, b, rfl, rfl, rfl, hdd, C, hc, q⟩ := h
  cases r with
  | cons rx rr =>
    cases rr with
    | cons rt rr =>
      cases rr
      cases rx
      obtain ⟨hget, _⟩ := I.pin (a, oe) (List.mem_append.mpr (.inl List.mem_cons_self))
      obtain ⟨vs, hv⟩ := hf
      have hx : ObjOk X.prog X.w H s.heap dd (.xd fs) := I.hok dd _ hdd
      obtain ⟨mA, hns, hr⟩ := hx
      obtain ⟨od, ho, hl⟩ := lookIn_ns hns
      have J : PySem.W.InstAt s.heap a oe D (some od) := ⟨hget, hz.1, by unfold PySem.W.notCls; rw [hv] <;> rfl, by rw [hz.2]; exact ho⟩
      have cl : (PySem.W.clsIn X.K D).isSome = true := by
        obtain ⟨cd, e, _⟩ := PySem.W.any_some C.hd
        rw [e]; rfl
      have Z := fun (od : Option Obj) => PySem.W.kitx_exc (x := a) (ox := oe) (od := od) cl C.hg C.hk C.hs C.ha C.hn C.ht C.hm
      rcases hc with ⟨cv, hcv, e⟩ | ⟨t, cs, rfl, ht, e⟩
      · have ec := hcv _ rt
        subst ec
        exact PySem.W.kia_one (Z _) I.kIn J e (fun z => nomatch z) fun tk => ⟨.bl b, H, I.kept (t' := tk) fun _ _ z => z, rfl, q⟩
      · cases rt
        obtain ⟨_, its, rv, o, ho2, hcls, n, hdat⟩ := (show ObjOk X.prog X.w H s.heap t (.tup (cs.map V.ref)) from I.hok t _ ht)
        obtain ⟨oc, oda, odt, osl⟩ := o
        dsimp only at hcls hdat
        subst hcls hdat
        rw [← vals_refs rv] at e
        exact PySem.W.kia_tup (Z _) I.kIn J ho2 e (fun z => nomatch z) fun tk => ⟨.bl b, H, I.kept (t' := tk) fun _ _ z => z, rfl, q⟩
end CsX

set_option Elab.async false
set_option linter.all false
set_option maxRecDepth 100000
set_option maxHeartbeats 4000000
namespace K6
open PySem PySem.Spec PyProof.Rows L2 Cs
def topS (i : Nat) : Stmt := PySem.Challenge.pw_curbdesk_k06_run_plan.main.body.getD i (.Pass ⟨0, 0, 0, 0⟩)
structure Bt (mg : Str → Option Value) : Prop where
  sorted : mg "sorted" = none
  set : mg "set" = none
  len : mg "len" = none
  isi : mg "isinstance" = none
  int : mg "int" = none
  bool : mg "bool" = none
  list : mg "list" = none
  all : mg "all" = none
  range : mg "range" = none
  dict : mg "dict" = none
abbrev Srt (ms : List Int) : Prop := ms.Pairwise (· < ·)
theorem same_new {H : Hp} {p : Addr} {o : HO} (h : H p = none) : Same H (upd H p o) := fun b x e => by
  rw [upd_ne (ne_of_none e h)]
  exact e
theorem same_at {H H' : Hp} {p : Addr} {o : HO} (s : Same H H') (h : H p = none) : Same H (upd H' p o) := fun b x e => by
  rw [upd_ne (ne_of_none e h)]
  exact s _ _ e
theorem sl_map {K : PySem.W.Frag} {H : Hp} {a : Addr} {xs : List V} (h : H a = some (.lst xs)) : SqL K H a xs := .inl (.inl h)
theorem and_iff (ns ks : List Int) (k : Int) : eAnd (fun j => decide (j ∈ ns)) (fun j => decide (j ∈ ks)) k ↔ k ∈ ns ∧ k ∈ ks := by
  show (decide (k ∈ ns) = true ∧ decide (k ∈ ks) = true) ↔ _
  simp
theorem or_iff' (ns ks : List Int) (k : Int) : eOr (fun j => decide (j ∈ ns)) (fun j => decide (j ∈ ks)) k ↔ k ∈ ns ∨ k ∈ ks := by
  show (decide (k ∈ ns) = true ∨ decide (k ∈ ks) = true) ↔ _
  simp
theorem sub_iff (ns ks : List Int) (k : Int) : eSub (fun j => decide (j ∈ ns)) (fun j => decide (j ∈ ks)) k ↔ k ∈ ns ∧ k ∉ ks := by
  show (decide (k ∈ ns) = true ∧ decide (k ∈ ks) = false) ↔ _
  simp
section
variable {P : Program} {w : World} {K : PySem.W.Frag} {mg : Str → Option Value} {base : Heap}
/-! ### the program: sides -/
abbrev sCommon : Stmt := topS 27
theorem scCommon : FnScope ["first", "second"] ["first", "second"] (defScope sCommon) := ⟨rfl, rfl, rfl, by decide +kernel, rfl, by decide +kernel, by decide +kernel⟩
/-- two lists, and what is said of the members -/
def spTwo (K : PySem.W.Frag) (mem : List Int → List Int → Int → Prop) : Sp := fun vs H Q _ => ∃ (a b : Addr) (ns ks : List Int), vs = [.ref a, .ref b] ∧ SqL K H a (ns.map V.int) ∧ SqL K H b (ks.map V.int) ∧ ns.length ≤ 31 ∧ ks.length ≤ 31 ∧
  ∀ H' p ms, Same H H' → H p = none → H' p = some (.lst (ms.map V.int)) → Srt ms → (∀ k, k ∈ ms ↔ mem ns ks k) → ms.length ≤ 63 → Q (.ref p) H'
theorem ok_common {f : Addr} {fd : FuncData} {k : Nat} (F : Fun K "common" "common" sCommon f fd) (B : Bt mg) : FnOk P w K mg base CX0 (k + 1) f fd ["first", "second"] (spTwo K fun ns ks k => k ∈ ns ∧ k ∈ ks) := by
  refine F.ok scCommon (fun vs H Q E h => ?_) (fun cdv A outer s H vs Q E hr h => ?_)
  · obtain ⟨a, b, ns, ks, rfl, _⟩ := h
    rfl
  · obtain ⟨a, b, ns, ks, rfl, hA, hB, la, lb, q⟩ := h
    refine ⟨_, pss_one (ps_ret (pe_callB (cr_sortedSet rfl) (by rfl) B.sorted boot_sorted (pa_cons (pe_op op_sand (pe_callTy (cr_setI rfl) (by rfl) B.set PyProof.Rows.boot_set (pa_cons (pv 0) pa_nil)) (pe_callTy (cr_setI rfl) (by rfl) B.set PyProof.Rows.boot_set (pa_cons (pv 1) pa_nil))) pa_nil))), ?_⟩
    refine ⟨.ref a, rfl, a, ns, rfl, hA, by omega, fun p c np hc => ?_⟩
    have s1 := same_new (o := SetO w p (fun j => decide (j ∈ ns)) c) np
    refine ⟨.ref b, rfl, b, ks, rfl, s1.seq hB, by omega, fun p2 c2 np2 hc2 => ?_⟩
    have ne : p2 ≠ p := fun e => by rw [e, upd_same] at np2; cases np2
    have s2 := s1.trans (same_new (o := SetO w p2 (fun j => decide (j ∈ ks)) c2) np2)
    refine ⟨p, p2, _, _, c, c2, rfl, rfl, ne, by rw [upd_ne ne.symm, upd_same], upd_same, ⟨by omega, by omega⟩, fun r S n nr hm hn => ?_⟩
    have s3 := s2.trans (same_new (o := SetO w r S n) nr)
    refine ⟨r, S, n, rfl, upd_same, by omega, fun ms z hs hk hl nz => ?_⟩
    exact q _ z ms (same_at s3 (s3.free nz)) (s3.free nz) upd_same hs (fun k => (hk k).trans ((hm k).trans (and_iff ns ks k))) (by omega)
end
section
variable {P : Program} {w : World} {K : PySem.W.Frag} {mg : Str → Option Value} {base : Heap}
abbrev sIsInt : Stmt := topS 36
abbrev sStream : Stmt := topS 37
abbrev sDraw : Stmt := topS 38
theorem scIsInt : FnScope ["_law_actual"] ["_law_actual"] (defScope sIsInt) := ⟨rfl, rfl, rfl, by decide +kernel, rfl, by decide +kernel, by decide +kernel⟩
theorem scStream : FnScope ["_law_script", "_law_k", "_law_cell"] ["_law_script", "_law_k"] (defScope sStream) := ⟨rfl, rfl, rfl, by decide +kernel, rfl, by decide +kernel, by decide +kernel⟩
theorem scDraw : FnScope ["_law_stream_here", "_law_size", "_law_digit", "_law_mixed"] ["_law_stream_here", "_law_size"] (defScope sDraw) := ⟨rfl, rfl, rfl, by decide +kernel, rfl, by decide +kernel, by decide +kernel⟩
def spIsInt : Sp := fun vs H Q _ => ∃ k : Int, vs = [.int k] ∧ Q (.bl true) H
theorem ok_isInt {f : Addr} {fd : FuncData} {k : Nat} (F : Fun K "_law_is_integer" "_law_is_integer" sIsInt f fd) (B : Bt mg) : FnOk P w K mg base CX0 (k + 1) f fd ["_law_actual"] spIsInt := by
  refine F.ok scIsInt (fun vs H Q E h => ?_) (fun cdv A outer s H vs Q E hr h => ?_)
  · obtain ⟨a, rfl, _⟩ := h
    rfl
  · obtain ⟨a, rfl, q⟩ := h
    refine ⟨_, pss_one (ps_ret (pe_and (pe_callB call_isi (by rfl) B.isi PyProof.Rows.boot_isinstance (pa_cons (pv 0) (pa_cons (pe_bltn (by rfl) B.int PyProof.Rows.boot_int (v := .ty "int") rfl) pa_nil)))
      (pe_one (pe_not (pe_callB call_isi (by rfl) B.isi PyProof.Rows.boot_isinstance (pa_cons (pv 0) (pa_cons (pe_bltn (by rfl) B.bool PyProof.Rows.boot_bool (v := .ty "bool") rfl) pa_nil))))))), ?_⟩
    refine ⟨.int a, rfl, .int a, .ty "int", .type "int", .type "int", true, rfl, .ty _, .base (.int a), kit_ty (by decide +kernel), true, rfl, iteT ?_⟩
    exact ⟨.int a, rfl, .int a, .ty "bool", .type "int", .type "bool", false, rfl, .ty _, .base (.int a), kit_ty (by decide +kernel), false, rfl, q⟩

/-- a stream: three ints -/
def Strm (H : Hp) (p : Addr) : Prop := ∃ x y z : Int, H p = some (.lst [.int x, .int y, .int z])
def spStream (K : PySem.W.Frag) : Sp := fun vs H Q _ => ∃ (a : Addr) (ns : List Int) (k : Nat), vs = [.ref a, .int (k : Int)] ∧ SqL K H a (ns.map V.int) ∧
  ∀ H' p, Same H H' → H p = none → Strm H' p → Q (.ref p) H'
theorem ok_stream {f : Addr} {fd : FuncData} {k : Nat} (F : Fun K "_law_stream" "_law_stream" sStream f fd) (B : Bt mg) : FnOk P w K mg base CX0 (k + 1) f fd ["_law_script", "_law_k"] (spStream K) := by
  refine F.ok scStream (fun vs H Q E h => ?_) (fun cdv A outer s H vs Q E hr h => ?_)
  · obtain ⟨a, ns, k, rfl, _⟩ := h
    rfl
  · obtain ⟨a, ns, k, rfl, hS, q⟩ := h
    refine ⟨_, pss_cons (ps_set (i := 2) scStream.nd rfl (.inl rfl) pe_int)
      (pss_cons (ps_if (pt_cmpR op_lt (pv 1) (pe_callB call_len_seq (by rfl) B.len PySem.boot_len (pa_cons (pv 0) pa_nil)) (nomark _))
        (pss_one (ps_set (i := 2) scStream.nd rfl (.inl rfl) (pe_ix ix_list (pv 0) (pv 1) (fun _ _ => rfl)))) pss_nil)
      (pss_one (ps_ret (pe_lst (pa_cons (pe_op op_mul (pv 2) (pe_callTy call_int1 (by rfl) B.int PyProof.Rows.boot_int (pa_cons (pe_cmpR op_ge (pv 2) (pe_op op_pow pe_int pe_int) (nomark _)) pa_nil))) (pa_cons pe_int (pa_cons (pv 2) pa_nil))))))), ?_⟩
    have tail : ∀ (c : Int) (b : Bool), -(2 ^ 64) < (if b = true then (1 : Int) else 0) ∧ (if b = true then (1 : Int) else 0) < 2 ^ 64 := fun c b => by cases b <;> decide
    refine ⟨.int k, rfl, .ref a, rfl, a, _, rfl, .inl hS, (k : Int), _, rfl, rfl, _, rfl, ite2 (fun c => ?_) (fun c => ?_)⟩
    · have hk : k < ns.length := by
        have := of_decide_eq_true c
        rw [List.length_map] at this
        omega
      have g : (ns.map V.int)[k]? = some (.int ns[k]) := by
        rw [List.getElem?_map, List.getElem?_eq_getElem hk]
        rfl
      refine ⟨.ref a, rfl, .int k, rfl, a, _, (k : Int), _, rfl, rfl, hS, atI_nat g, ?_⟩
      refine ⟨.int ns[k], rfl, .int ns[k], rfl, 10, 18, rfl, rfl, ⟨by decide, by decide, by decide⟩, ns[k], _, rfl, rfl, .inr ⟨_, rfl, ns[k], _, rfl, rfl, .inr (tail 0 _), .int ns[k], rfl, by show 3 ≤ sizeLine; decide, fun l hl => ?_⟩⟩
      exact q _ l (same_new hl) hl ⟨_, _, _, upd_same⟩
    · refine ⟨.int 0, rfl, .int 0, rfl, 10, 18, rfl, rfl, ⟨by decide, by decide, by decide⟩, 0, _, rfl, rfl, .inr ⟨_, rfl, 0, _, rfl, rfl, .inr (tail 0 _), .int 0, rfl, by show 3 ≤ sizeLine; decide, fun l hl => ?_⟩⟩
      exact q _ l (same_new hl) hl ⟨_, _, _, upd_same⟩
/-- all but the one at p is as it was -/
def Oth (p : Addr) (H H' : Hp) : Prop := ∀ b, b ≠ p → H' b = H b
def spDraw : Sp := fun vs H Q _ => ∃ (p : Addr) (m : Int), vs = [.ref p, .int m] ∧ Strm H p ∧ 0 < m ∧ m < 1073741824 ∧
  ∀ H' d, Oth p H H' → Strm H' p → 0 ≤ d → d < m → Q (.int d) H'
theorem at0 {x y z : V} : atI [x, y, z] (0 : Int) = some x := atI_nat (j := 0) rfl
theorem at1 {x y z : V} : atI [x, y, z] (1 : Int) = some y := atI_nat (j := 1) rfl
theorem at2 {x y z : V} : atI [x, y, z] (2 : Int) = some z := atI_nat (j := 2) rfl
theorem ok_draw {f : Addr} {fd : FuncData} {k : Nat} (F : Fun K "_law_next" "_law_next" sDraw f fd) (B : Bt mg) : FnOk P w K mg base CX0 (k + 1) f fd ["_law_stream_here", "_law_size"] spDraw := by
  refine F.ok scDraw (fun vs H Q E h => ?_) (fun cdv A outer s H vs Q E hr h => ?_)
  · obtain ⟨p, m, rfl, _⟩ := h
    rfl
  · obtain ⟨p, m, rfl, ⟨x, y, z, hp⟩, m0, m1, q⟩ := h
    refine ⟨_, pss_cons (ps_asg (pe_op op_add (pe_ix ix_list (pv 0) pe_int (fun _ _ => rfl)) pe_int) (pg_sub (pv 0) pe_int set_list))
      (pss_cons (ps_if (pt_cmpR op_gt (pe_ix ix_list (pv 0) pe_int (fun _ _ => rfl)) pe_int (nomark _))
        (pss_cons (ps_set (i := 2) scDraw.nd rfl (.inl rfl) (pe_op op_mod (pe_callTy call_int1 (by rfl) B.int PyProof.Rows.boot_int (pa_cons (pe_ix ix_list (pv 0) pe_int (fun _ _ => rfl)) pa_nil)) (pv 1)))
          (pss_cons (ps_asg (pe_op op_fdiv (pe_ix ix_list (pv 0) pe_int (fun _ _ => rfl)) (pv 1)) (pg_sub (pv 0) pe_int set_list))
          (pss_one (ps_ret (pv 2))))) pss_nil)
      (pss_cons (ps_set (i := 3) scDraw.nd rfl (.inl rfl) (pe_op op_mod (pe_callTy call_int1 (by rfl) B.int PyProof.Rows.boot_int (pa_cons
          (pe_op op_add (pe_op op_add (pe_ix ix_list (pv 0) pe_int (fun _ _ => rfl)) (pe_op op_mul pe_int (pe_ix ix_list (pv 0) pe_int (fun _ _ => rfl)))) pe_int) pa_nil)) pe_int))
      (pss_cons (ps_set (i := 3) scDraw.nd rfl (.inl rfl) (pe_op op_mod (pe_callTy call_int1 (by rfl) B.int PyProof.Rows.boot_int (pa_cons
          (pe_op op_mul (pv 3) (pe_op op_add (pv 3) pe_int)) pa_nil)) pe_int))
      (pss_cons (ps_set (i := 3) scDraw.nd rfl (.inl rfl) (pe_op op_mod (pe_callTy call_int1 (by rfl) B.int PyProof.Rows.boot_int (pa_cons
          (pe_op op_add (pe_op op_mul (pv 3) (pe_op op_add (pv 3) pe_int)) (pe_op op_mul pe_int (pe_ix ix_list (pv 0) pe_int (fun _ _ => rfl)))) pa_nil)) pe_int))
      (pss_one (ps_ret (pe_op op_mod (pe_callTy call_int1 (by rfl) B.int PyProof.Rows.boot_int (pa_cons (pe_op op_fdiv (pv 3) pe_int) pa_nil)) (pv 1)))))))), ?_⟩
    have pos1 : (0 : Int) < 2147483647 := by decide
    have pos2 : (0 : Int) < 2147483629 := by decide
    -- stream[1] = stream[1] + 1
    refine ⟨.ref p, rfl, p, _, 1, .int y, rfl, rfl, sl_map hp, at1, y, 1, rfl, rfl, .ref p, rfl, p, _, 1, 1, rfl, rfl, hp, rfl, ?_⟩
    have h1 : ∀ o, (upd H p o) p = some o := fun o => upd_same
    -- if stream[0] > 0
    refine ⟨.ref p, rfl, p, _, 0, .int x, rfl, rfl, sl_map upd_same, at0, x, 0, rfl, rfl, _, rfl, ite2 (fun c => ?_) (fun c => ?_)⟩
    · refine ⟨.ref p, rfl, p, _, 0, .int x, rfl, rfl, sl_map upd_same, at0, .inl ⟨x, rfl, .int m, rfl, x, m, rfl, rfl, m0, ?_⟩⟩
      refine ⟨.ref p, rfl, p, _, 0, .int x, rfl, rfl, sl_map upd_same, at0, .int m, rfl, x, m, rfl, rfl, ⟨m0, m1⟩, .ref p, rfl, p, _, 0, 0, rfl, rfl, upd_same, rfl, ?_⟩
      refine ⟨.int (x % m), rfl, q _ _ (fun b hb => by rw [upd_ne hb, upd_ne hb]) ⟨_, _, _, upd_same⟩ (Int.emod_nonneg _ (by omega)) (Int.emod_lt_of_pos _ m0)⟩
    · refine ⟨.ref p, rfl, p, _, 2, .int z, rfl, rfl, sl_map upd_same, at2, .ref p, rfl, p, _, 1, .int (y + 1), rfl, rfl, sl_map upd_same, at1, 7919, y + 1, rfl, rfl, .inl ⟨by decide, by decide⟩, z, _, rfl, rfl, _, 13, rfl, rfl,
        .inl ⟨_, rfl, _, 2147483647, rfl, rfl, pos1, ?_⟩⟩
      have r1 : ∀ u : Int, 0 ≤ u % 2147483647 ∧ u % 2147483647 < 2147483647 := fun u => ⟨Int.emod_nonneg _ (by decide), Int.emod_lt_of_pos _ (by decide)⟩
      have r2 : ∀ u : Int, 0 ≤ u % 2147483629 ∧ u % 2147483629 < 2147483629 := fun u => ⟨Int.emod_nonneg _ (by decide), Int.emod_lt_of_pos _ (by decide)⟩
      have big : (2147483647 : Int) < 2 ^ 64 := by decide
      have big2 : (-(2 ^ 64) : Int) < 0 := by decide
      have b1 := r1 (z + 7919 * (y + 1) + 13)
      refine ⟨_, rfl, _, rfl, (z + 7919 * (y + 1) + 13) % 2147483647, 48271, rfl, rfl, (z + 7919 * (y + 1) + 13) % 2147483647, _, rfl, rfl, .inl ⟨by omega, by omega⟩, .inl ⟨_, rfl, _, 2147483629, rfl, rfl, pos2, ?_⟩⟩
      have b2 := r2 ((z + 7919 * (y + 1) + 13) % 2147483647 * ((z + 7919 * (y + 1) + 13) % 2147483647 + 48271))
      refine ⟨_, rfl, _, rfl, _, 69621, rfl, rfl, (z + 7919 * (y + 1) + 13) % 2147483647 * ((z + 7919 * (y + 1) + 13) % 2147483647 + 48271) % 2147483629, _, rfl, rfl, .inl ⟨?_, ?_⟩, .ref p, rfl, p, _, 1, .int (y + 1), rfl, rfl, sl_map upd_same, at1, 31, y + 1, rfl, rfl, .inl ⟨by decide, by decide⟩, _, _, rfl, rfl,
        .inl ⟨_, rfl, _, 2147483647, rfl, rfl, pos1, ?_⟩⟩
      · generalize (z + 7919 * (y + 1) + 13) % 2147483647 * ((z + 7919 * (y + 1) + 13) % 2147483647 + 48271) % 2147483629 = v at b2
        omega
      · generalize (z + 7919 * (y + 1) + 13) % 2147483647 * ((z + 7919 * (y + 1) + 13) % 2147483647 + 48271) % 2147483629 = v at b2
        omega
      refine ⟨_, rfl, _, 9, rfl, rfl, ⟨by decide, by decide⟩, .inl ⟨_, rfl, .int m, rfl, _, m, rfl, rfl, m0, ?_⟩⟩
      exact q _ _ (fun b hb => by rw [upd_ne hb]) ⟨_, _, _, upd_same⟩ (Int.emod_nonneg _ (by omega)) (Int.emod_lt_of_pos _ m0)
/-- a def that stands, with its promise -/
structure Call (P : Program) (w : World) (K : PySem.W.Frag) (mg : Str → Option Value) (base : Heap) (k : Nat) (x : Str) (f : Addr) (fd : FuncData) (ps : List Str) (sp : Sp) : Prop where
  ok : FnOk P w K mg base CX0 k f fd ps sp
  at_ : mg x = some (.ref f)
  kp : PySem.W.keepIn K (.ref f) = true
  bd : Binds K fd ps []
abbrev sIsSide : Stmt := topS 41
abbrev nIsSide : List Str := ["_law_actual", "_law_value", "_law_k"]
theorem scIsSide : FnScope nIsSide ["_law_actual"] (defScope sIsSide) := ⟨rfl, rfl, rfl, by decide +kernel, rfl, by decide +kernel, by decide +kernel⟩
def spIsSide : Sp := fun vs H Q _ => ∃ (a : Addr) (ns : List Int), vs = [.ref a] ∧ H a = some (.lst (ns.map V.int)) ∧ Srt ns ∧ ns.length ≤ 1000 ∧ ∀ H', Same H H' → Q (.bl true) H'
theorem all_rep (n : Nat) : (List.replicate n true).all id = true := by simp
theorem ok_isSide {f fI : Addr} {fd fdI : FuncData} (F : Fun K "_law_is_side" "_law_is_side" sIsSide f fd) (B : Bt mg) (I : Call P w K mg base 1 "_law_is_integer" fI fdI ["_law_actual"] spIsInt) :
    FnOk P w K mg base CX0 2 f fd ["_law_actual"] spIsSide := by
  refine F.ok scIsSide (fun vs H Q E h => ?_) (fun cdv A outer s H vs Q E hr h => ?_)
  · obtain ⟨a, ns, rfl, _⟩ := h
    rfl
  · obtain ⟨a, ns, rfl, ha, hs, hl, q⟩ := h
    refine ⟨_, pss_cons (ps_if (PW.pt (pw_or (pt_not (pt_val (pe_callB call_isi (by rfl) B.isi PyProof.Rows.boot_isinstance (pa_cons (pv 0) (pa_cons (pe_bltn (by rfl) B.list PyProof.Rows.boot_list (v := .ty "list") rfl) pa_nil)))))
        (pw_or1 (pt_not (pt_val (pe_callB (cr_all rfl) (by rfl) B.all PyProof.Rows.boot_all (pa_cons
          (pe_lc (own := [("_law_value", 1)]) (g := gName 1) (tt := tYes) rfl scIsSide.nd (pi_list (pv 0)) (blkOk_by (N := nIsSide) (sc := defScope sIsSide) (by decide +kernel)) (fun _ _ _ _ _ => pg_name (i := 1) scIsSide.nd rfl (Or.inl rfl)) (fun _ _ _ _ _ => pts_nil)
            (fun _ _ _ _ _ => pe_call I.ok hr (by rfl) I.at_ I.kp I.bd .nil pass0 (pa_cons (pv 1) pa_nil))) pa_nil)))))))
        (pss_one (ps_ret pe_bl)) pss_nil)
      (pss_one (ps_ret (pe_callB (cr_all rfl) (by rfl) B.all PyProof.Rows.boot_all (pa_cons
          (pe_lc (own := [("_law_k", 2)]) (g := gName 2) (tt := tYes) rfl scIsSide.nd (pi_range1 (by rfl) B.range (pa_cons (pe_op op_sub (pe_callB call_len_seq (by rfl) B.len PySem.boot_len (pa_cons (pv 0) pa_nil)) pe_int) pa_nil))
            (blkOk_by (N := nIsSide) (sc := defScope sIsSide) (by decide +kernel)) (fun _ _ _ _ _ => pg_name (i := 2) scIsSide.nd rfl (Or.inl rfl)) (fun _ _ _ _ _ => pts_nil)
            (fun _ _ _ _ _ => pe_cmpR op_lt (pe_ix (r := rIxL K) ix_list (pv 0) (pv 2) (fun _ _ => rfl)) (pe_ix (r := rIxL K) ix_list (pv 0) (pe_op op_add (pv 2) pe_int) (fun _ _ => rfl)) (nomark _))) pa_nil)))), ?_⟩
    refine ⟨.ref a, rfl, .ref a, .ty "list", .type "list", .type "list", true, rfl, .ty _, .base (.lst ha), kit_ty (by decide +kernel), true, rfl, iteF ?_⟩
    refine ⟨.ref a, rfl, a, rfl, ⟨_, sl_map ha⟩, fun D hD => lc_list (xs := ns.map V.int) (fun i H' => Same H H' ∧ H' D = some (.lst ((List.replicate i true).map V.bl))) ⟨same_new hD, upd_same⟩ (fun i H' _ h => h.1.seq (sl_map ha)) ?_ ?_⟩
    · rintro i x H' hx ⟨sm, hd⟩
      rw [List.getElem?_map] at hx
      obtain ⟨v, hv, rfl⟩ := Option.map_eq_some_iff.mp hx
      have hi : i < ns.length := (List.getElem?_eq_some_iff.mp hv).1
      refine ⟨rfl, ?_⟩
      refine ⟨_, rfl, v, rfl, _, hd, ?_, same_at sm hD, ?_⟩
      · rw [List.length_map, List.length_replicate]
        exact small1000 (by omega)
      · rw [upd_same, List.replicate_succ', List.map_append]
        rfl
    · rintro H' ⟨sm, hd⟩
      rw [List.length_map] at hd
      refine ⟨D, _, rfl, sl_map hd, _, rfl, ?_⟩
      rw [all_rep]
      refine iteF ?_
      -- all([.. < ..])
      refine ⟨.ref a, rfl, a, _, rfl, .inl (sm.seq (sl_map ha)), ((ns.map V.int).length : Int), 1, rfl, rfl, _, rfl, ?_, ?_, fun D2 hD2 => lc_range (lo := 0) (fun i H2 => Same H H2 ∧ H2 D2 = some (.lst ((List.replicate i true).map V.bl))) ⟨same_at sm (sm.free hD2), upd_same⟩ ?_ ?_⟩
      · rw [List.length_map]; omega
      · rw [List.length_map]; omega
      · rintro i H2 hi ⟨sm2, hd2⟩
        rw [List.length_map] at hi
        have h1 : i < ns.length := by omega
        have h2 : i + 1 < ns.length := by omega
        have g1 : (ns.map V.int)[i]? = some (.int ns[i]) := by
          rw [List.getElem?_map, List.getElem?_eq_getElem h1]
          rfl
        have g2 : (ns.map V.int)[i + 1]? = some (.int ns[i + 1]) := by
          rw [List.getElem?_map, List.getElem?_eq_getElem h2]
          rfl
        refine ⟨rfl, ?_⟩
        refine ⟨.ref a, rfl, _, rfl, a, _, _, _, rfl, rfl, sm2.seq (sl_map ha), at_of (by omega) g1, .ref a, rfl, _, rfl, _, 1, rfl, rfl, a, _, _, _, rfl, rfl, sm2.seq (sl_map ha), at_of (j := i + 1) (by omega) g2, _, _, rfl, rfl, _, hd2, ?_, same_at sm2 (sm.free hD2), ?_⟩
        · rw [List.length_map, List.length_replicate]
          exact small1000 (by omega)
        · have lt : ns[i] < ns[i + 1] := List.pairwise_iff_getElem.mp hs i (i + 1) h1 h2 (Nat.lt_succ_self i)
          have e : (fun i j : Int => V.bl (decide (i < j))) ns[i] ns[i + 1] = V.bl true := congrArg V.bl (decide_eq_true lt)
          rw [upd_same, e, List.replicate_succ', List.map_append]
          rfl
      · rintro H2 ⟨sm2, hd2⟩
        refine ⟨D2, _, rfl, sl_map hd2, ?_⟩
        rw [all_rep]
        exact q _ sm2
/-- what was tracked, but for the one at p, is as it was -/
def Keep (p : Addr) (H H' : Hp) : Prop := ∀ b o, b ≠ p → H b = some o → H' b = some o
theorem Keep.refl (p : Addr) (H : Hp) : Keep p H H := fun _ _ _ e => e
theorem Keep.oth {p : Addr} {H H1 H2 : Hp} (k : Keep p H H1) (o : Oth p H1 H2) : Keep p H H2 := fun b u hb e => (o b hb).trans (k b u hb e)
theorem Keep.trans {p : Addr} {H H1 H2 : Hp} (k : Keep p H H1) (k2 : Keep p H1 H2) : Keep p H H2 := fun b u hb e => k2 b u hb (k b u hb e)
theorem Keep.at_ {p q : Addr} {o : HO} {H H1 : Hp} (k : Keep p H H1) (n : H q = none) : Keep p H (upd H1 q o) := fun b u hb e => by
  rw [upd_ne (ne_of_none e n)]
  exact k b u hb e
theorem Keep.same {p : Addr} {H H1 : Hp} (s : Same H H1) : Keep p H H1 := fun b u _ e => s b u e
theorem Strm.some {H : Hp} {p : Addr} (s : Strm H p) : H p ≠ none := fun z => by
  obtain ⟨x, y, z', e⟩ := s
  rw [z] at e
  cases e
theorem Strm.keep {H H' : Hp} {p q : Addr} (s : Strm H p) (k : Keep q H H') (h : p ≠ q) : Strm H' p := by
  obtain ⟨x, y, z, e⟩ := s
  exact ⟨x, y, z, k _ _ h e⟩
theorem Strm.upd {H : Hp} {p q : Addr} {o : HO} (s : Strm H p) (h : p ≠ q) : Strm (upd H q o) p := by
  obtain ⟨x, y, z, e⟩ := s
  exact ⟨x, y, z, by rw [upd_ne h]; exact e⟩
theorem Keep.free {p q : Addr} {H H1 : Hp} (k : Keep p H H1) (s : Strm H1 p) (n : H1 q = none) : H q = none := by
  have hp : q ≠ p := fun z => s.some (z ▸ n)
  cases c : H q with
  | none => rfl
  | some o =>
    rw [k q o hp c] at n
    cases n
end
theorem srt_ext : ∀ {xs ys : List Int}, Srt xs → Srt ys → (∀ k, k ∈ xs ↔ k ∈ ys) → xs = ys
  | [], [], _, _, _ => rfl
  | [], y :: ys, _, _, h => absurd ((h y).2 List.mem_cons_self) (by simp)
  | x :: xs, [], _, _, h => absurd ((h x).1 List.mem_cons_self) (by simp)
  | x :: xs, y :: ys, sx, sy, h => by
    obtain ⟨x1, x2⟩ := List.pairwise_cons.mp sx
    obtain ⟨y1, y2⟩ := List.pairwise_cons.mp sy
    have e : x = y := by
      rcases List.mem_cons.mp ((h x).1 List.mem_cons_self) with a | a
      · exact a
      · rcases List.mem_cons.mp ((h y).2 List.mem_cons_self) with b | b
        · exact b.symm
        · have := x1 y b
          have := y1 x a
          omega
    subst e
    have t : ∀ k, k ∈ xs ↔ k ∈ ys := fun k => by
      constructor
      · intro hk
        rcases List.mem_cons.mp ((h k).1 (List.mem_cons_of_mem _ hk)) with a | a
        · have := x1 k hk
          omega
        · exact a
      · intro hk
        rcases List.mem_cons.mp ((h k).2 (List.mem_cons_of_mem _ hk)) with a | a
        · have := y1 k hk
          omega
        · exact a
    rw [srt_ext x2 y2 t]
/-! ### lists of ints as data -/
abbrev dI (ns : List Int) : PyData := .list (ns.map PyData.int)
theorem dp_all {K : PySem.W.Frag} {H : Hp} : ∀ ns : List Int, DpAll K H (ns.map V.int) (ns.map PyData.int)
  | [] => .nil
  | n :: ns => .cons (.int n) (dp_all ns)
theorem dpI {K : PySem.W.Frag} {H : Hp} {a : Addr} {ns : List Int} (h : SqL K H a (ns.map V.int)) : Dp K H (.ref a) (dI ns) := .lst h (dp_all ns)
theorem lay_all : ∀ ns : List Int, PyData.canLayAll0 (ns.map PyData.int) = true
  | [] => rfl
  | n :: ns => by
    show (PyData.canLay0 (.int n) && PyData.canLayAll0 (ns.map PyData.int)) = true
    rw [lay_all ns] <;> rfl
theorem layI (ns : List Int) : (dI ns).canLay0 = true := lay_all ns
theorem deep_all : ∀ ns : List Int, PyData.depthAll (ns.map PyData.int) ≤ 1
  | [] => by simp [PyData.depthAll]
  | n :: ns => by
    have := deep_all ns
    simp only [List.map_cons, PyData.depthAll, PyData.depth]
    omega
theorem deepI (ns : List Int) : (dI ns).depth ≤ 2 := by
  have := deep_all ns
  simp only [dI, PyData.depth]
  omega
theorem shI (ns : List Int) : SeqAt.shaped (dI ns) = true := by
  unfold SeqAt.shaped
  rw [layI]
  have := deepI ns
  simp
  omega
theorem eqI (ns : List Int) : PyData.eqv (dI ns) (dI ns) = true := SeqAt.eqv_refl _ (layI ns)
theorem lay2 (ns ks : List Int) : (PyData.list [dI ns, dI ks]).canLay0 = true := by
  show (PyData.canLay0 (dI ns) && (PyData.canLay0 (dI ks) && true)) = true
  rw [layI, layI]
  rfl
theorem sh2 (ns ks : List Int) : SeqAt.shaped (.list [dI ns, dI ks]) = true := by
  unfold SeqAt.shaped
  rw [lay2]
  have h1 := deepI ns
  have h2 := deepI ks
  have : (PyData.list [dI ns, dI ks]).depth ≤ 3 := by
    simp only [PyData.depth, PyData.depthAll] at *
    omega
  simp
  omega
theorem eq2 (ns ks : List Int) : PyData.eqv (.list [dI ns, dI ks]) (.list [dI ns, dI ks]) = true := SeqAt.eqv_refl _ (lay2 ns ks)
/-! ### boxes: dicts from texts to lists of ints -/
abbrev Ent := Str × Addr × List Int
def entK (L : List Ent) : List (Key × V) := L.map fun e => (Sum.inr e.1, V.ref e.2.1)
def getE (L : List Ent) (x : Str) : Option Ent := L.find? fun e => decide (e.1 = x)
def look (L : List Ent) (x : Str) : Option (List Int) := (getE L x).map (·.2.2)
theorem getE_nil (x : Str) : getE [] x = none := rfl
theorem getE_pos {e : Ent} {L : List Ent} {x : Str} (h : e.1 = x) : getE (e :: L) x = some e := by simp [getE, List.find?_cons, h]
theorem getE_neg {e : Ent} {L : List Ent} {x : Str} (h : ¬ e.1 = x) : getE (e :: L) x = getE L x := by simp [getE, List.find?_cons, h]
theorem getE_mem {L : List Ent} {x : Str} {e : Ent} (h : getE L x = some e) : e ∈ L ∧ e.1 = x :=
  ⟨List.mem_of_find?_eq_some h, of_decide_eq_true (List.find?_some (p := fun e : Ent => decide (e.1 = x)) h)⟩
theorem getE_of : ∀ {L : List Ent} {e : Ent}, (L.map (·.1)).Nodup → e ∈ L → getE L e.1 = some e
  | [], _, _, h => by cases h
  | a :: L, e, nd, h => by
    rw [List.map_cons, List.nodup_cons] at nd
    rcases List.mem_cons.mp h with z | z
    · rw [z]; exact getE_pos rfl
    · have ne : ¬ a.1 = e.1 := fun q => nd.1 (q ▸ List.mem_map_of_mem z)
      rw [getE_neg ne]
      exact getE_of nd.2 z
theorem getE_none {L : List Ent} {x : Str} : getE L x = none ↔ x ∉ L.map (·.1) := by
  unfold getE
  rw [List.find?_eq_none]
  constructor
  · intro h hx
    obtain ⟨e, he, q⟩ := List.mem_map.mp hx
    exact h e he (decide_eq_true q)
  · intro h e he q
    exact h (of_decide_eq_true q ▸ List.mem_map_of_mem he)
theorem look_mem {L : List Ent} {e : Ent} (nd : (L.map (·.1)).Nodup) (h : e ∈ L) : look L e.1 = some e.2.2 := by
  unfold look
  rw [getE_of nd h]
  rfl
theorem valV_ent (x : Str) : ∀ L : List Ent, valV (entK L) (.inr x) = (getE L x).map fun e => V.ref e.2.1
  | [] => rfl
  | e :: L => by
    by_cases h : e.1 = x
    · rw [getE_pos h]
      exact valV_pos (congrArg Sum.inr h)
    · rw [getE_neg h]
      have : valV (entK (e :: L)) (.inr x) = valV (entK L) (.inr x) := valV_neg (fun z => h (Sum.inr.inj z))
      rw [this]
      exact valV_ent x L
structure Bx (H : Hp) (d : Addr) (L : List Ent) : Prop where
  rd : Rd H d (.dK (entK L))
  sides : ∀ e ∈ L, H e.2.1 = some (.lst (e.2.2.map V.int))
  nd : (L.map (·.1)).Nodup
  few : L.length ≤ 40
theorem Rd.same {H H' : Hp} {a : Addr} {u : HO} (s : Same H H') (r : Rd H a u) : Rd H' a u := r.elim (fun h => .inl (s _ _ h)) fun ⟨o, h⟩ => .inr ⟨o, s _ _ h⟩
theorem Bx.same {H H' : Hp} {d : Addr} {L : List Ent} (B : Bx H d L) (s : Same H H') : Bx H' d L := ⟨Rd.same s B.rd, fun e he => s _ _ (B.sides e he), B.nd, B.few⟩
theorem Bx.get {H : Hp} {d : Addr} {L : List Ent} (B : Bx H d L) (x : Str) : DGet H d (.str x) ((getE L x).map fun e => V.ref e.2.1) := .inl ⟨entK L, .inr x, B.rd, rfl, (valV_ent x L).symm⟩
/-- a locked dict is read as before -/
theorem Bx.lock {H : Hp} {d d' : Addr} {L L' : List Ent} {od : Obj} (B : Bx H d L) (h : H d' = some (.dK (entK L'))) : Bx (upd H d' (.frz od (.dK (entK L')))) d L := by
  refine ⟨?_, fun e he => ?_, B.nd, B.few⟩
  · by_cases z : d = d'
    · subst z
      have : entK L' = entK L := by
        rcases B.rd with q | ⟨o, q⟩
        · rw [h] at q
          exact HO.dK.inj (Option.some.inj q)
        · rw [h] at q; cases q
      rw [← this]
      exact .inr ⟨od, upd_same⟩
    · rcases B.rd with q | ⟨o, q⟩
      · exact .inl (by rw [upd_ne z]; exact q)
      · exact .inr ⟨o, by rw [upd_ne z]; exact q⟩
  · have : e.2.1 ≠ d' := fun z => by have q := B.sides e he; rw [z, h] at q; cases q
    rw [upd_ne this]
    exact B.sides e he
theorem unlock {H H' : Hp} {d : Addr} {u : HO} {od : Obj} (h : H d = some u) (s : Same (upd H d (.frz od u)) H') : Same H (upd H' d u) := fun b o e => by
  by_cases z : b = d
  · subst z
    rw [upd_same]
    exact h.symm.trans e
  · rw [upd_ne z]
    exact s b o (by rw [upd_ne z]; exact e)
/-- put -/
def putE (L : List Ent) (x : Str) (a : Addr) (s : List Int) : List Ent := if (L.any fun e => decide (e.1 = x)) = true then L.map (fun e => if e.1 = x then (x, a, s) else e) else L ++ [(x, a, s)]
theorem any_ent (L : List Ent) (x : Str) : ((entK L).any fun kv => decide (kv.1 = Sum.inr x)) = L.any fun e => decide (e.1 = x) := by
  unfold entK
  rw [List.any_map]
  congr 1
  funext e
  simp
theorem putK_ent (L : List Ent) (x : Str) (a : Addr) (s : List Int) : putK (entK L) (.inr x) (V.ref a) = entK (putE L x a s) := by
  unfold putK putE
  rw [any_ent]
  by_cases h : (L.any fun e => decide (e.1 = x)) = true
  · rw [if_pos h, if_pos h]
    unfold entK
    rw [List.map_map, List.map_map]
    congr 1
    funext e
    by_cases z : e.1 = x
    · simp [z]
    · simp [z]
  · rw [if_neg h, if_neg h]
    unfold entK
    rw [List.map_append]
    rfl
theorem any_iff {L : List Ent} {x : Str} : (L.any fun e => decide (e.1 = x)) = true ↔ x ∈ L.map (·.1) := by
  rw [List.any_eq_true, List.mem_map]
  constructor
  · rintro ⟨e, he, q⟩; exact ⟨e, he, of_decide_eq_true q⟩
  · rintro ⟨e, he, q⟩; exact ⟨e, he, decide_eq_true q⟩
theorem putE_keys (L : List Ent) (x : Str) (a : Addr) (s : List Int) : (putE L x a s).map (·.1) = if x ∈ L.map (·.1) then L.map (·.1) else L.map (·.1) ++ [x] := by
  unfold putE
  by_cases h : (L.any fun e => decide (e.1 = x)) = true
  · rw [if_pos h, if_pos (any_iff.mp h), List.map_map]
    congr 1
    funext e
    by_cases z : e.1 = x
    · simp [z]
    · simp [z]
  · rw [if_neg h, if_neg (fun z => h (any_iff.mpr z)), List.map_append]
    rfl
theorem putE_nd {L : List Ent} {x : Str} {a : Addr} {s : List Int} (nd : (L.map (·.1)).Nodup) : ((putE L x a s).map (·.1)).Nodup := by
  rw [putE_keys]
  split
  · exact nd
  · rename_i h
    rw [List.nodup_append]
    exact ⟨nd, by simp, fun y hy z hz => by rw [List.mem_singleton.mp hz]; exact fun e => h (e ▸ hy)⟩
theorem putE_len (L : List Ent) (x : Str) (a : Addr) (s : List Int) : (putE L x a s).length ≤ L.length + 1 := by
  unfold putE
  split
  · rw [List.length_map]; omega
  · rw [List.length_append]; exact Nat.le_refl _
theorem putE_mem {L : List Ent} {x : Str} {a : Addr} {s : List Int} {e : Ent} (h : e ∈ putE L x a s) : e = (x, a, s) ∨ (e ∈ L ∧ e.1 ≠ x) := by
  unfold putE at h
  split at h
  · obtain ⟨f, hf, q⟩ := List.mem_map.mp h
    by_cases z : f.1 = x
    · rw [if_pos z] at q; exact .inl q.symm
    · rw [if_neg z] at q; exact .inr (q ▸ ⟨hf, z⟩)
  · rename_i g
    rcases List.mem_append.mp h with q | q
    · exact .inr ⟨q, fun z => g (any_iff.mpr (z ▸ List.mem_map_of_mem q))⟩
    · exact .inl (List.mem_singleton.mp q)
theorem find_map_at {x y : Str} {a : Addr} {s : List Int} (h : ¬ x = y) : ∀ L : List Ent, getE (L.map (fun e => if e.1 = x then (x, a, s) else e)) y = getE L y
  | [] => rfl
  | e :: L => by
    rw [List.map_cons]
    by_cases z : e.1 = x
    · rw [if_pos z, getE_neg (show ¬ (x, a, s).1 = y from h), getE_neg (fun q => h (z.symm.trans q))]
      exact find_map_at h L
    · rw [if_neg z]
      by_cases q : e.1 = y
      · rw [getE_pos q, getE_pos q]
      · rw [getE_neg q, getE_neg q]
        exact find_map_at h L
theorem find_map_self {x : Str} {a : Addr} {s : List Int} : ∀ L : List Ent, x ∈ L.map (·.1) → getE (L.map (fun e => if e.1 = x then (x, a, s) else e)) x = some (x, a, s)
  | [], h => by cases h
  | e :: L, h => by
    rw [List.map_cons]
    by_cases z : e.1 = x
    · rw [if_pos z]; exact getE_pos rfl
    · rw [if_neg z, getE_neg z]
      rw [List.map_cons] at h
      exact find_map_self L ((List.mem_cons.mp h).elim (fun q => absurd q.symm z) id)
theorem getE_app (L M : List Ent) (y : Str) : getE (L ++ M) y = (getE L y).or (getE M y) := List.find?_append
theorem getE_put (L : List Ent) (x y : Str) (a : Addr) (s : List Int) : getE (putE L x a s) y = if y = x then some (x, a, s) else getE L y := by
  unfold putE
  by_cases h : (L.any fun e => decide (e.1 = x)) = true
  · rw [if_pos h]
    by_cases z : y = x
    · rw [if_pos z, z]
      exact find_map_self L (any_iff.mp h)
    · rw [if_neg z]
      exact find_map_at (fun q => z q.symm) L
  · rw [if_neg h, getE_app]
    by_cases z : y = x
    · rw [if_pos z, z, getE_none.mpr (fun q => h (any_iff.mpr q))]
      exact getE_pos rfl
    · rw [if_neg z, show getE [(x, a, s)] y = none from getE_neg (fun q => z q.symm)]
      cases getE L y <;> rfl
theorem look_put (L : List Ent) (x y : Str) (a : Addr) (s : List Int) : look (putE L x a s) y = if y = x then some s else look L y := by
  unfold look
  rw [getE_put]
  by_cases z : y = x
  · rw [if_pos z, if_pos z]; rfl
  · rw [if_neg z, if_neg z]
/-- drop -/
def dropE (L : List Ent) (x : Str) : List Ent := L.filter fun e => decide (e.1 ≠ x)
theorem dropK_ent (L : List Ent) (x : Str) : dropK (entK L) (.inr x) = entK (dropE L x) := by
  unfold dropK dropE entK
  rw [List.filter_map]
  congr 1
  apply List.filter_congr
  intro e _
  simp
theorem getE_drop (x y : Str) : ∀ L : List Ent, getE (dropE L x) y = if y = x then none else getE L y
  | [] => by unfold dropE; simp [getE]
  | e :: L => by
    have ih := getE_drop x y L
    unfold dropE at ih ⊢
    by_cases z : e.1 = x
    · rw [List.filter_cons_of_neg (by simp [z]), ih]
      by_cases q : y = x
      · rw [if_pos q, if_pos q]
      · rw [if_neg q, if_neg q, getE_neg (fun w => q (w.symm.trans z))]
    · rw [List.filter_cons_of_pos (by simp [z])]
      by_cases w : e.1 = y
      · rw [getE_pos w, getE_pos w, if_neg (fun q => z (w.trans q))]
      · rw [getE_neg w, getE_neg w, ih]
theorem look_drop (L : List Ent) (x y : Str) : look (dropE L x) y = if y = x then none else look L y := by
  unfold look
  rw [getE_drop]
  by_cases q : y = x
  · rw [if_pos q, if_pos q]; rfl
  · rw [if_neg q, if_neg q]
theorem dropE_nd {L : List Ent} {x : Str} (nd : (L.map (·.1)).Nodup) : ((dropE L x).map (·.1)).Nodup := List.Pairwise.sublist (List.Sublist.map _ List.filter_sublist) nd
theorem dropE_mem {L : List Ent} {x : Str} {e : Ent} (h : e ∈ dropE L x) : e ∈ L := (List.mem_filter.mp h).1
theorem dropE_len (L : List Ent) (x : Str) : (dropE L x).length ≤ L.length := List.length_filter_le _ _
/-- two boxes that say the same -/
def SameB (L M : List Ent) : Prop := ∀ x, look L x = look M x
theorem look_isSome {L : List Ent} {x : Str} : (look L x).isSome = true ↔ x ∈ L.map (·.1) := by
  unfold look
  rw [Option.isSome_map]
  cases h : getE L x with
  | none => simp [getE_none.mp h]
  | some e => simp only [Option.isSome_some, true_iff]; obtain ⟨a, b⟩ := getE_mem h; exact b ▸ List.mem_map_of_mem a
theorem len_le {α : Type} [DecidableEq α] : ∀ {l m : List α}, l.Nodup → (∀ x ∈ l, x ∈ m) → l.length ≤ m.length
  | [], _, _, _ => Nat.zero_le _
  | x :: l, m, nd, h => by
    rw [List.nodup_cons] at nd
    have hx := h x List.mem_cons_self
    have ih := len_le (m := m.erase x) nd.2 (fun y hy => (List.mem_erase_of_ne (fun (e : y = x) => nd.1 (by rw [← e]; exact hy))).2 (h y (List.mem_cons_of_mem _ hy)))
    rw [List.length_erase_of_mem hx] at ih
    have : 0 < m.length := List.length_pos_of_mem hx
    rw [List.length_cons]
    omega
theorem SameB.len {L M : List Ent} (s : SameB L M) (n1 : (L.map (·.1)).Nodup) (n2 : (M.map (·.1)).Nodup) : L.length = M.length := by
  have h1 := len_le n1 (fun x hx => look_isSome.mp (by rw [← s x]; exact look_isSome.mpr hx))
  have h2 := len_le n2 (fun x hx => look_isSome.mp (by rw [s x]; exact look_isSome.mpr hx))
  rw [List.length_map, List.length_map] at h1 h2
  omega
/-- v in ks, as the model asks it -/
theorem in_ints (ks : List Int) (v : Int) : inV (.int v) (ks.map V.int) = decide (v ∈ ks) := by
  unfold inV
  induction ks with
  | nil => simp
  | cons k ks ih =>
    rw [List.map_cons, List.any_cons, ih]
    have e : eqV (.int k) (.int v) = decide (k = v) := by
      by_cases c : k = v
      · subst c; simp [eqV]
      · simp [eqV, c]
    rw [e]
    by_cases c : k = v
    · subst c; simp
    · have c2 : ¬ v = k := fun z => c z.symm
      simp [c, c2]
theorem flat_ints (ks : List Int) : (ks.map V.int).all flatV = true := by
  rw [List.all_map]
  exact List.all_eq_true.mpr fun _ _ => rfl
section
variable {P : Program} {w : World} {K : PySem.W.Frag} {mg : Str → Option Value} {base : Heap}
/-! ### the program: boxes -/
/-- a box that no walk has locked -/
structure Bu (H : Hp) (d : Addr) (L : List Ent) : Prop extends Bx H d L where
  un : H d = some (.dK (entK L))
theorem Bu.same' {H H' : Hp} {d : Addr} {L : List Ent} (B : Bu H d L) (s : Same H H') : Bu H' d L := ⟨B.toBx.same s, s _ _ B.un⟩
theorem upd_back {H : Hp} {d : Addr} {u x : HO} (h : H d = some u) : upd (upd H d x) d u = H := by
  funext b
  by_cases z : b = d
  · rw [z, upd_same, h]
  · rw [upd_ne z, upd_ne z]
theorem entK_get {L : List Ent} {i : Nat} : (entK L)[i]? = (L[i]?).map fun e => (Sum.inr e.1, V.ref e.2.1) := by
  unfold entK
  rw [List.getElem?_map]
/-! ### holds -/
def intK (A : List (Str × Int)) : List (Key × V) := A.map fun e => (Sum.inr e.1, V.int e.2)
def aget (A : List (Str × Int)) (x : Str) : Option Int := (A.find? fun e => decide (e.1 = x)).map (·.2)
theorem valV_int (x : Str) : ∀ A : List (Str × Int), valV (intK A) (.inr x) = (aget A x).map V.int
  | [] => rfl
  | e :: A => by
    by_cases h : e.1 = x
    · have : aget (e :: A) x = some e.2 := by simp [aget, List.find?_cons, h]
      rw [this]
      exact valV_pos (congrArg Sum.inr h)
    · have : aget (e :: A) x = aget A x := by simp [aget, List.find?_cons, h]
      rw [this]
      have : valV (intK (e :: A)) (.inr x) = valV (intK A) (.inr x) := valV_neg (fun z => h (Sum.inr.inj z))
      rw [this]
      exact valV_int x A
/-- an assignment: a dict from texts to ints -/
structure Ax (H : Hp) (d : Addr) (A : List (Str × Int)) : Prop where
  rd : Rd H d (.dK (intK A))
theorem Ax.same {H H' : Hp} {d : Addr} {A : List (Str × Int)} (B : Ax H d A) (s : Same H H') : Ax H' d A := ⟨Rd.same s B.rd⟩
theorem Ax.get {H : Hp} {d : Addr} {A : List (Str × Int)} (B : Ax H d A) (x : Str) : DGet H d (.str x) ((aget A x).map V.int) := .inl ⟨intK A, .inr x, B.rd, rfl, (valV_int x A).symm⟩
def inSide (A : List (Str × Int)) (e : Ent) : Bool := match aget A e.1 with
  | some v => decide (v ∈ e.2.2)
  | none => true
def holdsE (L : List Ent) (A : List (Str × Int)) : Bool := L.all (inSide A)
theorem same_frz {H H' : Hp} {d : Addr} {u : HO} {od : Obj} (h : H d = some u) (s : Same H H') : Same (upd H d (.frz od u)) (upd H' d (.frz od u)) := fun b o e => by
  by_cases z : b = d
  · subst z
    rw [upd_same] at e ⊢
    exact e
  · rw [upd_ne z] at e ⊢
    exact s _ _ e
theorem take_all {α : Type} {L : List α} {i : Nat} {e : α} {p : α → Bool} (h : L[i]? = some e) : (L.take (i + 1)).all p = ((L.take i).all p && p e) := by
  rw [List.take_add_one, h, List.all_append]
  simp
theorem not_all {α : Type} {L : List α} {i : Nat} {e : α} {p : α → Bool} (h : L[i]? = some e) (q : p e = false) : L.all p = false := by
  rw [List.all_eq_false]
  exact ⟨e, List.mem_of_getElem? h, by simp [q]⟩
theorem Ax.frz {H : Hp} {v d : Addr} {A : List (Str × Int)} {u : HO} (B : Ax H v A) (h : v ≠ d) : Ax (upd H d u) v A := ⟨B.rd.elim (fun q => .inl (by rw [upd_ne h]; exact q)) fun ⟨o, q⟩ => .inr ⟨o, by rw [upd_ne h]; exact q⟩⟩
theorem entK_len (L : List Ent) : (entK L).length = L.length := by unfold entK; rw [List.length_map]
theorem items_at {L : List Ent} {i : Nat} {x1 x2 : V} (g1 : ((entK L)[i]?.map fun kv => kV kv.1) = some x1) (g2 : ((entK L)[i]?.map Prod.snd) = some x2) : ∃ e, L[i]? = some e ∧ x1 = .str e.1 ∧ x2 = .ref e.2.1 := by
  rw [entK_get] at g1 g2
  cases c : L[i]? with
  | none => rw [c] at g1; cases g1
  | some e => rw [c] at g1 g2; exact ⟨e, rfl, (Option.some.inj g1).symm, (Option.some.inj g2).symm⟩
theorem keys_at {L : List Ent} {i : Nat} {k : Key} {v : V} (h : (entK L)[i]? = some (k, v)) : ∃ e, L[i]? = some e ∧ k = .inr e.1 ∧ v = .ref e.2.1 := by
  rw [entK_get] at h
  obtain ⟨e, he, q⟩ := Option.map_eq_some_iff.mp h
  cases q
  exact ⟨e, he, rfl, rfl⟩
/-! ### box_within -/
end
/-- a new box with sides of its own -/
structure Nb (H0 H : Hp) (d : Addr) (L : List Ent) : Prop extends Bu H d L where
  fresh : H0 d = none
  freshS : ∀ e ∈ L, H0 e.2.1 = none
  inj : (L.map (·.2.1)).Nodup
theorem Nb.pull {H H0 H1 : Hp} {d : Addr} {L : List Ent} (N : Nb H0 H1 d L) (s : Same H H0) : Nb H H1 d L := ⟨N.toBu, s.free N.fresh, fun e he => s.free (N.freshS e he), N.inj⟩
theorem Nb.push {H0 H1 H2 : Hp} {d : Addr} {L : List Ent} (N : Nb H0 H1 d L) (s : Same H1 H2) : Nb H0 H2 d L := ⟨N.toBu.same' s, N.fresh, N.freshS, N.inj⟩
abbrev shape (L : List Ent) : List (Str × List Int) := L.map fun e => (e.1, e.2.2)
theorem look_shape : ∀ {L M : List Ent}, shape L = shape M → SameB L M
  | [], [], _, _ => rfl
  | [], _ :: _, h, _ => by cases h
  | _ :: _, [], h, _ => by cases h
  | e :: L, f :: M, h, x => by
    simp only [shape, List.map_cons, List.cons.injEq, Prod.mk.injEq] at h
    obtain ⟨⟨h1, h2⟩, h3⟩ := h
    have ih := look_shape (L := L) (M := M) h3 x
    unfold look at ih ⊢
    by_cases z : e.1 = x
    · rw [getE_pos z, getE_pos (h1 ▸ z)]
      exact congrArg some h2
    · rw [getE_neg z, getE_neg (fun q => z (h1.trans q))]
      exact ih
theorem shape_keys {L M : List Ent} (h : shape L = shape M) : L.map (·.1) = M.map (·.1) := by
  have q := congrArg (List.map Prod.fst) h
  unfold shape at q
  rw [List.map_map, List.map_map] at q
  exact q
theorem putE_new {L : List Ent} {x : Str} {a : Addr} {s : List Int} (h : x ∉ L.map (·.1)) : putE L x a s = L ++ [(x, a, s)] := if_neg fun z => h (any_iff.mp z)
theorem nd_snoc {α : Type} {l : List α} {x : α} (nd : l.Nodup) (h : x ∉ l) : (l ++ [x]).Nodup := by
  rw [List.nodup_append]
  exact ⟨nd, by simp, fun y hy z hz => by rw [List.mem_singleton.mp hz]; exact fun e => h (e ▸ hy)⟩
theorem dc_it {J : It} {n : Nat} {G : Hp → Prop} {Y : Nat → Hp → V → Hp → Prop} (w : Walk J n G Y) {g : TG} {tt : TT} {tk tv : TE} {vs : List Nat} {σ : L2.St} {H1 : Hp} {D : Addr} {Qd : Hp → Prop} (Pv : Nat → Hp → Prop) (start : Pv 0 (upd H1 D (.dK []))) (stays : ∀ i H, i ≤ n → Pv i H → G H)
    (turn : ∀ i x H H', i < n → Pv i H → Y i H x H' → g x (wipe σ vs) H' fun σ2 H2 => wipe σ2 vs = wipe σ vs ∧ tt σ2 H2 fun b H3 =>
      if b = true then tk σ2 H3 fun y H4 => tv σ2 H4 fun z H5 => ∃ kvs k, y = kV k ∧ H5 D = some (.dK kvs) ∧ kvs.length < sizeLine ∧ Pv (i + 1) (upd H5 D (.dK (putK kvs k z))) else Pv (i + 1) H3) (after : ∀ H, Pv n H → Qd H) :
    ∃ W : Nat → Nat → Hp → Prop, (∃ m, W 0 m (upd H1 D (.dK []))) ∧ ∀ i m H, W i m H →
      (J.stop i H ∧ Qd H) ∨ (J.go i H ∧ ∃ Nx : Hp → Prop, (∀ H', Nx H' → ∃ m', m' < m ∧ W (i + 1) m' H') ∧ ∀ x H', J.yld i H x H' → g x (wipe σ vs) H' fun σ2 H2 => wipe σ2 vs = wipe σ vs ∧ tt σ2 H2 fun b H3 =>
        if b = true then tk σ2 H3 fun y H4 => tv σ2 H4 fun z H5 => ∃ kvs k, y = kV k ∧ H5 D = some (.dK kvs) ∧ kvs.length < sizeLine ∧ Nx (upd H5 D (.dK (putK kvs k z))) else Nx H3) := by
  refine ⟨fun i m H => m = n - i ∧ i ≤ n ∧ Pv i H, ⟨n, rfl, Nat.zero_le _, start⟩, fun i m H h => ?_⟩
  obtain ⟨em, le, pv⟩ := h
  by_cases lt : i < n
  · exact .inr ⟨w.goes i H lt (stays i H le pv), Pv (i + 1), fun H' p => ⟨n - (i + 1), by omega, rfl, lt, p⟩, fun x H' y => turn i x H H' lt pv (w.yields i H x H' lt (stays i H le pv) y)⟩
  · obtain rfl : i = n := by omega
    exact .inl ⟨w.stops H (stays _ H le pv), after H pv⟩
section
variable {P : Program} {w : World} {K : PySem.W.Frag} {mg : Str → Option Value} {base : Heap}
abbrev rLst (K : PySem.W.Frag) : List V → Hp → VK → Prop := fun xs H Q => ∃ p ys, xs = [.ref p] ∧ (SqL K H p ys ∨ SqT K H p ys) ∧ ∀ l, H l = none → Q (.ref l) (upd H l (.lst ys))
def spCopy : Sp := fun vs H Q _ => ∃ (d : Addr) (L : List Ent), vs = [.ref d] ∧ Bu H d L ∧ ∀ (H' : Hp) (d' : Addr) (M : List Ent), Same H H' → Nb H H' d' M → shape M = shape L → Q (.ref d') H'
end
/-! ### what two sorted lists have together -/
def ins (k : Int) : List Int → List Int
  | [] => [k]
  | x :: l => if k < x then k :: x :: l else if k = x then x :: l else x :: ins k l
theorem ins_mem (k j : Int) : ∀ l : List Int, j ∈ ins k l ↔ j = k ∨ j ∈ l
  | [] => by simp [ins]
  | x :: l => by
    unfold ins
    by_cases a : k < x
    · rw [if_pos a]; simp
    · rw [if_neg a]
      by_cases b : k = x
      · rw [if_pos b, b]; simp
      · rw [if_neg b, List.mem_cons, ins_mem k j l, List.mem_cons]
        constructor
        · rintro (h | h | h)
          · exact .inr (.inl h)
          · exact .inl h
          · exact .inr (.inr h)
        · rintro (h | h | h)
          · exact .inr (.inl h)
          · exact .inl h
          · exact .inr (.inr h)
theorem ins_srt (k : Int) : ∀ l : List Int, Srt l → Srt (ins k l)
  | [], _ => List.pairwise_singleton _ _
  | x :: l, s => by
    obtain ⟨s1, s2⟩ := List.pairwise_cons.mp s
    unfold ins
    by_cases a : k < x
    · rw [if_pos a]
      refine List.pairwise_cons.mpr ⟨fun y hy => ?_, s⟩
      rcases List.mem_cons.mp hy with h | h
      · rw [h]; exact a
      · have := s1 y h; omega
    · rw [if_neg a]
      by_cases b : k = x
      · rw [if_pos b]; exact s
      · rw [if_neg b]
        refine List.pairwise_cons.mpr ⟨fun y hy => ?_, ins_srt k l s2⟩
        rcases (ins_mem k y l).mp hy with h | h
        · rw [h]; omega
        · exact s1 y h
theorem ins_len (k : Int) : ∀ l : List Int, (ins k l).length ≤ l.length + 1
  | [] => Nat.le_refl _
  | x :: l => by
    have := ins_len k l
    unfold ins
    split
    · simp
    · split
      · simp
      · simp only [List.length_cons]; omega
def uni (a b : List Int) : List Int := b.foldr ins a
theorem uni_mem (a : List Int) (j : Int) : ∀ b : List Int, j ∈ uni a b ↔ j ∈ a ∨ j ∈ b
  | [] => by simp [uni]
  | k :: b => by
    have ih := uni_mem a j b
    show j ∈ ins k (uni a b) ↔ _
    rw [ins_mem, ih, List.mem_cons]
    constructor
    · rintro (h | h | h)
      · exact .inr (.inl h)
      · exact .inl h
      · exact .inr (.inr h)
    · rintro (h | h | h)
      · exact .inr (.inl h)
      · exact .inl h
      · exact .inr (.inr h)
theorem uni_srt {a : List Int} (s : Srt a) : ∀ b : List Int, Srt (uni a b)
  | [] => s
  | k :: b => ins_srt k _ (uni_srt s b)
theorem uni_len (a : List Int) : ∀ b : List Int, (uni a b).length ≤ a.length + b.length
  | [] => Nat.le_refl _
  | k :: b => by
    have h1 := ins_len k (uni a b)
    have h2 := uni_len a b
    show (ins k (uni a b)).length ≤ a.length + (b.length + 1)
    omega
def both (a s : List Int) : List Int := a.filter fun k => decide (k ∈ s)
theorem both_srt {a s : List Int} (h : Srt a) : Srt (both a s) := List.Pairwise.filter _ h
theorem both_mem (a s : List Int) (k : Int) : k ∈ both a s ↔ k ∈ a ∧ k ∈ s := by
  unfold both
  rw [List.mem_filter, decide_eq_true_iff]
theorem look_snoc (L : List Ent) (e : Ent) (y : Str) (h : e.1 ∉ L.map (·.1)) : look (L ++ [e]) y = if y = e.1 then some e.2.2 else look L y := by
  unfold look
  rw [getE_app]
  by_cases z : y = e.1
  · rw [if_pos z, z, getE_none.mpr h, getE_pos rfl]
    rfl
  · rw [if_neg z, getE_neg (fun q => z q.symm), getE_nil]
    cases getE L y <;> rfl
theorem take_keys {L : List Ent} {i : Nat} {e : Ent} (nd : (L.map (·.1)).Nodup) (he : L[i]? = some e) : e.1 ∉ (L.take i).map (·.1) := by
  intro z
  obtain ⟨g, hg, eg⟩ := List.mem_map.mp z
  obtain ⟨j, hj⟩ := List.mem_iff_getElem?.mp hg
  rw [List.getElem?_take] at hj
  split at hj
  · rename_i hji
    have a1 : (L.map (·.1))[j]? = some e.1 := by rw [List.getElem?_map, hj]; exact congrArg some eg
    have a2 : (L.map (·.1))[i]? = some e.1 := by rw [List.getElem?_map, he]; rfl
    have := nd_ix nd a1 a2
    omega
  · cases hj
theorem look_take {L : List Ent} {i : Nat} {e : Ent} (nd : (L.map (·.1)).Nodup) (he : L[i]? = some e) (y : Str) : look (L.take (i + 1)) y = if y = e.1 then some e.2.2 else look (L.take i) y := by
  rw [List.take_add_one, he]
  exact look_snoc (L.take i) e y (take_keys nd he)
structure Sz (L : List Ent) (n : Nat) : Prop where
  srt : ∀ e ∈ L, Srt e.2.2
  len : ∀ e ∈ L, e.2.2.length ≤ n
theorem look_of {L : List Ent} {x : Str} {s : List Int} (h : look L x = some s) : ∃ e ∈ L, e.1 = x ∧ e.2.2 = s := by
  unfold look at h
  obtain ⟨e, he, q⟩ := Option.map_eq_some_iff.mp h
  obtain ⟨a, b⟩ := getE_mem he
  exact ⟨e, a, b, q⟩
/-- what a new box needs when one more side is put -/
theorem Nb.put {H0 H H3 : Hp} {d l : Addr} {M : List Ent} {x : Str} {s : List Int} (N : Nb H0 H d M) (n0 : H0 l = none) (nl : H l = none) (s3 : Same H H3) (el : H3 l = some (.lst (s.map V.int))) (few : M.length + 1 ≤ 40) :
    Nb H0 (upd H3 d (.dK (entK (putE M x l s)))) d (putE M x l s) := by
  have nld : l ≠ d := fun z => by rw [z, N.un] at nl; cases nl
  have sd : ∀ e ∈ putE M x l s, (upd H3 d (.dK (entK (putE M x l s)))) e.2.1 = some (.lst (e.2.2.map V.int)) := fun e he => by
    rcases putE_mem he with z | ⟨z, _⟩
    · rw [z, upd_ne nld]
      exact el
    · have h1 := N.sides e z
      have h2 : e.2.1 ≠ d := fun w => by rw [w, N.un] at h1; cases h1
      rw [upd_ne h2]
      exact s3 _ _ h1
  refine ⟨⟨⟨.inl upd_same, sd, putE_nd N.nd, by have := putE_len M x l s; omega⟩, upd_same⟩, N.fresh, fun e he => ?_, ?_⟩
  · rcases putE_mem he with z | ⟨z, _⟩
    · rw [z]; exact n0
    · exact N.freshS e z
  · have lM : l ∉ M.map (·.2.1) := fun w => by
      obtain ⟨g, hg, eg⟩ := List.mem_map.mp w
      have eg' : g.2.1 = l := eg
      have h1 := N.sides g hg
      rw [eg', nl] at h1
      cases h1
    unfold putE
    split
    · rw [List.map_map]
      have key : ∀ L : List Ent, (L.map (·.1)).Nodup → (L.map (·.2.1)).Nodup → l ∉ L.map (·.2.1) → (L.map ((fun e : Ent => e.2.1) ∘ fun e => if e.1 = x then (x, l, s) else e)).Nodup ∧ ∀ q ∈ L.map ((fun e : Ent => e.2.1) ∘ fun e => if e.1 = x then (x, l, s) else e), q ∈ L.map (·.2.1) ∨ (q = l ∧ x ∈ L.map (·.1)) := by
        intro L
        induction L with
        | nil => intro _ _ _; exact ⟨List.Pairwise.nil, fun q hq => by cases hq⟩
        | cons e L ih =>
          intro n1 n2 n3
          rw [List.map_cons, List.nodup_cons] at n1 n2
          rw [List.map_cons, List.mem_cons, not_or] at n3
          obtain ⟨i1, i2⟩ := ih n1.2 n2.2 n3.2
          rw [List.map_cons, List.nodup_cons]
          by_cases c : e.1 = x
          · have ef : ((fun e : Ent => e.2.1) ∘ fun e => if e.1 = x then (x, l, s) else e) e = l := by simp [c]
            rw [ef]
            refine ⟨⟨fun w => ?_, i1⟩, fun q hq => ?_⟩
            · rcases i2 l w with z | ⟨_, z⟩
              · exact n3.2 z
              · exact n1.1 (c ▸ z)
            · rcases List.mem_cons.mp hq with z | z
              · exact .inr ⟨z, by rw [List.map_cons, c]; exact List.mem_cons_self⟩
              · rcases i2 q z with y | ⟨y1, y2⟩
                · exact .inl (List.mem_cons_of_mem _ y)
                · exact .inr ⟨y1, List.mem_cons_of_mem _ y2⟩
          · have ef : ((fun e : Ent => e.2.1) ∘ fun e => if e.1 = x then (x, l, s) else e) e = e.2.1 := by simp [c]
            rw [ef]
            refine ⟨⟨fun w => ?_, i1⟩, fun q hq => ?_⟩
            · rcases i2 _ w with z | ⟨z, _⟩
              · exact n2.1 z
              · exact n3.1 z.symm
            · rcases List.mem_cons.mp hq with z | z
              · exact .inl (by rw [z]; exact List.mem_cons_self)
              · rcases i2 q z with y | ⟨y1, y2⟩
                · exact .inl (List.mem_cons_of_mem _ y)
                · exact .inr ⟨y1, List.mem_cons_of_mem _ y2⟩
      exact (key M N.nd N.inj lM).1
    · rw [List.map_append]
      exact nd_snoc N.inj lM
theorem Same.unl {H H' : Hp} {d : Addr} {u : HO} {od : Obj} (h : H d = some u) (s : Same (upd H d (.frz od u)) H') : Same H (upd H' d u) := unlock h s
/-- a new box behind a lock elsewhere -/
theorem Nb.unl {H0 H' : Hp} {b d : Addr} {u : HO} {M : List Ent} {od : Obj} (N : Nb H0 H' d M) (hb : H0 b = some u) (eF : H' b = some (.frz od u)) : Nb H0 (upd H' b u) d M := by
  have db : d ≠ b := fun z => by have := N.un; rw [z, eF] at this; cases this
  have away : ∀ g ∈ M, g.2.1 ≠ b := fun g hg z => by have := N.sides g hg; rw [z, eF] at this; cases this
  exact ⟨⟨⟨.inl (by rw [upd_ne db]; exact N.un), fun g hg => by rw [upd_ne (away g hg)]; exact N.sides g hg, N.nd, N.few⟩, by rw [upd_ne db]; exact N.un⟩, N.fresh, N.freshS, N.inj⟩
theorem Nb.lck {H0 H : Hp} {b d : Addr} {u : HO} {M : List Ent} {od : Obj} (N : Nb H0 H d M) (hb : H0 b ≠ none) : Nb H0 (upd H b (.frz od u)) d M := by
  have db : d ≠ b := fun z => hb (z ▸ N.fresh)
  have away : ∀ g ∈ M, g.2.1 ≠ b := fun g hg z => hb (z ▸ N.freshS g hg)
  exact ⟨⟨⟨.inl (by rw [upd_ne db]; exact N.un), fun g hg => by rw [upd_ne (away g hg)]; exact N.sides g hg, N.nd, N.few⟩, by rw [upd_ne db]; exact N.un⟩, N.fresh, N.freshS, N.inj⟩
section
variable {P : Program} {w : World} {K : PySem.W.Frag} {mg : Str → Option Value} {base : Heap}
end
theorem ne_some' {H : Hp} {p q : Addr} {o : HO} (h : H p = some o) (n : H q = none) : p ≠ q := fun e => by rw [e, n] at h; cases h
section
variable {P : Program} {w : World} {K : PySem.W.Frag} {mg : Str → Option Value} {base : Heap}
/-! ### the pool, a part of it -/
abbrev sPool : Stmt := topS 40
abbrev nPool : List Str := ["_law_stream_here", "_law_count", "_law_pool_here", "_law_k", "_law_scale", "_law_value"]
abbrev nPart : List Str := ["_law_stream_here", "_law_side", "_law_value"]
theorem scPool : FnScope nPool ["_law_stream_here", "_law_count"] (defScope sPool) := ⟨rfl, rfl, rfl, by decide +kernel, rfl, by decide +kernel, by decide +kernel⟩
theorem srt_snoc {ss : List Int} {v : Int} (s : Srt ss) (h : ∀ k ∈ ss, k < v) : Srt (ss ++ [v]) :=
  List.pairwise_append.mpr ⟨s, List.pairwise_singleton _ _, fun a ha b hb => by rw [List.mem_singleton.mp hb]; exact h a ha⟩
def spPool : Sp := fun vs H Q _ => ∃ (p : Addr) (m : Nat), vs = [.ref p, .int (m : Int)] ∧ Strm H p ∧ 1 ≤ m ∧ m ≤ 100 ∧
  ∀ (H' : Hp) (l : Addr) (ns : List Int), Keep p H H' → H l = none → Strm H' p → H' l = some (.lst (ns.map V.int)) → Srt ns → ns.length = m → Q (.ref l) H'
theorem ok_pool {f fD : Addr} {fd fdD : FuncData} (F : Fun K "_law_pool" "_law_pool" sPool f fd) (B : Bt mg) (D : Call P w K mg base 1 "_law_next" fD fdD ["_law_stream_here", "_law_size"] spDraw) :
    FnOk P w K mg base CX0 2 f fd ["_law_stream_here", "_law_count"] spPool := by
  refine F.ok scPool (fun vs H Q E h => ?_) (fun cdv A outer s H vs Q E hr h => ?_)
  · obtain ⟨p, m, rfl, _⟩ := h
    rfl
  · obtain ⟨p, m, rfl, hp, m0, m1, q⟩ := h
    have nd := scPool.nd
    refine ⟨_, pss_cons (ps_set (i := 2) nd rfl (.inl rfl) (pe_lst (pa_cons (pe_op op_sub (pe_call D.ok hr (by rfl) D.at_ D.kp D.bd .nil pass0 (pa_cons (pv 0) (pa_cons pe_int pa_nil))) pe_int) pa_nil)))
      (pss_cons (ps_for PassesOwn.never rfl (pi_range1 (by rfl) B.range (pa_cons (pe_op op_sub (pv 1) pe_int) pa_nil)) (pg_name (i := 3) nd rfl (.inl rfl))
        (pss_one (ps_expr (pe_bm PySem.F.plainAttrs_list PySem.F.slot_list_append PySem.F.type_list_append mt_append (pv 2) (pa_cons
          (pe_op op_add (pe_op op_add (pe_ix ix_list (pv 2) (pv 3) (fun _ _ => rfl)) pe_int) (pe_op op_mul pe_int (pe_op op_fdiv (pe_call D.ok hr (by rfl) D.at_ D.kp D.bd .nil pass0 (pa_cons (pv 0) (pa_cons pe_int pa_nil))) pe_int))) pa_nil)))))
      (pss_cons (ps_set (i := 4) nd rfl (.inr rfl) (pe_ix ix_list (pe_lst (pa_cons pe_int (pa_cons pe_int (pa_cons pe_int (pa_cons pe_int (pa_cons pe_int (pa_cons pe_int (pa_cons pe_int (pa_cons (pe_op op_pow pe_int pe_int) pa_nil)))))))))
          (pe_call D.ok hr (by rfl) D.at_ D.kp D.bd .nil pass0 (pa_cons (pv 0) (pa_cons pe_int pa_nil))) (fun _ _ => rfl)))
      (pss_one (ps_ret (pe_lc (own := [("_law_value", 5)]) (g := gName 5) (tt := tYes) rfl nd (pi_list (pv 2)) (blkOk_by (N := nPool) (sc := defScope sPool) (by decide +kernel)) (fun _ _ _ _ _ => pg_name (i := 5) nd rfl (Or.inl rfl)) (fun _ _ _ _ _ => pts_nil)
        (fun _ _ _ _ _ => pe_op op_mul (pv 5) (pv 4))))))), ?_⟩
    refine ⟨.ref p, rfl, p, 9, rfl, hp, by decide, by decide, fun H1 d o1 st1 d0 d1 => ⟨d, 4, rfl, rfl, by show 1 ≤ sizeLine; decide, fun l nl1 => ?_⟩⟩
    have npl : p ≠ l := fun z => st1.some (z ▸ nl1)
    have nl : H l = none := by rw [← o1 l npl.symm]; exact nl1
    refine ⟨.int (m : Int), rfl, (m : Int), 1, rfl, rfl, (m : Int) - 1, rfl, by omega, by omega, for_range (lo := 0) (n := ((m : Int) - 1).toNat) (fun i σ H' => ∃ (y3 : Option V) (ns : List Int), σ = [some (.ref p), some (.int (m : Int)), some (.ref l), y3, none, none] ∧ Keep p H H' ∧ Strm H' p ∧ H' l = some (.lst (ns.map V.int)) ∧ Srt ns ∧ ns.length = i + 1 ∧ ∃ z, ns = ns.take i ++ [z])
      ⟨none, [d - 4], rfl, ((Keep.refl p H).oth o1).at_ nl, st1.upd npl, upd_same, List.pairwise_singleton _ _, rfl, d - 4, rfl⟩ ?_ ?_⟩
    · rintro i σ H' hi ⟨y3, ns, rfl, kp, st, el, so, len, z, ez⟩
      have gz : (ns.map V.int)[i]? = some (.int z) := by
        rw [ez, List.map_append, List.getElem?_append_right (by rw [List.length_map, List.length_take]; omega)]
        rw [List.length_map, List.length_take, show i - min i ns.length = 0 by omega]
        rfl
      refine ⟨.ref l, rfl, .inl ⟨rfl, _, sl_map el⟩, .ref l, rfl, .int (0 + (i : Int)), rfl, l, _, _, _, rfl, rfl, sl_map el, at_of (by omega) gz, z, 1, rfl, rfl, .ref p, rfl, p, 4, rfl, st, by decide, by decide, fun H2 e o2 st2 e0 e1 => ?_⟩
      refine ⟨e, 3, rfl, rfl, ⟨by decide, by decide⟩, 2, e / 3, rfl, rfl, .inl ⟨by decide, by decide⟩, z + 1, 2 * (e / 3), rfl, rfl, l, _, _, rfl, rfl, (o2 l npl.symm).trans el, ?_, ?_⟩
      · rw [List.length_map]
        exact small1000 (by omega)
      · have e3 : 0 ≤ e / 3 := Int.ediv_nonneg e0 (by decide)
        refine ⟨_, ns ++ [z + 1 + 2 * (e / 3)], rfl, (kp.oth o2).at_ nl, st2.upd npl, by rw [upd_same, List.map_append]; rfl, srt_snoc so fun k hk => ?_, by rw [List.length_append, len]; rfl, z + 1 + 2 * (e / 3), ?_⟩
        · rw [ez] at hk so
          rcases List.mem_append.mp hk with h | h
          · have := (List.pairwise_append.mp so).2.2 k h z (List.mem_singleton.mpr rfl)
            omega
          · have := List.mem_singleton.mp h
            omega
        · rw [List.take_append_of_le_length (by omega), List.take_of_length_le (by omega)]
    · rintro σ H' ⟨y3, ns, rfl, kp, st, el, so, len, z, ez⟩
      refine ⟨10, 9, rfl, rfl, ⟨by decide, by decide, by decide⟩, by show 8 ≤ sizeLine; decide, fun t nt => ?_⟩
      have npt : p ≠ t := fun e => st.some (e ▸ nt)
      have nlt : l ≠ t := ne_some' el nt
      refine ⟨.ref p, rfl, p, 8, rfl, st.upd npt, by decide, by decide, fun H2 e o2 st2 e0 e1 => ?_⟩
      have et : H2 t = some (.lst [V.int 1, V.int 1, V.int 1, V.int 1, V.int 1, V.int 1, V.int 7, V.int (10 ^ (9 : Int).toNat)]) := (o2 t npt.symm).trans upd_same
      obtain ⟨sc, hsc, sc0, sc1⟩ : ∃ sc : Int, atI [V.int 1, V.int 1, V.int 1, V.int 1, V.int 1, V.int 1, V.int 7, V.int (10 ^ (9 : Int).toNat)] e = some (.int sc) ∧ 0 < sc ∧ sc < 2 ^ 64 := by
        have : e = 0 ∨ e = 1 ∨ e = 2 ∨ e = 3 ∨ e = 4 ∨ e = 5 ∨ e = 6 ∨ e = 7 := by omega
        rcases this with h | h | h | h | h | h | h | h
        · exact ⟨_, by rw [h]; exact atI_nat (j := 0) rfl, by decide, by decide⟩
        · exact ⟨_, by rw [h]; exact atI_nat (j := 1) rfl, by decide, by decide⟩
        · exact ⟨_, by rw [h]; exact atI_nat (j := 2) rfl, by decide, by decide⟩
        · exact ⟨_, by rw [h]; exact atI_nat (j := 3) rfl, by decide, by decide⟩
        · exact ⟨_, by rw [h]; exact atI_nat (j := 4) rfl, by decide, by decide⟩
        · exact ⟨_, by rw [h]; exact atI_nat (j := 5) rfl, by decide, by decide⟩
        · exact ⟨_, by rw [h]; exact atI_nat (j := 6) rfl, by decide, by decide⟩
        · exact ⟨_, by rw [h]; exact atI_nat (j := 7) rfl, by decide, by decide⟩
      refine ⟨t, _, e, .int sc, rfl, rfl, sl_map et, hsc, ?_⟩
      have el2 : H2 l = some (.lst (ns.map V.int)) := by rw [o2 l npl.symm, upd_ne nlt]; exact el
      have kp2 : Keep p H H2 := (kp.at_ (kp.free st nt)).oth o2
      refine ⟨.ref l, rfl, l, rfl, ⟨_, sl_map el2⟩, fun R nR => lc_list (xs := ns.map V.int) (fun i H3 => Same H2 H3 ∧ H3 R = some (.lst (((ns.take i).map (· * sc)).map V.int))) ⟨same_new nR, upd_same⟩ (fun i H3 _ h => h.1.seq (sl_map el2)) ?_ ?_⟩
      · rintro i x H3 hx ⟨sm, eR⟩
        rw [List.getElem?_map] at hx
        obtain ⟨v, hv, rfl⟩ := Option.map_eq_some_iff.mp hx
        have hi := (List.getElem?_eq_some_iff.mp hv).1
        refine ⟨rfl, .int v, rfl, .int sc, rfl, v, sc, rfl, rfl, .inr ⟨by omega, by omega⟩, _, eR, ?_, same_at sm nR, ?_⟩
        · rw [List.length_map, List.length_map, List.length_take]
          exact small1000 (by omega)
        · rw [upd_same, List.take_add_one, hv, List.map_append, List.map_append]
          rfl
      · rintro H3 ⟨sm, eR⟩
        rw [List.length_map, List.take_length] at eR
        refine q H3 R _ (fun b u hb e => sm _ _ (kp2 b u hb e)) (kp2.free st2 nR) (st2.keep (Keep.same (p := R) sm) (fun z => st2.some (z ▸ nR))) eR ?_ ?_
        · unfold Srt
          rw [List.pairwise_map]
          exact so.imp fun h => Int.mul_lt_mul_of_pos_right h sc0
        · rw [List.length_map]
          omega
def spPart (K : PySem.W.Frag) : Sp := fun vs H Q _ => ∃ (p a : Addr) (ns : List Int), vs = [.ref p, .ref a] ∧ Strm H p ∧ H a = some (.lst (ns.map V.int)) ∧ p ≠ a ∧ ns.length ≤ 1000 ∧
  ∀ (H' : Hp) (l : Addr) (ms : List Int), Keep p H H' → H l = none → Strm H' p → H' l = some (.lst (ms.map V.int)) → ms.Sublist ns → Q (.ref l) H'
end
/-! ### names -/
def plainN : List Str := ["x", "yard", "z", "u", "wide_one", "q", "pp", "t"]
def lettersN : Str := "qwertyuiopasdfghjklzxcvbnm_zyx"
def digitsN : Str := "7305186429"
theorem plain_nodup : ((List.range 8).all fun s => decide (((List.range 8).map fun k => plainN.getD ((k * 3 + s) % 8) "x").Nodup)) = true := by decide +kernel
def isDig (c : Nat) : Bool := decide (48 ≤ c) && decide (c ≤ 57)
def mark (z : Str) : Option Nat := z.cps.toList.find? isDig
theorem letters_none : (lettersN.cps.toList.all fun c => !isDig c) = true := by decide +kernel
theorem digits_are : (digitsN.cps.toList.all isDig) = true := by decide +kernel
theorem digits_nodup : digitsN.cps.toList.Nodup := by decide +kernel
theorem digits_len : digitsN.cps.toList.length = 10 := by decide +kernel
theorem letters_len : lettersN.length = 30 := by decide +kernel
theorem cut_letters (lo hi : Option Int) : ∀ c ∈ (cutS lettersN lo hi).cps.toList, isDig c = false := fun c hc => by
  have h1 : c ∈ lettersN.cps.toList := by
    have : (cutS lettersN lo hi).cps.toList = (lettersN.cps.toList.drop (HT.sIx lettersN.length 0 lo)).take (HT.sIx lettersN.length lettersN.length hi - HT.sIx lettersN.length 0 lo) := by
      unfold cutS
      simp
    rw [this] at hc
    exact List.mem_of_mem_drop (List.mem_of_mem_take hc)
  have := List.all_eq_true.mp letters_none c h1
  simpa using this
theorem cut_len (lo hi : Option Int) : (cutS lettersN lo hi).length ≤ 30 := by
  have h : (cutS lettersN lo hi).cps.toList.length ≤ 30 := by
    unfold cutS
    simp only [List.toList_toArray]
    have l : lettersN.cps.toList.length = 30 := letters_len
    rw [List.length_take, List.length_drop]
    omega
  exact h
theorem mark_of (x t : Str) (c : Nat) (hx : ∀ d ∈ x.cps.toList, isDig d = false) (hc : isDig c = true) : mark (x ++ ⟨#[c]⟩ ++ t) = some c := by
  unfold mark
  have e : (x ++ ⟨#[c]⟩ ++ t).cps.toList = x.cps.toList ++ [c] ++ t.cps.toList := by
    show ((x.cps ++ #[c]) ++ t.cps).toList = _
    simp
  rw [e, List.append_assoc, List.find?_append]
  have : x.cps.toList.find? isDig = none := List.find?_eq_none.mpr fun d hd => by rw [hx d hd]; simp
  rw [this]
  show (([c] ++ t.cps.toList).find? isDig) = some c
  simp [hc]
theorem ok_of {x : Str} (h : ∀ c ∈ x.cps.toList, c < 0x110000) : PyData.strOk x = true := by
  unfold PyData.strOk
  rw [← Array.all_toList]
  exact List.all_eq_true.mpr fun c hc => decide_eq_true (h c hc)
theorem plain_ok : (plainN.all fun x => PyData.strOk x) = true := by decide +kernel
theorem letters_low : (lettersN.cps.toList.all fun c => decide (c < 0x110000)) = true := by decide +kernel
theorem digits_low : (digitsN.cps.toList.all fun c => decide (c < 0x110000)) = true := by decide +kernel
theorem cut_low (lo hi : Option Int) : ∀ c ∈ (cutS lettersN lo hi).cps.toList, c < 0x110000 := fun c hc => by
  have h1 : c ∈ lettersN.cps.toList := by
    have : (cutS lettersN lo hi).cps.toList = (lettersN.cps.toList.drop (HT.sIx lettersN.length 0 lo)).take (HT.sIx lettersN.length lettersN.length hi - HT.sIx lettersN.length 0 lo) := by
      unfold cutS
      simp
    rw [this] at hc
    exact List.mem_of_mem_drop (List.mem_of_mem_take hc)
  exact of_decide_eq_true (List.all_eq_true.mp letters_low c h1)
theorem name_ok (lo hi lo2 hi2 : Option Int) (c : Nat) (hc : c ∈ digitsN.cps.toList) : PyData.strOk (cutS lettersN lo hi ++ ⟨#[c]⟩ ++ cutS lettersN lo2 hi2) = true := ok_of fun d hd => by
  have e : (cutS lettersN lo hi ++ ⟨#[c]⟩ ++ cutS lettersN lo2 hi2).cps.toList = (cutS lettersN lo hi).cps.toList ++ [c] ++ (cutS lettersN lo2 hi2).cps.toList := by
    show (((cutS lettersN lo hi).cps ++ #[c]) ++ (cutS lettersN lo2 hi2).cps).toList = _
    simp
  rw [e] at hd
  rcases List.mem_append.mp hd with h | h
  · rcases List.mem_append.mp h with h | h
    · exact cut_low lo hi d h
    · rw [List.mem_singleton.mp h]
      exact of_decide_eq_true (List.all_eq_true.mp digits_low c hc)
  · exact cut_low lo2 hi2 d h
theorem str_one (c : Nat) : (⟨#[c]⟩ : Str).length = 1 := rfl
theorem len_app (x y : Str) : (x ++ y).length = x.length + y.length := by
  show (x.cps ++ y.cps).size = _
  exact Array.size_append
section
variable {P : Program} {w : World} {K : PySem.W.Frag} {mg : Str → Option Value} {base : Heap}
abbrev sNames : Stmt := topS 39
abbrev nNames : List Str := ["_law_stream_here", "_law_count", "_law_shift", "_law_plain", "_law_k", "_law_letters", "_law_names_here", "_law_at", "_law_size", "_law_tail"]
theorem scNames : FnScope nNames ["_law_stream_here", "_law_count"] (defScope sNames) := ⟨rfl, rfl, rfl, by decide +kernel, rfl, by decide +kernel, by decide +kernel⟩
def spNames : Sp := fun vs H Q _ => ∃ (p : Addr) (m : Nat), vs = [.ref p, .int (m : Int)] ∧ Strm H p ∧ m ≤ 8 ∧
  ∀ (H' : Hp) (l : Addr) (xs : List Str), Keep p H H' → H l = none → Strm H' p → H' l = some (.lst (xs.map V.str)) → xs.Nodup → xs.length = m → (∀ x ∈ xs, PyData.strOk x = true) → Q (.ref l) H'
theorem ok_names {f fD : Addr} {fd fdD : FuncData} (F : Fun K "_law_names" "_law_names" sNames f fd) (B : Bt mg) (D : Call P w K mg base 1 "_law_next" fD fdD ["_law_stream_here", "_law_size"] spDraw) :
    FnOk P w K mg base CX0 2 f fd ["_law_stream_here", "_law_count"] spNames := by
  refine F.ok scNames (fun vs H Q E h => ?_) (fun cdv A outer s H vs Q E hr h => ?_)
  · obtain ⟨p, m, rfl, _⟩ := h
    rfl
  · obtain ⟨p, m, rfl, hp, m8, q⟩ := h
    have nd := scNames.nd
    refine ⟨_, pss_cons (ps_if (pt_cmpR op_eq (pe_call D.ok hr (by rfl) D.at_ D.kp D.bd .nil pass0 (pa_cons (pv 0) (pa_cons pe_int pa_nil))) pe_int (nomark _))
        (pss_cons (ps_set (i := 2) nd rfl (.inr rfl) (pe_call D.ok hr (by rfl) D.at_ D.kp D.bd .nil pass0 (pa_cons (pv 0) (pa_cons pe_int pa_nil))))
        (pss_cons (ps_set (i := 3) nd rfl (.inr rfl) (pe_lst (pa_cons pe_str (pa_cons pe_str (pa_cons pe_str (pa_cons pe_str (pa_cons pe_str (pa_cons pe_str (pa_cons pe_str (pa_cons pe_str pa_nil))))))))))
        (pss_one (ps_ret (pe_lc (own := [("_law_k", 4)]) (g := gName 4) (tt := tYes) rfl nd (pi_range1 (by rfl) B.range (pa_cons (pv 1) pa_nil)) (blkOk_by (N := nNames) (sc := defScope sNames) (by decide +kernel)) (fun _ _ _ _ _ => pg_name (i := 4) nd rfl (Or.inl rfl)) (fun _ _ _ _ _ => pts_nil)
          (fun _ _ _ _ _ => pe_ix (r := rIxL K) ix_list (pv 3) (pe_op op_mod (pe_callTy call_int1 (by rfl) B.int PyProof.Rows.boot_int (pa_cons (pe_op op_add (pe_op op_mul (pv 4) pe_int) (pv 2)) pa_nil)) pe_int) (fun _ _ => rfl))))))) pss_nil)
      (pss_cons (ps_set (i := 5) nd rfl (.inl rfl) pe_str)
      (pss_cons (ps_set (i := 6) nd rfl (.inl rfl) (pe_lst pa_nil))
      (pss_cons (ps_for PassesOwn.never rfl (pi_range1 (by rfl) B.range (pa_cons (pv 1) pa_nil)) (pg_name (i := 4) nd rfl (.inl rfl))
        (pss_cons (ps_set (i := 7) nd rfl (.inl rfl) (pe_call D.ok hr (by rfl) D.at_ D.kp D.bd .nil pass0 (pa_cons (pv 0) (pa_cons pe_int pa_nil))))
        (pss_cons (ps_set (i := 8) nd rfl (.inl rfl) (pe_op op_add pe_int (pe_call D.ok hr (by rfl) D.at_ D.kp D.bd .nil pass0 (pa_cons (pv 0) (pa_cons pe_int pa_nil)))))
        (pss_cons (ps_set (i := 9) nd rfl (.inl rfl) (pe_slice sl_str (pv 5) (po_some (pe_op op_sub pe_int (pe_call D.ok hr (by rfl) D.at_ D.kp D.bd .nil pass0 (pa_cons (pv 0) (pa_cons pe_int pa_nil))))) (po_some pe_int)))
        (pss_one (ps_expr (pe_bm PySem.F.plainAttrs_list PySem.F.slot_list_append PySem.F.type_list_append mt_append (pv 6) (pa_cons
          (pe_op op_add_str (pe_op op_add_str (pe_slice sl_str (pv 5) (po_some (pv 7)) (po_some (pe_op op_add (pv 7) (pv 8)))) (pe_ix ix_str pe_str (pv 4) (fun _ _ => rfl))) (pv 9)) pa_nil))))))))
      (pss_one (ps_ret (pv 6)))))), ?_⟩
    refine ⟨.ref p, rfl, p, 3, rfl, hp, by decide, by decide, fun H1 d o1 st1 d0 d1 => ⟨rfl, _, rfl, ite2 (fun c => ?_) (fun c => ?_)⟩⟩
    · -- the plain names
      refine ⟨.ref p, rfl, p, 8, rfl, st1, by decide, by decide, fun H2 s o2 st2 s0 s1 => ?_⟩
      refine ⟨by show 8 ≤ sizeLine; decide, fun pl npl => ?_⟩
      have npp : p ≠ pl := fun z => st2.some (z ▸ npl)
      have epl : (upd H2 pl (.lst (plainN.map V.str))) pl = some (.lst (plainN.map V.str)) := upd_same
      refine ⟨.int (m : Int), rfl, (m : Int), rfl, by omega, by omega, fun R nR => ?_⟩
      have fin : ∀ k : Nat, k < m → (plainN.map V.str)[(k * 3 + s.toNat) % 8]? = some (.str (plainN.getD ((k * 3 + s.toNat) % 8) "x")) := fun k hk => by
        have : (k * 3 + s.toNat) % 8 < plainN.length := Nat.mod_lt _ (by decide)
        rw [List.getElem?_map, List.getD_eq_getElem?_getD, List.getElem?_eq_getElem this]
        rfl
      refine lc_range (lo := 0) (fun i H' => Same (upd H2 pl (.lst (plainN.map V.str))) H' ∧ H' R = some (.lst (((List.range i).map fun k => plainN.getD ((k * 3 + s.toNat) % 8) "x").map V.str))) ⟨same_new nR, upd_same⟩ ?_ ?_
      · rintro i H' hi ⟨sm, eR⟩
        have hi' : i < m := by omega
        refine ⟨rfl, .ref pl, rfl, .int (0 + (i : Int)), rfl, 0 + (i : Int), 3, rfl, rfl, .inr ⟨by decide, by decide⟩, .int s, rfl, (0 + (i : Int)) * 3, s, rfl, rfl, .inl ⟨_, rfl, (0 + (i : Int)) * 3 + s, 8, rfl, rfl, ?_, ?_⟩⟩
        · show (0 : Int) < 8
          decide
        · refine ⟨pl, _, _, _, rfl, rfl, sl_map (sm _ _ epl), at_of (j := (i * 3 + s.toNat) % 8) (by omega) (fin i hi'), _, eR, ?_, same_at sm nR, ?_⟩
          · rw [List.length_map, List.length_map, List.length_range]
            exact small1000 (by omega)
          · rw [upd_same, List.range_succ, List.map_append, List.map_append]
            rfl
      · rintro H' ⟨sm, eR⟩
        have smH : Keep p H2 H' := fun b u hb e => sm _ _ (by rw [upd_ne (ne_of_none e npl)]; exact e)
        have nR2 : H2 R = none := (same_new npl).free nR
        have st' : Strm H' p := by
          obtain ⟨x, y, z, e⟩ := st2
          exact ⟨x, y, z, sm _ _ (by rw [upd_ne npp]; exact e)⟩
        refine q H' R _ ((((Keep.refl p H).oth o1).oth o2).trans smH) ((((Keep.refl p H).oth o1).oth o2).free st2 nR2) st' eR ?_ ?_ ?_
        · have h8 := List.all_eq_true.mp plain_nodup s.toNat (List.mem_range.mpr (by omega))
          have h9 := of_decide_eq_true h8
          have e8 : (List.range (m : Int).toNat) = (List.range 8).take m := by
            rw [List.take_range, show min m 8 = (m : Int).toNat by omega]
          rw [e8, List.map_take]
          exact List.Pairwise.sublist (List.take_sublist _ _) h9
        · rw [List.length_map, List.length_range]
          omega
        · intro x hx
          obtain ⟨k, _, rfl⟩ := List.mem_map.mp hx
          have lt : (k * 3 + s.toNat) % 8 < plainN.length := Nat.mod_lt _ (by decide)
          rw [List.getD_eq_getElem?_getD, List.getElem?_eq_getElem lt]
          exact List.all_eq_true.mp plain_ok _ (List.getElem_mem lt)
    · -- letters, a digit, letters
      refine ⟨Nat.zero_le _, fun l nl1 => ?_⟩
      have npl : p ≠ l := fun z => st1.some (z ▸ nl1)
      have nl : H l = none := by rw [← o1 l npl.symm]; exact nl1
      refine ⟨.int (m : Int), rfl, (m : Int), rfl, by omega, by omega, for_range (lo := 0) (n := ((m : Int)).toNat) (fun i σ H' => ∃ (y4 y7 y8 y9 : Option V) (xs : List Str), σ = [some (.ref p), some (.int (m : Int)), none, none, y4, some (.str lettersN), some (.ref l), y7, y8, y9] ∧ Keep p H H' ∧ Strm H' p ∧ H' l = some (.lst (xs.map V.str)) ∧ xs.length = i ∧ (∀ x ∈ xs, PyData.strOk x = true) ∧ ∀ j x, xs[j]? = some x → mark x = digitsN.cps.toList[j]?)
        ⟨none, none, none, none, [], rfl, ((Keep.refl p H).oth o1).at_ nl, st1.upd npl, upd_same, rfl, (fun _ h => nomatch h), fun j x h => absurd ((List.getElem?_nil (α := Str) (i := j)).symm.trans h) (by simp)⟩ ?_ ?_⟩
      · rintro i σ H' hi ⟨y4, y7, y8, y9, xs, rfl, kp, st, el, len, sok, mk⟩
        have hi' : i < m := by omega
        refine ⟨.ref p, rfl, p, 26, rfl, st, by decide, by decide, fun H2 a o2 st2 a0 a1 => ?_⟩
        refine ⟨.ref p, rfl, p, 3, rfl, st2, by decide, by decide, fun H3 b o3 st3 b0 b1 => ⟨1, b, rfl, rfl, ?_⟩⟩
        refine ⟨_, rfl, .ref p, rfl, p, 3, rfl, st3, by decide, by decide, fun H4 t o4 st4 t0 t1 => ⟨26, t, rfl, rfl, _, rfl, 26, rfl, lettersN, rfl, by decide +kernel, ?_⟩⟩
        have el4 : H4 l = some (.lst (xs.map V.str)) := by rw [o4 l npl.symm, o3 l npl.symm, o2 l npl.symm]; exact el
        have hd : i < digitsN.cps.toList.length := by rw [digits_len]; omega
        have gd : digitsN.cps.toList[i]? = some digitsN.cps.toList[i] := List.getElem?_eq_getElem hd
        refine ⟨.ref l, rfl, .inl ⟨rfl, _, sl_map el4⟩, _, rfl, .int a, rfl, a, rfl, .int a, rfl, _, rfl, a, _, rfl, rfl, _, rfl, lettersN, rfl, by decide +kernel, .int (0 + (i : Int)), rfl, digitsN, _, digitsN.cps.toList[i], rfl, rfl, by decide +kernel, (by rw [show (0 : Int) + (i : Int) = ((i : Nat) : Int) by omega]; exact atI_nat gd), _, _, rfl, rfl, ?_, _, rfl, _, _, rfl, rfl, ?_, l, _, _, rfl, rfl, el4, ?_, ?_⟩
        · exact by have := cut_len (some a) (some (a + (1 + b))); rw [str_one]; exact Nat.le_trans (Nat.add_le_add_right this 1) (by decide)
        · exact by have := cut_len (some a) (some (a + (1 + b))); have h2 := cut_len (some (26 - t)) (some 26); rw [len_app, str_one]; exact Nat.le_trans (Nat.add_le_add (Nat.add_le_add_right this 1) h2) (by decide)
        · rw [List.length_map]
          exact small1000 (by omega)
        · have dg : isDig digitsN.cps.toList[i] = true := List.all_eq_true.mp digits_are _ (List.getElem_mem hd)
          refine ⟨_, _, _, _, xs ++ [cutS lettersN (some a) (some (a + (1 + b))) ++ ⟨#[digitsN.cps.toList[i]]⟩ ++ cutS lettersN (some (26 - t)) (some 26)], rfl, (((kp.oth o2).oth o3).oth o4).at_ nl, st4.upd npl, ?_, ?_, ?_, ?_⟩
          · rw [upd_same, List.map_append]
            rfl
          · rw [List.length_append, len]
            rfl
          · intro x hx
            rcases List.mem_append.mp hx with h | h
            · exact sok x h
            · rw [List.mem_singleton.mp h]
              exact name_ok _ _ _ _ _ (List.getElem_mem hd)
          · intro j x hj
            rcases Nat.lt_or_ge j i with c | c
            · rw [List.getElem?_append_left (by omega)] at hj
              exact mk j x hj
            · rw [List.getElem?_append_right (by omega)] at hj
              have ej : j = i := by
                have := (List.getElem?_eq_some_iff.mp hj).1
                rw [List.length_singleton] at this
                omega
              subst ej
              rw [show j - xs.length = 0 by omega] at hj
              have : _ = x := Option.some.inj hj
              rw [← this, gd]
              exact mark_of _ _ _ (cut_letters _ _) dg
      · rintro σ H' ⟨y4, y7, y8, y9, xs, rfl, kp, st, el, len, sok, mk⟩
        refine ⟨_, rfl, q H' l xs kp nl st el ?_ (by omega) sok⟩
        refine List.pairwise_iff_getElem.mpr fun j k hj hk hjk he => ?_
        have e1 := mk j _ (List.getElem?_eq_getElem hj)
        have e2 := mk k _ (List.getElem?_eq_getElem hk)
        rw [he] at e1
        have hk' : k < digitsN.cps.toList.length := by rw [digits_len]; omega
        have hj' : j < digitsN.cps.toList.length := by rw [digits_len]; omega
        have e3 := e1.symm.trans e2
        rw [List.getElem?_eq_getElem hj', List.getElem?_eq_getElem hk'] at e3
        exact List.pairwise_iff_getElem.mp digits_nodup j k hj' hk' hjk (Option.some.inj e3)
end
section
variable {P : Program} {w : World} {K : PySem.W.Frag} {mg : Str → Option Value} {base : Heap}
/-! ### a copy, by a loop -/
abbrev sCopied : Stmt := topS 44
abbrev nCopied : List Str := ["_law_sides", "_law_copied_here", "_law_name"]
theorem scCopied : FnScope nCopied ["_law_sides"] (defScope sCopied) := ⟨rfl, rfl, rfl, by decide +kernel, rfl, by decide +kernel, by decide +kernel⟩
theorem Nb.nil {H H' : Hp} {D : Addr} (n : H D = none) (h : H' D = some (.dK [])) : Nb H H' D [] := ⟨⟨⟨.inl h, (fun _ he => nomatch he), .nil, Nat.zero_le _⟩, h⟩, n, (fun _ he => nomatch he), .nil⟩
theorem shape_len {L M : List Ent} (h : shape L = shape M) : L.length = M.length := by have := congrArg List.length h; simpa [shape] using this
theorem shape_take {L M : List Ent} {i : Nat} {e : Ent} {l : Addr} (h : shape M = shape (L.take i)) (he : L[i]? = some e) : shape (M ++ [(e.1, l, e.2.2)]) = shape (L.take (i + 1)) := by
  rw [List.take_add_one, he]
  unfold shape at h ⊢
  rw [List.map_append, List.map_append, h]
  rfl
theorem ok_copied {f : Addr} {fd : FuncData} {k : Nat} (F : Fun K "_law_copied" "_law_copied" sCopied f fd) (B : Bt mg) : FnOk P w K mg base CX0 (k + 1) f fd ["_law_sides"] spCopy := by
  refine F.ok scCopied (fun vs H Q E h => ?_) (fun cdv A outer s H vs Q E hr h => ?_)
  · obtain ⟨d, L, rfl, _⟩ := h
    rfl
  · obtain ⟨d, L, rfl, bx, q⟩ := h
    have hu := hu_of hr
    have nd := scCopied.nd
    refine ⟨_, pss_cons (ps_set (i := 1) nd rfl (.inl rfl) pe_dnewK)
      (pss_cons (ps_lock (ps_for PassesOwn.never rfl (pi_keys (pv 0)) (pg_name (i := 2) nd rfl (.inl rfl))
        (pss_one (ps_dput hu (pv 1) (pv 2) (pe_callTy call_list_of (by rfl) B.list PyProof.Rows.boot_list (pa_cons (pe_dget hu (pv 0) (pv 2) (fun _ _ => rfl)) pa_nil)) rfl))))
      (pss_one (ps_ret (pv 1)))), ?_⟩
    intro D nD
    have s0 := same_new (o := HO.dK []) nD
    have bx0 := bx.same' s0
    refine ⟨d, _, bx0.un, trivial, fun od => ?_⟩
    have hd : H d ≠ none := by rw [bx.un]; exact fun z => by cases z
    have nDd : D ≠ d := fun z => hd (z ▸ nD)
    refine ⟨.ref d, rfl, d, od, rfl, .inl ⟨entK L, upd_same, for_it walk_keys (fun i σ H' => ∃ (M : List Ent) (y : Option V), σ = [some (.ref d), some (.ref D), y] ∧ Same (upd H d (.frz od (.dK (entK L)))) H' ∧ Nb H H' D M ∧ shape M = shape (L.take i))
      ⟨[], none, rfl, ?_, ?_, rfl⟩ (fun i σ H' _ h => by obtain ⟨M, y, _, e, _⟩ := h; exact e _ _ upd_same) ?_ ?_⟩⟩
    · intro b o e
      by_cases z : b = d
      · rw [z, upd_same] at e ⊢; exact e
      · rw [upd_ne z] at e ⊢
        exact s0 _ _ e
    · exact Nb.nil nD (by rw [upd_ne nDd]; exact upd_same)
    · rintro i x σ H' H'' hi ⟨M, y, rfl, sm, nb, sh⟩ ⟨rfl, k1, v1, hk, rfl⟩
      obtain ⟨e, he, rfl, rfl⟩ := keys_at hk
      have em := List.mem_of_getElem? he
      have bl := (bx.toBx.lock (od := od) bx.un).same sm
      have gv := bl.get e.1
      rw [getE_of bx.nd em] at gv
      rw [entK_len] at hi
      have few := bx.few
      have lM := shape_len sh
      rw [List.length_take] at lM
      refine ⟨.ref d, rfl, .str e.1, rfl, d, .ref e.2.1, rfl, gv, e.2.1, _, rfl, .inl (sl_map (bl.sides e em)), fun l nl => ?_⟩
      have sl := same_new (o := HO.lst (e.2.2.map V.int)) nl
      have nl0 : H l = none := by
        have := sm.free nl
        cases c : H l with
        | none => rfl
        | some o =>
          by_cases z : l = d
          · rw [z, upd_same] at this; cases this
          · rw [upd_ne z, c] at this; cases this
      have xnew : e.1 ∉ M.map (·.1) := by rw [shape_keys sh]; exact take_keys bx.nd he
      refine ⟨.ref D, rfl, .str e.1, rfl, D, _, rfl, DPut.k (k := .inr e.1) (sl _ _ nb.un) (by rw [entK_len]; exact small1000 (by omega)), ?_⟩
      refine ⟨putE M e.1 l e.2.2, some (.str e.1), rfl, ?_, ?_, ?_⟩
      · refine same_at (sm.trans sl) ?_
        rw [upd_ne nDd]
        exact nD
      · rw [putK_ent (s := e.2.2)]
        exact nb.put nl0 nl sl upd_same (by omega)
      · rw [putE_new xnew]
        exact shape_take sh he
    · rintro σ H' ⟨M, y, rfl, sm, nb, sh⟩
      rw [entK_len, List.take_length] at sh
      have eF := sm _ _ (upd_same (H := H) (a := d) (o := HO.frz od (.dK (entK L))))
      exact ⟨eF, _, rfl, q _ D M (unlock bx.un sm) (nb.unl bx.un eF) sh⟩
/-! ### _law_holds, _law_within, _law_is -/
end
theorem Nb.alias {H0 H : Hp} {d l : Addr} {M : List Ent} {x : Str} {s : List Int} (N : Nb H0 H d M) (n0 : H0 l = none) (el : H l = some (.lst (s.map V.int))) (nx : x ∉ M.map (·.1)) (nl : l ∉ M.map (·.2.1)) (few : M.length + 1 ≤ 40) :
    Nb H0 (upd H d (.dK (entK (M ++ [(x, l, s)])))) d (M ++ [(x, l, s)]) := by
  have ld : ∀ {c : Addr} {ys : List V}, H c = some (.lst ys) → c ≠ d := fun h z => by rw [z, N.un] at h; cases h
  refine ⟨⟨⟨.inl upd_same, fun e he => ?_, ?_, by rw [List.length_append]; exact few⟩, upd_same⟩, N.fresh, fun e he => ?_, ?_⟩
  · rcases List.mem_append.mp he with z | z
    · have h1 := N.sides e z
      rw [upd_ne (ld h1)]
      exact h1
    · rw [List.mem_singleton.mp z, upd_ne (ld el)]
      exact el
  · rw [List.map_append]
    exact nd_snoc N.nd nx
  · rcases List.mem_append.mp he with z | z
    · exact N.freshS e z
    · rw [List.mem_singleton.mp z]; exact n0
  · rw [List.map_append]
    exact nd_snoc N.inj nl
theorem Nb.unl' {H0 H' : Hp} {b d : Addr} {u : HO} {M : List Ent} {od : Obj} (N : Nb H0 H' d M) (eF : H' b = some (.frz od u)) : Nb H0 (upd H' b u) d M := by
  have db : d ≠ b := fun z => by have := N.un; rw [z, eF] at this; cases this
  have away : ∀ g ∈ M, g.2.1 ≠ b := fun g hg z => by have := N.sides g hg; rw [z, eF] at this; cases this
  exact ⟨⟨⟨.inl (by rw [upd_ne db]; exact N.un), fun g hg => by rw [upd_ne (away g hg)]; exact N.sides g hg, N.nd, N.few⟩, by rw [upd_ne db]; exact N.un⟩, N.fresh, N.freshS, N.inj⟩
section
variable {P : Program} {w : World} {K : PySem.W.Frag} {mg : Str → Option Value} {base : Heap}
end
/-- all that was there, but what stands at one of these -/
def KeepL (as : List Addr) (H H' : Hp) : Prop := ∀ b o, b ∉ as → H b = some o → H' b = some o
theorem KeepL.refl (as : List Addr) (H : Hp) : KeepL as H H := fun _ _ _ e => e
theorem KeepL.same {as : List Addr} {H H1 H2 : Hp} (k : KeepL as H H1) (s : Same H1 H2) : KeepL as H H2 := fun b o h e => s _ _ (k b o h e)
theorem KeepL.trans {as : List Addr} {H H1 H2 : Hp} (k : KeepL as H H1) (s : KeepL as H1 H2) : KeepL as H H2 := fun b o h e => s b o h (k b o h e)
abbrev big : Int := 10 ^ (13 : Int).toNat
def grown (ks : List Str) (e : Ent) : List Int := if e.1 ∈ ks then e.2.2 ++ [big] else e.2.2
theorem SameB.get {L M : List Ent} (s : SameB L M) {e : Ent} (nd : (M.map (·.1)).Nodup) (h : e ∈ M) : ∃ t ∈ L, t.1 = e.1 ∧ t.2.2 = e.2.2 ∧ getE L e.1 = some t := by
  have q := s e.1
  rw [look_mem nd h] at q
  unfold look at q
  obtain ⟨t, ht, eq⟩ := Option.map_eq_some_iff.mp q
  obtain ⟨m1, m2⟩ := getE_mem ht
  exact ⟨t, m1, m2, eq, ht⟩
theorem inj_eq {L : List Ent} (nd : (L.map (·.2.1)).Nodup) {e g : Ent} (he : e ∈ L) (hg : g ∈ L) (h : e.2.1 = g.2.1) : e = g := by
  obtain ⟨i, hi⟩ := List.mem_iff_getElem?.mp he
  obtain ⟨j, hj⟩ := List.mem_iff_getElem?.mp hg
  have a1 : (L.map (·.2.1))[i]? = some e.2.1 := by rw [List.getElem?_map, hi]; rfl
  have a2 : (L.map (·.2.1))[j]? = some e.2.1 := by rw [List.getElem?_map, hj, h]; rfl
  have := nd_ix nd a1 a2
  subst this
  exact Option.some.inj (hi.symm.trans hj)
theorem key_eq {L : List Ent} (nd : (L.map (·.1)).Nodup) {e g : Ent} (he : e ∈ L) (hg : g ∈ L) (h : e.1 = g.1) : e = g := by
  have a := getE_of nd he
  rw [h, getE_of nd hg] at a
  exact (Option.some.inj a).symm
section
variable {P : Program} {w : World} {K : PySem.W.Frag} {mg : Str → Option Value} {base : Heap}
abbrev nLNew : List Str := ["_law_told", "_law_expected", "_law_name"]
def spLNew : Sp := fun vs H Q _ => ∃ (t e : Addr) (T E : List Ent), vs = [.ref t, .ref e] ∧ Bu H t T ∧ (T.map (·.2.1)).Nodup ∧ Bu H e E ∧ SameB T E ∧ (∀ x ∈ E, x.2.1 ∉ T.map (·.2.1)) ∧ t ≠ e ∧ (∀ x ∈ E, x.2.2.length ≤ 100) ∧
  ∀ H', KeepL (T.map (·.2.1)) H H' → Q (.bl true) H'
end
section
variable {P : Program} {w : World} {K : PySem.W.Frag} {mg : Str → Option Value} {base : Heap}
abbrev sSame : Stmt := topS 42
abbrev nSame : List Str := ["_law_actual", "_law_expected", "_law_found", "_law_name"]
theorem scSame : FnScope nSame ["_law_actual", "_law_expected"] (defScope sSame) := ⟨rfl, rfl, rfl, by decide +kernel, rfl, by decide +kernel, by decide +kernel⟩
def spSame : Sp := fun vs H Q _ => ∃ (a e : Addr) (M E : List Ent), vs = [.ref a, .ref e] ∧ Bu H a M ∧ Bu H e E ∧ SameB M E ∧ (∀ g ∈ M, Srt g.2.2 ∧ g.2.2.length ≤ 1000) ∧ ∀ H', Same H H' → Q (.bl true) H'
theorem ok_same {f fI : Addr} {fd fdI : FuncData} (F : Fun K "_law_same_sides" "_law_same_sides" sSame f fd) (B : Bt mg) (I : Call P w K mg base 2 "_law_is_side" fI fdI ["_law_actual"] spIsSide) :
    FnOk P w K mg base CX0 3 f fd ["_law_actual", "_law_expected"] spSame := by
  refine F.ok scSame (fun vs H Q E h => ?_) (fun cdv A outer s H vs Q E hr h => ?_)
  · obtain ⟨a, e, M, E, rfl, _⟩ := h
    rfl
  · obtain ⟨a, e, M, X, rfl, bm, be, same, ok, q⟩ := h
    have hu := hu_of hr
    have hu64 : (A.deeper (envOfC "_law_same_sides" (defScope sSame) s.heap.objs.size f cdv)).units + 64 < cLine := by have := hr.un; omega
    have nd := scSame.nd
    refine ⟨_, pss_cons (ps_if (PW.pt (pw_or (pt_not (pt_val (pe_callB call_isi (by rfl) B.isi PyProof.Rows.boot_isinstance (pa_cons (pv 0) (pa_cons (pe_bltn (by rfl) B.dict PyProof.Rows.boot_dict (v := .ty "dict") rfl) pa_nil)))))
        (pw_or1 (pt_cmpR op_ne (pe_callB call_lenD (by rfl) B.len PySem.boot_len (pa_cons (pv 0) pa_nil)) (pe_callB call_lenD (by rfl) B.len PySem.boot_len (pa_cons (pv 1) pa_nil)) rfl)))) (pss_one (ps_ret pe_bl)) pss_nil)
      (pss_cons (ps_lock (ps_setLc (i := 2) (own := [("_law_name", 3)]) (g := gName 3) (te := tVar 3) rfl nd rfl rfl (by rfl) (pi_keys (pv 1)) (blkOk_by (N := nSame) (sc := defScope sSame) (by decide +kernel)) (fun _ _ _ _ _ => pg_name (i := 3) nd rfl (Or.inl rfl))
          (fun _ _ _ _ _ => pts_one (PW.pt (pw_and (pt_cmp (pc_din hu (pv 3) (pv 0))) (pw_and1 (pt_val (pe_call I.ok hr (by rfl) I.at_ I.kp I.bd .nil pass0 (pa_cons (pe_dget hu (pv 0) (pv 3) (fun _ _ => rfl)) pa_nil))))))) (fun _ _ _ _ _ => pv 3)))
      (pss_one (ps_ret (pe_and (pe_cmpR op_eq (pe_callB call_len_seq (by rfl) B.len PySem.boot_len (pa_cons (pv 2) pa_nil)) (pe_callB call_lenD (by rfl) B.len PySem.boot_len (pa_cons (pv 1) pa_nil)) rfl)
        (pe_one (pe_callB (cr_all rfl) (by rfl) B.all PyProof.Rows.boot_all (pa_cons
          (pe_lc (own := [("_law_name", 3)]) (g := gName 3) (tt := tYes) rfl nd (pi_list (pv 2)) (blkOk_by (N := nSame) (sc := defScope sSame) (by decide +kernel)) (fun _ _ _ _ _ => pg_name (i := 3) nd rfl (Or.inl rfl)) (fun _ _ _ _ _ => pts_nil)
            (fun _ _ _ _ _ => pe_cmpR (r := rEqD K) (op_eqD hu64) (pe_dget hu (pv 0) (pv 3) (fun _ _ => rfl)) (pe_dget hu (pv 1) (pv 3) (fun _ _ => rfl)) rfl)) pa_nil))))))), ?_⟩
    have lens : M.length = X.length := same.len bm.nd be.nd
    refine ⟨.ref a, rfl, .ref a, .ty "dict", .type "dict", .type "dict", true, rfl, .ty _, .base (.dK bm.un), kit_ty (by decide +kernel), true, rfl, iteF ?_⟩
    refine ⟨.ref a, rfl, a, _, rfl, bm.un, .ref e, rfl, e, _, rfl, be.un, rfl, ?_⟩
    rw [entK_len, entK_len, lens, decide_eq_true rfl]
    refine ⟨false, rfl, iteF ?_⟩
    refine ⟨e, _, be.un, trivial, fun od => ?_⟩
    have bel := be.toBx.lock (od := od) be.un
    have bml := bm.toBx.lock (od := od) be.un
    refine ⟨.ref e, rfl, e, od, rfl, .inl ⟨entK X, upd_same, fun D nD => lc_it walk_keys (fun i H' => Same (upd H e (.frz od (.dK (entK X)))) H' ∧ H' D = some (.lst (((X.take i).map (·.1)).map V.str))) ⟨same_new nD, upd_same⟩ (fun i H' _ h => h.1 _ _ upd_same) ?_ ?_⟩⟩
    · rintro i x Hz H' hi ⟨sm, eD⟩ ⟨rfl, k1, v1, hk, rfl⟩
      obtain ⟨x, hx, rfl, rfl⟩ := keys_at hk
      have xm := List.mem_of_getElem? hx
      obtain ⟨g, gm, g1, g2, g3⟩ := same.get be.nd xm
      have gv := (bml.same sm).get x.1
      rw [g3] at gv
      obtain ⟨so, ln⟩ := ok g gm
      have isu : H' a = some (.dK (entK M)) ∨ H' a = some (.frz od (.dK (entK X))) := by
        by_cases z : a = e
        · right; rw [z]; exact sm _ _ upd_same
        · left; exact sm _ _ (by rw [upd_ne z]; exact bm.un)
      refine ⟨rfl, .str x.1, rfl, .ref a, rfl, a, _, rfl, gv, true, rfl, iteT ?_⟩
      refine ⟨.ref a, rfl, .str x.1, rfl, a, .ref g.2.1, rfl, gv, g.2.1, g.2.2, rfl, sm _ _ (bml.sides g gm), so, ln, fun H4 s4 => ⟨true, rfl, iteT ⟨.str x.1, rfl, _, s4 _ _ eD, ?_, same_at (sm.trans s4) nD, ?_⟩⟩⟩
      · rw [List.length_map, List.length_map, List.length_take]
        have := be.few
        exact small1000 (by omega)
      · rw [upd_same, List.take_add_one, hx, List.map_append, List.map_append]
        rfl
    · rintro H' ⟨sm, eD⟩
      rw [entK_len, List.take_length] at eD
      have eF := sm _ _ (upd_same (H := H) (a := e) (o := HO.frz od (.dK (entK X))))
      have nDe : D ≠ e := fun z => by rw [z, eF] at eD; cases eD
      refine ⟨eF, ?_⟩
      have s2 : Same H (upd H' e (.dK (entK X))) := unlock be.un sm
      have eD2 : (upd H' e (.dK (entK X))) D = some (.lst ((X.map (·.1)).map V.str)) := by rw [upd_ne nDe]; exact eD
      generalize upd H' e (.dK (entK X)) = H2 at s2 eD2 ⊢
      clear sm eD eF H'
      refine ⟨.ref D, rfl, D, _, rfl, .inl (sl_map eD2), .ref e, rfl, e, _, rfl, s2 _ _ be.un, rfl, ?_⟩
      rw [entK_len, List.length_map, List.length_map, decide_eq_true rfl]
      refine ⟨true, rfl, iteT ?_⟩
      refine ⟨.ref D, rfl, D, rfl, ⟨_, sl_map eD2⟩, fun R nR => lc_list (xs := (X.map (·.1)).map V.str) (fun i H' => Same H2 H' ∧ H' R = some (.lst ((List.replicate i true).map V.bl))) ⟨same_new nR, upd_same⟩ (fun i H' _ h => h.1.seq (sl_map eD2)) ?_ ?_⟩
      · rintro i z H' hz ⟨sm, hd⟩
        rw [List.getElem?_map, List.getElem?_map] at hz
        obtain ⟨v, hv, rfl⟩ := Option.map_eq_some_iff.mp hz
        obtain ⟨x, hx, rfl⟩ := Option.map_eq_some_iff.mp hv
        have xm := List.mem_of_getElem? hx
        obtain ⟨g, gm, g1, g2, g3⟩ := same.get be.nd xm
        have s3 := s2.trans sm
        have gv := (bm.toBx.same s3).get x.1
        rw [g3] at gv
        have ev := (be.toBx.same s3).get x.1
        rw [getE_of be.nd xm] at ev
        have few := be.few
        have hi := (List.getElem?_eq_some_iff.mp hx).1
        have e1 := s3 _ _ (bm.sides g gm)
        rw [g2] at e1
        refine ⟨rfl, .ref a, rfl, .str x.1, rfl, a, .ref g.2.1, rfl, gv, .ref e, rfl, .str x.1, rfl, e, .ref x.2.1, rfl, ev, dI x.2.2, dI x.2.2, dpI (sl_map e1), dpI (sl_map (s3 _ _ (be.sides x xm))), shI _, shI _, ?_⟩
        rw [eqI]
        refine ⟨_, hd, ?_, same_at sm nR, ?_⟩
        · rw [List.length_map, List.length_replicate]
          exact small1000 (by omega)
        · rw [upd_same, List.replicate_succ', List.map_append]
          rfl
      · rintro H' ⟨sm, hd⟩
        refine ⟨R, _, rfl, sl_map hd, ?_⟩
        rw [all_rep]
        exact q _ (s2.trans sm)
end
theorem cutV_to (xs : List V) (j : Nat) : cutV xs none (some (j : Int)) = xs.take j := by
  unfold cutV
  rw [HT.sIx_none, HT.sIx_nat, List.drop_zero, Nat.sub_zero]
  by_cases h : j ≤ xs.length
  · rw [Nat.min_eq_left h]
  · rw [Nat.min_eq_right (by omega), List.take_of_length_le (Nat.le_refl _), List.take_of_length_le (by omega)]
theorem cutV_from (xs : List V) (j : Nat) : cutV xs (some (j : Int)) none = xs.drop j := by
  unfold cutV
  rw [HT.sIx_none, HT.sIx_nat]
  by_cases h : j ≤ xs.length
  · rw [Nat.min_eq_left h, List.take_of_length_le (by rw [List.length_drop]; exact Nat.le_refl _)]
  · rw [Nat.min_eq_right (by omega), List.drop_length, List.drop_of_length_le (by omega)]
    simp
theorem Nb.keep {H0 H H' : Hp} {p d : Addr} {M : List Ent} (N : Nb H0 H d M) (hp : H0 p ≠ none) (k : Keep p H H') : Nb H0 H' d M := by
  have pd : d ≠ p := fun z => hp (z ▸ N.fresh)
  have away : ∀ g ∈ M, g.2.1 ≠ p := fun g hg z => hp (z ▸ N.freshS g hg)
  exact ⟨⟨⟨.inl (k _ _ pd N.un), fun g hg => k _ _ (away g hg) (N.sides g hg), N.nd, N.few⟩, k _ _ pd N.un⟩, N.fresh, N.freshS, N.inj⟩
theorem Bu.keep {H H' : Hp} {p d : Addr} {M : List Ent} (N : Bu H d M) (s : Strm H p) (k : Keep p H H') (away : ∀ g ∈ M, g.2.1 ≠ p) : Bu H' d M := by
  have pd : d ≠ p := fun z => by
    obtain ⟨x, y, w, e⟩ := s
    have := N.un
    rw [z, e] at this
    cases this
  exact ⟨⟨.inl (k _ _ pd N.un), fun g hg => k _ _ (away g hg) (N.sides g hg), N.nd, N.few⟩, k _ _ pd N.un⟩
theorem with_rest2 {R : Hp → Prop} {G : Prop} (C : Hp → Prop) (r : ∀ H, C H → R H) (g : (∀ H, C H → R H) → G) : G := g r
section
variable {P : Program} {w : World} {K : PySem.W.Frag} {mg : Str → Option Value} {base : Heap}
end
theorem with_rest {R G : Prop} (r : R) (g : R → G) : G := g r
theorem Bu.aput {H : Hp} {d l : Addr} {M : List Ent} {x : Str} {s : List Int} (B : Bu H d M) (el : H l = some (.lst (s.map V.int))) (few : M.length + 1 ≤ 40) : Bu (upd H d (.dK (entK (putE M x l s)))) d (putE M x l s) := by
  have ld : ∀ {c : Addr} {ys : List V}, H c = some (.lst ys) → c ≠ d := fun h z => by rw [z, B.un] at h; cases h
  refine ⟨⟨.inl upd_same, fun e he => ?_, putE_nd B.nd, by have := putE_len M x l s; omega⟩, upd_same⟩
  rcases putE_mem he with z | ⟨z, _⟩
  · rw [z, upd_ne (ld el)]
    exact el
  · have h1 := B.sides e z
    rw [upd_ne (ld h1)]
    exact h1
section
variable {P : Program} {w : World} {K : PySem.W.Frag} {mg : Str → Option Value} {base : Heap}
end
theorem small10k {n : Nat} (h : n ≤ 10000) : n < sizeLine := Nat.lt_of_le_of_lt h (by decide)
section
variable {P : Program} {w : World} {K : PySem.W.Frag} {mg : Str → Option Value} {base : Heap}
end
/-! ### equal boxes, deep -/
theorem paired_flat {K : PySem.W.Frag} {H : Hp} {n : Nat} : ∀ xs : List V, (∀ x ∈ xs, flatB x = true) → Paired (EqV K H (n + 1)) xs xs
  | [], _ => .nil
  | x :: xs, h => .cons (.inl ⟨rfl, h x List.mem_cons_self⟩) (paired_flat xs fun y hy => h y (List.mem_cons_of_mem _ hy))
theorem eqL {K : PySem.W.Frag} {H : Hp} {a b : Addr} {ns : List Int} (ha : H a = some (.lst (ns.map V.int))) (hb : H b = some (.lst (ns.map V.int))) : EqV K H 2 (.ref a) (.ref b) :=
  .inr (.inr (.inl ⟨a, b, _, _, rfl, rfl, sl_map ha, sl_map hb, paired_flat _ fun x hx => by obtain ⟨k, _, rfl⟩ := List.mem_map.mp hx; rfl⟩))
theorem eqB {K : PySem.W.Frag} {H : Hp} {d e : Addr} {M X : List Ent} (bd : Bu H d M) (be : Bu H e X) (s : SameB M X) : EqR K H (EqV K H 2) (.ref d) (.ref e) := by
  refine .inr ⟨d, e, _, _, rfl, rfl, bd.un, be.un, by rw [entK_len, entK_len]; exact s.len bd.nd be.nd, fun p hp => ?_⟩
  unfold entK at hp
  obtain ⟨g, hg, rfl⟩ := List.mem_map.mp hp
  have s' : SameB X M := fun x => (s x).symm
  obtain ⟨t, tm, t1, t2, t3⟩ := s'.get bd.nd hg
  refine ⟨.ref t.2.1, ?_, ?_⟩
  · show valV (entK X) (Sum.inr g.1) = _
    rw [valV_ent, t3]
    rfl
  · have h1 := be.sides t tm
    rw [t2] at h1
    exact eqL (bd.sides g hg) h1
theorem shape_same {L M : List Ent} (h : shape L = shape M) : SameB L M := look_shape h
theorem Sz.look {L : List Ent} {n : Nat} (z : Sz L n) {x : Str} {s : List Int} (h : look L x = some s) : Srt s ∧ s.length ≤ n := by
  obtain ⟨e, em, _, rfl⟩ := look_of h
  exact ⟨z.srt e em, z.len e em⟩
theorem sides_ok {M : List Ent} {n : Nat} (nd : (M.map (·.1)).Nodup) (f : Str → Option (List Int)) (h : ∀ x, look M x = f x) (ok : ∀ x s, f x = some s → Srt s ∧ s.length ≤ n) : Sz M n :=
  ⟨fun e he => (ok e.1 _ ((h e.1).symm.trans (look_mem nd he))).1, fun e he => (ok e.1 _ ((h e.1).symm.trans (look_mem nd he))).2⟩
theorem Sz.shape {L M : List Ent} {n : Nat} (z : Sz L n) (h : shape M = shape L) : Sz M n := by
  have q : ∀ e ∈ M, ∃ g ∈ L, g.2.2 = e.2.2 := fun e he => by
    have : (e.1, e.2.2) ∈ K6.shape L := h ▸ List.mem_map_of_mem (f := fun e : Ent => (e.1, e.2.2)) he
    obtain ⟨g, hg, eq⟩ := List.mem_map.mp this
    exact ⟨g, hg, (Prod.mk.inj eq).2⟩
  refine ⟨fun e he => ?_, fun e he => ?_⟩
  · obtain ⟨g, hg, eq⟩ := q e he
    exact eq ▸ z.srt g hg
  · obtain ⟨g, hg, eq⟩ := q e he
    exact eq ▸ z.len g hg
/-- what a change of fresh sides leaves -/
theorem keepL_same {H0 H1 H2 : Hp} {as : List Addr} (s : Same H0 H1) (k : KeepL as H1 H2) (f : ∀ a ∈ as, H0 a = none) : Same H0 H2 := fun b o e => k b o (fun z => by rw [f b z] at e; cases e) (s _ _ e)
theorem Bu.keepL {H H' : Hp} {d : Addr} {M : List Ent} {as : List Addr} (B : Bu H d M) (k : KeepL as H H') (h1 : d ∉ as) (h2 : ∀ e ∈ M, e.2.1 ∉ as) : Bu H' d M :=
  ⟨⟨.inl (k _ _ h1 B.un), fun e he => k _ _ (h2 e he) (B.sides e he), B.nd, B.few⟩, k _ _ h1 B.un⟩
theorem not_side {H : Hp} {d : Addr} {as : List Addr} (n : H d = none) (sd : ∀ a ∈ as, H a ≠ none) : d ∉ as := fun z => sd d z n
theorem side_some {H : Hp} {M : List Ent} (sd : ∀ e ∈ M, H e.2.1 = some (.lst (e.2.2.map V.int))) : ∀ a ∈ M.map (·.2.1), H a ≠ none := fun a ha z => by
  obtain ⟨e, he, rfl⟩ := List.mem_map.mp ha
  have := sd e he
  rw [z] at this
  cases this
section
variable {P : Program} {w : World} {K : PySem.W.Frag} {mg : Str → Option Value} {base : Heap}
end
/-! ### what the meet and the join hold -/
theorem Sz.mono {L : List Ent} {n m : Nat} (z : Sz L n) (h : n ≤ m) : Sz L m := ⟨z.srt, fun e he => Nat.le_trans (z.len e he) h⟩
theorem sq_keep {K : PySem.W.Frag} {H H' : Hp} {a p : Addr} {xs : List V} (h : SqL K H a xs) (np : H p = none) (k : Keep p H H') : SqL K H' a xs := by
  have ap : ∀ o, H a = some o → a ≠ p := fun o e z => by rw [z, np] at e; cases e
  rcases h with (h | ⟨o, h⟩) | h
  · exact .inl (.inl (k _ _ (ap _ h) h))
  · exact .inl (.inr ⟨o, k _ _ (ap _ h) h⟩)
  · exact .inr h
/-! ### domains: a list of pairs of a name and a side -/
abbrev DomE := Addr × Ent
structure Doms (H : Hp) (l : Addr) (ds : List DomE) : Prop where
  lst : H l = some (.lst (ds.map fun d => V.ref d.1))
  tup : ∀ d ∈ ds, H d.1 = some (.tup [V.str d.2.1, V.ref d.2.2.1])
  side : ∀ d ∈ ds, H d.2.2.1 = some (.lst (d.2.2.2.map V.int))
theorem Doms.same {H H' : Hp} {l : Addr} {ds : List DomE} (D : Doms H l ds) (s : Same H H') : Doms H' l ds := ⟨s _ _ D.lst, fun d h => s _ _ (D.tup d h), fun d h => s _ _ (D.side d h)⟩
theorem Srt.sub {a b : List Int} (s : Srt b) (h : a.Sublist b) : Srt a := List.Pairwise.sublist h s
theorem Doms.keep {H H' : Hp} {p l : Addr} {ds : List DomE} (D : Doms H l ds) (k : Keep p H H') (hl : l ≠ p) (h : ∀ d ∈ ds, d.1 ≠ p ∧ d.2.2.1 ≠ p) : Doms H' l ds :=
  ⟨k _ _ hl D.lst, fun d hd => k _ _ (h d hd).1 (D.tup d hd), fun d hd => k _ _ (h d hd).2 (D.side d hd)⟩
theorem refs_ints {ds : List DomE} {ns : List Int} (h : (ds.map fun d => V.ref d.1) = ns.map V.int) : ds = [] := by
  cases ds with
  | nil => rfl
  | cons d ds =>
    cases ns with
    | nil => cases h
    | cons n ns =>
      rw [List.map_cons, List.map_cons] at h
      cases (List.cons.inj h).1
/-- a pair more -/
theorem Doms.snoc {H : Hp} {l T Z : Addr} {ds : List DomE} {x : Str} {zs : List Int} (D : Doms H l ds) (hT : H T = some (.tup [V.str x, V.ref Z])) (hZ : H Z = some (.lst (zs.map V.int))) (nZ : Z ≠ l) :
    Doms (upd H l (.lst ((ds.map fun d => V.ref d.1) ++ [V.ref T]))) l (ds ++ [(T, x, Z, zs)]) := by
  have tl : ∀ {c : Addr} {vs : List V}, H c = some (.tup vs) → c ≠ l := fun h z => by rw [z, D.lst] at h; cases h
  refine ⟨by rw [upd_same, List.map_append]; rfl, fun d hd => ?_, fun d hd => ?_⟩
  · rcases List.mem_append.mp hd with h | h
    · rw [upd_ne (tl (D.tup d h))]
      exact D.tup d h
    · rw [List.mem_singleton.mp h, upd_ne (tl hT)]
      exact hT
  · rcases List.mem_append.mp hd with h | h
    · have q := D.side d h
      have : d.2.2.1 ≠ l := fun z => by
        rw [z, D.lst] at q
        have e := refs_ints (HO.lst.inj (Option.some.inj q))
        rw [e] at h
        cases h
      rw [upd_ne this]
      exact q
    · rw [List.mem_singleton.mp h, upd_ne nZ]
      exact hZ
theorem with_restA {α : Type} {R : α → Hp → Prop} {G : Prop} (C : α → Hp → Prop) (r : ∀ a H, C a H → R a H) (g : (∀ a H, C a H → R a H) → G) : G := g r
section
variable {P : Program} {w : World} {K : PySem.W.Frag} {mg : Str → Option Value} {base : Heap}
abbrev nDoms : List Str := ["_law_stream_here", "_law_names_here", "_law_pool_here", "_law_most", "_law_domains_here", "_law_name", "_law_side", "_law_value"]
def spDoms : Sp := fun vs H Q _ => ∃ (p nm pl : Addr) (xs : List Str) (ns : List Int) (m : Nat), vs = [.ref p, .ref nm, .ref pl, .int (m : Int)] ∧ Strm H p ∧ H nm = some (.lst (xs.map V.str)) ∧ H pl = some (.lst (ns.map V.int)) ∧ p ≠ nm ∧ p ≠ pl ∧ Srt ns ∧ 1 ≤ ns.length ∧ ns.length ≤ 100 ∧ xs.length ≤ 100 ∧
  ∀ (H' : Hp) (l : Addr) (ds : List DomE), Keep p H H' → H l = none → Strm H' p → Doms H' l ds → ds.map (·.2.1) = xs → (∀ d ∈ ds, Srt d.2.2.2 ∧ d.2.2.2.length ≤ max m 1 ∧ H d.1 = none ∧ H d.2.2.1 = none ∧ ∀ v ∈ d.2.2.2, v ∈ ns) → (ds.map (·.2.2.1)).Nodup → Q (.ref l) H'
end
end K6

set_option Elab.async false
set_option linter.all false
set_option maxRecDepth 100000
set_option maxHeartbeats 4000000
namespace K6
open PySem PySem.Spec PyProof.Rows L2 Cs
section
variable {P : Program} {w : World} {K : PySem.W.Frag} {mg : Str → Option Value} {base : Heap}
abbrev sUnited : Stmt := topS 28
theorem scUnited : FnScope ["first", "second"] ["first", "second"] (defScope sUnited) := ⟨rfl, rfl, rfl, by decide +kernel, rfl, by decide +kernel, by decide +kernel⟩
theorem ok_united {f : Addr} {fd : FuncData} {k : Nat} (F : Fun K "united" "united" sUnited f fd) (B : Bt mg) : FnOk P w K mg base CX0 (k + 1) f fd ["first", "second"] (spTwo K fun ns ks k => k ∈ ns ∨ k ∈ ks) := by
  refine F.ok scUnited (fun vs H Q E h => ?_) (fun cdv A outer s H vs Q E hr h => ?_)
  · obtain ⟨a, b, ns, ks, rfl, _⟩ := h
    rfl
  · obtain ⟨a, b, ns, ks, rfl, hA, hB, la, lb, q⟩ := h
    refine ⟨_, pss_one (ps_ret (pe_callB (cr_sortedSet rfl) (by rfl) B.sorted boot_sorted (pa_cons (pe_op op_sor (pe_callTy (cr_setI rfl) (by rfl) B.set PyProof.Rows.boot_set (pa_cons (pv 0) pa_nil)) (pe_callTy (cr_setI rfl) (by rfl) B.set PyProof.Rows.boot_set (pa_cons (pv 1) pa_nil))) pa_nil))), ?_⟩
    refine ⟨.ref a, rfl, a, ns, rfl, hA, by omega, fun p c np hc => ?_⟩
    have s1 := same_new (o := SetO w p (fun j => decide (j ∈ ns)) c) np
    refine ⟨.ref b, rfl, b, ks, rfl, s1.seq hB, by omega, fun p2 c2 np2 hc2 => ?_⟩
    have ne : p2 ≠ p := fun e => by rw [e, upd_same] at np2; cases np2
    have s2 := s1.trans (same_new (o := SetO w p2 (fun j => decide (j ∈ ks)) c2) np2)
    refine ⟨p, p2, _, _, c, c2, rfl, rfl, ne, by rw [upd_ne ne.symm, upd_same], upd_same, by show c + c2 ≤ 63; omega, fun r S n nr hm hn => ?_⟩
    have s3 := s2.trans (same_new (o := SetO w r S n) nr)
    refine ⟨r, S, n, rfl, upd_same, by omega, fun ms z hs hk hl nz => ?_⟩
    exact q _ z ms (same_at s3 (s3.free nz)) (s3.free nz) upd_same hs (fun k => (hk k).trans ((hm k).trans (or_iff' ns ks k))) (by omega)
end
section
variable {P : Program} {w : World} {K : PySem.W.Frag} {mg : Str → Option Value} {base : Heap}
end
section
variable {P : Program} {w : World} {K : PySem.W.Frag} {mg : Str → Option Value} {base : Heap}
abbrev sCopy : Stmt := topS 30
abbrev sMeet : Stmt := topS 31
abbrev sJoin : Stmt := topS 32
abbrev nCopy : List Str := ["box", "name", "side"]
abbrev nMeet : List Str := ["first", "second", "meet", "name", "side"]
abbrev nJoin : List Str := ["first", "second", "name", "joined"]
theorem scCopy : FnScope nCopy ["box"] (defScope sCopy) := ⟨rfl, rfl, rfl, by decide +kernel, rfl, by decide +kernel, by decide +kernel⟩
theorem scMeet : FnScope nMeet ["first", "second"] (defScope sMeet) := ⟨rfl, rfl, rfl, by decide +kernel, rfl, by decide +kernel, by decide +kernel⟩
theorem scJoin : FnScope nJoin ["first", "second", "name"] (defScope sJoin) := ⟨rfl, rfl, rfl, by decide +kernel, rfl, by decide +kernel, by decide +kernel⟩
end
section
variable {P : Program} {w : World} {K : PySem.W.Frag} {mg : Str → Option Value} {base : Heap}
theorem ok_copy {f : Addr} {fd : FuncData} {k : Nat} (F : Fun K "copied_box" "copied_box" sCopy f fd) (B : Bt mg) : FnOk P w K mg base CX0 (k + 1) f fd ["box"] spCopy := by
  refine F.ok scCopy (fun vs H Q E h => ?_) (fun cdv A outer s H vs Q E hr h => ?_)
  · obtain ⟨d, L, rfl, _⟩ := h
    rfl
  · obtain ⟨d, L, rfl, bx, q⟩ := h
    have nd := scCopy.nd
    refine ⟨_, pss_one (ps_ret (pe_lock (pe_dc (own := [("name", 1), ("side", 2)]) (g := gTup K 2 (gCons (gName 1) (gCons (gName 2) gNil))) (tt := tYes) (tk := tVar 1) (tv := tCB (rLst K) (tCons (tVar 2) tNil)) rfl nd (pi_items (pv 0)) (blkOk_by (N := nCopy) (sc := defScope sCopy) (by decide +kernel))
      (fun _ _ _ _ _ => pg_tup rfl (pgs_cons (pg_name (i := 1) nd rfl (Or.inl rfl)) (pgs_cons (pg_name (i := 2) nd rfl (Or.inl rfl)) pgs_nil))) (fun _ _ _ _ _ => pts_nil) (fun _ _ _ _ _ => pv 1)
      (fun _ _ _ _ _ => pe_callTy call_list_of (by rfl) B.list PyProof.Rows.boot_list (pa_cons (pv 2) pa_nil))))), ?_⟩
    refine ⟨d, _, bx.un, trivial, fun od => ?_⟩
    have bl := bx.toBx.lock (od := od) bx.un
    refine ⟨.ref d, rfl, d, od, entK L, rfl, upd_same, fun D nD => dc_it walk_items (fun i H' => Same (upd H d (.frz od (.dK (entK L)))) H' ∧ ∃ M : List Ent, H' D = some (.dK (entK M)) ∧ (∀ e ∈ M, H' e.2.1 = some (.lst (e.2.2.map V.int))) ∧ (∀ e ∈ M, (upd H d (.frz od (.dK (entK L)))) e.2.1 = none) ∧ (M.map (·.2.1)).Nodup ∧ shape M = shape (L.take i))
      ⟨same_new nD, [], upd_same, by simp, by simp, List.Pairwise.nil, rfl⟩ (fun i H' _ h => h.1 _ _ upd_same) ?_ ?_⟩
    · rintro i x H' H'' hi ⟨sm, M, eD, sd, fr, ij, sh⟩ ⟨T, x1, x2, rfl, nT, rfl, g1, g2⟩
      obtain ⟨e, he, rfl, rfl⟩ := items_at g1 g2
      have em := List.mem_of_getElem? he
      have sT := same_new (o := HO.tup [V.str e.1, V.ref e.2.1]) nT
      have smT := sm.trans sT
      refine ⟨T, _, rfl, .inl (.inl upd_same), rfl, _, _, rfl, _, [], rfl, rfl, ?_⟩
      refine ⟨rfl, ?_⟩
      refine ⟨.str e.1, rfl, .ref e.2.1, rfl, e.2.1, _, rfl, .inl (sl_map (smT _ _ (bl.sides e em))), fun l nl => ?_⟩
      have sl := same_new (o := HO.lst (e.2.2.map V.int)) nl
      have sml := smT.trans sl
      have eD2 := sl _ _ (sT _ _ eD)
      have keys : M.map (·.1) = (L.take i).map (·.1) := shape_keys sh
      have xnew : e.1 ∉ M.map (·.1) := by
        rw [keys]
        intro z
        obtain ⟨g, hg, eg⟩ := List.mem_map.mp z
        obtain ⟨j, hj⟩ := List.mem_iff_getElem?.mp hg
        rw [List.getElem?_take] at hj
        split at hj
        · rename_i hji
          have a1 : (L.map (·.1))[j]? = some e.1 := by rw [List.getElem?_map, hj]; exact congrArg some eg
          have a2 : (L.map (·.1))[i]? = some e.1 := by rw [List.getElem?_map, he]; rfl
          have := nd_ix bx.nd a1 a2
          omega
        · cases hj
      have nlD : l ≠ D := fun z => by rw [z, sT _ _ eD] at nl; cases nl
      refine ⟨_, .inr e.1, rfl, eD2, ?_, same_at sml nD, M ++ [(e.1, l, e.2.2)], ?_, ?_, ?_, ?_, ?_⟩
      · rw [entK_len]
        have : M.length = (L.take i).length := by have := congrArg List.length sh; simpa [shape] using this
        rw [List.length_take] at this
        have := bx.few
        exact small1000 (by omega)
      · rw [upd_same, putK_ent (s := e.2.2), putE_new xnew]
      · intro g hg
        rcases List.mem_append.mp hg with z | z
        · have h1 := sl _ _ (sT _ _ (sd g z))
          have h2 : g.2.1 ≠ D := fun w => by rw [w, eD2] at h1; cases h1
          rw [upd_ne h2]
          exact h1
        · rw [List.mem_singleton.mp z, upd_ne nlD, upd_same]
      · intro g hg
        rcases List.mem_append.mp hg with z | z
        · exact fr g z
        · rw [List.mem_singleton.mp z]
          exact smT.free nl
      · rw [List.map_append]
        refine nd_snoc ij fun z => ?_
        obtain ⟨g, hg, eg⟩ := List.mem_map.mp z
        have eg' : g.2.1 = l := eg
        have h1 := sT _ _ (sd g hg)
        rw [eg', nl] at h1
        cases h1
      · rw [List.take_add_one, he]
        unfold shape at sh ⊢
        rw [List.map_append, List.map_append, sh]
        rfl
    · rintro H' ⟨sm, M, eD, sd, fr, ij, sh⟩
      rw [entK_len, List.take_length] at sh
      have eF := sm _ _ (upd_same (H := H) (a := d) (o := HO.frz od (.dK (entK L))))
      have nDd : D ≠ d := fun z => by rw [z, eF] at eD; cases eD
      have nD0 : H D = none := by rw [upd_ne nDd] at nD; exact nD
      have away : ∀ g ∈ M, g.2.1 ≠ d := fun g hg z => by have := sd g hg; rw [z, eF] at this; cases this
      refine ⟨eF, q _ D M (unlock bx.un sm) ⟨⟨⟨.inl (by rw [upd_ne nDd]; exact eD), fun g hg => by rw [upd_ne (away g hg)]; exact sd g hg, by rw [shape_keys sh]; exact bx.nd, ?_⟩, by rw [upd_ne nDd]; exact eD⟩, nD0, fun g hg => ?_, ij⟩ sh⟩
      · have : M.length = L.length := by have := congrArg List.length sh; simpa [shape] using this
        rw [this]; exact bx.few
      · have := fr g hg
        rw [upd_ne (away g hg)] at this
        exact this
end
/-- the meet, the join, by what they say of a name -/
def mt (L M : List Ent) (x : Str) : Option (List Int) := match look M x with
  | none => look L x
  | some s => match look L x with
    | none => some s
    | some a => some (both a s)
def jo : Option (List Int) → Option (List Int) → Option (List Int)
  | some a, some s => some (uni a s)
  | _, _ => none
def jn (L M : List Ent) (n x : Str) : Option (List Int) := if x = n then jo (look L n) (look M n) else mt L M x
theorem mt_step {L1 L2' : List Ent} {i : Nat} {e : Ent} (nd : (L2'.map (·.1)).Nodup) (he : L2'[i]? = some e) (y : Str) :
    mt L1 (L2'.take (i + 1)) y = if y = e.1 then (match look L1 e.1 with | none => some e.2.2 | some a => some (both a e.2.2)) else mt L1 (L2'.take i) y := by
  unfold mt
  rw [look_take nd he]
  by_cases z : y = e.1
  · rw [if_pos z, if_pos z, z] <;> rfl
  · rw [if_neg z, if_neg z]
theorem mt_nil (L1 : List Ent) (y : Str) : mt L1 [] y = look L1 y := rfl
section
variable {P : Program} {w : World} {K : PySem.W.Frag} {mg : Str → Option Value} {base : Heap}
def spMeet : Sp := fun vs H Q _ => ∃ (a b : Addr) (L1 L2' : List Ent), vs = [.ref a, .ref b] ∧ Bu H a L1 ∧ Bu H b L2' ∧ Sz L1 31 ∧ Sz L2' 31 ∧ L1.length + L2'.length ≤ 40 ∧
  ∀ (H' : Hp) (d : Addr) (M : List Ent), Same H H' → Nb H H' d M → (∀ x, look M x = mt L1 L2' x) → M.length ≤ L1.length + L2'.length → Q (.ref d) H'
theorem ok_meet {f fC fM : Addr} {fd fdC fdM : FuncData} (F : Fun K "meet_boxes" "meet_boxes" sMeet f fd) (B : Bt mg) (C : Call P w K mg base 1 "copied_box" fC fdC ["box"] spCopy)
    (Co : Call P w K mg base 1 "common" fM fdM ["first", "second"] (spTwo K fun ns ks k => k ∈ ns ∧ k ∈ ks)) : FnOk P w K mg base CX0 2 f fd ["first", "second"] spMeet := by
  refine F.ok scMeet (fun vs H Q E h => ?_) (fun cdv A outer s H vs Q E hr h => ?_)
  · obtain ⟨a, b, L1, L2', rfl, _⟩ := h
    rfl
  · obtain ⟨a, b, L1, L2', rfl, b1, b2, z1, z2, few, q⟩ := h
    have hu := hu_of hr
    have nd := scMeet.nd
    refine ⟨_, pss_cons (ps_set (i := 2) nd rfl (.inl rfl) (pe_call C.ok hr (by rfl) C.at_ C.kp C.bd .nil pass0 (pa_cons (pv 0) pa_nil)))
      (pss_cons (ps_lock (ps_for PassesOwn.never rfl (pi_items (pv 1)) (pg_tup rfl (pgs_cons (pg_name (i := 3) nd rfl (.inl rfl)) (pgs_cons (pg_name (i := 4) nd rfl (.inl rfl)) pgs_nil)))
        (pss_one (ps_dput hu (pv 2) (pv 3) (pe_ifExp (pt_cmp (pc_din hu (pv 3) (pv 0))) (pe_call Co.ok hr (by rfl) Co.at_ Co.kp Co.bd .nil pass0 (pa_cons (pe_dget hu (pv 0) (pv 3) (fun _ _ => rfl)) (pa_cons (pv 4) pa_nil)))
          (pe_callTy call_list_of (by rfl) B.list PyProof.Rows.boot_list (pa_cons (pv 4) pa_nil))) rfl))))
      (pss_one (ps_ret (pv 2)))), ?_⟩
    refine ⟨.ref a, rfl, a, L1, rfl, b1, fun H1 d M0 s1 n0 sh => ?_⟩
    have u2 := s1 _ _ b2.un
    have lenM : M0.length = L1.length := by have := congrArg List.length sh; simpa [shape] using this
    refine ⟨b, _, u2, trivial, fun od => ?_⟩
    have c1 := (b1.toBx.same s1).lock (od := od) u2
    have c2 := (b2.toBx.same s1).lock (od := od) u2
    have hb0 : H b ≠ none := by rw [b2.un]; exact fun z => by cases z
    refine ⟨.ref b, rfl, b, od, entK L2', rfl, upd_same, for_it walk_items (fun i σ H' => ∃ (M : List Ent) (y z : Option V), σ = [some (.ref a), some (.ref b), some (.ref d), y, z] ∧ (∀ x o, x ≠ d → (upd H1 b (.frz od (.dK (entK L2')))) x = some o → H x ≠ none → H' x = some o) ∧ H' b = some (.frz od (.dK (entK L2'))) ∧ Nb H H' d M ∧ (∀ x, look M x = mt L1 (L2'.take i) x) ∧ M.length ≤ L1.length + i)
      ⟨M0, none, none, rfl, fun x o _ e _ => e, upd_same, n0.lck hb0, fun x => by rw [List.take_zero, mt_nil]; exact look_shape sh x, by omega⟩ (fun i σ H' _ h => by obtain ⟨M, y, z, _, _, e, _⟩ := h; exact e) ?_ ?_⟩
    · rintro i x σ H' H'' hi ⟨M, y, z, rfl, kp, eF, nb, lk, ln⟩ ⟨T, x1, x2, rfl, nT, rfl, g1, g2⟩
      obtain ⟨e, he, rfl, rfl⟩ := items_at g1 g2
      have em := List.mem_of_getElem? he
      rw [entK_len] at hi
      have sT := same_new (o := HO.tup [V.str e.1, V.ref e.2.1]) nT
      have nbT := nb.push sT
      have eFT := sT _ _ eF
      -- what stood is read as before
      have rd : ∀ {x : Addr} {o : HO}, H x = some o → x ≠ b → H' x = some o := fun {x o} h hx => kp x o (fun w => by rw [w, n0.fresh] at h; cases h) (by rw [upd_ne hx]; exact s1 _ _ h) (by rw [h]; exact fun z => by cases z)
      have rdS : ∀ {x : Addr} {ys : List V}, H x = some (.lst ys) → (upd H' T (.tup [V.str e.1, V.ref e.2.1])) x = some (.lst ys) := fun {x ys} h => sT _ _ (rd h (fun w => by rw [w, b2.un] at h; cases h))
      have bxA : Bx (upd H' T (.tup [V.str e.1, V.ref e.2.1])) a L1 := by
        refine ⟨?_, fun g hg => rdS (b1.sides g hg), b1.nd, b1.few⟩
        by_cases w : a = b
        · have : entK L1 = entK L2' := by
            have h1 := b1.un
            rw [w, b2.un] at h1
            exact (HO.dK.inj (Option.some.inj h1)).symm
          rw [this, w]
          exact .inr ⟨od, eFT⟩
        · exact .inl (sT _ _ (rd b1.un w))
      refine ⟨T, _, rfl, .inl (.inl upd_same), rfl, _, _, rfl, _, [], rfl, rfl, ?_⟩
      have gv := bxA.get e.1
      -- the value that is put
      have back : ∀ {l : Addr}, (upd H' T (.tup [V.str e.1, V.ref e.2.1])) l = none → H l = none := fun {l} nl => by
        cases c : H l with
        | none => rfl
        | some o =>
          by_cases w : l = b
          · rw [w, eFT] at nl; cases nl
          · rw [sT _ _ (rd c w)] at nl; cases nl
      have done : ∀ (H3 : Hp) (l : Addr) (sd : List Int), Same (upd H' T (.tup [V.str e.1, V.ref e.2.1])) H3 → (upd H' T (.tup [V.str e.1, V.ref e.2.1])) l = none → H3 l = some (.lst (sd.map V.int)) →
          (match look L1 e.1 with | none => some e.2.2 | some a => some (both a e.2.2)) = some sd →
          ∃ (M' : List Ent) (y z : Option V), [some (V.ref a), some (V.ref b), some (V.ref d), some (V.str e.1), some (V.ref e.2.1)] = [some (.ref a), some (.ref b), some (.ref d), y, z] ∧ (∀ x o, x ≠ d → (upd H1 b (.frz od (.dK (entK L2')))) x = some o → H x ≠ none → (upd H3 d (.dK (putK (entK M) (.inr e.1) (V.ref l)))) x = some o) ∧
            (upd H3 d (.dK (putK (entK M) (.inr e.1) (V.ref l)))) b = some (.frz od (.dK (entK L2'))) ∧ Nb H (upd H3 d (.dK (putK (entK M) (.inr e.1) (V.ref l)))) d M' ∧ (∀ x, look M' x = mt L1 (L2'.take (i + 1)) x) ∧ M'.length ≤ L1.length + (i + 1) := by
        intro H3 l sd s3 nl el val
        have db : b ≠ d := fun w => hb0 (w ▸ n0.fresh)
        rw [putK_ent (s := sd)]
        refine ⟨putE M e.1 l sd, _, _, rfl, fun x o hx hl hn => ?_, ?_, nbT.put (back nl) nl s3 el (by omega), fun x => ?_, ?_⟩
        · rw [upd_ne hx]
          exact s3 _ _ (sT _ _ (kp x o hx hl hn))
        · rw [upd_ne db]
          exact s3 _ _ eFT
        · rw [look_put, mt_step b2.nd he, val, lk x]
        · have := putE_len M e.1 l sd; omega
      have lenK : (entK M).length < sizeLine := by
        rw [entK_len]
        have := nb.few
        exact small1000 (by omega)
      refine ⟨.str e.1, rfl, .ref a, rfl, a, _, rfl, gv, ?_⟩
      cases c : getE L1 e.1 with
      | none =>
        have hl : look L1 e.1 = none := by unfold look; rw [c]; rfl
        refine ⟨false, rfl, iteF ?_⟩
        refine ⟨.ref e.2.1, rfl, e.2.1, _, rfl, .inl (sl_map (rdS (b2.sides e em))), fun l nl => ?_⟩
        have sl := same_new (o := HO.lst (e.2.2.map V.int)) nl
        refine ⟨.ref d, rfl, .str e.1, rfl, d, _, rfl, DPut.k (k := .inr e.1) (sl _ _ nbT.un) lenK, ?_⟩
        exact done _ l e.2.2 sl nl upd_same (by rw [hl])
      | some m =>
        obtain ⟨mm, me⟩ := getE_mem c
        have hl : look L1 e.1 = some m.2.2 := by unfold look; rw [c]; rfl
        rw [c] at gv
        refine ⟨true, rfl, iteT ?_⟩
        refine ⟨.ref a, rfl, .str e.1, rfl, a, .ref m.2.1, rfl, gv, .ref e.2.1, rfl, m.2.1, e.2.1, m.2.2, e.2.2, rfl, sl_map (rdS (b1.sides m mm)), sl_map (rdS (b2.sides e em)), z1.len m mm, z2.len e em, fun H3 l ms s3 nl el so mem _ => ?_⟩
        have ems : ms = both m.2.2 e.2.2 := srt_ext so (both_srt (z1.srt m mm)) fun k => (mem k).trans (both_mem _ _ k).symm
        refine ⟨.ref d, rfl, .str e.1, rfl, d, _, rfl, DPut.k (k := .inr e.1) (s3 _ _ nbT.un) lenK, ?_⟩
        exact done H3 l ms s3 nl el (by rw [hl, ems])
    · rintro σ H' ⟨M, y, z, rfl, kp, eF, nb, lk, ln⟩
      rw [entK_len] at lk ln
      rw [List.take_length] at lk
      refine ⟨eF, ?_⟩
      have same : Same H (upd H' b (.dK (entK L2'))) := fun x o e => by
        by_cases w : x = b
        · rw [w, upd_same]; rw [w, b2.un] at e; exact e
        · rw [upd_ne w]
          exact kp x o (fun v => by rw [v, n0.fresh] at e; cases e) (by rw [upd_ne w]; exact s1 _ _ e) (by rw [e]; exact fun z => by cases z)
      exact ⟨_, rfl, q _ d M same (nb.unl b2.un eF) lk ln⟩
end
theorem Nb.drop {H0 H : Hp} {d : Addr} {M : List Ent} {x : Str} (N : Nb H0 H d M) : Nb H0 (upd H d (.dK (entK (dropE M x)))) d (dropE M x) := by
  refine ⟨⟨⟨.inl upd_same, fun e he => ?_, dropE_nd N.nd, Nat.le_trans (dropE_len M x) N.few⟩, upd_same⟩, N.fresh, fun e he => N.freshS e (dropE_mem he), List.Pairwise.sublist (List.Sublist.map _ List.filter_sublist) N.inj⟩
  have h1 := N.sides e (dropE_mem he)
  have h2 : e.2.1 ≠ d := fun w => by rw [w, N.un] at h1; cases h1
  rw [upd_ne h2]
  exact h1
theorem Nb.old {H0 H : Hp} {d : Addr} {M : List Ent} {u : HO} (N : Nb H0 H d M) (s : Same H0 H) : Same H0 (upd H d u) := same_at s N.fresh
section
variable {P : Program} {w : World} {K : PySem.W.Frag} {mg : Str → Option Value} {base : Heap}
def spJoin : Sp := fun vs H Q _ => ∃ (a b : Addr) (n : Str) (L1 L2' : List Ent), vs = [.ref a, .ref b, .str n] ∧ Bu H a L1 ∧ Bu H b L2' ∧ Sz L1 31 ∧ Sz L2' 31 ∧ L1.length + L2'.length ≤ 30 ∧
  ∀ (H' : Hp) (d : Addr) (M : List Ent), Same H H' → Nb H H' d M → (∀ x, look M x = jn L1 L2' n x) → M.length ≤ L1.length + L2'.length + 1 → Q (.ref d) H'
theorem ok_join {f fM fU : Addr} {fd fdM fdU : FuncData} (F : Fun K "join_boxes" "join_boxes" sJoin f fd) (B : Bt mg) (Me : Call P w K mg base 2 "meet_boxes" fM fdM ["first", "second"] spMeet)
    (U : Call P w K mg base 1 "united" fU fdU ["first", "second"] (spTwo K fun ns ks k => k ∈ ns ∨ k ∈ ks)) : FnOk P w K mg base CX0 3 f fd ["first", "second", "name"] spJoin := by
  refine F.ok scJoin (fun vs H Q E h => ?_) (fun cdv A outer s H vs Q E hr h => ?_)
  · obtain ⟨a, b, n, L1, L2', rfl, _⟩ := h
    rfl
  · obtain ⟨a, b, n, L1, L2', rfl, b1, b2, z1, z2, few, q⟩ := h
    have hu := hu_of hr
    have nd := scJoin.nd
    have hr1 : Room 1 (A.deeper (envOfC "join_boxes" (defScope sJoin) s.heap.objs.size f cdv)) := hr.mono (by decide)
    refine ⟨_, pss_cons (ps_set (i := 3) nd rfl (.inl rfl) (pe_call Me.ok hr (by rfl) Me.at_ Me.kp Me.bd .nil pass0 (pa_cons (pv 0) (pa_cons (pv 1) pa_nil))))
      (pss_cons (ps_if (PW.pt (pw_and (pt_cmp (pc_din hu (pv 2) (pv 0))) (pw_and1 (pt_cmp (pc_din hu (pv 2) (pv 1))))))
        (pss_one (ps_dput hu (pv 3) (pv 2) (pe_call U.ok hr1 (by rfl) U.at_ U.kp U.bd .nil pass0 (pa_cons (pe_dget hu (pv 0) (pv 2) (fun _ _ => rfl)) (pa_cons (pe_dget hu (pv 1) (pv 2) (fun _ _ => rfl)) pa_nil))) rfl))
        (pss_one (ps_if (pt_cmp (pc_din hu (pv 2) (pv 3))) (pss_one (ps_ddel (pv 3) (pv 2))) pss_nil)))
      (pss_one (ps_ret (pv 3)))), ?_⟩
    refine ⟨.ref a, rfl, .ref b, rfl, a, b, L1, L2', rfl, b1, b2, z1, z2, by omega, fun H1 d M s1 nb lk ln => ?_⟩
    have b1' := b1.same' s1
    have b2' := b2.same' s1
    have g1 := b1'.toBx.get n
    have g2 := b2'.toBx.get n
    have g3 := nb.toBx.get n
    have jn_ne : ∀ x, x ≠ n → jn L1 L2' n x = mt L1 L2' x := fun x h => by unfold jn; rw [if_neg h]
    -- without the name in both: it is taken out
    have out : jo (look L1 n) (look L2' n) = none →
        ∃ y, DGet H1 d (.str n) y ∧ ∃ c, V.bl y.isSome = .bl c ∧ (if c = true then ∃ kvs k, H1 d = some (.dK kvs) ∧ V.str n = kV k ∧ (valV kvs k).isSome = true ∧ Q (.ref d) (upd H1 d (.dK (dropK kvs k))) else Q (.ref d) H1) := by
      intro hj
      refine ⟨_, g3, _, rfl, ?_⟩
      cases c : getE M n with
      | none =>
        refine iteF (q H1 d M s1 nb (fun x => ?_) (by omega))
        by_cases h : x = n
        · unfold jn
          rw [if_pos h, hj, h]
          unfold look
          rw [c]
          rfl
        · rw [jn_ne x h]; exact lk x
      | some e =>
        refine iteT ⟨entK M, .inr n, nb.un, rfl, by rw [valV_ent, c]; rfl, ?_⟩
        rw [dropK_ent]
        refine q _ d (dropE M n) (nb.old s1) nb.drop (fun x => ?_) (by have := dropE_len M n; omega)
        rw [look_drop]
        by_cases h : x = n
        · unfold jn
          rw [if_pos h, if_pos h, hj]
        · rw [if_neg h, jn_ne x h]
          exact lk x
    have fin : jo (look L1 n) (look L2' n) = none → tIfS (tB (tDIn (tVar 2) (tVar 3))) (sDDel (tVar 3) (tVar 2)) tNext { nx := fun σ H => ∃ v, σ[3]? = some (some v) ∧ Q v H, rt := Q } [some (V.ref a), some (V.ref b), some (V.str n), some (V.ref d)] H1 := by
      intro hj
      obtain ⟨y, h1, c, h2, h3⟩ := out hj
      refine ⟨.str n, rfl, .ref d, rfl, d, y, rfl, h1, c, h2, ?_⟩
      cases c with
      | true =>
        rw [if_pos rfl] at h3
        obtain ⟨kvs, k, e1, e2, e3, qq⟩ := h3
        exact iteT ⟨.ref d, rfl, .str n, rfl, d, kvs, k, rfl, e1, e2, e3, _, rfl, qq⟩
      | false =>
        rw [if_neg (by simp)] at h3
        exact iteF ⟨_, rfl, h3⟩
    refine ⟨.str n, rfl, .ref a, rfl, a, _, rfl, g1, ?_⟩
    cases c1 : getE L1 n with
    | none =>
      have hl : look L1 n = none := by unfold look; rw [c1]; rfl
      refine ⟨false, rfl, iteF ?_⟩
      exact fin (by rw [hl]; rfl)
    | some m1 =>
      have hl : look L1 n = some m1.2.2 := by unfold look; rw [c1]; rfl
      obtain ⟨mm1, me1⟩ := getE_mem c1
      refine ⟨true, rfl, iteT ?_⟩
      refine ⟨.str n, rfl, .ref b, rfl, b, _, rfl, g2, ?_⟩
      cases c2 : getE L2' n with
      | none =>
        have hl2 : look L2' n = none := by unfold look; rw [c2]; rfl
        refine ⟨false, rfl, iteF ?_⟩
        exact fin (by rw [hl, hl2]; rfl)
      | some m2 =>
        have hl2 : look L2' n = some m2.2.2 := by unfold look; rw [c2]; rfl
        obtain ⟨mm2, me2⟩ := getE_mem c2
        rw [c1] at g1
        rw [c2] at g2
        refine ⟨true, rfl, iteT ?_⟩
        refine ⟨.ref a, rfl, .str n, rfl, a, .ref m1.2.1, rfl, g1, .ref b, rfl, .str n, rfl, b, .ref m2.2.1, rfl, g2, m1.2.1, m2.2.1, m1.2.2, m2.2.2, rfl, sl_map (b1'.sides m1 mm1), sl_map (b2'.sides m2 mm2), z1.len m1 mm1, z2.len m2 mm2, fun H3 l ms s3 nl el so mem _ => ?_⟩
        have ems : ms = uni m1.2.2 m2.2.2 := srt_ext so (uni_srt (z1.srt m1 mm1) _) fun k => (mem k).trans (uni_mem _ k _).symm
        refine ⟨.ref d, rfl, .str n, rfl, d, _, rfl, DPut.k (k := .inr n) (s3 _ _ nb.un) (by rw [entK_len]; exact small1000 (by have := nb.few; omega)), ?_⟩
        rw [putK_ent (s := ms)]
        refine ⟨_, rfl, q _ d (putE M n l ms) (same_at (s1.trans s3) nb.fresh) (nb.put (s1.free nl) nl s3 el (by omega)) (fun x => ?_) (by have := putE_len M n l ms; omega)⟩
        rw [look_put]
        by_cases h : x = n
        · unfold jn
          rw [if_pos h, if_pos h, hl, hl2, ems]
          rfl
        · rw [if_neg h, jn_ne x h]
          exact lk x
end
end K6

set_option Elab.async false
set_option linter.all false
set_option maxRecDepth 100000
set_option maxHeartbeats 4000000
namespace K6
open PySem PySem.Spec PyProof.Rows L2 Cs
/-! ### facts of the heap, for grind -/
@[grind =] theorem g_upd (H : Hp) (a b : Addr) (o : HO) : upd H a o b = if b = a then some o else H b := rfl
@[grind =] theorem g_same (H H' : Hp) : Same H H' ↔ (∀ a o, H a = some o → H' a = some o) ∧ ∀ a, H' a = none → H a = none := ⟨fun s => ⟨s, fun a h => s.free h⟩, fun h => h.1⟩
@[grind =] theorem g_keep (p : Addr) (H H' : Hp) : Keep p H H' ↔ (∀ a o, a ≠ p → H a = some o → H' a = some o) ∧ ∀ a, a ≠ p → H' a = none → H a = none := ⟨fun s => ⟨s, fun a hp h => by
  cases c : H a with
  | none => rfl
  | some o => rw [s a o hp c] at h; cases h⟩, fun h => h.1⟩
@[grind =] theorem g_oth (p : Addr) (H H' : Hp) : Oth p H H' ↔ ∀ a, a ≠ p → H' a = H a := Iff.rfl
@[grind =] theorem g_strm (H : Hp) (p : Addr) : Strm H p ↔ ∃ x y z : Int, H p = some (.lst [.int x, .int y, .int z]) := Iff.rfl
theorem g_new {H : Hp} {q : Addr} {o : HO} (n : H q = none) : Same H (upd H q o) := same_new n
grind_pattern g_new => upd H q o
grind_pattern Bu.same' => Bu H d L, Same H H'
grind_pattern Bu.un => Bu H d L
/-! ### what a box says, as a function -/
abbrev Cn := Str → Option (List Int)
def jnf (f g : Cn) (n x : Str) : Option (List Int) := if x = n then jo (f n) (g n) else match g x with
  | none => f x
  | some s => match f x with
    | none => some s
    | some a => some (both a s)
theorem jn_jnf (L M : List Ent) (n x : Str) : jn L M n x = jnf (look L) (look M) n x := rfl
/-- over the names xs, with sides out of ns -/
structure OkC (xs : List Str) (ns : List Int) (f : Cn) : Prop where
  keys : ∀ x, (f x).isSome = true ↔ x ∈ xs
  srt : ∀ x s, f x = some s → Srt s
  sub : ∀ x s, f x = some s → ∀ v ∈ s, v ∈ ns
theorem OkC.get {xs : List Str} {ns : List Int} {f : Cn} (o : OkC xs ns f) {x : Str} (h : x ∈ xs) : ∃ s, f x = some s := Option.isSome_iff_exists.mp ((o.keys x).mpr h)
theorem OkC.jnf {xs : List Str} {ns : List Int} {f g : Cn} {n : Str} (a : OkC xs ns f) (b : OkC xs ns g) (hn : n ∈ xs) : OkC xs ns (jnf f g n) := by
  obtain ⟨s0, h0⟩ := a.get hn
  obtain ⟨t0, k0⟩ := b.get hn
  refine ⟨fun x => ?_, fun x s h => ?_, fun x s h v hv => ?_⟩
  · unfold K6.jnf
    by_cases c : x = n
    · rw [if_pos c, h0, k0, c]; simp [jo, hn]
    · rw [if_neg c]
      have h1 := a.keys x
      have h2 := b.keys x
      cases hg : g x <;> cases hf : f x <;> simp_all
  · unfold K6.jnf at h
    by_cases c : x = n
    · rw [if_pos c, h0, k0] at h
      obtain rfl := Option.some.inj h
      exact uni_srt (a.srt _ _ h0) _
    · rw [if_neg c] at h
      cases hg : g x with
      | none => rw [hg] at h; exact a.srt _ _ h
      | some t =>
        rw [hg] at h
        cases hf : f x with
        | none => rw [hf] at h; obtain rfl := Option.some.inj h; exact b.srt _ _ hg
        | some u => rw [hf] at h; obtain rfl := Option.some.inj h; exact both_srt (a.srt _ _ hf)
  · unfold K6.jnf at h
    by_cases c : x = n
    · rw [if_pos c, h0, k0] at h
      obtain rfl := Option.some.inj h
      rcases (uni_mem _ _ _).mp hv with z | z
      · exact a.sub _ _ h0 v z
      · exact b.sub _ _ k0 v z
    · rw [if_neg c] at h
      cases hg : g x with
      | none => rw [hg] at h; exact a.sub _ _ h v hv
      | some t =>
        rw [hg] at h
        cases hf : f x with
        | none => rw [hf] at h; obtain rfl := Option.some.inj h; exact b.sub _ _ hg v hv
        | some u => rw [hf] at h; obtain rfl := Option.some.inj h; exact a.sub _ _ hf v ((both_mem _ _ _).mp hv).1
theorem srt_nd {l : List Int} (s : Srt l) : l.Nodup := List.Pairwise.imp (fun h z => by rw [z] at h; exact absurd h (Int.lt_irrefl _)) s
theorem OkC.len {xs : List Str} {ns : List Int} {f : Cn} (o : OkC xs ns f) {x : Str} {s : List Int} (h : f x = some s) : s.length ≤ ns.length := len_le (srt_nd (o.srt _ _ h)) (o.sub _ _ h)
theorem OkC.sz {xs : List Str} {ns : List Int} {L : List Ent} (o : OkC xs ns (look L)) (nd : (L.map (·.1)).Nodup) {k : Nat} (hk : ns.length ≤ k) : Sz L k :=
  ⟨fun e he => o.srt _ _ (look_mem nd he), fun e he => Nat.le_trans (o.len (look_mem nd he)) hk⟩
theorem OkC.few {xs : List Str} {ns : List Int} {L : List Ent} (o : OkC xs ns (look L)) (nd : (L.map (·.1)).Nodup) : L.length ≤ xs.length := by
  have := len_le nd fun x hx => (o.keys x).mp (look_isSome.mpr hx)
  rw [List.length_map] at this
  exact this
/-! ### steps, plans -/
abbrev Stp := Str × Int × Int
def nthC (k : List Cn) (i : Int) : Cn := k.getD i.toNat fun _ => none
def stepC (k : List Cn) (s : Stp) : List Cn := k ++ [jnf (nthC k s.2.1) (nthC k s.2.2) s.1]
def planC (k : List Cn) (ss : List Stp) : List Cn := ss.foldl stepC k
theorem planC_len (ss : List Stp) : ∀ k : List Cn, (planC k ss).length = k.length + ss.length := by
  induction ss with
  | nil => intro k; rfl
  | cons s ss ih =>
    intro k
    show (planC (stepC k s) ss).length = _
    rw [ih, stepC, List.length_append, List.length_cons]
    simp; omega
theorem planC_snoc (k : List Cn) {ss : List Stp} {i : Nat} {s : Stp} (h : ss[i]? = some s) : planC k (ss.take (i + 1)) = stepC (planC k (ss.take i)) s := by
  rw [List.take_add_one, h]
  unfold planC
  rw [List.foldl_append] <;> rfl
/-- good steps from the n-th box on -/
def GoodS (xs : List Str) (n : Nat) (ss : List Stp) : Prop := ∀ (i : Nat) (s : Stp), ss[i]? = some s → s.1 ∈ xs ∧ 0 ≤ s.2.1 ∧ s.2.1 < (n + i : Nat) ∧ 0 ≤ s.2.2 ∧ s.2.2 < (n + i : Nat)
theorem nthC_of {k : List Cn} {i : Int} (h0 : 0 ≤ i) (h1 : i < (k.length : Nat)) : ∃ f, k[i.toNat]? = some f ∧ nthC k i = f := by
  have h : i.toNat < k.length := by omega
  exact ⟨k[i.toNat], List.getElem?_eq_getElem h, by unfold nthC; rw [List.getD_eq_getElem?_getD, List.getElem?_eq_getElem h] <;> rfl⟩
theorem planC_ok {xs : List Str} {ns : List Int} {k : List Cn} {ss : List Stp} (hk : ∀ f ∈ k, OkC xs ns f) (g : GoodS xs k.length ss) : ∀ i, i ≤ ss.length → ∀ f ∈ planC k (ss.take i), OkC xs ns f
  | 0, _ => hk
  | i + 1, hi => by
    have ih := planC_ok hk g i (by omega)
    obtain ⟨s, hs⟩ : ∃ s, ss[i]? = some s := ⟨_, List.getElem?_eq_getElem (by omega)⟩
    obtain ⟨h1, h2, h3, h4, h5⟩ := g i s hs
    have l := planC_len (ss.take i) k
    rw [List.length_take, Nat.min_eq_left (by omega)] at l
    rw [planC_snoc k hs]
    intro f hf
    rcases List.mem_append.mp hf with z | z
    · exact ih f z
    · rw [List.mem_singleton.mp z]
      obtain ⟨a, ha, ea⟩ := nthC_of (k := planC k (ss.take i)) h2 (by omega)
      obtain ⟨b, hb, eb⟩ := nthC_of (k := planC k (ss.take i)) h4 (by omega)
      rw [ea, eb]
      exact (ih a (List.mem_of_getElem? ha)).jnf (ih b (List.mem_of_getElem? hb)) h1
/-! ### lists of boxes -/
abbrev Bxs := List (Addr × List Ent)
structure BL (H : Hp) (l : Addr) (Bs : Bxs) : Prop where
  lst : H l = some (.lst (Bs.map fun b => V.ref b.1))
  box : ∀ b ∈ Bs, Bu H b.1 b.2
abbrev says (Bs : Bxs) : List Cn := Bs.map fun b => look b.2
theorem BL.same {H H' : Hp} {l : Addr} {Bs : Bxs} (B : BL H l Bs) (s : Same H H') : BL H' l Bs := ⟨s _ _ B.lst, fun b h => (B.box b h).same' s⟩
structure StL (H : Hp) (l : Addr) (ts : List (Addr × Stp)) : Prop where
  lst : H l = some (.lst (ts.map fun t => V.ref t.1))
  tup : ∀ t ∈ ts, H t.1 = some (.tup [.str t.2.1, .int t.2.2.1, .int t.2.2.2])
theorem StL.same {H H' : Hp} {l : Addr} {ts : List (Addr × Stp)} (B : StL H l ts) (s : Same H H') : StL H' l ts := ⟨s _ _ B.lst, fun b h => s _ _ (B.tup b h)⟩
grind_pattern BL.same => BL H l Bs, Same H H'
grind_pattern StL.same => StL H l ts, Same H H'
example {H H1 H2 H3 : Hp} {l p q : Addr} {Bs : Bxs} {o : HO} (b : BL H l Bs) (s : Same H H1) (n : H1 q = none) (s2 : Same (upd H1 q o) H2) : BL H2 l Bs := by grind
example {H H1 H2 H3 : Hp} {l p q : Addr} {o : HO} (st : Strm H p) (h : H l = some o) (np : l ≠ p) (s : Oth p H H1) (st1 : Strm H1 p) (n : H1 q = none) (s2 : Keep p (upd H1 q o) H2) : Keep p H H2 ∧ H2 l = some o ∧ p ≠ q := by grind
end K6

set_option Elab.async false
set_option linter.all false
set_option maxRecDepth 100000
set_option maxHeartbeats 4000000
namespace K6
open PySem PySem.Spec PyProof.Rows L2 Cs CsX
theorem ite_both {A B : Prop} {c : Bool} (h1 : c = true → A) (h2 : c = false → B) : if c = true then A else B := by
  cases c with
  | true => rw [if_pos rfl]; exact h1 rfl
  | false => rw [if_neg (by decide)]; exact h2 rfl
theorem at_int {xs : List V} {i : Int} {v : V} (h0 : 0 ≤ i) (h : xs[i.toNat]? = some v) : atI xs i = some v := by
  have := atI_nat h
  rw [show ((i.toNat : Nat) : Int) = i by omega] at this
  exact this
theorem Bu.upd {H : Hp} {d l : Addr} {L : List Ent} {o : HO} (B : Bu H d L) (h1 : d ≠ l) (h2 : ∀ e ∈ L, e.2.1 ≠ l) : Bu (upd H l o) d L :=
  ⟨⟨.inl (by rw [upd_ne h1]; exact B.un), fun e he => by rw [upd_ne (h2 e he)]; exact B.sides e he, B.nd, B.few⟩, by rw [upd_ne h1]; exact B.un⟩
theorem Nb.upd {H0 H : Hp} {d l : Addr} {L : List Ent} {o : HO} (B : Nb H0 H d L) (h1 : d ≠ l) (h2 : ∀ e ∈ L, e.2.1 ≠ l) : Nb H0 (upd H l o) d L :=
  ⟨B.toBu.upd h1 h2, B.fresh, B.freshS, B.inj⟩
/-- all new, and apart -/
structure NBs (H0 H : Hp) (Bs : Bxs) : Prop where
  new : ∀ b ∈ Bs, Nb H0 H b.1 b.2
  apart : (Bs.flatMap fun b => b.2.map (·.2.1)).Nodup
structure NL (H0 H : Hp) (l : Addr) (Bs : Bxs) : Prop extends NBs H0 H Bs where
  lst : H l = some (.lst (Bs.map fun b => V.ref b.1))
  fresh : H0 l = none
  away : ∀ b ∈ Bs, ∀ e ∈ b.2, e.2.1 ≠ l
theorem NL.bl {H0 H : Hp} {l : Addr} {Bs : Bxs} (n : NL H0 H l Bs) : BL H l Bs := ⟨n.lst, fun b h => (n.new b h).toBu⟩
theorem NL.nil {H0 H : Hp} {l : Addr} (h : H0 l = none) (e : H l = some (.lst [])) : NL H0 H l [] := ⟨⟨(fun _ h => nomatch h), List.Pairwise.nil⟩, e, h, (fun _ h => nomatch h)⟩
theorem NL.push {H0 H H2 : Hp} {l : Addr} {Ks : Bxs} (n : NL H0 H l Ks) (s : Same H H2) : NL H0 H2 l Ks := ⟨⟨fun b h => (n.new b h).push s, n.apart⟩, s _ _ n.lst, n.fresh, n.away⟩
theorem NL.snoc {H0 H H2 : Hp} {l d : Addr} {Ks : Bxs} {M : List Ent} (n : NL H0 H l Ks) (s0 : ∀ a, H a = none → H0 a = none) (s : Same H H2) (b : Nb H H2 d M) :
    NL H0 (L2.upd H2 l (.lst ((Ks.map fun b => V.ref b.1) ++ [.ref d]))) l (Ks ++ [(d, M)]) := by
  have hl : H l ≠ none := by rw [n.lst]; exact fun z => nomatch z
  have dl : d ≠ l := fun z => hl (z ▸ b.fresh)
  have sl : ∀ e ∈ M, e.2.1 ≠ l := fun e he z => hl (z ▸ b.freshS e he)
  have kd : ∀ c ∈ Ks, c.1 ≠ l := fun c hc z => by
    have h1 := (n.new c hc).un
    rw [z, n.lst] at h1
    cases h1
  refine ⟨⟨fun c hc => ?_, ?_⟩, ?_, n.fresh, fun c hc e he => ?_⟩
  · rcases List.mem_append.mp hc with h | h
    · exact ((n.new c h).push s).upd (kd c h) (n.away c h)
    · rw [List.mem_singleton.mp h]
      exact ⟨b.toBu.upd dl sl, s0 _ b.fresh, fun e he => s0 _ (b.freshS e he), b.inj⟩
  · rw [List.flatMap_append]
    refine List.nodup_append.mpr ⟨n.apart, ?_, fun x hx y hy z => ?_⟩
    · simp only [List.flatMap_cons, List.flatMap_nil, List.append_nil]
      exact b.inj
    · obtain ⟨c, hc, hx⟩ := List.mem_flatMap.mp hx
      obtain ⟨e, he, rfl⟩ := List.mem_map.mp hx
      simp only [List.flatMap_cons, List.flatMap_nil, List.append_nil] at hy
      obtain ⟨g, hg, rfl⟩ := List.mem_map.mp hy
      have h1 := (n.new c hc).sides e he
      rw [z, b.freshS g hg] at h1
      cases h1
  · rw [upd_same, List.map_append] <;> rfl
  · rcases List.mem_append.mp hc with h | h
    · exact n.away c h e he
    · rw [List.mem_singleton.mp h] at he
      exact sl e he
theorem says_snoc (Ks : Bxs) (d : Addr) (M : List Ent) : says (Ks ++ [(d, M)]) = says Ks ++ [look M] := by unfold says; rw [List.map_append] <;> rfl
theorem says_at {Ks : Bxs} {k : List Cn} (h : says Ks = k) {i : Int} (h0 : 0 ≤ i) (h1 : i < (Ks.length : Nat)) : ∃ b, Ks[i.toNat]? = some b ∧ nthC k i = look b.2 ∧ atI (Ks.map fun b => V.ref b.1) i = some (.ref b.1) := by
  have l : i.toNat < Ks.length := by omega
  refine ⟨Ks[i.toNat], List.getElem?_eq_getElem l, ?_, at_int h0 (by rw [List.getElem?_map, List.getElem?_eq_getElem l] <;> rfl)⟩
  unfold nthC
  rw [← h, List.getD_eq_getElem?_getD, List.getElem?_map, List.getElem?_eq_getElem l] <;> rfl
theorem says_len {Ks : Bxs} {k : List Cn} (h : says Ks = k) : Ks.length = k.length := by rw [← h, List.length_map]
section
variable {P : Program} {w : World} {K : PySem.W.Frag} {mg : Str → Option Value} {base : Heap}
abbrev sRun : Stmt := topS 34
abbrev nRun : List Str := ["boxes", "steps", "known", "position", "name", "first", "second", "box"]
theorem scRun : FnScope nRun ["boxes", "steps"] (defScope sRun) := ⟨rfl, rfl, rfl, by decide +kernel, rfl, by decide +kernel, by decide +kernel⟩
def spRun : Sp := fun vs H Q _ => ∃ (a s : Addr) (Bs : Bxs) (ts : List (Addr × Stp)) (xs : List Str) (ns : List Int), vs = [.ref a, .ref s] ∧ BL H a Bs ∧ StL H s ts ∧ (∀ f ∈ says Bs, OkC xs ns f) ∧ xs.length ≤ 8 ∧ ns.length ≤ 31 ∧ GoodS xs Bs.length (ts.map (·.2)) ∧ Bs.length + ts.length ≤ 900 ∧
  ∀ (H' : Hp) (l : Addr) (Ks : Bxs), Same H H' → NL H H' l Ks → says Ks = planC (says Bs) (ts.map (·.2)) → Q (.ref l) H'
theorem BL.at_ {H : Hp} {l : Addr} {Bs : Bxs} (B : BL H l Bs) {i : Nat} {b : Addr × List Ent} (h : Bs[i]? = some b) : Bu H b.1 b.2 := B.box b (List.mem_of_getElem? h)
theorem ok_Run {f f0 f1 : Addr} {fd fd0 fd1 : FuncData} (F : Fun K "run_plan" "run_plan" sRun f fd) (B : Bt mg) (zmin : mg "min" = none) (zmax : mg "max" = none) (zenum : mg "enumerate" = none) (Ccb : Call P w K mg base 1 "copied_box" f0 fd0 ["box"] spCopy) (Cjo : Call P w K mg base 3 "join_boxes" f1 fd1 ["first", "second", "name"] spJoin) :
    FnOk P w K mg base CX0 4 f fd ["boxes", "steps"] spRun := by
  refine F.ok scRun (fun vs H Q E h => ?_) (fun cdv A outer s H vs Q E hr h => ?_)
  · obtain ⟨a, s, Bs, ts, xs, ns, rfl, _⟩ := h
    rfl
  · obtain ⟨a, sa, Bs, ts, xs, ns, rfl, bl, sl, okc, x8, n31, good, few, q⟩ := h
    have hu := hu_of hr
    have nd := scRun.nd
    refine ⟨_, pss_cons (ps_setLc (i := 2) (own := [("box", 7)]) (g := gName 7) (tt := tYes)  rfl nd rfl rfl (by rfl) (pi_list (pv 0)) (blkOk_by (N := nRun) (sc := defScope sRun) (by decide +kernel)) (fun _ _ _ _ _ => pg_name (i := 7) nd rfl (.inl rfl)) (fun _ _ _ _ _ => pts_nil)
          (fun _ _ _ _ _ => (pe_call Ccb.ok (hr.mono (by decide)) (by rfl) Ccb.at_ Ccb.kp Ccb.bd .nil pass0 (pa_cons (pv 7) pa_nil))))
      (pss_cons (ps_for PassesOwn.never rfl (pi_enum (by rfl) zenum (pa_cons (pv 1) pa_nil)) (pg_tup (by rfl) (pgs_cons (pg_name (i := 3) nd rfl (.inl rfl)) (pgs_cons (pg_tup (by rfl) (pgs_cons (pg_name (i := 4) nd rfl (.inl rfl)) (pgs_cons (pg_name (i := 5) nd rfl (.inl rfl)) (pgs_cons (pg_name (i := 6) nd rfl (.inl rfl)) pgs_nil)))) pgs_nil)))
        (pss_cons (ps_if (PW.pt (pw_or (pt_cmpR op_lt (pe_callB (call_min2 rfl) (by rfl) zmin PyProof.Rows.boot_min (pa_cons (pv 5) (pa_cons (pv 6) pa_nil))) pe_int rfl) (pw_or1 (pt_cmpR op_ge (pe_callB (call_max2 rfl) (by rfl) zmax PyProof.Rows.boot_max (pa_cons (pv 5) (pa_cons (pv 6) pa_nil))) (pe_callB call_len_seq (by rfl) B.len PySem.boot_len (pa_cons (pv 2) pa_nil)) rfl))))
            pss_any
            pss_nil)
          (pss_one (ps_expr (pe_bm PySem.F.plainAttrs_list PySem.F.slot_list_append PySem.F.type_list_append mt_append (pv 2) (pa_cons (pe_call Cjo.ok (hr.mono (by decide)) (by rfl) Cjo.at_ Cjo.kp Cjo.bd .nil pass0 (pa_cons (pe_ix ix_list (pv 2) (pv 5) (fun _ _ => rfl)) (pa_cons (pe_ix ix_list (pv 2) (pv 6) (fun _ _ => rfl)) (pa_cons (pv 4) pa_nil)))) pa_nil))))))
      (pss_one (ps_ret (pv 2)))), ?_⟩
    refine ⟨.ref a, rfl, a, rfl, ⟨_, sl_map bl.lst⟩, fun R nR => ?_⟩
    refine lc_list (xs := Bs.map fun b => V.ref b.1) (fun i H' => ∃ Ks : Bxs, Same H H' ∧ NL H H' R Ks ∧ says Ks = (says Bs).take i) ⟨[], same_new nR, NL.nil nR upd_same, rfl⟩ (fun i H' _ h => sl_map (by obtain ⟨Ks, s, _⟩ := h; exact (bl.same s).lst)) ?_ ?_
    · rintro i x H' hx ⟨Ks, s, nl, sk⟩
      rw [List.getElem?_map] at hx
      obtain ⟨b, hb, rfl⟩ := Option.map_eq_some_iff.mp hx
      have hi := (List.getElem?_eq_some_iff.mp hb).1
      refine ⟨rfl, .ref b.1, rfl, b.1, b.2, rfl, (bl.same s).at_ hb, fun H2 d M s2 nb sh => ?_⟩
      have lk := says_len sk
      rw [List.length_take, List.length_map] at lk
      refine ⟨_, s2 _ _ nl.lst, by rw [List.length_map]; exact small1000 (by omega), Ks ++ [(d, M)], same_at (s.trans s2) nR, nl.snoc (fun a h => s.free h) s2 nb, ?_⟩
      rw [says_snoc, sk, List.take_add_one, List.getElem?_map, hb]
      show _ ++ [look M] = _ ++ [look b.2]
      rw [show look M = look b.2 from funext (look_shape sh)]
    · rintro H' ⟨Ks0, s, nl, sk⟩
      rw [List.length_map, ← List.length_map (f := fun b : Addr × List Ent => look b.2), List.take_length] at sk
      refine ⟨.ref sa, rfl, sa, _, rfl, sl_map (sl.same s).lst, for_it walk_enum (fun i σ H' => ∃ (y3 y4 y5 y6 : Option V) (Ks : Bxs), σ = [some (.ref a), some (.ref sa), some (.ref R), y3, y4, y5, y6, none] ∧ Same H H' ∧ NL H H' R Ks ∧ says Ks = planC (says Bs) ((ts.map (·.2)).take i))
        ⟨none, none, none, none, Ks0, rfl, s, nl, sk⟩ (fun i σ H' _ h => by obtain ⟨_, _, _, _, _, _, s, _⟩ := h; exact sl_map (sl.same s).lst) ?_ ?_⟩
      · rintro i x σ H1 H2 hi ⟨y3, y4, y5, y6, Ks, rfl, s, nl, sk⟩ ⟨T, x1, x2, rfl, nT, rfl, g1, g2⟩
        replace g2 : (ts.map fun t => V.ref t.1)[i]? = some x2 := g2
        rw [List.getElem?_map] at g2
        obtain ⟨t, ht, rfl⟩ := Option.map_eq_some_iff.mp g2
        obtain rfl := Option.some.inj g1
        rw [List.length_map] at hi
        have sT := s.trans (same_new (o := HO.tup [V.int (i : Nat), V.ref t.1]) nT)
        have nl2 := nl.push (same_new (o := HO.tup [V.int (i : Nat), V.ref t.1]) nT)
        have et := (sl.same sT).tup t (List.mem_of_getElem? ht)
        have hts : (ts.map (·.2))[i]? = some t.2 := by rw [List.getElem?_map, ht] <;> rfl
        obtain ⟨gx, g1, g2, g3, g4⟩ := good i t.2 hts
        have lk := says_len sk
        rw [planC_len, List.length_take, List.length_map, List.length_map, Nat.min_eq_left (by omega)] at lk
        refine ⟨T, _, rfl, .inl (.inl upd_same), rfl, _, _, rfl, _, _, rfl, ⟨t.1, _, rfl, .inl (.inl et), rfl, _, _, rfl, _, _, rfl, _, _, rfl, rfl, rfl, ?_⟩⟩
        generalize upd H1 T (HO.tup [V.int (i : Nat), V.ref t.1]) = H3 at sT nl2 et ⊢
        refine ⟨_, rfl, _, rfl, _, _, rfl, _, _, rfl, rfl, _, rfl, ite_both (fun c => absurd (of_decide_eq_true c) (by split <;> omega)) fun _ => ?_⟩
        refine ⟨_, rfl, _, rfl, _, _, rfl, _, rfl, R, _, rfl, .inl (sl_map nl2.lst), _, _, rfl, rfl, _, rfl, ite_both (fun c => absurd (of_decide_eq_true c) (by rw [List.length_map]; split <;> omega)) fun _ => ?_⟩
        obtain ⟨b, hb, eb, ab⟩ := says_at sk g1 (by omega)
        obtain ⟨c, hc, ec, ac⟩ := says_at sk g3 (by omega)
        have okb := planC_ok okc (by rw [List.length_map]; exact good) i (by rw [List.length_map]; omega)
        rw [← sk] at okb
        have ob := okb _ (List.mem_map_of_mem (List.mem_of_getElem? hb))
        have oc := okb _ (List.mem_map_of_mem (List.mem_of_getElem? hc))
        have bb := nl2.bl.at_ hb
        have bc := nl2.bl.at_ hc
        have fb := ob.few bb.nd
        have fc := oc.few bc.nd
        refine ⟨_, rfl, .inl ⟨rfl, _, sl_map nl2.lst⟩, _, rfl, _, rfl, R, _, _, .ref b.1, rfl, rfl, sl_map nl2.lst, ab, _, rfl, _, rfl, R, _, _, .ref c.1, rfl, rfl, sl_map nl2.lst, ac, _, rfl, b.1, c.1, t.2.1, b.2, c.2, rfl, bb, bc, ob.sz bb.nd n31, oc.sz bc.nd n31, by omega, fun H4 d M s4 nb lkM _ => ?_⟩
        refine ⟨R, _, _, rfl, rfl, s4 _ _ nl2.lst, by rw [List.length_map]; exact small1000 (by omega), _, _, _, _, Ks ++ [(d, M)], rfl, same_at (sT.trans s4) nR, nl2.snoc (fun a h => sT.free h) s4 nb, ?_⟩
        rw [says_snoc, planC_snoc _ hts, ← sk]
        unfold stepC
        rw [sk, eb, ec]
        congr 1
        rw [show look M = jnf (look b.2) (look c.2) t.2.1 from funext lkM]
      · rintro σ H' ⟨y3, y4, y5, y6, Ks, rfl, s, nl, sk⟩
        rw [List.length_map, ← List.length_map (f := fun t : Addr × Stp => t.2), List.take_length] at sk
        exact ⟨_, rfl, q _ R Ks s nl sk⟩
end
end K6

set_option Elab.async false
set_option linter.all false
set_option maxRecDepth 100000
set_option maxHeartbeats 4000000
namespace K6
open PySem PySem.Spec PyProof.Rows L2 Cs CsX
def initOf : Stmt → Stmt
  | .ClassDef (body := b) .. => b.getD 0 (.Pass ⟨0, 0, 0, 0⟩)
  | s => s
/-- a def that stands, with its promise: it raises -/
structure CallX (P : Program) (w : World) (K : PySem.W.Frag) (mg : Str → Option Value) (base : Heap) (k : Nat) (x : Str) (f : Addr) (fd : FuncData) (ps : List Str) (sp : Sp) : Prop where
  ok : FnOk P w K mg base (L2.CX P w) k f fd ps sp
  at_ : mg x = some (.ref f)
  kp : PySem.W.keepIn K (.ref f) = true
  bd : Binds K fd ps []
/-- an __init__ -/
structure CallI (P : Program) (w : World) (K : PySem.W.Frag) (mg : Str → Option Value) (base : Heap) (f : Addr) (fd : FuncData) (ps : List Str) (sp : Sp) : Prop where
  ok : FnOk P w K mg base CX0 1 f fd ps sp
  bd : Binds K fd ps []
/-- the other errors os, none a class of the error at C; the base class at cd -/
structure Errs (os : List Str) (K : PySem.W.Frag) (mg : Str → Option Value) (C cd : Addr) (cs : List Addr) : Prop where
  len : ∃ c0 c1 c2 c3 c4 c5 c6 c7 c8 c9 c10 c11 c12 c13 c14 c15 c16 c17 c18 c19 c20 c21 c22 : Addr, cs = [c0, c1, c2, c3, c4, c5, c6, c7, c8, c9, c10, c11, c12, c13, c14, c15, c16, c17, c18, c19, c20, c21, c22]
  at_ : ∀ (i : Nat) (x : Str), os[i]? = some x → mg x = some (.ref (cs.getD i 0))
  any : PySem.W.kitAny K (.ref C) (cs.map Value.ref) = some false
  gd : mg "DeskError" = some (.ref cd)
  kd : PySem.W.kitOne K (.ref C) (.ref cd) = some true
  kv : PySem.W.kitOne K (.ref C) (.type "ValueError") = some true
  ve : mg "ValueError" = none
section
variable {P : Program} {w : World} {K : PySem.W.Frag} {mg : Str → Option Value} {base : Heap}
abbrev sBst : Stmt := initOf (topS 12)
abbrev nBst : List Str := ["self", "position"]
theorem scBst : FnScope nBst nBst (defScope sBst) := ⟨rfl, rfl, rfl, by decide +kernel, rfl, by decide +kernel, by decide +kernel⟩
theorem ok_Bst {f C : Addr} {fd : FuncData} (F : Fun K "__init__" "BadStep.__init__" sBst f fd) (U : Own K mg "BadStep" C f ["position"]) : FnOk P w K mg base CX0 1 f fd ["self", "position"] (spIni C "position") := by
  refine F.ok scBst (fun vs H Q E h => ?_) (fun cdv A outer s H vs Q E hr h => ?_)
  · obtain ⟨a, v, rfl, _⟩ := h
    rfl
  · obtain ⟨a, v, rfl, e, q⟩ := h
    refine ⟨_, pss_one (ps_ost (pv 0) (pv 1)), ?_⟩
    exact ⟨v, rfl, .ref a, rfl, a, C, rfl, U.oex, U.no _ (by simp), .inl ⟨e, fun dx n ne => q dx n ne⟩⟩
def badAt (n i : Nat) (s : Stp) : Prop := s.2.1 < 0 ∨ s.2.2 < 0 ∨ (n + i : Nat) ≤ s.2.1 ∨ (n + i : Nat) ≤ s.2.2
def spRunX (C : Addr) : Sp := fun vs H _ E => ∃ (a s : Addr) (Bs : Bxs) (ts : List (Addr × Stp)) (xs : List Str) (ns : List Int) (i0 : Nat) (t0 : Addr × Stp), vs = [.ref a, .ref s] ∧ BL H a Bs ∧ StL H s ts ∧ (∀ f ∈ says Bs, OkC xs ns f) ∧ xs.length ≤ 8 ∧ ns.length ≤ 31 ∧ GoodS xs Bs.length ((ts.take i0).map (·.2)) ∧ ts[i0]? = some t0 ∧ badAt Bs.length i0 t0.2 ∧ Bs.length + ts.length ≤ 900 ∧
  ∀ d H', Same H H' → H' d = some (.xd [("position", .int (i0 : Nat))]) → E (.ref C) (some d) H'
theorem ok_RunX {f f0 f1 C fI : Addr} {fd fd0 fd1 fdI : FuncData} (F : Fun K "run_plan" "run_plan" sRun f fd) (B : Bt mg) (zmin : mg "min" = none) (zmax : mg "max" = none) (zenum : mg "enumerate" = none) (Ccb : Call P w K mg base 1 "copied_box" f0 fd0 ["box"] spCopy) (Cjo : Call P w K mg base 3 "join_boxes" f1 fd1 ["first", "second", "name"] spJoin)
    (U : Own K mg "BadStep" C fI ["position"]) (I : CallI P w K mg base fI fdI ["self", "position"] (spIni C "position")) :
    FnOk P w K mg base (L2.CX P w) 4 f fd ["boxes", "steps"] (spRunX C) := by
  refine F.okX scRun (fun vs H Q E h => ?_) (fun cdv A outer s H vs Q E hr h => ?_)
  · obtain ⟨a, s, Bs, ts, xs, ns, i0, t0, rfl, _⟩ := h
    rfl
  · obtain ⟨a, sa, Bs, ts, xs, ns, i0, t0, rfl, bl, sl, okc, x8, n31, good, h0, bad, few, q⟩ := h
    have hu := hu_of hr
    have nd := scRun.nd
    refine ⟨_, pss_cons (ps_setLc (i := 2) (own := [("box", 7)]) (g := gName 7) (tt := tYes)  rfl nd rfl rfl (by rfl) (pi_list (pv 0)) (blkOk_by (N := nRun) (sc := defScope sRun) (by decide +kernel)) (fun _ _ _ _ _ => pg_name (i := 7) nd rfl (.inl rfl)) (fun _ _ _ _ _ => pts_nil)
          (fun _ _ _ _ _ => (pe_call Ccb.ok (hr.mono (by decide)) (by rfl) Ccb.at_ Ccb.kp Ccb.bd .nil pass0 (pa_cons (pv 7) pa_nil))))
      (pss_cons (ps_for (passes_of rfl) rfl (pi_enum (by rfl) zenum (pa_cons (pv 1) pa_nil)) (pg_tup (by rfl) (pgs_cons (pg_name (i := 3) nd rfl (.inl rfl)) (pgs_cons (pg_tup (by rfl) (pgs_cons (pg_name (i := 4) nd rfl (.inl rfl)) (pgs_cons (pg_name (i := 5) nd rfl (.inl rfl)) (pgs_cons (pg_name (i := 6) nd rfl (.inl rfl)) pgs_nil)))) pgs_nil)))
        (pss_cons (ps_if (PW.pt (pw_or (pt_cmpR op_lt (pe_callB (call_min2 rfl) (by rfl) zmin PyProof.Rows.boot_min (pa_cons (pv 5) (pa_cons (pv 6) pa_nil))) pe_int rfl) (pw_or1 (pt_cmpR op_ge (pe_callB (call_max2 rfl) (by rfl) zmax PyProof.Rows.boot_max (pa_cons (pv 5) (pa_cons (pv 6) pa_nil))) (pe_callB call_len_seq (by rfl) B.len PySem.boot_len (pa_cons (pv 2) pa_nil)) rfl))))
            (pss_one (ps_raise rfl (takes_of rfl rfl rfl rfl) (pmk_oex U.oex U.iC U.tI I.ok (hr.mono (by decide)) I.bd .nil pass0 (by rfl) U.gC (pa_cons (pv 3) pa_nil))))
            pss_nil)
          (pss_one (ps_expr (pe_bm PySem.F.plainAttrs_list PySem.F.slot_list_append PySem.F.type_list_append mt_append (pv 2) (pa_cons (pe_call Cjo.ok (hr.mono (by decide)) (by rfl) Cjo.at_ Cjo.kp Cjo.bd .nil pass0 (pa_cons (pe_ix ix_list (pv 2) (pv 5) (fun _ _ => rfl)) (pa_cons (pe_ix ix_list (pv 2) (pv 6) (fun _ _ => rfl)) (pa_cons (pv 4) pa_nil)))) pa_nil))))))
      (pss_one (ps_ret (pv 2)))), ?_⟩
    have hi0 : i0 < ts.length := (List.getElem?_eq_some_iff.mp h0).1
    refine ⟨.ref a, rfl, a, rfl, ⟨_, sl_map bl.lst⟩, fun R nR => ?_⟩
    refine lc_list (xs := Bs.map fun b => V.ref b.1) (fun i H' => ∃ Ks : Bxs, Same H H' ∧ NL H H' R Ks ∧ says Ks = (says Bs).take i) ⟨[], same_new nR, NL.nil nR upd_same, rfl⟩ (fun i H' _ h => sl_map (by obtain ⟨Ks, s, _⟩ := h; exact (bl.same s).lst)) ?_ ?_
    · rintro i x H' hx ⟨Ks, s, nl, sk⟩
      rw [List.getElem?_map] at hx
      obtain ⟨b, hb, rfl⟩ := Option.map_eq_some_iff.mp hx
      have hi := (List.getElem?_eq_some_iff.mp hb).1
      refine ⟨rfl, .ref b.1, rfl, b.1, b.2, rfl, (bl.same s).at_ hb, fun H2 d M s2 nb sh => ?_⟩
      have lk := says_len sk
      rw [List.length_take, List.length_map] at lk
      refine ⟨_, s2 _ _ nl.lst, by rw [List.length_map]; exact small1000 (by omega), Ks ++ [(d, M)], same_at (s.trans s2) nR, nl.snoc (fun a h => s.free h) s2 nb, ?_⟩
      rw [says_snoc, sk, List.take_add_one, List.getElem?_map, hb]
      show _ ++ [look M] = _ ++ [look b.2]
      rw [show look M = look b.2 from funext (look_shape sh)]
    · rintro H' ⟨Ks0, s, nl, sk⟩
      rw [List.length_map, ← List.length_map (f := fun b : Addr × List Ent => look b.2), List.take_length] at sk
      have ltk : (List.map (·.2) (ts.take i0)).length = i0 := by rw [List.length_map, List.length_take]; omega
      refine ⟨.ref sa, rfl, sa, _, rfl, sl_map (sl.same s).lst, for_it walk_enum (fun i σ H' => i ≤ i0 ∧ ∃ (y3 y4 y5 y6 : Option V) (Ks : Bxs), σ = [some (.ref a), some (.ref sa), some (.ref R), y3, y4, y5, y6, none] ∧ Same H H' ∧ NL H H' R Ks ∧ says Ks = planC (says Bs) (((ts.take i0).map (·.2)).take i))
        ⟨Nat.zero_le _, none, none, none, none, Ks0, rfl, s, nl, sk⟩ (fun i σ H' _ h => by obtain ⟨_, _, _, _, _, _, _, s, _⟩ := h; exact sl_map (sl.same s).lst) ?_ ?_⟩
      · rintro i x σ H1 H2 hi ⟨ile, y3, y4, y5, y6, Ks, rfl, s, nl, sk⟩ ⟨T, x1, x2, rfl, nT, rfl, g1, g2⟩
        replace g2 : (ts.map fun t => V.ref t.1)[i]? = some x2 := g2
        rw [List.getElem?_map] at g2
        obtain ⟨t, ht, rfl⟩ := Option.map_eq_some_iff.mp g2
        obtain rfl := Option.some.inj g1
        rw [List.length_map] at hi
        have sT := s.trans (same_new (o := HO.tup [V.int (i : Nat), V.ref t.1]) nT)
        have nl2 := nl.push (same_new (o := HO.tup [V.int (i : Nat), V.ref t.1]) nT)
        have et := (sl.same sT).tup t (List.mem_of_getElem? ht)
        have lk := says_len sk
        rw [planC_len, List.length_take, ltk, List.length_map, Nat.min_eq_left ile] at lk
        refine ⟨T, _, rfl, .inl (.inl upd_same), rfl, _, _, rfl, _, _, rfl, ⟨t.1, _, rfl, .inl (.inl et), rfl, _, _, rfl, _, _, rfl, _, _, rfl, rfl, rfl, ?_⟩⟩
        generalize upd H1 T (HO.tup [V.int (i : Nat), V.ref t.1]) = H3 at sT nl2 et ⊢
        by_cases e0 : i = i0
        · subst e0
          obtain rfl := Option.some.inj (h0.symm.trans ht)
          have bad' := bad
          unfold badAt at bad'
          refine ⟨_, rfl, _, rfl, _, _, rfl, _, _, rfl, rfl, _, rfl, ite_both (fun _ => iteT ⟨_, rfl, mk_one (C := C) (f := "position") (v := .int (i : Nat)) (H1 := H3) (Q := E) fun d H2 nd2 s2 ed => q d H2 (sT.trans s2) ed⟩) fun c => ?_⟩
          have c' := of_decide_eq_false c
          refine ⟨_, rfl, _, rfl, _, _, rfl, _, rfl, R, _, rfl, .inl (sl_map nl2.lst), _, _, rfl, rfl, _, rfl, ite_both (fun _ => ⟨_, rfl, mk_one (C := C) (f := "position") (v := .int (i : Nat)) (H1 := H3) (Q := E) fun d H2 nd2 s2 ed => q d H2 (sT.trans s2) ed⟩) fun c2 => absurd (of_decide_eq_false c2) fun z => ?_⟩
          rw [List.length_map, lk] at z
          clear c c2
          split at c' <;> split at z <;> omega
        · have ilt : i < i0 := by omega
          have hts : ((ts.take i0).map (·.2))[i]? = some t.2 := by rw [List.getElem?_map, List.getElem?_take_of_lt ilt, ht] <;> rfl
          obtain ⟨gx, g1, g2, g3, g4⟩ := good i t.2 hts
          refine ⟨_, rfl, _, rfl, _, _, rfl, _, _, rfl, rfl, _, rfl, ite_both (fun c => absurd (of_decide_eq_true c) (by split <;> omega)) fun _ => ?_⟩
          refine ⟨_, rfl, _, rfl, _, _, rfl, _, rfl, R, _, rfl, .inl (sl_map nl2.lst), _, _, rfl, rfl, _, rfl, ite_both (fun c => absurd (of_decide_eq_true c) (by rw [List.length_map]; split <;> omega)) fun _ => ?_⟩
          obtain ⟨b, hb, eb, ab⟩ := says_at sk g1 (by omega)
          obtain ⟨c, hc, ec, ac⟩ := says_at sk g3 (by omega)
          have okb := planC_ok okc (by rw [List.length_map]; exact good) i (by omega)
          rw [← sk] at okb
          have ob := okb _ (List.mem_map_of_mem (List.mem_of_getElem? hb))
          have oc := okb _ (List.mem_map_of_mem (List.mem_of_getElem? hc))
          have bb := nl2.bl.at_ hb
          have bc := nl2.bl.at_ hc
          have fb := ob.few bb.nd
          have fc := oc.few bc.nd
          refine ⟨_, rfl, .inl ⟨rfl, _, sl_map nl2.lst⟩, _, rfl, _, rfl, R, _, _, .ref b.1, rfl, rfl, sl_map nl2.lst, ab, _, rfl, _, rfl, R, _, _, .ref c.1, rfl, rfl, sl_map nl2.lst, ac, _, rfl, b.1, c.1, t.2.1, b.2, c.2, rfl, bb, bc, ob.sz bb.nd n31, oc.sz bc.nd n31, by omega, fun H4 d M s4 nb lkM _ => ?_⟩
          refine ⟨R, _, _, rfl, rfl, s4 _ _ nl2.lst, by rw [List.length_map]; exact small1000 (by omega), by omega, _, _, _, _, Ks ++ [(d, M)], rfl, same_at (sT.trans s4) nR, nl2.snoc (fun a h => sT.free h) s4 nb, ?_⟩
          rw [says_snoc, planC_snoc _ hts, ← sk]
          unfold stepC
          rw [sk, eb, ec]
          congr 1
          rw [show look M = jnf (look b.2) (look c.2) t.2.1 from funext lkM]
      · rintro σ H' ⟨ile, y3, y4, y5, y6, Ks, rfl, s, nl, sk⟩
        rw [List.length_map] at ile
        omega
end
end K6

set_option Elab.async false
set_option linter.all false
set_option maxRecDepth 100000
set_option maxHeartbeats 4000000
namespace K6
open PySem PySem.Spec PyProof.Rows L2 Cs CsX
theorem nd_ix {α : Type} {l : List α} (nd : l.Nodup) {i j : Nat} {x : α} (hi : l[i]? = some x) (hj : l[j]? = some x) : i = j := by
  exact (List.getElem?_inj (List.getElem?_eq_some_iff.mp hi).1 nd).mp (hi.trans hj.symm)
theorem not_take {α : Type} {l : List α} (nd : l.Nodup) {i : Nat} {x : α} (hi : l[i]? = some x) : x ∉ l.take i := fun z => by
  obtain ⟨j, hj⟩ := List.mem_iff_getElem?.mp z
  rw [List.getElem?_take] at hj
  split at hj
  · next c => exact absurd (nd_ix nd hj hi) (by omega)
  · cases hj
section
variable {P : Program} {w : World} {K : PySem.W.Frag} {mg : Str → Option Value} {base : Heap}
abbrev sDsd : Stmt := topS 43
abbrev nDsd : List Str := ["_law_stream_here", "_law_names_here", "_law_pool_here", "_law_shift", "_law_sides", "_law_name", "_law_value"]
theorem scDsd : FnScope nDsd ["_law_stream_here", "_law_names_here", "_law_pool_here"] (defScope sDsd) := ⟨rfl, rfl, rfl, by decide +kernel, rfl, by decide +kernel, by decide +kernel⟩
def spDsd : Sp := fun vs H Q _ => ∃ (p nm pl : Addr) (xs : List Str) (ns : List Int), vs = [.ref p, .ref nm, .ref pl] ∧ Strm H p ∧ H nm = some (.lst (xs.map V.str)) ∧ p ≠ nm ∧ xs.Nodup ∧ 1 ≤ xs.length ∧ xs.length ≤ 30 ∧ H pl = some (.lst (ns.map V.int)) ∧ p ≠ pl ∧ ns.length ≤ 100 ∧ Srt ns ∧
  ∀ (H' : Hp) (b : Addr) (N : List Ent), Keep p H H' → Strm H' p → Nb H H' b N → OkC xs ns (look N) → Q (.ref b) H'
theorem ok_Dsd {f f0 : Addr} {fd fd0 : FuncData} (F : Fun K "_law_drawn_sides" "_law_drawn_sides" sDsd f fd) (B : Bt mg) (D : Call P w K mg base 1 "_law_next" f0 fd0 ["_law_stream_here", "_law_size"] spDraw) :
    FnOk P w K mg base CX0 2 f fd ["_law_stream_here", "_law_names_here", "_law_pool_here"] spDsd := by
  refine F.ok scDsd (fun vs H Q E h => ?_) (fun cdv A outer s H vs Q E hr h => ?_)
  · obtain ⟨p, nm, pl, xs, ns, rfl, _⟩ := h
    rfl
  · obtain ⟨p, nm, pl, xs, ns, rfl, hp, enm, pnm, xnd, x1, xlen, epl, ppl, n100, srt, q⟩ := h
    have hu := hu_of hr
    have nd := scDsd.nd
    refine ⟨_, pss_cons (ps_set (i := 3) nd rfl (.inl rfl) (pe_call D.ok (hr.mono (by decide)) (by rfl) D.at_ D.kp D.bd .nil pass0 (pa_cons (pv 0) (pa_cons (pe_callB call_len_seq (by rfl) B.len PySem.boot_len (pa_cons (pv 1) pa_nil)) pa_nil))))
      (pss_cons (ps_set (i := 4) nd rfl (.inl rfl) pe_dnewK)
      (pss_cons (ps_for PassesOwn.never rfl (pi_list (pe_op op_cat (pe_slice sl_list (pv 1) (po_some (pv 3)) po_none) (pe_slice sl_list (pv 1) po_none (po_some (pv 3))))) (pg_name (i := 5) nd rfl (.inl rfl))
        (pss_one (ps_dput hu (pv 4) (pv 5) (pe_lc (own := [("_law_value", 6)]) (g := gName 6) (tt := _) (te := tVar 6) rfl nd (pi_list (pv 2)) (blkOk_by (N := nDsd) (sc := defScope sDsd) (by decide +kernel)) (fun _ _ _ _ _ => pg_name (i := 6) nd rfl (.inl rfl)) (fun _ _ _ _ _ => pts_one (pt_cmpR op_gt (pe_call D.ok (hr.mono (by decide)) (by rfl) D.at_ D.kp D.bd .nil pass0 (pa_cons (pv 0) (pa_cons pe_int pa_nil))) pe_int rfl))
              (fun _ _ _ _ _ => (pv 6))) rfl)))
      (pss_one (ps_ret (pv 4))))), ?_⟩
    refine ⟨.ref p, rfl, .ref nm, rfl, nm, _, rfl, .inl (sl_map enm), p, _, rfl, hp, by rw [List.length_map]; omega, by rw [List.length_map]; omega, fun H1 sh o1 st1 s0 s1 => ?_⟩
    obtain ⟨k, rfl⟩ : ∃ k : Nat, sh = (k : Int) := ⟨sh.toNat, by omega⟩
    intro b nb
    refine ⟨.ref nm, rfl, _, rfl, _, rfl, nm, xs.map V.str, rfl, sl_map (by grind only [= g_upd, = g_same, = g_keep, = g_oth, = g_strm, g_new, = List.map_nil, → Bu.same', → Bu.un, → BL.same, → StL.same]), fun p1 np1 => ?_⟩
    refine ⟨.ref nm, rfl, _, rfl, _, rfl, nm, xs.map V.str, rfl, sl_map (by grind only [= g_upd, = g_same, = g_keep, = g_oth, = g_strm, g_new, = List.map_nil, → Bu.same', → Bu.un, → BL.same, → StL.same]), fun p2 np2 => ?_⟩
    obtain ⟨R, hR⟩ : ∃ R, R = xs.drop k ++ xs.take k := ⟨_, rfl⟩
    have eR : cutV (xs.map V.str) (some (k : Int)) none ++ cutV (xs.map V.str) none (some (k : Int)) = R.map V.str := by
      rw [cutV_from, cutV_to, hR, List.map_append, List.map_drop, List.map_take]
    have pR : R.Perm xs := by
      rw [hR]
      exact List.perm_append_comm.trans (by rw [List.take_append_drop])
    have rnd : R.Nodup := pR.nodup_iff.mpr xnd
    have lR : R.length = xs.length := pR.length_eq
    refine ⟨p1, p2, cutV (xs.map V.str) (some (k : Int)) none, cutV (xs.map V.str) none (some (k : Int)), rfl, rfl, (by grind only [= g_upd, = g_same, = g_keep, = g_oth, = g_strm, g_new, = List.map_nil, → Bu.same', → Bu.un, → BL.same, → StL.same]), (by grind only [= g_upd, = g_same, = g_keep, = g_oth, = g_strm, g_new, = List.map_nil, → Bu.same', → Bu.un, → BL.same, → StL.same]), ?_, fun r nr => ?_⟩
    · rw [cutV_from, cutV_to, List.length_drop, List.length_take, List.length_map]
      exact Nat.le_of_lt (small1000 (by omega))
    rw [eR]
    have hb1 : H b = none := (by grind only [= g_upd, = g_same, = g_keep, = g_oth, = g_strm, g_new, = List.map_nil, → Bu.same', → Bu.un, → BL.same, → StL.same])
    have nbr : b ≠ r := (by grind only [= g_upd, = g_same, = g_keep, = g_oth, = g_strm, g_new, = List.map_nil, → Bu.same', → Bu.un, → BL.same, → StL.same])
    have k0 : Keep p H (upd (upd (upd (upd H1 b (HO.dK [])) p1 (HO.lst (cutV (xs.map V.str) (some (k : Int)) none))) p2 (HO.lst (cutV (xs.map V.str) none (some (k : Int))))) r (HO.lst (R.map V.str))) := (by grind only [= g_upd, = g_same, = g_keep, = g_oth, = g_strm, g_new, = List.map_nil, → Bu.same', → Bu.un, → BL.same, → StL.same])
    have st0 : Strm (upd (upd (upd (upd H1 b (HO.dK [])) p1 (HO.lst (cutV (xs.map V.str) (some (k : Int)) none))) p2 (HO.lst (cutV (xs.map V.str) none (some (k : Int))))) r (HO.lst (R.map V.str))) p := (by grind only [= g_upd, = g_same, = g_keep, = g_oth, = g_strm, g_new, = List.map_nil, → Bu.same', → Bu.un, → BL.same, → StL.same])
    have eb0 : (upd (upd (upd (upd H1 b (HO.dK [])) p1 (HO.lst (cutV (xs.map V.str) (some (k : Int)) none))) p2 (HO.lst (cutV (xs.map V.str) none (some (k : Int))))) r (HO.lst (R.map V.str))) b = some (.dK []) := (by grind only [= g_upd, = g_same, = g_keep, = g_oth, = g_strm, g_new, = List.map_nil, → Bu.same', → Bu.un, → BL.same, → StL.same])
    have er0 : (upd (upd (upd (upd H1 b (HO.dK [])) p1 (HO.lst (cutV (xs.map V.str) (some (k : Int)) none))) p2 (HO.lst (cutV (xs.map V.str) none (some (k : Int))))) r (HO.lst (R.map V.str))) r = some (.lst (R.map V.str)) := upd_same
    generalize upd (upd (upd (upd H1 b (HO.dK [])) p1 (HO.lst (cutV (xs.map V.str) (some (k : Int)) none))) p2 (HO.lst (cutV (xs.map V.str) none (some (k : Int))))) r (HO.lst (R.map V.str)) = H5 at k0 st0 eb0 er0
    refine ⟨r, rfl, ⟨_, sl_map er0⟩, for_list (xs := R.map V.str) (fun i σ H' => ∃ (y5 : Option V) (N : List Ent), σ = [some (.ref p), some (.ref nm), some (.ref pl), some (.int (k : Int)), some (.ref b), y5, none] ∧ Keep p H H' ∧ Strm H' p ∧ H' r = some (.lst (R.map V.str)) ∧ Nb H H' b N ∧ N.map (·.1) = R.take i ∧ ∀ e ∈ N, e.2.2.Sublist ns)
      ⟨none, [], rfl, k0, st0, er0, Nb.nil hb1 eb0, rfl, (fun _ h => nomatch h)⟩ (fun i σ H' _ h => by obtain ⟨_, _, _, _, _, h, _⟩ := h; exact sl_map h) ?_ ?_⟩
    · rintro i x σ H' hx0 ⟨y5, N, rfl, kp, st, er, nbx, keys, subs⟩
      rw [List.getElem?_map] at hx0
      obtain ⟨x, hx, rfl⟩ := Option.map_eq_some_iff.mp hx0
      have hi := (List.getElem?_eq_some_iff.mp hx).1
      refine ⟨.ref pl, rfl, pl, rfl, ⟨_, sl_map (kp _ _ ppl.symm epl)⟩, fun L nL => ?_⟩
      have npL : p ≠ L := (by grind only [= g_upd, = g_same, = g_keep, = g_oth, = g_strm, g_new, = List.map_nil, → Bu.same', → Bu.un, → BL.same, → StL.same])
      refine lc_list (xs := ns.map V.int) (fun j H3 => Keep p H' H3 ∧ Strm H3 p ∧ ∃ ms : List Int, H3 L = some (.lst (ms.map V.int)) ∧ ms.Sublist (ns.take j))
        ⟨(by grind only [= g_upd, = g_same, = g_keep, = g_oth, = g_strm, g_new, = List.map_nil, → Bu.same', → Bu.un, → BL.same, → StL.same]), (by grind only [= g_upd, = g_same, = g_keep, = g_oth, = g_strm, g_new, = List.map_nil, → Bu.same', → Bu.un, → BL.same, → StL.same]), [], upd_same, List.nil_sublist _⟩ (fun j H3 _ h => sl_map (by obtain ⟨h, _⟩ := h; grind)) ?_ ?_
      · rintro j z H3 hz ⟨k3, st3, ms, eL, sub⟩
        rw [List.getElem?_map] at hz
        obtain ⟨v, hv, rfl⟩ := Option.map_eq_some_iff.mp hz
        have hj := (List.getElem?_eq_some_iff.mp hv).1
        have lm := sub.length_le
        rw [List.length_take] at lm
        have t1 : ns.take (j + 1) = ns.take j ++ [v] := by rw [List.take_add_one, hv] <;> rfl
        refine ⟨rfl, .ref p, rfl, p, 3, rfl, st3, by decide, by decide, fun H4 a o4 st4 a0 a1 => ⟨_, _, rfl, rfl, _, rfl, ite_both (fun _ => ⟨_, rfl, ms.map V.int, (by grind only [= g_upd, = g_same, = g_keep, = g_oth, = g_strm, g_new, = List.map_nil, → Bu.same', → Bu.un, → BL.same, → StL.same]), by rw [List.length_map]; exact small1000 (by omega), (by grind only [= g_upd, = g_same, = g_keep, = g_oth, = g_strm, g_new, = List.map_nil, → Bu.same', → Bu.un, → BL.same, → StL.same]), (by grind only [= g_upd, = g_same, = g_keep, = g_oth, = g_strm, g_new, = List.map_nil, → Bu.same', → Bu.un, → BL.same, → StL.same]), ms ++ [v], by rw [upd_same, List.map_append] <;> rfl, by rw [t1]; exact sub.append (List.Sublist.refl _)⟩) (fun _ => ⟨(by grind only [= g_upd, = g_same, = g_keep, = g_oth, = g_strm, g_new, = List.map_nil, → Bu.same', → Bu.un, → BL.same, → StL.same]), st4, ms, (by grind only [= g_upd, = g_same, = g_keep, = g_oth, = g_strm, g_new, = List.map_nil, → Bu.same', → Bu.un, → BL.same, → StL.same]), by rw [t1]; exact sub.trans (List.sublist_append_left _ _)⟩)⟩⟩
      · rintro H3 ⟨k3, st3, ms, eL, sub⟩
        rw [List.length_map, List.take_length] at sub
        have nb3 := nbx.keep hp.some k3
        have xnew : x ∉ N.map (·.1) := by rw [keys]; exact not_take rnd hx
        have nla : L ∉ N.map (·.2.1) := fun z => by
          obtain ⟨g, hg, rfl⟩ := List.mem_map.mp z
          rw [nbx.sides g hg] at nL
          cases nL
        have lN : N.length = i := by
          have := congrArg List.length keys
          rw [List.length_map, List.length_take] at this
          omega
        refine ⟨.ref b, rfl, .str x, rfl, b, _, rfl, DPut.k (k := .inr x) nb3.un (by rw [entK_len]; exact small1000 (by omega)), ?_⟩
        rw [putK_ent (s := ms), putE_new xnew]
        have ebn : H' b ≠ none := by rw [nbx.un]; exact fun z => nomatch z
        refine ⟨_, N ++ [(x, L, ms)], rfl, (by grind only [= g_upd, = g_same, = g_keep, = g_oth, = g_strm, g_new, = List.map_nil, → Bu.same', → Bu.un, → BL.same, → StL.same]), (by grind only [= g_upd, = g_same, = g_keep, = g_oth, = g_strm, g_new, = List.map_nil, → Bu.same', → Bu.un, → BL.same, → StL.same]), (by grind only [= g_upd, = g_same, = g_keep, = g_oth, = g_strm, g_new, = List.map_nil, → Bu.same', → Bu.un, → BL.same, → StL.same]), nb3.alias (by grind only [= g_upd, = g_same, = g_keep, = g_oth, = g_strm, g_new, = List.map_nil, → Bu.same', → Bu.un, → BL.same, → StL.same]) eL xnew nla (by omega), ?_, fun g hg => ?_⟩
        · rw [List.map_append, keys, List.take_add_one, hx] <;> rfl
        · rcases List.mem_append.mp hg with h | h
          · exact subs g h
          · rw [List.mem_singleton.mp h]; exact sub
    · rintro σ H' ⟨y5, N, rfl, kp, st, er, nbx, keys, subs⟩
      rw [List.length_map, List.take_length] at keys
      refine ⟨_, rfl, q H' b N kp st nbx ⟨fun x => ?_, fun x s h => ?_, fun x s h v hv => ?_⟩⟩
      · rw [look_isSome, keys]; exact pR.mem_iff
      · obtain ⟨e, he, _, rfl⟩ := look_of h
        exact srt.sub (subs e he)
      · obtain ⟨e, he, _, rfl⟩ := look_of h
        exact (subs e he).subset hv
end
end K6

set_option Elab.async false
set_option linter.all false
set_option maxRecDepth 100000
set_option maxHeartbeats 4000000
namespace K6
open PySem PySem.Spec PyProof.Rows L2 Cs CsX
theorem filter_snoc {s : List Int} {j : Nat} {v : Int} {p : Int → Bool} (h : s[j]? = some v) : (s.take (j + 1)).filter p = (s.take j).filter p ++ (if p v = true then [v] else []) := by
  rw [List.take_add_one, h, List.filter_append]
  congr 1
  show List.filter p [v] = _
  rw [List.filter_cons] <;> rfl
theorem filter_len (s : List Int) (p : Int → Bool) (j : Nat) : ((s.take j).filter p).length ≤ s.length := by
  have h1 := List.length_filter_le p (s.take j)
  rw [List.length_take] at h1
  omega
theorem srt_of {l : List Int} (nd : l.Nodup) (h : l.Pairwise (· ≤ ·)) : Srt l := by
  induction l with
  | nil => exact List.Pairwise.nil
  | cons a l ih =>
    obtain ⟨h1, h2⟩ := List.pairwise_cons.mp h
    obtain ⟨n1, n2⟩ := List.nodup_cons.mp nd
    exact List.pairwise_cons.mpr ⟨fun b hb => by have := h1 b hb; have : a ≠ b := fun z => n1 (z ▸ hb); omega, ih n2 h2⟩
theorem uni_sorted {a b ms : List Int} (sa : Srt a) (sb : Srt b) (p : ms.Perm (a ++ b.filter fun v => !decide (v ∈ a))) (pw : ms.Pairwise (· ≤ ·)) : ms = uni a b := by
  refine srt_ext (srt_of (p.nodup_iff.mpr ?_) pw) (uni_srt sa b) fun k => ?_
  · refine List.nodup_append.mpr ⟨srt_nd sa, List.Nodup.sublist List.filter_sublist (srt_nd sb), fun x hx y hy z => ?_⟩
    have := (List.mem_filter.mp hy).2
    rw [z] at hx
    simp [hx] at this
  · rw [p.mem_iff, uni_mem, List.mem_append, List.mem_filter]
    by_cases h : k ∈ a <;> simp [h]
def joE (L M : List Ent) : List Ent := L.map fun e => (e.1, 0, both e.2.2 ((look M e.1).getD []))
theorem joE_keys (L M : List Ent) : (joE L M).map (·.1) = L.map (·.1) := by unfold joE; rw [List.map_map] <;> rfl
theorem getE_map {L : List Ent} (g : Ent → Addr × List Int) (x : Str) : getE (L.map fun e => (e.1, g e)) x = (getE L x).map fun e => (e.1, g e) := by
  induction L with
  | nil => rfl
  | cons e L ih =>
    by_cases c : e.1 = x
    · rw [List.map_cons, getE_pos (by exact c), getE_pos c] <;> rfl
    · rw [List.map_cons, getE_neg (by exact c), getE_neg c, ih]
theorem look_joE (L M : List Ent) (x : Str) : look (joE L M) x = (look L x).map fun s => both s ((look M x).getD []) := by
  unfold look joE
  rw [getE_map fun e => (0, both e.2.2 ((look M e.1).getD []))]
  cases c : getE L x with
  | none => rfl
  | some e =>
    obtain ⟨_, rfl⟩ := getE_mem c
    rfl
theorem jnf_of {xs : List Str} {ns : List Int} {L M : List Ent} {n : Str} {s t : List Int} (a : OkC xs ns (look L)) (b : OkC xs ns (look M)) (hs : look L n = some s) (ht : look M n = some t) (x : Str) :
    (if x = n then some (uni s t) else look (joE L M) x) = jnf (look L) (look M) n x := by
  unfold jnf
  by_cases c : x = n
  · rw [if_pos c, if_pos c, hs, ht] <;> rfl
  · rw [if_neg c, if_neg c, look_joE]
    have h1 := a.keys x
    have h2 := b.keys x
    cases hg : look M x <;> cases hf : look L x <;> simp_all
theorem getE_look {L : List Ent} {x : Str} {s : List Int} (h : look L x = some s) : ∃ e ∈ L, getE L x = some e ∧ e.1 = x ∧ e.2.2 = s := by
  unfold look at h
  obtain ⟨e, he, rfl⟩ := Option.map_eq_some_iff.mp h
  obtain ⟨h1, h2⟩ := getE_mem he
  exact ⟨e, h1, he, h2, rfl⟩
theorem Bx.at_ {H : Hp} {d : Addr} {L : List Ent} (B : Bx H d L) {x : Str} {s : List Int} (h : look L x = some s) : ∃ a, DGet H d (.str x) (some (.ref a)) ∧ H a = some (.lst (s.map V.int)) := by
  obtain ⟨e, he, g, rfl, rfl⟩ := getE_look h
  have gv := B.get e.1
  rw [g] at gv
  exact ⟨e.2.1, gv, B.sides e he⟩
section
variable {P : Program} {w : World} {K : PySem.W.Frag} {mg : Str → Option Value} {base : Heap}
abbrev sLjn : Stmt := topS 45
abbrev nLjn : List Str := ["_law_first", "_law_second", "_law_name", "_law_sides", "_law_other", "_law_value"]
theorem scLjn : FnScope nLjn ["_law_first", "_law_second", "_law_name"] (defScope sLjn) := ⟨rfl, rfl, rfl, by decide +kernel, rfl, by decide +kernel, by decide +kernel⟩
def spLjn : Sp := fun vs H Q _ => ∃ (a b : Addr) (n : Str) (L M : List Ent) (xs : List Str) (ns : List Int), vs = [.ref a, .ref b, .str n] ∧ Bu H a L ∧ Bu H b M ∧ OkC xs ns (look L) ∧ OkC xs ns (look M) ∧ n ∈ xs ∧ xs.length ≤ 20 ∧ ns.length ≤ 31 ∧
  ∀ (H' : Hp) (d : Addr) (N : List Ent), Same H H' → Nb H H' d N → look N = jnf (look L) (look M) n → Q (.ref d) H'
theorem ok_Ljn {f  : Addr} {fd  : FuncData} (F : Fun K "_law_join" "_law_join" sLjn f fd) (B : Bt mg) :
    FnOk P w K mg base CX0 1 f fd ["_law_first", "_law_second", "_law_name"] spLjn := by
  refine F.ok scLjn (fun vs H Q E h => ?_) (fun cdv A outer s H vs Q E hr h => ?_)
  · obtain ⟨a, b, n, L, M, xs, ns, rfl, _⟩ := h
    rfl
  · obtain ⟨a, b, n, L, M, xs, ns, rfl, ba, bb, oa, ob, hn, x20, n31, q⟩ := h
    have hu := hu_of hr
    have nd := scLjn.nd
    refine ⟨_, pss_cons (ps_set (i := 3) nd rfl (.inl rfl) pe_dnewK)
      (pss_cons (ps_lock (ps_for PassesOwn.never rfl (pi_keys (pv 0)) (pg_name (i := 4) nd rfl (.inr rfl))
        (pss_one (ps_dput hu (pv 3) (pv 4) (pe_lc (own := [("_law_value", 5)]) (g := gName 5) (tt := _) (te := tVar 5) rfl nd (pi_list (pe_dget hu (pv 0) (pv 4) (fun _ _ => rfl))) (blkOk_by (N := nLjn) (sc := defScope sLjn) (by decide +kernel)) (fun _ _ _ _ _ => pg_name (i := 5) nd rfl (.inl rfl)) (fun _ _ _ _ _ => pts_one (pt_cmpR (r := rIn K false) op_in_seq (pv 5) (pe_dget hu (pv 1) (pv 4) (fun _ _ => rfl)) rfl))
              (fun _ _ _ _ _ => (pv 5))) rfl))))
      (pss_cons (ps_dput hu (pv 3) (pv 2) (pe_callB cr_sorted (by rfl) B.sorted PyProof.Rows.boot_sorted (pa_cons (pe_op op_cat (pe_dget hu (pv 0) (pv 2) (fun _ _ => rfl)) (pe_lc (own := [("_law_value", 5)]) (g := gName 5) (tt := _) (te := tVar 5) rfl nd (pi_list (pe_dget hu (pv 1) (pv 2) (fun _ _ => rfl))) (blkOk_by (N := nLjn) (sc := defScope sLjn) (by decide +kernel)) (fun _ _ _ _ _ => pg_name (i := 5) nd rfl (.inl rfl)) (fun _ _ _ _ _ => pts_one (pt_cmpR (r := rIn K true) op_notIn_seq (pv 5) (pe_dget hu (pv 0) (pv 2) (fun _ _ => rfl)) rfl))
        (fun _ _ _ _ _ => (pv 5)))) pa_nil)) rfl)
      (pss_one (ps_ret (pv 3))))), ?_⟩
    intro D nD
    have s0 := same_new (o := HO.dK []) nD
    have lL := oa.few ba.nd
    have ba1 := ba.same' s0
    have Daa : D ≠ a := fun z => by rw [z, ba.un] at nD; cases nD
    refine ⟨a, _, ba1.un, trivial, fun od => ?_⟩
    have fa := ba.toBx.lock (od := od) ba.un
    have fb := bb.toBx.lock (od := od) ba.un
    have ea : (upd H a (.frz od (.dK (entK L)))) a = some (.frz od (.dK (entK L))) := upd_same
    have sf := same_frz (od := od) ba.un s0
    have eD1 : (upd (upd H D (.dK [])) a (.frz od (.dK (entK L)))) D = some (.dK []) := by rw [upd_ne Daa]; exact upd_same
    have sL : ∀ {H'}, Same (upd H a (.frz od (.dK (entK L)))) H' → Same H (upd H' a (.dK (entK L))) := fun sm => unlock ba.un sm
    have old : ∀ {H' : Hp} {c : Addr}, Same (upd H a (.frz od (.dK (entK L)))) H' → H' c = none → H c = none := fun {H' c} sm h => by
      have h2 := ba.un
      exact (by grind only [= g_upd, = g_same, = g_keep, = g_oth, = g_strm, g_new, = List.map_nil, → Bu.same', → Bu.un, → BL.same, → StL.same])
    have nDf : (upd H a (.frz od (.dK (entK L)))) D = none := by rw [upd_ne Daa]; exact nD
    generalize upd (upd H D (.dK [])) a (.frz od (.dK (entK L))) = H1 at sf eD1
    generalize upd H a (.frz od (.dK (entK L))) = Hf at fa fb ea sf sL old nDf
    refine ⟨.ref a, rfl, a, od, rfl, .inl ⟨entK L, sf _ _ ea, for_it walk_keys (fun i σ H' => ∃ (y4 : Option V) (N : List Ent), σ = [some (.ref a), some (.ref b), some (.str n), some (.ref D), y4, none] ∧ Same Hf H' ∧ Nb H H' D N ∧ shape N = shape ((joE L M).take i))
      ⟨none, [], rfl, sf, Nb.nil nD eD1, rfl⟩ (fun i σ H' _ h => by obtain ⟨_, _, _, h, _⟩ := h; exact h _ _ ea) ?_ ?_⟩⟩
    · rintro i x σ H' H'' hi ⟨y4, N, rfl, sm, nb, shp⟩ ⟨rfl, k1, v1, hk, rfl⟩
      obtain ⟨e, he, rfl, rfl⟩ := keys_at hk
      have em := List.mem_of_getElem? he
      have le := look_mem ba.nd em
      obtain ⟨t, ht⟩ := ob.get ((oa.keys e.1).mp (by rw [le] <;> rfl))
      obtain ⟨ae, ge, se⟩ := (fa.same sm).at_ le
      obtain ⟨at_, gt, st⟩ := (fb.same sm).at_ ht
      have le31 := Nat.le_trans (oa.len le) n31
      have lt31 := Nat.le_trans (ob.len ht) n31
      refine ⟨.ref a, rfl, .str e.1, rfl, a, .ref ae, rfl, ge, ae, rfl, ⟨_, sl_map se⟩, fun R nR => ?_⟩
      refine lc_list (xs := e.2.2.map V.int) (fun j H3 => Same H'' H3 ∧ H3 R = some (.lst (((e.2.2.take j).filter fun v => decide (v ∈ t)).map V.int)))
        ⟨same_new nR, upd_same⟩ (fun j H3 _ h => sl_map (h.1 _ _ se)) ?_ ?_
      · rintro j z H3 hz ⟨s3, eR⟩
        rw [List.getElem?_map] at hz
        obtain ⟨v, hv, rfl⟩ := Option.map_eq_some_iff.mp hz
        obtain ⟨at3, gt3, st3⟩ := (fb.same (sm.trans s3)).at_ ht
        have fl := filter_len e.2.2 (fun v => decide (v ∈ t)) j
        have fs := filter_snoc (p := fun v => decide (v ∈ t)) hv
        refine ⟨rfl, .int v, rfl, .ref b, rfl, .str e.1, rfl, b, .ref at3, rfl, gt3, at3, _, rfl, .inl (sl_map st3), rfl, flat_ints _, _, rfl, ?_⟩
        rw [if_neg (by decide), in_ints]
        refine ite_both (fun c => ⟨.int v, rfl, _, eR, by rw [List.length_map]; exact small1000 (by omega), same_at s3 nR, ?_⟩) (fun c => ⟨s3, ?_⟩)
        · rw [fs, if_pos c, upd_same, List.map_append] <;> rfl
        · rw [fs, if_neg (by rw [c]; decide), List.append_nil]; exact eR
      · rintro H3 ⟨s3, eR⟩
        rw [List.length_map, List.take_length] at eR
        have nb3 := nb.push s3
        have lM := shape_len shp
        have lj : (joE L M).length = L.length := List.length_map _
        rw [List.length_take] at lM
        have S3 := sm.trans s3
        have nla : R ∉ N.map (·.2.1) := fun z => by
          obtain ⟨g, hg, rfl⟩ := List.mem_map.mp z
          rw [nb.sides g hg] at nR
          cases nR
        have hej : (joE L M)[i]? = some (e.1, 0, both e.2.2 t) := by
          unfold joE
          rw [List.getElem?_map, he]
          show some (e.1, 0, both e.2.2 ((look M e.1).getD [])) = _
          rw [ht] <;> rfl
        have xnew : e.1 ∉ N.map (·.1) := by
          rw [shape_keys shp]
          exact take_keys (e := (e.1, 0, both e.2.2 t)) (by rw [joE_keys]; exact ba.nd) hej
        refine ⟨.ref D, rfl, .str e.1, rfl, D, _, rfl, DPut.k (k := .inr e.1) nb3.un (by rw [entK_len]; exact small1000 (by omega)), ?_⟩
        rw [putK_ent (s := both e.2.2 t), putE_new xnew]
        exact ⟨_, N ++ [(e.1, R, both e.2.2 t)], rfl, same_at S3 nDf, nb3.alias (old sm nR) eR xnew nla (by omega), shape_take shp hej⟩
    · rintro σ H' ⟨y4, N, rfl, sm, nb, shp⟩
      rw [entK_len, show L.length = (joE L M).length from (List.length_map _).symm, List.take_length] at shp
      have eF := sm _ _ ea
      refine ⟨eF, ?_⟩
      have S := sL sm
      have nb2 := nb.unl' eF
      generalize upd H' a (.dK (entK L)) = H2 at S nb2
      obtain ⟨s, hs⟩ := oa.get hn
      obtain ⟨t, ht⟩ := ob.get hn
      obtain ⟨as, gs, es⟩ := (ba.toBx.same S).at_ hs
      obtain ⟨at_, gt, et⟩ := (bb.toBx.same S).at_ ht
      have ls := Nat.le_trans (oa.len hs) n31
      have lt := Nat.le_trans (ob.len ht) n31
      refine ⟨.ref a, rfl, .str n, rfl, a, .ref as, rfl, gs, .ref b, rfl, .str n, rfl, b, .ref at_, rfl, gt, at_, rfl, ⟨_, sl_map et⟩, fun R nR => ?_⟩
      refine lc_list (xs := t.map V.int) (fun j H3 => Same H2 H3 ∧ H3 R = some (.lst (((t.take j).filter fun v => !decide (v ∈ s)).map V.int)))
        ⟨same_new nR, upd_same⟩ (fun j H3 _ h => sl_map (h.1 _ _ et)) ?_ ?_
      · rintro j z H3 hz ⟨s3, eR⟩
        rw [List.getElem?_map] at hz
        obtain ⟨v, hv, rfl⟩ := Option.map_eq_some_iff.mp hz
        obtain ⟨as3, gs3, es3⟩ := (ba.toBx.same (S.trans s3)).at_ hs
        have fl := filter_len t (fun v => !decide (v ∈ s)) j
        have fs := filter_snoc (p := fun v => !decide (v ∈ s)) hv
        refine ⟨rfl, .int v, rfl, .ref a, rfl, .str n, rfl, a, .ref as3, rfl, gs3, as3, _, rfl, .inl (sl_map es3), rfl, flat_ints _, _, rfl, ?_⟩
        rw [if_pos rfl, in_ints]
        refine ite_both (fun c => ⟨.int v, rfl, _, eR, by rw [List.length_map]; exact small1000 (by omega), same_at s3 nR, ?_⟩) (fun c => ⟨s3, ?_⟩)
        · rw [fs, if_pos c, upd_same, List.map_append] <;> rfl
        · rw [fs, if_neg (by rw [c]; decide), List.append_nil]; exact eR
      · rintro H3 ⟨s3, eR⟩
        rw [List.length_map, List.take_length] at eR
        have fl := filter_len t (fun v => !decide (v ∈ s)) t.length
        rw [List.take_length] at fl
        refine ⟨as, R, _, _, rfl, rfl, s3 _ _ es, eR, by rw [List.length_map, List.length_map]; exact Nat.le_of_lt (small1000 (by omega)), fun c nc => ?_⟩
        rw [← List.map_append]
        refine ⟨c, _, rfl, sl_map upd_same, by rw [List.length_append]; omega, fun ms r pm pw nr => ?_⟩
        have ems := uni_sorted (oa.srt _ _ hs) (ob.srt _ _ ht) pm pw
        subst ems
        have s4 := s3.trans (same_new (o := HO.lst ((s ++ t.filter fun v => !decide (v ∈ s)).map V.int)) nc)
        have s5 := s4.trans (same_new (o := HO.lst ((uni s t).map V.int)) nr)
        have er := upd_same (H := upd H3 c (HO.lst ((s ++ t.filter fun v => !decide (v ∈ s)).map V.int))) (a := r) (o := HO.lst ((uni s t).map V.int))
        have nr0 := s4.free nr
        generalize upd (upd H3 c (HO.lst ((s ++ t.filter fun v => !decide (v ∈ s)).map V.int))) r (HO.lst ((uni s t).map V.int)) = H6 at s5 er
        have nb5 := nb2.push s5
        have lN := shape_len shp
        rw [show (joE L M).length = L.length from List.length_map _] at lN
        refine ⟨.ref D, rfl, .str n, rfl, D, _, rfl, DPut.k (k := .inr n) nb5.un (by rw [entK_len]; exact small1000 (by omega)), ?_⟩
        rw [putK_ent (s := uni s t)]
        refine ⟨_, rfl, q _ D (putE N n r (uni s t)) (same_at (S.trans s5) nD) (nb2.put (S.free nr0) nr0 s5 er (by omega)) (funext fun x => ?_)⟩
        rw [look_put, look_shape shp x]
        exact jnf_of oa ob hs ht x
end
end K6

set_option Elab.async false
set_option linter.all false
set_option maxRecDepth 100000
set_option maxHeartbeats 4000000
namespace K6
open PySem PySem.Spec PyProof.Rows L2 Cs CsX
theorem at_eq {xs : List V} {i : Int} {j : Nat} {v : V} (h : i = (j : Int)) (hx : xs[j]? = some v) : atI xs i = some v := by
  rw [h]; exact atI_nat hx
theorem at_in {ns : List Int} {d : Int} (h0 : 0 ≤ d) (h1 : d < (ns.length : Nat)) : ∃ v ∈ ns, atI (ns.map V.int) d = some (.int v) := by
  have h : d.toNat < ns.length := by omega
  exact ⟨ns[d.toNat], List.getElem_mem h, at_int h0 (by rw [List.getElem?_map, List.getElem?_eq_getElem h] <;> rfl)⟩
theorem at_inS {ns : List Str} {d : Int} (h0 : 0 ≤ d) (h1 : d < (ns.length : Nat)) : ∃ v ∈ ns, atI (ns.map V.str) d = some (.str v) := by
  have h : d.toNat < ns.length := by omega
  exact ⟨ns[d.toNat], List.getElem_mem h, at_int h0 (by rw [List.getElem?_map, List.getElem?_eq_getElem h] <;> rfl)⟩
section
variable {P : Program} {w : World} {K : PySem.W.Frag} {mg : Str → Option Value} {base : Heap}
abbrev sLjd : Stmt := topS 46
abbrev nLjd : List Str := ["_law_boxes", "_law_steps", "_law_known", "_law_step", "_law_sides"]
theorem scLjd : FnScope nLjd ["_law_boxes", "_law_steps"] (defScope sLjd) := ⟨rfl, rfl, rfl, by decide +kernel, rfl, by decide +kernel, by decide +kernel⟩
theorem ok_Ljd {f f0 f1 : Addr} {fd fd0 fd1 : FuncData} (F : Fun K "_law_joined" "_law_joined" sLjd f fd) (B : Bt mg) (Ccp : Call P w K mg base 1 "_law_copied" f0 fd0 ["_law_sides"] spCopy) (CLjn : Call P w K mg base 1 "_law_join" f1 fd1 ["_law_first", "_law_second", "_law_name"] spLjn) :
    FnOk P w K mg base CX0 2 f fd ["_law_boxes", "_law_steps"] spRun := by
  refine F.ok scLjd (fun vs H Q E h => ?_) (fun cdv A outer s H vs Q E hr h => ?_)
  · obtain ⟨a, s, Bs, ts, xs, ns, rfl, _⟩ := h
    rfl
  · obtain ⟨a, sa, Bs, ts, xs, ns, rfl, bl, sl, okc, x8, n31, good, few, q⟩ := h
    have hu := hu_of hr
    have nd := scLjd.nd
    refine ⟨_, pss_cons (ps_setLc (i := 2) (own := [("_law_sides", 4)]) (g := gName 4) (tt := tYes)  rfl nd rfl rfl (by rfl) (pi_list (pv 0)) (blkOk_by (N := nLjd) (sc := defScope sLjd) (by decide +kernel)) (fun _ _ _ _ _ => pg_name (i := 4) nd rfl (.inl rfl)) (fun _ _ _ _ _ => pts_nil)
          (fun _ _ _ _ _ => (pe_call Ccp.ok (hr.mono (by decide)) (by rfl) Ccp.at_ Ccp.kp Ccp.bd .nil pass0 (pa_cons (pv 4) pa_nil))))
      (pss_cons (ps_for PassesOwn.never rfl (pi_list (pv 1)) (pg_name (i := 3) nd rfl (.inl rfl))
        (pss_one (ps_expr (pe_bm PySem.F.plainAttrs_list PySem.F.slot_list_append PySem.F.type_list_append mt_append (pv 2) (pa_cons (pe_call CLjn.ok (hr.mono (by decide)) (by rfl) CLjn.at_ CLjn.kp CLjn.bd .nil pass0 (pa_cons (pe_ix ix_list (pv 2) (pe_ix ix_tup (pv 3) pe_int (fun _ _ => rfl)) (fun _ _ => rfl)) (pa_cons (pe_ix ix_list (pv 2) (pe_ix ix_tup (pv 3) pe_int (fun _ _ => rfl)) (fun _ _ => rfl)) (pa_cons (pe_ix ix_tup (pv 3) pe_int (fun _ _ => rfl)) pa_nil)))) pa_nil)))))
      (pss_one (ps_ret (pv 2)))), ?_⟩
    refine ⟨.ref a, rfl, a, rfl, ⟨_, sl_map bl.lst⟩, fun R nR => ?_⟩
    refine lc_list (xs := Bs.map fun b => V.ref b.1) (fun i H' => ∃ Ks : Bxs, Same H H' ∧ NL H H' R Ks ∧ says Ks = (says Bs).take i) ⟨[], same_new nR, NL.nil nR upd_same, rfl⟩ (fun i H' _ h => sl_map (by obtain ⟨Ks, s, _⟩ := h; exact (bl.same s).lst)) ?_ ?_
    · rintro i x H' hx ⟨Ks, s, nl, sk⟩
      rw [List.getElem?_map] at hx
      obtain ⟨b, hb, rfl⟩ := Option.map_eq_some_iff.mp hx
      have hi := (List.getElem?_eq_some_iff.mp hb).1
      refine ⟨rfl, .ref b.1, rfl, b.1, b.2, rfl, (bl.same s).at_ hb, fun H2 d M s2 nb sh => ?_⟩
      have lk := says_len sk
      rw [List.length_take, List.length_map] at lk
      refine ⟨_, s2 _ _ nl.lst, by rw [List.length_map]; exact small1000 (by omega), Ks ++ [(d, M)], same_at (s.trans s2) nR, nl.snoc (fun a h => s.free h) s2 nb, ?_⟩
      rw [says_snoc, sk, List.take_add_one, List.getElem?_map, hb]
      show _ ++ [look M] = _ ++ [look b.2]
      rw [show look M = look b.2 from funext (look_shape sh)]
    · rintro H' ⟨Ks0, s, nl, sk⟩
      rw [List.length_map, ← List.length_map (f := fun b : Addr × List Ent => look b.2), List.take_length] at sk
      refine ⟨.ref sa, rfl, sa, rfl, ⟨_, sl_map (sl.same s).lst⟩, for_list (xs := ts.map fun t => V.ref t.1) (fun i σ H' => ∃ (y3 : Option V) (Ks : Bxs), σ = [some (.ref a), some (.ref sa), some (.ref R), y3, none] ∧ Same H H' ∧ NL H H' R Ks ∧ says Ks = planC (says Bs) ((ts.map (·.2)).take i))
        ⟨none, Ks0, rfl, s, nl, sk⟩ (fun i σ H' _ h => by obtain ⟨_, _, _, s, _⟩ := h; exact sl_map (sl.same s).lst) ?_ ?_⟩
      · rintro i x σ H1 hx ⟨y3, Ks, rfl, s, nl2, sk⟩
        rw [List.getElem?_map] at hx
        obtain ⟨t, ht, rfl⟩ := Option.map_eq_some_iff.mp hx
        have hi := (List.getElem?_eq_some_iff.mp ht).1
        have et := (sl.same s).tup t (List.mem_of_getElem? ht)
        have hts : (ts.map (·.2))[i]? = some t.2 := by rw [List.getElem?_map, ht] <;> rfl
        obtain ⟨gx, g1, g2, g3, g4⟩ := good i t.2 hts
        have lk := says_len sk
        rw [planC_len, List.length_take, List.length_map, List.length_map, Nat.min_eq_left (by omega)] at lk
        obtain ⟨b, hb, eb, ab⟩ := says_at sk g1 (by omega)
        obtain ⟨c, hc, ec, ac⟩ := says_at sk g3 (by omega)
        have okb := planC_ok okc (by rw [List.length_map]; exact good) i (by rw [List.length_map]; omega)
        rw [← sk] at okb
        have ob := okb _ (List.mem_map_of_mem (List.mem_of_getElem? hb))
        have oc := okb _ (List.mem_map_of_mem (List.mem_of_getElem? hc))
        have bb := nl2.bl.at_ hb
        have bc := nl2.bl.at_ hc
        refine ⟨_, rfl, .inl ⟨rfl, _, sl_map nl2.lst⟩, _, rfl, _, rfl, t.1, _, _, .int t.2.2.1, rfl, rfl, .inl (.inl et), atI_nat (j := 1) rfl, R, _, _, .ref b.1, rfl, rfl, sl_map nl2.lst, ab, _, rfl, _, rfl, t.1, _, _, .int t.2.2.2, rfl, rfl, .inl (.inl et), atI_nat (j := 2) rfl, R, _, _, .ref c.1, rfl, rfl, sl_map nl2.lst, ac, _, rfl, t.1, _, _, .str t.2.1, rfl, rfl, .inl (.inl et), atI_nat (j := 0) rfl, b.1, c.1, t.2.1, b.2, c.2, xs, ns, rfl, bb, bc, ob, oc, gx, by omega, n31, fun H4 d M s4 nb lkM => ?_⟩
        refine ⟨R, _, _, rfl, rfl, s4 _ _ nl2.lst, by rw [List.length_map]; exact small1000 (by omega), _, Ks ++ [(d, M)], rfl, same_at (s.trans s4) nR, nl2.snoc (fun a h => s.free h) s4 nb, ?_⟩
        rw [says_snoc, planC_snoc _ hts, ← sk]
        unfold stepC
        rw [sk, eb, ec, lkM]
      · rintro σ H' ⟨y3, Ks, rfl, s, nl, sk⟩
        rw [List.length_map, ← List.length_map (f := fun t : Addr × Stp => t.2), List.take_length] at sk
        exact ⟨_, rfl, q _ R Ks s nl sk⟩
abbrev sGst : Stmt := topS 47
abbrev nGst : List Str := ["_law_stream_here", "_law_names_here", "_law_start", "_law_count", "_law_steps", "_law_k", "_law_name"]
theorem scGst : FnScope nGst ["_law_stream_here", "_law_names_here", "_law_start", "_law_count"] (defScope sGst) := ⟨rfl, rfl, rfl, by decide +kernel, rfl, by decide +kernel, by decide +kernel⟩
def okStp (xs : List Str) (n i : Nat) (s : Stp) : Prop := s.1 ∈ xs ∧ 0 ≤ s.2.1 ∧ s.2.1 < max 1 (n + i : Nat) ∧ 0 ≤ s.2.2 ∧ s.2.2 < max 1 (n + i : Nat)
def spGst : Sp := fun vs H Q _ => ∃ (p nm : Addr) (xs : List Str) (n m : Nat), vs = [.ref p, .ref nm, .int (n : Int), .int (m : Int)] ∧ Strm H p ∧ H nm = some (.lst (xs.map V.str)) ∧ p ≠ nm ∧ 1 ≤ xs.length ∧ xs.length ≤ 30 ∧ n ≤ 100 ∧ m ≤ 400 ∧
  ∀ (H' : Hp) (l : Addr) (ts : List (Addr × Stp)), Keep p H H' → Strm H' p → H l = none → StL H' l ts → ts.length = m → (∀ (i : Nat) (t : Addr × Stp), ts[i]? = some t → okStp xs n i t.2) → Q (.ref l) H'
theorem ok_Gst {f f0 : Addr} {fd fd0 : FuncData} (F : Fun K "_law_good_steps" "_law_good_steps" sGst f fd) (B : Bt mg) (zmax : mg "max" = none) (D : Call P w K mg base 1 "_law_next" f0 fd0 ["_law_stream_here", "_law_size"] spDraw) :
    FnOk P w K mg base CX0 2 f fd ["_law_stream_here", "_law_names_here", "_law_start", "_law_count"] spGst := by
  refine F.ok scGst (fun vs H Q E h => ?_) (fun cdv A outer s H vs Q E hr h => ?_)
  · obtain ⟨p, nm, xs, n, m, rfl, _⟩ := h
    rfl
  · obtain ⟨p, nm, xs, n, m, rfl, hp, enm, pnm, x1, x30, n100, m400, q⟩ := h
    have nd := scGst.nd
    refine ⟨_, pss_cons (ps_set (i := 4) nd rfl (.inl rfl) (pe_lst pa_nil))
      (pss_cons (ps_for PassesOwn.never rfl (pi_range1 (by rfl) B.range (pa_cons (pv 3) pa_nil)) (pg_name (i := 5) nd rfl (.inl rfl))
        (pss_cons (ps_set (i := 6) nd rfl (.inl rfl) (pe_ix ix_list (pv 1) (pe_call D.ok (hr.mono (by decide)) (by rfl) D.at_ D.kp D.bd .nil pass0 (pa_cons (pv 0) (pa_cons (pe_callB call_len_seq (by rfl) B.len PySem.boot_len (pa_cons (pv 1) pa_nil)) pa_nil))) (fun _ _ => rfl)))
          (pss_one (ps_expr (pe_bm PySem.F.plainAttrs_list PySem.F.slot_list_append PySem.F.type_list_append mt_append (pv 4) (pa_cons (pe_tup (pa_cons (pv 6) (pa_cons (pe_call D.ok (hr.mono (by decide)) (by rfl) D.at_ D.kp D.bd .nil pass0 (pa_cons (pv 0) (pa_cons (pe_callB (call_max2 rfl) (by rfl) zmax PyProof.Rows.boot_max (pa_cons pe_int (pa_cons (pe_op op_add (pv 2) (pv 5)) pa_nil))) pa_nil))) (pa_cons (pe_call D.ok (hr.mono (by decide)) (by rfl) D.at_ D.kp D.bd .nil pass0 (pa_cons (pv 0) (pa_cons (pe_callB (call_max2 rfl) (by rfl) zmax PyProof.Rows.boot_max (pa_cons pe_int (pa_cons (pe_op op_add (pv 2) (pv 5)) pa_nil))) pa_nil))) pa_nil)))) pa_nil))))))
      (pss_one (ps_ret (pv 4)))), ?_⟩
    refine ⟨by show 0 ≤ sizeLine; decide, fun l nl => ?_⟩
    have npl : p ≠ l := fun z => hp.some (z ▸ nl)
    refine ⟨.int (m : Int), rfl, (m : Int), rfl, by omega, by omega, for_range (lo := 0) (n := m) (fun i σ H' => ∃ (y5 y6 : Option V) (ts : List (Addr × Stp)), σ = [some (.ref p), some (.ref nm), some (.int (n : Int)), some (.int (m : Int)), some (.ref l), y5, y6] ∧ Keep p H H' ∧ Strm H' p ∧ StL H' l ts ∧ ts.length = i ∧ (∀ (i : Nat) (t : Addr × Stp), ts[i]? = some t → okStp xs n i t.2))
      ⟨none, none, [], rfl, Keep.same (same_new nl), hp.upd npl, ⟨upd_same, (fun _ h => nomatch h)⟩, rfl, fun i t h => by cases h⟩ ?_ ?_⟩
    · rintro i σ H1 hi ⟨y5, y6, ts, rfl, k1, st1, sl, lt, ok⟩
      have enm1 := k1 _ _ pnm.symm enm
      have lx : (xs.map V.str).length = xs.length := List.length_map _
      refine ⟨_, rfl, _, rfl, _, rfl, nm, _, rfl, .inl (sl_map enm1), p, _, rfl, st1, by omega, by omega, fun H2 a o2 st2 a0 a1 => ?_⟩
      obtain ⟨x, hx, ax⟩ := at_inS a0 (by omega : a < (xs.length : Nat))
      refine ⟨nm, _, _, .str x, rfl, rfl, sl_map (by grind only [= g_upd, = g_same, = g_keep, = g_oth, = g_strm, g_new, = List.map_nil, → Bu.same', → Bu.un, → BL.same, → StL.same]), ax, ?_⟩
      have lt0 : (0 : Int) < (if (n : Int) + (0 + (i : Int)) > 1 then (n : Int) + (0 + (i : Int)) else 1) := by split <;> omega
      have lt1 : (if (n : Int) + (0 + (i : Int)) > 1 then (n : Int) + (0 + (i : Int)) else 1) < 1073741824 := by split <;> omega
      have el : H2 l = some (.lst (ts.map fun t => V.ref t.1)) := (o2 l npl.symm).trans sl.lst
      refine ⟨_, rfl, .inl ⟨rfl, _, sl_map el⟩, _, rfl, _, rfl, _, rfl, _, rfl, _, _, rfl, rfl, _, _, rfl, p, _, rfl, st2, lt0, lt1, fun H3 b o3 st3 b0 b1 => ?_⟩
      refine ⟨_, rfl, _, rfl, _, rfl, _, _, rfl, rfl, _, _, rfl, p, _, rfl, st3, lt0, lt1, fun H4 c o4 st4 c0 c1 => ?_⟩
      refine ⟨by show 3 ≤ sizeLine; decide, fun T nT => ?_⟩
      have nTl : T ≠ l := by
        have h1 := sl.lst
        exact (by grind only [= g_upd, = g_same, = g_keep, = g_oth, = g_strm, g_new, = List.map_nil, → Bu.same', → Bu.un, → BL.same, → StL.same])
      have npT : p ≠ T := (by grind only [= g_upd, = g_same, = g_keep, = g_oth, = g_strm, g_new, = List.map_nil, → Bu.same', → Bu.un, → BL.same, → StL.same])
      have tT : ∀ t ∈ ts, t.1 ≠ T ∧ t.1 ≠ p ∧ t.1 ≠ l := fun t ht => by
        have h1 := sl.tup t ht
        have h2 := sl.lst
        exact ⟨(by grind only [= g_upd, = g_same, = g_keep, = g_oth, = g_strm, g_new, = List.map_nil, → Bu.same', → Bu.un, → BL.same, → StL.same]), (by grind only [= g_upd, = g_same, = g_keep, = g_oth, = g_strm, g_new, = List.map_nil, → Bu.same', → Bu.un, → BL.same, → StL.same]), (by grind only [= g_upd, = g_same, = g_keep, = g_oth, = g_strm, g_new, = List.map_nil, → Bu.same', → Bu.un, → BL.same, → StL.same])⟩
      refine ⟨l, ts.map fun t => V.ref t.1, _, rfl, rfl, (by grind only [= g_upd, = g_same, = g_keep, = g_oth, = g_strm, g_new, = List.map_nil, → Bu.same', → Bu.un, → BL.same, → StL.same]), by rw [List.length_map]; exact small1000 (by omega), _, _, ts ++ [(T, (x, b, c))], rfl, (by grind only [= g_upd, = g_same, = g_keep, = g_oth, = g_strm, g_new, = List.map_nil, → Bu.same', → Bu.un, → BL.same, → StL.same]), (by grind only [= g_upd, = g_same, = g_keep, = g_oth, = g_strm, g_new, = List.map_nil, → Bu.same', → Bu.un, → BL.same, → StL.same]), ⟨by rw [upd_same, List.map_append] <;> rfl, fun t ht => ?_⟩, by rw [List.length_append, lt] <;> rfl, fun j t ht => ?_⟩
      · rcases List.mem_append.mp ht with h | h
        · obtain ⟨h1, h2, h3⟩ := tT t h
          have h4 := sl.tup t h
          exact (by grind only [= g_upd, = g_same, = g_keep, = g_oth, = g_strm, g_new, = List.map_nil, → Bu.same', → Bu.un, → BL.same, → StL.same])
        · rw [List.mem_singleton.mp h]
          show _ = some (HO.tup [.str x, .int b, .int c])
          exact (by grind only [= g_upd, = g_same, = g_keep, = g_oth, = g_strm, g_new, = List.map_nil, → Bu.same', → Bu.un, → BL.same, → StL.same])
      · rcases Nat.lt_or_ge j ts.length with h | h
        · rw [List.getElem?_append_left h] at ht
          exact ok j t ht
        · rw [List.getElem?_append_right h] at ht
          have ej : j - ts.length = 0 := by
            have := (List.getElem?_eq_some_iff.mp ht).1
            rw [List.length_singleton] at this
            omega
          rw [ej] at ht
          obtain rfl := Option.some.inj ht
          have em : (if (n : Int) + (0 + (i : Int)) > 1 then (n : Int) + (0 + (i : Int)) else 1) = ((max 1 (n + j) : Nat) : Int) := by split <;> omega
          rw [em] at b1 c1
          exact ⟨hx, b0, by show b < _; omega, c0, by show c < _; omega⟩
    · rintro σ H' ⟨y5, y6, ts, rfl, k, st, sl, lt, ok⟩
      exact ⟨_, rfl, q H' l ts k st nl sl lt ok⟩
end
end K6

set_option Elab.async false
set_option linter.all false
set_option maxRecDepth 100000
set_option maxHeartbeats 4000000
namespace K6
open PySem PySem.Spec PyProof.Rows L2 Cs CsX
section
variable {P : Program} {w : World} {K : PySem.W.Frag} {mg : Str → Option Value} {base : Heap}
abbrev sBds : Stmt := topS 48
abbrev nBds : List Str := ["_law_stream_here", "_law_step", "_law_own", "_law_bad", "_law_way"]
theorem scBds : FnScope nBds ["_law_stream_here", "_law_step", "_law_own"] (defScope sBds) := ⟨rfl, rfl, rfl, by decide +kernel, rfl, by decide +kernel, by decide +kernel⟩
def spBds : Sp := fun vs H Q _ => ∃ (p t : Addr) (s : Stp) (o : Int), vs = [.ref p, .ref t, .int o] ∧ Strm H p ∧ H t = some (.tup [.str s.1, .int s.2.1, .int s.2.2]) ∧ 1 ≤ o ∧ o ≤ 1000000 ∧
  ∀ (H' : Hp) (t' : Addr) (s' : Stp), Keep p H H' → Strm H' p → H t' = none → H' t' = some (.tup [.str s'.1, .int s'.2.1, .int s'.2.2]) → s'.1 = s.1 → (s'.2.1 < 0 ∨ s'.2.2 < 0 ∨ o ≤ s'.2.1 ∨ o ≤ s'.2.2) → Q (.ref t') H'
theorem ok_Bds {f f0 : Addr} {fd fd0 : FuncData} (F : Fun K "_law_bad_step" "_law_bad_step" sBds f fd) (B : Bt mg) (D : Call P w K mg base 1 "_law_next" f0 fd0 ["_law_stream_here", "_law_size"] spDraw) :
    FnOk P w K mg base CX0 2 f fd ["_law_stream_here", "_law_step", "_law_own"] spBds := by
  refine F.ok scBds (fun vs H Q E h => ?_) (fun cdv A outer s H vs Q E hr h => ?_)
  · obtain ⟨p, t, s, o, rfl, _⟩ := h
    rfl
  · obtain ⟨p, t, s, o, rfl, hp, et, o1, o2, q⟩ := h
    have nd := scBds.nd
    refine ⟨_, pss_cons (ps_set (i := 3) nd rfl (.inl rfl) (pe_ix ix_list (pe_lst (pa_cons (pv 2) (pa_cons (pe_op op_add (pe_op op_add (pv 2) pe_int) (pe_call D.ok (hr.mono (by decide)) (by rfl) D.at_ D.kp D.bd .nil pass0 (pa_cons (pv 0) (pa_cons pe_int pa_nil)))) (pa_cons (pe_un un_neg pe_int) (pa_cons (pe_un un_neg (pv 2)) (pa_cons (pe_op op_sub (pe_un un_neg (pv 2)) pe_int) (pa_cons (pe_op op_pow pe_int pe_int) pa_nil))))))) (pe_call D.ok (hr.mono (by decide)) (by rfl) D.at_ D.kp D.bd .nil pass0 (pa_cons (pv 0) (pa_cons pe_int pa_nil))) (fun _ _ => rfl)))
      (pss_cons (ps_set (i := 4) nd rfl (.inl rfl) (pe_call D.ok (hr.mono (by decide)) (by rfl) D.at_ D.kp D.bd .nil pass0 (pa_cons (pv 0) (pa_cons pe_int pa_nil))))
      (pss_cons (ps_if (pt_cmpR op_eq (pv 4) pe_int rfl)
        (pss_one (ps_ret (pe_tup (pa_cons (pe_ix ix_tup (pv 1) pe_int (fun _ _ => rfl)) (pa_cons (pv 3) (pa_cons (pe_ix ix_tup (pv 1) pe_int (fun _ _ => rfl)) pa_nil))))))
        pss_nil)
      (pss_cons (ps_if (pt_cmpR op_eq (pv 4) pe_int rfl)
        (pss_one (ps_ret (pe_tup (pa_cons (pe_ix ix_tup (pv 1) pe_int (fun _ _ => rfl)) (pa_cons (pe_ix ix_tup (pv 1) pe_int (fun _ _ => rfl)) (pa_cons (pv 3) pa_nil))))))
        pss_nil)
      (pss_one (ps_ret (pe_tup (pa_cons (pe_ix ix_tup (pv 1) pe_int (fun _ _ => rfl)) (pa_cons (pv 3) (pa_cons (pv 3) pa_nil))))))))), ?_⟩
    refine ⟨_, rfl, _, rfl, _, _, rfl, rfl, .ref p, rfl, p, 3, rfl, hp, by decide, by decide, fun H1 a o1' st1 a0 a1 => ⟨_, _, rfl, rfl, _, rfl, _, rfl, _, rfl, _, rfl, _, rfl, _, _, rfl, rfl, _, _, rfl, rfl, ⟨by decide, by decide, by decide⟩, by show 6 ≤ sizeLine; decide, fun L nL => ?_⟩⟩
    have npL : p ≠ L := (by grind only [= g_upd, = g_same, = g_keep, = g_oth, = g_strm, g_new, = List.map_nil, → Bu.same', → Bu.un, → BL.same, → StL.same])
    have bad : ∀ v ∈ [o, o + 1 + a, -1, -o, -o - 1, (10 : Int) ^ (6 : Int).toNat], v < 0 ∨ o ≤ v := by
      intro v hv
      have e6 : (10 : Int) ^ (6 : Int).toNat = 1000000 := by decide
      rw [e6] at hv
      simp only [List.mem_cons, List.not_mem_nil, or_false] at hv
      rcases hv with rfl | rfl | rfl | rfl | rfl | rfl <;> omega
    refine ⟨.ref p, rfl, p, 6, rfl, (by grind only [= g_upd, = g_same, = g_keep, = g_oth, = g_strm, g_new, = List.map_nil, → Bu.same', → Bu.un, → BL.same, → StL.same]), by decide, by decide, fun H2 b o2' st2 b0 b1 => ?_⟩
    obtain ⟨v, vm, av⟩ := at_in (ns := [o, o + 1 + a, -1, -o, -o - 1, (10 : Int) ^ (6 : Int).toNat]) b0 b1
    have hv := bad v vm
    refine ⟨L, _, _, .int v, rfl, rfl, sl_map ((o2' L npL.symm).trans upd_same), av, .ref p, rfl, p, 3, rfl, st2, by decide, by decide, fun H3 c o3 st3 c0 c1 => ?_⟩
    have et3 : H3 t = some (.tup [.str s.1, .int s.2.1, .int s.2.2]) := (by grind only [= g_upd, = g_same, = g_keep, = g_oth, = g_strm, g_new, = List.map_nil, → Bu.same', → Bu.un, → BL.same, → StL.same])
    have k3 : Keep p H H3 := (by grind only [= g_upd, = g_same, = g_keep, = g_oth, = g_strm, g_new, = List.map_nil, → Bu.same', → Bu.un, → BL.same, → StL.same])
    refine ⟨_, rfl, rfl, _, rfl, ite_both (fun _ => ?_) fun _ => ⟨_, rfl, rfl, _, rfl, ite_both (fun _ => ?_) fun _ => ?_⟩⟩
    · refine ⟨_, rfl, t, _, _, .str s.1, rfl, rfl, .inl (.inl et3), atI_nat (j := 0) rfl, _, rfl, _, rfl, t, _, _, .int s.2.2, rfl, rfl, .inl (.inl et3), atI_nat (j := 2) rfl, by show 3 ≤ sizeLine; decide, fun T nT => q _ T (s.1, v, s.2.2) (by grind only [= g_upd, = g_same, = g_keep, = g_oth, = g_strm, g_new, = List.map_nil, → Bu.same', → Bu.un, → BL.same, → StL.same]) (by grind only [= g_upd, = g_same, = g_keep, = g_oth, = g_strm, g_new, = List.map_nil, → Bu.same', → Bu.un, → BL.same, → StL.same]) (by grind only [= g_upd, = g_same, = g_keep, = g_oth, = g_strm, g_new, = List.map_nil, → Bu.same', → Bu.un, → BL.same, → StL.same]) upd_same rfl ?_⟩
      rcases hv with h | h
      · exact .inl h
      · exact .inr (.inr (.inl h))
    · refine ⟨_, rfl, t, _, _, .str s.1, rfl, rfl, .inl (.inl et3), atI_nat (j := 0) rfl, _, rfl, t, _, _, .int s.2.1, rfl, rfl, .inl (.inl et3), atI_nat (j := 1) rfl, _, rfl, by show 3 ≤ sizeLine; decide, fun T nT => q _ T (s.1, s.2.1, v) (by grind only [= g_upd, = g_same, = g_keep, = g_oth, = g_strm, g_new, = List.map_nil, → Bu.same', → Bu.un, → BL.same, → StL.same]) (by grind only [= g_upd, = g_same, = g_keep, = g_oth, = g_strm, g_new, = List.map_nil, → Bu.same', → Bu.un, → BL.same, → StL.same]) (by grind only [= g_upd, = g_same, = g_keep, = g_oth, = g_strm, g_new, = List.map_nil, → Bu.same', → Bu.un, → BL.same, → StL.same]) upd_same rfl ?_⟩
      rcases hv with h | h
      · exact .inr (.inl h)
      · exact .inr (.inr (.inr h))
    · refine ⟨_, rfl, t, _, _, .str s.1, rfl, rfl, .inl (.inl et3), atI_nat (j := 0) rfl, _, rfl, _, rfl, by show 3 ≤ sizeLine; decide, fun T nT => q _ T (s.1, v, v) (by grind only [= g_upd, = g_same, = g_keep, = g_oth, = g_strm, g_new, = List.map_nil, → Bu.same', → Bu.un, → BL.same, → StL.same]) (by grind only [= g_upd, = g_same, = g_keep, = g_oth, = g_strm, g_new, = List.map_nil, → Bu.same', → Bu.un, → BL.same, → StL.same]) (by grind only [= g_upd, = g_same, = g_keep, = g_oth, = g_strm, g_new, = List.map_nil, → Bu.same', → Bu.un, → BL.same, → StL.same]) upd_same rfl ?_⟩
      rcases hv with h | h
      · exact .inl h
      · exact .inr (.inr (.inl h))
abbrev sSbx : Stmt := topS 49
abbrev nSbx : List Str := ["_law_told", "_law_expected", "_law_k"]
theorem scSbx : FnScope nSbx ["_law_told", "_law_expected"] (defScope sSbx) := ⟨rfl, rfl, rfl, by decide +kernel, rfl, by decide +kernel, by decide +kernel⟩
theorem says_eq {Ts Es : Bxs} (h : says Ts = says Es) {i : Nat} {b c : Addr × List Ent} (hb : Ts[i]? = some b) (hc : Es[i]? = some c) : SameB b.2 c.2 := by
  have h1 := congrArg (fun l => l[i]?) h
  simp only [says, List.getElem?_map, hb, hc, Option.map_some] at h1
  intro x
  exact congrFun (Option.some.inj h1) x
def spSbx : Sp := fun vs H Q _ => ∃ (t e : Addr) (Ts Es : Bxs) (xs : List Str) (ns : List Int), vs = [.ref t, .ref e] ∧ BL H t Ts ∧ BL H e Es ∧ says Ts = says Es ∧ (∀ f ∈ says Ts, OkC xs ns f) ∧ ns.length ≤ 31 ∧ Ts.length ≤ 900 ∧ ∀ H', Same H H' → Q (.bl true) H'
theorem ok_Sbx {f f0 : Addr} {fd fd0 : FuncData} (F : Fun K "_law_same_boxes" "_law_same_boxes" sSbx f fd) (B : Bt mg) (Csa : Call P w K mg base 3 "_law_same_sides" f0 fd0 ["_law_actual", "_law_expected"] spSame) :
    FnOk P w K mg base CX0 4 f fd ["_law_told", "_law_expected"] spSbx := by
  refine F.ok scSbx (fun vs H Q E h => ?_) (fun cdv A outer s H vs Q E hr h => ?_)
  · obtain ⟨t, e, Ts, Es, xs, ns, rfl, _⟩ := h
    rfl
  · obtain ⟨t, e, Ts, Es, xs, ns, rfl, bt, be, same, okc, n31, few, q⟩ := h
    have nd := scSbx.nd
    refine ⟨_, pss_cons (ps_if (PW.pt (pw_or (pt_not (pt_val (pe_callB call_isi (by rfl) B.isi PyProof.Rows.boot_isinstance (pa_cons (pv 0) (pa_cons (pe_bltn (by rfl) B.list PyProof.Rows.boot_list (v := .ty "list") rfl) pa_nil))))) (pw_or1 (pt_cmpR op_ne (pe_callB call_len_seq (by rfl) B.len PySem.boot_len (pa_cons (pv 0) pa_nil)) (pe_callB call_len_seq (by rfl) B.len PySem.boot_len (pa_cons (pv 1) pa_nil)) rfl))))
        (pss_one (ps_ret pe_bl))
        pss_nil)
      (pss_cons (ps_for PassesOwn.never rfl (pi_range1 (by rfl) B.range (pa_cons (pe_callB call_len_seq (by rfl) B.len PySem.boot_len (pa_cons (pv 1) pa_nil)) pa_nil)) (pg_name (i := 2) nd rfl (.inl rfl))
        (pss_one (ps_if (pt_not (pt_val (pe_call Csa.ok (hr.mono (by decide)) (by rfl) Csa.at_ Csa.kp Csa.bd .nil pass0 (pa_cons (pe_ix ix_list (pv 0) (pv 2) (fun _ _ => rfl)) (pa_cons (pe_ix ix_list (pv 1) (pv 2) (fun _ _ => rfl)) pa_nil)))))
            (pss_one (ps_ret pe_bl))
            pss_nil)))
      (pss_one (ps_ret pe_bl))), ?_⟩
    have len : Ts.length = Es.length := by have := says_len same; rwa [List.length_map] at this
    refine ⟨.ref t, rfl, .ref t, .ty "list", .type "list", .type "list", true, rfl, .ty _, .base (.lst bt.lst), kit_ty (by decide +kernel), true, rfl, iteF ?_⟩
    refine ⟨_, rfl, t, _, rfl, .inl (sl_map bt.lst), _, rfl, e, _, rfl, .inl (sl_map be.lst), rfl, _, rfl, ite_both (fun c => absurd c ?_) fun _ => ?_⟩
    · rw [List.length_map, List.length_map, len, decide_eq_true rfl]; decide
    refine ⟨_, rfl, e, _, rfl, .inl (sl_map be.lst), _, rfl, ?_, ?_, for_range (lo := 0) (fun i σ H' => ∃ (y2 : Option V), σ = [some (.ref t), some (.ref e), y2] ∧ Same H H') ⟨none, rfl, Same.refl H⟩ ?_ ?_⟩
    · rw [List.length_map]; omega
    · rw [List.length_map]; omega
    · rintro i σ H1 hi ⟨y2, rfl, s⟩
      rw [List.length_map] at hi
      obtain ⟨b, hb⟩ : ∃ b, Ts[i]? = some b := ⟨_, List.getElem?_eq_getElem (by omega)⟩
      obtain ⟨c, hc⟩ : ∃ c, Es[i]? = some c := ⟨_, List.getElem?_eq_getElem (by omega)⟩
      have ob := okc _ (List.mem_map_of_mem (List.mem_of_getElem? hb))
      have bb := (bt.same s).at_ hb
      refine ⟨_, rfl, _, rfl, t, _, _, .ref b.1, rfl, rfl, sl_map (bt.same s).lst, at_eq (j := i) (by omega) (by rw [List.getElem?_map, hb] <;> rfl), _, rfl, _, rfl, e, _, _, .ref c.1, rfl, rfl, sl_map (be.same s).lst, at_eq (j := i) (by omega) (by rw [List.getElem?_map, hc] <;> rfl), b.1, c.1, b.2, c.2, rfl, bb, (be.same s).at_ hc, says_eq same hb hc, fun g hg => ?_, fun H2 s2 => ⟨_, rfl, iteF ⟨_, rfl, s.trans s2⟩⟩⟩
      have l := ob.len (look_mem bb.nd hg)
      exact ⟨ob.srt _ _ (look_mem bb.nd hg), by omega⟩
    · rintro σ H' ⟨y2, rfl, s⟩
      exact q H' s
end
end K6

set_option Elab.async false
set_option linter.all false
set_option maxRecDepth 100000
set_option maxHeartbeats 4000000
namespace K6
open PySem PySem.Spec PyProof.Rows L2 Cs CsX
abbrev sidesOf (Bs : Bxs) : List Addr := Bs.flatMap fun b => b.2.map (·.2.1)
theorem mem_sides {Bs : Bxs} {b : Addr × List Ent} {g : Ent} (hb : b ∈ Bs) (hg : g ∈ b.2) : g.2.1 ∈ sidesOf Bs := List.mem_flatMap.mpr ⟨b, hb, List.mem_map_of_mem hg⟩
theorem flat_inj {α β : Type} {f : α → List β} : ∀ {l : List α} {i j : Nat} {a b : α} {x : β}, (l.flatMap f).Nodup → l[i]? = some a → l[j]? = some b → x ∈ f a → x ∈ f b → i = j
  | [], _, _, _, _, _, _, h, _, _, _ => by cases h
  | c :: l, i, j, a, b, x, nd, hi, hj, ha, hb => by
    rw [List.flatMap_cons] at nd
    obtain ⟨n1, n2, n3⟩ := List.nodup_append.mp nd
    clear nd
    cases i with
    | zero =>
      obtain rfl := Option.some.inj hi
      cases j with
      | zero => rfl
      | succ j => exact absurd rfl (n3 x ha x (List.mem_flatMap.mpr ⟨b, List.mem_of_getElem? hj, hb⟩))
    | succ i =>
      cases j with
      | zero =>
        obtain rfl := Option.some.inj hj
        exact absurd rfl (n3 x hb x (List.mem_flatMap.mpr ⟨a, List.mem_of_getElem? hi, ha⟩))
      | succ j => exact congrArg (· + 1) (flat_inj (i := i) (j := j) (a := a) (b := b) n2 (by simpa using hi) (by simpa using hj) ha hb)
theorem flat_nd {α β : Type} {f : α → List β} : ∀ {l : List α} {a : α}, (l.flatMap f).Nodup → a ∈ l → (f a).Nodup
  | c :: l, a, nd, h => by
    rw [List.flatMap_cons] at nd
    obtain ⟨n1, n2, n3⟩ := List.nodup_append.mp nd
    rcases List.mem_cons.mp h with z | z
    · rw [z]; exact n1
    · exact flat_nd n2 z
/-- which sides have grown: those of the boxes before the i-th, and of the i-th those of the names ks -/
def tch (i : Nat) (ks : List Str) (k : Nat) (g : Ent) : Bool := decide (k < i) || (decide (k = i) && decide (g.1 ∈ ks))
def grw (b : Bool) (s : List Int) : List Int := if b = true then s ++ [big] else s
def Grown (H' : Hp) (Ts : Bxs) (i : Nat) (ks : List Str) : Prop := ∀ (k : Nat) (b : Addr × List Ent) (g : Ent), Ts[k]? = some b → g ∈ b.2 → H' g.2.1 = some (.lst ((grw (tch i ks k g) g.2.2).map V.int))
@[grind =] theorem g_keepL (as : List Addr) (H H' : Hp) : KeepL as H H' ↔ ∀ b o, b ∉ as → H b = some o → H' b = some o := Iff.rfl
section
variable {P : Program} {w : World} {K : PySem.W.Frag} {mg : Str → Option Value} {base : Heap}
abbrev sAln : Stmt := topS 50
abbrev nAln : List Str := ["_law_told", "_law_expected", "_law_k", "_law_name"]
theorem scAln : FnScope nAln ["_law_told", "_law_expected"] (defScope sAln) := ⟨rfl, rfl, rfl, by decide +kernel, rfl, by decide +kernel, by decide +kernel⟩
def spAln : Sp := fun vs H Q _ => ∃ (t e : Addr) (Ts Es : Bxs) (xs : List Str) (ns : List Int), vs = [.ref t, .ref e] ∧ BL H t Ts ∧ BL H e Es ∧ says Ts = says Es ∧ (∀ f ∈ says Ts, OkC xs ns f) ∧ ns.length ≤ 31 ∧ Ts.length ≤ 900 ∧ (sidesOf Ts).Nodup ∧ t ∉ sidesOf Ts ∧ e ∉ sidesOf Ts ∧ (∀ a ∈ sidesOf Es, a ∉ sidesOf Ts) ∧ ∀ H', KeepL (sidesOf Ts) H H' → Q (.bl true) H'
theorem ok_Aln {f  : Addr} {fd  : FuncData} (F : Fun K "_law_all_new" "_law_all_new" sAln f fd) (B : Bt mg) :
    FnOk P w K mg base CX0 1 f fd ["_law_told", "_law_expected"] spAln := by
  refine F.ok scAln (fun vs H Q E h => ?_) (fun cdv A outer s H vs Q E hr h => ?_)
  · obtain ⟨t, e, Ts, Es, xs, ns, rfl, _⟩ := h
    rfl
  · obtain ⟨t, e, Ts, Es, xs, ns, rfl, bt, be, same, okc, n31, few, apart, nt, ne, away, q⟩ := h
    have hu := hu_of hr
    have nd := scAln.nd
    refine ⟨_, pss_cons (ps_for PassesOwn.never rfl (pi_range1 (by rfl) B.range (pa_cons (pe_callB call_len_seq (by rfl) B.len PySem.boot_len (pa_cons (pv 1) pa_nil)) pa_nil)) (pg_name (i := 2) nd rfl (.inl rfl))
        (pss_one (ps_lock (ps_for PassesOwn.never rfl (pi_keys (pe_ix ix_list (pv 1) (pv 2) (fun _ _ => rfl))) (pg_name (i := 3) nd rfl (.inl rfl))
            (pss_one (ps_expr (pe_bm PySem.F.plainAttrs_list PySem.F.slot_list_append PySem.F.type_list_append mt_append (pe_dget hu (pe_ix ix_list (pv 0) (pv 2) (fun _ _ => rfl)) (pv 3) (fun _ _ => rfl)) (pa_cons (pe_op op_pow pe_int pe_int) pa_nil))))))))
      (pss_cons (ps_for PassesOwn.never rfl (pi_range1 (by rfl) B.range (pa_cons (pe_callB call_len_seq (by rfl) B.len PySem.boot_len (pa_cons (pv 1) pa_nil)) pa_nil)) (pg_name (i := 2) nd rfl (.inl rfl))
        (pss_one (ps_lock (ps_for PassesOwn.never rfl (pi_keys (pe_ix ix_list (pv 1) (pv 2) (fun _ _ => rfl))) (pg_name (i := 3) nd rfl (.inl rfl))
            (pss_one (ps_if (pt_cmpR (op_neD hr.units) (pe_dget hu (pe_ix ix_list (pv 0) (pv 2) (fun _ _ => rfl)) (pv 3) (fun _ _ => rfl)) (pe_op op_cat (pe_dget hu (pe_ix ix_list (pv 1) (pv 2) (fun _ _ => rfl)) (pv 3) (fun _ _ => rfl)) (pe_lst (pa_cons (pe_op op_pow pe_int pe_int) pa_nil))) rfl)
                (pss_one (ps_ret pe_bl))
                pss_nil))))))
      (pss_one (ps_ret pe_bl))), ?_⟩
    have len : Ts.length = Es.length := by have := says_len same; rwa [List.length_map] at this
    have dct : ∀ {c : Addr} {kvs : List (Key × V)}, H c = some (.dK kvs) → c ∉ sidesOf Ts := fun {c kvs} h z => by
      obtain ⟨b, hb, hc⟩ := List.mem_flatMap.mp z
      obtain ⟨g, hg, rfl⟩ := List.mem_map.mp hc
      rw [(bt.box b hb).sides g hg] at h
      cases h
    have get : ∀ {i : Nat} {c : Addr × List Ent} {x : Ent}, Es[i]? = some c → x ∈ c.2 → ∃ b g, Ts[i]? = some b ∧ g ∈ b.2 ∧ g.1 = x.1 ∧ g.2.2 = x.2.2 ∧ getE b.2 x.1 = some g := fun {i c x} hc hx => by
      have hi := (List.getElem?_eq_some_iff.mp hc).1
      obtain ⟨b, hb⟩ : ∃ b, Ts[i]? = some b := ⟨_, List.getElem?_eq_getElem (by omega)⟩
      obtain ⟨g, gm, g1, g2, g3⟩ := (says_eq same hb hc).get (be.at_ hc).nd hx
      exact ⟨b, g, hb, gm, g1, g2, g3⟩
    refine ⟨_, rfl, e, _, rfl, .inl (sl_map be.lst), _, rfl, ?_, ?_, for_range (lo := 0) (fun i σ H' => ∃ (y2 y3 : Option V), σ = [some (.ref t), some (.ref e), y2, y3] ∧ KeepL (sidesOf Ts) H H' ∧ Grown H' Ts i []) ⟨none, none, rfl, KeepL.refl _ _, fun k b g hb hg => by rw [show tch 0 [] k g = false by simp [tch]]; exact (bt.at_ hb).sides g hg⟩ ?_ ?_⟩
    · rw [List.length_map]; omega
    · rw [List.length_map]; omega
    · rintro i σ H1 hi ⟨y2, y3, rfl, kl, gr⟩
      rw [List.length_map] at hi
      obtain ⟨c, hc⟩ : ∃ c, Es[i]? = some c := ⟨_, List.getElem?_eq_getElem (by omega)⟩
      have uc := (be.at_ hc).un
      have nc := dct uc
      have uc1 := kl _ _ nc uc
      refine ⟨c.1, _, uc1, trivial, fun od => ?_⟩
      have klf : KeepL (sidesOf Ts) H (upd (upd H1 c.1 (.frz od (.dK (entK c.2)))) c.1 (.dK (entK c.2))) := by rw [upd_back uc1]; exact kl
      refine ⟨_, rfl, _, rfl, e, Es.map (fun b => V.ref b.1), _, .ref c.1, rfl, rfl, sl_map (by have h1 := be.lst; have h2 := kl _ _ ne h1; exact (by grind only [= g_upd, = g_same, = g_keep, = g_oth, = g_strm, = g_keepL, g_new, = List.map_nil, → Bu.same', → Bu.un, → BL.same, → StL.same])), at_eq (j := i) (by omega) (by rw [List.getElem?_map, hc] <;> rfl), c.1, od, rfl, .inl ⟨entK c.2, upd_same, for_it walk_keys (fun j σ H' => ∃ (y3 : Option V), σ = [some (.ref t), some (.ref e), some (.int (0 + (i : Int))), y3] ∧ KeepL (sidesOf Ts) (upd H1 c.1 (.frz od (.dK (entK c.2)))) H' ∧ Grown H' Ts i ((c.2.take j).map (·.1)))
        ⟨y3, rfl, KeepL.refl _ _, fun k b g hb hg => ?_⟩ (fun j σ H' _ h => by obtain ⟨_, _, h, _⟩ := h; exact h _ _ nc upd_same) ?_ ?_⟩⟩
      · have h1 := gr k b g hb hg
        have h2 : g.2.1 ≠ c.1 := fun z => nc (z ▸ mem_sides (List.mem_of_getElem? hb) hg)
        rw [upd_ne h2]
        exact h1
      · rintro j x σ Hz H' hj ⟨y3, rfl, kk, gs⟩ ⟨rfl, k1, v1, hk, rfl⟩
        obtain ⟨x, hx, rfl, rfl⟩ := keys_at hk
        have xm := List.mem_of_getElem? hx
        obtain ⟨b, g, hb, gm, g1, g2, g3⟩ := get hc xm
        have bm := List.mem_of_getElem? hb
        have ub := (bt.at_ hb).un
        have nb := dct ub
        have gS := mem_sides bm gm
        have xnew : x.1 ∉ (c.2.take j).map (·.1) := take_keys (be.at_ hc).nd hx
        have eg := gs i b g hb gm
        rw [show tch i ((c.2.take j).map (·.1)) i g = false by unfold tch; rw [g1, decide_eq_false xnew]; simp] at eg
        have ll : g.2.2.length ≤ ns.length := (okc _ (List.mem_map_of_mem bm)).len (look_mem (bt.at_ hb).nd gm)
        have etl : H' t = some (.lst (Ts.map fun b => V.ref b.1)) := by
          have h1 := bt.lst
          have h2 := kl _ _ nt h1
          exact (by grind only [= g_upd, = g_same, = g_keep, = g_oth, = g_strm, = g_keepL, g_new, = List.map_nil, → Bu.same', → Bu.un, → BL.same, → StL.same])
        have gv : DGet H' b.1 (.str x.1) (some (.ref g.2.1)) := by
          refine .inl ⟨entK b.2, .inr x.1, ?_, rfl, by rw [valV_ent, g3] <;> rfl⟩
          have h2 := kl _ _ nb ub
          by_cases w : b.1 = c.1
          · rw [w] at h2
            have h3 := uc1.symm.trans h2
            injection h3 with h3
            injection h3 with h3
            exact .inr ⟨od, by rw [w, ← h3]; exact kk _ _ nc upd_same⟩
          · exact .inl (kk _ _ nb (by rw [upd_ne w]; exact h2))
        refine ⟨_, rfl, _, rfl, t, _, _, .ref b.1, rfl, rfl, sl_map etl, at_eq (j := i) (by omega) (by rw [List.getElem?_map, hb] <;> rfl), _, rfl, b.1, .ref g.2.1, rfl, gv, .inl ⟨rfl, _, sl_map eg⟩, 10, 13, rfl, rfl, ⟨by decide, by decide, by decide⟩, g.2.1, _, _, rfl, rfl, eg, by rw [List.length_map]; exact small1000 (by unfold grw; rw [if_neg (by decide)]; omega), _, rfl, fun a o ha e1 => ?_, fun k b' a hb' am => ?_⟩
        · have : a ≠ g.2.1 := fun z => ha (z ▸ gS)
          rw [upd_ne this]
          exact kk a o ha e1
        · have ks : (c.2.take (j + 1)).map (·.1) = (c.2.take j).map (·.1) ++ [x.1] := by rw [List.take_add_one, hx, List.map_append] <;> rfl
          rw [ks]
          by_cases z : a.2.1 = g.2.1
          · have ki : k = i := flat_inj apart hb' hb (List.mem_map_of_mem am) (by rw [z]; exact List.mem_map_of_mem gm)
            subst ki
            obtain rfl := Option.some.inj (hb.symm.trans hb')
            have ag : a = g := inj_eq (L := b.2) (flat_nd (f := fun b : Addr × List Ent => b.2.map (·.2.1)) apart bm) am gm z
            subst ag
            rw [upd_same]
            unfold grw
            rw [if_neg (by decide), if_pos (by unfold tch; rw [g1]; simp), List.map_append] <;> rfl
          · rw [upd_ne z, gs k b' a hb' am]
            have : tch i ((c.2.take j).map (·.1) ++ [x.1]) k a = tch i ((c.2.take j).map (·.1)) k a := by
              unfold tch
              by_cases ki : k = i
              · subst ki
                obtain rfl := Option.some.inj (hb.symm.trans hb')
                have : a.1 ≠ x.1 := fun w => z (by rw [key_eq (bt.at_ hb).nd am gm (w.trans g1.symm)])
                simp [this]
              · simp [ki]
            rw [this]
      · rintro σ H' ⟨y3, rfl, kk, gs⟩
        rw [entK_len, List.take_length] at gs
        have eF := kk _ _ nc upd_same
        refine ⟨eF, _, _, rfl, fun a o ha e1 => ?_, fun k b g hb hg => ?_⟩
        · by_cases z : a = c.1
          · rw [z, upd_same]
            rw [z, uc] at e1
            exact e1
          · rw [upd_ne z]
            exact kk a o ha (by rw [upd_ne z]; exact kl a o ha e1)
        · have h2 : g.2.1 ≠ c.1 := fun z => nc (z ▸ mem_sides (List.mem_of_getElem? hb) hg)
          rw [upd_ne h2, gs k b g hb hg]
          have : tch i (c.2.map (·.1)) k g = tch (i + 1) [] k g := by
            unfold tch
            by_cases ki : k = i
            · subst ki
              have m1 : g.1 ∈ c.2.map (·.1) := by
                have h3 := says_eq same hb hc g.1
                rw [look_mem (bt.at_ hb).nd hg] at h3
                exact look_isSome.mp (by rw [← h3] <;> rfl)
              simp [m1]
            · have : k < i + 1 ↔ k < i := by omega
              simp [ki, this]
          rw [this]
    · rintro σ H1 ⟨y2, y3, rfl, kl, gr⟩
      rw [List.length_map] at gr
      refine ⟨_, rfl, e, _, rfl, .inl (sl_map (kl _ _ ne be.lst)), _, rfl, ?_, ?_, for_range (lo := 0) (fun i σ H' => ∃ (y2 y3 : Option V), σ = [some (.ref t), some (.ref e), y2, y3] ∧ Same H1 H') ⟨_, _, rfl, Same.refl _⟩ ?_ ?_⟩
      · rw [List.length_map]; omega
      · rw [List.length_map]; omega
      · rintro i σ H2 hi ⟨y2, y3, rfl, s2⟩
        rw [List.length_map] at hi
        obtain ⟨c, hc⟩ : ∃ c, Es[i]? = some c := ⟨_, List.getElem?_eq_getElem (by omega)⟩
        have cm := List.mem_of_getElem? hc
        have uc := (be.at_ hc).un
        have nc := dct uc
        have uc2 := s2 _ _ (kl _ _ nc uc)
        have el1 := kl _ _ ne be.lst
        have tl1 := kl _ _ nt bt.lst
        refine ⟨c.1, _, uc2, trivial, fun od => ?_⟩
        refine ⟨_, rfl, _, rfl, e, Es.map (fun b => V.ref b.1), _, .ref c.1, rfl, rfl, sl_map (by have h2 := s2 _ _ el1; exact (by grind only [= g_upd, = g_same, = g_keep, = g_oth, = g_strm, = g_keepL, g_new, = List.map_nil, → Bu.same', → Bu.un, → BL.same, → StL.same])), at_eq (j := i) (by omega) (by rw [List.getElem?_map, hc] <;> rfl), c.1, od, rfl, .inl ⟨entK c.2, upd_same, for_it walk_keys (fun j σ H' => ∃ (y3 : Option V), σ = [some (.ref t), some (.ref e), some (.int (0 + (i : Int))), y3] ∧ Same (upd H2 c.1 (.frz od (.dK (entK c.2)))) H')
          ⟨_, rfl, Same.refl _⟩ (fun j σ H' _ h => by obtain ⟨_, _, h⟩ := h; exact h _ _ upd_same) ?_ ?_⟩⟩
        · rintro j x σ Hz H' hj ⟨y3, rfl, sm⟩ ⟨rfl, k1, v1, hk, rfl⟩
          obtain ⟨x, hx, rfl, rfl⟩ := keys_at hk
          have xm := List.mem_of_getElem? hx
          obtain ⟨b, g, hb, gm, g1, g2, g3⟩ := get hc xm
          have bm := List.mem_of_getElem? hb
          have ub := (bt.at_ hb).un
          have ub2 := s2 _ _ (kl _ _ (dct ub) ub)
          have eg := gr i b g hb gm
          have il : i < Es.length := by omega
          rw [show tch ((Es.length : Int)).toNat [] i g = true by unfold tch; simp [il], grw, if_pos rfl, g2] at eg
          have ex := kl _ _ (away _ (mem_sides cm xm)) ((be.at_ hc).sides x xm)
          have h3 := s2 _ _ eg
          have h4 := s2 _ _ ex
          have h5 := s2 _ _ tl1
          have gv : DGet H' b.1 (.str x.1) (some (.ref g.2.1)) := by
            refine .inl ⟨entK b.2, .inr x.1, ?_, rfl, by rw [valV_ent, g3] <;> rfl⟩
            by_cases w : b.1 = c.1
            · rw [w] at ub2
              have h3 := uc2.symm.trans ub2
              injection h3 with h3
              injection h3 with h3
              exact .inr ⟨od, by rw [w, ← h3]; exact sm _ _ upd_same⟩
            · exact .inl (sm _ _ (by rw [upd_ne w]; exact ub2))
          have ve : DGet H' c.1 (.str x.1) (some (.ref x.2.1)) := .inl ⟨entK c.2, .inr x.1, .inr ⟨od, sm _ _ upd_same⟩, rfl, by rw [valV_ent, getE_of (be.at_ hc).nd xm] <;> rfl⟩
          have ll : g.2.2.length ≤ ns.length := (okc _ (List.mem_map_of_mem bm)).len (look_mem (bt.at_ hb).nd gm)
          have eg' : H' g.2.1 = some (.lst ((x.2.2 ++ [big]).map V.int)) := (by grind only [= g_upd, = g_same, = g_keep, = g_oth, = g_strm, = g_keepL, g_new, = List.map_nil, → Bu.same', → Bu.un, → BL.same, → StL.same])
          have ex' : H' x.2.1 = some (.lst (x.2.2.map V.int)) := (by grind only [= g_upd, = g_same, = g_keep, = g_oth, = g_strm, = g_keepL, g_new, = List.map_nil, → Bu.same', → Bu.un, → BL.same, → StL.same])
          have el' : H' e = some (.lst (Es.map fun b => V.ref b.1)) := by have h6 := s2 _ _ el1; exact (by grind only [= g_upd, = g_same, = g_keep, = g_oth, = g_strm, = g_keepL, g_new, = List.map_nil, → Bu.same', → Bu.un, → BL.same, → StL.same])
          refine ⟨_, rfl, _, rfl, t, Ts.map (fun b => V.ref b.1), _, .ref b.1, rfl, rfl, sl_map (by grind only [= g_upd, = g_same, = g_keep, = g_oth, = g_strm, = g_keepL, g_new, = List.map_nil, → Bu.same', → Bu.un, → BL.same, → StL.same]), at_eq (j := i) (by omega) (by rw [List.getElem?_map, hb] <;> rfl), _, rfl, b.1, .ref g.2.1, rfl, gv, _, rfl, _, rfl, e, _, _, .ref c.1, rfl, rfl, sl_map el', at_eq (j := i) (by omega) (by rw [List.getElem?_map, hc] <;> rfl), _, rfl, c.1, .ref x.2.1, rfl, ve, 10, 13, rfl, rfl, ⟨by decide, by decide, by decide⟩, by show 1 ≤ sizeLine; decide, fun p np => ?_⟩
          have s1 := same_new (o := HO.lst [V.int big]) np
          refine ⟨x.2.1, p, _, _, rfl, rfl, s1 _ _ ex', upd_same, ?_, fun r nr => ?_⟩
          · rw [List.length_map, ← g2]
            exact Nat.le_of_lt (small1000 (by show g.2.2.length + 1 ≤ 1000; omega))
          · have s2 := s1.trans (same_new (o := HO.lst (x.2.2.map V.int ++ [V.int big])) nr)
            refine ⟨dI (x.2.2 ++ [big]), dI (x.2.2 ++ [big]), dpI (sl_map (s2 _ _ eg')), dpI (sl_map (by rw [upd_same, List.map_append] <;> rfl)), shI _, shI _, ?_⟩
            rw [eqI]
            exact ⟨_, rfl, iteF ⟨_, rfl, sm.trans s2⟩⟩
        · rintro σ H' ⟨y3, rfl, sm⟩
          exact ⟨sm _ _ upd_same, _, _, rfl, s2.trans (unlock uc2 sm)⟩
      · rintro σ H' ⟨y2, y3, rfl, s2⟩
        exact q H' (kl.same s2)
end
end K6

set_option Elab.async false
set_option linter.all false
set_option maxRecDepth 100000
set_option maxHeartbeats 4000000
namespace K6
open PySem PySem.Spec PyProof.Rows L2 Cs CsX
theorem NL.sides {H0 H : Hp} {l : Addr} {Bs : Bxs} (n : NL H0 H l Bs) : (∀ a ∈ sidesOf Bs, H0 a = none) ∧ l ∉ sidesOf Bs := by
  refine ⟨fun a ha => ?_, fun ha => ?_⟩ <;> obtain ⟨b, hb, hc⟩ := List.mem_flatMap.mp ha <;> obtain ⟨g, hg, eg⟩ := List.mem_map.mp hc
  · rw [← eg]; exact (n.new b hb).freshS g hg
  · exact n.away b hb g hg eg
theorem BL.sides {H : Hp} {l : Addr} {Bs : Bxs} (n : BL H l Bs) : ∀ a ∈ sidesOf Bs, H a ≠ none := fun a ha => by
  obtain ⟨b, hb, hc⟩ := List.mem_flatMap.mp ha
  obtain ⟨g, hg, rfl⟩ := List.mem_map.mp hc
  rw [(n.box b hb).sides g hg]
  exact fun z => nomatch z
theorem paired_same {K : PySem.W.Frag} {H : Hp} {n : Nat} : ∀ as : List Addr, Paired (EqV K H (n + 1)) (as.map V.ref) (as.map V.ref)
  | [] => .nil
  | a :: as => .cons (.inr (.inl ⟨a, rfl, rfl⟩)) (paired_same as)
theorem paired_boxes {K : PySem.W.Frag} {H : Hp} : ∀ {Ps Bs : Bxs}, says Ps = says Bs → (∀ b ∈ Ps, Bu H b.1 b.2) → (∀ b ∈ Bs, Bu H b.1 b.2) → Paired (EqV K H 3) (Ps.map fun b => V.ref b.1) (Bs.map fun b => V.ref b.1)
  | [], [], _, _, _ => .nil
  | [], b :: Bs, h, _, _ => by cases h
  | b :: Ps, [], h, _, _ => by cases h
  | b :: Ps, c :: Bs, h, h1, h2 => by
    injection h with e1 e2
    exact .cons (.inr (.inr (eqB (h1 b List.mem_cons_self) (h2 c List.mem_cons_self) fun x => congrFun e1 x))) (paired_boxes e2 (fun b hb => h1 b (List.mem_cons_of_mem _ hb)) fun b hb => h2 b (List.mem_cons_of_mem _ hb))
section
variable {P : Program} {w : World} {K : PySem.W.Frag} {mg : Str → Option Value} {base : Heap}
abbrev sCar : Stmt := topS 51
abbrev nCar : List Str := ["_law_boxes", "_law_steps", "_law_passed", "_law_given", "_law_expected", "_law_turn", "_law_told", "_law_sides"]
theorem scCar : FnScope nCar ["_law_boxes", "_law_steps"] (defScope sCar) := ⟨rfl, rfl, rfl, by decide +kernel, rfl, by decide +kernel, by decide +kernel⟩
def spCar : Sp := fun vs H Q _ => ∃ (a s : Addr) (Bs : Bxs) (ts : List (Addr × Stp)) (xs : List Str) (ns : List Int), vs = [.ref a, .ref s] ∧ BL H a Bs ∧ StL H s ts ∧ (∀ f ∈ says Bs, OkC xs ns f) ∧ xs.length ≤ 8 ∧ ns.length ≤ 31 ∧ GoodS xs Bs.length (ts.map (·.2)) ∧ Bs.length + ts.length ≤ 900 ∧ ∀ H', Same H H' → Q (.bl true) H'
theorem ok_Car {f f0 f1 f2 f3 f4 : Addr} {fd fd0 fd1 fd2 fd3 fd4 : FuncData} (F : Fun K "_law_carried_out" "_law_carried_out" sCar f fd) (B : Bt mg) (CLjd : Call P w K mg base 2 "_law_joined" f0 fd0 ["_law_boxes", "_law_steps"] spRun) (Ccp : Call P w K mg base 1 "_law_copied" f1 fd1 ["_law_sides"] spCopy) (CRun : Call P w K mg base 4 "run_plan" f2 fd2 ["boxes", "steps"] spRun) (CSbx : Call P w K mg base 4 "_law_same_boxes" f3 fd3 ["_law_told", "_law_expected"] spSbx) (CAln : Call P w K mg base 1 "_law_all_new" f4 fd4 ["_law_told", "_law_expected"] spAln) :
    FnOk P w K mg base CX0 5 f fd ["_law_boxes", "_law_steps"] spCar := by
  refine F.ok scCar (fun vs H Q E h => ?_) (fun cdv A outer s H vs Q E hr h => ?_)
  · obtain ⟨a, s, Bs, ts, xs, ns, rfl, _⟩ := h
    rfl
  · obtain ⟨a, sa, Bs, ts, xs, ns, rfl, bl, sl, okc, x8, n31, good, few, q⟩ := h
    have nd := scCar.nd
    refine ⟨_, pss_cons (ps_setLc (i := 2) (own := [("_law_sides", 7)]) (g := gName 7) (tt := tYes)  rfl nd rfl rfl (by rfl) (pi_list (pv 0)) (blkOk_by (N := nCar) (sc := defScope sCar) (by decide +kernel)) (fun _ _ _ _ _ => pg_name (i := 7) nd rfl (.inl rfl)) (fun _ _ _ _ _ => pts_nil)
          (fun _ _ _ _ _ => (pe_call Ccp.ok (hr.mono (by decide)) (by rfl) Ccp.at_ Ccp.kp Ccp.bd .nil pass0 (pa_cons (pv 7) pa_nil))))
      (pss_cons (ps_set (i := 3) nd rfl (.inl rfl) (pe_callTy call_list_of (by rfl) B.list PyProof.Rows.boot_list (pa_cons (pv 1) pa_nil)))
      (pss_cons (ps_set (i := 4) nd rfl (.inl rfl) (pe_call CLjd.ok (hr.mono (by decide)) (by rfl) CLjd.at_ CLjd.kp CLjd.bd .nil pass0 (pa_cons (pv 0) (pa_cons (pv 1) pa_nil))))
      (pss_cons (ps_for PassesOwn.never rfl (pi_range1 (by rfl) B.range (pa_cons pe_int pa_nil)) (pg_name (i := 5) nd rfl (.inl rfl))
        (pss_cons (ps_set (i := 6) nd rfl (.inl rfl) (pe_call CRun.ok (hr.mono (by decide)) (by rfl) CRun.at_ CRun.kp CRun.bd .nil pass0 (pa_cons (pv 2) (pa_cons (pv 3) pa_nil))))
          (pss_cons (ps_if (PW.pt (pw_or (pt_not (pt_val (pe_call CSbx.ok (hr.mono (by decide)) (by rfl) CSbx.at_ CSbx.kp CSbx.bd .nil pass0 (pa_cons (pv 6) (pa_cons (pv 4) pa_nil))))) (pw_or1 (pt_not (pt_val (pe_call CAln.ok (hr.mono (by decide)) (by rfl) CAln.at_ CAln.kp CAln.bd .nil pass0 (pa_cons (pv 6) (pa_cons (pv 4) pa_nil))))))))
            (pss_one (ps_ret pe_bl))
            pss_nil)
          (pss_one (ps_if (PW.pt (pw_or (pt_cmpR (op_neV hr.units) (pv 2) (pv 0) rfl) (pw_or1 (pt_cmpR (op_neV hr.units) (pv 3) (pv 1) rfl))))
            (pss_one (ps_ret pe_bl))
            pss_nil)))))
      (pss_one (ps_ret pe_bl))))), ?_⟩
    refine ⟨.ref a, rfl, a, rfl, ⟨_, sl_map bl.lst⟩, fun R nR => ?_⟩
    refine lc_list (xs := Bs.map fun b => V.ref b.1) (fun i H' => ∃ Ks : Bxs, Same H H' ∧ NL H H' R Ks ∧ says Ks = (says Bs).take i) ⟨[], same_new nR, NL.nil nR upd_same, rfl⟩ (fun i H' _ h => sl_map (by obtain ⟨Ks, s, _⟩ := h; exact (bl.same s).lst)) ?_ ?_
    · rintro i x H' hx ⟨Ks, s, nl, sk⟩
      rw [List.getElem?_map] at hx
      obtain ⟨b, hb, rfl⟩ := Option.map_eq_some_iff.mp hx
      have hi := (List.getElem?_eq_some_iff.mp hb).1
      refine ⟨rfl, .ref b.1, rfl, b.1, b.2, rfl, (bl.same s).at_ hb, fun H2 d M s2 nb sh => ?_⟩
      have lk := says_len sk
      rw [List.length_take, List.length_map] at lk
      refine ⟨_, s2 _ _ nl.lst, by rw [List.length_map]; exact small1000 (by omega), Ks ++ [(d, M)], same_at (s.trans s2) nR, nl.snoc (fun a h => s.free h) s2 nb, ?_⟩
      rw [says_snoc, sk, List.take_add_one, List.getElem?_map, hb]
      show _ ++ [look M] = _ ++ [look b.2]
      rw [show look M = look b.2 from funext (look_shape sh)]
    · rintro H1 ⟨Ps, s1, np, sp⟩
      rw [List.length_map, ← List.length_map (f := fun b : Addr × List Ent => look b.2), List.take_length] at sp
      have sp' : says Ps = says Bs := sp
      have lP : Ps.length = Bs.length := by have := says_len sp'; rwa [List.length_map] at this
      refine ⟨.ref sa, rfl, sa, _, rfl, .inl (sl_map (sl.same s1).lst), fun g ng => ?_⟩
      have s2 := s1.trans (same_new (o := HO.lst (ts.map fun t => V.ref t.1)) ng)
      have pl2 := np.bl.same (same_new (o := HO.lst (ts.map fun t => V.ref t.1)) ng)
      have gl2 : StL (upd H1 g (.lst (ts.map fun t => V.ref t.1))) g ts := ⟨upd_same, (sl.same s2).tup⟩
      generalize upd H1 g (.lst (ts.map fun t => V.ref t.1)) = H2 at s2 pl2 gl2
      refine ⟨.ref a, rfl, .ref sa, rfl, a, sa, Bs, ts, xs, ns, rfl, bl.same s2, sl.same s2, okc, x8, n31, good, few, fun H3 e Es s3 ne se => ?_⟩
      have S3 := s2.trans s3
      have lE : Es.length = Bs.length + ts.length := by
        have := says_len se
        rw [planC_len, List.length_map, List.length_map] at this
        exact this
      have okE : ∀ f ∈ says Es, OkC xs ns f := fun f hf => by
        rw [se] at hf
        have := planC_ok okc (by rw [List.length_map]; exact good) ts.length (by rw [List.length_map]; exact Nat.le_refl _)
        rw [← List.length_map (f := fun t : Addr × Stp => t.2), List.take_length] at this
        exact this f hf
      refine ⟨2, rfl, by decide, by decide, for_range (lo := 0) (n := 2) (fun i σ H' => ∃ (y5 y6 : Option V), σ = [some (.ref a), some (.ref sa), some (.ref R), some (.ref g), some (.ref e), y5, y6, none] ∧ Same H3 H') ⟨none, none, rfl, Same.refl _⟩ ?_ ?_⟩
      · rintro i σ H4 hi ⟨y5, y6, rfl, s4⟩
        have pl4 := (pl2.same s3).same s4
        refine ⟨.ref R, rfl, .ref g, rfl, R, g, Ps, ts, xs, ns, rfl, pl4, (gl2.same s3).same s4, by rw [sp']; exact okc, x8, n31, by rw [lP]; exact good, by omega, fun H5 t Ts s5 nt st => ?_⟩
        rw [sp', ← se] at st
        have el5 := (ne.bl.same s4).same s5
        have lT : Ts.length = Es.length := by have := says_len st; rwa [List.length_map] at this
        refine ⟨.ref t, rfl, .ref e, rfl, t, e, Ts, Es, xs, ns, rfl, nt.bl, el5, st, by rw [st]; exact okE, n31, by omega, fun H6 s6 => ⟨true, rfl, iteF ?_⟩⟩
        have fr := nt.sides.1
        have e4 : H4 e ≠ none := by rw [s4 _ _ ne.lst]; exact fun z => nomatch z
        refine ⟨.ref t, rfl, .ref e, rfl, t, e, Ts, Es, xs, ns, rfl, nt.bl.same s6, el5.same s6, st, by rw [st]; exact okE, n31, by omega, nt.apart, nt.sides.2, fun z => e4 (fr _ z), fun a ha z => (ne.bl.same s4).sides a ha (fr _ z), fun H7 k7 => ⟨true, rfl, iteF ?_⟩⟩
        have s7 := s4.trans (keepL_same (s5.trans s6) k7 fr)
        have S7 := S3.trans s7
        have b7 := bl.same S7
        have p7 := (pl2.same s3).same s7
        refine ⟨.ref R, rfl, .ref a, rfl, R, a, _, _, rfl, rfl, sl_map p7.lst, sl_map b7.lst, ⟨3, by decide, paired_boxes sp' p7.box b7.box⟩, false, rfl, iteF ?_⟩
        refine ⟨.ref g, rfl, .ref sa, rfl, g, sa, (ts.map (·.1)).map V.ref, (ts.map (·.1)).map V.ref, rfl, rfl, sl_map ?_, sl_map ?_, ⟨1, by decide, paired_same _⟩, false, rfl, iteF ⟨_, _, rfl, s7⟩⟩
        · rw [List.map_map]; exact s7 _ _ (s3 _ _ gl2.lst)
        · rw [List.map_map]; exact (sl.same S7).lst
      · rintro σ H' ⟨y5, y6, rfl, s4⟩
        exact q _ (S3.trans s4)
end
end K6

set_option Elab.async false
set_option linter.all false
set_option maxRecDepth 100000
set_option maxHeartbeats 4000000
namespace K6
open PySem PySem.Spec PyProof.Rows L2 Cs CsX
section
variable {P : Program} {w : World} {K : PySem.W.Frag} {mg : Str → Option Value} {base : Heap}
abbrev othersP : List Str := ["UnknownName", "RepeatedName", "UnknownValue", "RepeatedValue", "UnknownKey", "RepeatedKey", "EmptyRule", "BadRow", "BadBounds", "BadNumber", "NoMark", "NotStruck", "BadOrder", "NotBare", "NoClash", "HoldsAnswer", "BadLine", "UnknownLine", "BadText", "NothingToUndo", "NothingToRedo", "UnknownStep", "BadDeed"]
abbrev sToldP : Stmt := topS 52
abbrev nToldP : List Str := ["_law_boxes", "_law_steps", "e", "_law_other"]
theorem scToldP : FnScope nToldP ["_law_boxes", "_law_steps"] (defScope sToldP) := ⟨rfl, rfl, rfl, by decide +kernel, rfl, by decide +kernel, by decide +kernel⟩
def spToldP : Sp := fun vs H Q _ => ∃ (a sa : Addr) (Bs : Bxs) (ts : List (Addr × Stp)) (xs : List Str) (ns : List Int) (i0 : Nat) (t0 : Addr × Stp), vs = [.ref a, .ref sa] ∧ BL H a Bs ∧ StL H sa ts ∧ (∀ f ∈ says Bs, OkC xs ns f) ∧ xs.length ≤ 8 ∧ ns.length ≤ 31 ∧ GoodS xs Bs.length ((ts.take i0).map (·.2)) ∧ ts[i0]? = some t0 ∧ badAt Bs.length i0 t0.2 ∧ Bs.length + ts.length ≤ 900 ∧ ∀ H', Same H H' → Q (.int (i0 : Nat)) H'
theorem ok_toldP {f fl C fI cd : Addr} {fd fdl : FuncData} {cs : List Addr} (F : Fun K "_law_told_position" "_law_told_position" sToldP f fd) (B : Bt mg) (U : Own K mg "BadStep" C fI ["position"]) (E : Errs othersP K mg C cd cs)
    (Fi : CallX P w K mg base 4 "run_plan" fl fdl ["boxes", "steps"] (spRunX C)) : FnOk P w K mg base CX0 5 f fd ["_law_boxes", "_law_steps"] spToldP := by
  refine F.ok scToldP (fun vs H Q E h => ?_) (fun cdv A outer s H vs Q E1 hr h => ?_)
  · obtain ⟨a, sa, Bs, ts, xs, ns, i0, t0, rfl, _⟩ := h
    rfl
  · obtain ⟨a, sa, Bs, ts, xs, ns, i0, t0, rfl, bl, sl, okc, x8, n31, good, h0, bad, few, q⟩ := h
    have nd := scToldP.nd
    obtain ⟨c0, c1, c2, c3, c4, c5, c6, c7, c8, c9, c10, c11, c12, c13, c14, c15, c16, c17, c18, c19, c20, c21, c22, rfl⟩ := E.len
    refine ⟨_, pss_cons (ps_try_as (i := 2) (c := .ref C) (Wout := fun _ _ _ _ => False)
        (tb := fun W => tDrop (tCallS (spRunX C) (WE W) (tCons (tVar 0) (tCons (tVar 1) tNil))))
        rfl rfl nd rfl rfl ⟨rfl, by decide, Or.inl U.gC⟩ takes0
        (fun W pn xe tk _ => pss_one (ps_expr (pe_callS Fi.ok hr (by rfl) Fi.at_ Fi.kp Fi.bd (fun σ => passAt tk σ) (pa_cons (pv 0) (pa_cons (pv 1) pa_nil)))))
        (fun a oe cls d pn hz hf => pss_cons (ps_set (i := 3) nd rfl (.inl rfl) (pe_callB (r := rIsED K a cls d) (call_isED hz hf) (by rfl) B.isi PyProof.Rows.boot_isinstance (pa_cons (pv 2) (pa_cons (pe_tup (pa_cons (pe_glob (by rfl) (E.at_ 0 _ rfl) (v := .ref c0) rfl) (pa_cons (pe_glob (by rfl) (E.at_ 1 _ rfl) (v := .ref c1) rfl) (pa_cons (pe_glob (by rfl) (E.at_ 2 _ rfl) (v := .ref c2) rfl) (pa_cons (pe_glob (by rfl) (E.at_ 3 _ rfl) (v := .ref c3) rfl) (pa_cons (pe_glob (by rfl) (E.at_ 4 _ rfl) (v := .ref c4) rfl) (pa_cons (pe_glob (by rfl) (E.at_ 5 _ rfl) (v := .ref c5) rfl) (pa_cons (pe_glob (by rfl) (E.at_ 6 _ rfl) (v := .ref c6) rfl) (pa_cons (pe_glob (by rfl) (E.at_ 7 _ rfl) (v := .ref c7) rfl) (pa_cons (pe_glob (by rfl) (E.at_ 8 _ rfl) (v := .ref c8) rfl) (pa_cons (pe_glob (by rfl) (E.at_ 9 _ rfl) (v := .ref c9) rfl) (pa_cons (pe_glob (by rfl) (E.at_ 10 _ rfl) (v := .ref c10) rfl) (pa_cons (pe_glob (by rfl) (E.at_ 11 _ rfl) (v := .ref c11) rfl) (pa_cons (pe_glob (by rfl) (E.at_ 12 _ rfl) (v := .ref c12) rfl) (pa_cons (pe_glob (by rfl) (E.at_ 13 _ rfl) (v := .ref c13) rfl) (pa_cons (pe_glob (by rfl) (E.at_ 14 _ rfl) (v := .ref c14) rfl) (pa_cons (pe_glob (by rfl) (E.at_ 15 _ rfl) (v := .ref c15) rfl) (pa_cons (pe_glob (by rfl) (E.at_ 16 _ rfl) (v := .ref c16) rfl) (pa_cons (pe_glob (by rfl) (E.at_ 17 _ rfl) (v := .ref c17) rfl) (pa_cons (pe_glob (by rfl) (E.at_ 18 _ rfl) (v := .ref c18) rfl) (pa_cons (pe_glob (by rfl) (E.at_ 19 _ rfl) (v := .ref c19) rfl) (pa_cons (pe_glob (by rfl) (E.at_ 20 _ rfl) (v := .ref c20) rfl) (pa_cons (pe_glob (by rfl) (E.at_ 21 _ rfl) (v := .ref c21) rfl) (pa_cons (pe_glob (by rfl) (E.at_ 22 _ rfl) (v := .ref c22) rfl) pa_nil)))))))))))))))))))))))) pa_nil))))
          (pss_cons (ps_if (PW.pt (pw_or (pt_val (pv 3)) (pw_or (pt_not (pt_val (pe_callB (r := rIsED K a cls d) (call_isED hz hf) (by rfl) B.isi PyProof.Rows.boot_isinstance (pa_cons (pv 2) (pa_cons (pe_glob (by rfl) E.gd (v := .ref cd) rfl) pa_nil)))))
              (pw_or1 (pt_not (pt_val (pe_callB (r := rIsED K a cls d) (call_isED hz hf) (by rfl) B.isi PyProof.Rows.boot_isinstance (pa_cons (pv 2) (pa_cons (pe_bltn (by rfl) E.ve PyProof.Rows.Boot.«ValueError» (v := .ty "ValueError") rfl) pa_nil))))))))) (pss_one (ps_ret pe_non)) pss_nil)
          (pss_one (ps_ret (pe_xf U.xf (U.no _ (by simp)) hz hf (pv 2))))))) (pss_one (ps_ret pe_non)), ?_⟩
    refine ⟨.ref a, rfl, .ref sa, rfl, a, sa, Bs, ts, xs, ns, i0, t0, rfl, bl, sl, okc, x8, n31, good, h0, bad, few, fun d H' s ed => ⟨true, U.te, fun _ a na => ?_, fun z => nomatch z⟩⟩
    refine ⟨.ref a, rfl, by show 23 ≤ sizeLine; decide, fun T nT => ⟨C, d, _, .ref T, false, rfl, rfl, rfl, same_new nT _ _ ed, U.ex, .inr ⟨T, [c0, c1, c2, c3, c4, c5, c6, c7, c8, c9, c10, c11, c12, c13, c14, c15, c16, c17, c18, c19, c20, c21, c22], rfl, upd_same, E.any⟩, ?_⟩⟩
    refine ⟨.bl false, rfl, false, rfl, iteF ⟨.ref a, rfl, C, d, _, .ref cd, true, rfl, rfl, rfl, same_new nT _ _ ed, U.ex, .inl ⟨.ref cd, fun u r => by cases r; rfl, E.kd⟩, true, rfl, iteF ⟨.ref a, rfl, C, d, _, .ty "ValueError", true, rfl, rfl, rfl, same_new nT _ _ ed, U.ex, .inl ⟨.type "ValueError", fun u r => by cases r; rfl, E.kv⟩, true, rfl, iteF ?_⟩⟩⟩
    have sT := s.trans (same_new (o := HO.tup ([c0, c1, c2, c3, c4, c5, c6, c7, c8, c9, c10, c11, c12, c13, c14, c15, c16, c17, c18, c19, c20, c21, c22].map V.ref)) nT)
    have eT := same_new (o := HO.tup ([c0, c1, c2, c3, c4, c5, c6, c7, c8, c9, c10, c11, c12, c13, c14, c15, c16, c17, c18, c19, c20, c21, c22].map V.ref)) nT _ _ ed
    exact ⟨.ref a, rfl, rfl, rfl, d, _, .int (i0 : Nat), rfl, eT, (by first | rfl | (simp [List.lookup]; done) | (simp [List.lookup]; rfl)), q _ sT⟩
abbrev sRef : Stmt := topS 53
abbrev nRef : List Str := ["_law_boxes", "_law_steps", "_law_due", "_law_passed", "_law_given", "_law_turn", "_law_told", "_law_sides"]
theorem scRef : FnScope nRef ["_law_boxes", "_law_steps", "_law_due"] (defScope sRef) := ⟨rfl, rfl, rfl, by decide +kernel, rfl, by decide +kernel, by decide +kernel⟩
def spRef : Sp := fun vs H Q _ => ∃ (a sa : Addr) (Bs : Bxs) (ts : List (Addr × Stp)) (xs : List Str) (ns : List Int) (i0 : Nat) (t0 : Addr × Stp), vs = [.ref a, .ref sa, .int (i0 : Int)] ∧ BL H a Bs ∧ StL H sa ts ∧ (∀ f ∈ says Bs, OkC xs ns f) ∧ xs.length ≤ 8 ∧ ns.length ≤ 31 ∧ GoodS xs Bs.length ((ts.take i0).map (·.2)) ∧ ts[i0]? = some t0 ∧ badAt Bs.length i0 t0.2 ∧ Bs.length + ts.length ≤ 900 ∧ ∀ H', Same H H' → Q (.bl true) H'
theorem ok_Ref {f f0 f1 f2 f3 : Addr} {fd fd0 fd1 fd2 fd3 : FuncData} (F : Fun K "_law_refused" "_law_refused" sRef f fd) (B : Bt mg) (CCar : Call P w K mg base 5 "_law_carried_out" f0 fd0 ["_law_boxes", "_law_steps"] spCar) (Ccp : Call P w K mg base 1 "_law_copied" f1 fd1 ["_law_sides"] spCopy) (CtoldP : Call P w K mg base 5 "_law_told_position" f2 fd2 ["_law_boxes", "_law_steps"] spToldP) (Cii : Call P w K mg base 1 "_law_is_integer" f3 fd3 ["_law_actual"] spIsInt) :
    FnOk P w K mg base CX0 6 f fd ["_law_boxes", "_law_steps", "_law_due"] spRef := by
  refine F.ok scRef (fun vs H Q E h => ?_) (fun cdv A outer s H vs Q E hr h => ?_)
  · obtain ⟨a, sa, Bs, ts, xs, ns, i0, t0, rfl, _⟩ := h
    rfl
  · obtain ⟨a, sa, Bs, ts, xs, ns, i0, t0, rfl, bl, sl, okc, x8, n31, good, h0, bad, few, q⟩ := h
    have nd := scRef.nd
    refine ⟨_, pss_cons (ps_setLc (i := 3) (own := [("_law_sides", 7)]) (g := gName 7) (tt := tYes)  rfl nd rfl rfl (by rfl) (pi_list (pv 0)) (blkOk_by (N := nRef) (sc := defScope sRef) (by decide +kernel)) (fun _ _ _ _ _ => pg_name (i := 7) nd rfl (.inl rfl)) (fun _ _ _ _ _ => pts_nil)
          (fun _ _ _ _ _ => (pe_call Ccp.ok (hr.mono (by decide)) (by rfl) Ccp.at_ Ccp.kp Ccp.bd .nil pass0 (pa_cons (pv 7) pa_nil))))
      (pss_cons (ps_set (i := 4) nd rfl (.inl rfl) (pe_callTy call_list_of (by rfl) B.list PyProof.Rows.boot_list (pa_cons (pv 1) pa_nil)))
      (pss_cons (ps_for PassesOwn.never rfl (pi_range1 (by rfl) B.range (pa_cons pe_int pa_nil)) (pg_name (i := 5) nd rfl (.inl rfl))
        (pss_cons (ps_set (i := 6) nd rfl (.inl rfl) (pe_call CtoldP.ok (hr.mono (by decide)) (by rfl) CtoldP.at_ CtoldP.kp CtoldP.bd .nil pass0 (pa_cons (pv 3) (pa_cons (pv 4) pa_nil))))
          (pss_one (ps_if (PW.pt (pw_or (pt_not (pt_val (pe_call Cii.ok (hr.mono (by decide)) (by rfl) Cii.at_ Cii.kp Cii.bd .nil pass0 (pa_cons (pv 6) pa_nil)))) (pw_or (pt_cmpR op_ne (pv 6) (pv 2) rfl) (pw_or (pt_cmpR (op_neV hr.units) (pv 3) (pv 0) rfl) (pw_or1 (pt_cmpR (op_neV hr.units) (pv 4) (pv 1) rfl))))))
            (pss_one (ps_ret pe_bl))
            pss_nil))))
      (pss_one (ps_ret (pe_call CCar.ok (hr.mono (by decide)) (by rfl) CCar.at_ CCar.kp CCar.bd .nil pass0 (pa_cons (pv 0) (pa_cons (pe_slice sl_list (pv 1) po_none (po_some (pv 2))) pa_nil))))))), ?_⟩
    refine ⟨.ref a, rfl, a, rfl, ⟨_, sl_map bl.lst⟩, fun R nR => ?_⟩
    refine lc_list (xs := Bs.map fun b => V.ref b.1) (fun i H' => ∃ Ks : Bxs, Same H H' ∧ NL H H' R Ks ∧ says Ks = (says Bs).take i) ⟨[], same_new nR, NL.nil nR upd_same, rfl⟩ (fun i H' _ h => sl_map (by obtain ⟨Ks, s, _⟩ := h; exact (bl.same s).lst)) ?_ ?_
    · rintro i x H' hx ⟨Ks, s, nl, sk⟩
      rw [List.getElem?_map] at hx
      obtain ⟨b, hb, rfl⟩ := Option.map_eq_some_iff.mp hx
      have hi := (List.getElem?_eq_some_iff.mp hb).1
      refine ⟨rfl, .ref b.1, rfl, b.1, b.2, rfl, (bl.same s).at_ hb, fun H2 d M s2 nb sh => ?_⟩
      have lk := says_len sk
      rw [List.length_take, List.length_map] at lk
      refine ⟨_, s2 _ _ nl.lst, by rw [List.length_map]; exact small1000 (by omega), Ks ++ [(d, M)], same_at (s.trans s2) nR, nl.snoc (fun a h => s.free h) s2 nb, ?_⟩
      rw [says_snoc, sk, List.take_add_one, List.getElem?_map, hb]
      show _ ++ [look M] = _ ++ [look b.2]
      rw [show look M = look b.2 from funext (look_shape sh)]
    · rintro H1 ⟨Ps, s1, np, sp⟩
      rw [List.length_map, ← List.length_map (f := fun b : Addr × List Ent => look b.2), List.take_length] at sp
      have sp' : says Ps = says Bs := sp
      have lP : Ps.length = Bs.length := by have := says_len sp'; rwa [List.length_map] at this
      refine ⟨.ref sa, rfl, sa, _, rfl, .inl (sl_map (sl.same s1).lst), fun g ng => ?_⟩
      have s2 := s1.trans (same_new (o := HO.lst (ts.map fun t => V.ref t.1)) ng)
      have pl2 := np.bl.same (same_new (o := HO.lst (ts.map fun t => V.ref t.1)) ng)
      have gl2 : StL (upd H1 g (.lst (ts.map fun t => V.ref t.1))) g ts := ⟨upd_same, (sl.same s2).tup⟩
      generalize upd H1 g (.lst (ts.map fun t => V.ref t.1)) = H2 at s2 pl2 gl2
      refine ⟨2, rfl, by decide, by decide, for_range (lo := 0) (n := 2) (fun i σ H' => ∃ (y5 y6 : Option V), σ = [some (.ref a), some (.ref sa), some (.int (i0 : Int)), some (.ref R), some (.ref g), y5, y6, none] ∧ Same H2 H') ⟨none, none, rfl, Same.refl _⟩ ?_ ?_⟩
      · rintro i σ H4 hi ⟨y5, y6, rfl, s4⟩
        have pl4 := pl2.same s4
        refine ⟨.ref R, rfl, .ref g, rfl, R, g, Ps, ts, xs, ns, i0, t0, rfl, pl4, gl2.same s4, by rw [sp']; exact okc, x8, n31, by rw [lP]; exact good, h0, by rw [lP]; exact bad, by omega, fun H5 s5 => ?_⟩
        have s7 := s4.trans s5
        have S7 := s2.trans s7
        have b7 := bl.same S7
        have p7 := pl2.same s7
        refine ⟨_, rfl, _, rfl, true, rfl, iteF ⟨_, rfl, _, rfl, rfl, _, rfl, ite_both (fun c => absurd c ?_) fun _ => ?_⟩⟩
        · rw [decide_eq_true rfl]; decide
        refine ⟨.ref R, rfl, .ref a, rfl, R, a, _, _, rfl, rfl, sl_map p7.lst, sl_map b7.lst, ⟨3, by decide, paired_boxes sp' p7.box b7.box⟩, false, rfl, iteF ?_⟩
        refine ⟨.ref g, rfl, .ref sa, rfl, g, sa, (ts.map (·.1)).map V.ref, (ts.map (·.1)).map V.ref, rfl, rfl, sl_map ?_, sl_map ?_, ⟨1, by decide, paired_same _⟩, false, rfl, iteF ⟨_, _, rfl, s7⟩⟩
        · rw [List.map_map]; exact s7 _ _ gl2.lst
        · rw [List.map_map]; exact (sl.same S7).lst
      · rintro σ H' ⟨y5, y6, rfl, s4⟩
        have S := s2.trans s4
        have l0 := (List.getElem?_eq_some_iff.mp h0).1
        refine ⟨_, rfl, _, rfl, _, rfl, _, rfl, sa, _, rfl, sl_map (sl.same S).lst, fun c nc => ?_⟩
        rw [cutV_to, ← List.map_take]
        have sc := same_new (o := HO.lst ((ts.take i0).map fun t => V.ref t.1)) nc
        exact ⟨a, c, Bs, ts.take i0, xs, ns, rfl, (bl.same S).same sc, ⟨upd_same, fun t ht => sc _ _ ((sl.same S).tup t (List.mem_of_mem_take ht))⟩, okc, x8, n31, good, by rw [List.length_take]; omega, fun H'' s'' => q _ ((S.trans sc).trans s'')⟩
end
end K6

set_option Elab.async false
set_option linter.all false
set_option maxRecDepth 100000
set_option maxHeartbeats 4000000
namespace K6
open PySem PySem.Spec PyProof.Rows L2 Cs CsX
theorem with_restS {R : L2.St → Hp → Prop} {G : Prop} (C : L2.St → Hp → Prop) (r : ∀ σ H, C σ H → R σ H) (g : (∀ σ H, C σ H → R σ H) → G) : G := g r
theorem BL.keep {H H' : Hp} {p l : Addr} {Bs : Bxs} (B : BL H l Bs) (st : Strm H p) (hl : l ≠ p) (aw : ∀ b ∈ Bs, ∀ g ∈ b.2, g.2.1 ≠ p) (k : Keep p H H') : BL H' l Bs :=
  ⟨k _ _ hl B.lst, fun b hb => (B.box b hb).keep st k (aw b hb)⟩
theorem StL.keep {H H' : Hp} {p l : Addr} {ts : List (Addr × Stp)} (B : StL H l ts) (st : Strm H p) (hl : l ≠ p) (k : Keep p H H') : StL H' l ts :=
  ⟨k _ _ hl B.lst, fun t ht => k _ _ (fun z => by
    obtain ⟨x, y, w, e⟩ := st
    have := B.tup t ht
    rw [z, e] at this
    cases this) (B.tup t ht)⟩
theorem goodS_of {xs : List Str} {n : Nat} {ts : List (Addr × Stp)} (h : ∀ (i : Nat) (t : Addr × Stp), ts[i]? = some t → okStp xs n i t.2) (n1 : 1 ≤ n) : GoodS xs n (ts.map (·.2)) := fun i s hs => by
  rw [List.getElem?_map] at hs
  obtain ⟨t, ht, rfl⟩ := Option.map_eq_some_iff.mp hs
  obtain ⟨h1, h2, h3, h4, h5⟩ := h i t ht
  exact ⟨h1, h2, by omega, h4, by omega⟩
theorem ixN_nat {n j : Nat} (h : j < n) : ixN n (j : Int) = some j := by
  unfold ixN
  rw [if_pos (by omega), if_pos (by omega)]; simp
section
variable {P : Program} {w : World} {K : PySem.W.Frag} {mg : Str → Option Value} {base : Heap}
abbrev sLaw : Stmt := topS 54
abbrev nLaw : List Str := ["_law_script", "_law_stream_here", "_law_large", "_law_names_here", "_law_pool_here", "_law_boxes", "_law_k", "_law_count", "_law_steps", "_law_due", "_law_turn", "_law_at"]
theorem scLaw : FnScope nLaw ["_law_script"] (defScope sLaw) := ⟨rfl, rfl, rfl, by decide +kernel, rfl, by decide +kernel, by decide +kernel⟩
def spLaw (K : PySem.W.Frag) : Sp := fun vs H Q _ => ∃ (a : Addr) (ns : List Int), vs = [.ref a] ∧ SqL K H a (ns.map V.int) ∧ ns.length ≤ 63 ∧ ∀ H', Q (.bl true) H'
theorem ok_Law {f f0 f1 f2 f3 f4 f5 f6 f7 f8 : Addr} {fd fd0 fd1 fd2 fd3 fd4 fd5 fd6 fd7 fd8 : FuncData} (F : Fun K "law" "law" sLaw f fd) (B : Bt mg) (zmin : mg "min" = none) (Cst : Call P w K mg base 1 "_law_stream" f0 fd0 ["_law_script", "_law_k"] (spStream K)) (Cna : Call P w K mg base 2 "_law_names" f1 fd1 ["_law_stream_here", "_law_count"] spNames) (Cpo : Call P w K mg base 2 "_law_pool" f2 fd2 ["_law_stream_here", "_law_count"] spPool) (CGst : Call P w K mg base 2 "_law_good_steps" f3 fd3 ["_law_stream_here", "_law_names_here", "_law_start", "_law_count"] spGst) (CRef : Call P w K mg base 6 "_law_refused" f4 fd4 ["_law_boxes", "_law_steps", "_law_due"] spRef) (D : Call P w K mg base 1 "_law_next" f5 fd5 ["_law_stream_here", "_law_size"] spDraw) (CCar : Call P w K mg base 5 "_law_carried_out" f6 fd6 ["_law_boxes", "_law_steps"] spCar) (CBds : Call P w K mg base 2 "_law_bad_step" f7 fd7 ["_law_stream_here", "_law_step", "_law_own"] spBds) (CDsd : Call P w K mg base 2 "_law_drawn_sides" f8 fd8 ["_law_stream_here", "_law_names_here", "_law_pool_here"] spDsd) :
    FnOk P w K mg base CX0 7 f fd ["_law_script"] (spLaw K) := by
  refine F.ok scLaw (fun vs H Q E h => ?_) (fun cdv A outer s H vs Q E hr h => ?_)
  · obtain ⟨a, ns, rfl, _⟩ := h
    rfl
  · obtain ⟨a, sc, rfl, ha, ln, q⟩ := h
    have nd := scLaw.nd
    refine ⟨_, pss_cons (ps_set (i := 1) nd rfl (.inl rfl) (pe_call Cst.ok (hr.mono (by decide)) (by rfl) Cst.at_ Cst.kp Cst.bd .nil pass0 (pa_cons (pv 0) (pa_cons pe_int pa_nil))))
      (pss_cons (ps_set (i := 2) nd rfl (.inl rfl) (pe_cmpR op_eq (pe_call D.ok (hr.mono (by decide)) (by rfl) D.at_ D.kp D.bd .nil pass0 (pa_cons (pv 1) (pa_cons pe_int pa_nil))) pe_int rfl))
      (pss_cons (ps_set (i := 3) nd rfl (.inl rfl) (pe_call Cna.ok (hr.mono (by decide)) (by rfl) Cna.at_ Cna.kp Cna.bd .nil pass0 (pa_cons (pv 1) (pa_cons (pe_ifExp (pt_val (pv 2)) pe_int (pe_op op_add pe_int (pe_call D.ok (hr.mono (by decide)) (by rfl) D.at_ D.kp D.bd .nil pass0 (pa_cons (pv 1) (pa_cons pe_int pa_nil))))) pa_nil))))
      (pss_cons (ps_set (i := 4) nd rfl (.inl rfl) (pe_call Cpo.ok (hr.mono (by decide)) (by rfl) Cpo.at_ Cpo.kp Cpo.bd .nil pass0 (pa_cons (pv 1) (pa_cons (pe_op op_add pe_int (pe_call D.ok (hr.mono (by decide)) (by rfl) D.at_ D.kp D.bd .nil pass0 (pa_cons (pv 1) (pa_cons pe_int pa_nil)))) pa_nil))))
      (pss_cons (ps_set (i := 5) nd rfl (.inl rfl) (pe_lst pa_nil))
      (pss_cons (ps_for PassesOwn.never rfl (pi_range1 (by rfl) B.range (pa_cons (pe_ifExp (pt_val (pv 2)) (pe_op op_add pe_int (pe_call D.ok (hr.mono (by decide)) (by rfl) D.at_ D.kp D.bd .nil pass0 (pa_cons (pv 1) (pa_cons pe_int pa_nil)))) (pe_call D.ok (hr.mono (by decide)) (by rfl) D.at_ D.kp D.bd .nil pass0 (pa_cons (pv 1) (pa_cons pe_int pa_nil)))) pa_nil)) (pg_name (i := 6) nd rfl (.inl rfl))
        (pss_one (ps_expr (pe_bm PySem.F.plainAttrs_list PySem.F.slot_list_append PySem.F.type_list_append mt_append (pv 5) (pa_cons (pe_call CDsd.ok (hr.mono (by decide)) (by rfl) CDsd.at_ CDsd.kp CDsd.bd .nil pass0 (pa_cons (pv 1) (pa_cons (pv 3) (pa_cons (pv 4) pa_nil)))) pa_nil)))))
      (pss_cons (ps_set (i := 1) nd rfl (.inl rfl) (pe_call Cst.ok (hr.mono (by decide)) (by rfl) Cst.at_ Cst.kp Cst.bd .nil pass0 (pa_cons (pv 0) (pa_cons pe_int pa_nil))))
      (pss_cons (ps_set (i := 7) nd rfl (.inl rfl) (pe_ifExp (pt_val (pv 2)) (pe_op op_add pe_int (pe_call D.ok (hr.mono (by decide)) (by rfl) D.at_ D.kp D.bd .nil pass0 (pa_cons (pv 1) (pa_cons pe_int pa_nil)))) (pe_call D.ok (hr.mono (by decide)) (by rfl) D.at_ D.kp D.bd .nil pass0 (pa_cons (pv 1) (pa_cons pe_int pa_nil)))))
      (pss_cons (ps_if (pt_cmpR op_eq (pe_call D.ok (hr.mono (by decide)) (by rfl) D.at_ D.kp D.bd .nil pass0 (pa_cons (pv 1) (pa_cons pe_int pa_nil))) pe_int rfl)
        (pss_one (ps_set (i := 7) nd rfl (.inl rfl) (pe_op op_add pe_int (pe_call D.ok (hr.mono (by decide)) (by rfl) D.at_ D.kp D.bd .nil pass0 (pa_cons (pv 1) (pa_cons pe_int pa_nil))))))
        pss_nil)
      (pss_cons (ps_set (i := 8) nd rfl (.inl rfl) (pe_call CGst.ok (hr.mono (by decide)) (by rfl) CGst.at_ CGst.kp CGst.bd .nil pass0 (pa_cons (pv 1) (pa_cons (pv 3) (pa_cons (pe_callB call_len_seq (by rfl) B.len PySem.boot_len (pa_cons (pv 5) pa_nil)) (pa_cons (pv 7) pa_nil))))))
      (pss_cons (ps_if (PW.pt (pw_and (pt_cmpR op_gt (pe_callB call_len_seq (by rfl) B.len PySem.boot_len (pa_cons (pv 5) pa_nil)) pe_int rfl) (pw_and1 (pt_not (pt_val (pe_call CCar.ok (hr.mono (by decide)) (by rfl) CCar.at_ CCar.kp CCar.bd .nil pass0 (pa_cons (pv 5) (pa_cons (pv 8) pa_nil))))))))
        (pss_one (ps_ret pe_bl))
        pss_nil)
      (pss_cons (ps_if (pt_cmpR op_eq (pe_callB call_len_seq (by rfl) B.len PySem.boot_len (pa_cons (pv 8) pa_nil)) pe_int rfl)
        (pss_one (ps_ret (pe_call CCar.ok (hr.mono (by decide)) (by rfl) CCar.at_ CCar.kp CCar.bd .nil pass0 (pa_cons (pv 5) (pa_cons (pv 8) pa_nil)))))
        pss_nil)
      (pss_cons (ps_set (i := 1) nd rfl (.inl rfl) (pe_call Cst.ok (hr.mono (by decide)) (by rfl) Cst.at_ Cst.kp Cst.bd .nil pass0 (pa_cons (pv 0) (pa_cons pe_int pa_nil))))
      (pss_cons (ps_if (pt_cmpR op_eq (pe_callB call_len_seq (by rfl) B.len PySem.boot_len (pa_cons (pv 5) pa_nil)) pe_int rfl)
        (pss_one (ps_ret (pe_call CRef.ok (hr.mono (by decide)) (by rfl) CRef.at_ CRef.kp CRef.bd .nil pass0 (pa_cons (pv 5) (pa_cons (pv 8) (pa_cons pe_int pa_nil))))))
        pss_nil)
      (pss_cons (ps_if (pt_cmpR op_eq (pe_call D.ok (hr.mono (by decide)) (by rfl) D.at_ D.kp D.bd .nil pass0 (pa_cons (pv 1) (pa_cons pe_int pa_nil))) pe_int rfl)
        (pss_one (ps_ret pe_bl))
        pss_nil)
      (pss_cons (ps_set (i := 9) nd rfl (.inl rfl) (pe_callB call_len_seq (by rfl) B.len PySem.boot_len (pa_cons (pv 8) pa_nil)))
      (pss_cons (ps_for PassesOwn.never rfl (pi_range1 (by rfl) B.range (pa_cons (pe_op op_add pe_int (pe_call D.ok (hr.mono (by decide)) (by rfl) D.at_ D.kp D.bd .nil pass0 (pa_cons (pv 1) (pa_cons pe_int pa_nil)))) pa_nil)) (pg_name (i := 10) nd rfl (.inl rfl))
        (pss_cons (ps_set (i := 11) nd rfl (.inl rfl) (pe_call D.ok (hr.mono (by decide)) (by rfl) D.at_ D.kp D.bd .nil pass0 (pa_cons (pv 1) (pa_cons (pe_callB call_len_seq (by rfl) B.len PySem.boot_len (pa_cons (pv 8) pa_nil)) pa_nil))))
          (pss_cons (ps_asg (pe_call CBds.ok (hr.mono (by decide)) (by rfl) CBds.at_ CBds.kp CBds.bd .nil pass0 (pa_cons (pv 1) (pa_cons (pe_ix ix_list (pv 8) (pv 11) (fun _ _ => rfl)) (pa_cons (pe_op op_add (pe_callB call_len_seq (by rfl) B.len PySem.boot_len (pa_cons (pv 5) pa_nil)) (pv 11)) pa_nil)))) (pg_sub (pv 8) (pv 11) set_list))
          (pss_one (ps_set (i := 9) nd rfl (.inl rfl) (pe_callB (call_min2 rfl) (by rfl) zmin PyProof.Rows.boot_min (pa_cons (pv 9) (pa_cons (pv 11) pa_nil))))))))
      (pss_one (ps_ret (pe_call CRef.ok (hr.mono (by decide)) (by rfl) CRef.at_ CRef.kp CRef.bd .nil pass0 (pa_cons (pv 5) (pa_cons (pv 8) (pa_cons (pv 9) pa_nil)))))))))))))))))))))), ?_⟩
    refine ⟨.ref a, rfl, a, sc, 0, rfl, ha, fun H1 p s1 np st1 => ?_⟩
    have k1 : Keep p H H1 := Keep.same s1
    refine ⟨.ref p, rfl, p, 8, rfl, st1, by decide, by decide, fun H2 g o2 st2 g0 g1 => ⟨rfl, ?_⟩⟩
    generalize decide (V.int g = V.int 0) = lg
    have k2 := k1.oth o2
    refine' with_restS (fun σ H' => ∃ (nm : Addr) (xs : List Str), σ = [some (.ref a), some (.ref p), some (.bl lg), some (.ref nm), none, none, none, none, none, none, none, none] ∧ Keep p H H' ∧ Strm H' p ∧ p ≠ nm ∧ H' nm = some (.lst (xs.map V.str)) ∧ xs.Nodup ∧ 1 ≤ xs.length ∧ xs.length ≤ 5) ?r1
      (fun rest => ⟨.ref p, rfl, .bl lg, rfl, lg, rfl, ite_both (fun _ => ?cA) (fun _ => ?cB)⟩)
    case cA => exact ⟨p, 5, rfl, st2, by decide, fun H' l xs k nl st el nd' len _ => rest _ _ ⟨l, xs, rfl, k2.trans k, st, fun z => st2.some (z ▸ nl), el, nd', by omega, by omega⟩⟩
    case cB =>
      refine ⟨.ref p, rfl, p, 4, rfl, st2, by decide, by decide, fun H3 c o3 st3 c0 c1 => ?_⟩
      obtain ⟨c, rfl⟩ : ∃ n : Nat, c = (n : Int) := ⟨c.toNat, by omega⟩
      exact ⟨_, _, rfl, rfl, p, 1 + c, rfl, st3, by omega, fun H' l xs k nl st el nd' len _ => rest _ _ ⟨l, xs, rfl, (k2.oth o3).trans k, st, fun z => st3.some (z ▸ nl), el, nd', by omega, by omega⟩⟩
    rintro σ H3 ⟨nm, xs, rfl, k3, st3, pnm, enm, xnd, x1, x5⟩
    clear k1 k2 o2 st2 g0 g1
    refine ⟨.ref p, rfl, .ref p, rfl, p, 4, rfl, st3, by decide, by decide, fun H4 c o4 st4 c0 c1 => ⟨_, _, rfl, rfl, ?_⟩⟩
    obtain ⟨c, rfl⟩ : ∃ n : Nat, c = (n : Int) := ⟨c.toNat, by omega⟩
    refine ⟨p, 2 + c, rfl, st4, by omega, by omega, fun H5 pl ns k5 npl st5 epl srt lns => ?_⟩
    have K5 := (k3.oth o4).trans k5
    have enm5 : H5 nm = some (.lst (xs.map V.str)) := k5 _ _ pnm.symm ((o4 _ pnm.symm).trans enm)
    have ppl : p ≠ pl := fun z => st4.some (z ▸ npl)
    refine ⟨by show 0 ≤ sizeLine; decide, fun bs nbs => ?_⟩
    have pbs : p ≠ bs := fun z => st5.some (z ▸ nbs)
    have s6 := same_new (o := HO.lst []) nbs
    have K6 := K5.at_ (o := HO.lst []) (K5.free st5 nbs)
    have st6 := st5.upd (o := HO.lst []) pbs
    have enm6 := s6 _ _ enm5
    have epl6 := s6 _ _ epl
    have ebs6 := upd_same (H := H5) (a := bs) (o := HO.lst [])
    have nbs0 := K5.free st5 nbs
    have nmbs : nm ≠ bs := fun z => by rw [← z, enm5] at nbs; cases nbs
    have plbs : pl ≠ bs := fun z => by rw [← z, epl] at nbs; cases nbs
    generalize upd H5 bs (.lst []) = H6 at K6 st6 enm6 epl6 ebs6
    clear s6 nbs enm5 epl st5 K5 k5 npl o4 st4 k3 st3 enm H4 H5 H3
    refine' with_restS (fun σ H' => ∃ (y6 : Option V) (Bs : Bxs), σ = [some (.ref a), some (.ref p), some (.bl lg), some (.ref nm), some (.ref pl), some (.ref bs), y6, none, none, none, none, none] ∧ Keep p H H' ∧ BL H' bs Bs ∧ Bs.length ≤ 24 ∧ (∀ f ∈ says Bs, OkC xs ns f) ∧ H' nm = some (.lst (xs.map V.str))) ?r2
      (fun rest => ⟨.bl lg, rfl, lg, rfl, ite_both (fun _ => ?cA) (fun _ => ?cB)⟩)
    case cA =>
      refine ⟨.ref p, rfl, p, 13, rfl, st6, by decide, by decide, fun H7 c o7 st7 c0 c1 => ⟨_, _, rfl, rfl, ?_⟩⟩
      obtain ⟨c, rfl⟩ : ∃ n : Nat, c = (n : Int) := ⟨c.toNat, by omega⟩
      obtain ⟨m, hm⟩ : ∃ m : Nat, m = 12 + c := ⟨_, rfl⟩
      have m24 : m ≤ 24 := by omega
      refine ⟨(m : Int), by rw [hm] <;> rfl, by omega, by omega, ?_⟩
      refine for_range (lo := 0) (n := m) (fun i σ H' => ∃ (y6 : Option V) (Bs : Bxs), σ = [some (.ref a), some (.ref p), some (.bl lg), some (.ref nm), some (.ref pl), some (.ref bs), y6, none, none, none, none, none] ∧ Keep p H H' ∧ Strm H' p ∧ BL H' bs Bs ∧ (∀ b ∈ Bs, ∀ g ∈ b.2, g.2.1 ≠ p) ∧ Bs.length = i ∧ (∀ f ∈ says Bs, OkC xs ns f) ∧ H' nm = some (.lst (xs.map V.str)) ∧ H' pl = some (.lst (ns.map V.int)) ∧ (∀ b ∈ Bs, ∀ g ∈ b.2, g.2.1 ≠ bs))
        ⟨none, [], rfl, K6.oth o7, st7, ⟨(o7 _ pbs.symm).trans ebs6, (fun _ h => nomatch h)⟩, (fun _ h => nomatch h), rfl, (fun _ h => nomatch h), (o7 _ pnm.symm).trans enm6, (o7 _ ppl.symm).trans epl6, (fun _ h => nomatch h)⟩ ?_ ?_
      · rintro i σ H8 hi ⟨y6, Bs, rfl, k8, st8, bl, aw, lb, okc, en, ep, awb⟩
        refine ⟨.ref bs, rfl, .inl ⟨rfl, _, sl_map bl.lst⟩, .ref p, rfl, .ref nm, rfl, .ref pl, rfl, p, nm, pl, xs, ns, rfl, st8, en, pnm, xnd, x1, by omega, ep, ppl, by omega, srt, fun H9 b N k9 st9 nb ok => ?_⟩
        have bl9 := bl.keep st8 pbs.symm aw k9
        have hbs : H8 bs ≠ none := by rw [bl.lst]; exact fun z => nomatch z
        have bnb : b ≠ bs := fun z => hbs (z ▸ nb.fresh)
        have sdb : ∀ g ∈ N, g.2.1 ≠ bs := fun g hg z => hbs (z ▸ nb.freshS g hg)
        have sdp : ∀ g ∈ N, g.2.1 ≠ p := fun g hg z => st8.some (z ▸ nb.freshS g hg)
        have dk : ∀ c ∈ Bs, c.1 ≠ bs := fun c hc z => by
          have h1 := (bl9.box c hc).un
          rw [z, bl9.lst] at h1
          cases h1
        have hb0 : H bs = none ∨ True := .inr trivial
        refine ⟨bs, _, _, rfl, rfl, bl9.lst, by rw [List.length_map]; exact small1000 (by omega), _, Bs ++ [(b, N)], rfl, ?_, st9.upd pbs, ⟨by rw [upd_same, List.map_append] <;> rfl, fun c hc => ?_⟩, fun c hc g hg => ?_, by rw [List.length_append, lb] <;> rfl, fun f hf => ?_, ?_, ?_, fun c hc g hg => ?_⟩
        · exact ((k8.trans k9).at_ nbs0)
        · rcases List.mem_append.mp hc with h | h
          · exact (bl9.box c h).upd (dk c h) (awb c h)
          · rw [List.mem_singleton.mp h]; exact nb.toBu.upd bnb sdb
        · rcases List.mem_append.mp hc with h | h
          · exact aw c h g hg
          · rw [List.mem_singleton.mp h] at hg; exact sdp g hg
        · rw [says_snoc] at hf
          rcases List.mem_append.mp hf with h | h
          · exact okc f h
          · rw [List.mem_singleton.mp h]; exact ok
        · rw [upd_ne nmbs]; exact k9 _ _ pnm.symm en
        · rw [upd_ne plbs]; exact k9 _ _ ppl.symm ep
        · rcases List.mem_append.mp hc with h | h
          · exact awb c h g hg
          · rw [List.mem_singleton.mp h] at hg; exact sdb g hg
      · rintro σ H8 ⟨y6, Bs, rfl, k8, st8, bl, aw, lb, okc, en, ep, awb⟩
        exact rest _ _ ⟨y6, Bs, rfl, k8, bl, by omega, okc, en⟩
    case cB =>
      refine ⟨.ref p, rfl, p, 6, rfl, st6, by decide, by decide, fun H7 c o7 st7 c0 c1 => ?_⟩
      obtain ⟨m, rfl⟩ : ∃ n : Nat, c = (n : Int) := ⟨c.toNat, by omega⟩
      have m24 : m ≤ 24 := by omega
      refine ⟨(m : Int), rfl, by omega, by omega, ?_⟩
      refine for_range (lo := 0) (n := m) (fun i σ H' => ∃ (y6 : Option V) (Bs : Bxs), σ = [some (.ref a), some (.ref p), some (.bl lg), some (.ref nm), some (.ref pl), some (.ref bs), y6, none, none, none, none, none] ∧ Keep p H H' ∧ Strm H' p ∧ BL H' bs Bs ∧ (∀ b ∈ Bs, ∀ g ∈ b.2, g.2.1 ≠ p) ∧ Bs.length = i ∧ (∀ f ∈ says Bs, OkC xs ns f) ∧ H' nm = some (.lst (xs.map V.str)) ∧ H' pl = some (.lst (ns.map V.int)) ∧ (∀ b ∈ Bs, ∀ g ∈ b.2, g.2.1 ≠ bs))
        ⟨none, [], rfl, K6.oth o7, st7, ⟨(o7 _ pbs.symm).trans ebs6, (fun _ h => nomatch h)⟩, (fun _ h => nomatch h), rfl, (fun _ h => nomatch h), (o7 _ pnm.symm).trans enm6, (o7 _ ppl.symm).trans epl6, (fun _ h => nomatch h)⟩ ?_ ?_
      · rintro i σ H8 hi ⟨y6, Bs, rfl, k8, st8, bl, aw, lb, okc, en, ep, awb⟩
        refine ⟨.ref bs, rfl, .inl ⟨rfl, _, sl_map bl.lst⟩, .ref p, rfl, .ref nm, rfl, .ref pl, rfl, p, nm, pl, xs, ns, rfl, st8, en, pnm, xnd, x1, by omega, ep, ppl, by omega, srt, fun H9 b N k9 st9 nb ok => ?_⟩
        have bl9 := bl.keep st8 pbs.symm aw k9
        have hbs : H8 bs ≠ none := by rw [bl.lst]; exact fun z => nomatch z
        have bnb : b ≠ bs := fun z => hbs (z ▸ nb.fresh)
        have sdb : ∀ g ∈ N, g.2.1 ≠ bs := fun g hg z => hbs (z ▸ nb.freshS g hg)
        have sdp : ∀ g ∈ N, g.2.1 ≠ p := fun g hg z => st8.some (z ▸ nb.freshS g hg)
        have dk : ∀ c ∈ Bs, c.1 ≠ bs := fun c hc z => by
          have h1 := (bl9.box c hc).un
          rw [z, bl9.lst] at h1
          cases h1
        have hb0 : H bs = none ∨ True := .inr trivial
        refine ⟨bs, _, _, rfl, rfl, bl9.lst, by rw [List.length_map]; exact small1000 (by omega), _, Bs ++ [(b, N)], rfl, ?_, st9.upd pbs, ⟨by rw [upd_same, List.map_append] <;> rfl, fun c hc => ?_⟩, fun c hc g hg => ?_, by rw [List.length_append, lb] <;> rfl, fun f hf => ?_, ?_, ?_, fun c hc g hg => ?_⟩
        · exact ((k8.trans k9).at_ nbs0)
        · rcases List.mem_append.mp hc with h | h
          · exact (bl9.box c h).upd (dk c h) (awb c h)
          · rw [List.mem_singleton.mp h]; exact nb.toBu.upd bnb sdb
        · rcases List.mem_append.mp hc with h | h
          · exact aw c h g hg
          · rw [List.mem_singleton.mp h] at hg; exact sdp g hg
        · rw [says_snoc] at hf
          rcases List.mem_append.mp hf with h | h
          · exact okc f h
          · rw [List.mem_singleton.mp h]; exact ok
        · rw [upd_ne nmbs]; exact k9 _ _ pnm.symm en
        · rw [upd_ne plbs]; exact k9 _ _ ppl.symm ep
        · rcases List.mem_append.mp hc with h | h
          · exact awb c h g hg
          · rw [List.mem_singleton.mp h] at hg; exact sdb g hg
      · rintro σ H8 ⟨y6, Bs, rfl, k8, st8, bl, aw, lb, okc, en, ep, awb⟩
        exact rest _ _ ⟨y6, Bs, rfl, k8, bl, by omega, okc, en⟩
    rintro σ H7 ⟨y6, Bs, rfl, k7, bl, b24, okc, enm7⟩
    clear K6 st6 enm6 epl6 ebs6 H6
    refine ⟨.ref a, rfl, a, sc, 1, rfl, sq_keep ha np k7, fun H8 p2 s8 np2 st8 => ?_⟩
    have ha8 := sq_keep ha np k7
    have k8 : Keep p2 H7 H8 := Keep.same s8
    have dif : ∀ {H' : Hp} {b : Addr}, Keep p2 H7 H' → H7 b ≠ none → b ≠ p2 := fun _ h z => h (z ▸ np2)
    have bsn : bs ≠ p2 := fun z => by rw [← z, bl.lst] at np2; cases np2
    have nmn : nm ≠ p2 := fun z => by rw [← z, enm7] at np2; cases np2
    have aw : ∀ b ∈ Bs, ∀ g ∈ b.2, g.2.1 ≠ p2 := fun b hb g hg z => by rw [← z, (bl.box b hb).sides g hg] at np2; cases np2
    refine' with_restS (fun σ H' => ∃ m : Nat, m ≤ 400 ∧ σ = [some (.ref a), some (.ref p2), some (.bl lg), some (.ref nm), some (.ref pl), some (.ref bs), y6, some (.int (m : Int)), none, none, none, none] ∧ Keep p2 H7 H' ∧ Strm H' p2) ?r3
      (fun rest => ⟨.bl lg, rfl, lg, rfl, ite_both (fun _ => ?cA) (fun _ => ?cB)⟩)
    case cA =>
      refine ⟨.ref p2, rfl, p2, 21, rfl, st8, by decide, by decide, fun H9 c o9 st9 c0 c1 => ⟨_, _, rfl, rfl, ?_⟩⟩
      obtain ⟨c, rfl⟩ : ∃ n : Nat, c = (n : Int) := ⟨c.toNat, by omega⟩
      exact rest _ _ ⟨20 + c, by omega, rfl, k8.oth o9, st9⟩
    case cB =>
      refine ⟨.ref p2, rfl, p2, 9, rfl, st8, by decide, by decide, fun H9 c o9 st9 c0 c1 => ?_⟩
      obtain ⟨c, rfl⟩ : ∃ n : Nat, c = (n : Int) := ⟨c.toNat, by omega⟩
      exact rest _ _ ⟨c, by omega, rfl, k8.oth o9, st9⟩
    rintro σ H9 ⟨m, m400, rfl, k9, st9⟩
    refine' with_restS (fun σ H' => ∃ m : Nat, m ≤ 400 ∧ σ = [some (.ref a), some (.ref p2), some (.bl lg), some (.ref nm), some (.ref pl), some (.ref bs), y6, some (.int (m : Int)), none, none, none, none] ∧ Keep p2 H7 H' ∧ Strm H' p2) ?r4
      (fun rest => ⟨.ref p2, rfl, p2, 24, rfl, st9, by decide, by decide, fun H10 c o10 st10 c0 c1 => ⟨rfl, _, rfl, ite_both (fun _ => ?cC) (fun _ => rest _ _ ⟨m, m400, rfl, k9.oth o10, st10⟩)⟩⟩)
    case cC =>
      refine ⟨.ref p2, rfl, p2, 2, rfl, st10, by decide, by decide, fun H11 d o11 st11 d0 d1 => ⟨_, _, rfl, rfl, ?_⟩⟩
      obtain ⟨d, rfl⟩ : ∃ n : Nat, d = (n : Int) := ⟨d.toNat, by omega⟩
      exact rest _ _ ⟨300 + d, by omega, rfl, (k9.oth o10).oth o11, st11⟩
    clear k9 st9 m400 m H9 k8 st8 s8 H8
    rintro σ H9 ⟨m, m400, rfl, k9, st9⟩
    have bl9 : BL H9 bs Bs := ⟨k9 _ _ bsn bl.lst, fun b hb => ⟨⟨.inl (k9 _ _ (fun z => by rw [← z, (bl.box b hb).un] at np2; cases np2) (bl.box b hb).un), fun g hg => k9 _ _ (aw b hb g hg) ((bl.box b hb).sides g hg), (bl.box b hb).nd, (bl.box b hb).few⟩, k9 _ _ (fun z => by rw [← z, (bl.box b hb).un] at np2; cases np2) (bl.box b hb).un⟩⟩
    have lbs : (Bs.map fun b => V.ref b.1).length = Bs.length := List.length_map _
    refine ⟨.ref p2, rfl, .ref nm, rfl, .ref bs, rfl, bs, _, rfl, .inl (sl_map bl9.lst), .int (m : Int), rfl, p2, nm, xs, Bs.length, m, by rw [lbs] <;> rfl, st9, k9 _ _ nmn enm7, nmn.symm, x1, by omega, by omega, m400, fun H10 st ts k10 st10 nst sl lts oks => ?_⟩
    have stp : st ≠ p2 := fun z => st9.some (z ▸ nst)
    have bl10 := bl9.keep st9 bsn aw k10
    have K10 := k9.trans k10
    have bst : bs ≠ st := fun z => by rw [← z, bl9.lst] at nst; cases nst
    have stS : ∀ b ∈ Bs, ∀ g ∈ b.2, g.2.1 ≠ st := fun b hb g hg z => by rw [← z, (bl9.box b hb).sides g hg] at nst; cases nst
    have stB : ∀ b ∈ Bs, b.1 ≠ st := fun b hb z => by rw [← z, (bl9.box b hb).un] at nst; cases nst
    clear st9 bl9 nst k9 k10 H9
    have n8 : ns.length ≤ 31 := by omega
    have goodT : 1 ≤ Bs.length → GoodS xs Bs.length (ts.map (·.2)) := fun n1 => goodS_of oks n1
    have dn : ∀ {n : Nat}, (n : Int) ≤ 0 ↔ n = 0 := by omega
    refine' with_restS (fun σ H' => σ = [some (.ref a), some (.ref p2), some (.bl lg), some (.ref nm), some (.ref pl), some (.ref bs), y6, some (.int (m : Int)), some (.ref st), none, none, none] ∧ Same H10 H') ?r5
      (fun rest => ⟨.ref bs, rfl, bs, _, rfl, .inl (sl_map bl10.lst), _, _, rfl, rfl, _, rfl, ite_both (fun h => ?cD) (fun _ => iteF (rest _ _ ⟨rfl, Same.refl _⟩))⟩)
    case cD =>
      have n1 : 1 ≤ Bs.length := by
        have h := of_decide_eq_true h
        rw [lbs] at h
        omega
      exact ⟨.ref bs, rfl, .ref st, rfl, bs, st, Bs, ts, xs, ns, rfl, bl10, sl, okc, by omega, n8, goodT n1, by omega, fun H11 s11 => ⟨true, rfl, iteF (rest _ _ ⟨rfl, s11⟩)⟩⟩
    rintro σ H11 ⟨rfl, s11⟩
    have bl11 := bl10.same s11
    have sl11 := sl.same s11
    have lst : (ts.map fun t => V.ref t.1).length = ts.length := List.length_map _
    refine ⟨.ref st, rfl, st, _, rfl, .inl (sl_map sl11.lst), rfl, _, rfl, ite_both (fun h => ?_) fun h => ?_⟩
    · have t0 : ts = [] := by
        have h := of_decide_eq_true h
        rw [lst] at h
        injection h with h
        exact List.eq_nil_of_length_eq_zero (by omega)
      subst t0
      exact ⟨.ref bs, rfl, .ref st, rfl, bs, st, Bs, [], xs, ns, rfl, bl11, sl11, okc, by omega, n8, (fun i s h => by cases h), by omega, fun H' _ => q H'⟩
    have t1 : 1 ≤ ts.length := by
      have h := of_decide_eq_false h
      rw [lst] at h
      refine Nat.lt_of_not_le fun z => h ?_
      rw [show ts.length = 0 by omega] <;> rfl
    have hsc : SqL K H11 a (sc.map V.int) := s11.seq (sq_keep ha8 np2 K10)
    refine ⟨.ref a, rfl, a, sc, 2, rfl, hsc, fun H12 p3 s12 np3 st12 => ?_⟩
    have bl12 := bl11.same s12
    have sl12 := sl11.same s12
    refine ⟨.ref bs, rfl, bs, _, rfl, .inl (sl_map bl12.lst), rfl, _, rfl, ite_both (fun h => ?_) fun h => ?_⟩
    · have b0 : Bs = [] := by
        have h := of_decide_eq_true h
        rw [lbs] at h
        injection h with h
        exact List.eq_nil_of_length_eq_zero (by omega)
      subst b0
      obtain ⟨t, ht⟩ : ∃ t, ts[0]? = some t := ⟨_, List.getElem?_eq_getElem (by omega)⟩
      obtain ⟨h1, h2, h3, h4, h5⟩ := oks 0 t ht
      exact ⟨.ref bs, rfl, .ref st, rfl, bs, st, [], ts, xs, ns, 0, t, rfl, bl12, sl12, okc, by omega, n8, (fun i s h => by cases h), ht, .inr (.inr (.inl h2)), by show 0 + ts.length ≤ 900; omega, fun H' _ => q H'⟩
    have b1 : 1 ≤ Bs.length := by
      have h := of_decide_eq_false h
      rw [lbs] at h
      refine Nat.lt_of_not_le fun z => h ?_
      rw [show Bs.length = 0 by omega] <;> rfl
    refine ⟨.ref p3, rfl, p3, 2, rfl, st12, by decide, by decide, fun H13 c o13 st13 c0 c1 => ⟨rfl, _, rfl, ite_both (fun _ => q _) fun _ => ?_⟩⟩
    have bsp : bs ≠ p3 := fun z => by rw [← z, bl11.lst] at np3; cases np3
    have stp3 : st ≠ p3 := fun z => by rw [← z, sl11.lst] at np3; cases np3
    have aw3 : ∀ b ∈ Bs, ∀ g ∈ b.2, g.2.1 ≠ p3 := fun b hb g hg z => by rw [← z, (bl11.box b hb).sides g hg] at np3; cases np3
    have kk : Keep p3 H12 H13 := (Keep.refl p3 H12).oth o13
    have bl13 := bl12.keep st12 bsp aw3 kk
    have sl13 := sl12.keep st12 stp3 kk
    refine ⟨.ref st, rfl, st, _, rfl, .inl (sl_map sl13.lst), ?_⟩
    rw [lst]
    refine ⟨.ref p3, rfl, p3, 2, rfl, st13, by decide, by decide, fun H14 d o14 st14 d0 d1 => ⟨_, _, rfl, rfl, ?_⟩⟩
    obtain ⟨d, rfl⟩ : ∃ n : Nat, d = (n : Int) := ⟨d.toNat, by omega⟩
    have kk2 : Keep p3 H13 H14 := (Keep.refl p3 H13).oth o14
    have bl14 := bl13.keep st13 bsp aw3 kk2
    have sl14 := sl13.keep st13 stp3 kk2
    refine ⟨((1 + d : Nat) : Int), rfl, by omega, by omega, for_range (lo := 0) (n := 1 + d) (fun i σ H' => ∃ (y10 y11 : Option V) (us : List (Addr × Stp)) (du : Nat), σ = [some (.ref a), some (.ref p3), some (.bl lg), some (.ref nm), some (.ref pl), some (.ref bs), y6, some (.int (m : Int)), some (.ref st), some (.int (du : Int)), y10, y11] ∧ Strm H' p3 ∧ BL H' bs Bs ∧ StL H' st us ∧ us.length = ts.length ∧ du ≤ ts.length ∧ GoodS xs Bs.length ((us.take du).map (·.2)) ∧ ((i = 0 ∧ du = ts.length) ∨ ∃ t0, us[du]? = some t0 ∧ badAt Bs.length du t0.2))
      ⟨none, none, ts, ts.length, rfl, st14, bl14, sl14, rfl, Nat.le_refl _, by rw [List.take_length]; exact goodT b1, .inl ⟨rfl, rfl⟩⟩ ?_ ?_⟩
    · rintro i σ H15 hi ⟨y10, y11, us, du, rfl, st15, bl15, sl15, lu, dle, gd, bad⟩
      have lus : (us.map fun t => V.ref t.1).length = us.length := List.length_map _
      refine ⟨.ref p3, rfl, .ref st, rfl, st, _, rfl, .inl (sl_map sl15.lst), p3, _, rfl, st15, by rw [lus]; omega, by rw [lus]; omega, fun H16 at_ o16 st16 a0 a1 => ?_⟩
      obtain ⟨k, rfl⟩ : ∃ n : Nat, at_ = (n : Int) := ⟨at_.toNat, by omega⟩
      rw [lus] at a1
      have kk3 : Keep p3 H15 H16 := (Keep.refl p3 H15).oth o16
      have bl16 := bl15.keep st15 bsp aw3 kk3
      have sl16 := sl15.keep st15 stp3 kk3
      obtain ⟨t, ht⟩ : ∃ t, us[k]? = some t := ⟨_, List.getElem?_eq_getElem (by omega)⟩
      have et := sl16.tup t (List.mem_of_getElem? ht)
      refine ⟨.ref p3, rfl, .ref st, rfl, _, rfl, st, _, _, .ref t.1, rfl, rfl, sl_map sl16.lst, atI_nat (j := k) (by rw [List.getElem?_map, ht] <;> rfl), .ref bs, rfl, bs, _, rfl, .inl (sl_map bl16.lst), _, rfl, _, _, rfl, rfl, p3, t.1, t.2, _, rfl, st16, et, by rw [lbs]; omega, by rw [lbs]; omega, fun H17 T s' k17 st17 nT eT _ bs' => ?_⟩
      rw [lbs] at bs'
      have bl17 := bl16.keep st16 bsp aw3 k17
      have sl17 := sl16.keep st16 stp3 k17
      have nTs : T ≠ st := fun z => by rw [z, sl17.lst] at eT; cases eT
      refine ⟨.ref st, rfl, _, rfl, st, _, _, k, rfl, rfl, sl17.lst, ixN_nat (by rw [lus]; omega), ?_⟩
      have em : (if (k : Int) < (du : Int) then (k : Int) else (du : Int)) = ((min k du : Nat) : Int) := by split <;> omega
      have hset : ∀ j, j ≠ k → (us.set k (T, s'))[j]? = us[j]? := fun j hj => List.getElem?_set_ne (fun z => hj z.symm)
      have hk : (us.set k (T, s'))[k]? = some (T, s') := by rw [List.getElem?_set_self (by omega)]
      refine ⟨_, rfl, _, rfl, _, _, rfl, _, _, us.set k (T, s'), min k du, by rw [← em] <;> rfl, st17.upd stp3.symm, ⟨by rw [upd_ne bst]; exact bl17.lst, fun b hb => (bl17.box b hb).upd (stB b hb) (stS b hb)⟩, ⟨by rw [upd_same, List.map_set], fun u hu => ?_⟩, by rw [List.length_set]; exact lu, by omega, fun j s hs => ?_, .inr ?_⟩
      · have nu : H17 u.1 = some (.tup [.str u.2.1, .int u.2.2.1, .int u.2.2.2]) := by
          rcases List.mem_or_eq_of_mem_set hu with h | h
          · exact sl17.tup u h
          · rw [h]; exact eT
        have : u.1 ≠ st := fun z => by rw [z, sl17.lst] at nu; cases nu
        rw [upd_ne this]; exact nu
      · rw [List.getElem?_map, List.getElem?_take] at hs
        split at hs
        · next c =>
          rw [hset j (by omega)] at hs
          refine gd j s ?_
          rw [List.getElem?_map, List.getElem?_take_of_lt (by omega)]
          exact hs
        · cases hs
      · rcases Nat.lt_or_ge du k with h | h
        · rw [show min k du = du by omega, hset du (by omega)]
          rcases bad with ⟨_, h2⟩ | h2
          · omega
          · exact h2
        · rw [show min k du = k by omega]
          refine ⟨_, hk, ?_⟩
          unfold badAt
          show s'.2.1 < 0 ∨ s'.2.2 < 0 ∨ ((Bs.length + k : Nat) : Int) ≤ s'.2.1 ∨ ((Bs.length + k : Nat) : Int) ≤ s'.2.2
          rcases bs' with h | h | h | h <;> omega
    · rintro σ H15 ⟨y10, y11, us, du, rfl, st15, bl15, sl15, lu, dle, gd, bad⟩
      rcases bad with ⟨h, _⟩ | ⟨t0, h0, hb⟩
      · omega
      exact ⟨_, rfl, _, rfl, _, rfl, bs, st, Bs, us, xs, ns, du, t0, rfl, bl15, sl15, okc, by omega, n8, gd, h0, hb, by omega, fun H' _ => q H'⟩
end
end K6

set_option Elab.async false
set_option linter.all false
set_option maxRecDepth 100000
set_option maxHeartbeats 4000000
namespace K6
open PySem PySem.Spec PyProof.Rows L2 Cs CsX
/-! ### what the top has written -/
theorem all_mk {l : PySem.W.OpenLaw} {w : World} {K : PySem.W.Frag} {h : Heap} {mg : Str → Option Value} {fa f1 f2 f3 f4 f5 f6 f7 f8 f9 f10 f11 f12 f13 f14 f15 f16 f17 f18 f19 f20 f21 f22 f23 f24 f25 e0 e1 e2 e3 e4 e5 e6 e7 e8 e9 e10 e11 e12 e13 e14 e15 e16 e17 e18 e19 e20 e21 e22 e23 e24 i0 : Addr} (X : K.In h) (G : h.Ns mainGlobals mg) (hfa : mg "law" = some (.ref fa))
    {od1 an1 od2 an2 od3 an3 od4 an4 od5 an5 od6 an6 od7 an7 od8 an8 od9 an9 od10 an10 od11 an11 od12 an12 od13 an13 od14 an14 od15 an15 od16 an16 od17 an17 od18 an18 od19 an19 od20 an20 od21 an21 od22 an22 od23 an23 od24 an24 od25 an25 : Option Addr} {sl1 sl2 sl3 sl4 sl5 sl6 sl7 sl8 sl9 sl10 sl11 sl12 sl13 sl14 sl15 sl16 sl17 sl18 sl19 sl20 sl21 sl22 sl23 sl24 sl25 : Array (Option Value)}
    {oc1 kV1 dc1 pm1 cd1 ct1 oc2 kV2 dc2 pm2 cd2 ct2 oc3 kV3 dc3 pm3 cd3 ct3 oc4 kV4 dc4 pm4 cd4 ct4 oc5 kV5 dc5 pm5 cd5 ct5 oc6 kV6 dc6 pm6 cd6 ct6 oc7 kV7 dc7 pm7 cd7 ct7 oc8 kV8 dc8 pm8 cd8 ct8 oc9 kV9 dc9 pm9 cd9 ct9 oc10 kV10 dc10 pm10 cd10 ct10 oc11 kV11 dc11 pm11 cd11 ct11 oc12 kV12 dc12 pm12 cd12 ct12 oc13 kV13 dc13 pm13 cd13 ct13 oc14 kV14 dc14 pm14 cd14 ct14 oc15 kV15 dc15 pm15 cd15 ct15 oc16 kV16 dc16 pm16 cd16 ct16 oc17 kV17 dc17 pm17 cd17 ct17 oc18 kV18 dc18 pm18 cd18 ct18 oc19 kV19 dc19 pm19 cd19 ct19 oc20 kV20 dc20 pm20 cd20 ct20 oc21 kV21 dc21 pm21 cd21 ct21 oc22 kV22 dc22 pm22 cd22 ct22 oc23 kV23 dc23 pm23 cd23 ct23 oc24 kV24 dc24 pm24 cd24 ct24 oc25 kV25 dc25 pm25 cd25 ct25 : Value}
    {iod0 ian0 : Option Addr} {isl0 : Array (Option Value)} {ioc0 ikV0 idc0 ipm0 icd0 ict0 : Value} {nm0 q0 : Str} {N0 : Addr} {bs0 : List Value} {sn0 : List Str} {sub0 : List Value} {ab0 : Bool} {col0 : Option Bool} {dd0 : Option Addr} {m00 m10 m20 m30 m50 : Option Value}
    (a1 : PySem.W.nsIn K mainGlobals "common" = some (some (.ref f1))) (l1 : K.lookup f1 = some ⟨oc1, od1, .func (PySem.W.fnOf "common" "common" (defArgs sCommon) (defBody sCommon) (defScope sCommon) .none kV1 dc1 pm1 an1 cd1 ct1), sl1⟩) (c1 : PySem.W.codeIn K cd1 "common" = true) (k1 : PySem.W.keepIn K (.ref f1) = true)
    (a2 : PySem.W.nsIn K mainGlobals "united" = some (some (.ref f2))) (l2 : K.lookup f2 = some ⟨oc2, od2, .func (PySem.W.fnOf "united" "united" (defArgs sUnited) (defBody sUnited) (defScope sUnited) .none kV2 dc2 pm2 an2 cd2 ct2), sl2⟩) (c2 : PySem.W.codeIn K cd2 "united" = true) (k2 : PySem.W.keepIn K (.ref f2) = true)
    (a3 : PySem.W.nsIn K mainGlobals "copied_box" = some (some (.ref f3))) (l3 : K.lookup f3 = some ⟨oc3, od3, .func (PySem.W.fnOf "copied_box" "copied_box" (defArgs sCopy) (defBody sCopy) (defScope sCopy) .none kV3 dc3 pm3 an3 cd3 ct3), sl3⟩) (c3 : PySem.W.codeIn K cd3 "copied_box" = true) (k3 : PySem.W.keepIn K (.ref f3) = true)
    (a4 : PySem.W.nsIn K mainGlobals "meet_boxes" = some (some (.ref f4))) (l4 : K.lookup f4 = some ⟨oc4, od4, .func (PySem.W.fnOf "meet_boxes" "meet_boxes" (defArgs sMeet) (defBody sMeet) (defScope sMeet) .none kV4 dc4 pm4 an4 cd4 ct4), sl4⟩) (c4 : PySem.W.codeIn K cd4 "meet_boxes" = true) (k4 : PySem.W.keepIn K (.ref f4) = true)
    (a5 : PySem.W.nsIn K mainGlobals "join_boxes" = some (some (.ref f5))) (l5 : K.lookup f5 = some ⟨oc5, od5, .func (PySem.W.fnOf "join_boxes" "join_boxes" (defArgs sJoin) (defBody sJoin) (defScope sJoin) .none kV5 dc5 pm5 an5 cd5 ct5), sl5⟩) (c5 : PySem.W.codeIn K cd5 "join_boxes" = true) (k5 : PySem.W.keepIn K (.ref f5) = true)
    (a6 : PySem.W.nsIn K mainGlobals "_law_is_integer" = some (some (.ref f6))) (l6 : K.lookup f6 = some ⟨oc6, od6, .func (PySem.W.fnOf "_law_is_integer" "_law_is_integer" (defArgs sIsInt) (defBody sIsInt) (defScope sIsInt) .none kV6 dc6 pm6 an6 cd6 ct6), sl6⟩) (c6 : PySem.W.codeIn K cd6 "_law_is_integer" = true) (k6 : PySem.W.keepIn K (.ref f6) = true)
    (a7 : PySem.W.nsIn K mainGlobals "_law_stream" = some (some (.ref f7))) (l7 : K.lookup f7 = some ⟨oc7, od7, .func (PySem.W.fnOf "_law_stream" "_law_stream" (defArgs sStream) (defBody sStream) (defScope sStream) .none kV7 dc7 pm7 an7 cd7 ct7), sl7⟩) (c7 : PySem.W.codeIn K cd7 "_law_stream" = true) (k7 : PySem.W.keepIn K (.ref f7) = true)
    (a8 : PySem.W.nsIn K mainGlobals "_law_next" = some (some (.ref f8))) (l8 : K.lookup f8 = some ⟨oc8, od8, .func (PySem.W.fnOf "_law_next" "_law_next" (defArgs sDraw) (defBody sDraw) (defScope sDraw) .none kV8 dc8 pm8 an8 cd8 ct8), sl8⟩) (c8 : PySem.W.codeIn K cd8 "_law_next" = true) (k8 : PySem.W.keepIn K (.ref f8) = true)
    (a9 : PySem.W.nsIn K mainGlobals "_law_names" = some (some (.ref f9))) (l9 : K.lookup f9 = some ⟨oc9, od9, .func (PySem.W.fnOf "_law_names" "_law_names" (defArgs sNames) (defBody sNames) (defScope sNames) .none kV9 dc9 pm9 an9 cd9 ct9), sl9⟩) (c9 : PySem.W.codeIn K cd9 "_law_names" = true) (k9 : PySem.W.keepIn K (.ref f9) = true)
    (a10 : PySem.W.nsIn K mainGlobals "_law_pool" = some (some (.ref f10))) (l10 : K.lookup f10 = some ⟨oc10, od10, .func (PySem.W.fnOf "_law_pool" "_law_pool" (defArgs sPool) (defBody sPool) (defScope sPool) .none kV10 dc10 pm10 an10 cd10 ct10), sl10⟩) (c10 : PySem.W.codeIn K cd10 "_law_pool" = true) (k10 : PySem.W.keepIn K (.ref f10) = true)
    (a11 : PySem.W.nsIn K mainGlobals "_law_is_side" = some (some (.ref f11))) (l11 : K.lookup f11 = some ⟨oc11, od11, .func (PySem.W.fnOf "_law_is_side" "_law_is_side" (defArgs sIsSide) (defBody sIsSide) (defScope sIsSide) .none kV11 dc11 pm11 an11 cd11 ct11), sl11⟩) (c11 : PySem.W.codeIn K cd11 "_law_is_side" = true) (k11 : PySem.W.keepIn K (.ref f11) = true)
    (a12 : PySem.W.nsIn K mainGlobals "_law_same_sides" = some (some (.ref f12))) (l12 : K.lookup f12 = some ⟨oc12, od12, .func (PySem.W.fnOf "_law_same_sides" "_law_same_sides" (defArgs sSame) (defBody sSame) (defScope sSame) .none kV12 dc12 pm12 an12 cd12 ct12), sl12⟩) (c12 : PySem.W.codeIn K cd12 "_law_same_sides" = true) (k12 : PySem.W.keepIn K (.ref f12) = true)
    (a13 : PySem.W.nsIn K mainGlobals "_law_copied" = some (some (.ref f13))) (l13 : K.lookup f13 = some ⟨oc13, od13, .func (PySem.W.fnOf "_law_copied" "_law_copied" (defArgs sCopied) (defBody sCopied) (defScope sCopied) .none kV13 dc13 pm13 an13 cd13 ct13), sl13⟩) (c13 : PySem.W.codeIn K cd13 "_law_copied" = true) (k13 : PySem.W.keepIn K (.ref f13) = true)
    (a14 : PySem.W.nsIn K mainGlobals "run_plan" = some (some (.ref f14))) (l14 : K.lookup f14 = some ⟨oc14, od14, .func (PySem.W.fnOf "run_plan" "run_plan" (defArgs sRun) (defBody sRun) (defScope sRun) .none kV14 dc14 pm14 an14 cd14 ct14), sl14⟩) (c14 : PySem.W.codeIn K cd14 "run_plan" = true) (k14 : PySem.W.keepIn K (.ref f14) = true)
    (a15 : PySem.W.nsIn K mainGlobals "_law_told_position" = some (some (.ref f15))) (l15 : K.lookup f15 = some ⟨oc15, od15, .func (PySem.W.fnOf "_law_told_position" "_law_told_position" (defArgs sToldP) (defBody sToldP) (defScope sToldP) .none kV15 dc15 pm15 an15 cd15 ct15), sl15⟩) (c15 : PySem.W.codeIn K cd15 "_law_told_position" = true) (k15 : PySem.W.keepIn K (.ref f15) = true)
    (a16 : PySem.W.nsIn K mainGlobals "_law_drawn_sides" = some (some (.ref f16))) (l16 : K.lookup f16 = some ⟨oc16, od16, .func (PySem.W.fnOf "_law_drawn_sides" "_law_drawn_sides" (defArgs sDsd) (defBody sDsd) (defScope sDsd) .none kV16 dc16 pm16 an16 cd16 ct16), sl16⟩) (c16 : PySem.W.codeIn K cd16 "_law_drawn_sides" = true) (k16 : PySem.W.keepIn K (.ref f16) = true)
    (a17 : PySem.W.nsIn K mainGlobals "_law_join" = some (some (.ref f17))) (l17 : K.lookup f17 = some ⟨oc17, od17, .func (PySem.W.fnOf "_law_join" "_law_join" (defArgs sLjn) (defBody sLjn) (defScope sLjn) .none kV17 dc17 pm17 an17 cd17 ct17), sl17⟩) (c17 : PySem.W.codeIn K cd17 "_law_join" = true) (k17 : PySem.W.keepIn K (.ref f17) = true)
    (a18 : PySem.W.nsIn K mainGlobals "_law_joined" = some (some (.ref f18))) (l18 : K.lookup f18 = some ⟨oc18, od18, .func (PySem.W.fnOf "_law_joined" "_law_joined" (defArgs sLjd) (defBody sLjd) (defScope sLjd) .none kV18 dc18 pm18 an18 cd18 ct18), sl18⟩) (c18 : PySem.W.codeIn K cd18 "_law_joined" = true) (k18 : PySem.W.keepIn K (.ref f18) = true)
    (a19 : PySem.W.nsIn K mainGlobals "_law_good_steps" = some (some (.ref f19))) (l19 : K.lookup f19 = some ⟨oc19, od19, .func (PySem.W.fnOf "_law_good_steps" "_law_good_steps" (defArgs sGst) (defBody sGst) (defScope sGst) .none kV19 dc19 pm19 an19 cd19 ct19), sl19⟩) (c19 : PySem.W.codeIn K cd19 "_law_good_steps" = true) (k19 : PySem.W.keepIn K (.ref f19) = true)
    (a20 : PySem.W.nsIn K mainGlobals "_law_bad_step" = some (some (.ref f20))) (l20 : K.lookup f20 = some ⟨oc20, od20, .func (PySem.W.fnOf "_law_bad_step" "_law_bad_step" (defArgs sBds) (defBody sBds) (defScope sBds) .none kV20 dc20 pm20 an20 cd20 ct20), sl20⟩) (c20 : PySem.W.codeIn K cd20 "_law_bad_step" = true) (k20 : PySem.W.keepIn K (.ref f20) = true)
    (a21 : PySem.W.nsIn K mainGlobals "_law_same_boxes" = some (some (.ref f21))) (l21 : K.lookup f21 = some ⟨oc21, od21, .func (PySem.W.fnOf "_law_same_boxes" "_law_same_boxes" (defArgs sSbx) (defBody sSbx) (defScope sSbx) .none kV21 dc21 pm21 an21 cd21 ct21), sl21⟩) (c21 : PySem.W.codeIn K cd21 "_law_same_boxes" = true) (k21 : PySem.W.keepIn K (.ref f21) = true)
    (a22 : PySem.W.nsIn K mainGlobals "_law_all_new" = some (some (.ref f22))) (l22 : K.lookup f22 = some ⟨oc22, od22, .func (PySem.W.fnOf "_law_all_new" "_law_all_new" (defArgs sAln) (defBody sAln) (defScope sAln) .none kV22 dc22 pm22 an22 cd22 ct22), sl22⟩) (c22 : PySem.W.codeIn K cd22 "_law_all_new" = true) (k22 : PySem.W.keepIn K (.ref f22) = true)
    (a23 : PySem.W.nsIn K mainGlobals "_law_carried_out" = some (some (.ref f23))) (l23 : K.lookup f23 = some ⟨oc23, od23, .func (PySem.W.fnOf "_law_carried_out" "_law_carried_out" (defArgs sCar) (defBody sCar) (defScope sCar) .none kV23 dc23 pm23 an23 cd23 ct23), sl23⟩) (c23 : PySem.W.codeIn K cd23 "_law_carried_out" = true) (k23 : PySem.W.keepIn K (.ref f23) = true)
    (a24 : PySem.W.nsIn K mainGlobals "_law_refused" = some (some (.ref f24))) (l24 : K.lookup f24 = some ⟨oc24, od24, .func (PySem.W.fnOf "_law_refused" "_law_refused" (defArgs sRef) (defBody sRef) (defScope sRef) .none kV24 dc24 pm24 an24 cd24 ct24), sl24⟩) (c24 : PySem.W.codeIn K cd24 "_law_refused" = true) (k24 : PySem.W.keepIn K (.ref f24) = true)
    (a25 : PySem.W.nsIn K mainGlobals "law" = some (some (.ref f25))) (l25 : K.lookup f25 = some ⟨oc25, od25, .func (PySem.W.fnOf "law" "law" (defArgs sLaw) (defBody sLaw) (defScope sLaw) .none kV25 dc25 pm25 an25 cd25 ct25), sl25⟩) (c25 : PySem.W.codeIn K cd25 "law" = true) (k25 : PySem.W.keepIn K (.ref f25) = true)
    (cg0 : PySem.W.nsIn K mainGlobals "BadStep" = some (some (.ref e0)))
    (cg1 : PySem.W.nsIn K mainGlobals "DeskError" = some (some (.ref e1)))
    (cg2 : PySem.W.nsIn K mainGlobals "UnknownName" = some (some (.ref e2)))
    (cg3 : PySem.W.nsIn K mainGlobals "RepeatedName" = some (some (.ref e3)))
    (cg4 : PySem.W.nsIn K mainGlobals "UnknownValue" = some (some (.ref e4)))
    (cg5 : PySem.W.nsIn K mainGlobals "RepeatedValue" = some (some (.ref e5)))
    (cg6 : PySem.W.nsIn K mainGlobals "UnknownKey" = some (some (.ref e6)))
    (cg7 : PySem.W.nsIn K mainGlobals "RepeatedKey" = some (some (.ref e7)))
    (cg8 : PySem.W.nsIn K mainGlobals "EmptyRule" = some (some (.ref e8)))
    (cg9 : PySem.W.nsIn K mainGlobals "BadRow" = some (some (.ref e9)))
    (cg10 : PySem.W.nsIn K mainGlobals "BadBounds" = some (some (.ref e10)))
    (cg11 : PySem.W.nsIn K mainGlobals "BadNumber" = some (some (.ref e11)))
    (cg12 : PySem.W.nsIn K mainGlobals "NoMark" = some (some (.ref e12)))
    (cg13 : PySem.W.nsIn K mainGlobals "NotStruck" = some (some (.ref e13)))
    (cg14 : PySem.W.nsIn K mainGlobals "BadOrder" = some (some (.ref e14)))
    (cg15 : PySem.W.nsIn K mainGlobals "NotBare" = some (some (.ref e15)))
    (cg16 : PySem.W.nsIn K mainGlobals "NoClash" = some (some (.ref e16)))
    (cg17 : PySem.W.nsIn K mainGlobals "HoldsAnswer" = some (some (.ref e17)))
    (cg18 : PySem.W.nsIn K mainGlobals "BadLine" = some (some (.ref e18)))
    (cg19 : PySem.W.nsIn K mainGlobals "UnknownLine" = some (some (.ref e19)))
    (cg20 : PySem.W.nsIn K mainGlobals "BadText" = some (some (.ref e20)))
    (cg21 : PySem.W.nsIn K mainGlobals "NothingToUndo" = some (some (.ref e21)))
    (cg22 : PySem.W.nsIn K mainGlobals "NothingToRedo" = some (some (.ref e22)))
    (cg23 : PySem.W.nsIn K mainGlobals "UnknownStep" = some (some (.ref e23)))
    (cg24 : PySem.W.nsIn K mainGlobals "BadDeed" = some (some (.ref e24)))
    (x0 : K.lookup e0 = some (excClassObj nm0 q0 e0 N0 bs0 [.ref e1, .type "ValueError", .type "Exception", .type "BaseException", .type "object"] true sn0 sub0 ab0 col0 dd0 m00 m10 m20 m30 m50 "ValueError.__new__"))
    (xsa0 : PySem.W.findIn K (.ref e0) "__setattr__" = some (some (.builtin "object.__setattr__")))
    (xga0 : PySem.W.findIn K (.ref e0) "__getattribute__" = some (some (.builtin "BaseException.__getattribute__")))
    (xgg0 : PySem.W.findIn K (.ref e0) "__getattr__" = some none)
    (xf0_0 : PySem.W.findIn K (.ref e0) "position" = some none)
    (xin0 : PySem.W.findIn K (.ref e0) "__init__" = some (some (.ref i0)))
    (xti0 : PySem.W.typeIn K (.ref i0) = some (.type "function"))
    (xli0 : K.lookup i0 = some ⟨ioc0, iod0, .func (PySem.W.fnOf "__init__" "BadStep.__init__" (defArgs sBst) (defBody sBst) (defScope sBst) .none ikV0 idc0 ipm0 ian0 icd0 ict0), isl0⟩)
    (xci0 : PySem.W.codeIn K icd0 "BadStep.__init__" = true)
    (xki0 : PySem.W.keepIn K (.ref i0) = true)
    (xkc0 : PySem.W.keepIn K (.ref e0) = true)
    (xec0 : PySem.W.subIn K (.ref e0) (.type "BaseException") = some true)
    (xtc0 : PySem.W.typeIn K (.ref e0) = some (.type "type"))
    (xhc0 : PySem.W.hasDictIn K e0 = true)
    (xsc0 : PySem.W.subIn K (.ref e0) (.ref e0) = some true)
    (xha0 : PySem.W.findIn K (.ref e0) "__class__" = some (some (.builtin "object.__class__")))
    (xhn0 : PySem.W.specialIn K (.builtin "object.__class__") "__get__" = some (some (.builtin "getset_descriptor.__get__")))
    (xht0 : PySem.W.takesIn K (.builtin "object.__class__") = some true)
    (xhm0 : PySem.W.mroIn K e0 (.type "object") = some true)
    (ran0 : PySem.W.kitAny K (.ref e0) [.ref e2, .ref e3, .ref e4, .ref e5, .ref e6, .ref e7, .ref e8, .ref e9, .ref e10, .ref e11, .ref e12, .ref e13, .ref e14, .ref e15, .ref e16, .ref e17, .ref e18, .ref e19, .ref e20, .ref e21, .ref e22, .ref e23, .ref e24] = some false)
    (rkd0 : PySem.W.kitOne K (.ref e0) (.ref e1) = some true)
    (rkv0 : PySem.W.kitOne K (.ref e0) (.type "ValueError") = some true)
    (z1 : PySem.W.nsIn K mainGlobals "sorted" = some none) (z2 : PySem.W.nsIn K mainGlobals "set" = some none) (z3 : PySem.W.nsIn K mainGlobals "len" = some none) (z4 : PySem.W.nsIn K mainGlobals "isinstance" = some none) (z5 : PySem.W.nsIn K mainGlobals "int" = some none) (z6 : PySem.W.nsIn K mainGlobals "bool" = some none) (z7 : PySem.W.nsIn K mainGlobals "list" = some none) (z8 : PySem.W.nsIn K mainGlobals "all" = some none) (z9 : PySem.W.nsIn K mainGlobals "range" = some none) (z10 : PySem.W.nsIn K mainGlobals "dict" = some none) (z11 : PySem.W.nsIn K mainGlobals "min" = some none) (z12 : PySem.W.nsIn K mainGlobals "max" = some none) (z13 : PySem.W.nsIn K mainGlobals "enumerate" = some none) (z14 : PySem.W.nsIn K mainGlobals "ValueError" = some none) :
    ∃ fd : FuncData, (∀ (s : Shared) (v : Value), BindsTo s fd ⟨[v], []⟩ [("_law_script", v)]) ∧ ∀ base : Heap, K.In base → base.Ns mainGlobals mg → FnOk l.prog w K mg base CX0 7 fa fd ["_law_script"] (spLaw K) := by
  have e := hfa.symm.trans (PySem.W.mg_of X G a25)
  cases e
  have B : Bt mg := ⟨PySem.W.mg_none_of X G z1, PySem.W.mg_none_of X G z2, PySem.W.mg_none_of X G z3, PySem.W.mg_none_of X G z4, PySem.W.mg_none_of X G z5, PySem.W.mg_none_of X G z6, PySem.W.mg_none_of X G z7, PySem.W.mg_none_of X G z8, PySem.W.mg_none_of X G z9, PySem.W.mg_none_of X G z10⟩
  have F1 := fun_mk (st := sCommon) l1 c1 k1
  have b1 := F1.binds (ps := ["first", "second"]) fun _ _ _ _ _ _ us hl => match us, hl with | [_, _], _ => rfl
  have F2 := fun_mk (st := sUnited) l2 c2 k2
  have b2 := F2.binds (ps := ["first", "second"]) fun _ _ _ _ _ _ us hl => match us, hl with | [_, _], _ => rfl
  have F3 := fun_mk (st := sCopy) l3 c3 k3
  have b3 := F3.binds (ps := ["box"]) fun _ _ _ _ _ _ us hl => match us, hl with | [_], _ => rfl
  have F4 := fun_mk (st := sMeet) l4 c4 k4
  have b4 := F4.binds (ps := ["first", "second"]) fun _ _ _ _ _ _ us hl => match us, hl with | [_, _], _ => rfl
  have F5 := fun_mk (st := sJoin) l5 c5 k5
  have b5 := F5.binds (ps := ["first", "second", "name"]) fun _ _ _ _ _ _ us hl => match us, hl with | [_, _, _], _ => rfl
  have F6 := fun_mk (st := sIsInt) l6 c6 k6
  have b6 := F6.binds (ps := ["_law_actual"]) fun _ _ _ _ _ _ us hl => match us, hl with | [_], _ => rfl
  have F7 := fun_mk (st := sStream) l7 c7 k7
  have b7 := F7.binds (ps := ["_law_script", "_law_k"]) fun _ _ _ _ _ _ us hl => match us, hl with | [_, _], _ => rfl
  have F8 := fun_mk (st := sDraw) l8 c8 k8
  have b8 := F8.binds (ps := ["_law_stream_here", "_law_size"]) fun _ _ _ _ _ _ us hl => match us, hl with | [_, _], _ => rfl
  have F9 := fun_mk (st := sNames) l9 c9 k9
  have b9 := F9.binds (ps := ["_law_stream_here", "_law_count"]) fun _ _ _ _ _ _ us hl => match us, hl with | [_, _], _ => rfl
  have F10 := fun_mk (st := sPool) l10 c10 k10
  have b10 := F10.binds (ps := ["_law_stream_here", "_law_count"]) fun _ _ _ _ _ _ us hl => match us, hl with | [_, _], _ => rfl
  have F11 := fun_mk (st := sIsSide) l11 c11 k11
  have b11 := F11.binds (ps := ["_law_actual"]) fun _ _ _ _ _ _ us hl => match us, hl with | [_], _ => rfl
  have F12 := fun_mk (st := sSame) l12 c12 k12
  have b12 := F12.binds (ps := ["_law_actual", "_law_expected"]) fun _ _ _ _ _ _ us hl => match us, hl with | [_, _], _ => rfl
  have F13 := fun_mk (st := sCopied) l13 c13 k13
  have b13 := F13.binds (ps := ["_law_sides"]) fun _ _ _ _ _ _ us hl => match us, hl with | [_], _ => rfl
  have F14 := fun_mk (st := sRun) l14 c14 k14
  have b14 := F14.binds (ps := ["boxes", "steps"]) fun _ _ _ _ _ _ us hl => match us, hl with | [_, _], _ => rfl
  have F15 := fun_mk (st := sToldP) l15 c15 k15
  have b15 := F15.binds (ps := ["_law_boxes", "_law_steps"]) fun _ _ _ _ _ _ us hl => match us, hl with | [_, _], _ => rfl
  have F16 := fun_mk (st := sDsd) l16 c16 k16
  have b16 := F16.binds (ps := ["_law_stream_here", "_law_names_here", "_law_pool_here"]) fun _ _ _ _ _ _ us hl => match us, hl with | [_, _, _], _ => rfl
  have F17 := fun_mk (st := sLjn) l17 c17 k17
  have b17 := F17.binds (ps := ["_law_first", "_law_second", "_law_name"]) fun _ _ _ _ _ _ us hl => match us, hl with | [_, _, _], _ => rfl
  have F18 := fun_mk (st := sLjd) l18 c18 k18
  have b18 := F18.binds (ps := ["_law_boxes", "_law_steps"]) fun _ _ _ _ _ _ us hl => match us, hl with | [_, _], _ => rfl
  have F19 := fun_mk (st := sGst) l19 c19 k19
  have b19 := F19.binds (ps := ["_law_stream_here", "_law_names_here", "_law_start", "_law_count"]) fun _ _ _ _ _ _ us hl => match us, hl with | [_, _, _, _], _ => rfl
  have F20 := fun_mk (st := sBds) l20 c20 k20
  have b20 := F20.binds (ps := ["_law_stream_here", "_law_step", "_law_own"]) fun _ _ _ _ _ _ us hl => match us, hl with | [_, _, _], _ => rfl
  have F21 := fun_mk (st := sSbx) l21 c21 k21
  have b21 := F21.binds (ps := ["_law_told", "_law_expected"]) fun _ _ _ _ _ _ us hl => match us, hl with | [_, _], _ => rfl
  have F22 := fun_mk (st := sAln) l22 c22 k22
  have b22 := F22.binds (ps := ["_law_told", "_law_expected"]) fun _ _ _ _ _ _ us hl => match us, hl with | [_, _], _ => rfl
  have F23 := fun_mk (st := sCar) l23 c23 k23
  have b23 := F23.binds (ps := ["_law_boxes", "_law_steps"]) fun _ _ _ _ _ _ us hl => match us, hl with | [_, _], _ => rfl
  have F24 := fun_mk (st := sRef) l24 c24 k24
  have b24 := F24.binds (ps := ["_law_boxes", "_law_steps", "_law_due"]) fun _ _ _ _ _ _ us hl => match us, hl with | [_, _, _], _ => rfl
  have F25 := fun_mk (st := sLaw) l25 c25 k25
  have U0 : Own K mg "BadStep" e0 i0 ["position"] := { gC := PySem.W.mg_of X G cg0, oex := ⟨⟨nm0, q0, N0, bs0, _, sn0, sub0, ab0, col0, dd0, m00, m10, m20, m30, m50, x0, rfl⟩, xsa0, xec0, xtc0, xkc0⟩, xf := ⟨xga0, xgg0, xec0, xhc0⟩, iC := xin0, tI := xti0, ex := ⟨xga0, xgg0, xec0, xhc0, xha0, xhn0, xht0, xhm0⟩, te := PySem.W.exm_ref xec0 xhc0 xtc0 xsc0, no := (fun f hf => (List.mem_singleton.mp hf) ▸ xf0_0) }
  have I0 := fun_mk (st := sBst) xli0 xci0 xki0
  have ib0 := I0.binds (ps := ["self", "position"]) fun _ _ _ _ _ _ us hl => match us, hl with | [_, _], _ => rfl
  have at0 : ∀ (i : Nat) (x : Str), othersP[i]? = some x → mg x = some (.ref (([e2, e3, e4, e5, e6, e7, e8, e9, e10, e11, e12, e13, e14, e15, e16, e17, e18, e19, e20, e21, e22, e23, e24] : List Addr).getD i 0)) := by
    intro i x hx
    match i, hx with
    | 0, hx => obtain rfl := Option.some.inj hx; exact PySem.W.mg_of X G cg2
    | 1, hx => obtain rfl := Option.some.inj hx; exact PySem.W.mg_of X G cg3
    | 2, hx => obtain rfl := Option.some.inj hx; exact PySem.W.mg_of X G cg4
    | 3, hx => obtain rfl := Option.some.inj hx; exact PySem.W.mg_of X G cg5
    | 4, hx => obtain rfl := Option.some.inj hx; exact PySem.W.mg_of X G cg6
    | 5, hx => obtain rfl := Option.some.inj hx; exact PySem.W.mg_of X G cg7
    | 6, hx => obtain rfl := Option.some.inj hx; exact PySem.W.mg_of X G cg8
    | 7, hx => obtain rfl := Option.some.inj hx; exact PySem.W.mg_of X G cg9
    | 8, hx => obtain rfl := Option.some.inj hx; exact PySem.W.mg_of X G cg10
    | 9, hx => obtain rfl := Option.some.inj hx; exact PySem.W.mg_of X G cg11
    | 10, hx => obtain rfl := Option.some.inj hx; exact PySem.W.mg_of X G cg12
    | 11, hx => obtain rfl := Option.some.inj hx; exact PySem.W.mg_of X G cg13
    | 12, hx => obtain rfl := Option.some.inj hx; exact PySem.W.mg_of X G cg14
    | 13, hx => obtain rfl := Option.some.inj hx; exact PySem.W.mg_of X G cg15
    | 14, hx => obtain rfl := Option.some.inj hx; exact PySem.W.mg_of X G cg16
    | 15, hx => obtain rfl := Option.some.inj hx; exact PySem.W.mg_of X G cg17
    | 16, hx => obtain rfl := Option.some.inj hx; exact PySem.W.mg_of X G cg18
    | 17, hx => obtain rfl := Option.some.inj hx; exact PySem.W.mg_of X G cg19
    | 18, hx => obtain rfl := Option.some.inj hx; exact PySem.W.mg_of X G cg20
    | 19, hx => obtain rfl := Option.some.inj hx; exact PySem.W.mg_of X G cg21
    | 20, hx => obtain rfl := Option.some.inj hx; exact PySem.W.mg_of X G cg22
    | 21, hx => obtain rfl := Option.some.inj hx; exact PySem.W.mg_of X G cg23
    | 22, hx => obtain rfl := Option.some.inj hx; exact PySem.W.mg_of X G cg24
    | k + 23, hx => exact absurd (show none = some x from hx) (by simp)
  have E0 : Errs othersP K mg e0 e1 [e2, e3, e4, e5, e6, e7, e8, e9, e10, e11, e12, e13, e14, e15, e16, e17, e18, e19, e20, e21, e22, e23, e24] := ⟨⟨_, _, _, _, _, _, _, _, _, _, _, _, _, _, _, _, _, _, _, _, _, _, _, rfl⟩, at0, ran0, PySem.W.mg_of X G cg1, rkd0, rkv0, PySem.W.mg_none_of X G z14⟩
  refine ⟨PySem.W.fnOf "law" "law" (defArgs sLaw) (defBody sLaw) (defScope sLaw) .none kV25 dc25 pm25 an25 cd25 ct25, fun s v => .of_eq rfl, fun base _ _ => ?_⟩
  have Cco : Call l.prog w K mg base 1 "common" f1 _ ["first", "second"] (spTwo K fun ns ks k => k ∈ ns ∧ k ∈ ks) := ⟨ok_common F1 B, PySem.W.mg_of X G a1, k1, b1⟩
  have Cun : Call l.prog w K mg base 1 "united" f2 _ ["first", "second"] (spTwo K fun ns ks k => k ∈ ns ∨ k ∈ ks) := ⟨ok_united F2 B, PySem.W.mg_of X G a2, k2, b2⟩
  have Ccb : Call l.prog w K mg base 1 "copied_box" f3 _ ["box"] spCopy := ⟨ok_copy F3 B, PySem.W.mg_of X G a3, k3, b3⟩
  have Cme : Call l.prog w K mg base 2 "meet_boxes" f4 _ ["first", "second"] spMeet := ⟨ok_meet F4 B Ccb Cco, PySem.W.mg_of X G a4, k4, b4⟩
  have Cjo : Call l.prog w K mg base 3 "join_boxes" f5 _ ["first", "second", "name"] spJoin := ⟨ok_join F5 B Cme Cun, PySem.W.mg_of X G a5, k5, b5⟩
  have Cii : Call l.prog w K mg base 1 "_law_is_integer" f6 _ ["_law_actual"] spIsInt := ⟨ok_isInt F6 B, PySem.W.mg_of X G a6, k6, b6⟩
  have Cst : Call l.prog w K mg base 1 "_law_stream" f7 _ ["_law_script", "_law_k"] (spStream K) := ⟨ok_stream F7 B, PySem.W.mg_of X G a7, k7, b7⟩
  have D : Call l.prog w K mg base 1 "_law_next" f8 _ ["_law_stream_here", "_law_size"] spDraw := ⟨ok_draw F8 B, PySem.W.mg_of X G a8, k8, b8⟩
  have Cna : Call l.prog w K mg base 2 "_law_names" f9 _ ["_law_stream_here", "_law_count"] spNames := ⟨ok_names F9 B D, PySem.W.mg_of X G a9, k9, b9⟩
  have Cpo : Call l.prog w K mg base 2 "_law_pool" f10 _ ["_law_stream_here", "_law_count"] spPool := ⟨ok_pool F10 B D, PySem.W.mg_of X G a10, k10, b10⟩
  have Cis : Call l.prog w K mg base 2 "_law_is_side" f11 _ ["_law_actual"] spIsSide := ⟨ok_isSide F11 B Cii, PySem.W.mg_of X G a11, k11, b11⟩
  have Csa : Call l.prog w K mg base 3 "_law_same_sides" f12 _ ["_law_actual", "_law_expected"] spSame := ⟨ok_same F12 B Cis, PySem.W.mg_of X G a12, k12, b12⟩
  have Ccp : Call l.prog w K mg base 1 "_law_copied" f13 _ ["_law_sides"] spCopy := ⟨ok_copied F13 B, PySem.W.mg_of X G a13, k13, b13⟩
  have CRun : Call l.prog w K mg base 4 "run_plan" f14 _ ["boxes", "steps"] spRun := ⟨ok_Run F14 B (PySem.W.mg_none_of X G z11) (PySem.W.mg_none_of X G z12) (PySem.W.mg_none_of X G z13) Ccb Cjo, PySem.W.mg_of X G a14, k14, b14⟩
  have Ibs : CallI l.prog w K mg base i0 _ ["self", "position"] (spIni e0 "position") := ⟨ok_Bst I0 U0, ib0⟩
  have XRun : CallX l.prog w K mg base 4 "run_plan" f14 _ ["boxes", "steps"] (spRunX e0) := ⟨ok_RunX F14 B (PySem.W.mg_none_of X G z11) (PySem.W.mg_none_of X G z12) (PySem.W.mg_none_of X G z13) Ccb Cjo U0 Ibs, PySem.W.mg_of X G a14, k14, b14⟩
  have CtoldP : Call l.prog w K mg base 5 "_law_told_position" f15 _ ["_law_boxes", "_law_steps"] spToldP := ⟨ok_toldP F15 B U0 E0 XRun, PySem.W.mg_of X G a15, k15, b15⟩
  have CDsd : Call l.prog w K mg base 2 "_law_drawn_sides" f16 _ ["_law_stream_here", "_law_names_here", "_law_pool_here"] spDsd := ⟨ok_Dsd F16 B  D, PySem.W.mg_of X G a16, k16, b16⟩
  have CLjn : Call l.prog w K mg base 1 "_law_join" f17 _ ["_law_first", "_law_second", "_law_name"] spLjn := ⟨ok_Ljn F17 B  , PySem.W.mg_of X G a17, k17, b17⟩
  have CLjd : Call l.prog w K mg base 2 "_law_joined" f18 _ ["_law_boxes", "_law_steps"] spRun := ⟨ok_Ljd F18 B  Ccp CLjn, PySem.W.mg_of X G a18, k18, b18⟩
  have CGst : Call l.prog w K mg base 2 "_law_good_steps" f19 _ ["_law_stream_here", "_law_names_here", "_law_start", "_law_count"] spGst := ⟨ok_Gst F19 B (PySem.W.mg_none_of X G z12) D, PySem.W.mg_of X G a19, k19, b19⟩
  have CBds : Call l.prog w K mg base 2 "_law_bad_step" f20 _ ["_law_stream_here", "_law_step", "_law_own"] spBds := ⟨ok_Bds F20 B  D, PySem.W.mg_of X G a20, k20, b20⟩
  have CSbx : Call l.prog w K mg base 4 "_law_same_boxes" f21 _ ["_law_told", "_law_expected"] spSbx := ⟨ok_Sbx F21 B  Csa, PySem.W.mg_of X G a21, k21, b21⟩
  have CAln : Call l.prog w K mg base 1 "_law_all_new" f22 _ ["_law_told", "_law_expected"] spAln := ⟨ok_Aln F22 B  , PySem.W.mg_of X G a22, k22, b22⟩
  have CCar : Call l.prog w K mg base 5 "_law_carried_out" f23 _ ["_law_boxes", "_law_steps"] spCar := ⟨ok_Car F23 B  CLjd Ccp CRun CSbx CAln, PySem.W.mg_of X G a23, k23, b23⟩
  have CRef : Call l.prog w K mg base 6 "_law_refused" f24 _ ["_law_boxes", "_law_steps", "_law_due"] spRef := ⟨ok_Ref F24 B  CCar Ccp CtoldP Cii, PySem.W.mg_of X G a24, k24, b24⟩
  exact ok_Law F25 B (PySem.W.mg_none_of X G z11) Cst Cna Cpo CGst CRef D CCar CBds CDsd
theorem walk {l : PySem.W.OpenLaw} {q : Program} {loose : List Str} {XP : (Str → Option Value) → Heap → Prop} {YP : World → Heap → Prop} {d : DefRec} {K : Params → PySem.W.Frag} (hn : l.most = some 63) (hdf : d.params.defaults = [])
    (hY : ∀ (w : World) (h : Heap), YP w h → (K w.params).In h)
    (F : ∀ (w : World) (mg : Str → Option Value) (fa : Addr) (h : Heap), (K w.params).In h → h.Ns mainGlobals mg → mg d.name = some (.ref fa) →
      ∃ fd : FuncData, (∀ (s : Shared) (u : Value), BindsTo s fd ⟨[u], []⟩ [("_law_script", u)]) ∧ ∀ base : Heap, (K w.params).In base → base.Ns mainGlobals mg → FnOk l.prog w (K w.params) mg base CX0 7 fa fd ["_law_script"] (spLaw (K w.params))) :
    PySem.W.WalkO q loose XP YP l.row.toRowW d [] (fun f vs => PySem.call f vs) :=
  L2.walk_of (n := 63) (k := 7) (x := "_law_script") (CX := fun _ => CX0) (sp := fun w => spLaw (K w.params)) hn (by decide) hdf ⟨rfl, by decide, by decide⟩ hY F (fun _ _ a ns hl _ hS => ⟨a, ns, rfl, hS, hl, fun _ => rfl⟩) fun _ _ _ _ _ z => z
end K6

set_option Elab.async false
set_option linter.all false
open PySem PySem.W PyProof.Rows
set_option maxRecDepth 100000 in
set_option maxHeartbeats 0 in
theorem PySem.Challenge.cw_curbdesk_k06_run_plan_holds : PySem.Challenge.rw_curbdesk_k06_run_plan.Holds := by
  w_on; o_law; k_head; (case hw => w_witness2)
  k_fill
  refine K6.walk (l := PySem.Challenge.rw_curbdesk_k06_run_plan) rfl rfl (fun w h Y => PySem.W.kIn_of Y) ?F
  case F =>
    intro w mg fa h KX G hmg
    refine' K6.all_mk KX G hmg ?a1 ?l1 ?c1 ?k1 ?a2 ?l2 ?c2 ?k2 ?a3 ?l3 ?c3 ?k3 ?a4 ?l4 ?c4 ?k4 ?a5 ?l5 ?c5 ?k5 ?a6 ?l6 ?c6 ?k6 ?a7 ?l7 ?c7 ?k7 ?a8 ?l8 ?c8 ?k8 ?a9 ?l9 ?c9 ?k9 ?a10 ?l10 ?c10 ?k10 ?a11 ?l11 ?c11 ?k11 ?a12 ?l12 ?c12 ?k12 ?a13 ?l13 ?c13 ?k13 ?a14 ?l14 ?c14 ?k14 ?a15 ?l15 ?c15 ?k15 ?a16 ?l16 ?c16 ?k16 ?a17 ?l17 ?c17 ?k17 ?a18 ?l18 ?c18 ?k18 ?a19 ?l19 ?c19 ?k19 ?a20 ?l20 ?c20 ?k20 ?a21 ?l21 ?c21 ?k21 ?a22 ?l22 ?c22 ?k22 ?a23 ?l23 ?c23 ?k23 ?a24 ?l24 ?c24 ?k24 ?a25 ?l25 ?c25 ?k25 ?cg0 ?cg1 ?cg2 ?cg3 ?cg4 ?cg5 ?cg6 ?cg7 ?cg8 ?cg9 ?cg10 ?cg11 ?cg12 ?cg13 ?cg14 ?cg15 ?cg16 ?cg17 ?cg18 ?cg19 ?cg20 ?cg21 ?cg22 ?cg23 ?cg24 ?x0 ?xsa0 ?xga0 ?xgg0 ?xf0_0 ?xin0 ?xti0 ?xli0 ?xci0 ?xki0 ?xkc0 ?xec0 ?xtc0 ?xhc0 ?xsc0 ?xha0 ?xhn0 ?xht0 ?xhm0 ?ran0 ?rkd0 ?rkv0 ?z1 ?z2 ?z3 ?z4 ?z5 ?z6 ?z7 ?z8 ?z9 ?z10 ?z11 ?z12 ?z13 ?z14
    (case a1 => k_is)
    (case l1 => k_is)
    (case c1 => k_is)
    (case k1 => k_is)
    (case a2 => k_is)
    (case l2 => k_is)
    (case c2 => k_is)
    (case k2 => k_is)
    (case a3 => k_is)
    (case l3 => k_is)
    (case c3 => k_is)
    (case k3 => k_is)
    (case a4 => k_is)
    (case l4 => k_is)
    (case c4 => k_is)
    (case k4 => k_is)
    (case a5 => k_is)
    (case l5 => k_is)
    (case c5 => k_is)
    (case k5 => k_is)
    (case a6 => k_is)
    (case l6 => k_is)
    (case c6 => k_is)
    (case k6 => k_is)
    (case a7 => k_is)
    (case l7 => k_is)
    (case c7 => k_is)
    (case k7 => k_is)
    (case a8 => k_is)
    (case l8 => k_is)
    (case c8 => k_is)
    (case k8 => k_is)
    (case a9 => k_is)
    (case l9 => k_is)
    (case c9 => k_is)
    (case k9 => k_is)
    (case a10 => k_is)
    (case l10 => k_is)
    (case c10 => k_is)
    (case k10 => k_is)
    (case a11 => k_is)
    (case l11 => k_is)
    (case c11 => k_is)
    (case k11 => k_is)
    (case a12 => k_is)
    (case l12 => k_is)
    (case c12 => k_is)
    (case k12 => k_is)
    (case a13 => k_is)
    (case l13 => k_is)
    (case c13 => k_is)
    (case k13 => k_is)
    (case a14 => k_is)
    (case l14 => k_is)
    (case c14 => k_is)
    (case k14 => k_is)
    (case a15 => k_is)
    (case l15 => k_is)
    (case c15 => k_is)
    (case k15 => k_is)
    (case a16 => k_is)
    (case l16 => k_is)
    (case c16 => k_is)
    (case k16 => k_is)
    (case a17 => k_is)
    (case l17 => k_is)
    (case c17 => k_is)
    (case k17 => k_is)
    (case a18 => k_is)
    (case l18 => k_is)
    (case c18 => k_is)
    (case k18 => k_is)
    (case a19 => k_is)
    (case l19 => k_is)
    (case c19 => k_is)
    (case k19 => k_is)
    (case a20 => k_is)
    (case l20 => k_is)
    (case c20 => k_is)
    (case k20 => k_is)
    (case a21 => k_is)
    (case l21 => k_is)
    (case c21 => k_is)
    (case k21 => k_is)
    (case a22 => k_is)
    (case l22 => k_is)
    (case c22 => k_is)
    (case k22 => k_is)
    (case a23 => k_is)
    (case l23 => k_is)
    (case c23 => k_is)
    (case k23 => k_is)
    (case a24 => k_is)
    (case l24 => k_is)
    (case c24 => k_is)
    (case k24 => k_is)
    (case a25 => k_is)
    (case l25 => k_is)
    (case c25 => k_is)
    (case k25 => k_is)
    (case cg0 => k_is)
    (case cg1 => k_is)
    (case cg2 => k_is)
    (case cg3 => k_is)
    (case cg4 => k_is)
    (case cg5 => k_is)
    (case cg6 => k_is)
    (case cg7 => k_is)
    (case cg8 => k_is)
    (case cg9 => k_is)
    (case cg10 => k_is)
    (case cg11 => k_is)
    (case cg12 => k_is)
    (case cg13 => k_is)
    (case cg14 => k_is)
    (case cg15 => k_is)
    (case cg16 => k_is)
    (case cg17 => k_is)
    (case cg18 => k_is)
    (case cg19 => k_is)
    (case cg20 => k_is)
    (case cg21 => k_is)
    (case cg22 => k_is)
    (case cg23 => k_is)
    (case cg24 => k_is)
    (case x0 => first | k_is | rfl)
    (case xsa0 => first | k_is | rfl)
    (case xga0 => first | k_is | rfl)
    (case xgg0 => first | k_is | rfl)
    (case xf0_0 => first | k_is | rfl)
    (case xin0 => first | k_is | rfl)
    (case xti0 => first | k_is | rfl)
    (case xli0 => first | k_is | rfl)
    (case xci0 => first | k_is | rfl)
    (case xki0 => first | k_is | rfl)
    (case xkc0 => first | k_is | rfl)
    (case xec0 => first | k_is | rfl)
    (case xtc0 => first | k_is | rfl)
    (case xhc0 => first | k_is | rfl)
    (case xsc0 => first | k_is | rfl)
    (case xha0 => first | k_is | rfl)
    (case xhn0 => first | k_is | rfl)
    (case xht0 => first | k_is | rfl)
    (case xhm0 => first | k_is | rfl)
    (case ran0 => first | k_is | rfl)
    (case rkd0 => first | k_is | rfl)
    (case rkv0 => first | k_is | rfl)
    (case z1 => k_is)
    (case z2 => k_is)
    (case z3 => k_is)
    (case z4 => k_is)
    (case z5 => k_is)
    (case z6 => k_is)
    (case z7 => k_is)
    (case z8 => k_is)
    (case z9 => k_is)
    (case z10 => k_is)
    (case z11 => k_is)
    (case z12 => k_is)
    (case z13 => k_is)
    (case z14 => k_is)
