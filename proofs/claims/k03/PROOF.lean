import PyProof.Rows.All
import Wide.All
import OpenK.AllK
import Wide.FinOn
import HandS.ForMost
import HandS.Strs
import HandS.Set
import HandS.SetFor
import HandS.TupSets
import HandS.IsInst
import HandS.Flow
import HandS.Style
import HandS.Zip
import HandS.SortInts
import HandS.DeepEq
import HandS.SetBool
import HandS.SetKeys
import HandS.ExcInit
import HandS.ExcField
import HandS.ExcOwn
import HandS.WordsExc
import HandS.ExcIs
import KE.KExcIs
import HandS.Walk
import HandS.DictComp
import HandS.Wide
import PyProof.Rows.StrMul
import PySem.Challenge.RW_curbdesk_k03_numbers_of_assignments
set_option Elab.async false
set_option linter.all false
set_option maxRecDepth 100000
/-! Tables of sets that are laid anew, for the masks that merging asks for. -/
namespace Cs
open PySem PySem.Spec PyProof.Rows

def hop (m : Nat) (q : Nat × Nat) : Nat × Nat := SetTable.leap m q.1 q.2
def hops (m : Nat) : Nat → Nat × Nat → Nat × Nat
  | 0, q => q
  | n + 1, q => hops m n (hop m q)
abbrev own (ow : Array (Option Nat)) (j : Nat) : Option Nat := ow.getD j (some 0)

theorem free_step (m : Nat) (ow : Array (Option Nat)) (f : Nat) (q : Nat × Nat) : SetTable.layClean.free m ow (f + 1) q.1 q.2 =
    (match (List.range (SetTable.runEnd m q.1 + 1 - q.1)).find? (fun k => (own ow (q.1 + k)).isNone) with
      | some k => some (q.1 + k)
      | none => SetTable.layClean.free m ow f (hop m q).1 (hop m q).2) := rfl
theorem run_ge (m i : Nat) : i ≤ SetTable.runEnd m i := by
  unfold SetTable.runEnd
  split <;> omega
theorem run_le {m i : Nat} (h : i ≤ m) : SetTable.runEnd m i ≤ m := by
  unfold SetTable.runEnd
  split <;> omega
theorem hop_le (m : Nat) (q : Nat × Nat) : (hop m q).1 ≤ m := Nat.le_of_lt_succ (Nat.mod_lt _ (Nat.succ_pos m))

theorem free_none (m : Nat) (ow : Array (Option Nat)) : ∀ (f : Nat) (q : Nat × Nat), SetTable.layClean.free m ow f q.1 q.2 = none → ∀ n, n < f → (own ow (hops m n q).1).isNone = false
  | 0, _, _, n, h => absurd h (Nat.not_lt_zero n)
  | f + 1, q, e, n, h => by
    rw [free_step] at e
    cases c : (List.range (SetTable.runEnd m q.1 + 1 - q.1)).find? (fun k => (own ow (q.1 + k)).isNone) with
    | some k => rw [c] at e; exact nomatch e
    | none =>
      rw [c] at e
      cases n with
      | zero =>
        have z := List.find?_eq_none.mp c 0 (List.mem_range.mpr (by have := run_ge m q.1; omega))
        have z2 : ¬ ((own ow q.1).isNone = true) := z
        exact Bool.eq_false_iff.mpr z2
      | succ n => exact free_none m ow f (hop m q) e n (by omega)

theorem free_some (m : Nat) (ow : Array (Option Nat)) : ∀ (f : Nat) (q : Nat × Nat) (j : Nat), SetTable.layClean.free m ow f q.1 q.2 = some j → q.1 ≤ m → j ≤ m ∧ (own ow j).isNone = true
  | 0, _, _, e, _ => nomatch e
  | f + 1, q, j, e, hq => by
    rw [free_step] at e
    cases c : (List.range (SetTable.runEnd m q.1 + 1 - q.1)).find? (fun k => (own ow (q.1 + k)).isNone) with
    | some k =>
      rw [c] at e
      have ej : q.1 + k = j := Option.some.inj e
      have h1 := List.mem_of_find?_eq_some c
      have h2 := List.find?_some c
      have h3 := List.mem_range.mp h1
      have h4 := run_le hq
      rw [← ej]
      exact ⟨by omega, h2⟩
    | none =>
      rw [c] at e
      exact free_some m ow f (hop m q) j e (hop_le m q)

theorem hops_back (m : Nat) : ∀ (n : Nat) (q : Nat × Nat), hops m (n + 1) q = hop m (hops m n q)
  | 0, _ => rfl
  | n + 1, q => hops_back m n (hop m q)
theorem hops_add (m : Nat) (a : Nat) : ∀ (k : Nat) (q : Nat × Nat), hops m (a + k) q = hops m k (hops m a q)
  | 0, _ => rfl
  | k + 1, q => by
    rw [show a + (k + 1) = (a + k) + 1 from rfl, hops_back, hops_back, hops_add m a k q]
theorem hops_snd (m : Nat) : ∀ (n : Nat) (q : Nat × Nat), (hops m n q).2 = q.2 / 32 ^ n
  | 0, q => (Nat.div_one q.2).symm
  | n + 1, q => by
    rw [hops_back]
    show (hops m n q).2 / 32 = _
    rw [hops_snd m n q, Nat.div_div_eq_div_mul, Nat.pow_succ]
theorem hops_fst_le (m : Nat) {q : Nat × Nat} (hq : q.1 ≤ m) : ∀ n, (hops m n q).1 ≤ m
  | 0 => hq
  | n + 1 => by rw [hops_back]; exact hop_le m _
theorem hops_zero (m i : Nat) : ∀ k, hops m k (i, 0) = (L2.lcgI m i k, 0)
  | 0 => rfl
  | k + 1 => by
    rw [hops_back, hops_zero m i k]
    show ((L2.lcgI m i k * 5 + 1 + 0 / 32) % (m + 1), 0 / 32) = _
    rw [Nat.zero_div, Nat.add_zero] <;> rfl

def Msk (m : Nat) : Prop := m = 7 ∨ m = 15 ∨ m = 31 ∨ m = 63 ∨ m = 127
def meetsAll (m : Nat) : Bool := (List.range (m + 1)).all fun i => (List.range (m + 1)).all fun j => (List.range (m + 1)).any fun k => L2.lcgI m i k == j
theorem lcg_of {m : Nat} (h : meetsAll m = true) {i j : Nat} (hi : i ≤ m) (hj : j ≤ m) : ∃ k, k ≤ m ∧ L2.lcgI m i k = j := by
  have h1 := List.all_eq_true.mp (List.all_eq_true.mp h i (List.mem_range.mpr (by omega))) j (List.mem_range.mpr (by omega))
  obtain ⟨k, hk, e⟩ := List.any_eq_true.mp h1
  exact ⟨k, Nat.le_of_lt_succ (List.mem_range.mp hk), eq_of_beq e⟩
/- one round from 0, then the shift -/
theorem all15 : ((List.range 16).all fun j => (List.range 16).any fun b => L2.lcgN 15 b == j) = true := by decide +kernel
theorem all63 : ((List.range 64).all fun j => (List.range 64).any fun b => L2.lcgN 63 b == j) = true := by decide +kernel
theorem round15 : L2.lcgN 15 16 = 0 := by decide +kernel
theorem round63 : L2.lcgN 63 64 = 0 := by decide +kernel
theorem turn_mod {m : Nat} (h : L2.lcgN m (m + 1) = 0) : ∀ k, L2.lcgN m (m + 1 + k) = L2.lcgN m k
  | 0 => h
  | k + 1 => by
    show (L2.lcgN m (m + 1 + k) * 5 + 1) % (m + 1) = (L2.lcgN m k * 5 + 1) % (m + 1)
    rw [turn_mod h k]
theorem lcg_by {m : Nat} (hr : L2.lcgN m (m + 1) = 0) (ha : ((List.range (m + 1)).all fun j => (List.range (m + 1)).any fun b => L2.lcgN m b == j) = true) {i j : Nat} (hi : i ≤ m) (hj : j ≤ m) :
    ∃ k, k ≤ m ∧ L2.lcgI m i k = j := by
  have at0 : ∀ x, x ≤ m → ∃ b, b ≤ m ∧ L2.lcgN m b = x := fun x hx => by
    obtain ⟨b, hb, e⟩ := List.any_eq_true.mp (List.all_eq_true.mp ha x (List.mem_range.mpr (by omega)))
    exact ⟨b, Nat.le_of_lt_succ (List.mem_range.mp hb), eq_of_beq e⟩
  obtain ⟨a, la, ea⟩ := at0 i hi
  obtain ⟨b, lb, eb⟩ := at0 j hj
  subst ea
  by_cases c : a ≤ b
  · exact ⟨b - a, by omega, by rw [L2.lcgN_add, Nat.add_sub_cancel' c]; exact eb⟩
  · refine ⟨m + 1 + b - a, by omega, ?_⟩
    rw [L2.lcgN_add, Nat.add_sub_cancel' (by omega), turn_mod hr]
    exact eb
theorem lcg_meets {m : Nat} (hm : Msk m) {i j : Nat} (hi : i ≤ m) (hj : j ≤ m) : ∃ k, k ≤ m ∧ L2.lcgI m i k = j := by
  rcases hm with e | e | e | e | e
  · exact L2.lcgI_all (.inl e) hi hj
  · subst e; exact lcg_by round15 all15 hi hj
  · exact L2.lcgI_all (.inr (.inl e)) hi hj
  · subst e; exact lcg_by round63 all63 hi hj
  · exact L2.lcgI_all (.inr (.inr e)) hi hj

theorem free_there {m : Nat} (hm : Msk m) (ow : Array (Option Nat)) (h : Int) {j0 : Nat} (hj : j0 ≤ m) (hf : (own ow j0).isNone = true) :
    ∃ j, SetTable.layClean.free m ow (SetTable.turns m) (SetTable.bits h % (m + 1)) (SetTable.bits h) = some j ∧ j ≤ m ∧ (own ow j).isNone = true := by
  have hq : SetTable.bits h % (m + 1) ≤ m := Nat.le_of_lt_succ (Nat.mod_lt _ (Nat.succ_pos m))
  cases e : SetTable.layClean.free m ow (SetTable.turns m) (SetTable.bits h % (m + 1)) (SetTable.bits h) with
  | some j => exact ⟨j, rfl, free_some m ow _ (SetTable.bits h % (m + 1), SetTable.bits h) j e hq⟩
  | none =>
    exfalso
    have all := free_none m ow _ (SetTable.bits h % (m + 1), SetTable.bits h) e
    have z : (hops m 13 (SetTable.bits h % (m + 1), SetTable.bits h)).2 = 0 := by
      rw [hops_snd]
      refine Nat.div_eq_of_lt (Nat.lt_trans (L2.bits_lt h) ?_)
      decide
    have le := hops_fst_le m (q := (SetTable.bits h % (m + 1), SetTable.bits h)) hq 13
    obtain ⟨k, hk, ek⟩ := lcg_meets hm le hj
    have q := all (13 + k) (by show 13 + k < m + 15; omega)
    have e2 : hops m 13 (SetTable.bits h % (m + 1), SetTable.bits h) = ((hops m 13 (SetTable.bits h % (m + 1), SetTable.bits h)).1, 0) := by
      rw [← z]
    rw [hops_add, e2, hops_zero] at q
    rw [ek] at q
    rw [hf] at q
    cases q

/-! ### who sits where -/
theorem put_perm : ∀ (l : List (Option Nat)) (j k : Nat), l[j]? = some none → ((l.set j (some k)).filterMap id).Perm (k :: l.filterMap id)
  | [], j, k, h => by simp at h
  | x :: l, 0, k, h => by
    have e : x = none := by simpa using h
    subst e
    simp
  | x :: l, j + 1, k, h => by
    have ih := put_perm l j k (by simpa using h)
    cases x with
    | none => simpa using ih
    | some y =>
      simp only [List.set_cons_succ, List.filterMap_cons, id]
      exact (ih.cons y).trans (List.Perm.swap k y _)
theorem gap : ∀ l : List (Option Nat), (l.filterMap id).length < l.length → ∃ j : Nat, j < l.length ∧ l[j]? = some none
  | [], h => by simp at h
  | none :: l, h => ⟨0, by simp, rfl⟩
  | some y :: l, h => by
    obtain ⟨j, hj, e⟩ := gap l (by simpa using h)
    exact ⟨j + 1, by simpa using hj, by simpa using e⟩
structure Sit (m k : Nat) (ow : Array (Option Nat)) : Prop where
  sz : ow.size = m + 1
  pm : (ow.toList.filterMap id).Perm (List.range k)
theorem Sit.start (m : Nat) : Sit m 0 (Array.replicate (m + 1) none) := ⟨by simp, by simp⟩
theorem Sit.next {m k : Nat} {ow : Array (Option Nat)} (S : Sit m k ow) (hm : Msk m) (hk : k ≤ m) (h : Int) :
    ∃ j, SetTable.layClean.free m ow (SetTable.turns m) (SetTable.bits h % (m + 1)) (SetTable.bits h) = some j ∧ Sit m (k + 1) (ow.setIfInBounds j (some k)) := by
  have l1 := S.pm.length_eq
  rw [List.length_range] at l1
  obtain ⟨j0, h0, e0⟩ := gap ow.toList (by rw [l1, Array.length_toList, S.sz]; omega)
  rw [Array.length_toList, S.sz] at h0
  have f0 : (own ow j0).isNone = true := by
    have : ow[j0]? = some none := by rw [← Array.getElem?_toList]; exact e0
    simp [own, Array.getD_eq_getD_getElem?, this]
  obtain ⟨j, ej, hj, hn⟩ := free_there hm ow h (by omega) f0
  have hjs : j < ow.size := by rw [S.sz]; omega
  have en : ow.toList[j]? = some none := by
    have : own ow j = none := by simpa using hn
    rw [Array.getElem?_toList]
    simp only [own, Array.getD_eq_getD_getElem?, Array.getElem?_eq_getElem hjs, Option.getD_some] at this
    rw [Array.getElem?_eq_getElem hjs, this]
  refine ⟨j, ej, by rw [Array.size_setIfInBounds]; exact S.sz, ?_⟩
  rw [Array.toList_setIfInBounds]
  refine (put_perm ow.toList j k en).trans ?_
  rw [List.range_succ]
  exact (S.pm.cons k).trans (List.perm_append_singleton k _).symm
theorem sit_all {m : Nat} (hm : Msk m) : ∀ (hs : List Int) (k : Nat) (ow : Array (Option Nat)), Sit m k ow → k + hs.length ≤ m →
    ∃ ow', hs.foldl (L2.stepF m) (some (ow, k)) = some (ow', k + hs.length) ∧ Sit m (k + hs.length) ow'
  | [], k, ow, S, _ => ⟨ow, rfl, S⟩
  | h :: hs, k, ow, S, hl => by
    rw [List.length_cons] at hl
    obtain ⟨j, ej, S2⟩ := S.next hm (by omega) h
    obtain ⟨ow', e, S3⟩ := sit_all hm hs (k + 1) _ S2 (by omega)
    refine ⟨ow', ?_, ?_⟩
    · rw [List.foldl_cons, L2.stepF_some ej, e, List.length_cons]
      exact congrArg (fun n => some (ow', n)) (by omega)
    · rw [List.length_cons, show k + (hs.length + 1) = k + 1 + hs.length by omega]
      exact S3
theorem lay_ok {m : Nat} (hm : Msk m) {hs : Array Int} (hn : hs.size ≤ m) : ∃ ow, SetTable.layClean m hs = some ow ∧ Sit m hs.size ow := by
  obtain ⟨ow, e, S⟩ := sit_all hm hs.toList 0 _ (Sit.start m) (by rw [Array.length_toList]; omega)
  rw [Nat.zero_add, Array.length_toList] at S
  refine ⟨ow, ?_, S⟩
  rw [L2.layClean_eq, e] <;> rfl

def liveAt (m : Nat) (ow : Array (Option Nat)) : List (Nat × Nat) := (List.range (m + 1)).filterMap fun j => (ow.getD j none).map (j, ·)
theorem live_snd {m : Nat} {ow : Array (Option Nat)} (hz : ow.size = m + 1) : (liveAt m ow).map (·.2) = ow.toList.filterMap id := by
  unfold liveAt
  rw [List.map_filterMap, ← hz]
  have e1 : (fun j => ((ow.getD j none).map (j, ·)).map (·.2)) = fun j => (ow[j]?).bind id := by
    funext j
    rw [Array.getD_eq_getD_getElem?]
    cases ow[j]? with
    | none => rfl
    | some y => cases y <;> rfl
  have e2 := filterMap_getElem?_range ow
  rw [e1, ← e2, List.filterMap_filterMap]
theorem laid_ok {m : Nat} (hm : Msk m) {hs : Array Int} (hn : hs.size ≤ m) (fi mv : Nat) (ld pl : Bool) :
    ∃ t order, SetTable.laid m fi mv ld pl hs = some (t, order) ∧ order.toList.Perm (List.range hs.size) ∧ t.mask = m ∧ t.dummies = #[] ∧ t.led = ld ∧ L2.Ris t.place.toList ∧ t.place.size = hs.size := by
  obtain ⟨ow, e, S⟩ := lay_ok hm hn
  have p : ((liveAt m ow).map (·.2)).Perm (List.range hs.size) := by
    rw [live_snd S.sz]
    exact S.pm
  refine ⟨_, _, by unfold SetTable.laid; rw [e]; rfl, p, rfl, rfl, rfl, ?_, ?_⟩
  · refine (L2.ris_live (fun j => ow.getD j none) (List.range (m + 1)) ?_).1
    unfold L2.Ris
    first | exact List.pairwise_lt_range | exact List.pairwise_lt_range _
  · have l := p.length_eq
    rw [List.length_map, List.length_range] at l
    show ((liveAt m ow).map (·.1)).toArray.size = hs.size
    rw [List.size_toArray, List.length_map]
    exact l
theorem above_msk : ((List.range 128).all fun n => (SetTable.sizeAbove n == 8 || SetTable.sizeAbove n == 16 || SetTable.sizeAbove n == 32 || SetTable.sizeAbove n == 64 || SetTable.sizeAbove n == 128) && decide (n < SetTable.sizeAbove n)) = true := by
  decide +kernel
theorem above_ok {n : Nat} (h : n < 128) : Msk (SetTable.sizeAbove n - 1) ∧ n ≤ SetTable.sizeAbove n - 1 ∧ SetTable.sizeAbove n ≤ 128 := by
  have q := List.all_eq_true.mp above_msk n (List.mem_range.mpr h)
  simp only [Bool.and_eq_true, Bool.or_eq_true, beq_iff_eq, decide_eq_true_eq] at q
  obtain ⟨q1, q2⟩ := q
  refine ⟨?_, by omega, by omega⟩
  unfold Msk
  omega
end Cs

set_option Elab.async false
set_option linter.all false
set_option maxRecDepth 100000
set_option maxHeartbeats 1000000
namespace Cs
open PySem PySem.Spec PyProof.Rows L2

/-- a set of ints, written out -/
structure SetX (w : World) (h : Heap) (a : Addr) (es : Array (Int × Value)) (ep : Nat) (t : SetTable) : Prop where
  obj : h.get? a = some { cls := .type "set", dict := none, data := .set es ep t, slots := #[] }
  good : ∀ e ∈ es.toList, GoodE e
  nd : (es.toList.map keyOf).Nodup
  few : es.size < scanBound
  fits : t.fits es.size = true
  ris : Ris t.place.toList
  led : w.params.followText "set-order" = true ∨ t.led = true
section
variable {w : World} {h h' : Heap} {a : Addr} {S : Int → Bool} {n : Nat} {es : Array (Int × Value)} {ep : Nat} {t : SetTable}
theorem SetX.toR (R : SetX w h a es ep t) (hS : ∀ k, S k = true ↔ k ∈ es.toList.map keyOf) (hn : es.size = n) : SetR w h a S n :=
  ⟨_, es, ep, t, R.obj, ⟨rfl, rfl, rfl⟩, rfl, R.good, R.nd, hS, R.few, R.fits, hn, R.ris, R.led⟩
theorem xOf (R : SetR w h a S n) : ∃ es ep t, SetX w h a es ep t ∧ (∀ k, S k = true ↔ k ∈ es.toList.map keyOf) ∧ es.size = n := by
  obtain ⟨⟨c, d, dt, sl⟩, es, ep, t, ho, ⟨e1, e2, e3⟩, hd, g, nd, m, fw, ft, hn, r, l⟩ := R
  simp only at e1 e2 e3 hd
  subst e1 e2 e3 hd
  exact ⟨es, ep, t, ⟨ho, g, nd, fw, ft, r, l⟩, m, hn⟩
theorem SetX.move (R : SetX w h a es ep t) (k : ∀ o, h.get? a = some o → h'.get? a = some o) : SetX w h' a es ep t :=
  ⟨k _ R.obj, R.good, R.nd, R.few, R.fits, R.ris, R.led⟩
theorem SetX.perm {es' : Array (Int × Value)} {t' : SetTable} {ep' : Nat} (R : SetX w h a es ep t) (p : es'.toList.Perm es.toList)
    (o : h'.get? a = some { cls := .type "set", dict := none, data := .set es' ep' t', slots := #[] }) (f : t'.fits es'.size = true) (r : Ris t'.place.toList) (l : w.params.followText "set-order" = true ∨ t'.led = true) : SetX w h' a es' ep' t' :=
  ⟨o, fun e he => R.good e (p.mem_iff.mp he), (p.map keyOf).nodup_iff.mpr R.nd, by
    have q := p.length_eq
    rw [Array.length_toList, Array.length_toList] at q
    rw [q]; exact R.few, f, r, l⟩
end
theorem order_perm {es : Array (Int × Value)} {order : Array Nat} (p : order.toList.Perm (List.range es.size)) : (order.filterMap (es[·]?)).toList.Perm es.toList := by
  have q := p.filterMap (fun i => es[i]?)
  rw [filterMap_getElem?_range] at q
  rw [Array.toList_filterMap]
  exact q
theorem perm_size {α : Type} {x y : Array α} (p : x.toList.Perm y.toList) : x.size = y.size := by
  have q := p.length_eq
  rw [Array.length_toList, Array.length_toList] at q
  exact q
section
variable {P : Program} {w : World} {A : Around} {E : Value → Shared → Prop} {s : Shared} {a : Addr} {es : Array (Int × Value)} {ep : Nat} {t : SetTable}

theorem relay_x {wanted : Nat} {Q : Unit → Shared → Prop} (R : SetX w s.heap a es ep t) (hw : wanted < 128) (hn : es.size ≤ wanted)
    (hQ : ∀ h' es' t', Heap.SameBut a s.heap h' → SetX w h' a es' (ep + 1) t' → es'.toList.Perm es.toList → t'.mask = SetTable.sizeAbove wanted - 1 → t'.dummies = #[] → t'.place.size = es.size → Q () { s with heap := h' }) :
    wpAny (model P w) A (setRelay a wanted) Q E s := by
  obtain ⟨hM, hMn, h128⟩ := above_ok hw
  obtain ⟨t', order, e, hp, em, ed, el, er, ez⟩ := laid_ok hM (hs := es.map (·.1)) (by rw [Array.size_map]; omega) t.finger (t.movedTo (SetTable.sizeAbove wanted - 1)) t.led t.plain
  rw [Array.size_map] at hp ez
  have p2 := order_perm hp
  have z2 := perm_size p2
  have fit : t'.fits (order.filterMap (es[·]?)).size = true := by
    unfold SetTable.fits SetTable.fill
    rw [ed, z2, ez, em, Bool.and_eq_true, beq_iff_eq, decide_eq_true_eq]
    exact ⟨rfl, by show es.size + 0 ≤ _; omega⟩
  have e' : t.relaid (es.map (·.1)) wanted = some (t', order) := e
  unfold setRelay
  refine wpAny_bind (wpAny_setState_of R.obj rfl R.fits ?_)
  dsimp only
  refine wp_if_neg (by rw [sizeLine_eq]; omega) ?_
  try refine wpAny_bind (wpAny_pure ?_)
  rw [e']
  refine wpAny_bind ?_
  refine wp_if_neg (c := ((order.filterMap (es[·]?)).size != es.size) = true) (by rw [z2]; simp) ?_
  try refine wpAny_bind (wpAny_pure ?_)
  refine wpAny_pure ?_
  dsimp only
  refine wpAny_storeSet_of R.obj rfl ?_ (fits_of_scanBound (by rw [z2]; exact R.few))
  have sb : Heap.SameBut a s.heap (s.heap.update a (Obj.putSet (order.filterMap (es[·]?)) t')) := Heap.SameBut.update ..
  exact hQ _ _ t' sb (R.perm p2 (store_at R.obj rfl) fit er (R.led.imp id fun z => el.trans z)) p2 em ed ez

/-! ### walking -/
theorem walk_x {Q : Array (Int × Value) → Shared → Prop} (R : SetX w s.heap a es ep t) (hQ : ∀ ys d, ys.toList.Perm es.toList → Q ys { s with drawn := d }) : wpAny (model P w) A (setWalk a) Q E s := by
  have rf : Q es s := hQ es s.drawn (List.Perm.refl _)
  unfold setWalk
  refine wpAny_bind (wpAny_setState_of R.obj rfl R.fits ?_)
  dsimp only
  refine wpAny_bind (wpAny_byText ?_)
  by_cases hb : w.params.followText "set-order" = true
  · refine wp_if_pos hb ?_
    refine wpAny_bind (wpAny_askSetting ?_)
    exact wpAny_pure (hQ _ s.drawn (pick_perm _ es))
  · refine wp_if_neg hb ?_
    by_cases hd : (!t.plain && decide (es.size > 1)) = true
    · refine wp_if_pos (c := (!t.plain && decide (es.size > 1)) = true) hd ?_
      refine wpAny_bind (drawOrder_at _ _ _ _ (Nat.le_of_eq Array.length_toList) fun ys d p => wpAny_pure (hQ _ d ?_))
      simpa using p
    · refine wp_if_neg (c := (!t.plain && decide (es.size > 1)) = true) hd ?_
      have hl : t.led = true := R.led.resolve_left hb
      refine wpAny_bind (m := (_ : Sem Unit)) ?_
      refine wp_if_neg (c := (!t.led && decide (es.size > 1)) = true) (by rw [hl]; simp) ?_
      exact wpAny_pure (wpAny_pure rf)
end
end Cs

set_option Elab.async false
set_option linter.all false
set_option maxRecDepth 100000
set_option maxHeartbeats 1000000
namespace Cs
open PySem PySem.Spec PyProof.Rows L2
section
variable {P : Program} {w : World} {A : Around} {E : Value → Shared → Prop} {s : Shared} {a : Addr} {es : Array (Int × Value)} {ep : Nat} {t : SetTable}

theorem quiet_x {Q : Bool → Shared → Prop} : ∀ (l : List Addr), (∀ b ∈ l, ∃ es ep t, SetX w s.heap b es ep t) → Q true s → wpAny (model P w) A (setsQuiet l) Q E s := by
  intro l hl hq
  unfold setsQuiet
  refine wpAny_bind (wpAny_forIn_list _ (fun rest b s' => b.1 = none ∧ s' = s ∧ ∀ x ∈ rest, ∃ es ep t, SetX w s.heap x es ep t) _ ?turn ?fin l _ ⟨rfl, rfl, hl⟩)
  case fin =>
    rintro ⟨b1, b2⟩ s' ⟨h1, rfl, _⟩
    cases h1
    exact wpAny_pure hq
  case turn =>
    rintro x rest ⟨b1, b2⟩ s' ⟨h1, rfl, h2⟩
    cases h1
    obtain ⟨es, ep, t, R⟩ := h2 x List.mem_cons_self
    unfold setEntries
    refine wpAny_bind (wpAny_bind (wpAny_setState_of R.obj rfl R.fits (wpAny_pure ?_)))
    refine wpAny_bind (MeetsSeq2.wpAny_forIn_array _ (fun rest' b s'' => b.1 = none ∧ s'' = s' ∧ ∀ e ∈ rest', GoodE e) _ ?t2 ?f2 es _ ⟨rfl, rfl, R.good⟩)
    case f2 =>
      rintro ⟨b1, b2⟩ s' ⟨h1, rfl, _⟩
      cases h1
      exact wpAny_pure ⟨rfl, rfl, fun y hy => h2 y (List.mem_cons_of_mem _ hy)⟩
    case t2 =>
      rintro ⟨hh, v⟩ rest' ⟨b1, b2⟩ s' ⟨h1, rfl, hg⟩
      cases h1
      obtain ⟨k, tk, e1, _⟩ := hg _ List.mem_cons_self
      have e2 : v = .int k tk := e1
      subst e2
      dsimp only
      refine wpAny_pure ⟨rfl, rfl, fun y hy => hg y (List.mem_cons_of_mem _ hy)⟩
end
end Cs

set_option Elab.async false
set_option linter.all false
set_option maxRecDepth 100000
set_option maxHeartbeats 1000000
namespace Cs
open PySem PySem.Spec PyProof.Rows L2
section
variable {P : Program} {w : World} {A : Around} {E : Value → Shared → Prop} {s : Shared} {a : Addr} {es : Array (Int × Value)} {ep : Nat} {t : SetTable}
theorem unseen_x {others : List Addr} {f : Addr} {ef : Array (Int × Value)} {pf : Nat} {tf : SetTable} {Q : Array (Int × Value) → Shared → Prop} (R : SetX w s.heap a es ep t)
    (ho : ∀ b ∈ others, ∃ es ep t, SetX w s.heap b es ep t) (F : SetX w s.heap f ef pf tf)
    (hQ : ∀ ys d h' pf' tf', ys.toList.Perm es.toList → Heap.SameBut f s.heap h' → SetX w h' f ef pf' tf' → Q ys { s with heap := h', drawn := d }) :
    wpAny (model P w) A (setWalkUnseen a others (some f)) Q E s := by
  have rf : ∀ ys d, ys.toList.Perm es.toList → Q ys { s with drawn := d } := fun ys d p => hQ ys d s.heap pf tf p (Heap.SameBut.refl f s.heap) F
  unfold setWalkUnseen
  refine wpAny_bind (wpAny_setState_of R.obj rfl R.fits ?_)
  dsimp only
  refine wpAny_bind (wpAny_byText ?_)
  by_cases hb : (w.params.followText "set-order" || (t.led && t.plain) || decide (es.size ≤ 1)) = true
  · refine wp_if_pos (c := (w.params.followText "set-order" || (t.led && t.plain) || decide (es.size ≤ 1)) = true) hb ?_
    exact walk_x R rf
  · refine wp_if_neg (c := (w.params.followText "set-order" || (t.led && t.plain) || decide (es.size ≤ 1)) = true) hb ?_
    have hnt : ¬ w.params.followText "set-order" = true := fun z => hb (by rw [z] <;> rfl)
    have hl : t.led = true := R.led.resolve_left hnt
    try refine wpAny_bind (wpAny_pure ?_)
    refine wpAny_bind (quiet_x _ (fun b hb' => (List.mem_cons.mp hb').elim (fun z => ⟨es, ep, t, z ▸ R⟩) (ho b)) ?_)
    refine wp_if_neg (c := (!true) = true) (by simp) ?_
    try refine wpAny_bind (wpAny_pure ?_)
    refine wpAny_bind (wpAny_rule ?_)
    try dsimp only
    refine wpAny_bind (wpAny_setState_of F.obj rfl F.fits ?_)
    dsimp only
    split
    · refine wpAny_bind (wpAny_storeSet_of F.obj rfl ?_ (fits_of_scanBound F.few))
      refine wpAny_pure ?_
      refine hQ es s.drawn _ _ _ (List.Perm.refl _) (Heap.SameBut.update s.heap f _) (F.perm (List.Perm.refl _) (store_at F.obj rfl) ?_ F.ris ?_)
      · exact F.fits
      · refine F.led.imp id fun z => ?_
        show (tf.led && t.led) = true
        rw [z, hl] <;> rfl
    · try refine wpAny_bind (wpAny_pure ?_)
      exact wpAny_pure (rf es s.drawn (List.Perm.refl _))
theorem unseen_n {others : List Addr} {Q : Array (Int × Value) → Shared → Prop} (R : SetX w s.heap a es ep t)
    (ho : ∀ b ∈ others, ∃ es ep t, SetX w s.heap b es ep t)
    (rf : ∀ ys d, ys.toList.Perm es.toList → Q ys { s with drawn := d }) :
    wpAny (model P w) A (setWalkUnseen a others none) Q E s := by
  unfold setWalkUnseen
  refine wpAny_bind (wpAny_setState_of R.obj rfl R.fits ?_)
  dsimp only
  refine wpAny_bind (wpAny_byText ?_)
  by_cases hb : (w.params.followText "set-order" || (t.led && t.plain) || decide (es.size ≤ 1)) = true
  · refine wp_if_pos (c := (w.params.followText "set-order" || (t.led && t.plain) || decide (es.size ≤ 1)) = true) hb ?_
    exact walk_x R rf
  · refine wp_if_neg (c := (w.params.followText "set-order" || (t.led && t.plain) || decide (es.size ≤ 1)) = true) hb ?_
    try refine wpAny_bind (wpAny_pure ?_)
    refine wpAny_bind (quiet_x _ (fun b hb' => (List.mem_cons.mp hb').elim (fun z => ⟨es, ep, t, z ▸ R⟩) (ho b)) ?_)
    refine wp_if_neg (c := (!true) = true) (by simp) ?_
    try refine wpAny_bind (wpAny_pure ?_)
    refine wpAny_bind (wpAny_rule ?_)
    try dsimp only
    try refine wpAny_bind (wpAny_pure ?_)
    exact wpAny_pure (rf es s.drawn (List.Perm.refl _))

theorem room_x {more : Nat} {Q : Unit → Shared → Prop} (R : SetX w s.heap a es ep t) (hm : (es.size + more) * 2 < 128)
    (hQ : ∀ h' es' ep' t', Heap.SameBut a s.heap h' → SetX w h' a es' ep' t' → es'.toList.Perm es.toList →
      ((t' = t ∧ (t.fill + more) * 5 < t.mask * 3) ∨ (t'.mask = SetTable.sizeAbove ((es.size + more) * 2) - 1 ∧ t'.dummies = #[])) → Q () { s with heap := h' }) :
    wpAny (model P w) A (setRoomFor a more) Q E s := by
  have hz : t.place.size = es.size := by
    have f := R.fits
    unfold SetTable.fits at f
    rw [Bool.and_eq_true, beq_iff_eq] at f
    exact f.1
  unfold setRoomFor
  refine wpAny_bind (wpAny_setState_of R.obj rfl R.fits ?_)
  dsimp only
  by_cases c : (t.fill + more) * 5 ≥ t.mask * 3
  · have e : t.roomFor more = some ((t.place.size + more) * 2) := if_pos c
    rw [e]
    dsimp only
    rw [hz]
    refine relay_x R hm (by omega) fun h' es' t' sb X p em ed _ => hQ h' es' _ t' sb X p (.inr ⟨em, ed⟩)
  · have e : t.roomFor more = none := if_neg c
    rw [e]
    dsimp only
    exact wpAny_pure (hQ s.heap es ep t (Heap.SameBut.refl a s.heap) R (List.Perm.refl _) (.inl ⟨rfl, by omega⟩))
end
end Cs

set_option Elab.async false
set_option linter.all false
set_option maxRecDepth 100000
set_option maxHeartbeats 1000000
namespace Cs
open PySem PySem.Spec PyProof.Rows L2
section
variable {P : Program} {w : World} {A : Around} {E : Value → Shared → Prop} {s : Shared}
abbrev keys (es : Array (Int × Value)) : List Int := es.toList.map keyOf
theorem keys_perm {x y : Array (Int × Value)} (p : x.toList.Perm y.toList) (k : Int) : k ∈ keys x ↔ k ∈ keys y := (p.map keyOf).mem_iff
theorem sb_trans {a : Addr} {h1 h2 h3 : Heap} (x : Heap.SameBut a h1 h2) (y : Heap.SameBut a h2 h3) : Heap.SameBut a h1 h3 := x.trans y
theorem sx_other {h h' : Heap} {a b : Addr} {es : Array (Int × Value)} {ep : Nat} {t : SetTable} (R : SetX w h b es ep t) (sb : Heap.SameBut a h h') (hne : b ≠ a) : SetX w h' b es ep t :=
  R.move fun o e => (sb.2 b hne).trans e
theorem sr_other {h h' : Heap} {a b : Addr} {S : Int → Bool} {n : Nat} (R : SetR w h b S n) (sb : Heap.SameBut a h h') (hne : b ≠ a) : SetR w h' b S n :=
  R.at fun o e => (sb.2 b hne).trans e

/-- adding the members of a walk, one by one -/
theorem add_all {r : Addr} (f : (Int × Value) → PUnit → Sem (ForInStep PUnit)) (K : Shared → Prop) (hK : ∀ s1 h', Heap.SameBut r s1.heap h' → K s1 → K { s1 with heap := h' })
    (hf : ∀ e k tk s1 Q', e = (hashInt k, Value.int k tk) → K s1 → (wpAny (model P w) A (setAddHashed r (.int k tk) (hashInt k)) (fun _ s2 => K s2 ∧ Q' (.yield ⟨⟩) s2) E s1) → wpAny (model P w) A (f e ⟨⟩) Q' E s1)
    (ys : Array (Int × Value)) (g : ∀ e ∈ ys.toList, GoodE e) {S : Int → Bool} {n : Nat} (R : SetR w s.heap r S n) (hn : n + ys.size + 1 < scanBound) (hs : K s) {Q : PUnit → Shared → Prop}
    (hQ : ∀ h' S' n', SetR w h' r S' n' → (∀ k, S' k = true ↔ S k = true ∨ k ∈ keys ys) → n' ≤ n + ys.size → Heap.SameBut r s.heap h' → K { s with heap := h' } → Q ⟨⟩ { s with heap := h' }) :
    wpAny (model P w) A (forIn ys ⟨⟩ f) Q E s := by
  refine MeetsSeq2.wpAny_forIn_array f (fun rest _ s' => ∃ h' S' n', s' = { s with heap := h' } ∧ SetR w h' r S' n' ∧ (∀ k, (S' k = true ∨ k ∈ rest.map keyOf) ↔ (S k = true ∨ k ∈ keys ys)) ∧ n' + rest.length ≤ n + ys.size ∧
    Heap.SameBut r s.heap h' ∧ K { s with heap := h' } ∧ ∀ e ∈ rest, GoodE e) Q ?turn ?fin ys ⟨⟩ ⟨s.heap, S, n, rfl, R, fun k => Iff.rfl, by rw [Array.length_toList]; exact Nat.le_refl _, Heap.SameBut.refl r s.heap, hs, g⟩
  case fin =>
    rintro ⟨⟩ s' ⟨h', S', n', rfl, R', m, l, sb, k, _⟩
    exact hQ h' S' n' R' (fun k => by simpa using m k) (by simpa using l) sb k
  case turn =>
    rintro e rest ⟨⟩ s' ⟨h', S', n', rfl, R', m, l, sb, kk, g'⟩
    obtain ⟨k, tk, e1, e2⟩ := g' e List.mem_cons_self
    obtain ⟨eh, ev⟩ := e
    simp only at e1 e2
    subst e1 e2
    rw [List.length_cons] at l
    refine hf _ k tk _ _ rfl kk ?_
    refine setR_add_hashed (s := { s with heap := h' }) R' (by omega) fun h2 sb2 R2 => ?_
    have k2 : K { s with heap := h2 } := hK { s with heap := h' } h2 sb2 kk
    refine ⟨k2, h2, _, _, rfl, R2, fun j => ?_, ?_, sb_trans sb sb2, k2, fun e he => g' e (List.mem_cons_of_mem _ he)⟩
    · rw [← m j, List.map_cons, List.mem_cons, Bool.or_eq_true, decide_eq_true_eq]
      show ((S' j = true ∨ j = k) ∨ _) ↔ (S' j = true ∨ (j = k ∨ _))
      exact or_assoc
    · have : (if S' k = true then n' else n' + 1) ≤ n' + 1 := by split <;> omega
      omega

/-- what is merged into a set with members -/
theorem merge_more {r o : Addr} {each : Sem Unit} {er eo : Array (Int × Value)} {pr po : Nat} {tr to : SetTable} {Q : Unit → Shared → Prop} (hro : o ≠ r) (R : SetX w s.heap r er pr tr) (O : SetX w s.heap o eo po to)
    (hne : er.size ≠ 0) (hroom : (er.size + eo.size) * 2 < 128)
    (heach : ∀ s' Q', SetX w s'.heap o eo po to → Q' () s' → wpAny (model P w) A each Q' E s')
    (hQ : ∀ h' d' S' n', SetR w h' r S' n' → (∀ k, S' k = true ↔ k ∈ keys er ∨ k ∈ keys eo) → n' ≤ er.size + eo.size → Heap.SameBut r s.heap h' → Q () { s with heap := h', drawn := d' }) :
    wpAny (model P w) A (setMerge r o each) Q E s := by
  unfold setMerge
  refine wp_if_neg (c := (r == o) = true) (by simpa using Ne.symm hro) ?_
  try refine wpAny_bind (wpAny_pure ?_)
  refine wpAny_bind (wpAny_setState_of O.obj rfl O.fits ?_)
  dsimp only
  by_cases he : eo.isEmpty = true
  · refine wp_if_pos (c := eo.isEmpty = true) he ?_
    refine wpAny_pure (hQ s.heap s.drawn _ _ (R.toR (S := fun k => decide (k ∈ keys er)) (fun k => decide_eq_true_iff) rfl) (fun k => ?_) (by omega) (Heap.SameBut.refl r s.heap))
    have : eo = #[] := by simpa using he
    subst this
    simp
  · refine wp_if_neg (c := eo.isEmpty = true) he ?_
    try refine wpAny_bind (wpAny_pure ?_)
    refine wpAny_bind (room_x R hroom fun h1 er1 pr1 tr1 sb1 R1 p1 _ => ?_)
    have O1 := sx_other O sb1 hro
    refine wpAny_bind (wpAny_setState_of R1.obj rfl R1.fits ?_)
    dsimp only
    have z1 := perm_size p1
    have hfill : (tr1.fill != 0) = true := by
      have f := R1.fits
      unfold SetTable.fits at f
      rw [Bool.and_eq_true, beq_iff_eq] at f
      have : tr1.fill ≠ 0 := by
        unfold SetTable.fill
        omega
      simpa using this
    have er' : tr1.road to = .oneByOne := if_pos hfill
    rw [er']
    dsimp only
    refine wpAny_bind (unseen_x (s := { s with heap := h1 }) O1 (fun b hb => by rw [List.mem_singleton.mp hb]; exact ⟨_, _, _, R1⟩) R1 fun ys d h2 pf tf py sb2 R2 => ?_)
    have O2 := sx_other O1 sb2 hro
    have zy := perm_size py
    refine wpAny_bind (add_all (s := { s with heap := h2, drawn := d }) (P := P) (A := A) (E := E) _ (fun s1 => SetX w s1.heap o eo po to) (fun s1 h' sb k => sx_other k sb hro) ?hf ys (fun e he => O.good e (py.mem_iff.mp he))
      (R2.toR (S := fun k => decide (k ∈ keys er1)) (fun k => decide_eq_true_iff) rfl) (by have : scanBound = 4096 := rfl; omega) O2 ?hQ)
    case hQ =>
      intro h3 S' n' R3 m3 l3 sb3 _
      refine wpAny_pure (hQ h3 d S' n' R3 (fun k => ?_) (by omega) (sb_trans sb1 (sb_trans sb2 sb3)))
      rw [m3 k, decide_eq_true_iff, keys_perm p1 k, keys_perm py k]
    case hf =>
      intro e k tk s1 Q' ee kk hwp
      subst ee
      dsimp only
      refine wpAny_bind (wpAny_holding (wpAny_mono hwp (fun b s2 hs2 => ?_) fun _ _ z => z))
      obtain ⟨k2, q2⟩ := hs2
      refine wpAny_bind (heach s2 _ k2 ?_)
      refine wpAny_bind (wpAny_setState_of k2.obj rfl k2.fits ?_)
      refine wp_if_neg (c := (po != po) = true) (by simp) ?_
      exact wpAny_pure q2
end
end Cs

set_option Elab.async false
set_option linter.all false
set_option maxRecDepth 100000
set_option maxHeartbeats 1000000
namespace Cs
open PySem PySem.Spec PyProof.Rows L2
section
variable {P : Program} {w : World} {A : Around} {E : Value → Shared → Prop} {s : Shared}
theorem SetX.permTo {h h' : Heap} {a b : Addr} {es es' : Array (Int × Value)} {t t' : SetTable} {ep ep' : Nat} (R : SetX w h a es ep t) (p : es'.toList.Perm es.toList)
    (o : h'.get? b = some { cls := .type "set", dict := none, data := .set es' ep' t', slots := #[] }) (f : t'.fits es'.size = true) (r : Ris t'.place.toList) (l : w.params.followText "set-order" = true ∨ t'.led = true) : SetX w h' b es' ep' t' :=
  ⟨o, fun e he => R.good e (p.mem_iff.mp he), (p.map keyOf).nodup_iff.mpr R.nd, by rw [perm_size p]; exact R.few, f, r, l⟩
theorem nil_of_perm {es : Array (Int × Value)} (p : es.toList.Perm (#[] : Array (Int × Value)).toList) : es = #[] := by
  have q := List.perm_nil.mp p
  simpa using q
theorem merge_fresh {r o : Addr} {each : Sem Unit} {eo : Array (Int × Value)} {pr po : Nat} {tr to : SetTable} {Q : Unit → Shared → Prop} (hro : o ≠ r) (R : SetX w s.heap r #[] pr tr)
    (hm : tr.mask = 7) (hdm : tr.dummies = #[]) (O : SetX w s.heap o eo po to) (h63 : eo.size ≤ 63)
    (hQ : ∀ h' es' ep' t', SetX w h' r es' ep' t' → es'.toList.Perm eo.toList → Heap.SameBut r s.heap h' → Q () { s with heap := h' }) :
    wpAny (model P w) A (setMerge r o each) Q E s := by
  unfold setMerge
  refine wp_if_neg (c := (r == o) = true) (by simpa using Ne.symm hro) ?_
  try refine wpAny_bind (wpAny_pure ?_)
  refine wpAny_bind (wpAny_setState_of O.obj rfl O.fits ?_)
  dsimp only
  by_cases he : eo.isEmpty = true
  · refine wp_if_pos (c := eo.isEmpty = true) he ?_
    have e0 : eo = #[] := by simpa using he
    subst e0
    exact wpAny_pure (hQ s.heap _ _ _ R (List.Perm.refl _) (Heap.SameBut.refl r s.heap))
  · refine wp_if_neg (c := eo.isEmpty = true) he ?_
    try refine wpAny_bind (wpAny_pure ?_)
    have fr : tr.fill = 0 := by
      have f := R.fits
      unfold SetTable.fits at f
      rw [Bool.and_eq_true, beq_iff_eq] at f
      have f1 : tr.place.size = 0 := f.1
      unfold SetTable.fill
      rw [hdm, f1]
      rfl
    refine wpAny_bind (room_x R (by show (0 + eo.size) * 2 < 128; omega) fun h1 er1 pr1 tr1 sb1 R1 p1 alt => ?_)
    have e1 := nil_of_perm p1
    subst e1
    have O1 := sx_other O sb1 hro
    have hM : Msk tr1.mask ∧ eo.size ≤ tr1.mask ∧ tr1.dummies = #[] := by
      rcases alt with ⟨et, hlt⟩ | ⟨em, ed⟩
      · subst et
        rw [fr, hm] at hlt
        exact ⟨.inl hm, by rw [hm]; omega, hdm⟩
      · have z : (#[] : Array (Int × Value)).size = 0 := rfl
        rw [z] at em
        obtain ⟨a1, a2, a3⟩ := above_ok (n := (0 + eo.size) * 2) (by omega)
        exact ⟨em ▸ a1, by omega, ed⟩
    obtain ⟨hM1, hM2, hM3⟩ := hM
    have fr1 : tr1.fill = 0 := by
      have f := R1.fits
      unfold SetTable.fits at f
      rw [Bool.and_eq_true, beq_iff_eq] at f
      have f1 : tr1.place.size = 0 := f.1
      unfold SetTable.fill
      rw [hM3, f1]
      rfl
    refine wpAny_bind (wpAny_setState_of R1.obj rfl R1.fits ?_)
    dsimp only
    have led : w.params.followText "set-order" = true ∨ (tr1.led && to.led) = true := by
      rcases R1.led with z | z
      · exact .inl z
      · rcases O1.led with y | y
        · exact .inl y
        · exact .inr (by rw [z, y] <;> rfl)
    have er : tr1.road to = if (tr1.mask == to.mask && to.dummies.isEmpty) = true then .slotForSlot else .clean := if_neg (by rw [fr1]; simp)
    by_cases c : (tr1.mask == to.mask && to.dummies.isEmpty) = true
    · rw [er, if_pos c]
      dsimp only
      refine wpAny_storeSet_of R1.obj rfl ?_ (fits_of_scanBound O.few)
      refine hQ _ _ _ _ (O1.permTo (List.Perm.refl _) (store_at R1.obj rfl) ?_ O1.ris led) (List.Perm.refl _) (sb_trans sb1 (Heap.SameBut.update h1 r _))
      exact O1.fits
    · rw [er, if_neg c]
      dsimp only
      obtain ⟨t', order, e, hp, em, ed, el, eR, ez⟩ := laid_ok hM1 (hs := eo.map (·.1)) (by rw [Array.size_map]; exact hM2) tr1.finger tr1.moves (tr1.led && to.led) (tr1.plain && to.plain)
      rw [Array.size_map] at hp ez
      have p2 := order_perm hp
      have z2 := perm_size p2
      rw [e]
      refine wpAny_bind ?_
      refine wp_if_neg (c := ((order.filterMap (eo[·]?)).size != eo.size) = true) (by rw [z2]; simp) ?_
      try refine wpAny_bind (wpAny_pure ?_)
      refine wpAny_pure ?_
      dsimp only
      refine wpAny_storeSet_of R1.obj rfl ?_ (fits_of_scanBound (by rw [z2]; exact O.few))
      refine hQ _ _ _ _ (O1.permTo p2 (store_at R1.obj rfl) ?_ eR (by rw [el]; exact led)) p2 (sb_trans sb1 (Heap.SameBut.update h1 r _))
      unfold SetTable.fits SetTable.fill
      rw [ed, z2, ez, em, Bool.and_eq_true, beq_iff_eq, decide_eq_true_eq]
      exact ⟨rfl, by show eo.size + 0 ≤ _; omega⟩

/-! ### the words of the class -/
abbrev newObjOf (w : World) : Obj := { cls := .type "set", dict := none, data := .set #[] 0 (.fresh 0 0 (!w.params.followText "set-order")) }
theorem fresh_x (h : Heap) : SetX w (h.push (newObjOf w)) h.objs.size #[] 0 (.fresh 0 0 (!w.params.followText "set-order")) :=
  ⟨Heap.get?_push_size _ rfl, fun e he => by simp at he, by simp, by decide, rfl, List.Pairwise.nil, by
    show _ ∨ (!w.params.followText "set-order") = true
    cases w.params.followText "set-order" <;> simp⟩
theorem SetX.ty {h : Heap} {a : Addr} {es : Array (Int × Value)} {ep : Nat} {t : SetTable} (R : SetX w h a es ep t) {s : Shared} (e : s.heap = h) : s.TypeIs (.ref a) "set" :=
  ⟨_, by rw [e]; exact R.obj, rfl⟩
theorem base_x {a : Addr} {Q : Value → Shared → Prop} (hT : s.TypeIs (.ref a) "set") (q : Q (.type "set") s) : wpAny (model P w) A (Builtin.Frozenset.baseOf a) Q E s := by
  unfold Builtin.Frozenset.baseOf
  refine wpAny_bind (wpAny_isInstance (b := true) hT sub_set_self ?_)
  exact wpAny_pure q
theorem any_x {a : Addr} {Q : Bool → Shared → Prop} (hT : s.TypeIs (.ref a) "set") (q : Q true s) : wpAny (model P w) A (Builtin.Frozenset.isAnySet (.ref a)) Q E s := by
  unfold Builtin.Frozenset.isAnySet
  refine wpAny_bind (wpAny_isInstance (b := true) hT sub_set_self ?_)
  exact wpAny_pure q
theorem new_x {Q : Value → Shared → Prop} (q : Q (.ref s.heap.objs.size) { s with heap := s.heap.push (newObjOf w) }) : wpAny (model P w) A (newSet (.type "set")) Q E s := by
  unfold newSet
  refine wpAny_bind (wpAny_byText ?_)
  dsimp only
  simp only [newObj]
  exact wpAny_bind (wpAny_alloc (wpAny_pure q))
theorem size_x {a : Addr} {es : Array (Int × Value)} {ep : Nat} {t : SetTable} {Q : Nat → Shared → Prop} (R : SetX w s.heap a es ep t) (q : Q es.size s) : wpAny (model P w) A (Builtin.Frozenset.sizeOf a) Q E s := by
  unfold Builtin.Frozenset.sizeOf setEntries
  exact wpAny_bind (wpAny_bind (wpAny_setState_of R.obj rfl R.fits (wpAny_pure (wpAny_pure q))))
theorem unchanged_x {id : String} {a : Addr} {es : Array (Int × Value)} {ep : Nat} {t : SetTable} {Q : Unit → Shared → Prop} (R : SetX w s.heap a es ep t) (q : Q () s) : wpAny (model P w) A (Builtin.Frozenset.unchanged id a ep) Q E s := by
  unfold Builtin.Frozenset.unchanged
  refine wpAny_bind (wpAny_setEpoch_of R.obj rfl R.fits ?_)
  exact wp_if_neg (c := (ep != ep) = true) (by simp) (wpAny_pure q)

/-- heaps in which all is as it was but what is new -/
def Old (h h' : Heap) : Prop := ∀ b o, h.get? b = some o → h'.get? b = some o
theorem old_push (h : Heap) (o : Obj) : Old h (h.push o) := fun _ _ e => Heap.get?_push_of_some o e
theorem old_but {h h' : Heap} {o : Obj} (sb : Heap.SameBut h.objs.size (h.push o) h') : Old h h' := fun b u e => by
  rw [sb.2 b (Nat.ne_of_lt (Heap.lt_size e))]
  exact Heap.get?_push_of_some o e
theorem copy_x {a : Addr} {es : Array (Int × Value)} {ep : Nat} {t : SetTable} {Q : Value → Shared → Prop} (R : SetX w s.heap a es ep t) (h63 : es.size ≤ 63)
    (hQ : ∀ h' es' ep' t', SetX w h' s.heap.objs.size es' ep' t' → es'.toList.Perm es.toList → Heap.SameBut s.heap.objs.size (s.heap.push (newObjOf w)) h' → Q (.ref s.heap.objs.size) { s with heap := h' }) :
    wpAny (model P w) A (Builtin.Frozenset.copyOf a) Q E s := by
  unfold Builtin.Frozenset.copyOf
  refine wpAny_bind (base_x (R.ty rfl) ?_)
  refine wpAny_bind (new_x ?_)
  refine wpAny_bind (wpAny_pure ?_)
  have hne : a ≠ s.heap.objs.size := Nat.ne_of_lt (Heap.lt_size R.obj)
  refine wpAny_bind (merge_fresh (s := { s with heap := s.heap.push (newObjOf w) }) hne (fresh_x s.heap) rfl rfl (R.move fun o e => old_push _ _ _ _ e) h63 fun h' es' ep' t' X p sb => ?_)
  exact wpAny_pure (hQ h' es' ep' t' X p sb)
end
end Cs

set_option Elab.async false
set_option linter.all false
set_option maxRecDepth 100000
set_option maxHeartbeats 1000000
namespace Cs
open PySem PySem.Spec PyProof.Rows L2
section
variable {P : Program} {w : World} {A : Around} {E : Value → Shared → Prop} {s : Shared}
/-- adding those of a walk that a test lets in -/
theorem add_some {r : Addr} (C : Int → Bool) (f : (Int × Value) → PUnit → Sem (ForInStep PUnit)) (K : Shared → Prop) (hK : ∀ s1 h', Heap.SameBut r s1.heap h' → K s1 → K { s1 with heap := h' })
    (hf : ∀ e k tk s1 Q', e = (hashInt k, Value.int k tk) → K s1 → (C k = true → wpAny (model P w) A (setAddHashed r (.int k tk) (hashInt k)) (fun _ s2 => K s2 ∧ Q' (.yield ⟨⟩) s2) E s1) → (C k = false → Q' (.yield ⟨⟩) s1) →
      wpAny (model P w) A (f e ⟨⟩) Q' E s1)
    (ys : Array (Int × Value)) (g : ∀ e ∈ ys.toList, GoodE e) {S : Int → Bool} {n : Nat} (R : SetR w s.heap r S n) (hn : n + ys.size + 1 < scanBound) (hs : K s) {Q : PUnit → Shared → Prop}
    (hQ : ∀ h' S' n', SetR w h' r S' n' → (∀ k, S' k = true ↔ S k = true ∨ (k ∈ keys ys ∧ C k = true)) → n' ≤ n + ys.size → Heap.SameBut r s.heap h' → K { s with heap := h' } → Q ⟨⟩ { s with heap := h' }) :
    wpAny (model P w) A (forIn ys ⟨⟩ f) Q E s := by
  refine MeetsSeq2.wpAny_forIn_array f (fun rest _ s' => ∃ h' S' n', s' = { s with heap := h' } ∧ SetR w h' r S' n' ∧ (∀ k, (S' k = true ∨ (k ∈ rest.map keyOf ∧ C k = true)) ↔ (S k = true ∨ (k ∈ keys ys ∧ C k = true))) ∧ n' + rest.length ≤ n + ys.size ∧
    Heap.SameBut r s.heap h' ∧ K { s with heap := h' } ∧ ∀ e ∈ rest, GoodE e) Q ?turn ?fin ys ⟨⟩ ⟨s.heap, S, n, rfl, R, fun k => Iff.rfl, by rw [Array.length_toList]; exact Nat.le_refl _, Heap.SameBut.refl r s.heap, hs, g⟩
  case fin =>
    rintro ⟨⟩ s' ⟨h', S', n', rfl, R', m, l, sb, k, _⟩
    exact hQ h' S' n' R' (fun k => by simpa using m k) (by simpa using l) sb k
  case turn =>
    rintro e rest ⟨⟩ s' ⟨h', S', n', rfl, R', m, l, sb, kk, g'⟩
    obtain ⟨k, tk, e1, e2⟩ := g' e List.mem_cons_self
    obtain ⟨eh, ev⟩ := e
    simp only at e1 e2
    subst e1 e2
    rw [List.length_cons] at l
    refine hf _ k tk _ _ rfl kk (fun hc => ?_) (fun hc => ?_)
    · refine setR_add_hashed (s := { s with heap := h' }) R' (by omega) fun h2 sb2 R2 => ?_
      have k2 : K { s with heap := h2 } := hK { s with heap := h' } h2 sb2 kk
      refine ⟨k2, h2, _, _, rfl, R2, fun j => ?_, ?_, sb_trans sb sb2, k2, fun e he => g' e (List.mem_cons_of_mem _ he)⟩
      · rw [← m j, List.map_cons, List.mem_cons, Bool.or_eq_true, decide_eq_true_eq]
        show ((S' j = true ∨ j = k) ∨ _) ↔ (S' j = true ∨ ((j = k ∨ _) ∧ _))
        constructor
        · rintro ((z | z) | ⟨z, z2⟩)
          · exact .inl z
          · exact .inr ⟨.inl z, z ▸ hc⟩
          · exact .inr ⟨.inr z, z2⟩
        · rintro (z | ⟨z | z, z2⟩)
          · exact .inl (.inl z)
          · exact .inl (.inr z)
          · exact .inr ⟨z, z2⟩
      · have : (if S' k = true then n' else n' + 1) ≤ n' + 1 := by split <;> omega
        omega
    · refine ⟨h', S', n', rfl, R', fun j => ?_, by omega, sb, kk, fun e he => g' e (List.mem_cons_of_mem _ he)⟩
      rw [← m j, List.map_cons, List.mem_cons]
      show (S' j = true ∨ _) ↔ (S' j = true ∨ ((j = k ∨ _) ∧ _))
      constructor
      · rintro (z | ⟨z, z2⟩)
        · exact .inl z
        · exact .inr ⟨.inr z, z2⟩
      · rintro (z | ⟨z | z, z2⟩)
        · exact .inl z
        · rw [z, hc] at z2
          cases z2
        · exact .inr ⟨z, z2⟩

theorem find_x {a : Addr} {es : Array (Int × Value)} {ep : Nat} {t : SetTable} {k : Int} {tk : Tok} {Q : Option Nat → Shared → Prop} (R : SetX w s.heap a es ep t)
    (h : ∀ i : Option Nat, (i = none ∧ k ∉ keys es ∨ ∃ j, i = some j ∧ (keys es)[j]? = some k) → Q i s) : wpAny (model P w) A (setFind a (.int k tk) (hashInt k)) Q E s := by
  have hkey : (intKind P w).is k (.int k tk) = true := intKind_is P w k tk
  have hel : ElemsOf (intKind P w) es.toList := good_elems R.good
  unfold setFind setFindIn
  refine wpAny_bind (wpAny_setState_of R.obj rfl R.fits ?_)
  dsimp only
  rw [byScan_of (x := .int k tk) rfl R.few hel]
  simp only [↓reduceIte]
  refine wpAny_bind (wpAny_rule ?_)
  refine wpAny_bind (wpAny_setScan_of (knd := intKind P w) hkey R.obj rfl R.fits hel ?_)
  cases hr : List.findIdx? (fun e => (intKind P w).is k e.2) es.toList with
  | none =>
    dsimp only
    refine wpAny_pure (h none (.inl ⟨rfl, fun z => ?_⟩))
    obtain ⟨e, he, q⟩ := (good_mem (P := P) (w := w) R.good k).1 z
    have c := List.findIdx?_eq_none_iff.mp hr e he
    rw [q] at c
    cases c
  | some j =>
    dsimp only
    obtain ⟨hj, pj, _⟩ := List.findIdx?_eq_some_iff_getElem.mp hr
    refine wpAny_pure (h (some (0 + j)) (.inr ⟨0 + j, rfl, ?_⟩))
    rw [Nat.zero_add, List.getElem?_map, List.getElem?_eq_getElem hj]
    have := (good_is (P := P) (w := w) (R.good _ (List.getElem_mem hj)) k).1 pj
    exact congrArg some this
theorem found_x {a : Addr} {es : Array (Int × Value)} {ep : Nat} {t : SetTable} {k : Int} {tk : Tok} {Q : Option Nat → Shared → Prop} (R : SetX w s.heap a es ep t)
    (h : ∀ i : Option Nat, i.isSome = decide (k ∈ keys es) → Q i s) : wpAny (model P w) A (setFind a (.int k tk) (hashInt k)) Q E s := by
  refine find_x R fun i hi => h i ?_
  rcases hi with ⟨rfl, z⟩ | ⟨j, rfl, z⟩
  · simp [z]
  · have : k ∈ keys es := List.mem_of_getElem? z
    simp [this]

/-- a & b -/
theorem and_x {id : String} {a b : Addr} {ea eb : Array (Int × Value)} {pa pb : Nat} {ta tb : SetTable} {Q : Value → Shared → Prop} (hne : b ≠ a) (RA : SetX w s.heap a ea pa ta) (RB : SetX w s.heap b eb pb tb)
    (hl : ea.size ≤ 63) (hl2 : eb.size ≤ 63)
    (hQ : ∀ h' d' S n, SetR w h' s.heap.objs.size S n → (∀ k, S k = true ↔ k ∈ keys ea ∧ k ∈ keys eb) → n ≤ 63 → Old s.heap h' → Q (.ref s.heap.objs.size) { s with heap := h', drawn := d' }) :
    wpAny (model P w) A (Builtin.Frozenset.intersection id a (.ref b)) Q E s := by
  have hsb : scanBound = 4096 := rfl
  have na : a ≠ s.heap.objs.size := Nat.ne_of_lt (Heap.lt_size RA.obj)
  have nb : b ≠ s.heap.objs.size := Nat.ne_of_lt (Heap.lt_size RB.obj)
  unfold Builtin.Frozenset.intersection
  refine wp_if_neg (c := ((Value.ref b == Value.ref a) = true)) (by simpa using hne) ?_
  try refine wpAny_bind (wpAny_pure ?_)
  refine wpAny_bind (base_x (RA.ty rfl) ?_)
  refine wpAny_bind (new_x ?_)
  refine wpAny_bind (wpAny_pure ?_)
  have RA1 : SetX w (s.heap.push (newObjOf w)) a ea pa ta := RA.move fun o e => old_push _ _ _ _ e
  have RB1 : SetX w (s.heap.push (newObjOf w)) b eb pb tb := RB.move fun o e => old_push _ _ _ _ e
  have R1 := fresh_x (w := w) s.heap
  refine wpAny_bind (wpAny_holding ?_)
  refine wpAny_bind (any_x (RB1.ty rfl) ?_)
  refine wp_if_pos (c := (true = true)) rfl ?_
  refine wpAny_bind (wpAny_pure ?_)
  refine wpAny_bind (size_x (s := { s with heap := s.heap.push (newObjOf w) }) RB1 ?_)
  refine wpAny_bind (size_x (s := { s with heap := s.heap.push (newObjOf w) }) RA1 ?_)
  have key : ∀ (q v : Addr) (eq ev : Array (Int × Value)) (pq pv : Nat) (tq tv : SetTable), SetX w (s.heap.push (newObjOf w)) q eq pq tq → SetX w (s.heap.push (newObjOf w)) v ev pv tv → ev.size ≤ 63 → q ≠ s.heap.objs.size → v ≠ s.heap.objs.size →
      (∀ k, k ∈ keys ev ∧ k ∈ keys eq ↔ k ∈ keys ea ∧ k ∈ keys eb) → wpAny (model P w) A (do
        let was ← setEpoch v
        for (h, x) in ← setWalkUnseen v [q, s.heap.objs.size] (some s.heap.objs.size) do
          holding [x] do
            if (← setFind q x h).isSome then
              let _ ← setAddHashed s.heap.objs.size x h
          Builtin.Frozenset.unchanged id v was) (fun _ s' => wpAny (model P w) A (pure (Value.ref s.heap.objs.size)) Q E s') E { s with heap := s.heap.push (newObjOf w) } := by
    intro q v eq ev pq pv tq tv RQ RV hv nq nv hk
    refine wpAny_bind (wpAny_setEpoch_of RV.obj rfl RV.fits ?_)
    refine wpAny_bind (unseen_x (s := { s with heap := s.heap.push (newObjOf w) }) RV (fun c hc => ?_) R1 fun ys d h2 pf tf py sb2 R2 => ?_)
    · rcases List.mem_cons.mp hc with z | z
      · exact ⟨_, _, _, z ▸ RQ⟩
      · rw [List.mem_singleton.mp z]
        exact ⟨_, _, _, R1⟩
    have RQ2 := sx_other RQ sb2 nq
    have RV2 := sx_other RV sb2 nv
    have zy := perm_size py
    refine wpAny_bind (add_some (P := P) (A := A) (E := E) (s := { s with heap := h2, drawn := d }) (r := s.heap.objs.size) (fun k => decide (k ∈ keys eq)) _ (fun s1 => SetX w s1.heap q eq pq tq ∧ SetX w s1.heap v ev pv tv) (fun s1 h' sb k => ⟨sx_other k.1 sb nq, sx_other k.2 sb nv⟩) ?hf ys
      (fun e he => RV.good e (py.mem_iff.mp he)) (R2.toR (S := fun _ => false) (fun k => by simp) rfl) (by show 0 + ys.size + 1 < scanBound; omega) ⟨RQ2, RV2⟩ ?hQ)
    case hQ =>
      intro h3 S' n' R3 m3 l3 sb3 _
      refine wpAny_pure (wpAny_pure (hQ h3 d S' n' R3 (fun k => ?_) ?_ ?_))
      · rw [m3 k, keys_perm py k, decide_eq_true_iff, ← hk k]
        simp
      · have : n' ≤ 0 + ys.size := l3
        omega
      · exact old_but (sb_trans sb2 sb3)
    case hf =>
      intro e k tk s1 Q' ee kk h1 h0
      subst ee
      dsimp only
      refine wpAny_bind (wpAny_holding ?_)
      refine wpAny_bind (found_x kk.1 fun i hi => ?_)
      by_cases c : k ∈ keys eq
      · refine wp_if_pos (by rw [hi]; exact decide_eq_true c) ?_
        refine wpAny_bind (wpAny_mono (h1 (decide_eq_true c)) (fun b s2 hs2 => ?_) fun _ _ z => z)
        refine wpAny_pure ?_
        refine wpAny_bind (unchanged_x hs2.1.2 ?_)
        exact wpAny_pure hs2.2
      · refine wp_if_neg (by rw [hi]; simpa using c) ?_
        refine wpAny_pure ?_
        refine wpAny_bind (unchanged_x kk.2 ?_)
        exact wpAny_pure (h0 (decide_eq_false c))
  by_cases c : eb.size > ea.size
  · rw [if_pos c]
    exact key b a eb ea pb pa tb ta RB1 RA1 hl nb na (fun k => Iff.rfl)
  · rw [if_neg c]
    exact key a b ea eb pa pb ta tb RA1 RB1 hl2 na nb (fun k => And.comm)
end
end Cs

set_option Elab.async false
set_option linter.all false
set_option maxRecDepth 100000
set_option maxHeartbeats 1000000
namespace Cs
open PySem PySem.Spec PyProof.Rows L2
section
variable {P : Program} {w : World} {A : Around} {E : Value → Shared → Prop} {s : Shared}
theorem map_out {α β : Type} (f : α → β) : ∀ (l : List α) (i : Nat), (l.map f).eraseIdx i = (l.eraseIdx i).map f
  | [], i => by simp
  | x :: l, 0 => by simp
  | x :: l, i + 1 => by simp [map_out f l i]
/-- a | b -/
theorem union_x {id : String} {a b : Addr} {ea eb : Array (Int × Value)} {pa pb : Nat} {ta tb : SetTable} {Q : Unit → Shared → Prop} (hne : b ≠ a) (RA : SetX w s.heap a ea pa ta) (RB : SetX w s.heap b eb pb tb)
    (ha : ea.size ≠ 0 ∨ (ea = #[] ∧ ta.mask = 7 ∧ ta.dummies = #[])) (hl : (ea.size + eb.size) * 2 < 128)
    (hQ : ∀ h' d' S n, SetR w h' a S n → (∀ k, S k = true ↔ k ∈ keys ea ∨ k ∈ keys eb) → n ≤ ea.size + eb.size → Heap.SameBut a s.heap h' → Q () { s with heap := h', drawn := d' }) :
    wpAny (model P w) A (Builtin.Frozenset.updateFrom id a (.ref b)) Q E s := by
  unfold Builtin.Frozenset.updateFrom
  refine wpAny_bind (any_x (RB.ty rfl) ?_)
  refine wp_if_pos (c := (true = true)) rfl ?_
  refine wpAny_bind (wpAny_pure ?_)
  refine wpAny_bind (wpAny_setEpoch_of RB.obj rfl RB.fits ?_)
  rcases ha with ha | ⟨e0, em, ed⟩
  · refine merge_more hne RA RB ha hl (fun s' Q' k q => unchanged_x k q) fun h' d' S' n' R m l sb => ?_
    exact hQ h' d' S' n' R m l sb
  · subst e0
    have z0 : (#[] : Array (Int × Value)).size = 0 := rfl
    refine merge_fresh hne RA em ed RB (by omega) fun h' es' ep' t' X p sb => ?_
    have z := perm_size p
    exact hQ h' s.drawn _ _ (X.toR (S := fun k => decide (k ∈ keys es')) (fun k => decide_eq_true_iff) rfl) (fun k => by rw [decide_eq_true_iff, keys_perm p k]; simp) (by omega) sb

/-- what is struck out -/
theorem discard_x {a : Addr} {es : Array (Int × Value)} {ep : Nat} {t : SetTable} {k : Int} {tk : Tok} {Q : Bool → Shared → Prop} (R : SetX w s.heap a es ep t)
    (hQ : ∀ b h' es' ep' t', SetX w h' a es' ep' t' → (∀ j, j ∈ keys es' ↔ j ∈ keys es ∧ j ≠ k) → es'.size ≤ es.size → Heap.SameBut a s.heap h' → Q b { s with heap := h' }) :
    wpAny (model P w) A (setDiscardHashed a (.int k tk) (hashInt k)) Q E s := by
  unfold setDiscardHashed
  refine wpAny_bind (find_x R fun i hi => ?_)
  rcases hi with ⟨rfl, z⟩ | ⟨i, rfl, z⟩
  · exact wpAny_pure (hQ false s.heap es ep t R (fun j => ⟨fun q => ⟨q, fun e => z (e ▸ q)⟩, fun q => q.1⟩) (Nat.le_refl _) (Heap.SameBut.refl a s.heap))
  · dsimp only
    refine wpAny_bind (wpAny_setState_of R.obj rfl R.fits ?_)
    dsimp only
    have hf := R.fits
    unfold SetTable.fits SetTable.fill at hf
    rw [Bool.and_eq_true, beq_iff_eq, decide_eq_true_eq] at hf
    have hi : i < es.toList.length := by
      have := (List.getElem?_eq_some_iff.mp z).1
      rw [List.length_map] at this
      exact this
    have hi2 : i < t.place.size := by rw [hf.1, ← Array.length_toList]; exact hi
    have er : ∀ {α : Type} (xs : Array α), (SetTable.eraseAt xs i).toList = xs.toList.eraseIdx i := fun xs => by
      unfold SetTable.eraseAt
      rw [List.eraseIdx_eq_take_drop_succ]
      simp [List.extract_eq_take_drop, List.take_of_length_le]
    have ed : t.drop i = { t with place := SetTable.eraseAt t.place i, dummies := SetTable.insertAt t.dummies (SetTable.below t.dummies t.place[i]) t.place[i] } := by
      unfold SetTable.drop
      rw [Array.getElem?_eq_getElem hi2]
    have l1 : (SetTable.eraseAt es i).size + 1 = es.size := by
      rw [← Array.length_toList, er, List.length_eraseIdx, if_pos hi, Array.length_toList]
      rw [Array.length_toList] at hi
      omega
    have l2 : (SetTable.eraseAt t.place i).size + 1 = t.place.size := by
      rw [← Array.length_toList, er, List.length_eraseIdx, Array.length_toList, if_pos hi2]
      omega
    have l3 : ∀ p x, (SetTable.insertAt t.dummies p x).size = t.dummies.size + 1 := fun p x => by
      have := (SetTable.insertAt_perm t.dummies p x).length_eq
      rw [Array.length_toList, Array.length_toList, Array.size_push] at this
      exact this
    refine wpAny_bind (wpAny_storeSet_of R.obj rfl ?_ (fits_of_scanBound (by have := R.few; omega)))
    refine wpAny_bind (wpAny_point ?_)
    have ek : keys (SetTable.eraseAt es i) = (keys es).eraseIdx i := by
      show (SetTable.eraseAt es i).toList.map keyOf = _
      rw [er]
      exact (map_out keyOf es.toList i).symm
    have pk : (k :: (keys es).eraseIdx i).Perm (keys es) := erase_perm (keys es) i k z
    have nd : (k :: (keys es).eraseIdx i).Nodup := pk.nodup_iff.mpr R.nd
    refine wpAny_pure (hQ true _ _ _ _ ⟨store_at R.obj rfl, fun e he => R.good e ?_, ?_, ?_, ?_, ?_, ?_⟩ (fun j => ?_) (by omega) (Heap.SameBut.update s.heap a _))
    · rw [er] at he
      exact List.mem_of_mem_eraseIdx he
    · show (keys (SetTable.eraseAt es i)).Nodup
      rw [ek]
      exact (List.nodup_cons.mp nd).2
    · have := R.few
      omega
    · rw [ed]
      unfold SetTable.fits SetTable.fill
      rw [Bool.and_eq_true, beq_iff_eq, decide_eq_true_eq]
      simp only
      rw [l3]
      exact ⟨by omega, by omega⟩
    · rw [ed]
      show Ris (SetTable.eraseAt t.place i).toList
      rw [er]
      exact List.Pairwise.sublist (List.eraseIdx_sublist _ _) R.ris
    · rw [ed]
      exact R.led
    · rw [ek, ← (pk.mem_iff (a := j)), List.mem_cons]
      constructor
      · intro q
        exact ⟨.inr q, fun e => (List.nodup_cons.mp nd).1 (e ▸ q)⟩
      · rintro ⟨q | q, q2⟩
        · exact absurd q q2
        · exact q

theorem strike_all {r : Addr} (f : (Int × Value) → PUnit → Sem (ForInStep PUnit)) (K : Shared → Prop) (hK : ∀ s1 h', Heap.SameBut r s1.heap h' → K s1 → K { s1 with heap := h' })
    (hf : ∀ e k tk s1 Q', e = (hashInt k, Value.int k tk) → K s1 → (wpAny (model P w) A (setDiscardHashed r (.int k tk) (hashInt k)) (fun _ s2 => K s2 ∧ Q' (.yield ⟨⟩) s2) E s1) → wpAny (model P w) A (f e ⟨⟩) Q' E s1)
    (ys : Array (Int × Value)) (g : ∀ e ∈ ys.toList, GoodE e) {es : Array (Int × Value)} {ep : Nat} {t : SetTable} (R : SetX w s.heap r es ep t) (hs : K s) {Q : PUnit → Shared → Prop}
    (hQ : ∀ h' es' ep' t', SetX w h' r es' ep' t' → (∀ k, k ∈ keys es' ↔ k ∈ keys es ∧ k ∉ keys ys) → es'.size ≤ es.size → Heap.SameBut r s.heap h' → K { s with heap := h' } → Q ⟨⟩ { s with heap := h' }) :
    wpAny (model P w) A (forIn ys ⟨⟩ f) Q E s := by
  refine MeetsSeq2.wpAny_forIn_array f (fun rest _ s' => ∃ h' es' ep' t', s' = { s with heap := h' } ∧ SetX w h' r es' ep' t' ∧ (∀ k, (k ∈ keys es' ∧ k ∉ rest.map keyOf) ↔ (k ∈ keys es ∧ k ∉ keys ys)) ∧ es'.size ≤ es.size ∧
    Heap.SameBut r s.heap h' ∧ K { s with heap := h' } ∧ ∀ e ∈ rest, GoodE e) Q ?turn ?fin ys ⟨⟩ ⟨s.heap, es, ep, t, rfl, R, fun k => Iff.rfl, Nat.le_refl _, Heap.SameBut.refl r s.heap, hs, g⟩
  case fin =>
    rintro ⟨⟩ s' ⟨h', es', ep', t', rfl, R', m, l, sb, k, _⟩
    exact hQ h' es' ep' t' R' (fun k => by simpa using m k) l sb k
  case turn =>
    rintro e rest ⟨⟩ s' ⟨h', es', ep', t', rfl, R', m, l, sb, kk, g'⟩
    obtain ⟨k, tk, e1, e2⟩ := g' e List.mem_cons_self
    obtain ⟨eh, ev⟩ := e
    simp only at e1 e2
    subst e1 e2
    refine hf _ k tk _ _ rfl kk ?_
    refine discard_x (s := { s with heap := h' }) R' fun b h2 es2 ep2 t2 R2 m2 l2 sb2 => ?_
    have k2 : K { s with heap := h2 } := hK { s with heap := h' } h2 sb2 kk
    refine ⟨k2, h2, _, _, _, rfl, R2, fun j => ?_, by omega, sb_trans sb sb2, k2, fun e he => g' e (List.mem_cons_of_mem _ he)⟩
    rw [← m j, List.map_cons, List.mem_cons, m2 j]
    show ((j ∈ keys es' ∧ j ≠ k) ∧ _) ↔ (j ∈ keys es' ∧ ¬ (j = k ∨ _))
    constructor
    · rintro ⟨⟨z1, z2⟩, z3⟩
      exact ⟨z1, fun z => z.elim z2 z3⟩
    · rintro ⟨z1, z2⟩
      exact ⟨⟨z1, fun z => z2 (.inl z)⟩, fun z => z2 (.inr z)⟩

theorem tidy_x {a : Addr} {es : Array (Int × Value)} {ep : Nat} {t : SetTable} {Q : Unit → Shared → Prop} (R : SetX w s.heap a es ep t) (hl : es.size ≤ 31)
    (hQ : ∀ h' es' ep' t', SetX w h' a es' ep' t' → es'.toList.Perm es.toList → Heap.SameBut a s.heap h' → Q () { s with heap := h' }) :
    wpAny (model P w) A (setTidy a) Q E s := by
  unfold setTidy
  refine wpAny_bind (wpAny_setState_of R.obj rfl R.fits ?_)
  dsimp only
  have eg : SetTable.grown es.size = es.size * 4 := if_neg (by omega)
  split
  · rw [eg]
    exact relay_x R (by omega) (by omega) fun h' es' t' sb X p _ _ _ => hQ h' es' _ t' X p sb
  · exact wpAny_pure (hQ s.heap es ep t R (List.Perm.refl _) (Heap.SameBut.refl a s.heap))
end
end Cs

set_option Elab.async false
set_option linter.all false
set_option maxRecDepth 100000
set_option maxHeartbeats 2000000
namespace Cs
open PySem PySem.Spec PyProof.Rows L2
section
variable {P : Program} {w : World} {A : Around} {E : Value → Shared → Prop} {s : Shared}
/-- a - b -/
theorem sub_x {id : String} {a b : Addr} {ea eb : Array (Int × Value)} {pa pb : Nat} {ta tb : SetTable} {Q : Value → Shared → Prop} (hne : b ≠ a) (RA : SetX w s.heap a ea pa ta) (RB : SetX w s.heap b eb pb tb)
    (hl : ea.size ≤ 31) (hl2 : eb.size ≤ 63)
    (hQ : ∀ h' d' S n, SetR w h' s.heap.objs.size S n → (∀ k, S k = true ↔ k ∈ keys ea ∧ k ∉ keys eb) → n ≤ 31 → Old s.heap h' → Q (.ref s.heap.objs.size) { s with heap := h', drawn := d' }) :
    wpAny (model P w) A (Builtin.Frozenset.difference id a (.ref b)) Q E s := by
  have hsb : scanBound = 4096 := rfl
  have na : a ≠ s.heap.objs.size := Nat.ne_of_lt (Heap.lt_size RA.obj)
  have nb : b ≠ s.heap.objs.size := Nat.ne_of_lt (Heap.lt_size RB.obj)
  unfold Builtin.Frozenset.difference
  dsimp only
  refine wpAny_bind (any_x (RB.ty rfl) ?_)
  refine wp_if_neg (c := ((!true) = true)) (by simp) ?_
  try refine wpAny_bind (wpAny_pure ?_)
  try refine wpAny_bind (wpAny_pure ?_)
  refine wp_if_neg (c := ((!true && b == sysModules) = true)) (by simp) ?_
  try refine wpAny_bind (wpAny_pure ?_)
  refine wp_if_pos (c := (true = true)) rfl ?_
  refine wpAny_bind (size_x RB ?_)
  refine wpAny_bind (size_x RA ?_)
  by_cases c : ea.size / 4 > eb.size
  · refine wp_if_pos c ?_
    refine wpAny_bind (wpAny_rule ?_)
    refine wpAny_bind (copy_x RA (by omega) fun h1 es1 ep1 t1 X1 p1 sb1 => ?_)
    have z1 := perm_size p1
    have RB1 : SetX w h1 b eb pb tb := RB.move fun o e => old_but sb1 _ _ e
    refine wpAny_bind (wpAny_pure ?_)
    refine wpAny_bind (wpAny_holding ?_)
    unfold Builtin.Frozenset.differenceUpdate
    refine wp_if_neg (c := ((Value.ref b == Value.ref s.heap.objs.size) = true)) (by simpa using nb) ?_
    try refine wpAny_bind (wpAny_pure ?_)
    refine wpAny_bind (any_x (RB1.ty rfl) ?_)
    refine wp_if_pos (c := (true = true)) rfl ?_
    refine wpAny_bind (wpAny_pure ?_)
    dsimp only
    refine wpAny_bind (size_x (s := { s with heap := h1 }) RB1 ?_)
    refine wpAny_bind (size_x (s := { s with heap := h1 }) X1 ?_)
    refine wp_if_neg (by omega) ?_
    try refine wpAny_bind (wpAny_pure ?_)
    refine wpAny_bind (wpAny_setEpoch_of RB1.obj rfl RB1.fits ?_)
    refine wpAny_bind (wpAny_holding ?_)
    refine wpAny_bind (unseen_n (s := { s with heap := h1 }) RB1 (fun x hx => by rw [List.mem_singleton.mp hx]; exact ⟨_, _, _, X1⟩) fun ys d py => ?_)
    refine wpAny_bind (strike_all (P := P) (A := A) (E := E) (s := { s with heap := h1, drawn := d }) (r := s.heap.objs.size) _ (fun s1 => SetX w s1.heap b eb pb tb) (fun s1 h' sb k => sx_other k sb nb) ?hf ys
      (fun e he => RB.good e (py.mem_iff.mp he)) X1 RB1 ?hQ)
    case hf =>
      intro e k tk s1 Q' ee kk hwp
      subst ee
      dsimp only
      refine wpAny_bind (wpAny_holding (wpAny_mono hwp (fun b s2 hs2 => ?_) fun _ _ z => z))
      obtain ⟨k2, q2⟩ := hs2
      refine wpAny_bind (unchanged_x k2 ?_)
      exact wpAny_pure q2
    case hQ =>
      intro h2 es2 ep2 t2 X2 m2 l2 sb2 _
      refine wpAny_pure ?_
      refine tidy_x (s := { s with heap := h2, drawn := d }) X2 (by omega) fun h3 es3 ep3 t3 X3 p3 sb3 => ?_
      have z3 := perm_size p3
      refine wpAny_pure (hQ h3 d _ _ (X3.toR (S := fun k => decide (k ∈ keys es3)) (fun k => decide_eq_true_iff) rfl) (fun k => ?_) (by omega) ?_)
      · rw [decide_eq_true_iff, keys_perm p3 k, m2 k, keys_perm p1 k, keys_perm py k]
      · exact old_but (sb_trans sb1 (sb_trans sb2 sb3))
  · refine wp_if_neg c ?_
    try refine wpAny_bind (wpAny_pure ?_)
    refine wpAny_bind (base_x (RA.ty rfl) ?_)
    refine wpAny_bind (new_x ?_)
    refine wpAny_bind (wpAny_pure ?_)
    have RA1 : SetX w (s.heap.push (newObjOf w)) a ea pa ta := RA.move fun o e => old_push _ _ _ _ e
    have RB1 : SetX w (s.heap.push (newObjOf w)) b eb pb tb := RB.move fun o e => old_push _ _ _ _ e
    have R1 := fresh_x (w := w) s.heap
    refine wpAny_bind (wpAny_setEpoch_of RA1.obj rfl RA1.fits ?_)
    refine wpAny_bind (wpAny_holding ?_)
    refine wpAny_bind (wp_if_pos (c := (true = true)) rfl ?_)
    refine unseen_x (s := { s with heap := s.heap.push (newObjOf w) }) RA1 (fun x hx => ?_) R1 fun ys d h2 pf tf py sb2 R2 => ?_
    · rcases List.mem_cons.mp hx with z | z
      · exact ⟨_, _, _, z ▸ RB1⟩
      · rw [List.mem_singleton.mp z]
        exact ⟨_, _, _, R1⟩
    have RA2 := sx_other RA1 sb2 na
    have RB2 := sx_other RB1 sb2 nb
    have zy := perm_size py
    refine wpAny_bind (add_some (P := P) (A := A) (E := E) (s := { s with heap := h2, drawn := d }) (r := s.heap.objs.size) (fun k => decide (k ∉ keys eb)) _ (fun s1 => SetX w s1.heap b eb pb tb ∧ SetX w s1.heap a ea pa ta)
      (fun s1 h' sb k => ⟨sx_other k.1 sb nb, sx_other k.2 sb na⟩) ?hf ys
      (fun e he => RA.good e (py.mem_iff.mp he)) (R2.toR (S := fun _ => false) (fun k => by simp) rfl) (by show 0 + ys.size + 1 < scanBound; omega) ⟨RB2, RA2⟩ ?hQ)
    case hQ =>
      intro h3 S' n' R3 m3 l3 sb3 _
      refine wpAny_pure (wpAny_pure (hQ h3 d S' n' R3 (fun k => ?_) ?_ ?_))
      · rw [m3 k, keys_perm py k, decide_eq_true_iff]
        simp
      · have : n' ≤ 0 + ys.size := l3
        omega
      · exact old_but (sb_trans sb2 sb3)
    case hf =>
      intro e k tk s1 Q' ee kk h1 h0
      subst ee
      dsimp only
      refine wpAny_bind (wpAny_holding ?_)
      refine wp_if_pos (c := (true = true)) rfl ?_
      refine wpAny_bind (found_x kk.1 fun i hi => ?_)
      refine wpAny_bind (wpAny_pure ?_)
      try refine wpAny_bind (wpAny_pure ?_)
      by_cases c : k ∈ keys eb
      · refine wp_if_neg (by rw [hi]; simp [c]) ?_
        refine wpAny_pure ?_
        refine wpAny_bind (unchanged_x kk.2 ?_)
        exact wpAny_pure (h0 (by simp [c]))
      · refine wp_if_pos (by rw [hi]; simp [c]) ?_
        refine wpAny_bind (wpAny_mono (h1 (decide_eq_true c)) (fun b s2 hs2 => ?_) fun _ _ z => z)
        refine wpAny_pure ?_
        refine wpAny_bind (unchanged_x hs2.1.2 ?_)
        exact wpAny_pure hs2.2
end
end Cs

set_option Elab.async false
set_option linter.all false
set_option maxRecDepth 100000
set_option maxHeartbeats 2000000
namespace Cs
open PySem PySem.Spec PyProof.Rows L2
theorem entry_and : entryFor table "set.__and__" = some Builtin.«frozenset.__and__» := entryFor_alias (id' := "frozenset.__and__") (by kernel_rfl) rfl (by decide +kernel) (by kernel_rfl)
theorem entry_or : entryFor table "set.__or__" = some Builtin.«frozenset.__or__» := entryFor_alias (id' := "frozenset.__or__") (by kernel_rfl) rfl (by decide +kernel) (by kernel_rfl)
theorem entry_sub : entryFor table "set.__sub__" = some Builtin.«frozenset.__sub__» := entryFor_alias (id' := "frozenset.__sub__") (by kernel_rfl) rfl (by decide +kernel) (by kernel_rfl)
end Cs

set_option Elab.async false
set_option linter.all false
set_option maxRecDepth 100000
set_option maxHeartbeats 2000000
namespace Cs
open PySem PySem.Spec PyProof.Rows L2
section
variable {P : Program} {w : World} {A : Around} {E : Value → Shared → Prop} {s : Shared}
theorem slot1_x {name : String} {v u : Value} {Q : Value × Value → Shared → Prop} (q : Q (v, u) s) : wpAny (model P w) A (Builtin.Frozenset.slot1 name ⟨[v, u], []⟩) Q E s := by
  unfold Builtin.Frozenset.slot1 slotArgs
  exact wpAny_pure q
theorem op_and_x {a b : Addr} {SA SB : Int → Bool} {na nb : Nat} {Q : Value → Shared → Prop} (hne : b ≠ a) (RA : SetR w s.heap a SA na) (RB : SetR w s.heap b SB nb) (hl : na ≤ 63) (hl2 : nb ≤ 63)
    (hQ : ∀ h' d' S n, SetR w h' s.heap.objs.size S n → (∀ k, S k = true ↔ SA k = true ∧ SB k = true) → n ≤ 63 → Old s.heap h' → Q (.ref s.heap.objs.size) { s with heap := h', drawn := d' }) :
    wpAny (model P w) A (binaryOp .BitAnd (.ref a) (.ref b)) Q E s := by
  obtain ⟨ea, pa, ta, XA, mA, zA⟩ := xOf RA
  obtain ⟨eb, pb, tb, XB, mB, zB⟩ := xOf RB
  have TA : s.TypeIs (.ref a) "set" := XA.ty rfl
  have TB : s.TypeIs (.ref b) "set" := XB.ty rfl
  refine wpAny_binaryOp_same (op := .BitAnd) TA TB F.fills_set_and F.slot_set_and ?_
  refine wpAny_call_entry F.slot_set_and TA entry_and ?_ (F.args_set_and_2 _ _)
  refine wpAny_bind (slot1_x ?_)
  dsimp only
  refine wpAny_bind (wpAny_bind (any_x TA ?_))
  show wpAny _ _ (Builtin.Frozenset.isAnySet (.ref b)) _ _ _
  refine any_x TB ?_
  refine wp_if_neg (c := ((!true) = true)) (by simp) ?_
  refine wpAny_bind (wpAny_pure ?_)
  refine wpAny_bind (and_x hne XA XB (by omega) (by omega) fun h' d' S n R m l o => ?_)
  refine wpAny_pure ⟨_, rfl, (fun z => nomatch z), hQ h' d' S n R (fun k => ?_) l o⟩
  rw [m k, mA k, mB k]
theorem op_or_x {a b : Addr} {SA SB : Int → Bool} {na nb : Nat} {Q : Value → Shared → Prop} (hne : b ≠ a) (RA : SetR w s.heap a SA na) (RB : SetR w s.heap b SB nb) (hl : na + nb ≤ 63)
    (hQ : ∀ h' d' S n, SetR w h' s.heap.objs.size S n → (∀ k, S k = true ↔ SA k = true ∨ SB k = true) → n ≤ na + nb → Old s.heap h' → Q (.ref s.heap.objs.size) { s with heap := h', drawn := d' }) :
    wpAny (model P w) A (binaryOp .BitOr (.ref a) (.ref b)) Q E s := by
  obtain ⟨ea, pa, ta, XA, mA, zA⟩ := xOf RA
  obtain ⟨eb, pb, tb, XB, mB, zB⟩ := xOf RB
  have TA : s.TypeIs (.ref a) "set" := XA.ty rfl
  have TB : s.TypeIs (.ref b) "set" := XB.ty rfl
  have hbs : b ≠ s.heap.objs.size := Nat.ne_of_lt (Heap.lt_size XB.obj)
  refine wpAny_binaryOp_same (op := .BitOr) TA TB F.fills_set_or F.slot_set_or ?_
  refine wpAny_call_entry F.slot_set_or TA entry_or ?_ (F.args_set_or_2 _ _)
  refine wpAny_bind (slot1_x ?_)
  dsimp only
  refine wpAny_bind (wpAny_bind (any_x TA ?_))
  show wpAny _ _ (Builtin.Frozenset.isAnySet (.ref b)) _ _ _
  refine any_x TB ?_
  refine wp_if_neg (c := ((!true) = true)) (by simp) ?_
  refine wpAny_bind (wpAny_pure ?_)
  refine wpAny_bind ?_
  by_cases he : ea = #[]
  · subst he
    refine wpAny_bind (m := Builtin.Frozenset.copyOf a) ?_
    unfold Builtin.Frozenset.copyOf
    refine wpAny_bind (base_x TA ?_)
    refine wpAny_bind (new_x ?_)
    refine wpAny_bind (wpAny_pure ?_)
    have hae : a ≠ s.heap.objs.size := Nat.ne_of_lt (Heap.lt_size XA.obj)
    have XA1 : SetX w (s.heap.push (newObjOf w)) a #[] pa ta := XA.move fun o e => old_push _ _ _ _ e
    have XB1 : SetX w (s.heap.push (newObjOf w)) b eb pb tb := XB.move fun o e => old_push _ _ _ _ e
    refine wpAny_bind ?_
    unfold setMerge
    refine wp_if_neg (c := (s.heap.objs.size == a) = true) (by simpa using hae.symm) ?_
    try refine wpAny_bind (wpAny_pure ?_)
    refine wpAny_bind (wpAny_setState_of XA1.obj rfl XA1.fits ?_)
    dsimp only
    refine wp_if_pos (c := (#[] : Array (Int × Value)).isEmpty = true) rfl ?_
    refine wpAny_pure (wpAny_pure ?_)
    refine wp_if_pos (c := ((Value.ref b != Value.ref a) = true)) (by simpa using hne) ?_
    refine wpAny_bind (wpAny_pure ?_)
    have z0 : (#[] : Array (Int × Value)).size = 0 := rfl
    refine wpAny_bind (wpAny_holding (union_x (s := { s with heap := s.heap.push (newObjOf w) }) hbs (fresh_x s.heap) XB1 (.inr ⟨rfl, rfl, rfl⟩) (by omega) fun h' d' S n R m l sb => ?_))
    refine wpAny_pure (wpAny_pure ⟨_, rfl, (fun z => nomatch z), hQ h' d' S n R (fun k => ?_) (by omega) (old_but sb)⟩)
    rw [m k, mA k, mB k]
  · have hz : ea.size ≠ 0 := fun z => he (by simpa using z)
    refine wpAny_bind (m := Builtin.Frozenset.copyOf a) (copy_x XA (by omega) fun h1 es1 ep1 t1 X1 p1 sb1 => ?_)
    have z1 := perm_size p1
    have XB1 : SetX w h1 b eb pb tb := XB.move fun o e => old_but sb1 _ _ e
    refine wp_if_pos (c := ((Value.ref b != Value.ref a) = true)) (by simpa using hne) ?_
    refine wpAny_bind (wpAny_pure ?_)
    refine wpAny_bind (wpAny_holding (union_x (s := { s with heap := h1 }) hbs X1 XB1 (.inl (by omega)) (by omega) fun h' d' S n R m l sb => ?_))
    refine wpAny_pure (wpAny_pure ⟨_, rfl, (fun z => nomatch z), hQ h' d' S n R (fun k => ?_) (by omega) (old_but (sb_trans sb1 sb))⟩)
    rw [m k, keys_perm p1 k, mA k, mB k]
theorem op_sub_x {a b : Addr} {SA SB : Int → Bool} {na nb : Nat} {Q : Value → Shared → Prop} (hne : b ≠ a) (RA : SetR w s.heap a SA na) (RB : SetR w s.heap b SB nb) (hl : na ≤ 31) (hl2 : nb ≤ 63)
    (hQ : ∀ h' d' S n, SetR w h' s.heap.objs.size S n → (∀ k, S k = true ↔ SA k = true ∧ SB k = false) → n ≤ 31 → Old s.heap h' → Q (.ref s.heap.objs.size) { s with heap := h', drawn := d' }) :
    wpAny (model P w) A (binaryOp .Sub (.ref a) (.ref b)) Q E s := by
  obtain ⟨ea, pa, ta, XA, mA, zA⟩ := xOf RA
  obtain ⟨eb, pb, tb, XB, mB, zB⟩ := xOf RB
  have TA : s.TypeIs (.ref a) "set" := XA.ty rfl
  have TB : s.TypeIs (.ref b) "set" := XB.ty rfl
  refine wpAny_binaryOp_same (op := .Sub) TA TB F.fills_set_sub F.slot_set_sub ?_
  refine wpAny_call_entry F.slot_set_sub TA entry_sub ?_ (F.args_set_sub_2 _ _)
  refine wpAny_bind (slot1_x ?_)
  dsimp only
  refine wpAny_bind (wpAny_bind (any_x TA ?_))
  show wpAny _ _ (Builtin.Frozenset.isAnySet (.ref b)) _ _ _
  refine any_x TB ?_
  refine wp_if_neg (c := ((!true) = true)) (by simp) ?_
  refine wpAny_bind (wpAny_pure ?_)
  refine wpAny_bind (sub_x hne XA XB (by omega) (by omega) fun h' d' S n R m l o => ?_)
  refine wpAny_pure ⟨_, rfl, (fun z => nomatch z), hQ h' d' S n R (fun k => ?_) l o⟩
  rw [m k, mA k, ← mB k]
  simp
end
end Cs

set_option Elab.async false
set_option linter.all false
set_option maxRecDepth 100000
set_option maxHeartbeats 3200000
namespace Cs
open PySem PySem.Spec PyProof.Rows L2
section
variable {P : Program} {w : World} {A : Around} {E : Value → Shared → Prop} {s : Shared}
/-- set(l), l a list of ints: made empty, then its items one by one -/
theorem set_of_list {l : Addr} {items : Array Value} (ns : List Int) {Q : Value → Shared → Prop} (quiet : A.handled = none) (isl : s.heap.IsList l items) (hints : IntsAre items.toList ns) (room : ns.length + 1 < scanBound)
    (fin : ∀ (h' : Heap) (tk c : Nat), SetR w h' s.heap.objs.size (fun j => decide (j ∈ ns)) c → c ≤ ns.length → Old s.heap h' → Q (.ref s.heap.objs.size) { s with heap := h', toks := tk }) :
    wpAny (model P w) A (call (.type "set") [.ref l]) Q E s := by
  have many : items.size = ns.length := (Array.length_toList (xs := items)).symm.trans (IntsAre.length hints)
  have cs := F.called_set
  obtain ⟨mc, mt, mro⟩ := cs.mro
  have made := cs.made
  have under := cs.sub
  refine wpAny_call (codeAny_of_tree ?_)
  show wpAny _ _ (callAny (.type "set") ⟨[.ref l], []⟩) _ _ _
  refine wpAny_pure ⟨Code.quiet_builtin _ (by decide +kernel), ?_⟩
  refine codeAny_builtin F.entry_type_call ?_
  rw [Around.under_plain (weight_type_call_type "set" [Value.ref l] []) rfl]
  have k1 := cs.notType
  have k2 := cs.canCreate
  have k3 := F.typeCall_set_1 (.ref l)
  repeat (any_goals (first | assumption | wp_step))
  refine codeAny_mono (code_set_led1 (.ref l) (E := E) (Q₁ := fun o z => o = .ref s.heap.objs.size ∧ z = { s with heap := s.heap.push (newObjOf w) }) ⟨rfl, rfl⟩) fun r z hz => ?_
  cases r with
  | error e => exact hz
  | ok fl =>
    cases fl with
    | ret o =>
      obtain ⟨rfl, rfl⟩ := hz
      have here : (s.heap.push (newObjOf w)).get? s.heap.objs.size = some (newObjOf w) := Heap.get?_push_size _ rfl
      have ty : Shared.TypeIs { s with heap := s.heap.push (newObjOf w) } (.ref s.heap.objs.size) "set" := ⟨_, here, rfl⟩
      have k4 := cs.init.lookup
      have k5 := cs.init.bind (.ref s.heap.objs.size)
      repeat (any_goals (first | assumption | wp_step))
      refine codeAny_mono (codeAny_call_builtin (R := wants (fun r y => r = .none ∧ ∃ h' tk c, y = { s with heap := h', toks := tk } ∧ SetR w h' s.heap.objs.size (fun j => decide (j ∈ ns)) c ∧ c ≤ ns.length ∧ Old s.heap h') E)
        cs.init.plain F.entry_set_init (check_set_init_1 ty ?_)) fun r2 y hy => ?_
      · obtain ⟨⟨oc, od, oda, osl⟩, lo, lc, ln, ld⟩ := isl
        simp only at lc ld
        subst lc ld
        have isl2 : (s.heap.push (newObjOf w)).IsList l items := ⟨_, Heap.get?_push_of_some _ lo, rfl, ln, rfl⟩
        have ll : l < s.heap.objs.size := Heap.lt_size lo
        have isl3 := Heap.get?_push_of_some (newObjOf w) lo
        have n1 := PySem.F.sub_list_set
        have n2 := PySem.F.sub_list_frozenset
        have n3 : (Value.type "list" == Value.type "dict") = false := by decide
        unfold Builtin.«set.__init__» noKeywords Builtin.Frozenset.updateFrom
        generalize hp : pyIter = iterOf
        wp_walk
        subst hp
        refine wpAny_pyIter_list isl2 ?_
        refine wpAny_bind (wpAny_runValue ?_)
        have q3 : A.in1.in1.in1.handled = none := by simp [quiet]
        have sz : (s.heap.push (newObjOf w)).objs.size = s.heap.objs.size + 1 := Heap.size_push ..
        have apart : l ≠ (s.heap.push (newObjOf w)).objs.size := by
          rw [sz]
          exact Nat.ne_of_lt (Nat.lt_succ_of_lt ll)
        have away : s.heap.objs.size ∉ [(s.heap.push (newObjOf w)).objs.size, l] := by
          rw [sz]
          simp only [List.mem_cons, List.not_mem_nil, or_false, not_or]
          exact ⟨Nat.ne_of_lt (Nat.lt_succ_self _), Nat.ne_of_gt ll⟩
        have val : ∀ (i : Nat) (v : Value), items[i]? = some v → ∃ k t, ns[i]? = some k ∧ v = .int k t := fun i v hv => by
          have hi : i < ns.length := by rw [← many]; exact (Array.getElem?_eq_some_iff.mp hv).1
          obtain ⟨t, e⟩ := IntsAre.int_at hints i v (by rw [Array.getElem?_toList]; exact hv)
          exact ⟨ns[i], t, List.getElem?_eq_getElem hi, by rw [e, List.getD_eq_getElem?_getD, List.getElem?_eq_getElem hi] <;> rfl⟩
        refine set_update_ints ((Walks.list q3 _ l apart items).toS) s.heap.objs.size away ns many room val (items.size - 0) 0 _ (by omega) (Nat.zero_le _) ⟨⟨_, Heap.get?_push_size _ rfl, rfl, rfl⟩, (isl2.push _)⟩ ?start ?stop
        case start => exact ⟨0, Nat.le_refl 0, setR_new_at (Heap.get?_push_of_some _ here)⟩
        case stop =>
          intro s2 c2 hm hc hS
          obtain ⟨h2, g2, d2, t2, o2⟩ := s2
          have eg : g2 = s.gens := hm.gens
          have ed : d2 = s.drawn := hm.drawn
          have eo : o2 = s.os := hm.os
          subst eg ed eo
          show wpAny _ _ _ _ _ _
          refine wpAny_pure ?_
          show wpAny _ _ (ret Value.none) _ _ _
          refine wpAny_pure ⟨rfl, h2, t2, c2, rfl, hS, by omega, fun b u e => ?_⟩
          have hb := Heap.lt_size e
          refine hm.heap b u ?_ (Heap.get?_push_of_some _ (Heap.get?_push_of_some _ e))
          rw [sz]
          simp only [List.mem_cons, List.not_mem_nil, or_false, not_or]
          exact ⟨Nat.ne_of_lt hb, Nat.ne_of_lt (Nat.lt_succ_of_lt hb)⟩
      · cases r2 with
        | error e => exact hy
        | ok f2 =>
          cases f2 with
          | ret r =>
            obtain ⟨rfl, h', tk, c, rfl, hS, hc, old⟩ := hy
            repeat (any_goals (first | assumption | wp_step))
            exact fin h' tk c hS hc old
          | _ => exact hy.elim
    | _ => exact hz.elim
end
end Cs

set_option Elab.async false
set_option linter.all false
set_option maxRecDepth 100000
set_option maxHeartbeats 2000000
namespace Cs
open PySem PySem.Spec PyProof.Rows L2
section
variable {X : Cx}
/-- set(l) -/
def rSetI (K : PySem.W.Frag) (w : World) : List V → Hp → VK → Prop := fun xs H Q => ∃ (l : Addr) (ns : List Int), xs = [V.ref l] ∧ SqL K H l (ns.map V.int) ∧ ns.length ≤ 4000 ∧
  ∀ (p : Addr) (c : Nat), H p = none → c ≤ ns.length → Q (.ref p) (upd H p (SetO w p (fun j => decide (j ∈ ns)) c))
theorem cr_setI (hc : X.calm = true) : CallR X (.type "set") (rSetI X.K X.w) := by
  intro pins s σ H xs us Q I r h
  obtain ⟨l, ns, rfl, hq, hl, q⟩ := h
  rw [Vals.ref1 r]
  obtain ⟨its, rv, pl, hz⟩ := I.list hq
  refine set_of_list ns (I.ok.hd hc) pl.isList (by simpa using ints_of_vals rv) (by have : scanBound = 4096 := rfl; omega) fun h' tk c hS hcn old => ?_
  exact ⟨.ref _, upd H s.heap.objs.size (SetO X.w s.heap.objs.size (fun j => decide (j ∈ ns)) c), I.laid (t' := tk) old (Nat.le_refl _) (setO_new hS), rfl, q _ c (I.hok.fresh (Nat.le_refl _)) hcn⟩
theorem laidD {pins : List (Addr × Obj)} {σ : L2.St} {H : Hp} {s : Shared} {h' : Heap} {d' : Drawn} {S : Int → Bool} {n : Nat} (I : Inv X pins σ H s) (old : Old s.heap h') (R : SetR X.w h' s.heap.objs.size S n) :
    Inv X pins σ (upd H s.heap.objs.size (SetO X.w s.heap.objs.size S n)) { s with heap := h', drawn := d' } :=
  I.call (ch := []) (g' := s.gens) (t' := s.toks) (Un.laid old (Nat.le_refl _) (I.hok.fresh (Nat.le_refl _))) (I.hok.laid old (Nat.le_refl _) (setO_new R)) I.bare (fun _ z => nomatch z)
/-- a & b, a | b, a - b of two sets of ints -/
def rSetOp (w : World) (most : Nat → Nat → Prop) (mem : (Int → Bool) → (Int → Bool) → Int → Prop) : V → V → Hp → VK → Prop := fun x y H Q => ∃ (a b : Addr) (SA SB : Int → Bool) (na nb : Nat), x = V.ref a ∧ y = V.ref b ∧ b ≠ a ∧
  H a = some (SetO w a SA na) ∧ H b = some (SetO w b SB nb) ∧ most na nb ∧
  ∀ (p : Addr) (S : Int → Bool) (n : Nat), H p = none → (∀ k, S k = true ↔ mem SA SB k) → n ≤ 63 → Q (.ref p) (upd H p (SetO w p S n))
abbrev mAnd : Nat → Nat → Prop := fun na nb => na ≤ 63 ∧ nb ≤ 63
abbrev mOr : Nat → Nat → Prop := fun na nb => na + nb ≤ 63
abbrev mSub : Nat → Nat → Prop := fun na nb => na ≤ 31 ∧ nb ≤ 63
abbrev eAnd : (Int → Bool) → (Int → Bool) → Int → Prop := fun A B k => A k = true ∧ B k = true
abbrev eOr : (Int → Bool) → (Int → Bool) → Int → Prop := fun A B k => A k = true ∨ B k = true
abbrev eSub : (Int → Bool) → (Int → Bool) → Int → Prop := fun A B k => A k = true ∧ B k = false
theorem op_sand : OpR X (binaryOp .BitAnd) (rSetOp X.w mAnd eAnd) := by
  intro pins s σ H x y v u Q I rx ry h
  obtain ⟨a, b, SA, SB, na, nb, rfl, rfl, hne, ha, hb, hm, q⟩ := h
  cases rx
  cases ry
  exact op_and_x hne (setO_get I ha) (setO_get I hb) hm.1 hm.2 fun h' d' S n R m l old => ⟨.ref _, _, laidD I old R, rfl, q _ S n (I.hok.fresh (Nat.le_refl _)) m l⟩
theorem op_sor : OpR X (binaryOp .BitOr) (rSetOp X.w mOr eOr) := by
  intro pins s σ H x y v u Q I rx ry h
  obtain ⟨a, b, SA, SB, na, nb, rfl, rfl, hne, ha, hb, hm, q⟩ := h
  cases rx
  cases ry
  have hm' : na + nb ≤ 63 := hm
  exact op_or_x hne (setO_get I ha) (setO_get I hb) hm fun h' d' S n R m l old => ⟨.ref _, _, laidD I old R, rfl, q _ S n (I.hok.fresh (Nat.le_refl _)) m (by omega)⟩
theorem op_ssub : OpR X (binaryOp .Sub) (rSetOp X.w mSub eSub) := by
  intro pins s σ H x y v u Q I rx ry h
  obtain ⟨a, b, SA, SB, na, nb, rfl, rfl, hne, ha, hb, hm, q⟩ := h
  cases rx
  cases ry
  exact op_sub_x hne (setO_get I ha) (setO_get I hb) hm.1 hm.2 fun h' d' S n R m l old => ⟨.ref _, _, laidD I old R, rfl, q _ S n (I.hok.fresh (Nat.le_refl _)) m (by omega)⟩
/-- len(s) of a set of ints: none where it has no members -/
def rLenSet (w : World) : List V → Hp → VK → Prop := fun xs H Q => ∃ (a : Addr) (S : Int → Bool) (n : Nat), xs = [V.ref a] ∧ H a = some (SetO w a S n) ∧ (∀ c : Nat, (c = 0 ↔ ∀ k, S k = false) → Q (.int (c : Int)) H)
theorem call_len_sI : CallR X (.builtin "len") (rLenSet X.w) := by
  intro pins s σ H xs us Q I r h
  obtain ⟨a, S, n, rfl, ha, q⟩ := h
  rw [Vals.ref1 r]
  obtain ⟨es, ep, t, R, m, hn⟩ := xOf (setO_get I ha)
  refine call_len_set R.obj ⟨rfl, rfl, rfl⟩ rfl R.fits (by have := R.few; have : scanBound = 4096 := rfl; omega) ⟨.int (es.size : Nat), H, I.tok _, ⟨_, rfl⟩, q _ ?_⟩
  constructor
  · intro z k
    have e : es = #[] := by simpa using z
    subst e
    cases c : S k with
    | false => rfl
    | true => exact absurd ((m k).1 c) (by simp)
  · intro z
    cases c : es.toList with
    | nil =>
      rw [← Array.length_toList, c]
      rfl
    | cons e r =>
      have : S (keyOf e) = true := (m _).2 (by rw [c]; simp)
      rw [z] at this
      cases this
end
end Cs

set_option Elab.async false
set_option linter.all false
set_option maxRecDepth 100000
set_option maxHeartbeats 2000000
/-! != of two lists whose items are equal, deep -/
namespace Cs
open PySem PySem.Spec PyProof.Rows L2
open AutoSeq1 (wpAny_loadPart')
open MeetsSeq MeetsSeq2 MeetsSeq3 SeqRoads2 SeqAt
section
variable {prog : Program} {w : World}
abbrev seqO (us : Array Value) (n : Nat) (dd : Option Addr) (sl : Array (Option Value)) : Obj := { cls := .type "list", dict := dd, data := .seq us n, slots := sl }
abbrev AllP (prog : Program) (w : World) (A : Around) (s : Shared) (us ws : Array Value) : Prop := ∀ j (h1 : j < us.size) (h2 : j < ws.size), EqP prog w A s us[j] ws[j] true
theorem ne_stepP (a c : Addr) (us ws : Array Value) (n m : Nat) (d1 d2 : Option Addr) (s1 s2 : Array (Option Value)) (eq : us.size = ws.size) :
    ∀ (k i : Nat), us.size - i = k → MeetsIn prog w (Builtin.«list.__eq__.loop» ⟨[.ref a, .ref c, rawInt i, rawInt 3], []⟩)
      (fun A R s => s.heap.get? a = some (seqO us n d1 s1) ∧ s.heap.get? c = some (seqO ws m d2 s2) ∧ AllP prog w A.in1 s us ws ∧ R (.ok (.ret (.bool false))) s) := by
  intro k
  induction k with
  | zero =>
    intro i le A R s h
    obtain ⟨hp, g, d, tk, os⟩ := s
    obtain ⟨ha, hc, _, q⟩ := h
    wp_walk using wpAny_loadPart' ha, wpAny_loadPart' hc
    rw [show us[((i : Nat) : Int).toNat]? = none by simp; omega, show ws[((i : Nat) : Int).toNat]? = none by simp; omega]
    wp_walk using wpAny_loadPart' ha, wpAny_loadPart' hc
    show R (.ok (.ret (.bool (us.size != ws.size)))) _
    rw [eq]
    simpa using q
  | succ k ih =>
    intro i le A R s h
    obtain ⟨hp, g, d, tk, os⟩ := s
    obtain ⟨ha, hc, al, q⟩ := h
    have i1 : i < us.size := by omega
    have i2 : i < ws.size := by omega
    wp_walk using wpAny_loadPart' ha, wpAny_loadPart' hc
    rw [show us[((i : Nat) : Int).toNat]? = some us[i] by simp [i1], show ws[((i : Nat) : Int).toNat]? = some ws[i] by simp [i2]]
    refine wpAny_bind (al i i1 i2 _ _ ?_)
    wp_walk
    rw [show ((i : Int) + 1) = ((i + 1 : Nat) : Int) by push_cast; rfl]
    refine ⟨plainId_quiet plain_eq_loop _, codeAny_builtin entry_eq_loop ?_⟩
    rw [Around.under_plainId plain_eq_loop _]
    exact ih (i + 1) (by omega) A R _ ⟨ha, hc, al, q⟩
theorem ne_listP (a c : Addr) (us ws : Array Value) (n m : Nat) (d1 d2 : Option Addr) (s1 s2 : Array (Option Value)) (eq : us.size = ws.size) :
    MeetsIn prog w (Builtin.«list.__ne__» ⟨[.ref a, .ref c], []⟩)
      (fun A R s => s.heap.get? a = some (seqO us n d1 s1) ∧ s.heap.get? c = some (seqO ws m d2 s2) ∧ AllP prog w A.in1 s us ws ∧ R (.ok (.ret (.bool false))) s) := by
  intro A R s h
  obtain ⟨hp, g, d, tk, os⟩ := s
  obtain ⟨ha, hc, al, q⟩ := h
  have sub := AutoSeq1.sub_list_list
  have same : ¬ (us.size != ws.size) = true := by simp [eq]
  wp_walk using wpAny_loadPart' ha, wpAny_loadPart' hc
  refine ⟨plainId_quiet plain_eq_loop _, codeAny_builtin entry_eq_loop ?_⟩
  rw [Around.under_plainId plain_eq_loop _]
  exact ne_stepP a c us ws n m d1 d2 s1 s2 eq _ 0 rfl A R _ ⟨ha, hc, al, q⟩
theorem rc_neP {A : Around} {s : Shared} {a c : Addr} {us ws : Array Value} (ha : s.heap.IsList a us) (hc : s.heap.IsList c ws) (eq : us.size = ws.size) (hu : A.units < cLine)
    (al : AllP prog w A.in1 s us ws) (E Q : Value → Shared → Prop) (q : Q (.bool false) s) : wpAny (model prog w) A (richCompare .NotEq (.ref a) (.ref c)) Q E s := by
  obtain ⟨⟨c1, d1, x1, s1⟩, o1, e1, n, f1⟩ := id ha
  obtain ⟨⟨c2, d2, x2, s2⟩, o2, e2, m, f2⟩ := id hc
  simp only at e1 f1 e2 f2
  subst e1 f1 e2 f2
  have ta : s.TypeIs (.ref a) "list" := ⟨_, o1, rfl⟩
  have tc : s.TypeIs (.ref c) "list" := ⟨_, o2, rfl⟩
  exact wpAny_richCompare_same_room (op := .NotEq) ta tc F.slot_list_ne (call_meetsIn F.slot_list_ne ta F.entry_list_ne (F.args_list_ne_2 _ _) (ne_listP a c us ws n m d1 d2 s1 s2 eq)
    ⟨o1, o2, al, show Value.bool false ≠ Value.notImplemented ∧ Q (.bool false) s from ⟨(fun x => nomatch x), q⟩⟩) hu
end
section
variable {X : Cx}
/-- a != b, two lists that are equal -/
def rNeV (K : PySem.W.Frag) : R2 := fun x y H Q => ∃ a b xs ys, x = .ref a ∧ y = .ref b ∧ SqL K H a xs ∧ SqL K H b ys ∧ (∃ n, n ≤ 60 ∧ Paired (EqV K H n) xs ys) ∧ Q (.bl false) H
theorem op_neV (hu : X.A.units + 64 < cLine) : OpR X (compareOp .NotEq) (rNeV X.K) := by
  intro pins s σ H x y v u Q I rx ry h
  obtain ⟨a, b, xs, ys, rfl, rfl, ha, hb, ⟨n, hn, hp⟩, q⟩ := h
  cases (show v = Value.ref a from rx)
  cases (show u = Value.ref b from ry)
  obtain ⟨us, r1, p1, _⟩ := I.list ha
  obtain ⟨ws, r2, p2, _⟩ := I.list hb
  have hsz : us.toArray.size = ws.toArray.size := by
    rw [List.size_toArray, List.size_toArray, ← r1.length, ← r2.length]
    exact Paired.length hp
  refine rc_neP p1.isList p2.isList hsz (by omega) (fun j h1 h2 => ?_) _ _ ⟨.bl false, H, I, rfl, q⟩
  have k := items_run (eqV_run I n X.A.in1 (by show X.A.units + 1 + n < cLine; omega)) hp r1 r2 j (by simpa using h1) (by simpa using h2)
  simpa using k
end
end Cs

set_option Elab.async false
set_option linter.all false
set_option maxRecDepth 100000
set_option maxHeartbeats 4000000
/-! Sets of keys by a comprehension: {x for .. in ..}, the members ints or texts. -/
namespace Cs
open PySem PySem.Spec PyProof.Rows L2 PpSet
section
variable {X : Cx}
abbrev noK : Key → Bool := fun _ => false
abbrev withK (S : Key → Bool) (k : Key) : Key → Bool := fun j => S j || decide (j = k)
/-- one member more -/
theorem addK {pins : List (Addr × Obj)} {σ : L2.St} {H : Hp} {s : Shared} {E : Value → Shared → Prop} {D : Addr} {S : Key → Bool} {n : Nat} {k : Key} {u : Value} {Q : Value → Shared → Prop} (I : Inv X pins σ H s) (at_ : H D = some (SetK X.prog X.w D S n)) (few : n + 1 < scanBound) (r : RelV (kV k) u)
    (q : ∀ s', Inv X pins σ (upd H D (SetK X.prog X.w D (withK S k) (if S k = true then n else n + 1))) s' → Q .none s') : wpAny (model X.prog X.w) X.A (call (.builtin "set.add") [.ref D, u]) Q E s :=
  call_set_add (kV_is r) (key_scan r) (setK_get I at_) few fun h' sb new => q _ (I.write (e := D) (t' := s.toks + 1) (by rw [at_]; trivial) (.inl rfl) (fun b o hb ho => (sb.2 b hb).trans ho) (let ⟨o, _, _, _, ho, _⟩ := new; ⟨o, ho⟩) (setK_new new))
/-- what a comprehension asks: its walk, and a set that grows -/
def tScK (P : Program) (w : World) (wi : TI) (g : TG) (tt : TT) (te : TE) (vs : List Nat) : TE := fun σ H Q => wi σ H fun J H1 => ∀ D, H1 D = none → ∃ W : Nat → Nat → Hp → Prop, (∃ m, W 0 m (upd H1 D (SetK P w D noK 0))) ∧ ∀ i m H, W i m H →
  (J.stop i H ∧ Q (.ref D) H) ∨ (J.go i H ∧ ∃ Nx : Hp → Prop, (∀ H', Nx H' → ∃ m', m' < m ∧ W (i + 1) m' H') ∧ ∀ x H', J.yld i H x H' → g x (wipe σ vs) H' fun σ2 H2 => wipe σ2 vs = wipe σ vs ∧ tt σ2 H2 fun b H3 =>
    if b = true then te σ2 H3 fun y H4 => ∃ (k : Key) (S : Key → Bool) (n : Nat), y = kV k ∧ H4 D = some (SetK P w D S n) ∧ n + 1 < scanBound ∧ Nx (upd H4 D (SetK P w D (withK S k) (if S k = true then n else n + 1))) else Nx H3)
theorem scK_core {pins : List (Addr × Obj)} {s : Shared} {σ : L2.St} {H : Hp} {Q : VK} {el tg it : Expr} {cs : List Expr} {scope : Scope} {own : List (PySem.Str × Nat)} {pos pos' : Pos} {wi : TI} {g : TG} {tt : TT} {te : TE} {use : Option (Value → Sem Unit)} {Qf : Value → Shared → Prop}
    (hc : X.calm = true) (hN : X.N.Nodup) (I : Inv X pins σ H s) (hi : PI X tg it wi) (ok : BlkOk X.N X.env.scope scope own)
    (hg : ∀ (s : Shared) (H : Hp) (C : Addr) (cl : List (PySem.Str × Addr)) (fp : List Addr), PG (X.blk s H scope (compEnvC scope cl C X.env) fp) tg g)
    (ht : ∀ (s : Shared) (H : Hp) (C : Addr) (cl : List (PySem.Str × Addr)) (fp : List Addr), PTs (X.blk s H scope (compEnvC scope cl C X.env) fp) cs tt)
    (he : ∀ (s : Shared) (H : Hp) (C : Addr) (cl : List (PySem.Str × Addr)) (fp : List Addr), PE (X.blk s H scope (compEnvC scope cl C X.env) fp) el te)
    (hs : ∀ x, foldedSetIterable it X.env x = pure x) (h : tScK X.prog X.w wi g tt te (own.map (·.2)) σ H Q)
    (done : ∀ D C s' m H', Inv X pins σ H' s' → Q (.ref D) H' → s'.heap.Ns C m → FpOk X pins H' C → compPost (model X.prog X.w) X.A X.xe use Qf (.ref D) C (.ok .next) s') :
    wpAny (model X.prog X.w) X.A (comprehension (.SetComp el [⟨tg, it, cs, 0⟩] scope pos) scope X.env pos' (newSet (.type "set")) false (eval it X.env) use) Qf X.xe s := by
  refine wpAny_comprehension_free (use := use) rfl hs (closure_ok fun y hy e => (ok.free y hy e).elim (fun k => I.ok.has _ (.inl k)) fun k => I.ok.has _ (.inr k)) ok.kind (fun y hy e => by rw [ok.uniq y hy, e])
    (thn (hi.run pins s σ H _ I h) fun xv s1 hx => thn hx fun itv s2 ⟨ia, fp, tn, J, H2, eq, I2, T, st2, f2, q⟩ => ?_)
  subst eq
  refine newSet_ok (newEnv_comp ?_)
  generalize eD : s2.heap.objs.size = D
  have free : H2 D = none := I2.hok.fresh (Nat.le_of_eq eD)
  obtain ⟨W, ⟨m0, w0⟩, turn⟩ := q D free
  generalize e3 : ({ s2 with heap := s2.heap.push { cls := .type "set", dict := none, data := .set #[] 0 (.fresh 0 0 (!X.w.params.followText "set-order")) } } : Shared) = s3
  have heap3 : s3.heap = s2.heap.push { cls := .type "set", dict := none, data := .set #[] 0 (.fresh 0 0 (!X.w.params.followText "set-order")) } := by rw [← e3]
  have I3 : Inv X pins σ (upd H2 D (SetK X.prog X.w D noK 0)) s3 := by
    rw [← e3, ← eD]
    exact I2.laid (t' := s2.toks) (fun b o e => Heap.get?_push_of_some _ e) (Nat.le_refl _) (setK_new ⟨_, #[], 0, _, Heap.get?_push_size _ rfl, ⟨rfl, rfl, rfl⟩, rfl, (fun e he => by simp at he), (fun k => by simp), (by decide), (by rfl), rfl⟩)
  have below : ∀ b ∈ fp, b < s2.heap.objs.size := fun b hb => let ⟨o, e, _⟩ := T.obj _ _ st2 b hb; Heap.lt_size e
  have f3 : ∀ b ∈ fp, FpOk X pins (upd H2 D (SetK X.prog X.w D noK 0)) b ∧ b < s3.heap.objs.size := fun b hb =>
    ⟨⟨by rw [upd_ne (by rw [← eD]; exact Nat.ne_of_lt (below b hb))]; exact (f2 b hb).1, (f2 b hb).2⟩, by rw [heap3, Heap.size_push]; exact Nat.lt_succ_of_lt (below b hb)⟩
  have I4 := block_start I3 ok hN f3
  have pg := hg s3 (upd H2 D (SetK X.prog X.w D noK 0)) s3.heap.objs.size (cellsFrom (s3.heap.objs.size + 1) scope.names (cloFrom X.env.cells scope.names [])) fp
  have pt := ht s3 (upd H2 D (SetK X.prog X.w D noK 0)) s3.heap.objs.size (cellsFrom (s3.heap.objs.size + 1) scope.names (cloFrom X.env.cells scope.names [])) fp
  have pe := he s3 (upd H2 D (SetK X.prog X.w D noK 0)) s3.heap.objs.size (cellsFrom (s3.heap.objs.size + 1) scope.names (cloFrom X.env.cells scope.names [])) fp
  show codeAny _ _ (.compStart (.SetComp el [⟨tg, it, cs, 0⟩] scope pos) 0 (.ref ia) (.ref D) (compEnvC scope (cellsFrom (s3.heap.objs.size + 1) scope.names (cloFrom X.env.cells scope.names [])) s3.heap.objs.size X.env)) (compPost (model X.prog X.w) X.A X.xe use Qf (.ref D) s3.heap.objs.size) { s3 with heap := pushCells (s3.heap.push { cls := .type "dict", data := .dict #[] }) scope.names }
  have none3 : ∀ b ∈ fp, (upd H2 D (SetK X.prog X.w D noK 0)) b = none := fun b hb => (f3 b hb).1.1
  generalize ec : compEnvC scope (cellsFrom (s3.heap.objs.size + 1) scope.names (cloFrom X.env.cells scope.names [])) s3.heap.objs.size X.env = ce at I4 pg pt pe ⊢
  have loc : ce.locals = s3.heap.objs.size := by subst ec; rfl
  generalize upd H2 D (SetK X.prog X.w D noK 0) = H3 at I3 I4 pg pt pe w0 none3 f3
  generalize e4 : ({ s3 with heap := pushCells (s3.heap.push { cls := .type "dict", data := .dict #[] }) scope.names } : Shared) = s4 at I4 ⊢
  have st3 : tn 0 s3.heap := T.keep _ _ _ st2 fun b _ o e => by rw [heap3]; exact Heap.get?_push_of_some _ e
  have st4 : tn 0 s4.heap := T.keep _ _ _ st3 fun b _ o e => by rw [← e4]; exact pushCells_keeps _ _ _ _ (Heap.get?_push_of_some _ e)
  have still : ∀ {σ' : L2.St} {H' : Hp} {s' : Shared}, Inv (X.blk s3 H3 scope ce fp) [] σ' H' s' → (∀ b ∈ fp, H' b = none) → ∀ b ∈ fp, FpOk (X.blk s3 H3 scope ce fp) [] H' b := fun I' hn b hb =>
    ⟨hn b hb, (I'.ok.exf b hb).1, I'.ok.exfs b hb, .inl hb, fun x c e => (I'.ok.exf b hb).2 x c e, fun p hp => absurd (show p ∈ ([] : List (Addr × Obj)) ++ [] from hp) (by simp)⟩
  have loop : codeAny (model X.prog X.w) X.A (.compLoop (.SetComp el [⟨tg, it, cs, 0⟩] scope pos) 0 (.ref ia) (.ref D) ce) (compPost (model X.prog X.w) X.A X.xe use Qf (.ref D) s3.heap.objs.size) s4 := by
    refine compLoopS_any (fun n s' => ∃ i H', Inv (X.blk s3 H3 scope ce fp) [] (wipe σ (own.map (·.2))) H' s' ∧ tn i s'.heap ∧ (∀ b ∈ fp, H' b = none) ∧ W i n H') ?_ m0 ⟨0, H3, I4, st4, none3, w0⟩
    rintro n s5 ⟨i, H5, I5, st5, n5, w5⟩
    rcases turn i n H5 w5 with ⟨stop, last⟩ | ⟨go, Nx, next, step⟩
    · refine thnF (T.done (X.blk s3 H3 scope ce fp) rfl rfl rfl hc i [] s5 _ H5 (fun _ _ => False) I5 (still I5 n5) st5 stop) fun r s6 ⟨er, I6⟩ => ?_
      subst er
      have unused : H5 ce.locals = none := I6.free
      obtain ⟨m, ns, _⟩ := I6.loc
      have ns : s6.heap.Ns ce.locals m := ns
      rw [loc] at ns unused
      exact done D s3.heap.objs.size s6 m H5 (I3.call' (ch := fp) I6.os I6.base I6.hok I6.bare fun b hb => ⟨(f3 b hb).1.2.2.2.1, (f3 b hb).1.2.1, (f3 b hb).1.2.2.2.2.1, (f3 b hb).1.2.2.2.2.2⟩) last ns (I3.fpOk (Nat.le_refl _) unused)
    · refine thnF (T.item (X.blk s3 H3 scope ce fp) rfl rfl rfl hc i [] s5 _ H5 (fun _ _ => False) I5 (still I5 n5) st5 go) fun r s6 ⟨u, er, h6⟩ => ?_
      subst er
      refine thnF h6 fun _ s7 ⟨x, H7, I7, r7, y7, st7, n7⟩ => ?_
      refine thnF (pg.run _ s7 _ H7 x u _ (I7.pinned (still I7 n7) (T.obj _ _ st7)) r7 (step x H7 y7)) fun _ s8 ⟨σ8, H8, I8, w8, q8⟩ => ?_
      refine thnF (pt.run _ s8 σ8 H8 _ I8 q8) fun b s9 ⟨H9, I9, q9⟩ => ?_
      have round : ∀ {s' : Shared} {H' : Hp}, Inv (X.blk s3 H3 scope ce fp) ([] ++ pinsAt fp s7.heap) σ8 H' s' → Nx H' → ∃ m, m < n ∧ ∃ i H', Inv (X.blk s3 H3 scope ce fp) [] (wipe σ (own.map (·.2))) H' s' ∧ tn i s'.heap ∧ (∀ b ∈ fp, H' b = none) ∧ W i m H' := fun {s' H'} I' nx => by
        obtain ⟨m', lt, w'⟩ := next H' nx
        have held : ∀ b ∈ fp, ∀ o, s7.heap.get? b = some o → s'.heap.get? b = some o ∧ H' b = none := fun b hb o e => let z := I'.pin (b, o) (List.mem_append_right _ (List.mem_append_right _ (mem_pinsAt hb e))); ⟨z.1, z.2.1⟩
        refine ⟨m', lt, i + 1, H', (I'.unpinned (pins := [])).weak (by rw [← w8, wipe_length]) (fun j v e => ?_), T.keep _ _ _ st7 fun b hb o e => (held b hb o e).1, fun b hb => ?_, w'⟩
        · rw [← w8] at e
          exact (wipe_some e).1
        · obtain ⟨o, e, _⟩ := T.obj _ _ st7 b hb
          exact (held b hb o e).2
      cases b with
      | false =>
        simp only [Bool.false_eq_true, if_false] at q9 ⊢
        exact round I9 q9
      | true =>
        simp only [if_true] at q9 ⊢
        refine thnF (pe.run _ s9 σ8 H9 _ I9 q9) fun z s10 ⟨y, H10, I10, r10, k, S, n0, ey, at10, few, nx⟩ => ?_
        subst ey
        exact addK (X := X.blk s3 H3 scope ce fp) I10 at10 few r10 fun s11 I11 => round I11 nx
  exact codeAny_compStart_set loop (T.self X.A 0 _ _ _ st4 loop)
/-- name = {..} on one line, the name a local -/
theorem ps_setScK {i : Nat} {y : Str} {py : Pos} {el tg it : Expr} {cs : List Expr} {scope : Scope} {own : List (PySem.Str × Nat)} {pos spos : Pos} {wi : TI} {g : TG} {tt : TT} {te : TE} (hc : X.calm = true) (hN : X.N.Nodup) (hy : X.N[i]? = some y) (hyl : X.env.scope.names.lookup y = some .local)
    (hsw : swapsWith (.SetComp el [⟨tg, it, cs, 0⟩] scope pos) (some (.Name y py)) spos.line X.env = pure true) (hi : PI X tg it wi) (ok : BlkOk X.N X.env.scope scope own)
    (hg : ∀ (s : Shared) (H : Hp) (C : Addr) (cl : List (PySem.Str × Addr)) (fp : List Addr), PG (X.blk s H scope (compEnvC scope cl C X.env) fp) tg g)
    (ht : ∀ (s : Shared) (H : Hp) (C : Addr) (cl : List (PySem.Str × Addr)) (fp : List Addr), PTs (X.blk s H scope (compEnvC scope cl C X.env) fp) cs tt)
    (he : ∀ (s : Shared) (H : Hp) (C : Addr) (cl : List (PySem.Str × Addr)) (fp : List Addr), PE (X.blk s H scope (compEnvC scope cl C X.env) fp) el te)
    (hs : ∀ x, foldedSetIterable it X.env x = pure x := by intro _; rfl) :
    PS X (.Assign [.Name y py] (.SetComp el [⟨tg, it, cs, 0⟩] scope pos) spos) (tAsg (tScK X.prog X.w wi g tt te (own.map (·.2))) (gName i)) := by
  refine ⟨fun pins s σ H D I h => ?_⟩
  rw [exec_Assign_Name_used _ _ _ _ hsw]
  refine wpAny_bind (wpAny_standAt (wpAny_bind ?_))
  show wpAny _ X.A (do let _ ← comprehension (.SetComp el [⟨tg, it, cs, 0⟩] scope pos) scope X.env (firstIterPos [⟨tg, it, cs, 0⟩] pos) (newSet (.type "set")) false (eval it X.env) (some (assign (.Name y py) X.env))) _ _ s
  have h : tScK X.prog X.w wi g tt te (own.map (·.2)) σ H (fun x H1 => gName i x σ H1 D.nx) := h
  refine wpAny_bind (thn (scK_core (Qf := fun _ s' => SP X pins D .next s') hc hN I hi ok hg ht he hs h fun L C s' m H' I' q hn f => ?_) fun _ s' hq => wpAny_pure (wpAny_pure hq))
  obtain ⟨f0, f1, f2, f3, f4, f5⟩ := f
  show wpAny _ _ (assign (.Name y py) X.env (.ref L)) _ _ _
  refine wpAny_assign_Name (store_ok2 (v := V.ref L) I' hN hy (.inl hyl) rfl (fun s2 I2 ⟨a, sb, ha⟩ => ?_) (.inr hyl))
  have apart : C ≠ a := ha.elim (fun z => z ▸ f1) fun z e => f4 y a z e.symm
  exact ⟨m, hn.sameBut sb apart, fun h3 sb3 => ⟨_, H', I2.turned (t' := s2.toks) (fun b o hb e => (sb3.2 b hb).trans e) f0 f1 f3 f4 f5, q⟩⟩
end
end Cs

set_option Elab.async false
set_option linter.all false
set_option maxRecDepth 100000
set_option maxHeartbeats 400000
/-! != of two dicts that are equal, deep -/
namespace Cs
open PySem PySem.Spec PyProof.Rows L2
section
variable {X : Cx}
def rNeDV (K : PySem.W.Frag) : R2 := fun x y H Q => ∃ a b ks ls, x = .ref a ∧ y = .ref b ∧ H a = some (.dK ks) ∧ H b = some (.dK ls) ∧ ks.length = ls.length ∧ (∃ n, n ≤ 60 ∧ ∀ p ∈ ks, ∃ u, valV ls p.1 = some u ∧ EqV K H n p.2 u) ∧ Q (.bl false) H
theorem op_neDV (hu : X.A.units + 64 < cLine) : OpR X (compareOp .NotEq) (rNeDV X.K) := by
  intro pins s σ H x y v u Q I rx ry h
  obtain ⟨a, b, ks, ls, rfl, rfl, ea, eb, len, ⟨n, hn, hp⟩, q⟩ := h
  cases (show v = Value.ref a from rx)
  cases (show u = Value.ref b from ry)
  obtain ⟨_, ya, va, ra, da⟩ := (show ObjOk X.prog X.w H s.heap a (.dK ks) from I.hok a _ ea)
  obtain ⟨_, yb, vb, rb, db⟩ := (show ObjOk X.prog X.w H s.heap b (.dK ls) from I.hok b _ eb)
  have e : va.length = vb.length := by rw [← ra.length, ← rb.length]; exact len
  have hits := hits_run (eqV_run I n X.A.in1 (by show X.A.units + 1 + n < cLine; omega)) rb ra hp
  refine wpAny_richCompare_same_room (op := .NotEq) da.typeIs db.typeIs PySem.F.slot_dict_ne (wpAny_call_entry PySem.F.slot_dict_ne da.typeIs PySem.F.entry_dict_ne ?_ (PySem.F.args_dict_ne_2 _ _)) (by omega)
  show wpAny _ _ (Builtin.Dict.dictSlotArgs "__ne__" ⟨[.ref a, .ref b], []⟩ >>= _) _ _ s
  unfold Builtin.Dict.dictSlotArgs
  refine wpAny_bind (wpAny_bind (wpAny_notOrdered_dict da.typeIs ?_))
  show wpAny _ _ (pure (Value.ref a, Value.ref b)) _ _ s
  refine wpAny_pure (wpAny_bind (wpAny_isInstance (T := "dict") db.typeIs PySem.F.sub_dict_dict ?_))
  simp only [Bool.not_true, Bool.false_eq_true, if_false]
  refine wpAny_bind (wpAny_pure (wpAny_bind (wpAny_pure ?_)))
  refine wpAny_bind (PySem.W.samePairsP (r := true) ya yb da db (fun _ => hits) ?_)
  have w0 : ((va.length == vb.length && true) == false) = false := by rw [e]; simp
  refine wpAny_pure ⟨_, rfl, ?_, ?_⟩
  · intro x
    cases x
  · have z : EP X pins σ Q (.bool false) s := ⟨.bl false, H, I, rfl, q⟩
    rw [← w0] at z
    exact z
end
end Cs

set_option Elab.async false
set_option linter.all false
set_option maxRecDepth 100000
set_option maxHeartbeats 4000000
/-! Exceptions of own classes with fields: made, raised while a dict is walked, caught, asked for their class. -/
namespace CsX
open PySem PySem.Spec PyProof.Rows L2
/-- a block that is not reached -/
theorem pss_any {X : Cx} {l : List Stmt} : PSs X l (fun _ _ _ => False) := ⟨fun _ _ _ _ _ _ h => h.elim⟩
/-- a raise while the thing at d is locked -/
theorem Takes.lock {X : Cx} {W : WX} {d : Addr} (tk : Takes X W) (hn : ∀ o' u', X.H_0 d ≠ some (.frz o' u')) : Takes X (fun cls dd σ H => ∃ od u, H d = some (.frz od u) ∧ W cls dd σ (upd H d u)) :=
  fun u s' ⟨a, B, sI, pins, σ, H, cls, dd, e, I, nb, up, sky, na, os, ag, od, uu, hd, w⟩ =>
    tk u s' ⟨a, B, sI, pins, σ, upd H d uu, cls, dd, e, I.unlock hd hn, nb, up, sky, (by rw [upd_ne (fun z => by rw [z, hd] at na; cases na)]; exact na), os, ag, w⟩
/-- __init__(self, f): self.f = f -/
def spIni (C : Addr) (f : Str) : Sp := fun vs H Q _ => ∃ (a : Addr) (v : V), vs = [.ref a, v] ∧ H a = some (exo a C none) ∧
  ∀ dx, H dx = none → dx ≠ a → Q .non (upd (upd H dx (exd dx [(f, v)])) a (exo a C (some dx)))
/-- __init__(self, f, g): self.f = f; self.g = g -/
def spIni2 (C : Addr) (f g : Str) : Sp := fun vs H Q _ => ∃ (a : Addr) (v u : V), vs = [.ref a, v, u] ∧ H a = some (exo a C none) ∧
  ∀ dx, H dx = none → dx ≠ a → Q .non (upd (upd (upd H dx (exd dx [(f, v)])) a (exo a C (some dx))) dx (exd dx [(g, u), (f, v)]))
/-- what the top has written of an own error with the fields fs, its __init__ at fI -/
structure Own (K : PySem.W.Frag) (mg : Str → Option Value) (x : Str) (C fI : Addr) (fs : List Str) : Prop where
  gC : mg x = some (.ref C)
  oex : OexC K C
  xf : XfC K C
  no : ∀ f ∈ fs, PySem.W.findIn K (.ref C) f = some none
  iC : PySem.W.findIn K (.ref C) "__init__" = some (some (.ref fI))
  tI : PySem.W.typeIn K (.ref fI) = some (.type "function")
  ex : ExcC K C
  te : PySem.W.exmOne K (.ref C) (.ref C) = some true
theorem same_upd {H : Hp} {p : Addr} {o : HO} (h : H p = none) : Same H (upd H p o) := fun b x e => by
  rw [upd_ne (ne_of_none e h)]
  exact e
/-- what is asked of C(v) -/
theorem mk_one {C : Addr} {f : Str} {H1 : Hp} {v : V} {Q : XK} (h : ∀ d H2, H1 d = none → Same H1 H2 → H2 d = some (.xd [(f, v)]) → Q (.ref C) (some d) H2) :
    [v].length ≤ 1000 ∧ ∀ a, H1 a = none → spIni C f (V.ref a :: ([v] ++ [])) (upd H1 a (exo a C none)) (fun x H2 => x = .non ∧ ∃ (d : Addr) (fs : List (Str × V)), H2 a = some (exo a C (some d)) ∧ H2 d = some (exd d fs) ∧ H1 d = none ∧ Q (.ref C) (some d) (upd (del H2 a) d (.xd fs))) (fun _ _ _ => False) := by
  refine ⟨by show 1 ≤ 1000; decide, fun a na => ⟨a, v, rfl, upd_same, fun dx n ne => ?_⟩⟩
  have n1 : H1 dx = none := by rw [upd_ne ne] at n; exact n
  refine ⟨rfl, dx, _, upd_same, by rw [upd_ne ne, upd_same], n1, h dx _ n1 (fun b o e => ?_) upd_same⟩
  have hb : b ≠ dx := ne_of_none e n1
  have ha : b ≠ a := ne_of_none e na
  rw [upd_ne hb, del_ne ha, upd_ne ha, upd_ne hb, upd_ne ha]
  exact e
/-- what is asked of C(v, u) -/
theorem mk_two {C : Addr} {f g : Str} {H1 : Hp} {v u : V} {Q : XK} (h : ∀ d H2, H1 d = none → Same H1 H2 → H2 d = some (.xd [(g, u), (f, v)]) → Q (.ref C) (some d) H2) :
    [v, u].length ≤ 1000 ∧ ∀ a, H1 a = none → spIni2 C f g (V.ref a :: ([v, u] ++ [])) (upd H1 a (exo a C none)) (fun x H2 => x = .non ∧ ∃ (d : Addr) (fs : List (Str × V)), H2 a = some (exo a C (some d)) ∧ H2 d = some (exd d fs) ∧ H1 d = none ∧ Q (.ref C) (some d) (upd (del H2 a) d (.xd fs))) (fun _ _ _ => False) := by
  refine ⟨by show 2 ≤ 1000; decide, fun a na => ⟨a, v, u, rfl, upd_same, fun dx n ne => ?_⟩⟩
  have n1 : H1 dx = none := by rw [upd_ne ne] at n; exact n
  refine ⟨rfl, dx, _, by rw [upd_ne (Ne.symm ne), upd_same], upd_same, n1, h dx _ n1 (fun b o e => ?_) upd_same⟩
  have hb : b ≠ dx := ne_of_none e n1
  have ha : b ≠ a := ne_of_none e na
  rw [upd_ne hb, del_ne ha, upd_ne hb, upd_ne ha, upd_ne hb, upd_ne ha]
  exact e
/-- isinstance(e, c), isinstance(e, (c, ..)): e the exception that the suite holds, with fields -/
def rIsED (K : PySem.W.Frag) (a : Addr) (cls : Value) (d : Option Addr) : List V → Hp → VK → Prop := fun xs H Q => ∃ (C dd : Addr) (fs : List (Str × V)) (c : V) (b : Bool), xs = [.ref a, c] ∧ cls = .ref C ∧ d = some dd ∧ H dd = some (.xd fs) ∧ ExcC K C ∧
  ((∃ cv, (∀ u, RelV c u → u = cv) ∧ PySem.W.kitOne K (.ref C) cv = some b) ∨ ∃ (t : Addr) (cs : List Addr), c = .ref t ∧ H t = some (.tup (cs.map V.ref)) ∧ PySem.W.kitAny K (.ref C) (cs.map Value.ref) = some b) ∧ Q (.bl b) H
theorem vals_refs : ∀ {cs : List Addr} {us : List Value}, Vals (cs.map V.ref) us → us = cs.map Value.ref
  | [], _, h => by cases h; rfl
  | c :: cs, _, h => by
    cases h with
    | cons a b =>
      cases a
      exact congrArg (Value.ref c :: ·) (vals_refs b)
theorem call_isED {X : Cx} {a : Addr} {cls : Value} {d : Option Addr} {oe : Obj} {pn : List (Addr × Obj)} (hz : Zc cls d oe) (hf : ∃ vs, oe.data = .fields vs) : CallR (X.suite a ((a, oe) :: pn)) (.builtin "isinstance") (rIsED X.K a cls d) := by
  intro pins s σ H xs us Q I r h
  obtain ⟨D, dd, fs, c, b, rfl, rfl, rfl, hdd, C, hc, q⟩ := h
  cases r with
  | cons rx rr =>
    cases rr with
    | cons rt rr =>
      cases rr
      cases rx
      obtain ⟨hget, _⟩ := I.pin (a, oe) (List.mem_append.mpr (.inl List.mem_cons_self))
      obtain ⟨vs, hv⟩ := hf
      have hx : ObjOk X.prog X.w H s.heap dd (.xd fs) := I.hok dd _ hdd
      obtain ⟨mA, hns, hr⟩ := hx
      obtain ⟨od, ho, hl⟩ := lookIn_ns hns
      have J : PySem.W.InstAt s.heap a oe D (some od) := ⟨hget, hz.1, by unfold PySem.W.notCls; rw [hv] <;> rfl, by rw [hz.2]; exact ho⟩
      have cl : (PySem.W.clsIn X.K D).isSome = true := by
        obtain ⟨cd, e, _⟩ := PySem.W.any_some C.hd
        rw [e]; rfl
      have Z := fun (od : Option Obj) => PySem.W.kitx_exc (x := a) (ox := oe) (od := od) cl C.hg C.hk C.hs C.ha C.hn C.ht C.hm
      rcases hc with ⟨cv, hcv, e⟩ | ⟨t, cs, rfl, ht, e⟩
      · have ec := hcv _ rt
        subst ec
        exact PySem.W.kia_one (Z _) I.kIn J e (fun z => nomatch z) fun tk => ⟨.bl b, H, I.kept (t' := tk) fun _ _ z => z, rfl, q⟩
      · cases rt
        obtain ⟨_, its, rv, o, ho2, hcls, n, hdat⟩ := (show ObjOk X.prog X.w H s.heap t (.tup (cs.map V.ref)) from I.hok t _ ht)
        obtain ⟨oc, oda, odt, osl⟩ := o
        dsimp only at hcls hdat
        subst hcls hdat
        rw [← vals_refs rv] at e
        exact PySem.W.kia_tup (Z _) I.kIn J ho2 e (fun z => nomatch z) fun tk => ⟨.bl b, H, I.kept (t' := tk) fun _ _ z => z, rfl, q⟩
end CsX

set_option Elab.async false
set_option linter.all false
set_option maxRecDepth 100000
set_option maxHeartbeats 4000000
namespace K3
open PySem PySem.Spec PyProof.Rows L2 Cs
def topS (i : Nat) : Stmt := PySem.Challenge.pw_curbdesk_k03_numbers_of_assignments.main.body.getD i (.Pass ⟨0, 0, 0, 0⟩)
structure Bt (mg : Str → Option Value) : Prop where
  sorted : mg "sorted" = none
  set : mg "set" = none
  len : mg "len" = none
  isi : mg "isinstance" = none
  int : mg "int" = none
  bool : mg "bool" = none
  list : mg "list" = none
  all : mg "all" = none
  range : mg "range" = none
  dict : mg "dict" = none
abbrev Srt (ms : List Int) : Prop := ms.Pairwise (· < ·)
theorem same_new {H : Hp} {p : Addr} {o : HO} (h : H p = none) : Same H (upd H p o) := fun b x e => by
  rw [upd_ne (ne_of_none e h)]
  exact e
theorem same_at {H H' : Hp} {p : Addr} {o : HO} (s : Same H H') (h : H p = none) : Same H (upd H' p o) := fun b x e => by
  rw [upd_ne (ne_of_none e h)]
  exact s _ _ e
theorem sl_map {K : PySem.W.Frag} {H : Hp} {a : Addr} {xs : List V} (h : H a = some (.lst xs)) : SqL K H a xs := .inl (.inl h)
theorem and_iff (ns ks : List Int) (k : Int) : eAnd (fun j => decide (j ∈ ns)) (fun j => decide (j ∈ ks)) k ↔ k ∈ ns ∧ k ∈ ks := by
  show (decide (k ∈ ns) = true ∧ decide (k ∈ ks) = true) ↔ _
  simp
theorem or_iff' (ns ks : List Int) (k : Int) : eOr (fun j => decide (j ∈ ns)) (fun j => decide (j ∈ ks)) k ↔ k ∈ ns ∨ k ∈ ks := by
  show (decide (k ∈ ns) = true ∨ decide (k ∈ ks) = true) ↔ _
  simp
theorem sub_iff (ns ks : List Int) (k : Int) : eSub (fun j => decide (j ∈ ns)) (fun j => decide (j ∈ ks)) k ↔ k ∈ ns ∧ k ∉ ks := by
  show (decide (k ∈ ns) = true ∧ decide (k ∈ ks) = false) ↔ _
  simp
section
variable {P : Program} {w : World} {K : PySem.W.Frag} {mg : Str → Option Value} {base : Heap}
/-! ### the program: sides -/
/-- two lists, and what is said of the members -/
def spTwo (K : PySem.W.Frag) (mem : List Int → List Int → Int → Prop) : Sp := fun vs H Q _ => ∃ (a b : Addr) (ns ks : List Int), vs = [.ref a, .ref b] ∧ SqL K H a (ns.map V.int) ∧ SqL K H b (ks.map V.int) ∧ ns.length ≤ 31 ∧ ks.length ≤ 31 ∧
  ∀ H' p ms, Same H H' → H p = none → H' p = some (.lst (ms.map V.int)) → Srt ms → (∀ k, k ∈ ms ↔ mem ns ks k) → ms.length ≤ 63 → Q (.ref p) H'
end
section
variable {P : Program} {w : World} {K : PySem.W.Frag} {mg : Str → Option Value} {base : Heap}
abbrev sIsInt : Stmt := topS 32
abbrev sStream : Stmt := topS 33
abbrev sDraw : Stmt := topS 34
theorem scIsInt : FnScope ["_law_actual"] ["_law_actual"] (defScope sIsInt) := ⟨rfl, rfl, rfl, by decide +kernel, rfl, by decide +kernel, by decide +kernel⟩
theorem scStream : FnScope ["_law_script", "_law_k", "_law_cell"] ["_law_script", "_law_k"] (defScope sStream) := ⟨rfl, rfl, rfl, by decide +kernel, rfl, by decide +kernel, by decide +kernel⟩
theorem scDraw : FnScope ["_law_stream_here", "_law_size", "_law_digit", "_law_mixed"] ["_law_stream_here", "_law_size"] (defScope sDraw) := ⟨rfl, rfl, rfl, by decide +kernel, rfl, by decide +kernel, by decide +kernel⟩
def spIsInt : Sp := fun vs H Q _ => ∃ k : Int, vs = [.int k] ∧ Q (.bl true) H
theorem ok_isInt {f : Addr} {fd : FuncData} {k : Nat} (F : Fun K "_law_is_integer" "_law_is_integer" sIsInt f fd) (B : Bt mg) : FnOk P w K mg base CX0 (k + 1) f fd ["_law_actual"] spIsInt := by
  refine F.ok scIsInt (fun vs H Q E h => ?_) (fun cdv A outer s H vs Q E hr h => ?_)
  · obtain ⟨a, rfl, _⟩ := h
    rfl
  · obtain ⟨a, rfl, q⟩ := h
    refine ⟨_, pss_one (ps_ret (pe_and (pe_callB call_isi (by rfl) B.isi PyProof.Rows.boot_isinstance (pa_cons (pv 0) (pa_cons (pe_bltn (by rfl) B.int PyProof.Rows.boot_int (v := .ty "int") rfl) pa_nil)))
      (pe_one (pe_not (pe_callB call_isi (by rfl) B.isi PyProof.Rows.boot_isinstance (pa_cons (pv 0) (pa_cons (pe_bltn (by rfl) B.bool PyProof.Rows.boot_bool (v := .ty "bool") rfl) pa_nil))))))), ?_⟩
    refine ⟨.int a, rfl, .int a, .ty "int", .type "int", .type "int", true, rfl, .ty _, .base (.int a), kit_ty (by decide +kernel), true, rfl, iteT ?_⟩
    exact ⟨.int a, rfl, .int a, .ty "bool", .type "int", .type "bool", false, rfl, .ty _, .base (.int a), kit_ty (by decide +kernel), false, rfl, q⟩

/-- a stream: three ints -/
def Strm (H : Hp) (p : Addr) : Prop := ∃ x y z : Int, H p = some (.lst [.int x, .int y, .int z])
def spStream (K : PySem.W.Frag) : Sp := fun vs H Q _ => ∃ (a : Addr) (ns : List Int) (k : Nat), vs = [.ref a, .int (k : Int)] ∧ SqL K H a (ns.map V.int) ∧
  ∀ H' p, Same H H' → H p = none → Strm H' p → Q (.ref p) H'
theorem ok_stream {f : Addr} {fd : FuncData} {k : Nat} (F : Fun K "_law_stream" "_law_stream" sStream f fd) (B : Bt mg) : FnOk P w K mg base CX0 (k + 1) f fd ["_law_script", "_law_k"] (spStream K) := by
  refine F.ok scStream (fun vs H Q E h => ?_) (fun cdv A outer s H vs Q E hr h => ?_)
  · obtain ⟨a, ns, k, rfl, _⟩ := h
    rfl
  · obtain ⟨a, ns, k, rfl, hS, q⟩ := h
    refine ⟨_, pss_cons (ps_set (i := 2) scStream.nd rfl (.inl rfl) pe_int)
      (pss_cons (ps_if (pt_cmpR op_lt (pv 1) (pe_callB call_len_seq (by rfl) B.len PySem.boot_len (pa_cons (pv 0) pa_nil)) (nomark _))
        (pss_one (ps_set (i := 2) scStream.nd rfl (.inl rfl) (pe_ix ix_list (pv 0) (pv 1) (fun _ _ => rfl)))) pss_nil)
      (pss_one (ps_ret (pe_lst (pa_cons (pe_op op_mul (pv 2) (pe_callTy call_int1 (by rfl) B.int PyProof.Rows.boot_int (pa_cons (pe_cmpR op_ge (pv 2) (pe_op op_pow pe_int pe_int) (nomark _)) pa_nil))) (pa_cons pe_int (pa_cons (pv 2) pa_nil))))))), ?_⟩
    have tail : ∀ (c : Int) (b : Bool), -(2 ^ 64) < (if b = true then (1 : Int) else 0) ∧ (if b = true then (1 : Int) else 0) < 2 ^ 64 := fun c b => by cases b <;> decide
    refine ⟨.int k, rfl, .ref a, rfl, a, _, rfl, .inl hS, (k : Int), _, rfl, rfl, _, rfl, ite2 (fun c => ?_) (fun c => ?_)⟩
    · have hk : k < ns.length := by
        have := of_decide_eq_true c
        rw [List.length_map] at this
        omega
      have g : (ns.map V.int)[k]? = some (.int ns[k]) := by
        rw [List.getElem?_map, List.getElem?_eq_getElem hk]
        rfl
      refine ⟨.ref a, rfl, .int k, rfl, a, _, (k : Int), _, rfl, rfl, hS, atI_nat g, ?_⟩
      refine ⟨.int ns[k], rfl, .int ns[k], rfl, 10, 18, rfl, rfl, ⟨by decide, by decide, by decide⟩, ns[k], _, rfl, rfl, .inr ⟨_, rfl, ns[k], _, rfl, rfl, .inr (tail 0 _), .int ns[k], rfl, by show 3 ≤ sizeLine; decide, fun l hl => ?_⟩⟩
      exact q _ l (same_new hl) hl ⟨_, _, _, upd_same⟩
    · refine ⟨.int 0, rfl, .int 0, rfl, 10, 18, rfl, rfl, ⟨by decide, by decide, by decide⟩, 0, _, rfl, rfl, .inr ⟨_, rfl, 0, _, rfl, rfl, .inr (tail 0 _), .int 0, rfl, by show 3 ≤ sizeLine; decide, fun l hl => ?_⟩⟩
      exact q _ l (same_new hl) hl ⟨_, _, _, upd_same⟩
/-- all but the one at p is as it was -/
def Oth (p : Addr) (H H' : Hp) : Prop := ∀ b, b ≠ p → H' b = H b
def spDraw : Sp := fun vs H Q _ => ∃ (p : Addr) (m : Int), vs = [.ref p, .int m] ∧ Strm H p ∧ 0 < m ∧ m < 1073741824 ∧
  ∀ H' d, Oth p H H' → Strm H' p → 0 ≤ d → d < m → Q (.int d) H'
theorem at0 {x y z : V} : atI [x, y, z] (0 : Int) = some x := atI_nat (j := 0) rfl
theorem at1 {x y z : V} : atI [x, y, z] (1 : Int) = some y := atI_nat (j := 1) rfl
theorem at2 {x y z : V} : atI [x, y, z] (2 : Int) = some z := atI_nat (j := 2) rfl
theorem ok_draw {f : Addr} {fd : FuncData} {k : Nat} (F : Fun K "_law_next" "_law_next" sDraw f fd) (B : Bt mg) : FnOk P w K mg base CX0 (k + 1) f fd ["_law_stream_here", "_law_size"] spDraw := by
  refine F.ok scDraw (fun vs H Q E h => ?_) (fun cdv A outer s H vs Q E hr h => ?_)
  · obtain ⟨p, m, rfl, _⟩ := h
    rfl
  · obtain ⟨p, m, rfl, ⟨x, y, z, hp⟩, m0, m1, q⟩ := h
    refine ⟨_, pss_cons (ps_asg (pe_op op_add (pe_ix ix_list (pv 0) pe_int (fun _ _ => rfl)) pe_int) (pg_sub (pv 0) pe_int set_list))
      (pss_cons (ps_if (pt_cmpR op_gt (pe_ix ix_list (pv 0) pe_int (fun _ _ => rfl)) pe_int (nomark _))
        (pss_cons (ps_set (i := 2) scDraw.nd rfl (.inl rfl) (pe_op op_mod (pe_callTy call_int1 (by rfl) B.int PyProof.Rows.boot_int (pa_cons (pe_ix ix_list (pv 0) pe_int (fun _ _ => rfl)) pa_nil)) (pv 1)))
          (pss_cons (ps_asg (pe_op op_fdiv (pe_ix ix_list (pv 0) pe_int (fun _ _ => rfl)) (pv 1)) (pg_sub (pv 0) pe_int set_list))
          (pss_one (ps_ret (pv 2))))) pss_nil)
      (pss_cons (ps_set (i := 3) scDraw.nd rfl (.inl rfl) (pe_op op_mod (pe_callTy call_int1 (by rfl) B.int PyProof.Rows.boot_int (pa_cons
          (pe_op op_add (pe_op op_add (pe_ix ix_list (pv 0) pe_int (fun _ _ => rfl)) (pe_op op_mul pe_int (pe_ix ix_list (pv 0) pe_int (fun _ _ => rfl)))) pe_int) pa_nil)) pe_int))
      (pss_cons (ps_set (i := 3) scDraw.nd rfl (.inl rfl) (pe_op op_mod (pe_callTy call_int1 (by rfl) B.int PyProof.Rows.boot_int (pa_cons
          (pe_op op_mul (pv 3) (pe_op op_add (pv 3) pe_int)) pa_nil)) pe_int))
      (pss_cons (ps_set (i := 3) scDraw.nd rfl (.inl rfl) (pe_op op_mod (pe_callTy call_int1 (by rfl) B.int PyProof.Rows.boot_int (pa_cons
          (pe_op op_add (pe_op op_mul (pv 3) (pe_op op_add (pv 3) pe_int)) (pe_op op_mul pe_int (pe_ix ix_list (pv 0) pe_int (fun _ _ => rfl)))) pa_nil)) pe_int))
      (pss_one (ps_ret (pe_op op_mod (pe_callTy call_int1 (by rfl) B.int PyProof.Rows.boot_int (pa_cons (pe_op op_fdiv (pv 3) pe_int) pa_nil)) (pv 1)))))))), ?_⟩
    have pos1 : (0 : Int) < 2147483647 := by decide
    have pos2 : (0 : Int) < 2147483629 := by decide
    -- stream[1] = stream[1] + 1
    refine ⟨.ref p, rfl, p, _, 1, .int y, rfl, rfl, sl_map hp, at1, y, 1, rfl, rfl, .ref p, rfl, p, _, 1, 1, rfl, rfl, hp, rfl, ?_⟩
    have h1 : ∀ o, (upd H p o) p = some o := fun o => upd_same
    -- if stream[0] > 0
    refine ⟨.ref p, rfl, p, _, 0, .int x, rfl, rfl, sl_map upd_same, at0, x, 0, rfl, rfl, _, rfl, ite2 (fun c => ?_) (fun c => ?_)⟩
    · refine ⟨.ref p, rfl, p, _, 0, .int x, rfl, rfl, sl_map upd_same, at0, .inl ⟨x, rfl, .int m, rfl, x, m, rfl, rfl, m0, ?_⟩⟩
      refine ⟨.ref p, rfl, p, _, 0, .int x, rfl, rfl, sl_map upd_same, at0, .int m, rfl, x, m, rfl, rfl, ⟨m0, m1⟩, .ref p, rfl, p, _, 0, 0, rfl, rfl, upd_same, rfl, ?_⟩
      refine ⟨.int (x % m), rfl, q _ _ (fun b hb => by rw [upd_ne hb, upd_ne hb]) ⟨_, _, _, upd_same⟩ (Int.emod_nonneg _ (by omega)) (Int.emod_lt_of_pos _ m0)⟩
    · refine ⟨.ref p, rfl, p, _, 2, .int z, rfl, rfl, sl_map upd_same, at2, .ref p, rfl, p, _, 1, .int (y + 1), rfl, rfl, sl_map upd_same, at1, 7919, y + 1, rfl, rfl, .inl ⟨by decide, by decide⟩, z, _, rfl, rfl, _, 13, rfl, rfl,
        .inl ⟨_, rfl, _, 2147483647, rfl, rfl, pos1, ?_⟩⟩
      have r1 : ∀ u : Int, 0 ≤ u % 2147483647 ∧ u % 2147483647 < 2147483647 := fun u => ⟨Int.emod_nonneg _ (by decide), Int.emod_lt_of_pos _ (by decide)⟩
      have r2 : ∀ u : Int, 0 ≤ u % 2147483629 ∧ u % 2147483629 < 2147483629 := fun u => ⟨Int.emod_nonneg _ (by decide), Int.emod_lt_of_pos _ (by decide)⟩
      have big : (2147483647 : Int) < 2 ^ 64 := by decide
      have big2 : (-(2 ^ 64) : Int) < 0 := by decide
      have b1 := r1 (z + 7919 * (y + 1) + 13)
      refine ⟨_, rfl, _, rfl, (z + 7919 * (y + 1) + 13) % 2147483647, 48271, rfl, rfl, (z + 7919 * (y + 1) + 13) % 2147483647, _, rfl, rfl, .inl ⟨by omega, by omega⟩, .inl ⟨_, rfl, _, 2147483629, rfl, rfl, pos2, ?_⟩⟩
      have b2 := r2 ((z + 7919 * (y + 1) + 13) % 2147483647 * ((z + 7919 * (y + 1) + 13) % 2147483647 + 48271))
      refine ⟨_, rfl, _, rfl, _, 69621, rfl, rfl, (z + 7919 * (y + 1) + 13) % 2147483647 * ((z + 7919 * (y + 1) + 13) % 2147483647 + 48271) % 2147483629, _, rfl, rfl, .inl ⟨?_, ?_⟩, .ref p, rfl, p, _, 1, .int (y + 1), rfl, rfl, sl_map upd_same, at1, 31, y + 1, rfl, rfl, .inl ⟨by decide, by decide⟩, _, _, rfl, rfl,
        .inl ⟨_, rfl, _, 2147483647, rfl, rfl, pos1, ?_⟩⟩
      · generalize (z + 7919 * (y + 1) + 13) % 2147483647 * ((z + 7919 * (y + 1) + 13) % 2147483647 + 48271) % 2147483629 = v at b2
        omega
      · generalize (z + 7919 * (y + 1) + 13) % 2147483647 * ((z + 7919 * (y + 1) + 13) % 2147483647 + 48271) % 2147483629 = v at b2
        omega
      refine ⟨_, rfl, _, 9, rfl, rfl, ⟨by decide, by decide⟩, .inl ⟨_, rfl, .int m, rfl, _, m, rfl, rfl, m0, ?_⟩⟩
      exact q _ _ (fun b hb => by rw [upd_ne hb]) ⟨_, _, _, upd_same⟩ (Int.emod_nonneg _ (by omega)) (Int.emod_lt_of_pos _ m0)
/-- a def that stands, with its promise -/
structure Call (P : Program) (w : World) (K : PySem.W.Frag) (mg : Str → Option Value) (base : Heap) (k : Nat) (x : Str) (f : Addr) (fd : FuncData) (ps : List Str) (sp : Sp) : Prop where
  ok : FnOk P w K mg base CX0 k f fd ps sp
  at_ : mg x = some (.ref f)
  kp : PySem.W.keepIn K (.ref f) = true
  bd : Binds K fd ps []
abbrev nIsSide : List Str := ["_law_actual", "_law_value", "_law_k"]
def spIsSide : Sp := fun vs H Q _ => ∃ (a : Addr) (ns : List Int), vs = [.ref a] ∧ H a = some (.lst (ns.map V.int)) ∧ Srt ns ∧ ns.length ≤ 1000 ∧ ∀ H', Same H H' → Q (.bl true) H'
theorem all_rep (n : Nat) : (List.replicate n true).all id = true := by simp
/-- what was tracked, but for the one at p, is as it was -/
def Keep (p : Addr) (H H' : Hp) : Prop := ∀ b o, b ≠ p → H b = some o → H' b = some o
theorem Keep.refl (p : Addr) (H : Hp) : Keep p H H := fun _ _ _ e => e
theorem Keep.oth {p : Addr} {H H1 H2 : Hp} (k : Keep p H H1) (o : Oth p H1 H2) : Keep p H H2 := fun b u hb e => (o b hb).trans (k b u hb e)
theorem Keep.trans {p : Addr} {H H1 H2 : Hp} (k : Keep p H H1) (k2 : Keep p H1 H2) : Keep p H H2 := fun b u hb e => k2 b u hb (k b u hb e)
theorem Keep.at_ {p q : Addr} {o : HO} {H H1 : Hp} (k : Keep p H H1) (n : H q = none) : Keep p H (upd H1 q o) := fun b u hb e => by
  rw [upd_ne (ne_of_none e n)]
  exact k b u hb e
theorem Keep.same {p : Addr} {H H1 : Hp} (s : Same H H1) : Keep p H H1 := fun b u _ e => s b u e
theorem Strm.some {H : Hp} {p : Addr} (s : Strm H p) : H p ≠ none := fun z => by
  obtain ⟨x, y, z', e⟩ := s
  rw [z] at e
  cases e
theorem Strm.keep {H H' : Hp} {p q : Addr} (s : Strm H p) (k : Keep q H H') (h : p ≠ q) : Strm H' p := by
  obtain ⟨x, y, z, e⟩ := s
  exact ⟨x, y, z, k _ _ h e⟩
theorem Strm.upd {H : Hp} {p q : Addr} {o : HO} (s : Strm H p) (h : p ≠ q) : Strm (upd H q o) p := by
  obtain ⟨x, y, z, e⟩ := s
  exact ⟨x, y, z, by rw [upd_ne h]; exact e⟩
theorem Keep.free {p q : Addr} {H H1 : Hp} (k : Keep p H H1) (s : Strm H1 p) (n : H1 q = none) : H q = none := by
  have hp : q ≠ p := fun z => s.some (z ▸ n)
  cases c : H q with
  | none => rfl
  | some o =>
    rw [k q o hp c] at n
    cases n
end
theorem srt_ext : ∀ {xs ys : List Int}, Srt xs → Srt ys → (∀ k, k ∈ xs ↔ k ∈ ys) → xs = ys
  | [], [], _, _, _ => rfl
  | [], y :: ys, _, _, h => absurd ((h y).2 List.mem_cons_self) (by simp)
  | x :: xs, [], _, _, h => absurd ((h x).1 List.mem_cons_self) (by simp)
  | x :: xs, y :: ys, sx, sy, h => by
    obtain ⟨x1, x2⟩ := List.pairwise_cons.mp sx
    obtain ⟨y1, y2⟩ := List.pairwise_cons.mp sy
    have e : x = y := by
      rcases List.mem_cons.mp ((h x).1 List.mem_cons_self) with a | a
      · exact a
      · rcases List.mem_cons.mp ((h y).2 List.mem_cons_self) with b | b
        · exact b.symm
        · have := x1 y b
          have := y1 x a
          omega
    subst e
    have t : ∀ k, k ∈ xs ↔ k ∈ ys := fun k => by
      constructor
      · intro hk
        rcases List.mem_cons.mp ((h k).1 (List.mem_cons_of_mem _ hk)) with a | a
        · have := x1 k hk
          omega
        · exact a
      · intro hk
        rcases List.mem_cons.mp ((h k).2 (List.mem_cons_of_mem _ hk)) with a | a
        · have := y1 k hk
          omega
        · exact a
    rw [srt_ext x2 y2 t]
/-! ### lists of ints as data -/
abbrev dI (ns : List Int) : PyData := .list (ns.map PyData.int)
theorem dp_all {K : PySem.W.Frag} {H : Hp} : ∀ ns : List Int, DpAll K H (ns.map V.int) (ns.map PyData.int)
  | [] => .nil
  | n :: ns => .cons (.int n) (dp_all ns)
theorem dpI {K : PySem.W.Frag} {H : Hp} {a : Addr} {ns : List Int} (h : SqL K H a (ns.map V.int)) : Dp K H (.ref a) (dI ns) := .lst h (dp_all ns)
theorem lay_all : ∀ ns : List Int, PyData.canLayAll0 (ns.map PyData.int) = true
  | [] => rfl
  | n :: ns => by
    show (PyData.canLay0 (.int n) && PyData.canLayAll0 (ns.map PyData.int)) = true
    rw [lay_all ns] <;> rfl
theorem layI (ns : List Int) : (dI ns).canLay0 = true := lay_all ns
theorem deep_all : ∀ ns : List Int, PyData.depthAll (ns.map PyData.int) ≤ 1
  | [] => by simp [PyData.depthAll]
  | n :: ns => by
    have := deep_all ns
    simp only [List.map_cons, PyData.depthAll, PyData.depth]
    omega
theorem deepI (ns : List Int) : (dI ns).depth ≤ 2 := by
  have := deep_all ns
  simp only [dI, PyData.depth]
  omega
theorem shI (ns : List Int) : SeqAt.shaped (dI ns) = true := by
  unfold SeqAt.shaped
  rw [layI]
  have := deepI ns
  simp
  omega
theorem eqI (ns : List Int) : PyData.eqv (dI ns) (dI ns) = true := SeqAt.eqv_refl _ (layI ns)
theorem lay2 (ns ks : List Int) : (PyData.list [dI ns, dI ks]).canLay0 = true := by
  show (PyData.canLay0 (dI ns) && (PyData.canLay0 (dI ks) && true)) = true
  rw [layI, layI]
  rfl
theorem sh2 (ns ks : List Int) : SeqAt.shaped (.list [dI ns, dI ks]) = true := by
  unfold SeqAt.shaped
  rw [lay2]
  have h1 := deepI ns
  have h2 := deepI ks
  have : (PyData.list [dI ns, dI ks]).depth ≤ 3 := by
    simp only [PyData.depth, PyData.depthAll] at *
    omega
  simp
  omega
theorem eq2 (ns ks : List Int) : PyData.eqv (.list [dI ns, dI ks]) (.list [dI ns, dI ks]) = true := SeqAt.eqv_refl _ (lay2 ns ks)
/-! ### boxes: dicts from texts to lists of ints -/
abbrev Ent := Str × Addr × List Int
def entK (L : List Ent) : List (Key × V) := L.map fun e => (Sum.inr e.1, V.ref e.2.1)
def getE (L : List Ent) (x : Str) : Option Ent := L.find? fun e => decide (e.1 = x)
def look (L : List Ent) (x : Str) : Option (List Int) := (getE L x).map (·.2.2)
theorem getE_nil (x : Str) : getE [] x = none := rfl
theorem getE_pos {e : Ent} {L : List Ent} {x : Str} (h : e.1 = x) : getE (e :: L) x = some e := by simp [getE, List.find?_cons, h]
theorem getE_neg {e : Ent} {L : List Ent} {x : Str} (h : ¬ e.1 = x) : getE (e :: L) x = getE L x := by simp [getE, List.find?_cons, h]
theorem getE_mem {L : List Ent} {x : Str} {e : Ent} (h : getE L x = some e) : e ∈ L ∧ e.1 = x :=
  ⟨List.mem_of_find?_eq_some h, of_decide_eq_true (List.find?_some (p := fun e : Ent => decide (e.1 = x)) h)⟩
theorem getE_of : ∀ {L : List Ent} {e : Ent}, (L.map (·.1)).Nodup → e ∈ L → getE L e.1 = some e
  | [], _, _, h => by cases h
  | a :: L, e, nd, h => by
    rw [List.map_cons, List.nodup_cons] at nd
    rcases List.mem_cons.mp h with z | z
    · rw [z]; exact getE_pos rfl
    · have ne : ¬ a.1 = e.1 := fun q => nd.1 (q ▸ List.mem_map_of_mem z)
      rw [getE_neg ne]
      exact getE_of nd.2 z
theorem getE_none {L : List Ent} {x : Str} : getE L x = none ↔ x ∉ L.map (·.1) := by
  unfold getE
  rw [List.find?_eq_none]
  constructor
  · intro h hx
    obtain ⟨e, he, q⟩ := List.mem_map.mp hx
    exact h e he (decide_eq_true q)
  · intro h e he q
    exact h (of_decide_eq_true q ▸ List.mem_map_of_mem he)
theorem look_mem {L : List Ent} {e : Ent} (nd : (L.map (·.1)).Nodup) (h : e ∈ L) : look L e.1 = some e.2.2 := by
  unfold look
  rw [getE_of nd h]
  rfl
theorem valV_ent (x : Str) : ∀ L : List Ent, valV (entK L) (.inr x) = (getE L x).map fun e => V.ref e.2.1
  | [] => rfl
  | e :: L => by
    by_cases h : e.1 = x
    · rw [getE_pos h]
      exact valV_pos (congrArg Sum.inr h)
    · rw [getE_neg h]
      have : valV (entK (e :: L)) (.inr x) = valV (entK L) (.inr x) := valV_neg (fun z => h (Sum.inr.inj z))
      rw [this]
      exact valV_ent x L
structure Bx (H : Hp) (d : Addr) (L : List Ent) : Prop where
  rd : Rd H d (.dK (entK L))
  sides : ∀ e ∈ L, H e.2.1 = some (.lst (e.2.2.map V.int))
  nd : (L.map (·.1)).Nodup
  few : L.length ≤ 40
theorem Rd.same {H H' : Hp} {a : Addr} {u : HO} (s : Same H H') (r : Rd H a u) : Rd H' a u := r.elim (fun h => .inl (s _ _ h)) fun ⟨o, h⟩ => .inr ⟨o, s _ _ h⟩
theorem Bx.same {H H' : Hp} {d : Addr} {L : List Ent} (B : Bx H d L) (s : Same H H') : Bx H' d L := ⟨Rd.same s B.rd, fun e he => s _ _ (B.sides e he), B.nd, B.few⟩
theorem Bx.get {H : Hp} {d : Addr} {L : List Ent} (B : Bx H d L) (x : Str) : DGet H d (.str x) ((getE L x).map fun e => V.ref e.2.1) := .inl ⟨entK L, .inr x, B.rd, rfl, (valV_ent x L).symm⟩
/-- a locked dict is read as before -/
theorem Bx.lock {H : Hp} {d d' : Addr} {L L' : List Ent} {od : Obj} (B : Bx H d L) (h : H d' = some (.dK (entK L'))) : Bx (upd H d' (.frz od (.dK (entK L')))) d L := by
  refine ⟨?_, fun e he => ?_, B.nd, B.few⟩
  · by_cases z : d = d'
    · subst z
      have : entK L' = entK L := by
        rcases B.rd with q | ⟨o, q⟩
        · rw [h] at q
          exact HO.dK.inj (Option.some.inj q)
        · rw [h] at q; cases q
      rw [← this]
      exact .inr ⟨od, upd_same⟩
    · rcases B.rd with q | ⟨o, q⟩
      · exact .inl (by rw [upd_ne z]; exact q)
      · exact .inr ⟨o, by rw [upd_ne z]; exact q⟩
  · have : e.2.1 ≠ d' := fun z => by have q := B.sides e he; rw [z, h] at q; cases q
    rw [upd_ne this]
    exact B.sides e he
theorem unlock {H H' : Hp} {d : Addr} {u : HO} {od : Obj} (h : H d = some u) (s : Same (upd H d (.frz od u)) H') : Same H (upd H' d u) := fun b o e => by
  by_cases z : b = d
  · subst z
    rw [upd_same]
    exact h.symm.trans e
  · rw [upd_ne z]
    exact s b o (by rw [upd_ne z]; exact e)
/-- put -/
def putE (L : List Ent) (x : Str) (a : Addr) (s : List Int) : List Ent := if (L.any fun e => decide (e.1 = x)) = true then L.map (fun e => if e.1 = x then (x, a, s) else e) else L ++ [(x, a, s)]
theorem any_ent (L : List Ent) (x : Str) : ((entK L).any fun kv => decide (kv.1 = Sum.inr x)) = L.any fun e => decide (e.1 = x) := by
  unfold entK
  rw [List.any_map]
  congr 1
  funext e
  simp
theorem putK_ent (L : List Ent) (x : Str) (a : Addr) (s : List Int) : putK (entK L) (.inr x) (V.ref a) = entK (putE L x a s) := by
  unfold putK putE
  rw [any_ent]
  by_cases h : (L.any fun e => decide (e.1 = x)) = true
  · rw [if_pos h, if_pos h]
    unfold entK
    rw [List.map_map, List.map_map]
    congr 1
    funext e
    by_cases z : e.1 = x
    · simp [z]
    · simp [z]
  · rw [if_neg h, if_neg h]
    unfold entK
    rw [List.map_append]
    rfl
theorem any_iff {L : List Ent} {x : Str} : (L.any fun e => decide (e.1 = x)) = true ↔ x ∈ L.map (·.1) := by
  rw [List.any_eq_true, List.mem_map]
  constructor
  · rintro ⟨e, he, q⟩; exact ⟨e, he, of_decide_eq_true q⟩
  · rintro ⟨e, he, q⟩; exact ⟨e, he, decide_eq_true q⟩
theorem putE_keys (L : List Ent) (x : Str) (a : Addr) (s : List Int) : (putE L x a s).map (·.1) = if x ∈ L.map (·.1) then L.map (·.1) else L.map (·.1) ++ [x] := by
  unfold putE
  by_cases h : (L.any fun e => decide (e.1 = x)) = true
  · rw [if_pos h, if_pos (any_iff.mp h), List.map_map]
    congr 1
    funext e
    by_cases z : e.1 = x
    · simp [z]
    · simp [z]
  · rw [if_neg h, if_neg (fun z => h (any_iff.mpr z)), List.map_append]
    rfl
theorem putE_nd {L : List Ent} {x : Str} {a : Addr} {s : List Int} (nd : (L.map (·.1)).Nodup) : ((putE L x a s).map (·.1)).Nodup := by
  rw [putE_keys]
  split
  · exact nd
  · rename_i h
    rw [List.nodup_append]
    exact ⟨nd, by simp, fun y hy z hz => by rw [List.mem_singleton.mp hz]; exact fun e => h (e ▸ hy)⟩
theorem putE_len (L : List Ent) (x : Str) (a : Addr) (s : List Int) : (putE L x a s).length ≤ L.length + 1 := by
  unfold putE
  split
  · rw [List.length_map]; omega
  · rw [List.length_append]; exact Nat.le_refl _
theorem putE_mem {L : List Ent} {x : Str} {a : Addr} {s : List Int} {e : Ent} (h : e ∈ putE L x a s) : e = (x, a, s) ∨ (e ∈ L ∧ e.1 ≠ x) := by
  unfold putE at h
  split at h
  · obtain ⟨f, hf, q⟩ := List.mem_map.mp h
    by_cases z : f.1 = x
    · rw [if_pos z] at q; exact .inl q.symm
    · rw [if_neg z] at q; exact .inr (q ▸ ⟨hf, z⟩)
  · rename_i g
    rcases List.mem_append.mp h with q | q
    · exact .inr ⟨q, fun z => g (any_iff.mpr (z ▸ List.mem_map_of_mem q))⟩
    · exact .inl (List.mem_singleton.mp q)
theorem find_map_at {x y : Str} {a : Addr} {s : List Int} (h : ¬ x = y) : ∀ L : List Ent, getE (L.map (fun e => if e.1 = x then (x, a, s) else e)) y = getE L y
  | [] => rfl
  | e :: L => by
    rw [List.map_cons]
    by_cases z : e.1 = x
    · rw [if_pos z, getE_neg (show ¬ (x, a, s).1 = y from h), getE_neg (fun q => h (z.symm.trans q))]
      exact find_map_at h L
    · rw [if_neg z]
      by_cases q : e.1 = y
      · rw [getE_pos q, getE_pos q]
      · rw [getE_neg q, getE_neg q]
        exact find_map_at h L
theorem find_map_self {x : Str} {a : Addr} {s : List Int} : ∀ L : List Ent, x ∈ L.map (·.1) → getE (L.map (fun e => if e.1 = x then (x, a, s) else e)) x = some (x, a, s)
  | [], h => by cases h
  | e :: L, h => by
    rw [List.map_cons]
    by_cases z : e.1 = x
    · rw [if_pos z]; exact getE_pos rfl
    · rw [if_neg z, getE_neg z]
      rw [List.map_cons] at h
      exact find_map_self L ((List.mem_cons.mp h).elim (fun q => absurd q.symm z) id)
theorem getE_app (L M : List Ent) (y : Str) : getE (L ++ M) y = (getE L y).or (getE M y) := List.find?_append
theorem getE_put (L : List Ent) (x y : Str) (a : Addr) (s : List Int) : getE (putE L x a s) y = if y = x then some (x, a, s) else getE L y := by
  unfold putE
  by_cases h : (L.any fun e => decide (e.1 = x)) = true
  · rw [if_pos h]
    by_cases z : y = x
    · rw [if_pos z, z]
      exact find_map_self L (any_iff.mp h)
    · rw [if_neg z]
      exact find_map_at (fun q => z q.symm) L
  · rw [if_neg h, getE_app]
    by_cases z : y = x
    · rw [if_pos z, z, getE_none.mpr (fun q => h (any_iff.mpr q))]
      exact getE_pos rfl
    · rw [if_neg z, show getE [(x, a, s)] y = none from getE_neg (fun q => z q.symm)]
      cases getE L y <;> rfl
theorem look_put (L : List Ent) (x y : Str) (a : Addr) (s : List Int) : look (putE L x a s) y = if y = x then some s else look L y := by
  unfold look
  rw [getE_put]
  by_cases z : y = x
  · rw [if_pos z, if_pos z]; rfl
  · rw [if_neg z, if_neg z]
/-- drop -/
def dropE (L : List Ent) (x : Str) : List Ent := L.filter fun e => decide (e.1 ≠ x)
theorem dropK_ent (L : List Ent) (x : Str) : dropK (entK L) (.inr x) = entK (dropE L x) := by
  unfold dropK dropE entK
  rw [List.filter_map]
  congr 1
  apply List.filter_congr
  intro e _
  simp
theorem getE_drop (x y : Str) : ∀ L : List Ent, getE (dropE L x) y = if y = x then none else getE L y
  | [] => by unfold dropE; simp [getE]
  | e :: L => by
    have ih := getE_drop x y L
    unfold dropE at ih ⊢
    by_cases z : e.1 = x
    · rw [List.filter_cons_of_neg (by simp [z]), ih]
      by_cases q : y = x
      · rw [if_pos q, if_pos q]
      · rw [if_neg q, if_neg q, getE_neg (fun w => q (w.symm.trans z))]
    · rw [List.filter_cons_of_pos (by simp [z])]
      by_cases w : e.1 = y
      · rw [getE_pos w, getE_pos w, if_neg (fun q => z (w.trans q))]
      · rw [getE_neg w, getE_neg w, ih]
theorem look_drop (L : List Ent) (x y : Str) : look (dropE L x) y = if y = x then none else look L y := by
  unfold look
  rw [getE_drop]
  by_cases q : y = x
  · rw [if_pos q, if_pos q]; rfl
  · rw [if_neg q, if_neg q]
theorem dropE_nd {L : List Ent} {x : Str} (nd : (L.map (·.1)).Nodup) : ((dropE L x).map (·.1)).Nodup := List.Pairwise.sublist (List.Sublist.map _ List.filter_sublist) nd
theorem dropE_mem {L : List Ent} {x : Str} {e : Ent} (h : e ∈ dropE L x) : e ∈ L := (List.mem_filter.mp h).1
theorem dropE_len (L : List Ent) (x : Str) : (dropE L x).length ≤ L.length := List.length_filter_le _ _
/-- two boxes that say the same -/
def SameB (L M : List Ent) : Prop := ∀ x, look L x = look M x
theorem look_isSome {L : List Ent} {x : Str} : (look L x).isSome = true ↔ x ∈ L.map (·.1) := by
  unfold look
  rw [Option.isSome_map]
  cases h : getE L x with
  | none => simp [getE_none.mp h]
  | some e => simp only [Option.isSome_some, true_iff]; obtain ⟨a, b⟩ := getE_mem h; exact b ▸ List.mem_map_of_mem a
theorem len_le {α : Type} [DecidableEq α] : ∀ {l m : List α}, l.Nodup → (∀ x ∈ l, x ∈ m) → l.length ≤ m.length
  | [], _, _, _ => Nat.zero_le _
  | x :: l, m, nd, h => by
    rw [List.nodup_cons] at nd
    have hx := h x List.mem_cons_self
    have ih := len_le (m := m.erase x) nd.2 (fun y hy => (List.mem_erase_of_ne (fun (e : y = x) => nd.1 (by rw [← e]; exact hy))).2 (h y (List.mem_cons_of_mem _ hy)))
    rw [List.length_erase_of_mem hx] at ih
    have : 0 < m.length := List.length_pos_of_mem hx
    rw [List.length_cons]
    omega
theorem SameB.len {L M : List Ent} (s : SameB L M) (n1 : (L.map (·.1)).Nodup) (n2 : (M.map (·.1)).Nodup) : L.length = M.length := by
  have h1 := len_le n1 (fun x hx => look_isSome.mp (by rw [← s x]; exact look_isSome.mpr hx))
  have h2 := len_le n2 (fun x hx => look_isSome.mp (by rw [s x]; exact look_isSome.mpr hx))
  rw [List.length_map, List.length_map] at h1 h2
  omega
/-- v in ks, as the model asks it -/
theorem in_ints (ks : List Int) (v : Int) : inV (.int v) (ks.map V.int) = decide (v ∈ ks) := by
  unfold inV
  induction ks with
  | nil => simp
  | cons k ks ih =>
    rw [List.map_cons, List.any_cons, ih]
    have e : eqV (.int k) (.int v) = decide (k = v) := by
      by_cases c : k = v
      · subst c; simp [eqV]
      · simp [eqV, c]
    rw [e]
    by_cases c : k = v
    · subst c; simp
    · have c2 : ¬ v = k := fun z => c z.symm
      simp [c, c2]
theorem flat_ints (ks : List Int) : (ks.map V.int).all flatV = true := by
  rw [List.all_map]
  exact List.all_eq_true.mpr fun _ _ => rfl
section
variable {P : Program} {w : World} {K : PySem.W.Frag} {mg : Str → Option Value} {base : Heap}
/-! ### the program: boxes -/
/-- a box that no walk has locked -/
structure Bu (H : Hp) (d : Addr) (L : List Ent) : Prop extends Bx H d L where
  un : H d = some (.dK (entK L))
theorem Bu.same' {H H' : Hp} {d : Addr} {L : List Ent} (B : Bu H d L) (s : Same H H') : Bu H' d L := ⟨B.toBx.same s, s _ _ B.un⟩
theorem upd_back {H : Hp} {d : Addr} {u x : HO} (h : H d = some u) : upd (upd H d x) d u = H := by
  funext b
  by_cases z : b = d
  · rw [z, upd_same, h]
  · rw [upd_ne z, upd_ne z]
theorem entK_get {L : List Ent} {i : Nat} : (entK L)[i]? = (L[i]?).map fun e => (Sum.inr e.1, V.ref e.2.1) := by
  unfold entK
  rw [List.getElem?_map]
/-! ### holds -/
def intK (A : List (Str × Int)) : List (Key × V) := A.map fun e => (Sum.inr e.1, V.int e.2)
def aget (A : List (Str × Int)) (x : Str) : Option Int := (A.find? fun e => decide (e.1 = x)).map (·.2)
theorem valV_int (x : Str) : ∀ A : List (Str × Int), valV (intK A) (.inr x) = (aget A x).map V.int
  | [] => rfl
  | e :: A => by
    by_cases h : e.1 = x
    · have : aget (e :: A) x = some e.2 := by simp [aget, List.find?_cons, h]
      rw [this]
      exact valV_pos (congrArg Sum.inr h)
    · have : aget (e :: A) x = aget A x := by simp [aget, List.find?_cons, h]
      rw [this]
      have : valV (intK (e :: A)) (.inr x) = valV (intK A) (.inr x) := valV_neg (fun z => h (Sum.inr.inj z))
      rw [this]
      exact valV_int x A
/-- an assignment: a dict from texts to ints -/
structure Ax (H : Hp) (d : Addr) (A : List (Str × Int)) : Prop where
  rd : Rd H d (.dK (intK A))
theorem Ax.same {H H' : Hp} {d : Addr} {A : List (Str × Int)} (B : Ax H d A) (s : Same H H') : Ax H' d A := ⟨Rd.same s B.rd⟩
theorem Ax.get {H : Hp} {d : Addr} {A : List (Str × Int)} (B : Ax H d A) (x : Str) : DGet H d (.str x) ((aget A x).map V.int) := .inl ⟨intK A, .inr x, B.rd, rfl, (valV_int x A).symm⟩
def inSide (A : List (Str × Int)) (e : Ent) : Bool := match aget A e.1 with
  | some v => decide (v ∈ e.2.2)
  | none => true
def holdsE (L : List Ent) (A : List (Str × Int)) : Bool := L.all (inSide A)
theorem same_frz {H H' : Hp} {d : Addr} {u : HO} {od : Obj} (h : H d = some u) (s : Same H H') : Same (upd H d (.frz od u)) (upd H' d (.frz od u)) := fun b o e => by
  by_cases z : b = d
  · subst z
    rw [upd_same] at e ⊢
    exact e
  · rw [upd_ne z] at e ⊢
    exact s _ _ e
theorem take_all {α : Type} {L : List α} {i : Nat} {e : α} {p : α → Bool} (h : L[i]? = some e) : (L.take (i + 1)).all p = ((L.take i).all p && p e) := by
  rw [List.take_add_one, h, List.all_append]
  simp
theorem not_all {α : Type} {L : List α} {i : Nat} {e : α} {p : α → Bool} (h : L[i]? = some e) (q : p e = false) : L.all p = false := by
  rw [List.all_eq_false]
  exact ⟨e, List.mem_of_getElem? h, by simp [q]⟩
theorem Ax.frz {H : Hp} {v d : Addr} {A : List (Str × Int)} {u : HO} (B : Ax H v A) (h : v ≠ d) : Ax (upd H d u) v A := ⟨B.rd.elim (fun q => .inl (by rw [upd_ne h]; exact q)) fun ⟨o, q⟩ => .inr ⟨o, by rw [upd_ne h]; exact q⟩⟩
theorem entK_len (L : List Ent) : (entK L).length = L.length := by unfold entK; rw [List.length_map]
theorem items_at {L : List Ent} {i : Nat} {x1 x2 : V} (g1 : ((entK L)[i]?.map fun kv => kV kv.1) = some x1) (g2 : ((entK L)[i]?.map Prod.snd) = some x2) : ∃ e, L[i]? = some e ∧ x1 = .str e.1 ∧ x2 = .ref e.2.1 := by
  rw [entK_get] at g1 g2
  cases c : L[i]? with
  | none => rw [c] at g1; cases g1
  | some e => rw [c] at g1 g2; exact ⟨e, rfl, (Option.some.inj g1).symm, (Option.some.inj g2).symm⟩
theorem keys_at {L : List Ent} {i : Nat} {k : Key} {v : V} (h : (entK L)[i]? = some (k, v)) : ∃ e, L[i]? = some e ∧ k = .inr e.1 ∧ v = .ref e.2.1 := by
  rw [entK_get] at h
  obtain ⟨e, he, q⟩ := Option.map_eq_some_iff.mp h
  cases q
  exact ⟨e, he, rfl, rfl⟩
/-! ### box_within -/
end
/-- a new box with sides of its own -/
structure Nb (H0 H : Hp) (d : Addr) (L : List Ent) : Prop extends Bu H d L where
  fresh : H0 d = none
  freshS : ∀ e ∈ L, H0 e.2.1 = none
  inj : (L.map (·.2.1)).Nodup
theorem Nb.pull {H H0 H1 : Hp} {d : Addr} {L : List Ent} (N : Nb H0 H1 d L) (s : Same H H0) : Nb H H1 d L := ⟨N.toBu, s.free N.fresh, fun e he => s.free (N.freshS e he), N.inj⟩
theorem Nb.push {H0 H1 H2 : Hp} {d : Addr} {L : List Ent} (N : Nb H0 H1 d L) (s : Same H1 H2) : Nb H0 H2 d L := ⟨N.toBu.same' s, N.fresh, N.freshS, N.inj⟩
abbrev shape (L : List Ent) : List (Str × List Int) := L.map fun e => (e.1, e.2.2)
theorem look_shape : ∀ {L M : List Ent}, shape L = shape M → SameB L M
  | [], [], _, _ => rfl
  | [], _ :: _, h, _ => by cases h
  | _ :: _, [], h, _ => by cases h
  | e :: L, f :: M, h, x => by
    simp only [shape, List.map_cons, List.cons.injEq, Prod.mk.injEq] at h
    obtain ⟨⟨h1, h2⟩, h3⟩ := h
    have ih := look_shape (L := L) (M := M) h3 x
    unfold look at ih ⊢
    by_cases z : e.1 = x
    · rw [getE_pos z, getE_pos (h1 ▸ z)]
      exact congrArg some h2
    · rw [getE_neg z, getE_neg (fun q => z (h1.trans q))]
      exact ih
theorem shape_keys {L M : List Ent} (h : shape L = shape M) : L.map (·.1) = M.map (·.1) := by
  have q := congrArg (List.map Prod.fst) h
  unfold shape at q
  rw [List.map_map, List.map_map] at q
  exact q
theorem putE_new {L : List Ent} {x : Str} {a : Addr} {s : List Int} (h : x ∉ L.map (·.1)) : putE L x a s = L ++ [(x, a, s)] := if_neg fun z => h (any_iff.mp z)
theorem nd_snoc {α : Type} {l : List α} {x : α} (nd : l.Nodup) (h : x ∉ l) : (l ++ [x]).Nodup := by
  rw [List.nodup_append]
  exact ⟨nd, by simp, fun y hy z hz => by rw [List.mem_singleton.mp hz]; exact fun e => h (e ▸ hy)⟩
theorem dc_it {J : It} {n : Nat} {G : Hp → Prop} {Y : Nat → Hp → V → Hp → Prop} (w : Walk J n G Y) {g : TG} {tt : TT} {tk tv : TE} {vs : List Nat} {σ : L2.St} {H1 : Hp} {D : Addr} {Qd : Hp → Prop} (Pv : Nat → Hp → Prop) (start : Pv 0 (upd H1 D (.dK []))) (stays : ∀ i H, i ≤ n → Pv i H → G H)
    (turn : ∀ i x H H', i < n → Pv i H → Y i H x H' → g x (wipe σ vs) H' fun σ2 H2 => wipe σ2 vs = wipe σ vs ∧ tt σ2 H2 fun b H3 =>
      if b = true then tk σ2 H3 fun y H4 => tv σ2 H4 fun z H5 => ∃ kvs k, y = kV k ∧ H5 D = some (.dK kvs) ∧ kvs.length < sizeLine ∧ Pv (i + 1) (upd H5 D (.dK (putK kvs k z))) else Pv (i + 1) H3) (after : ∀ H, Pv n H → Qd H) :
    ∃ W : Nat → Nat → Hp → Prop, (∃ m, W 0 m (upd H1 D (.dK []))) ∧ ∀ i m H, W i m H →
      (J.stop i H ∧ Qd H) ∨ (J.go i H ∧ ∃ Nx : Hp → Prop, (∀ H', Nx H' → ∃ m', m' < m ∧ W (i + 1) m' H') ∧ ∀ x H', J.yld i H x H' → g x (wipe σ vs) H' fun σ2 H2 => wipe σ2 vs = wipe σ vs ∧ tt σ2 H2 fun b H3 =>
        if b = true then tk σ2 H3 fun y H4 => tv σ2 H4 fun z H5 => ∃ kvs k, y = kV k ∧ H5 D = some (.dK kvs) ∧ kvs.length < sizeLine ∧ Nx (upd H5 D (.dK (putK kvs k z))) else Nx H3) := by
  refine ⟨fun i m H => m = n - i ∧ i ≤ n ∧ Pv i H, ⟨n, rfl, Nat.zero_le _, start⟩, fun i m H h => ?_⟩
  obtain ⟨em, le, pv⟩ := h
  by_cases lt : i < n
  · exact .inr ⟨w.goes i H lt (stays i H le pv), Pv (i + 1), fun H' p => ⟨n - (i + 1), by omega, rfl, lt, p⟩, fun x H' y => turn i x H H' lt pv (w.yields i H x H' lt (stays i H le pv) y)⟩
  · obtain rfl : i = n := by omega
    exact .inl ⟨w.stops H (stays _ H le pv), after H pv⟩
section
variable {P : Program} {w : World} {K : PySem.W.Frag} {mg : Str → Option Value} {base : Heap}
abbrev rLst (K : PySem.W.Frag) : List V → Hp → VK → Prop := fun xs H Q => ∃ p ys, xs = [.ref p] ∧ (SqL K H p ys ∨ SqT K H p ys) ∧ ∀ l, H l = none → Q (.ref l) (upd H l (.lst ys))
def spCopy : Sp := fun vs H Q _ => ∃ (d : Addr) (L : List Ent), vs = [.ref d] ∧ Bu H d L ∧ ∀ (H' : Hp) (d' : Addr) (M : List Ent), Same H H' → Nb H H' d' M → shape M = shape L → Q (.ref d') H'
end
/-! ### what two sorted lists have together -/
def ins (k : Int) : List Int → List Int
  | [] => [k]
  | x :: l => if k < x then k :: x :: l else if k = x then x :: l else x :: ins k l
theorem ins_mem (k j : Int) : ∀ l : List Int, j ∈ ins k l ↔ j = k ∨ j ∈ l
  | [] => by simp [ins]
  | x :: l => by
    unfold ins
    by_cases a : k < x
    · rw [if_pos a]; simp
    · rw [if_neg a]
      by_cases b : k = x
      · rw [if_pos b, b]; simp
      · rw [if_neg b, List.mem_cons, ins_mem k j l, List.mem_cons]
        constructor
        · rintro (h | h | h)
          · exact .inr (.inl h)
          · exact .inl h
          · exact .inr (.inr h)
        · rintro (h | h | h)
          · exact .inr (.inl h)
          · exact .inl h
          · exact .inr (.inr h)
theorem ins_srt (k : Int) : ∀ l : List Int, Srt l → Srt (ins k l)
  | [], _ => List.pairwise_singleton _ _
  | x :: l, s => by
    obtain ⟨s1, s2⟩ := List.pairwise_cons.mp s
    unfold ins
    by_cases a : k < x
    · rw [if_pos a]
      refine List.pairwise_cons.mpr ⟨fun y hy => ?_, s⟩
      rcases List.mem_cons.mp hy with h | h
      · rw [h]; exact a
      · have := s1 y h; omega
    · rw [if_neg a]
      by_cases b : k = x
      · rw [if_pos b]; exact s
      · rw [if_neg b]
        refine List.pairwise_cons.mpr ⟨fun y hy => ?_, ins_srt k l s2⟩
        rcases (ins_mem k y l).mp hy with h | h
        · rw [h]; omega
        · exact s1 y h
theorem ins_len (k : Int) : ∀ l : List Int, (ins k l).length ≤ l.length + 1
  | [] => Nat.le_refl _
  | x :: l => by
    have := ins_len k l
    unfold ins
    split
    · simp
    · split
      · simp
      · simp only [List.length_cons]; omega
def uni (a b : List Int) : List Int := b.foldr ins a
theorem uni_mem (a : List Int) (j : Int) : ∀ b : List Int, j ∈ uni a b ↔ j ∈ a ∨ j ∈ b
  | [] => by simp [uni]
  | k :: b => by
    have ih := uni_mem a j b
    show j ∈ ins k (uni a b) ↔ _
    rw [ins_mem, ih, List.mem_cons]
    constructor
    · rintro (h | h | h)
      · exact .inr (.inl h)
      · exact .inl h
      · exact .inr (.inr h)
    · rintro (h | h | h)
      · exact .inr (.inl h)
      · exact .inl h
      · exact .inr (.inr h)
theorem uni_srt {a : List Int} (s : Srt a) : ∀ b : List Int, Srt (uni a b)
  | [] => s
  | k :: b => ins_srt k _ (uni_srt s b)
theorem uni_len (a : List Int) : ∀ b : List Int, (uni a b).length ≤ a.length + b.length
  | [] => Nat.le_refl _
  | k :: b => by
    have h1 := ins_len k (uni a b)
    have h2 := uni_len a b
    show (ins k (uni a b)).length ≤ a.length + (b.length + 1)
    omega
def both (a s : List Int) : List Int := a.filter fun k => decide (k ∈ s)
theorem both_srt {a s : List Int} (h : Srt a) : Srt (both a s) := List.Pairwise.filter _ h
theorem both_mem (a s : List Int) (k : Int) : k ∈ both a s ↔ k ∈ a ∧ k ∈ s := by
  unfold both
  rw [List.mem_filter, decide_eq_true_iff]
theorem look_snoc (L : List Ent) (e : Ent) (y : Str) (h : e.1 ∉ L.map (·.1)) : look (L ++ [e]) y = if y = e.1 then some e.2.2 else look L y := by
  unfold look
  rw [getE_app]
  by_cases z : y = e.1
  · rw [if_pos z, z, getE_none.mpr h, getE_pos rfl]
    rfl
  · rw [if_neg z, getE_neg (fun q => z q.symm), getE_nil]
    cases getE L y <;> rfl
theorem take_keys {L : List Ent} {i : Nat} {e : Ent} (nd : (L.map (·.1)).Nodup) (he : L[i]? = some e) : e.1 ∉ (L.take i).map (·.1) := by
  intro z
  obtain ⟨g, hg, eg⟩ := List.mem_map.mp z
  obtain ⟨j, hj⟩ := List.mem_iff_getElem?.mp hg
  rw [List.getElem?_take] at hj
  split at hj
  · rename_i hji
    have a1 : (L.map (·.1))[j]? = some e.1 := by rw [List.getElem?_map, hj]; exact congrArg some eg
    have a2 : (L.map (·.1))[i]? = some e.1 := by rw [List.getElem?_map, he]; rfl
    have := nd_ix nd a1 a2
    omega
  · cases hj
theorem look_take {L : List Ent} {i : Nat} {e : Ent} (nd : (L.map (·.1)).Nodup) (he : L[i]? = some e) (y : Str) : look (L.take (i + 1)) y = if y = e.1 then some e.2.2 else look (L.take i) y := by
  rw [List.take_add_one, he]
  exact look_snoc (L.take i) e y (take_keys nd he)
structure Sz (L : List Ent) (n : Nat) : Prop where
  srt : ∀ e ∈ L, Srt e.2.2
  len : ∀ e ∈ L, e.2.2.length ≤ n
theorem look_of {L : List Ent} {x : Str} {s : List Int} (h : look L x = some s) : ∃ e ∈ L, e.1 = x ∧ e.2.2 = s := by
  unfold look at h
  obtain ⟨e, he, q⟩ := Option.map_eq_some_iff.mp h
  obtain ⟨a, b⟩ := getE_mem he
  exact ⟨e, a, b, q⟩
/-- what a new box needs when one more side is put -/
theorem Nb.put {H0 H H3 : Hp} {d l : Addr} {M : List Ent} {x : Str} {s : List Int} (N : Nb H0 H d M) (n0 : H0 l = none) (nl : H l = none) (s3 : Same H H3) (el : H3 l = some (.lst (s.map V.int))) (few : M.length + 1 ≤ 40) :
    Nb H0 (upd H3 d (.dK (entK (putE M x l s)))) d (putE M x l s) := by
  have nld : l ≠ d := fun z => by rw [z, N.un] at nl; cases nl
  have sd : ∀ e ∈ putE M x l s, (upd H3 d (.dK (entK (putE M x l s)))) e.2.1 = some (.lst (e.2.2.map V.int)) := fun e he => by
    rcases putE_mem he with z | ⟨z, _⟩
    · rw [z, upd_ne nld]
      exact el
    · have h1 := N.sides e z
      have h2 : e.2.1 ≠ d := fun w => by rw [w, N.un] at h1; cases h1
      rw [upd_ne h2]
      exact s3 _ _ h1
  refine ⟨⟨⟨.inl upd_same, sd, putE_nd N.nd, by have := putE_len M x l s; omega⟩, upd_same⟩, N.fresh, fun e he => ?_, ?_⟩
  · rcases putE_mem he with z | ⟨z, _⟩
    · rw [z]; exact n0
    · exact N.freshS e z
  · have lM : l ∉ M.map (·.2.1) := fun w => by
      obtain ⟨g, hg, eg⟩ := List.mem_map.mp w
      have eg' : g.2.1 = l := eg
      have h1 := N.sides g hg
      rw [eg', nl] at h1
      cases h1
    unfold putE
    split
    · rw [List.map_map]
      have key : ∀ L : List Ent, (L.map (·.1)).Nodup → (L.map (·.2.1)).Nodup → l ∉ L.map (·.2.1) → (L.map ((fun e : Ent => e.2.1) ∘ fun e => if e.1 = x then (x, l, s) else e)).Nodup ∧ ∀ q ∈ L.map ((fun e : Ent => e.2.1) ∘ fun e => if e.1 = x then (x, l, s) else e), q ∈ L.map (·.2.1) ∨ (q = l ∧ x ∈ L.map (·.1)) := by
        intro L
        induction L with
        | nil => intro _ _ _; exact ⟨List.Pairwise.nil, fun q hq => by cases hq⟩
        | cons e L ih =>
          intro n1 n2 n3
          rw [List.map_cons, List.nodup_cons] at n1 n2
          rw [List.map_cons, List.mem_cons, not_or] at n3
          obtain ⟨i1, i2⟩ := ih n1.2 n2.2 n3.2
          rw [List.map_cons, List.nodup_cons]
          by_cases c : e.1 = x
          · have ef : ((fun e : Ent => e.2.1) ∘ fun e => if e.1 = x then (x, l, s) else e) e = l := by simp [c]
            rw [ef]
            refine ⟨⟨fun w => ?_, i1⟩, fun q hq => ?_⟩
            · rcases i2 l w with z | ⟨_, z⟩
              · exact n3.2 z
              · exact n1.1 (c ▸ z)
            · rcases List.mem_cons.mp hq with z | z
              · exact .inr ⟨z, by rw [List.map_cons, c]; exact List.mem_cons_self⟩
              · rcases i2 q z with y | ⟨y1, y2⟩
                · exact .inl (List.mem_cons_of_mem _ y)
                · exact .inr ⟨y1, List.mem_cons_of_mem _ y2⟩
          · have ef : ((fun e : Ent => e.2.1) ∘ fun e => if e.1 = x then (x, l, s) else e) e = e.2.1 := by simp [c]
            rw [ef]
            refine ⟨⟨fun w => ?_, i1⟩, fun q hq => ?_⟩
            · rcases i2 _ w with z | ⟨z, _⟩
              · exact n2.1 z
              · exact n3.1 z.symm
            · rcases List.mem_cons.mp hq with z | z
              · exact .inl (by rw [z]; exact List.mem_cons_self)
              · rcases i2 q z with y | ⟨y1, y2⟩
                · exact .inl (List.mem_cons_of_mem _ y)
                · exact .inr ⟨y1, List.mem_cons_of_mem _ y2⟩
      exact (key M N.nd N.inj lM).1
    · rw [List.map_append]
      exact nd_snoc N.inj lM
theorem Same.unl {H H' : Hp} {d : Addr} {u : HO} {od : Obj} (h : H d = some u) (s : Same (upd H d (.frz od u)) H') : Same H (upd H' d u) := unlock h s
/-- a new box behind a lock elsewhere -/
theorem Nb.unl {H0 H' : Hp} {b d : Addr} {u : HO} {M : List Ent} {od : Obj} (N : Nb H0 H' d M) (hb : H0 b = some u) (eF : H' b = some (.frz od u)) : Nb H0 (upd H' b u) d M := by
  have db : d ≠ b := fun z => by have := N.un; rw [z, eF] at this; cases this
  have away : ∀ g ∈ M, g.2.1 ≠ b := fun g hg z => by have := N.sides g hg; rw [z, eF] at this; cases this
  exact ⟨⟨⟨.inl (by rw [upd_ne db]; exact N.un), fun g hg => by rw [upd_ne (away g hg)]; exact N.sides g hg, N.nd, N.few⟩, by rw [upd_ne db]; exact N.un⟩, N.fresh, N.freshS, N.inj⟩
theorem Nb.lck {H0 H : Hp} {b d : Addr} {u : HO} {M : List Ent} {od : Obj} (N : Nb H0 H d M) (hb : H0 b ≠ none) : Nb H0 (upd H b (.frz od u)) d M := by
  have db : d ≠ b := fun z => hb (z ▸ N.fresh)
  have away : ∀ g ∈ M, g.2.1 ≠ b := fun g hg z => hb (z ▸ N.freshS g hg)
  exact ⟨⟨⟨.inl (by rw [upd_ne db]; exact N.un), fun g hg => by rw [upd_ne (away g hg)]; exact N.sides g hg, N.nd, N.few⟩, by rw [upd_ne db]; exact N.un⟩, N.fresh, N.freshS, N.inj⟩
section
variable {P : Program} {w : World} {K : PySem.W.Frag} {mg : Str → Option Value} {base : Heap}
end
theorem ne_some' {H : Hp} {p q : Addr} {o : HO} (h : H p = some o) (n : H q = none) : p ≠ q := fun e => by rw [e, n] at h; cases h
section
variable {P : Program} {w : World} {K : PySem.W.Frag} {mg : Str → Option Value} {base : Heap}
/-! ### the pool, a part of it -/
abbrev sPool : Stmt := topS 36
abbrev nPool : List Str := ["_law_stream_here", "_law_count", "_law_pool_here", "_law_k", "_law_scale", "_law_value"]
abbrev nPart : List Str := ["_law_stream_here", "_law_side", "_law_value"]
theorem scPool : FnScope nPool ["_law_stream_here", "_law_count"] (defScope sPool) := ⟨rfl, rfl, rfl, by decide +kernel, rfl, by decide +kernel, by decide +kernel⟩
theorem srt_snoc {ss : List Int} {v : Int} (s : Srt ss) (h : ∀ k ∈ ss, k < v) : Srt (ss ++ [v]) :=
  List.pairwise_append.mpr ⟨s, List.pairwise_singleton _ _, fun a ha b hb => by rw [List.mem_singleton.mp hb]; exact h a ha⟩
def spPool : Sp := fun vs H Q _ => ∃ (p : Addr) (m : Nat), vs = [.ref p, .int (m : Int)] ∧ Strm H p ∧ 1 ≤ m ∧ m ≤ 100 ∧
  ∀ (H' : Hp) (l : Addr) (ns : List Int), Keep p H H' → H l = none → Strm H' p → H' l = some (.lst (ns.map V.int)) → Srt ns → ns.length = m → Q (.ref l) H'
theorem ok_pool {f fD : Addr} {fd fdD : FuncData} (F : Fun K "_law_pool" "_law_pool" sPool f fd) (B : Bt mg) (D : Call P w K mg base 1 "_law_next" fD fdD ["_law_stream_here", "_law_size"] spDraw) :
    FnOk P w K mg base CX0 2 f fd ["_law_stream_here", "_law_count"] spPool := by
  refine F.ok scPool (fun vs H Q E h => ?_) (fun cdv A outer s H vs Q E hr h => ?_)
  · obtain ⟨p, m, rfl, _⟩ := h
    rfl
  · obtain ⟨p, m, rfl, hp, m0, m1, q⟩ := h
    have nd := scPool.nd
    refine ⟨_, pss_cons (ps_set (i := 2) nd rfl (.inl rfl) (pe_lst (pa_cons (pe_op op_sub (pe_call D.ok hr (by rfl) D.at_ D.kp D.bd .nil pass0 (pa_cons (pv 0) (pa_cons pe_int pa_nil))) pe_int) pa_nil)))
      (pss_cons (ps_for PassesOwn.never rfl (pi_range1 (by rfl) B.range (pa_cons (pe_op op_sub (pv 1) pe_int) pa_nil)) (pg_name (i := 3) nd rfl (.inl rfl))
        (pss_one (ps_expr (pe_bm PySem.F.plainAttrs_list PySem.F.slot_list_append PySem.F.type_list_append mt_append (pv 2) (pa_cons
          (pe_op op_add (pe_op op_add (pe_ix ix_list (pv 2) (pv 3) (fun _ _ => rfl)) pe_int) (pe_op op_mul pe_int (pe_op op_fdiv (pe_call D.ok hr (by rfl) D.at_ D.kp D.bd .nil pass0 (pa_cons (pv 0) (pa_cons pe_int pa_nil))) pe_int))) pa_nil)))))
      (pss_cons (ps_set (i := 4) nd rfl (.inr rfl) (pe_ix ix_list (pe_lst (pa_cons pe_int (pa_cons pe_int (pa_cons pe_int (pa_cons pe_int (pa_cons pe_int (pa_cons pe_int (pa_cons pe_int (pa_cons (pe_op op_pow pe_int pe_int) pa_nil)))))))))
          (pe_call D.ok hr (by rfl) D.at_ D.kp D.bd .nil pass0 (pa_cons (pv 0) (pa_cons pe_int pa_nil))) (fun _ _ => rfl)))
      (pss_one (ps_ret (pe_lc (own := [("_law_value", 5)]) (g := gName 5) (tt := tYes) rfl nd (pi_list (pv 2)) (blkOk_by (N := nPool) (sc := defScope sPool) (by decide +kernel)) (fun _ _ _ _ _ => pg_name (i := 5) nd rfl (Or.inl rfl)) (fun _ _ _ _ _ => pts_nil)
        (fun _ _ _ _ _ => pe_op op_mul (pv 5) (pv 4))))))), ?_⟩
    refine ⟨.ref p, rfl, p, 9, rfl, hp, by decide, by decide, fun H1 d o1 st1 d0 d1 => ⟨d, 4, rfl, rfl, by show 1 ≤ sizeLine; decide, fun l nl1 => ?_⟩⟩
    have npl : p ≠ l := fun z => st1.some (z ▸ nl1)
    have nl : H l = none := by rw [← o1 l npl.symm]; exact nl1
    refine ⟨.int (m : Int), rfl, (m : Int), 1, rfl, rfl, (m : Int) - 1, rfl, by omega, by omega, for_range (lo := 0) (n := ((m : Int) - 1).toNat) (fun i σ H' => ∃ (y3 : Option V) (ns : List Int), σ = [some (.ref p), some (.int (m : Int)), some (.ref l), y3, none, none] ∧ Keep p H H' ∧ Strm H' p ∧ H' l = some (.lst (ns.map V.int)) ∧ Srt ns ∧ ns.length = i + 1 ∧ ∃ z, ns = ns.take i ++ [z])
      ⟨none, [d - 4], rfl, ((Keep.refl p H).oth o1).at_ nl, st1.upd npl, upd_same, List.pairwise_singleton _ _, rfl, d - 4, rfl⟩ ?_ ?_⟩
    · rintro i σ H' hi ⟨y3, ns, rfl, kp, st, el, so, len, z, ez⟩
      have gz : (ns.map V.int)[i]? = some (.int z) := by
        rw [ez, List.map_append, List.getElem?_append_right (by rw [List.length_map, List.length_take]; omega)]
        rw [List.length_map, List.length_take, show i - min i ns.length = 0 by omega]
        rfl
      refine ⟨.ref l, rfl, .inl ⟨rfl, _, sl_map el⟩, .ref l, rfl, .int (0 + (i : Int)), rfl, l, _, _, _, rfl, rfl, sl_map el, at_of (by omega) gz, z, 1, rfl, rfl, .ref p, rfl, p, 4, rfl, st, by decide, by decide, fun H2 e o2 st2 e0 e1 => ?_⟩
      refine ⟨e, 3, rfl, rfl, ⟨by decide, by decide⟩, 2, e / 3, rfl, rfl, .inl ⟨by decide, by decide⟩, z + 1, 2 * (e / 3), rfl, rfl, l, _, _, rfl, rfl, (o2 l npl.symm).trans el, ?_, ?_⟩
      · rw [List.length_map]
        exact small1000 (by omega)
      · have e3 : 0 ≤ e / 3 := Int.ediv_nonneg e0 (by decide)
        refine ⟨_, ns ++ [z + 1 + 2 * (e / 3)], rfl, (kp.oth o2).at_ nl, st2.upd npl, by rw [upd_same, List.map_append]; rfl, srt_snoc so fun k hk => ?_, by rw [List.length_append, len]; rfl, z + 1 + 2 * (e / 3), ?_⟩
        · rw [ez] at hk so
          rcases List.mem_append.mp hk with h | h
          · have := (List.pairwise_append.mp so).2.2 k h z (List.mem_singleton.mpr rfl)
            omega
          · have := List.mem_singleton.mp h
            omega
        · rw [List.take_append_of_le_length (by omega), List.take_of_length_le (by omega)]
    · rintro σ H' ⟨y3, ns, rfl, kp, st, el, so, len, z, ez⟩
      refine ⟨10, 9, rfl, rfl, ⟨by decide, by decide, by decide⟩, by show 8 ≤ sizeLine; decide, fun t nt => ?_⟩
      have npt : p ≠ t := fun e => st.some (e ▸ nt)
      have nlt : l ≠ t := ne_some' el nt
      refine ⟨.ref p, rfl, p, 8, rfl, st.upd npt, by decide, by decide, fun H2 e o2 st2 e0 e1 => ?_⟩
      have et : H2 t = some (.lst [V.int 1, V.int 1, V.int 1, V.int 1, V.int 1, V.int 1, V.int 7, V.int (10 ^ (9 : Int).toNat)]) := (o2 t npt.symm).trans upd_same
      obtain ⟨sc, hsc, sc0, sc1⟩ : ∃ sc : Int, atI [V.int 1, V.int 1, V.int 1, V.int 1, V.int 1, V.int 1, V.int 7, V.int (10 ^ (9 : Int).toNat)] e = some (.int sc) ∧ 0 < sc ∧ sc < 2 ^ 64 := by
        have : e = 0 ∨ e = 1 ∨ e = 2 ∨ e = 3 ∨ e = 4 ∨ e = 5 ∨ e = 6 ∨ e = 7 := by omega
        rcases this with h | h | h | h | h | h | h | h
        · exact ⟨_, by rw [h]; exact atI_nat (j := 0) rfl, by decide, by decide⟩
        · exact ⟨_, by rw [h]; exact atI_nat (j := 1) rfl, by decide, by decide⟩
        · exact ⟨_, by rw [h]; exact atI_nat (j := 2) rfl, by decide, by decide⟩
        · exact ⟨_, by rw [h]; exact atI_nat (j := 3) rfl, by decide, by decide⟩
        · exact ⟨_, by rw [h]; exact atI_nat (j := 4) rfl, by decide, by decide⟩
        · exact ⟨_, by rw [h]; exact atI_nat (j := 5) rfl, by decide, by decide⟩
        · exact ⟨_, by rw [h]; exact atI_nat (j := 6) rfl, by decide, by decide⟩
        · exact ⟨_, by rw [h]; exact atI_nat (j := 7) rfl, by decide, by decide⟩
      refine ⟨t, _, e, .int sc, rfl, rfl, sl_map et, hsc, ?_⟩
      have el2 : H2 l = some (.lst (ns.map V.int)) := by rw [o2 l npl.symm, upd_ne nlt]; exact el
      have kp2 : Keep p H H2 := (kp.at_ (kp.free st nt)).oth o2
      refine ⟨.ref l, rfl, l, rfl, ⟨_, sl_map el2⟩, fun R nR => lc_list (xs := ns.map V.int) (fun i H3 => Same H2 H3 ∧ H3 R = some (.lst (((ns.take i).map (· * sc)).map V.int))) ⟨same_new nR, upd_same⟩ (fun i H3 _ h => h.1.seq (sl_map el2)) ?_ ?_⟩
      · rintro i x H3 hx ⟨sm, eR⟩
        rw [List.getElem?_map] at hx
        obtain ⟨v, hv, rfl⟩ := Option.map_eq_some_iff.mp hx
        have hi := (List.getElem?_eq_some_iff.mp hv).1
        refine ⟨rfl, .int v, rfl, .int sc, rfl, v, sc, rfl, rfl, .inr ⟨by omega, by omega⟩, _, eR, ?_, same_at sm nR, ?_⟩
        · rw [List.length_map, List.length_map, List.length_take]
          exact small1000 (by omega)
        · rw [upd_same, List.take_add_one, hv, List.map_append, List.map_append]
          rfl
      · rintro H3 ⟨sm, eR⟩
        rw [List.length_map, List.take_length] at eR
        refine q H3 R _ (fun b u hb e => sm _ _ (kp2 b u hb e)) (kp2.free st2 nR) (st2.keep (Keep.same (p := R) sm) (fun z => st2.some (z ▸ nR))) eR ?_ ?_
        · unfold Srt
          rw [List.pairwise_map]
          exact so.imp fun h => Int.mul_lt_mul_of_pos_right h sc0
        · rw [List.length_map]
          omega
def spPart (K : PySem.W.Frag) : Sp := fun vs H Q _ => ∃ (p a : Addr) (ns : List Int), vs = [.ref p, .ref a] ∧ Strm H p ∧ H a = some (.lst (ns.map V.int)) ∧ p ≠ a ∧ ns.length ≤ 1000 ∧
  ∀ (H' : Hp) (l : Addr) (ms : List Int), Keep p H H' → H l = none → Strm H' p → H' l = some (.lst (ms.map V.int)) → ms.Sublist ns → Q (.ref l) H'
end
/-! ### names -/
def plainN : List Str := ["x", "yard", "z", "u", "wide_one", "q", "pp", "t"]
def lettersN : Str := "qwertyuiopasdfghjklzxcvbnm_zyx"
def digitsN : Str := "7305186429"
theorem plain_nodup : ((List.range 8).all fun s => decide (((List.range 8).map fun k => plainN.getD ((k * 3 + s) % 8) "x").Nodup)) = true := by decide +kernel
def isDig (c : Nat) : Bool := decide (48 ≤ c) && decide (c ≤ 57)
def mark (z : Str) : Option Nat := z.cps.toList.find? isDig
theorem letters_none : (lettersN.cps.toList.all fun c => !isDig c) = true := by decide +kernel
theorem digits_are : (digitsN.cps.toList.all isDig) = true := by decide +kernel
theorem digits_nodup : digitsN.cps.toList.Nodup := by decide +kernel
theorem digits_len : digitsN.cps.toList.length = 10 := by decide +kernel
theorem letters_len : lettersN.length = 30 := by decide +kernel
theorem cut_letters (lo hi : Option Int) : ∀ c ∈ (cutS lettersN lo hi).cps.toList, isDig c = false := fun c hc => by
  have h1 : c ∈ lettersN.cps.toList := by
    have : (cutS lettersN lo hi).cps.toList = (lettersN.cps.toList.drop (HT.sIx lettersN.length 0 lo)).take (HT.sIx lettersN.length lettersN.length hi - HT.sIx lettersN.length 0 lo) := by
      unfold cutS
      simp
    rw [this] at hc
    exact List.mem_of_mem_drop (List.mem_of_mem_take hc)
  have := List.all_eq_true.mp letters_none c h1
  simpa using this
theorem cut_len (lo hi : Option Int) : (cutS lettersN lo hi).length ≤ 30 := by
  have h : (cutS lettersN lo hi).cps.toList.length ≤ 30 := by
    unfold cutS
    simp only [List.toList_toArray]
    have l : lettersN.cps.toList.length = 30 := letters_len
    rw [List.length_take, List.length_drop]
    omega
  exact h
theorem mark_of (x t : Str) (c : Nat) (hx : ∀ d ∈ x.cps.toList, isDig d = false) (hc : isDig c = true) : mark (x ++ ⟨#[c]⟩ ++ t) = some c := by
  unfold mark
  have e : (x ++ ⟨#[c]⟩ ++ t).cps.toList = x.cps.toList ++ [c] ++ t.cps.toList := by
    show ((x.cps ++ #[c]) ++ t.cps).toList = _
    simp
  rw [e, List.append_assoc, List.find?_append]
  have : x.cps.toList.find? isDig = none := List.find?_eq_none.mpr fun d hd => by rw [hx d hd]; simp
  rw [this]
  show (([c] ++ t.cps.toList).find? isDig) = some c
  simp [hc]
theorem ok_of {x : Str} (h : ∀ c ∈ x.cps.toList, c < 0x110000) : PyData.strOk x = true := by
  unfold PyData.strOk
  rw [← Array.all_toList]
  exact List.all_eq_true.mpr fun c hc => decide_eq_true (h c hc)
theorem plain_ok : (plainN.all fun x => PyData.strOk x) = true := by decide +kernel
theorem letters_low : (lettersN.cps.toList.all fun c => decide (c < 0x110000)) = true := by decide +kernel
theorem digits_low : (digitsN.cps.toList.all fun c => decide (c < 0x110000)) = true := by decide +kernel
theorem cut_low (lo hi : Option Int) : ∀ c ∈ (cutS lettersN lo hi).cps.toList, c < 0x110000 := fun c hc => by
  have h1 : c ∈ lettersN.cps.toList := by
    have : (cutS lettersN lo hi).cps.toList = (lettersN.cps.toList.drop (HT.sIx lettersN.length 0 lo)).take (HT.sIx lettersN.length lettersN.length hi - HT.sIx lettersN.length 0 lo) := by
      unfold cutS
      simp
    rw [this] at hc
    exact List.mem_of_mem_drop (List.mem_of_mem_take hc)
  exact of_decide_eq_true (List.all_eq_true.mp letters_low c h1)
theorem name_ok (lo hi lo2 hi2 : Option Int) (c : Nat) (hc : c ∈ digitsN.cps.toList) : PyData.strOk (cutS lettersN lo hi ++ ⟨#[c]⟩ ++ cutS lettersN lo2 hi2) = true := ok_of fun d hd => by
  have e : (cutS lettersN lo hi ++ ⟨#[c]⟩ ++ cutS lettersN lo2 hi2).cps.toList = (cutS lettersN lo hi).cps.toList ++ [c] ++ (cutS lettersN lo2 hi2).cps.toList := by
    show (((cutS lettersN lo hi).cps ++ #[c]) ++ (cutS lettersN lo2 hi2).cps).toList = _
    simp
  rw [e] at hd
  rcases List.mem_append.mp hd with h | h
  · rcases List.mem_append.mp h with h | h
    · exact cut_low lo hi d h
    · rw [List.mem_singleton.mp h]
      exact of_decide_eq_true (List.all_eq_true.mp digits_low c hc)
  · exact cut_low lo2 hi2 d h
theorem str_one (c : Nat) : (⟨#[c]⟩ : Str).length = 1 := rfl
theorem len_app (x y : Str) : (x ++ y).length = x.length + y.length := by
  show (x.cps ++ y.cps).size = _
  exact Array.size_append
section
variable {P : Program} {w : World} {K : PySem.W.Frag} {mg : Str → Option Value} {base : Heap}
abbrev sNames : Stmt := topS 35
abbrev nNames : List Str := ["_law_stream_here", "_law_count", "_law_shift", "_law_plain", "_law_k", "_law_letters", "_law_names_here", "_law_at_here", "_law_size", "_law_tail"]
theorem scNames : FnScope nNames ["_law_stream_here", "_law_count"] (defScope sNames) := ⟨rfl, rfl, rfl, by decide +kernel, rfl, by decide +kernel, by decide +kernel⟩
def spNames : Sp := fun vs H Q _ => ∃ (p : Addr) (m : Nat), vs = [.ref p, .int (m : Int)] ∧ Strm H p ∧ m ≤ 8 ∧
  ∀ (H' : Hp) (l : Addr) (xs : List Str), Keep p H H' → H l = none → Strm H' p → H' l = some (.lst (xs.map V.str)) → xs.Nodup → xs.length = m → (∀ x ∈ xs, PyData.strOk x = true) → Q (.ref l) H'
theorem ok_names {f fD : Addr} {fd fdD : FuncData} (F : Fun K "_law_names" "_law_names" sNames f fd) (B : Bt mg) (D : Call P w K mg base 1 "_law_next" fD fdD ["_law_stream_here", "_law_size"] spDraw) :
    FnOk P w K mg base CX0 2 f fd ["_law_stream_here", "_law_count"] spNames := by
  refine F.ok scNames (fun vs H Q E h => ?_) (fun cdv A outer s H vs Q E hr h => ?_)
  · obtain ⟨p, m, rfl, _⟩ := h
    rfl
  · obtain ⟨p, m, rfl, hp, m8, q⟩ := h
    have nd := scNames.nd
    refine ⟨_, pss_cons (ps_if (pt_cmpR op_eq (pe_call D.ok hr (by rfl) D.at_ D.kp D.bd .nil pass0 (pa_cons (pv 0) (pa_cons pe_int pa_nil))) pe_int (nomark _))
        (pss_cons (ps_set (i := 2) nd rfl (.inr rfl) (pe_call D.ok hr (by rfl) D.at_ D.kp D.bd .nil pass0 (pa_cons (pv 0) (pa_cons pe_int pa_nil))))
        (pss_cons (ps_set (i := 3) nd rfl (.inr rfl) (pe_lst (pa_cons pe_str (pa_cons pe_str (pa_cons pe_str (pa_cons pe_str (pa_cons pe_str (pa_cons pe_str (pa_cons pe_str (pa_cons pe_str pa_nil))))))))))
        (pss_one (ps_ret (pe_lc (own := [("_law_k", 4)]) (g := gName 4) (tt := tYes) rfl nd (pi_range1 (by rfl) B.range (pa_cons (pv 1) pa_nil)) (blkOk_by (N := nNames) (sc := defScope sNames) (by decide +kernel)) (fun _ _ _ _ _ => pg_name (i := 4) nd rfl (Or.inl rfl)) (fun _ _ _ _ _ => pts_nil)
          (fun _ _ _ _ _ => pe_ix (r := rIxL K) ix_list (pv 3) (pe_op op_mod (pe_callTy call_int1 (by rfl) B.int PyProof.Rows.boot_int (pa_cons (pe_op op_add (pe_op op_mul (pv 4) pe_int) (pv 2)) pa_nil)) pe_int) (fun _ _ => rfl))))))) pss_nil)
      (pss_cons (ps_set (i := 5) nd rfl (.inl rfl) pe_str)
      (pss_cons (ps_set (i := 6) nd rfl (.inl rfl) (pe_lst pa_nil))
      (pss_cons (ps_for PassesOwn.never rfl (pi_range1 (by rfl) B.range (pa_cons (pv 1) pa_nil)) (pg_name (i := 4) nd rfl (.inl rfl))
        (pss_cons (ps_set (i := 7) nd rfl (.inl rfl) (pe_call D.ok hr (by rfl) D.at_ D.kp D.bd .nil pass0 (pa_cons (pv 0) (pa_cons pe_int pa_nil))))
        (pss_cons (ps_set (i := 8) nd rfl (.inl rfl) (pe_op op_add pe_int (pe_call D.ok hr (by rfl) D.at_ D.kp D.bd .nil pass0 (pa_cons (pv 0) (pa_cons pe_int pa_nil)))))
        (pss_cons (ps_set (i := 9) nd rfl (.inl rfl) (pe_slice sl_str (pv 5) (po_some (pe_op op_sub pe_int (pe_call D.ok hr (by rfl) D.at_ D.kp D.bd .nil pass0 (pa_cons (pv 0) (pa_cons pe_int pa_nil))))) (po_some pe_int)))
        (pss_one (ps_expr (pe_bm PySem.F.plainAttrs_list PySem.F.slot_list_append PySem.F.type_list_append mt_append (pv 6) (pa_cons
          (pe_op op_add_str (pe_op op_add_str (pe_slice sl_str (pv 5) (po_some (pv 7)) (po_some (pe_op op_add (pv 7) (pv 8)))) (pe_ix ix_str pe_str (pv 4) (fun _ _ => rfl))) (pv 9)) pa_nil))))))))
      (pss_one (ps_ret (pv 6)))))), ?_⟩
    refine ⟨.ref p, rfl, p, 3, rfl, hp, by decide, by decide, fun H1 d o1 st1 d0 d1 => ⟨rfl, _, rfl, ite2 (fun c => ?_) (fun c => ?_)⟩⟩
    · -- the plain names
      refine ⟨.ref p, rfl, p, 8, rfl, st1, by decide, by decide, fun H2 s o2 st2 s0 s1 => ?_⟩
      refine ⟨by show 8 ≤ sizeLine; decide, fun pl npl => ?_⟩
      have npp : p ≠ pl := fun z => st2.some (z ▸ npl)
      have epl : (upd H2 pl (.lst (plainN.map V.str))) pl = some (.lst (plainN.map V.str)) := upd_same
      refine ⟨.int (m : Int), rfl, (m : Int), rfl, by omega, by omega, fun R nR => ?_⟩
      have fin : ∀ k : Nat, k < m → (plainN.map V.str)[(k * 3 + s.toNat) % 8]? = some (.str (plainN.getD ((k * 3 + s.toNat) % 8) "x")) := fun k hk => by
        have : (k * 3 + s.toNat) % 8 < plainN.length := Nat.mod_lt _ (by decide)
        rw [List.getElem?_map, List.getD_eq_getElem?_getD, List.getElem?_eq_getElem this]
        rfl
      refine lc_range (lo := 0) (fun i H' => Same (upd H2 pl (.lst (plainN.map V.str))) H' ∧ H' R = some (.lst (((List.range i).map fun k => plainN.getD ((k * 3 + s.toNat) % 8) "x").map V.str))) ⟨same_new nR, upd_same⟩ ?_ ?_
      · rintro i H' hi ⟨sm, eR⟩
        have hi' : i < m := by omega
        refine ⟨rfl, .ref pl, rfl, .int (0 + (i : Int)), rfl, 0 + (i : Int), 3, rfl, rfl, .inr ⟨by decide, by decide⟩, .int s, rfl, (0 + (i : Int)) * 3, s, rfl, rfl, .inl ⟨_, rfl, (0 + (i : Int)) * 3 + s, 8, rfl, rfl, ?_, ?_⟩⟩
        · show (0 : Int) < 8
          decide
        · refine ⟨pl, _, _, _, rfl, rfl, sl_map (sm _ _ epl), at_of (j := (i * 3 + s.toNat) % 8) (by omega) (fin i hi'), _, eR, ?_, same_at sm nR, ?_⟩
          · rw [List.length_map, List.length_map, List.length_range]
            exact small1000 (by omega)
          · rw [upd_same, List.range_succ, List.map_append, List.map_append]
            rfl
      · rintro H' ⟨sm, eR⟩
        have smH : Keep p H2 H' := fun b u hb e => sm _ _ (by rw [upd_ne (ne_of_none e npl)]; exact e)
        have nR2 : H2 R = none := (same_new npl).free nR
        have st' : Strm H' p := by
          obtain ⟨x, y, z, e⟩ := st2
          exact ⟨x, y, z, sm _ _ (by rw [upd_ne npp]; exact e)⟩
        refine q H' R _ ((((Keep.refl p H).oth o1).oth o2).trans smH) ((((Keep.refl p H).oth o1).oth o2).free st2 nR2) st' eR ?_ ?_ ?_
        · have h8 := List.all_eq_true.mp plain_nodup s.toNat (List.mem_range.mpr (by omega))
          have h9 := of_decide_eq_true h8
          have e8 : (List.range (m : Int).toNat) = (List.range 8).take m := by
            rw [List.take_range, show min m 8 = (m : Int).toNat by omega]
          rw [e8, List.map_take]
          exact List.Pairwise.sublist (List.take_sublist _ _) h9
        · rw [List.length_map, List.length_range]
          omega
        · intro x hx
          obtain ⟨k, _, rfl⟩ := List.mem_map.mp hx
          have lt : (k * 3 + s.toNat) % 8 < plainN.length := Nat.mod_lt _ (by decide)
          rw [List.getD_eq_getElem?_getD, List.getElem?_eq_getElem lt]
          exact List.all_eq_true.mp plain_ok _ (List.getElem_mem lt)
    · -- letters, a digit, letters
      refine ⟨Nat.zero_le _, fun l nl1 => ?_⟩
      have npl : p ≠ l := fun z => st1.some (z ▸ nl1)
      have nl : H l = none := by rw [← o1 l npl.symm]; exact nl1
      refine ⟨.int (m : Int), rfl, (m : Int), rfl, by omega, by omega, for_range (lo := 0) (n := ((m : Int)).toNat) (fun i σ H' => ∃ (y4 y7 y8 y9 : Option V) (xs : List Str), σ = [some (.ref p), some (.int (m : Int)), none, none, y4, some (.str lettersN), some (.ref l), y7, y8, y9] ∧ Keep p H H' ∧ Strm H' p ∧ H' l = some (.lst (xs.map V.str)) ∧ xs.length = i ∧ (∀ x ∈ xs, PyData.strOk x = true) ∧ ∀ j x, xs[j]? = some x → mark x = digitsN.cps.toList[j]?)
        ⟨none, none, none, none, [], rfl, ((Keep.refl p H).oth o1).at_ nl, st1.upd npl, upd_same, rfl, (fun _ h => nomatch h), fun j x h => absurd ((List.getElem?_nil (α := Str) (i := j)).symm.trans h) (by simp)⟩ ?_ ?_⟩
      · rintro i σ H' hi ⟨y4, y7, y8, y9, xs, rfl, kp, st, el, len, sok, mk⟩
        have hi' : i < m := by omega
        refine ⟨.ref p, rfl, p, 26, rfl, st, by decide, by decide, fun H2 a o2 st2 a0 a1 => ?_⟩
        refine ⟨.ref p, rfl, p, 3, rfl, st2, by decide, by decide, fun H3 b o3 st3 b0 b1 => ⟨1, b, rfl, rfl, ?_⟩⟩
        refine ⟨_, rfl, .ref p, rfl, p, 3, rfl, st3, by decide, by decide, fun H4 t o4 st4 t0 t1 => ⟨26, t, rfl, rfl, _, rfl, 26, rfl, lettersN, rfl, by decide +kernel, ?_⟩⟩
        have el4 : H4 l = some (.lst (xs.map V.str)) := by rw [o4 l npl.symm, o3 l npl.symm, o2 l npl.symm]; exact el
        have hd : i < digitsN.cps.toList.length := by rw [digits_len]; omega
        have gd : digitsN.cps.toList[i]? = some digitsN.cps.toList[i] := List.getElem?_eq_getElem hd
        refine ⟨.ref l, rfl, .inl ⟨rfl, _, sl_map el4⟩, _, rfl, .int a, rfl, a, rfl, .int a, rfl, _, rfl, a, _, rfl, rfl, _, rfl, lettersN, rfl, by decide +kernel, .int (0 + (i : Int)), rfl, digitsN, _, digitsN.cps.toList[i], rfl, rfl, by decide +kernel, (by rw [show (0 : Int) + (i : Int) = ((i : Nat) : Int) by omega]; exact atI_nat gd), _, _, rfl, rfl, ?_, _, rfl, _, _, rfl, rfl, ?_, l, _, _, rfl, rfl, el4, ?_, ?_⟩
        · exact by have := cut_len (some a) (some (a + (1 + b))); rw [str_one]; exact Nat.le_trans (Nat.add_le_add_right this 1) (by decide)
        · exact by have := cut_len (some a) (some (a + (1 + b))); have h2 := cut_len (some (26 - t)) (some 26); rw [len_app, str_one]; exact Nat.le_trans (Nat.add_le_add (Nat.add_le_add_right this 1) h2) (by decide)
        · rw [List.length_map]
          exact small1000 (by omega)
        · have dg : isDig digitsN.cps.toList[i] = true := List.all_eq_true.mp digits_are _ (List.getElem_mem hd)
          refine ⟨_, _, _, _, xs ++ [cutS lettersN (some a) (some (a + (1 + b))) ++ ⟨#[digitsN.cps.toList[i]]⟩ ++ cutS lettersN (some (26 - t)) (some 26)], rfl, (((kp.oth o2).oth o3).oth o4).at_ nl, st4.upd npl, ?_, ?_, ?_, ?_⟩
          · rw [upd_same, List.map_append]
            rfl
          · rw [List.length_append, len]
            rfl
          · intro x hx
            rcases List.mem_append.mp hx with h | h
            · exact sok x h
            · rw [List.mem_singleton.mp h]
              exact name_ok _ _ _ _ _ (List.getElem_mem hd)
          · intro j x hj
            rcases Nat.lt_or_ge j i with c | c
            · rw [List.getElem?_append_left (by omega)] at hj
              exact mk j x hj
            · rw [List.getElem?_append_right (by omega)] at hj
              have ej : j = i := by
                have := (List.getElem?_eq_some_iff.mp hj).1
                rw [List.length_singleton] at this
                omega
              subst ej
              rw [show j - xs.length = 0 by omega] at hj
              have : _ = x := Option.some.inj hj
              rw [← this, gd]
              exact mark_of _ _ _ (cut_letters _ _) dg
      · rintro σ H' ⟨y4, y7, y8, y9, xs, rfl, kp, st, el, len, sok, mk⟩
        refine ⟨_, rfl, q H' l xs kp nl st el ?_ (by omega) sok⟩
        refine List.pairwise_iff_getElem.mpr fun j k hj hk hjk he => ?_
        have e1 := mk j _ (List.getElem?_eq_getElem hj)
        have e2 := mk k _ (List.getElem?_eq_getElem hk)
        rw [he] at e1
        have hk' : k < digitsN.cps.toList.length := by rw [digits_len]; omega
        have hj' : j < digitsN.cps.toList.length := by rw [digits_len]; omega
        have e3 := e1.symm.trans e2
        rw [List.getElem?_eq_getElem hj', List.getElem?_eq_getElem hk'] at e3
        exact List.pairwise_iff_getElem.mp digits_nodup j k hj' hk' hjk (Option.some.inj e3)
end
section
variable {P : Program} {w : World} {K : PySem.W.Frag} {mg : Str → Option Value} {base : Heap}
/-! ### a copy, by a loop -/
abbrev nCopied : List Str := ["_law_sides", "_law_copied_here", "_law_name"]
theorem Nb.nil {H H' : Hp} {D : Addr} (n : H D = none) (h : H' D = some (.dK [])) : Nb H H' D [] := ⟨⟨⟨.inl h, (fun _ he => nomatch he), .nil, Nat.zero_le _⟩, h⟩, n, (fun _ he => nomatch he), .nil⟩
theorem shape_len {L M : List Ent} (h : shape L = shape M) : L.length = M.length := by have := congrArg List.length h; simpa [shape] using this
theorem shape_take {L M : List Ent} {i : Nat} {e : Ent} {l : Addr} (h : shape M = shape (L.take i)) (he : L[i]? = some e) : shape (M ++ [(e.1, l, e.2.2)]) = shape (L.take (i + 1)) := by
  rw [List.take_add_one, he]
  unfold shape at h ⊢
  rw [List.map_append, List.map_append, h]
  rfl
/-! ### _law_holds, _law_within, _law_is -/
end
theorem Nb.alias {H0 H : Hp} {d l : Addr} {M : List Ent} {x : Str} {s : List Int} (N : Nb H0 H d M) (n0 : H0 l = none) (el : H l = some (.lst (s.map V.int))) (nx : x ∉ M.map (·.1)) (nl : l ∉ M.map (·.2.1)) (few : M.length + 1 ≤ 40) :
    Nb H0 (upd H d (.dK (entK (M ++ [(x, l, s)])))) d (M ++ [(x, l, s)]) := by
  have ld : ∀ {c : Addr} {ys : List V}, H c = some (.lst ys) → c ≠ d := fun h z => by rw [z, N.un] at h; cases h
  refine ⟨⟨⟨.inl upd_same, fun e he => ?_, ?_, by rw [List.length_append]; exact few⟩, upd_same⟩, N.fresh, fun e he => ?_, ?_⟩
  · rcases List.mem_append.mp he with z | z
    · have h1 := N.sides e z
      rw [upd_ne (ld h1)]
      exact h1
    · rw [List.mem_singleton.mp z, upd_ne (ld el)]
      exact el
  · rw [List.map_append]
    exact nd_snoc N.nd nx
  · rcases List.mem_append.mp he with z | z
    · exact N.freshS e z
    · rw [List.mem_singleton.mp z]; exact n0
  · rw [List.map_append]
    exact nd_snoc N.inj nl
theorem Nb.unl' {H0 H' : Hp} {b d : Addr} {u : HO} {M : List Ent} {od : Obj} (N : Nb H0 H' d M) (eF : H' b = some (.frz od u)) : Nb H0 (upd H' b u) d M := by
  have db : d ≠ b := fun z => by have := N.un; rw [z, eF] at this; cases this
  have away : ∀ g ∈ M, g.2.1 ≠ b := fun g hg z => by have := N.sides g hg; rw [z, eF] at this; cases this
  exact ⟨⟨⟨.inl (by rw [upd_ne db]; exact N.un), fun g hg => by rw [upd_ne (away g hg)]; exact N.sides g hg, N.nd, N.few⟩, by rw [upd_ne db]; exact N.un⟩, N.fresh, N.freshS, N.inj⟩
section
variable {P : Program} {w : World} {K : PySem.W.Frag} {mg : Str → Option Value} {base : Heap}
end
/-- all that was there, but what stands at one of these -/
def KeepL (as : List Addr) (H H' : Hp) : Prop := ∀ b o, b ∉ as → H b = some o → H' b = some o
theorem KeepL.refl (as : List Addr) (H : Hp) : KeepL as H H := fun _ _ _ e => e
theorem KeepL.same {as : List Addr} {H H1 H2 : Hp} (k : KeepL as H H1) (s : Same H1 H2) : KeepL as H H2 := fun b o h e => s _ _ (k b o h e)
theorem KeepL.trans {as : List Addr} {H H1 H2 : Hp} (k : KeepL as H H1) (s : KeepL as H1 H2) : KeepL as H H2 := fun b o h e => s b o h (k b o h e)
abbrev big : Int := 10 ^ (13 : Int).toNat
def grown (ks : List Str) (e : Ent) : List Int := if e.1 ∈ ks then e.2.2 ++ [big] else e.2.2
theorem SameB.get {L M : List Ent} (s : SameB L M) {e : Ent} (nd : (M.map (·.1)).Nodup) (h : e ∈ M) : ∃ t ∈ L, t.1 = e.1 ∧ t.2.2 = e.2.2 ∧ getE L e.1 = some t := by
  have q := s e.1
  rw [look_mem nd h] at q
  unfold look at q
  obtain ⟨t, ht, eq⟩ := Option.map_eq_some_iff.mp q
  obtain ⟨m1, m2⟩ := getE_mem ht
  exact ⟨t, m1, m2, eq, ht⟩
theorem inj_eq {L : List Ent} (nd : (L.map (·.2.1)).Nodup) {e g : Ent} (he : e ∈ L) (hg : g ∈ L) (h : e.2.1 = g.2.1) : e = g := by
  obtain ⟨i, hi⟩ := List.mem_iff_getElem?.mp he
  obtain ⟨j, hj⟩ := List.mem_iff_getElem?.mp hg
  have a1 : (L.map (·.2.1))[i]? = some e.2.1 := by rw [List.getElem?_map, hi]; rfl
  have a2 : (L.map (·.2.1))[j]? = some e.2.1 := by rw [List.getElem?_map, hj, h]; rfl
  have := nd_ix nd a1 a2
  subst this
  exact Option.some.inj (hi.symm.trans hj)
theorem key_eq {L : List Ent} (nd : (L.map (·.1)).Nodup) {e g : Ent} (he : e ∈ L) (hg : g ∈ L) (h : e.1 = g.1) : e = g := by
  have a := getE_of nd he
  rw [h, getE_of nd hg] at a
  exact (Option.some.inj a).symm
section
variable {P : Program} {w : World} {K : PySem.W.Frag} {mg : Str → Option Value} {base : Heap}
abbrev nLNew : List Str := ["_law_told", "_law_expected", "_law_name"]
def spLNew : Sp := fun vs H Q _ => ∃ (t e : Addr) (T E : List Ent), vs = [.ref t, .ref e] ∧ Bu H t T ∧ (T.map (·.2.1)).Nodup ∧ Bu H e E ∧ SameB T E ∧ (∀ x ∈ E, x.2.1 ∉ T.map (·.2.1)) ∧ t ≠ e ∧ (∀ x ∈ E, x.2.2.length ≤ 100) ∧
  ∀ H', KeepL (T.map (·.2.1)) H H' → Q (.bl true) H'
end
section
variable {P : Program} {w : World} {K : PySem.W.Frag} {mg : Str → Option Value} {base : Heap}
abbrev nSame : List Str := ["_law_actual", "_law_expected", "_law_found", "_law_name"]
def spSame : Sp := fun vs H Q _ => ∃ (a e : Addr) (M E : List Ent), vs = [.ref a, .ref e] ∧ Bu H a M ∧ Bu H e E ∧ SameB M E ∧ (∀ g ∈ M, Srt g.2.2 ∧ g.2.2.length ≤ 1000) ∧ ∀ H', Same H H' → Q (.bl true) H'
end
theorem cutV_to (xs : List V) (j : Nat) : cutV xs none (some (j : Int)) = xs.take j := by
  unfold cutV
  rw [HT.sIx_none, HT.sIx_nat, List.drop_zero, Nat.sub_zero]
  by_cases h : j ≤ xs.length
  · rw [Nat.min_eq_left h]
  · rw [Nat.min_eq_right (by omega), List.take_of_length_le (Nat.le_refl _), List.take_of_length_le (by omega)]
theorem cutV_from (xs : List V) (j : Nat) : cutV xs (some (j : Int)) none = xs.drop j := by
  unfold cutV
  rw [HT.sIx_none, HT.sIx_nat]
  by_cases h : j ≤ xs.length
  · rw [Nat.min_eq_left h, List.take_of_length_le (by rw [List.length_drop]; exact Nat.le_refl _)]
  · rw [Nat.min_eq_right (by omega), List.drop_length, List.drop_of_length_le (by omega)]
    simp
theorem Nb.keep {H0 H H' : Hp} {p d : Addr} {M : List Ent} (N : Nb H0 H d M) (hp : H0 p ≠ none) (k : Keep p H H') : Nb H0 H' d M := by
  have pd : d ≠ p := fun z => hp (z ▸ N.fresh)
  have away : ∀ g ∈ M, g.2.1 ≠ p := fun g hg z => hp (z ▸ N.freshS g hg)
  exact ⟨⟨⟨.inl (k _ _ pd N.un), fun g hg => k _ _ (away g hg) (N.sides g hg), N.nd, N.few⟩, k _ _ pd N.un⟩, N.fresh, N.freshS, N.inj⟩
theorem Bu.keep {H H' : Hp} {p d : Addr} {M : List Ent} (N : Bu H d M) (s : Strm H p) (k : Keep p H H') (away : ∀ g ∈ M, g.2.1 ≠ p) : Bu H' d M := by
  have pd : d ≠ p := fun z => by
    obtain ⟨x, y, w, e⟩ := s
    have := N.un
    rw [z, e] at this
    cases this
  exact ⟨⟨.inl (k _ _ pd N.un), fun g hg => k _ _ (away g hg) (N.sides g hg), N.nd, N.few⟩, k _ _ pd N.un⟩
theorem with_rest2 {R : Hp → Prop} {G : Prop} (C : Hp → Prop) (r : ∀ H, C H → R H) (g : (∀ H, C H → R H) → G) : G := g r
section
variable {P : Program} {w : World} {K : PySem.W.Frag} {mg : Str → Option Value} {base : Heap}
end
theorem with_rest {R G : Prop} (r : R) (g : R → G) : G := g r
theorem Bu.aput {H : Hp} {d l : Addr} {M : List Ent} {x : Str} {s : List Int} (B : Bu H d M) (el : H l = some (.lst (s.map V.int))) (few : M.length + 1 ≤ 40) : Bu (upd H d (.dK (entK (putE M x l s)))) d (putE M x l s) := by
  have ld : ∀ {c : Addr} {ys : List V}, H c = some (.lst ys) → c ≠ d := fun h z => by rw [z, B.un] at h; cases h
  refine ⟨⟨.inl upd_same, fun e he => ?_, putE_nd B.nd, by have := putE_len M x l s; omega⟩, upd_same⟩
  rcases putE_mem he with z | ⟨z, _⟩
  · rw [z, upd_ne (ld el)]
    exact el
  · have h1 := B.sides e z
    rw [upd_ne (ld h1)]
    exact h1
section
variable {P : Program} {w : World} {K : PySem.W.Frag} {mg : Str → Option Value} {base : Heap}
end
theorem small10k {n : Nat} (h : n ≤ 10000) : n < sizeLine := Nat.lt_of_le_of_lt h (by decide)
section
variable {P : Program} {w : World} {K : PySem.W.Frag} {mg : Str → Option Value} {base : Heap}
end
/-! ### equal boxes, deep -/
theorem paired_flat {K : PySem.W.Frag} {H : Hp} {n : Nat} : ∀ xs : List V, (∀ x ∈ xs, flatB x = true) → Paired (EqV K H (n + 1)) xs xs
  | [], _ => .nil
  | x :: xs, h => .cons (.inl ⟨rfl, h x List.mem_cons_self⟩) (paired_flat xs fun y hy => h y (List.mem_cons_of_mem _ hy))
theorem eqL {K : PySem.W.Frag} {H : Hp} {a b : Addr} {ns : List Int} (ha : H a = some (.lst (ns.map V.int))) (hb : H b = some (.lst (ns.map V.int))) : EqV K H 2 (.ref a) (.ref b) :=
  .inr (.inr (.inl ⟨a, b, _, _, rfl, rfl, sl_map ha, sl_map hb, paired_flat _ fun x hx => by obtain ⟨k, _, rfl⟩ := List.mem_map.mp hx; rfl⟩))
theorem eqB {K : PySem.W.Frag} {H : Hp} {d e : Addr} {M X : List Ent} (bd : Bu H d M) (be : Bu H e X) (s : SameB M X) : EqR K H (EqV K H 2) (.ref d) (.ref e) := by
  refine .inr ⟨d, e, _, _, rfl, rfl, bd.un, be.un, by rw [entK_len, entK_len]; exact s.len bd.nd be.nd, fun p hp => ?_⟩
  unfold entK at hp
  obtain ⟨g, hg, rfl⟩ := List.mem_map.mp hp
  have s' : SameB X M := fun x => (s x).symm
  obtain ⟨t, tm, t1, t2, t3⟩ := s'.get bd.nd hg
  refine ⟨.ref t.2.1, ?_, ?_⟩
  · show valV (entK X) (Sum.inr g.1) = _
    rw [valV_ent, t3]
    rfl
  · have h1 := be.sides t tm
    rw [t2] at h1
    exact eqL (bd.sides g hg) h1
theorem shape_same {L M : List Ent} (h : shape L = shape M) : SameB L M := look_shape h
theorem Sz.look {L : List Ent} {n : Nat} (z : Sz L n) {x : Str} {s : List Int} (h : look L x = some s) : Srt s ∧ s.length ≤ n := by
  obtain ⟨e, em, _, rfl⟩ := look_of h
  exact ⟨z.srt e em, z.len e em⟩
theorem sides_ok {M : List Ent} {n : Nat} (nd : (M.map (·.1)).Nodup) (f : Str → Option (List Int)) (h : ∀ x, look M x = f x) (ok : ∀ x s, f x = some s → Srt s ∧ s.length ≤ n) : Sz M n :=
  ⟨fun e he => (ok e.1 _ ((h e.1).symm.trans (look_mem nd he))).1, fun e he => (ok e.1 _ ((h e.1).symm.trans (look_mem nd he))).2⟩
theorem Sz.shape {L M : List Ent} {n : Nat} (z : Sz L n) (h : shape M = shape L) : Sz M n := by
  have q : ∀ e ∈ M, ∃ g ∈ L, g.2.2 = e.2.2 := fun e he => by
    have : (e.1, e.2.2) ∈ K3.shape L := h ▸ List.mem_map_of_mem (f := fun e : Ent => (e.1, e.2.2)) he
    obtain ⟨g, hg, eq⟩ := List.mem_map.mp this
    exact ⟨g, hg, (Prod.mk.inj eq).2⟩
  refine ⟨fun e he => ?_, fun e he => ?_⟩
  · obtain ⟨g, hg, eq⟩ := q e he
    exact eq ▸ z.srt g hg
  · obtain ⟨g, hg, eq⟩ := q e he
    exact eq ▸ z.len g hg
/-- what a change of fresh sides leaves -/
theorem keepL_same {H0 H1 H2 : Hp} {as : List Addr} (s : Same H0 H1) (k : KeepL as H1 H2) (f : ∀ a ∈ as, H0 a = none) : Same H0 H2 := fun b o e => k b o (fun z => by rw [f b z] at e; cases e) (s _ _ e)
theorem Bu.keepL {H H' : Hp} {d : Addr} {M : List Ent} {as : List Addr} (B : Bu H d M) (k : KeepL as H H') (h1 : d ∉ as) (h2 : ∀ e ∈ M, e.2.1 ∉ as) : Bu H' d M :=
  ⟨⟨.inl (k _ _ h1 B.un), fun e he => k _ _ (h2 e he) (B.sides e he), B.nd, B.few⟩, k _ _ h1 B.un⟩
theorem not_side {H : Hp} {d : Addr} {as : List Addr} (n : H d = none) (sd : ∀ a ∈ as, H a ≠ none) : d ∉ as := fun z => sd d z n
theorem side_some {H : Hp} {M : List Ent} (sd : ∀ e ∈ M, H e.2.1 = some (.lst (e.2.2.map V.int))) : ∀ a ∈ M.map (·.2.1), H a ≠ none := fun a ha z => by
  obtain ⟨e, he, rfl⟩ := List.mem_map.mp ha
  have := sd e he
  rw [z] at this
  cases this
section
variable {P : Program} {w : World} {K : PySem.W.Frag} {mg : Str → Option Value} {base : Heap}
end
/-! ### what the meet and the join hold -/
theorem Sz.mono {L : List Ent} {n m : Nat} (z : Sz L n) (h : n ≤ m) : Sz L m := ⟨z.srt, fun e he => Nat.le_trans (z.len e he) h⟩
theorem sq_keep {K : PySem.W.Frag} {H H' : Hp} {a p : Addr} {xs : List V} (h : SqL K H a xs) (np : H p = none) (k : Keep p H H') : SqL K H' a xs := by
  have ap : ∀ o, H a = some o → a ≠ p := fun o e z => by rw [z, np] at e; cases e
  rcases h with (h | ⟨o, h⟩) | h
  · exact .inl (.inl (k _ _ (ap _ h) h))
  · exact .inl (.inr ⟨o, k _ _ (ap _ h) h⟩)
  · exact .inr h
/-! ### domains: a list of pairs of a name and a side -/
abbrev DomE := Addr × Ent
structure Doms (H : Hp) (l : Addr) (ds : List DomE) : Prop where
  lst : H l = some (.lst (ds.map fun d => V.ref d.1))
  tup : ∀ d ∈ ds, H d.1 = some (.tup [V.str d.2.1, V.ref d.2.2.1])
  side : ∀ d ∈ ds, H d.2.2.1 = some (.lst (d.2.2.2.map V.int))
theorem Doms.same {H H' : Hp} {l : Addr} {ds : List DomE} (D : Doms H l ds) (s : Same H H') : Doms H' l ds := ⟨s _ _ D.lst, fun d h => s _ _ (D.tup d h), fun d h => s _ _ (D.side d h)⟩
theorem Srt.sub {a b : List Int} (s : Srt b) (h : a.Sublist b) : Srt a := List.Pairwise.sublist h s
theorem Doms.keep {H H' : Hp} {p l : Addr} {ds : List DomE} (D : Doms H l ds) (k : Keep p H H') (hl : l ≠ p) (h : ∀ d ∈ ds, d.1 ≠ p ∧ d.2.2.1 ≠ p) : Doms H' l ds :=
  ⟨k _ _ hl D.lst, fun d hd => k _ _ (h d hd).1 (D.tup d hd), fun d hd => k _ _ (h d hd).2 (D.side d hd)⟩
theorem refs_ints {ds : List DomE} {ns : List Int} (h : (ds.map fun d => V.ref d.1) = ns.map V.int) : ds = [] := by
  cases ds with
  | nil => rfl
  | cons d ds =>
    cases ns with
    | nil => cases h
    | cons n ns =>
      rw [List.map_cons, List.map_cons] at h
      cases (List.cons.inj h).1
/-- a pair more -/
theorem Doms.snoc {H : Hp} {l T Z : Addr} {ds : List DomE} {x : Str} {zs : List Int} (D : Doms H l ds) (hT : H T = some (.tup [V.str x, V.ref Z])) (hZ : H Z = some (.lst (zs.map V.int))) (nZ : Z ≠ l) :
    Doms (upd H l (.lst ((ds.map fun d => V.ref d.1) ++ [V.ref T]))) l (ds ++ [(T, x, Z, zs)]) := by
  have tl : ∀ {c : Addr} {vs : List V}, H c = some (.tup vs) → c ≠ l := fun h z => by rw [z, D.lst] at h; cases h
  refine ⟨by rw [upd_same, List.map_append]; rfl, fun d hd => ?_, fun d hd => ?_⟩
  · rcases List.mem_append.mp hd with h | h
    · rw [upd_ne (tl (D.tup d h))]
      exact D.tup d h
    · rw [List.mem_singleton.mp h, upd_ne (tl hT)]
      exact hT
  · rcases List.mem_append.mp hd with h | h
    · have q := D.side d h
      have : d.2.2.1 ≠ l := fun z => by
        rw [z, D.lst] at q
        have e := refs_ints (HO.lst.inj (Option.some.inj q))
        rw [e] at h
        cases h
      rw [upd_ne this]
      exact q
    · rw [List.mem_singleton.mp h, upd_ne nZ]
      exact hZ
theorem with_restA {α : Type} {R : α → Hp → Prop} {G : Prop} (C : α → Hp → Prop) (r : ∀ a H, C a H → R a H) (g : (∀ a H, C a H → R a H) → G) : G := g r
section
variable {P : Program} {w : World} {K : PySem.W.Frag} {mg : Str → Option Value} {base : Heap}
abbrev sDoms : Stmt := topS 37
abbrev nDoms : List Str := ["_law_stream_here", "_law_names_here", "_law_pool_here", "_law_most", "_law_domains_here", "_law_name", "_law_side", "_law_value"]
theorem scDoms : FnScope nDoms ["_law_stream_here", "_law_names_here", "_law_pool_here", "_law_most"] (defScope sDoms) := ⟨rfl, rfl, rfl, by decide +kernel, rfl, by decide +kernel, by decide +kernel⟩
def spDoms : Sp := fun vs H Q _ => ∃ (p nm pl : Addr) (xs : List Str) (ns : List Int) (m : Nat), vs = [.ref p, .ref nm, .ref pl, .int (m : Int)] ∧ Strm H p ∧ H nm = some (.lst (xs.map V.str)) ∧ H pl = some (.lst (ns.map V.int)) ∧ p ≠ nm ∧ p ≠ pl ∧ Srt ns ∧ 1 ≤ ns.length ∧ ns.length ≤ 100 ∧ xs.length ≤ 100 ∧
  ∀ (H' : Hp) (l : Addr) (ds : List DomE), Keep p H H' → H l = none → Strm H' p → Doms H' l ds → ds.map (·.2.1) = xs → (∀ d ∈ ds, Srt d.2.2.2 ∧ d.2.2.2.length ≤ max m 1 ∧ H d.1 = none ∧ H d.2.2.1 = none ∧ ∀ v ∈ d.2.2.2, v ∈ ns) → (ds.map (·.2.2.1)).Nodup → Q (.ref l) H'
theorem ok_doms {f fD : Addr} {fd fdD : FuncData} (F : Fun K "_law_domains" "_law_domains" sDoms f fd) (B : Bt mg) (D : Call P w K mg base 1 "_law_next" fD fdD ["_law_stream_here", "_law_size"] spDraw) :
    FnOk P w K mg base CX0 2 f fd ["_law_stream_here", "_law_names_here", "_law_pool_here", "_law_most"] spDoms := by
  refine F.ok scDoms (fun vs H Q E h => ?_) (fun cdv A outer s H vs Q E hr h => ?_)
  · obtain ⟨p, nm, pl, xs, ns, m, rfl, _⟩ := h
    rfl
  · obtain ⟨p, nm, pl, xs, ns, m, rfl, hp, enm, epl, pnm, ppl, so, n1, nl, xl, q⟩ := h
    have nd := scDoms.nd
    refine ⟨_, pss_cons (ps_set (i := 4) nd rfl (.inl rfl) (pe_lst pa_nil))
      (pss_cons (ps_for PassesOwn.never rfl (pi_list (pv 1)) (pg_name (i := 5) nd rfl (.inl rfl))
        (pss_cons (ps_set (i := 6) nd rfl (.inl rfl) (pe_slice sl_list (pe_lc (own := [("_law_value", 7)]) (g := gName 7) (te := tVar 7) rfl nd (pi_list (pv 2)) (blkOk_by (N := nDoms) (sc := defScope sDoms) (by decide +kernel)) (fun _ _ _ _ _ => pg_name (i := 7) nd rfl (Or.inl rfl))
            (fun _ _ _ _ _ => pts_one (pt_cmpR op_gt (pe_call D.ok hr (by rfl) D.at_ D.kp D.bd .nil pass0 (pa_cons (pv 0) (pa_cons pe_int pa_nil))) pe_int (nomark _))) (fun _ _ _ _ _ => pv 7)) po_none (po_some (pv 3))))
        (pss_cons (ps_if (pt_cmpR op_eq (pe_callB call_len_seq (by rfl) B.len PySem.boot_len (pa_cons (pv 6) pa_nil)) pe_int rfl)
          (pss_one (ps_set (i := 6) nd rfl (.inl rfl) (pe_lst (pa_cons (pe_ix ix_list (pv 2) (pe_call D.ok hr (by rfl) D.at_ D.kp D.bd .nil pass0 (pa_cons (pv 0) (pa_cons (pe_callB call_len_seq (by rfl) B.len PySem.boot_len (pa_cons (pv 2) pa_nil)) pa_nil))) (fun _ _ => rfl)) pa_nil)))) pss_nil)
        (pss_one (ps_expr (pe_bm PySem.F.plainAttrs_list PySem.F.slot_list_append PySem.F.type_list_append mt_append (pv 4) (pa_cons (pe_tup (pa_cons (pv 5) (pa_cons
          (pe_slice sl_list (pv 6) po_none (po_some (pe_op op_mul (pe_callB call_len_seq (by rfl) B.len PySem.boot_len (pa_cons (pv 6) pa_nil))
            (pe_callTy call_int1 (by rfl) B.int PyProof.Rows.boot_int (pa_cons (pe_cmpR op_ne (pe_call D.ok hr (by rfl) D.at_ D.kp D.bd .nil pass0 (pa_cons (pv 0) (pa_cons pe_int pa_nil))) pe_int (nomark _)) pa_nil))))) pa_nil))) pa_nil)))))))
      (pss_one (ps_ret (pv 4)))), ?_⟩
    refine ⟨by show 0 ≤ sizeLine; decide, fun l nl0 => ?_⟩
    have npl : p ≠ l := fun z => hp.some (z ▸ nl0)
    have hpn : H p ≠ none := hp.some
    refine ⟨.ref nm, rfl, nm, rfl, ⟨_, sl_map (same_new nl0 _ _ enm)⟩, for_list (xs := xs.map V.str) (fun i σ H' => ∃ (ds : List DomE) (y5 y6 : Option V), σ = [some (.ref p), some (.ref nm), some (.ref pl), some (.int (m : Int)), some (.ref l), y5, y6, none] ∧ Keep p H H' ∧ Strm H' p ∧ Doms H' l ds ∧ ds.map (·.2.1) = xs.take i ∧ (∀ d ∈ ds, Srt d.2.2.2 ∧ d.2.2.2.length ≤ max m 1 ∧ H d.1 = none ∧ H d.2.2.1 = none ∧ ∀ v ∈ d.2.2.2, v ∈ ns) ∧ (ds.map (·.2.2.1)).Nodup)
      ⟨[], none, none, rfl, (Keep.refl p H).at_ nl0, hp.upd npl, ⟨upd_same, (fun _ h => nomatch h), (fun _ h => nomatch h)⟩, rfl, (fun _ h => nomatch h), List.Pairwise.nil⟩ (fun i σ H' _ h => by obtain ⟨ds, y5, y6, _, k, _⟩ := h; exact sl_map (k _ _ pnm.symm enm)) ?_ ?_⟩
    · rintro i x σ H' hx ⟨ds, y5, y6, rfl, kp, st, dm, keys, ok, inj⟩
      rw [List.getElem?_map] at hx
      obtain ⟨x, hv, rfl⟩ := Option.map_eq_some_iff.mp hx
      have hi := (List.getElem?_eq_some_iff.mp hv).1
      have ld : ds.length = i := by
        have := congrArg List.length keys
        rw [List.length_map, List.length_take] at this
        omega
      have er : H' pl = some (.lst (ns.map V.int)) := kp _ _ ppl.symm epl
      refine ⟨.ref pl, rfl, pl, rfl, ⟨_, sl_map er⟩, fun R nR => ?_⟩
      have npR : p ≠ R := fun z => st.some (z ▸ nR)
      have apart : ∀ d ∈ ds, d.1 ≠ p ∧ d.2.2.1 ≠ p := fun d hd => ⟨fun z => hpn (z ▸ (ok d hd).2.2.1), fun z => hpn (z ▸ (ok d hd).2.2.2.1)⟩
      refine lc_list (xs := ns.map V.int) (fun j H1 => Keep p H' H1 ∧ Strm H1 p ∧ ∃ ms : List Int, H1 R = some (.lst (ms.map V.int)) ∧ ms.Sublist (ns.take j)) ?_ ?_ ?_ ?_
      · exact ⟨(Keep.refl p H').at_ nR, st.upd npR, [], upd_same, List.Sublist.refl _⟩
      · rintro j H1 _ ⟨k, _⟩
        exact sl_map (k _ _ ppl.symm er)
      · rintro j v H1 hv1 ⟨k1, st1, ms, eR, sub⟩
        rw [List.getElem?_map] at hv1
        obtain ⟨v, hv2, rfl⟩ := Option.map_eq_some_iff.mp hv1
        have hj := (List.getElem?_eq_some_iff.mp hv2).1
        have len := sub.length_le
        rw [List.length_take] at len
        refine ⟨rfl, .ref p, rfl, p, 4, rfl, st1, by decide, by decide, fun H2 e o2 st2 e0 e1 => ?_⟩
        refine ⟨e, 0, rfl, rfl, _, rfl, ?_⟩
        have eR2 : H2 R = some (.lst (ms.map V.int)) := (o2 R npR.symm).trans eR
        have tk : ns.take (j + 1) = ns.take j ++ [v] := by rw [List.take_add_one, hv2]; rfl
        refine ite2 (fun _ => ?_) (fun _ => ?_)
        · refine ⟨.int v, rfl, _, eR2, ?_, fun b o hb e => ?_, st2.upd npR, ms ++ [v], by rw [upd_same, List.map_append]; rfl, by rw [tk]; exact sub.append (List.Sublist.refl _)⟩
          · rw [List.length_map]
            exact small1000 (by omega)
          · have : b ≠ R := fun z => by rw [z, nR] at e; cases e
            rw [upd_ne this]
            exact (k1.oth o2) b o hb e
        · exact ⟨k1.oth o2, st2, ms, eR2, by rw [tk]; exact sub.trans (List.sublist_append_left _ _)⟩
      · rintro H1 ⟨k1, st1, ms, eR, sub⟩
        rw [List.length_map, List.take_length] at sub
        have K1 : Keep p H H1 := kp.trans k1
        have nR0 : H R = none := kp.free st nR
        have dm1 : Doms H1 l ds := dm.keep k1 npl.symm apart
        refine' with_restA (fun S' H3 => ∃ ts : List Int, Keep p H H3 ∧ Strm H3 p ∧ Doms H3 l ds ∧ H3 S' = some (.lst (ts.map V.int)) ∧ H S' = none ∧ Srt ts ∧ ts.length ≤ max m 1 ∧ ts.length ≤ 100 ∧ ∀ v ∈ ts, v ∈ ns) ?r (fun rest => ⟨_, rfl, _, rfl, R, _, rfl, sl_map eR, fun S nS => ?k⟩)
        case' k =>
          have ec : cutV (ms.map V.int) none (some (m : Int)) = (ms.take m).map V.int := by rw [cutV_to, List.map_take]
          rw [ec]
          have sS := same_new (o := HO.lst ((ms.take m).map V.int)) nS
          have npS : p ≠ S := fun z => st1.some (z ▸ nS)
          have subS : (ms.take m).Sublist ns := (List.take_sublist m ms).trans sub
          have er2 : (upd H1 S (HO.lst ((ms.take m).map V.int))) pl = some (.lst (ns.map V.int)) := sS _ _ (k1 _ _ ppl.symm er)
          have eS0 := upd_same (H := H1) (a := S) (o := HO.lst ((ms.take m).map V.int))
          have stS := st1.upd (o := HO.lst ((ms.take m).map V.int)) npS
          have dmS := dm1.same sS
          have KS := K1.at_ (o := HO.lst ((ms.take m).map V.int)) (K1.free st1 nS)
          have nS0 : H S = none := K1.free st1 nS
          generalize upd H1 S (HO.lst ((ms.take m).map V.int)) = G1 at er2 eS0 stS dmS KS ⊢
          clear sS
          refine ⟨.ref S, rfl, S, _, rfl, .inl (sl_map eS0), rfl, _, rfl, ite2 (fun c => ?g) (fun c => rest S G1 ?h)⟩
          case h =>
            refine ⟨ms.take m, KS, stS, dmS, eS0, nS0, so.sub subS, ?_, ?_, fun v hv => subS.subset hv⟩
            · rw [List.length_take]; omega
            · have := subS.length_le; omega
          case g =>
            refine ⟨.ref pl, rfl, .ref p, rfl, .ref pl, rfl, pl, _, rfl, .inl (sl_map er2), p, _, rfl, stS, ?_, ?_, fun H2 e o2 st2 e0 e1 => ?_⟩
            · rw [List.length_map]; omega
            · rw [List.length_map]; omega
            rw [List.length_map] at e1
            obtain ⟨e, rfl⟩ : ∃ n : Nat, e = (n : Int) := ⟨e.toNat, by omega⟩
            have he : e < ns.length := by omega
            have ge : (ns.map V.int)[e]? = some (.int ns[e]) := by rw [List.getElem?_map, List.getElem?_eq_getElem he]; rfl
            have er3 : H2 pl = some (.lst (ns.map V.int)) := (o2 pl ppl.symm).trans er2
            have K2 : Keep p H H2 := KS.oth o2
            have dm2 : Doms H2 l ds := dmS.keep ((Keep.refl p _).oth o2) npl.symm apart
            refine ⟨pl, _, _, .int ns[e], rfl, rfl, sl_map er3, atI_nat (j := e) ge, by show 1 ≤ sizeLine; decide, fun Z nZ => rest Z _ ⟨[ns[e]], K2.at_ (K2.free st2 nZ), st2.upd (fun z => st2.some (z ▸ nZ)), dm2.same (same_new nZ), upd_same, K2.free st2 nZ, List.pairwise_singleton _ _, by show 1 ≤ max m 1; omega, by show 1 ≤ 100; omega, fun v hv => ?_⟩⟩
            rw [List.mem_singleton.mp hv]
            exact List.getElem_mem he
        case r =>
          rintro S' H3 ⟨ts, K3, st3, dm3, eS, nS', soT, l1, l2, mem⟩
          have npS' : p ≠ S' := fun z => hpn (z ▸ nS')
          refine ⟨.ref l, rfl, .inl ⟨rfl, _, sl_map dm3.lst⟩, .str x, rfl, .ref S', rfl, .ref S', rfl, S', _, rfl, .inl (sl_map eS), .ref p, rfl, p, 60, rfl, st3, by decide, by decide, fun H4 e o4 st4 e0 e1 => ?_⟩
          have eS4 : H4 S' = some (.lst (ts.map V.int)) := (o4 S' npS'.symm).trans eS
          have tail : ∀ (b : Bool), -(2 ^ 64) < (if b = true then (1 : Int) else 0) ∧ (if b = true then (1 : Int) else 0) < 2 ^ 64 := fun b => by cases b <;> decide
          refine ⟨rfl, .inr ⟨_, rfl, _, _, rfl, rfl, .inr (tail _), _, rfl, S', _, rfl, sl_map eS4, fun Z nZ => ?_⟩⟩
          generalize (!decide (V.int e = V.int 7)) = bit
          have ez : cutV (ts.map V.int) none (some (((ts.map V.int).length : Int) * (if bit = true then (1 : Int) else 0))) = ((if bit = true then ts else []).map V.int) := by
            cases bit with
            | true =>
              rw [if_pos rfl, if_pos rfl, Int.mul_one, cutV_to, List.take_length]
            | false =>
              rw [if_neg Bool.false_ne_true, if_neg Bool.false_ne_true, Int.mul_zero]
              exact cutV_to _ 0
          rw [ez]
          have hz : (if bit = true then ts else []).Sublist ts := by cases bit with
            | true => exact List.Sublist.refl _
            | false => exact List.nil_sublist _
          generalize (if bit = true then ts else []) = zs at hz
          have K4 := K3.oth o4
          have npZ : p ≠ Z := fun z => st4.some (z ▸ nZ)
          have sZ := same_new (o := HO.lst (zs.map V.int)) nZ
          have nZ0 : H Z = none := K4.free st4 nZ
          have dm4 : Doms H4 l ds := dm3.keep ((Keep.refl p _).oth o4) npl.symm apart
          refine ⟨by show 2 ≤ sizeLine; decide, fun T nT => ?_⟩
          have npT : p ≠ T := fun z => st4.some (z ▸ sZ.free nT)
          have sT := same_new (o := HO.tup [V.str x, V.ref Z]) nT
          have nT0 : H T = none := K4.free st4 (sZ.free nT)
          have nZl : Z ≠ l := fun z => by rw [z, dm4.lst] at nZ; cases nZ
          have dmT := (dm4.same sZ).same sT
          have hsub := hz.length_le
          have newZ : Z ∉ ds.map (·.2.2.1) := fun z => by
            obtain ⟨d, hd, e⟩ := List.mem_map.mp z
            have e' : d.2.2.1 = Z := e
            have := dm4.side d hd
            rw [e', nZ] at this
            cases this
          refine ⟨l, _, _, rfl, rfl, dmT.lst, ?_, ds ++ [(T, x, Z, zs)], _, _, rfl, ((K4.at_ nZ0).at_ nT0).at_ nl0, ((st4.upd npZ).upd npT).upd npl, dmT.snoc upd_same (sT _ _ upd_same) nZl, ?_, fun d hd => ?_, ?_⟩
          · rw [List.length_map]
            exact small1000 (by omega)
          · rw [List.map_append, keys, List.take_add_one, hv]
            rfl
          · rcases List.mem_append.mp hd with h | h
            · exact ok d h
            · rw [List.mem_singleton.mp h]
              exact ⟨soT.sub hz, Nat.le_trans hsub l1, nT0, nZ0, fun v hv => mem v (hz.subset hv)⟩
          · rw [List.map_append]
            exact nd_snoc inj newZ
    · rintro σ H' ⟨ds, y5, y6, rfl, kp, st, dm, keys, ok, inj⟩
      rw [List.length_map, List.take_length] at keys
      exact ⟨_, rfl, q H' l ds kp nl0 st dm keys ok inj⟩
end
end K3

set_option Elab.async false
set_option linter.all false
set_option maxRecDepth 100000
set_option maxHeartbeats 4000000
namespace K3
open PySem PySem.Spec PyProof.Rows L2 Cs CsX
/-! ### numbers of assignments: mixed radix -/
abbrev szD (d : DomE) : Nat := d.2.2.2.length
def tot : List DomE → Nat
  | [] => 1
  | d :: ds => szD d * tot ds
def num : List DomE → List Nat → Nat
  | d :: ds, p :: ps => p * tot ds + num ds ps
  | _, _ => 0
/-- places that are there -/
inductive Okp : List DomE → List Nat → Prop
  | nil : Okp [] []
  | cons {d : DomE} {ds : List DomE} {p : Nat} {ps : List Nat} (h : p < szD d) (t : Okp ds ps) : Okp (d :: ds) (p :: ps)
theorem Okp.len {ds : List DomE} {ps : List Nat} (h : Okp ds ps) : ps.length = ds.length := by
  induction h with
  | nil => rfl
  | cons _ _ ih => rw [List.length_cons, List.length_cons, ih]
theorem Okp.at_ {ds : List DomE} {ps : List Nat} (h : Okp ds ps) : ∀ {i : Nat} {d : DomE}, ds[i]? = some d → ∃ p, ps[i]? = some p ∧ p < szD d := by
  induction h with
  | nil => intro i d e; cases i <;> cases e
  | @cons d ds p ps hp t ih =>
    intro i e he
    cases i with
    | zero => cases he; exact ⟨p, rfl, hp⟩
    | succ i => exact ih he
theorem num_lt {ds : List DomE} {ps : List Nat} (h : Okp ds ps) : num ds ps < tot ds := by
  induction h with
  | nil => decide
  | @cons d ds p ps hp t ih =>
    show p * tot ds + num ds ps < szD d * tot ds
    have : (p + 1) * tot ds ≤ szD d * tot ds := Nat.mul_le_mul_right _ hp
    rw [Nat.add_mul, Nat.one_mul] at this
    omega
/-- from the left -/
def hor : Nat → List DomE → List Nat → Nat
  | a, d :: ds, p :: ps => hor (a * szD d + p) ds ps
  | a, _, _ => a
theorem hor_num {ds : List DomE} {ps : List Nat} (h : Okp ds ps) : ∀ a, hor a ds ps = a * tot ds + num ds ps := by
  induction h with
  | nil => intro a; show a = a * 1 + 0; omega
  | @cons d ds p ps hp t ih =>
    intro a
    show hor (a * szD d + p) ds ps = a * (szD d * tot ds) + (p * tot ds + num ds ps)
    rw [ih, Nat.add_mul, Nat.mul_assoc, Nat.add_assoc]
theorem Okp.take {ds : List DomE} {ps : List Nat} (h : Okp ds ps) : ∀ i, Okp (ds.take i) (ps.take i) := by
  induction h with
  | nil => intro i; rw [List.take_nil, List.take_nil]; exact .nil
  | @cons d ds p ps hp t ih =>
    intro i
    cases i with
    | zero => exact .nil
    | succ i => exact .cons hp (ih i)
theorem Okp.drop {ds : List DomE} {ps : List Nat} (h : Okp ds ps) : ∀ i, Okp (ds.drop i) (ps.drop i) := by
  induction h with
  | nil => intro i; rw [List.drop_nil, List.drop_nil]; exact .nil
  | @cons d ds p ps hp t ih =>
    intro i
    cases i with
    | zero => exact .cons hp t
    | succ i => exact ih i
theorem hor_snoc {ds : List DomE} {ps : List Nat} (h : Okp ds ps) : ∀ {i : Nat} {d : DomE} {p : Nat} (a : Nat), ds[i]? = some d → ps[i]? = some p → hor a (ds.take (i + 1)) (ps.take (i + 1)) = hor a (ds.take i) (ps.take i) * szD d + p := by
  induction h with
  | nil => intro i d p a e _; cases i <;> cases e
  | @cons d ds p ps hp t ih =>
    intro i e q a he hq
    cases i with
    | zero => cases he; cases hq; rfl
    | succ i => exact ih (a * szD d + p) he hq
theorem num_split {ds : List DomE} {ps : List Nat} (h : Okp ds ps) : ∀ i, num ds ps = hor 0 (ds.take i) (ps.take i) * tot (ds.drop i) + num (ds.drop i) (ps.drop i) := by
  have key : ∀ {ds : List DomE} {ps : List Nat}, Okp ds ps → ∀ (i a : Nat), hor a ds ps = hor (hor a (ds.take i) (ps.take i)) (ds.drop i) (ps.drop i) := by
    intro ds ps h
    induction h with
    | nil => intro i a; cases i <;> rfl
    | @cons d ds p ps hp t ih =>
      intro i a
      cases i with
      | zero => rfl
      | succ i => exact ih i (a * szD d + p)
  intro i
  have h0 := hor_num h 0
  rw [Nat.zero_mul, Nat.zero_add] at h0
  rw [← h0, key h i 0, hor_num (h.drop i)]
theorem hor_all {ds : List DomE} {ps : List Nat} (h : Okp ds ps) : hor 0 ds ps = num ds ps := by
  rw [hor_num h, Nat.zero_mul, Nat.zero_add]
theorem drop_at {α : Type} : ∀ {l : List α} {i : Nat} {x : α}, l[i]? = some x → l.drop i = x :: l.drop (i + 1)
  | x :: l, 0, _, h => by cases h; rfl
  | x :: l, i + 1, _, h => drop_at (l := l) h
theorem place_of {ds : List DomE} {ps : List Nat} (h : Okp ds ps) {i : Nat} {d : DomE} {p : Nat} (hd : ds[i]? = some d) (hp : ps[i]? = some p) : num ds ps / tot (ds.drop (i + 1)) % szD d = p := by
  obtain ⟨p', e, lt⟩ := h.at_ hd
  rw [hp] at e
  cases e
  have lt2 := num_lt (h.drop (i + 1))
  have pos : 0 < tot (ds.drop (i + 1)) := by omega
  rw [num_split h (i + 1), hor_snoc h 0 hd hp, Nat.mul_comm _ (tot _), Nat.mul_add_div pos, Nat.div_eq_of_lt lt2, Nat.add_zero, Nat.mul_comm, Nat.mul_add_mod, Nat.mod_eq_of_lt lt]
theorem tot_pos {ds : List DomE} {ps : List Nat} (h : Okp ds ps) : 0 < tot ds := by
  have := num_lt h
  omega
theorem tot_drop {ds : List DomE} {i : Nat} {d : DomE} (hd : ds[i]? = some d) : tot (ds.drop i) = szD d * tot (ds.drop (i + 1)) := by rw [drop_at hd] <;> rfl
/-- the next places -/
def suc : List DomE → List Nat → Option (List Nat)
  | d :: ds, p :: ps => match suc ds ps with
    | some qs => some (p :: qs)
    | none => if p + 1 < szD d then some ((p + 1) :: ps.map fun _ => 0) else none
  | _, _ => none
theorem zeros_ok {ds : List DomE} {ps : List Nat} (h : Okp ds ps) : Okp ds (ps.map fun _ => 0) := by
  induction h with
  | nil => exact .nil
  | cons hp t ih => exact .cons (Nat.lt_of_le_of_lt (Nat.zero_le _) hp) ih
theorem zeros_num {ds : List DomE} {ps : List Nat} (h : Okp ds ps) : num ds (ps.map fun _ => 0) = 0 := by
  induction h with
  | nil => rfl
  | @cons d ds p ps hp t ih =>
    show 0 * tot ds + num ds (ps.map fun _ => 0) = 0
    rw [ih, Nat.zero_mul]
theorem suc_ok {ds : List DomE} {ps : List Nat} (h : Okp ds ps) : (∀ qs, suc ds ps = some qs → Okp ds qs ∧ num ds qs = num ds ps + 1) ∧ (suc ds ps = none → num ds ps + 1 = tot ds) := by
  induction h with
  | nil => exact ⟨fun qs e => (by cases e), fun _ => rfl⟩
  | @cons d ds p ps hp t ih =>
    have e0 : suc (d :: ds) (p :: ps) = match suc ds ps with
      | some qs => some (p :: qs)
      | none => if p + 1 < szD d then some ((p + 1) :: ps.map fun _ => 0) else none := rfl
    cases c : suc ds ps with
    | some qs =>
      rw [c] at e0
      obtain ⟨h1, h2⟩ := ih.1 qs c
      refine ⟨fun rs e => ?_, (fun e => by rw [e0] at e; cases e)⟩
      rw [e0] at e
      obtain rfl : p :: qs = rs := Option.some.inj e
      refine ⟨.cons hp h1, ?_⟩
      show p * tot ds + num ds qs = p * tot ds + num ds ps + 1
      omega
    | none =>
      rw [c] at e0
      have h2 := ih.2 c
      by_cases lt : p + 1 < szD d
      · have e0 : suc (d :: ds) (p :: ps) = some ((p + 1) :: ps.map fun _ => 0) := e0.trans (if_pos lt)
        refine ⟨fun rs e => ?_, (fun e => by rw [e0] at e; cases e)⟩
        rw [e0] at e
        obtain rfl := Option.some.inj e
        refine ⟨.cons lt (zeros_ok t), ?_⟩
        show (p + 1) * tot ds + num ds (ps.map fun _ => 0) = p * tot ds + num ds ps + 1
        rw [zeros_num t, Nat.add_mul]
        omega
      · have e0 : suc (d :: ds) (p :: ps) = none := e0.trans (if_neg lt)
        refine ⟨(fun rs e => by rw [e0] at e; cases e), fun _ => ?_⟩
        show p * tot ds + num ds ps + 1 = szD d * tot ds
        have : szD d = p + 1 := by omega
        rw [this, Nat.add_mul]
        omega
/-- what stands ahead stays -/
theorem suc_pre {ds : List DomE} {ps : List Nat} (h : Okp ds ps) : ∀ {i : Nat} {qs : List Nat}, suc (ds.drop i) (ps.drop i) = some qs → suc ds ps = some (ps.take i ++ qs) := by
  induction h with
  | nil => intro i qs e; rw [List.drop_nil, List.drop_nil] at e; cases e
  | @cons d ds p ps hp t ih =>
    intro i qs e
    cases i with
    | zero => exact e
    | succ i =>
      have := ih (i := i) e
      show (match suc ds ps with
        | some qs => some (p :: qs)
        | none => if p + 1 < szD d then some ((p + 1) :: ps.map fun _ => 0) else none) = _
      rw [this] <;> rfl
/-- the greatest places -/
def maxP (ds : List DomE) : List Nat := ds.map fun d => szD d - 1
theorem max_ok : ∀ {ds : List DomE}, 0 < tot ds → Okp ds (maxP ds) ∧ num ds (maxP ds) + 1 = tot ds
  | [], _ => ⟨.nil, rfl⟩
  | d :: ds, h => by
    have h1 : 0 < szD d := Nat.pos_of_mul_pos_right h
    have h2 : 0 < tot ds := Nat.pos_of_mul_pos_left h
    obtain ⟨h3, h4⟩ := max_ok h2
    refine ⟨.cons (show szD d - 1 < szD d by omega) h3, ?_⟩
    show (szD d - 1) * tot ds + num ds (maxP ds) + 1 = szD d * tot ds
    obtain ⟨k, hk⟩ : ∃ k, szD d = k + 1 := ⟨szD d - 1, by omega⟩
    rw [hk, Nat.add_mul, Nat.add_sub_cancel]
    omega
theorem zero_ok : ∀ {ds : List DomE}, 0 < tot ds → Okp ds (ds.map fun _ => 0) ∧ num ds (ds.map fun _ => 0) = 0
  | [], _ => ⟨.nil, rfl⟩
  | d :: ds, h => by
    have h1 : 0 < szD d := Nat.pos_of_mul_pos_right h
    have h2 : 0 < tot ds := Nat.pos_of_mul_pos_left h
    obtain ⟨h3, h4⟩ := zero_ok h2
    refine ⟨.cons h1 h3, ?_⟩
    show 0 * tot ds + num ds (ds.map fun _ => 0) = 0
    rw [h4, Nat.zero_mul]
/-- the values at the places -/
def valD (d : DomE) (p : Nat) : Int := d.2.2.2.getD p 0
def atV : List DomE → List Nat → List (Str × Int)
  | d :: ds, p :: ps => (d.2.1, valD d p) :: atV ds ps
  | _, _ => []
end K3

set_option Elab.async false
set_option linter.all false
set_option maxRecDepth 100000
set_option maxHeartbeats 4000000
namespace K3
open PySem PySem.Spec PyProof.Rows L2 Cs CsX
/-! ### dicts of values -/
def putA (A : List (Str × Int)) (x : Str) (v : Int) : List (Str × Int) := if (A.any fun e => decide (e.1 = x)) = true then A.map (fun e => if e.1 = x then (x, v) else e) else A ++ [(x, v)]
theorem any_int (A : List (Str × Int)) (x : Str) : ((intK A).any fun kv => decide (kv.1 = Sum.inr x)) = A.any fun e => decide (e.1 = x) := by
  unfold intK
  rw [List.any_map]
  congr 1
  funext e
  simp
theorem putK_int (A : List (Str × Int)) (x : Str) (v : Int) : putK (intK A) (.inr x) (V.int v) = intK (putA A x v) := by
  unfold putK putA
  rw [any_int]
  by_cases h : (A.any fun e => decide (e.1 = x)) = true
  · rw [if_pos h, if_pos h]
    unfold intK
    rw [List.map_map, List.map_map]
    congr 1
    funext e
    by_cases z : e.1 = x
    · simp [z]
    · simp [z]
  · rw [if_neg h, if_neg h]
    unfold intK
    rw [List.map_append]
    rfl
theorem anyA {A : List (Str × Int)} {x : Str} : (A.any fun e => decide (e.1 = x)) = true ↔ x ∈ A.map (·.1) := by
  rw [List.any_eq_true, List.mem_map]
  constructor
  · rintro ⟨e, he, h⟩; exact ⟨e, he, of_decide_eq_true h⟩
  · rintro ⟨e, he, h⟩; exact ⟨e, he, decide_eq_true h⟩
theorem putA_new {A : List (Str × Int)} {x : Str} {v : Int} (h : x ∉ A.map (·.1)) : putA A x v = A ++ [(x, v)] := if_neg fun z => h (anyA.mp z)
theorem putA_keys {A : List (Str × Int)} {x : Str} {v : Int} (h : x ∈ A.map (·.1)) : (putA A x v).map (·.1) = A.map (·.1) := by
  unfold putA
  rw [if_pos (anyA.mpr h), List.map_map]
  refine List.map_congr_left fun e _ => ?_
  show (if e.1 = x then (x, v) else e).1 = e.1
  split
  · next z => exact z.symm
  · rfl
theorem aget_cons (e : Str × Int) (A : List (Str × Int)) (y : Str) : aget (e :: A) y = if e.1 = y then some e.2 else aget A y := by
  unfold aget
  rw [List.find?_cons]
  by_cases h : e.1 = y
  · simp [h]
  · simp [h]
theorem aget_app {A : List (Str × Int)} {x : Str} {v : Int} (h : x ∉ A.map (·.1)) (y : Str) : aget (A ++ [(x, v)]) y = if x = y then some v else aget A y := by
  induction A with
  | nil => rw [List.nil_append, aget_cons] <;> rfl
  | cons e A ih =>
    rw [List.cons_append, aget_cons, aget_cons, ih fun z => h (List.mem_cons_of_mem _ z)]
    by_cases c : e.1 = y
    · rw [if_pos c, if_pos c]
      by_cases d : x = y
      · exact absurd (by rw [d, ← c]; exact List.mem_cons_self) h
      · rw [if_neg d]
    · rw [if_neg c, if_neg c]
theorem aget_rep (x : Str) (v : Int) (y : Str) : ∀ A : List (Str × Int), aget (A.map fun e => if e.1 = x then (x, v) else e) y = if x = y then (if x ∈ A.map (·.1) then some v else none) else aget A y
  | [] => by split <;> rfl
  | e :: A => by
    rw [List.map_cons, aget_cons, aget_cons, aget_rep x v y A]
    by_cases c : e.1 = x
    · rw [if_pos c]
      by_cases d : x = y
      · rw [if_pos d, if_pos d, if_pos (by rw [List.map_cons, c]; exact List.mem_cons_self)]
      · have h1 : ¬ e.1 = y := fun z => d (c.symm.trans z)
        simp [d, h1]
    · rw [if_neg c]
      by_cases d : x = y
      · have h1 : ¬ e.1 = y := fun z => c (z.trans d.symm)
        rw [if_neg h1, if_pos d, if_pos d]
        have : x ∈ (e :: A).map (·.1) ↔ x ∈ A.map (·.1) := by
          rw [List.map_cons, List.mem_cons]
          exact ⟨fun h => h.elim (fun z => absurd z.symm c) id, .inr⟩
        by_cases m : x ∈ A.map (·.1)
        · rw [if_pos m, if_pos (this.mpr m)]
        · rw [if_neg m, if_neg fun z => m (this.mp z)]
      · rw [if_neg d, if_neg d]
theorem aget_put {A : List (Str × Int)} {x : Str} {v : Int} (y : Str) : aget (putA A x v) y = if x = y then some v else aget A y := by
  by_cases h : x ∈ A.map (·.1)
  · unfold putA
    rw [if_pos (anyA.mpr h), aget_rep, if_pos h]
  · rw [putA_new h, aget_app h]
theorem aget_mem {A : List (Str × Int)} {x : Str} : (aget A x).isSome = true ↔ x ∈ A.map (·.1) := by
  induction A with
  | nil => simp [aget]
  | cons e A ih =>
    rw [aget_cons, List.map_cons, List.mem_cons, ← ih]
    by_cases c : e.1 = x
    · rw [if_pos c]; simp [c]
    · rw [if_neg c]; simp [Ne.symm c]
/-- a dict of values -/
structure Vd (H : Hp) (d : Addr) (A : List (Str × Int)) : Prop where
  un : H d = some (.dK (intK A))
  nd : (A.map (·.1)).Nodup
  few : A.length ≤ 40
theorem Vd.same {H H' : Hp} {d : Addr} {A : List (Str × Int)} (B : Vd H d A) (s : Same H H') : Vd H' d A := ⟨s _ _ B.un, B.nd, B.few⟩
theorem Vd.ax {H : Hp} {d : Addr} {A : List (Str × Int)} (B : Vd H d A) : Ax H d A := ⟨.inl B.un⟩
theorem intK_len (A : List (Str × Int)) : (intK A).length = A.length := by unfold intK; rw [List.length_map]
theorem atV_keys {ds : List DomE} {ps : List Nat} (h : Okp ds ps) : (atV ds ps).map (·.1) = ds.map (·.2.1) := by
  induction h with
  | nil => rfl
  | cons hp t ih => exact congrArg (_ :: ·) ih
theorem atV_take {ds : List DomE} {ps : List Nat} (h : Okp ds ps) : ∀ {i : Nat} {d : DomE} {p : Nat}, ds[i]? = some d → ps[i]? = some p → atV (ds.take (i + 1)) (ps.take (i + 1)) = atV (ds.take i) (ps.take i) ++ [(d.2.1, valD d p)] := by
  induction h with
  | nil => intro i d p e _; cases i <;> cases e
  | @cons d ds p ps hp t ih =>
    intro i e q he hq
    cases i with
    | zero => cases he; cases hq; rfl
    | succ i => exact congrArg (_ :: ·) (ih he hq)
theorem atV_get {ds : List DomE} {ps : List Nat} (h : Okp ds ps) (nd : (ds.map (·.2.1)).Nodup) : ∀ {i : Nat} {d : DomE} {p : Nat}, ds[i]? = some d → ps[i]? = some p → aget (atV ds ps) d.2.1 = some (valD d p) := by
  induction h with
  | nil => intro i d p e _; cases i <;> cases e
  | @cons d ds p ps hp t ih =>
    intro i e q he hq
    show aget ((d.2.1, valD d p) :: atV ds ps) e.2.1 = _
    rw [aget_cons]
    obtain ⟨n1, n2⟩ := List.nodup_cons.mp nd
    cases i with
    | zero => cases he; cases hq; exact if_pos rfl
    | succ i =>
      have em : e ∈ ds := List.mem_of_getElem? he
      rw [if_neg fun z => n1 (by show d.2.1 ∈ _; rw [show d.2.1 = e.2.1 from z]; exact List.mem_map_of_mem (f := fun d : DomE => d.2.1) em)]
      exact ih n2 he hq
theorem valD_at {d : DomE} {p : Nat} (h : p < szD d) : d.2.2.2[p]? = some (valD d p) := by
  unfold valD
  rw [List.getD_eq_getElem?_getD, List.getElem?_eq_getElem h] <;> rfl
theorem tot_wide {ds : List DomE} (h : ∀ d ∈ ds, szD d ≤ 31) : tot ds ≤ 31 ^ ds.length := by
  induction ds with
  | nil => decide
  | cons d ds ih =>
    show szD d * tot ds ≤ 31 ^ (ds.length + 1)
    rw [Nat.pow_succ, Nat.mul_comm _ 31]
    exact Nat.mul_le_mul (h d List.mem_cons_self) (ih fun e he => h e (List.mem_cons_of_mem _ he))
theorem tot_div {ds : List DomE} (h : ∀ d ∈ ds, szD d ≤ 31) (l : ds.length ≤ 40) (pos : 0 < tot ds) : CDivW 0 (tot ds : Int) := by
  refine wide_div (b := 200) (by omega) ?_ (by decide) (by decide)
  show tot ds < 2 ^ 200
  have h1 := tot_wide h
  have h2 : 31 ^ ds.length ≤ 31 ^ 40 := Nat.pow_le_pow_right (by decide) l
  have h3 : 31 ^ 40 < 2 ^ 200 := by decide
  omega
theorem merge_new {kvs : List (Key × V)} (nd : (kvs.map (·.1)).Nodup) : ∀ acc : List (Key × V), (∀ k ∈ kvs.map (·.1), k ∉ acc.map (·.1)) → mergeK acc kvs = acc ++ kvs := by
  induction kvs with
  | nil => intro acc _; rw [List.append_nil] <;> rfl
  | cons p r ih =>
    intro acc h
    obtain ⟨n1, n2⟩ := List.nodup_cons.mp nd
    have e : putK acc p.1 p.2 = acc ++ [p] := by
      unfold putK
      rw [if_neg]
      intro z
      obtain ⟨q, hq, e⟩ := List.any_eq_true.mp z
      exact h p.1 List.mem_cons_self ((of_decide_eq_true e) ▸ List.mem_map_of_mem hq)
    show mergeK (putK acc p.1 p.2) r = _
    rw [e, ih n2]
    · simp
    · intro k hk
      rw [List.map_append, List.mem_append]
      rintro (z | z)
      · exact h k (List.mem_cons_of_mem _ hk) z
      · rw [show k = p.1 from List.mem_singleton.mp z] at hk
        exact n1 hk
end K3

set_option Elab.async false
set_option linter.all false
set_option maxRecDepth 100000
set_option maxHeartbeats 4000000
namespace K3
open PySem PySem.Spec PyProof.Rows L2 Cs CsX
abbrev entsD (ds : List DomE) : List Ent := ds.map (·.2)
def roomE (L : List Ent) : Int := L.foldl (fun c e => c * (e.2.2.length : Int)) 1
theorem room_snoc {L : List Ent} {i : Nat} {e : Ent} (h : L[i]? = some e) : roomE (L.take (i + 1)) = roomE (L.take i) * (e.2.2.length : Int) := by
  unfold roomE
  rw [List.take_add_one, h, List.foldl_append]
  rfl
theorem room_tot (ds : List DomE) : roomE (entsD ds) = (tot ds : Int) := by
  have key : ∀ (ds : List DomE) (c : Int), (entsD ds).foldl (fun c e => c * (e.2.2.length : Int)) c = c * (tot ds : Int) := by
    intro ds
    induction ds with
    | nil => intro c; show c = c * 1; rw [Int.mul_one]
    | cons d ds ih =>
      intro c
      show (entsD ds).foldl (fun c e => c * (e.2.2.length : Int)) (c * (d.2.2.2.length : Int)) = c * ((szD d * tot ds : Nat) : Int)
      rw [ih, Int.natCast_mul, Int.mul_assoc]
  exact (key ds 1).trans (Int.one_mul _)
section
variable {P : Program} {w : World} {K : PySem.W.Frag} {mg : Str → Option Value} {base : Heap}
abbrev sRoom : Stmt := topS 27
abbrev nRoom : List Str := ["box", "count", "side"]
theorem scRoom : FnScope nRoom ["box"] (defScope sRoom) := ⟨rfl, rfl, rfl, by decide +kernel, rfl, by decide +kernel, by decide +kernel⟩
def spRoom : Sp := fun vs H Q _ => ∃ (d : Addr) (L : List Ent), vs = [.ref d] ∧ Bu H d L ∧ (∀ e ∈ L, e.2.2.length ≤ 1000) ∧ Q (.int (roomE L)) H
theorem ok_room {f : Addr} {fd : FuncData} {k : Nat} (F : Fun K "room" "room" sRoom f fd) (B : Bt mg) : FnOk P w K mg base CX0 (k + 1) f fd ["box"] spRoom := by
  refine F.ok scRoom (fun vs H Q E h => ?_) (fun cdv A outer s H vs Q E hr h => ?_)
  · obtain ⟨d, L, rfl, _⟩ := h
    rfl
  · obtain ⟨d, L, rfl, bx, sz, q⟩ := h
    refine ⟨_, pss_cons (ps_set (i := 1) scRoom.nd rfl (.inl rfl) pe_int)
      (pss_cons (ps_lock (ps_for PassesOwn.never rfl (pi_values (pv 0)) (pg_name (i := 2) scRoom.nd rfl (.inl rfl))
        (pss_one (ps_set (i := 1) scRoom.nd rfl (.inl rfl) (pe_op op_mul (pv 1) (pe_callB call_len_seq (by rfl) B.len PySem.boot_len (pa_cons (pv 2) pa_nil)))))))
      (pss_one (ps_ret (pv 1)))), ?_⟩
    refine ⟨d, _, bx.un, trivial, fun od => ?_⟩
    have bl := bx.toBx.lock (od := od) bx.un
    refine ⟨.ref d, rfl, d, od, entK L, rfl, upd_same, for_it walk_values (fun i σ H' => H' = upd H d (.frz od (.dK (entK L))) ∧ ∃ y, σ = [some (.ref d), some (.int (roomE (L.take i))), y]) ⟨rfl, none, rfl⟩ (fun i σ H' _ h => by rw [h.1]; exact upd_same) ?_ ?_⟩
    · rintro i x σ H' H'' hi ⟨rfl, y, rfl⟩ ⟨rfl, k, hk⟩
      rw [entK_get] at hk
      obtain ⟨e, he, q2⟩ := Option.map_eq_some_iff.mp hk
      cases q2
      have em := List.mem_of_getElem? he
      refine ⟨_, rfl, .ref e.2.1, rfl, e.2.1, _, rfl, .inl (sl_map (bl.sides e em)), _, _, rfl, rfl, .inr ⟨?_, ?_⟩, rfl, some (.ref e.2.1), ?_⟩
      · rw [List.length_map]; omega
      · rw [List.length_map]; have := sz e em; omega
      · rw [room_snoc he, List.length_map]
        rfl
    · rintro σ H' ⟨rfl, y, rfl⟩
      refine ⟨upd_same, ?_⟩
      rw [upd_back bx.un]
      have : (entK L).length = L.length := by unfold entK; rw [List.length_map]
      rw [this, List.take_length]
      exact ⟨_, rfl, q⟩
abbrev sAt : Stmt := topS 29
abbrev nAt : List Str := ["domains", "number", "block", "values", "name", "side"]
theorem scAt : FnScope nAt ["domains", "number"] (defScope sAt) := ⟨rfl, rfl, rfl, by decide +kernel, rfl, by decide +kernel, by decide +kernel⟩
/-- domains: names that differ, sides not too long -/
structure Dok (ds : List DomE) : Prop where
  nd : (ds.map (·.2.1)).Nodup
  len : ds.length ≤ 30
  sz : ∀ d ∈ ds, szD d ≤ 31
  srt : ∀ d ∈ ds, Srt d.2.2.2
  ok : ∀ d ∈ ds, PyData.strOk d.2.1 = true
theorem paired_doms {H : Hp} : ∀ ds : List DomE, (∀ d ∈ ds, H d.1 = some (.tup [V.str d.2.1, V.ref d.2.2.1])) → Paired (fun p kv => SqT K H p [kV kv.1, kv.2]) (ds.map (·.1)) (entK (entsD ds))
  | [], _ => .nil
  | d :: ds, h => .cons (.inl (.inl (h d List.mem_cons_self))) (paired_doms ds fun e he => h e (List.mem_cons_of_mem _ he))
theorem keys_ents (ds : List DomE) : (entK (entsD ds)).map (·.1) = (ds.map (·.2.1)).map Sum.inr := by unfold entK entsD; rw [List.map_map, List.map_map, List.map_map] <;> rfl
theorem bu_doms {H : Hp} {dl D : Addr} {ds : List DomE} (dm : Doms H dl ds) (ok : Dok ds) (nD : H D = none) : mergeK [] (entK (entsD ds)) = entK (entsD ds) ∧ Bu (upd H D (.dK (entK (entsD ds)))) D (entsD ds) := by
  have s := same_new (o := HO.dK (entK (entsD ds))) nD
  have nodk : ((entK (entsD ds)).map (·.1)).Nodup := by
    rw [keys_ents]
    exact List.Pairwise.map _ (fun a b h z => h (Sum.inr.inj z)) ok.nd
  refine ⟨merge_new nodk [] (fun _ _ h => nomatch h), ⟨⟨.inl upd_same, fun e he => ?_, ?_, ?_⟩, upd_same⟩⟩
  · obtain ⟨d, hd, rfl⟩ := List.mem_map.mp he
    exact s _ _ (dm.side d hd)
  · unfold entsD; rw [List.map_map]; exact ok.nd
  · unfold entsD; rw [List.length_map]; have := ok.len; omega
def spAt : Sp := fun vs H Q _ => ∃ (dl : Addr) (N : Int) (ds : List DomE) (ps : List Nat), vs = [.ref dl, .int N] ∧ Doms H dl ds ∧ Dok ds ∧ Okp ds ps ∧ N = (num ds ps : Nat) ∧
  ∀ (H' : Hp) (d : Addr), Same H H' → H d = none → H' d = some (.dK (intK (atV ds ps))) → Q (.ref d) H'
theorem ok_at {f fR : Addr} {fd fdR : FuncData} (F : Fun K "assignment_at" "assignment_at" sAt f fd) (B : Bt mg) (R : Call P w K mg base 1 "room" fR fdR ["box"] spRoom) : FnOk P w K mg base CX0 2 f fd ["domains", "number"] spAt := by
  refine F.ok scAt (fun vs H Q E h => ?_) (fun cdv A outer s H vs Q E hr h => ?_)
  · obtain ⟨dl, N, ds, ps, rfl, _⟩ := h
    rfl
  · obtain ⟨dl, N, ds, ps, rfl, dm, ok, okp, rfl, q⟩ := h
    have hu := hu_of hr
    have nd := scAt.nd
    have nos : ∀ {A B : Prop} {c : Bool}, c = false → B → (if c = true then A else B) := fun {A B c} h hb => by rw [h, if_neg (by decide)]; exact hb
    refine ⟨_, pss_cons (ps_set (i := 2) nd rfl (.inl rfl) (pe_call R.ok hr (by rfl) R.at_ R.kp R.bd .nil pass0 (pa_cons (pe_callTy (call_dictP rfl) (by rfl) B.dict PyProof.Rows.boot_dict (pa_cons (pv 0) pa_nil)) pa_nil)))
      (pss_cons (ps_if (PW.pt (pw_or (pt_cmpR op_lt (pv 1) pe_int rfl) (pw_or1 (pt_cmpR op_ge (pv 1) (pv 2) rfl)))) pss_any pss_nil)
      (pss_cons (ps_set (i := 3) nd rfl (.inl rfl) pe_dnewK)
      (pss_cons (ps_for PassesOwn.never rfl (pi_list (pv 0)) (pg_tup rfl (pgs_cons (pg_name (i := 4) nd rfl (.inl rfl)) (pgs_cons (pg_name (i := 5) nd rfl (.inl rfl)) pgs_nil)))
        (pss_cons (ps_set (i := 2) nd rfl (.inl rfl) (pe_op op_fdiv (pv 2) (pe_callB call_len_seq (by rfl) B.len PySem.boot_len (pa_cons (pv 5) pa_nil))))
        (pss_one (ps_dput hu (pv 3) (pv 4) (pe_ix ix_list (pv 5) (pe_op op_mod (pe_op op_fdivW (pv 1) (pv 2)) (pe_callB call_len_seq (by rfl) B.len PySem.boot_len (pa_cons (pv 5) pa_nil))) (fun _ _ => rfl)) rfl))))
      (pss_one (ps_ret (pv 3)))))), ?_⟩
    have lt := num_lt okp
    have eL : (ds.map fun d => V.ref d.1) = (ds.map (·.1)).map V.ref := by rw [List.map_map] <;> rfl
    refine ⟨.ref dl, rfl, dl, ds.map (·.1), entK (entsD ds), rfl, by rw [← eL]; exact sl_map dm.lst, paired_doms ds dm.tup, fun D nD => ?_⟩
    obtain ⟨em, bu⟩ := bu_doms dm ok nD
    rw [em]
    have s0 := same_new (o := HO.dK (entK (entsD ds))) nD
    refine ⟨D, entsD ds, rfl, bu, fun e he => ?_, ?_⟩
    · obtain ⟨d, hd, rfl⟩ := List.mem_map.mp he
      have : d.2.2.2.length ≤ 31 := ok.sz d hd
      omega
    rw [room_tot]
    refine ⟨.int (num ds ps : Nat), rfl, (num ds ps : Nat), 0, rfl, rfl, _, rfl, nos (by simp) ⟨.int (num ds ps : Nat), rfl, .int (tot ds : Nat), rfl, (num ds ps : Nat), (tot ds : Nat), rfl, rfl, _, rfl, nos (by simp; omega) ?_⟩⟩
    intro W nW
    have s1 := s0.trans (same_new (o := HO.dK []) nW)
    have nW0 : H W = none := s0.free nW
    refine ⟨.ref dl, rfl, dl, rfl, ⟨_, sl_map (s1 _ _ dm.lst)⟩, for_list (xs := ds.map fun d => V.ref d.1) (fun i σ H' => ∃ (y4 y5 : Option V), σ = [some (.ref dl), some (.int (num ds ps : Nat)), some (.int (tot (ds.drop i) : Nat)), some (.ref W), y4, y5] ∧ Same H H' ∧ H' W = some (.dK (intK (atV (ds.take i) (ps.take i)))))
      ⟨none, none, rfl, s1, upd_same⟩ (fun i σ H' _ h => by obtain ⟨y4, y5, _, s, _⟩ := h; exact sl_map (s _ _ dm.lst)) ?_ ?_⟩
    · rintro i x σ H' hx ⟨y4, y5, rfl, sm, eW⟩
      rw [List.getElem?_map] at hx
      obtain ⟨d, hv, rfl⟩ := Option.map_eq_some_iff.mp hx
      have dmem := List.mem_of_getElem? hv
      obtain ⟨pl, hpl, plt⟩ := okp.at_ hv
      have dm' := dm.same sm
      have tt : SqT K H' d.1 [V.str d.2.1, V.ref d.2.2.1] := .inl (.inl (dm'.tup d dmem))
      have sd := sl_map (K := K) (dm'.side d dmem)
      have szd : d.2.2.2.length ≤ 31 := ok.sz d dmem
      have plt' : pl < d.2.2.2.length := plt
      refine ⟨d.1, _, rfl, tt, rfl, _, _, rfl, _, [], rfl, rfl, ?_⟩
      have e1 : ((tot (ds.drop i) : Nat) : Int) / (((d.2.2.2.map V.int).length : Nat) : Int) = (tot (ds.drop (i + 1)) : Nat) := by
        rw [List.length_map, tot_drop hv, ← Int.natCast_ediv, Nat.mul_div_cancel_left _ (by omega)]
      refine ⟨_, rfl, .ref d.2.2.1, rfl, d.2.2.1, _, rfl, .inl sd, _, _, rfl, rfl, ⟨by rw [List.length_map]; omega, by rw [List.length_map]; omega⟩, ?_⟩
      show gName 2 (V.int (((tot (ds.drop i) : Nat) : Int) / (((d.2.2.2.map V.int).length : Nat) : Int))) _ _ _
      rw [e1]
      have pos := tot_pos (okp.drop (i + 1))
      have cd : CDivW (num ds ps : Nat) (tot (ds.drop (i + 1)) : Nat) := by
        have h1 := tot_div (ds := ds.drop (i + 1)) (fun d hd => ok.sz d (List.mem_of_mem_drop hd)) (by rw [List.length_drop]; have := ok.len; omega) pos
        exact h1
      have e2 : ((num ds ps : Nat) : Int) / ((tot (ds.drop (i + 1)) : Nat) : Int) % (((d.2.2.2.map V.int).length : Nat) : Int) = (pl : Int) := by
        rw [List.length_map, ← Int.natCast_ediv, ← Int.natCast_emod, place_of okp hv hpl]
      refine ⟨.ref d.2.2.1, rfl, _, rfl, _, rfl, _, _, rfl, rfl, cd, .ref d.2.2.1, rfl, d.2.2.1, _, rfl, .inl sd, _, _, rfl, rfl, by rw [List.length_map]; omega, d.2.2.1, _, _, .int (valD d pl), rfl, rfl, sd, ?_, ?_⟩
      · rw [e2]
        exact at_of (j := pl) rfl (by rw [List.getElem?_map, valD_at plt] <;> rfl)
      · have keys := atV_keys (okp.take i)
        have xn : d.2.1 ∉ (atV (ds.take i) (ps.take i)).map (·.1) := fun z => by
          rw [keys, List.map_take] at z
          obtain ⟨j, hj⟩ := List.mem_iff_getElem?.mp z
          rw [List.getElem?_take] at hj
          split at hj
          · next l => exact absurd (nd_ix ok.nd hj (by rw [List.getElem?_map, hv] <;> rfl)) (by omega)
          · cases hj
        have few : (atV (ds.take i) (ps.take i)).length ≤ 30 := by
          have := congrArg List.length keys
          rw [List.length_map, List.length_map, List.length_take] at this
          have := ok.len
          omega
        refine ⟨.ref W, rfl, .str d.2.1, rfl, W, _, rfl, DPut.k (k := .inr d.2.1) eW (by rw [intK_len]; exact small1000 (by omega)), ?_⟩
        rw [putK_int, putA_new xn, ← atV_take okp hv hpl]
        exact ⟨_, _, rfl, same_at sm nW0, upd_same⟩
    · rintro σ H' ⟨y4, y5, rfl, sm, eW⟩
      rw [List.length_map, List.take_length, ← okp.len, List.take_length] at eW
      exact ⟨_, rfl, q H' W sm nW0 eW⟩
end
end K3

set_option Elab.async false
set_option linter.all false
set_option maxRecDepth 100000
set_option maxHeartbeats 4000000
namespace K3
open PySem PySem.Spec PyProof.Rows L2 Cs CsX
def initOf : Stmt → Stmt
  | .ClassDef (body := b) .. => b.getD 0 (.Pass ⟨0, 0, 0, 0⟩)
  | s => s
structure CallX (P : Program) (w : World) (K : PySem.W.Frag) (mg : Str → Option Value) (base : Heap) (k : Nat) (x : Str) (f : Addr) (fd : FuncData) (ps : List Str) (sp : Sp) : Prop where
  ok : FnOk P w K mg base (L2.CX P w) k f fd ps sp
  at_ : mg x = some (.ref f)
  kp : PySem.W.keepIn K (.ref f) = true
  bd : Binds K fd ps []
structure CallI (P : Program) (w : World) (K : PySem.W.Frag) (mg : Str → Option Value) (base : Heap) (f : Addr) (fd : FuncData) (ps : List Str) (sp : Sp) : Prop where
  ok : FnOk P w K mg base CX0 1 f fd ps sp
  bd : Binds K fd ps []
theorem srt_nd {l : List Int} (s : Srt l) : l.Nodup := List.Pairwise.imp (fun h z => by rw [z] at h; exact absurd h (Int.lt_irrefl _)) s
theorem eqV_int (a b : Int) : eqV (.int a) (.int b) = decide (a = b) := by
  first
    | rfl
    | (show (a == b) = _; by_cases h : a = b <;> simp [h])
theorem in_no {ks : List Int} {v : Int} (h : v ∈ ks) : (if true = true then !inV (.int v) (ks.map V.int) else inV (.int v) (ks.map V.int)) = false := by
  rw [if_pos rfl, in_ints, decide_eq_true h] <;> rfl
theorem in_yes {ks : List Int} {v : Int} (h : v ∉ ks) : (if true = true then !inV (.int v) (ks.map V.int) else inV (.int v) (ks.map V.int)) = true := by
  rw [if_pos rfl, in_ints, decide_eq_false h] <;> rfl
theorem ifF {A B : Prop} {c : Bool} (h : c = false) (hb : B) : if c = true then A else B := by rw [h, if_neg (by decide)]; exact hb
theorem ifT {A B : Prop} {c : Bool} (h : c = true) (hb : A) : if c = true then A else B := by rw [h, if_pos rfl]; exact hb
section
variable {P : Program} {w : World} {K : PySem.W.Frag} {mg : Str → Option Value} {base : Heap}
abbrev sNo : Stmt := topS 30
abbrev nNo : List Str := ["domains", "values", "number", "name", "side", "value"]
theorem scNo : FnScope nNo ["domains", "values"] (defScope sNo) := ⟨rfl, rfl, rfl, by decide +kernel, rfl, by decide +kernel, by decide +kernel⟩
/-- the values that stand at the places -/
def Says (A : List (Str × Int)) (ds : List DomE) (ps : List Nat) : Prop := ∀ (i : Nat) (d : DomE) (p : Nat), ds[i]? = some d → ps[i]? = some p → aget A d.2.1 = some (valD d p)
def spNo : Sp := fun vs H Q _ => ∃ (dl v : Addr) (ds : List DomE) (ps : List Nat) (A : List (Str × Int)), vs = [.ref dl, .ref v] ∧ Doms H dl ds ∧ Dok ds ∧ Okp ds ps ∧ Vd H v A ∧ Says A ds ps ∧ Q (.int (num ds ps : Nat)) H
theorem ok_no {f : Addr} {fd : FuncData} {k : Nat} (F : Fun K "number_of" "number_of" sNo f fd) (B : Bt mg) : FnOk P w K mg base CX0 (k + 1) f fd ["domains", "values"] spNo := by
  refine F.ok scNo (fun vs H Q E h => ?_) (fun cdv A outer s H vs Q E hr h => ?_)
  · obtain ⟨dl, v, ds, ps, A, rfl, _⟩ := h
    rfl
  · obtain ⟨dl, v, ds, ps, Av, rfl, dm, ok, okp, vd, says, q⟩ := h
    have hu := hu_of hr
    have nd := scNo.nd
    refine ⟨_, pss_cons (ps_set (i := 2) nd rfl (.inl rfl) pe_int)
      (pss_cons (ps_for PassesOwn.never rfl (pi_list (pv 0)) (pg_tup rfl (pgs_cons (pg_name (i := 3) nd rfl (.inl rfl)) (pgs_cons (pg_name (i := 4) nd rfl (.inl rfl)) pgs_nil)))
        (pss_cons (ps_set (i := 5) nd rfl (.inl rfl) (pe_dget hu (pv 1) (pv 3) (fun _ _ => rfl)))
        (pss_cons (ps_if (pt_cmpR (r := rIn K true) op_notIn_seq (pv 5) (pv 4) rfl) pss_any pss_nil)
        (pss_one (ps_set (i := 2) nd rfl (.inl rfl) (pe_op op_add (pe_op op_mul (pv 2) (pe_callB call_len_seq (by rfl) B.len PySem.boot_len (pa_cons (pv 4) pa_nil)))
          (pe_bm PySem.F.plainAttrs_list PySem.F.slot_list_index PySem.F.type_list_index mt_index (pv 4) (pa_cons (pv 5) pa_nil))))))))
      (pss_one (ps_ret (pv 2)))), ?_⟩
    refine ⟨.ref dl, rfl, dl, rfl, ⟨_, sl_map dm.lst⟩, for_list (xs := ds.map fun d => V.ref d.1) (fun i σ H' => ∃ (y3 y4 y5 : Option V), H' = H ∧ σ = [some (.ref dl), some (.ref v), some (.int (hor 0 (ds.take i) (ps.take i) : Nat)), y3, y4, y5])
      ⟨none, none, none, rfl, rfl⟩ (fun i σ H' _ h => by obtain ⟨_, _, _, rfl, _⟩ := h; exact sl_map dm.lst) ?_ ?_⟩
    · rintro i x σ H' hx ⟨y3, y4, y5, rfl, rfl⟩
      rw [List.getElem?_map] at hx
      obtain ⟨d, hv, rfl⟩ := Option.map_eq_some_iff.mp hx
      have dmem := List.mem_of_getElem? hv
      obtain ⟨pl, hpl, plt⟩ := okp.at_ hv
      have tt : SqT K H' d.1 [V.str d.2.1, V.ref d.2.2.1] := .inl (.inl (dm.tup d dmem))
      have sd := sl_map (K := K) (dm.side d dmem)
      have szd : d.2.2.2.length ≤ 31 := ok.sz d dmem
      have gv := vd.ax.get d.2.1
      rw [says i d pl hv hpl] at gv
      have vin : valD d pl ∈ d.2.2.2 := List.mem_of_getElem? (valD_at plt)
      refine ⟨d.1, _, rfl, tt, rfl, _, _, rfl, _, [], rfl, rfl, ?_⟩
      refine ⟨.ref v, rfl, .str d.2.1, rfl, v, .int (valD d pl), rfl, gv, ?_⟩
      refine ⟨.int (valD d pl), rfl, .ref d.2.2.1, rfl, d.2.2.1, _, rfl, .inl sd, rfl, flat_ints _, _, rfl, ifF (in_no vin) ?_⟩
      refine ⟨_, rfl, .ref d.2.2.1, rfl, d.2.2.1, _, rfl, .inl sd, _, _, rfl, rfl, .inr ⟨by rw [List.length_map]; omega, by rw [List.length_map]; omega⟩, ?_⟩
      refine ⟨.ref d.2.2.1, rfl, .inl ⟨rfl, _, sd⟩, .int (valD d pl), rfl, d.2.2.1, _, .int (valD d pl), pl, .int (valD d pl), rfl, rfl, sd, rfl, flat_ints _, by rw [List.getElem?_map, valD_at plt] <;> rfl, by rw [eqV_int]; exact decide_eq_true rfl, fun m z' hm hz' => ?_, _, _, rfl, rfl, some (.str d.2.1), some (.ref d.2.2.1), some (.int (valD d pl)), rfl, ?_⟩
      · rw [List.getElem?_map] at hz'
        obtain ⟨y, hy, rfl⟩ := Option.map_eq_some_iff.mp hz'
        rw [eqV_int]
        refine decide_eq_false fun e => ?_
        subst e
        have := nd_ix (srt_nd (ok.srt d dmem)) hy (valD_at plt)
        omega
      · rw [hor_snoc okp 0 hv hpl, List.length_map]
        show _ = [some (.ref dl), some (.ref v), some (V.int ((hor 0 (ds.take i) (ps.take i) * szD d + pl : Nat) : Int)), _, _, _]
        rw [Int.natCast_add, Int.natCast_mul]
        rfl
    · rintro σ H' ⟨y3, y4, y5, rfl, rfl⟩
      rw [List.length_map, List.take_length, ← okp.len, List.take_length, hor_all okp]
      exact ⟨_, rfl, q⟩
/-! ### errors -/
abbrev sBad : Stmt := initOf (topS 11)
abbrev nBad : List Str := ["self", "number"]
theorem scBad : FnScope nBad ["self", "number"] (defScope sBad) := ⟨rfl, rfl, rfl, by decide +kernel, rfl, by decide +kernel, by decide +kernel⟩
theorem ok_bad {f C : Addr} {fd : FuncData} (F : Fun K "__init__" "BadNumber.__init__" sBad f fd) (U : Own K mg "BadNumber" C f ["number"]) : FnOk P w K mg base CX0 1 f fd ["self", "number"] (spIni C "number") := by
  refine F.ok scBad (fun vs H Q E h => ?_) (fun cdv A outer s H vs Q E hr h => ?_)
  · obtain ⟨a, v, rfl, _⟩ := h
    rfl
  · obtain ⟨a, v, rfl, e, q⟩ := h
    refine ⟨_, pss_one (ps_ost (pv 0) (pv 1)), ?_⟩
    exact ⟨v, rfl, .ref a, rfl, a, C, rfl, U.oex, U.no _ (by simp), .inl ⟨e, fun dx n ne => q dx n ne⟩⟩
abbrev sUnv : Stmt := initOf (topS 4)
abbrev nUnv : List Str := ["self", "name", "value"]
theorem scUnv : FnScope nUnv ["self", "name", "value"] (defScope sUnv) := ⟨rfl, rfl, rfl, by decide +kernel, rfl, by decide +kernel, by decide +kernel⟩
theorem ok_unv {f C : Addr} {fd : FuncData} (F : Fun K "__init__" "UnknownValue.__init__" sUnv f fd) (U : Own K mg "UnknownValue" C f ["name", "value"]) : FnOk P w K mg base CX0 1 f fd ["self", "name", "value"] (spIni2 C "name" "value") := by
  refine F.ok scUnv (fun vs H Q E h => ?_) (fun cdv A outer s H vs Q E hr h => ?_)
  · obtain ⟨a, v, u, rfl, _⟩ := h
    rfl
  · obtain ⟨a, v, u, rfl, e, q⟩ := h
    refine ⟨_, pss_cons (ps_ost (pv 0) (pv 1)) (pss_one (ps_ost (pv 0) (pv 2))), ?_⟩
    refine ⟨v, rfl, .ref a, rfl, a, C, rfl, U.oex, U.no _ (by simp), .inl ⟨e, fun dx n ne => ?_⟩⟩
    exact ⟨u, rfl, .ref a, rfl, a, C, rfl, U.oex, U.no _ (by simp), .inr ⟨dx, _, upd_same, by rw [upd_ne ne]; exact upd_same, by show 1 ≤ 900; decide, q dx n ne⟩⟩
def spAtX (C : Addr) : Sp := fun vs H _ E => ∃ (dl : Addr) (N : Int) (ds : List DomE), vs = [.ref dl, .int N] ∧ Doms H dl ds ∧ Dok ds ∧ (N < 0 ∨ (tot ds : Int) ≤ N) ∧
  ∀ d H', Same H H' → H' d = some (.xd [("number", .int N)]) → E (.ref C) (some d) H'
theorem ok_atX {f fR C fI : Addr} {fd fdR fdI : FuncData} (F : Fun K "assignment_at" "assignment_at" sAt f fd) (B : Bt mg) (R : Call P w K mg base 1 "room" fR fdR ["box"] spRoom) (U : Own K mg "BadNumber" C fI ["number"]) (I : CallI P w K mg base fI fdI ["self", "number"] (spIni C "number")) :
    FnOk P w K mg base (L2.CX P w) 3 f fd ["domains", "number"] (spAtX C) := by
  refine F.okX scAt (fun vs H Q E h => ?_) (fun cdv A outer s H vs Q E hr h => ?_)
  · obtain ⟨dl, N, ds, rfl, _⟩ := h
    rfl
  · obtain ⟨dl, N, ds, rfl, dm, ok, bad, q⟩ := h
    have hu := hu_of hr
    have nd := scAt.nd
    have hr1 : Room 1 (A.deeper (envOfC "assignment_at" (defScope sAt) s.heap.objs.size f cdv)) := hr.mono (by decide)
    refine ⟨_, pss_cons (ps_set (i := 2) nd rfl (.inl rfl) (pe_call R.ok hr1 (by rfl) R.at_ R.kp R.bd .nil pass0 (pa_cons (pe_callTy (call_dictP rfl) (by rfl) B.dict PyProof.Rows.boot_dict (pa_cons (pv 0) pa_nil)) pa_nil)))
      (pss_cons (ps_if (PW.pt (pw_or (pt_cmpR op_lt (pv 1) pe_int rfl) (pw_or1 (pt_cmpR op_ge (pv 1) (pv 2) rfl))))
        (pss_one (ps_raise rfl (takes_of rfl rfl rfl rfl) (pmk_oex U.oex U.iC U.tI I.ok hr I.bd .nil pass0 (by rfl) U.gC (pa_cons (pv 1) pa_nil)))) pss_nil) pss_any), ?_⟩
    have eL : (ds.map fun d => V.ref d.1) = (ds.map (·.1)).map V.ref := by rw [List.map_map] <;> rfl
    refine ⟨.ref dl, rfl, dl, ds.map (·.1), entK (entsD ds), rfl, by rw [← eL]; exact sl_map dm.lst, paired_doms ds dm.tup, fun D nD => ?_⟩
    obtain ⟨em, bu⟩ := bu_doms dm ok nD
    rw [em]
    have s0 := same_new (o := HO.dK (entK (entsD ds))) nD
    refine ⟨D, entsD ds, rfl, bu, fun e he => ?_, ?_⟩
    · obtain ⟨d, hd, rfl⟩ := List.mem_map.mp he
      have : d.2.2.2.length ≤ 31 := ok.sz d hd
      omega
    rw [room_tot]
    generalize upd H D (HO.dK (entK (entsD ds))) = H1 at s0
    refine ⟨.int N, rfl, N, 0, rfl, rfl, _, rfl, ?_⟩
    by_cases c : N < 0
    · refine ifT (decide_eq_true c) (iteT ⟨.int N, rfl, mk_one (C := C) (f := "number") (v := .int N) (H1 := H1) (Q := E) fun d H2 nd2 s2 ed => q d H2 (s0.trans s2) ed⟩)
    · refine ifF (decide_eq_false c) ⟨.int N, rfl, .int (tot ds : Nat), rfl, N, (tot ds : Nat), rfl, rfl, _, rfl, ifT (decide_eq_true (bad.resolve_left c)) ⟨.int N, rfl, mk_one (C := C) (f := "number") (v := .int N) (H1 := H1) (Q := E) fun d H2 nd2 s2 ed => q d H2 (s0.trans s2) ed⟩⟩
end
end K3

set_option Elab.async false
set_option linter.all false
set_option maxRecDepth 100000
set_option maxHeartbeats 4000000
namespace K3
open PySem PySem.Spec PyProof.Rows L2 Cs CsX
abbrev natV (p : Nat) : V := .int (p : Int)
theorem natV_at {ps : List Nat} {i p : Nat} (h : ps[i]? = some p) : (ps.map natV)[i]? = some (.int (p : Int)) := by rw [List.getElem?_map, h] <;> rfl
theorem domV_at {ds : List DomE} {i : Nat} {d : DomE} (h : ds[i]? = some d) : (ds.map fun d => V.ref d.1)[i]? = some (.ref d.1) := by rw [List.getElem?_map, h] <;> rfl
theorem atV_new {ds : List DomE} {ps : List Nat} (okp : Okp ds ps) (nd : (ds.map (·.2.1)).Nodup) {i : Nat} {d : DomE} (hv : ds[i]? = some d) : d.2.1 ∉ (atV (ds.take i) (ps.take i)).map (·.1) := fun z => by
  rw [atV_keys (okp.take i), List.map_take] at z
  obtain ⟨j, hj⟩ := List.mem_iff_getElem?.mp z
  rw [List.getElem?_take] at hj
  split at hj
  · next l => exact absurd (nd_ix nd hj (by rw [List.getElem?_map, hv] <;> rfl)) (by omega)
  · cases hj
theorem atV_few {ds : List DomE} {ps : List Nat} (okp : Okp ds ps) (l : ds.length ≤ 30) (i : Nat) : (atV (ds.take i) (ps.take i)).length ≤ 30 := by
  have := congrArg List.length (atV_keys (okp.take i))
  rw [List.length_map, List.length_map, List.length_take] at this
  omega
section
variable {P : Program} {w : World} {K : PySem.W.Frag} {mg : Str → Option Value} {base : Heap}
def spNoX (C : Addr) : Sp := fun vs H _ E => ∃ (dl v : Addr) (ds : List DomE) (A : List (Str × Int)) (i0 : Nat) (d0 : DomE) (z : Int), vs = [.ref dl, .ref v] ∧ Doms H dl ds ∧ Dok ds ∧ Vd H v A ∧ ds[i0]? = some d0 ∧ aget A d0.2.1 = some z ∧ z ∉ d0.2.2.2 ∧
  (∀ (i : Nat) (d : DomE), i < i0 → ds[i]? = some d → ∃ y, aget A d.2.1 = some y ∧ y ∈ d.2.2.2) ∧ ∀ dd H', Same H H' → H' dd = some (.xd [("value", .int z), ("name", .str d0.2.1)]) → E (.ref C) (some dd) H'
theorem ok_noX {f C fI : Addr} {fd fdI : FuncData} (F : Fun K "number_of" "number_of" sNo f fd) (B : Bt mg) (U : Own K mg "UnknownValue" C fI ["name", "value"]) (I : CallI P w K mg base fI fdI ["self", "name", "value"] (spIni2 C "name" "value")) :
    FnOk P w K mg base (L2.CX P w) 3 f fd ["domains", "values"] (spNoX C) := by
  refine F.okX scNo (fun vs H Q E h => ?_) (fun cdv A outer s H vs Q E hr h => ?_)
  · obtain ⟨dl, v, ds, A, i0, d0, z, rfl, _⟩ := h
    rfl
  · obtain ⟨dl, v, ds, Av, i0, d0, z, rfl, dm, ok, vd, h0, hz, out, bef, q⟩ := h
    have hu := hu_of hr
    have nd := scNo.nd
    refine ⟨_, pss_cons (ps_set (i := 2) nd rfl (.inl rfl) pe_int)
      (pss_cons (ps_for (passes_of rfl) rfl (pi_list (pv 0)) (pg_tup rfl (pgs_cons (pg_name (i := 3) nd rfl (.inl rfl)) (pgs_cons (pg_name (i := 4) nd rfl (.inl rfl)) pgs_nil)))
        (pss_cons (ps_set (i := 5) nd rfl (.inl rfl) (pe_dget hu (pv 1) (pv 3) (fun _ _ => rfl)))
        (pss_cons (ps_if (pt_cmpR (r := rIn K true) op_notIn_seq (pv 5) (pv 4) rfl) (pss_one (ps_raise rfl (takes_of rfl rfl rfl rfl) (pmk_oex U.oex U.iC U.tI I.ok hr I.bd .nil pass0 (by rfl) U.gC (pa_cons (pv 3) (pa_cons (pv 5) pa_nil))))) pss_nil)
        (pss_one (ps_set (i := 2) nd rfl (.inl rfl) (pe_op op_add (pe_op op_mul (pv 2) (pe_callB call_len_seq (by rfl) B.len PySem.boot_len (pa_cons (pv 4) pa_nil)))
          (pe_bm PySem.F.plainAttrs_list PySem.F.slot_list_index PySem.F.type_list_index mt_index (pv 4) (pa_cons (pv 5) pa_nil))))))))
      pss_any), ?_⟩
    refine ⟨.ref dl, rfl, dl, rfl, ⟨_, sl_map dm.lst⟩, for_list (xs := ds.map fun d => V.ref d.1) (fun i σ H' => ∃ (n : Int) (y3 y4 y5 : Option V), H' = H ∧ i ≤ i0 ∧ σ = [some (.ref dl), some (.ref v), some (.int n), y3, y4, y5])
      ⟨0, none, none, none, rfl, Nat.zero_le _, rfl⟩ (fun i σ H' _ h => by obtain ⟨_, _, _, _, rfl, _⟩ := h; exact sl_map dm.lst) ?_ ?_⟩
    · rintro i x σ H' hx ⟨n, y3, y4, y5, rfl, hi0, rfl⟩
      rw [List.getElem?_map] at hx
      obtain ⟨d, hv, rfl⟩ := Option.map_eq_some_iff.mp hx
      have dmem := List.mem_of_getElem? hv
      have tt : SqT K H' d.1 [V.str d.2.1, V.ref d.2.2.1] := .inl (.inl (dm.tup d dmem))
      have sd := sl_map (K := K) (dm.side d dmem)
      have szd : d.2.2.2.length ≤ 31 := ok.sz d dmem
      have gv := vd.ax.get d.2.1
      refine ⟨d.1, _, rfl, tt, rfl, _, _, rfl, _, [], rfl, rfl, ?_⟩
      by_cases c : i = i0
      · subst c
        obtain rfl : d = d0 := Option.some.inj (hv.symm.trans h0)
        rw [hz] at gv
        refine ⟨.ref v, rfl, .str d.2.1, rfl, v, .int z, rfl, gv, ?_⟩
        refine ⟨.int z, rfl, .ref d.2.2.1, rfl, d.2.2.1, _, rfl, .inl sd, rfl, flat_ints _, _, rfl, ifT (in_yes out) ?_⟩
        exact ⟨.str d.2.1, rfl, .int z, rfl, mk_two (C := C) (f := "name") (g := "value") (v := .str d.2.1) (u := .int z) (H1 := H') (Q := E) fun dd H2 nd2 s2 ed => q dd H2 s2 ed⟩
      · obtain ⟨y, hy, yin⟩ := bef i d (by omega) hv
        rw [hy] at gv
        obtain ⟨j, hj⟩ := List.mem_iff_getElem?.mp yin
        refine ⟨.ref v, rfl, .str d.2.1, rfl, v, .int y, rfl, gv, ?_⟩
        refine ⟨.int y, rfl, .ref d.2.2.1, rfl, d.2.2.1, _, rfl, .inl sd, rfl, flat_ints _, _, rfl, ifF (in_no yin) ?_⟩
        refine ⟨_, rfl, .ref d.2.2.1, rfl, d.2.2.1, _, rfl, .inl sd, _, _, rfl, rfl, .inr ⟨by rw [List.length_map]; omega, by rw [List.length_map]; omega⟩, ?_⟩
        refine ⟨.ref d.2.2.1, rfl, .inl ⟨rfl, _, sd⟩, .int y, rfl, d.2.2.1, _, .int y, j, .int y, rfl, rfl, sd, rfl, flat_ints _, by rw [List.getElem?_map, hj] <;> rfl, by rw [eqV_int]; exact decide_eq_true rfl, fun m z' hm hz' => ?_, _, _, rfl, rfl, _, some (.str d.2.1), some (.ref d.2.2.1), some (.int y), rfl, by omega, rfl⟩
        rw [List.getElem?_map] at hz'
        obtain ⟨t, ht, rfl⟩ := Option.map_eq_some_iff.mp hz'
        rw [eqV_int]
        refine decide_eq_false fun e => ?_
        subst e
        have := nd_ix (srt_nd (ok.srt d dmem)) ht hj
        omega
    · rintro σ H' ⟨n, y3, y4, y5, rfl, hi0, rfl⟩
      have := (List.getElem?_eq_some_iff.mp h0).1
      rw [List.length_map] at hi0
      omega
/-! ### the law's own numbers -/
abbrev sLAt : Stmt := topS 41
abbrev nLAt : List Str := ["_law_domains_here", "_law_places", "_law_values", "_law_k"]
theorem scLAt : FnScope nLAt ["_law_domains_here", "_law_places"] (defScope sLAt) := ⟨rfl, rfl, rfl, by decide +kernel, rfl, by decide +kernel, by decide +kernel⟩
def spLAt : Sp := fun vs H Q _ => ∃ (dl pa : Addr) (ds : List DomE) (ps : List Nat), vs = [.ref dl, .ref pa] ∧ Doms H dl ds ∧ Dok ds ∧ H pa = some (.lst (ps.map natV)) ∧ Okp ds ps ∧
  ∀ (H' : Hp) (d : Addr), Same H H' → H d = none → H' d = some (.dK (intK (atV ds ps))) → Q (.ref d) H'
theorem ok_lat {f : Addr} {fd : FuncData} {k : Nat} (F : Fun K "_law_at" "_law_at" sLAt f fd) (B : Bt mg) : FnOk P w K mg base CX0 (k + 1) f fd ["_law_domains_here", "_law_places"] spLAt := by
  refine F.ok scLAt (fun vs H Q E h => ?_) (fun cdv A outer s H vs Q E hr h => ?_)
  · obtain ⟨dl, pa, ds, ps, rfl, _⟩ := h
    rfl
  · obtain ⟨dl, pa, ds, ps, rfl, dm, ok, epa, okp, q⟩ := h
    have hu := hu_of hr
    have nd := scLAt.nd
    refine ⟨_, pss_cons (ps_set (i := 2) nd rfl (.inl rfl) pe_dnewK)
      (pss_cons (ps_for PassesOwn.never rfl (pi_range1 (by rfl) B.range (pa_cons (pe_callB call_len_seq (by rfl) B.len PySem.boot_len (pa_cons (pv 0) pa_nil)) pa_nil)) (pg_name (i := 3) nd rfl (.inl rfl))
        (pss_one (ps_dput hu (pv 2) (pe_ix ix_tup (pe_ix ix_list (pv 0) (pv 3) (fun _ _ => rfl)) pe_int (fun _ _ => rfl)) (pe_ix ix_list (pe_ix ix_tup (pe_ix ix_list (pv 0) (pv 3) (fun _ _ => rfl)) pe_int (fun _ _ => rfl)) (pe_ix ix_list (pv 1) (pv 3) (fun _ _ => rfl)) (fun _ _ => rfl)) rfl)))
      (pss_one (ps_ret (pv 2)))), ?_⟩
    intro W nW
    have s1 := same_new (o := HO.dK []) nW
    have dlen := ok.len
    refine ⟨.ref dl, rfl, dl, _, rfl, .inl (sl_map (s1 _ _ dm.lst)), _, rfl, by rw [List.length_map]; omega, by rw [List.length_map]; omega, for_range (lo := 0) (n := ((ds.map fun d : DomE => V.ref d.1).length : Int).toNat) (fun i σ H' => ∃ (y3 : Option V), σ = [some (.ref dl), some (.ref pa), some (.ref W), y3] ∧ Same H H' ∧ H' W = some (.dK (intK (atV (ds.take i) (ps.take i)))))
      ⟨none, rfl, s1, upd_same⟩ ?_ ?_⟩
    · rintro i σ H' hi ⟨y3, rfl, sm, eW⟩
      rw [List.length_map] at hi
      have hi' : i < ds.length := by omega
      obtain ⟨d, hv⟩ : ∃ d, ds[i]? = some d := ⟨_, List.getElem?_eq_getElem hi'⟩
      have dmem := List.mem_of_getElem? hv
      obtain ⟨p, hp, plt⟩ := okp.at_ hv
      have dm' := dm.same sm
      have tt : SqT K H' d.1 [V.str d.2.1, V.ref d.2.2.1] := .inl (.inl (dm'.tup d dmem))
      have sd := sl_map (K := K) (dm'.side d dmem)
      refine ⟨.ref dl, rfl, _, rfl, dl, _, _, .ref d.1, rfl, rfl, sl_map dm'.lst, at_of (j := i) (by omega) (domV_at hv), d.1, _, _, .ref d.2.2.1, rfl, rfl, tt, atI_nat (j := 1) rfl, .ref pa, rfl, _, rfl, pa, _, _, .int (p : Int), rfl, rfl, sl_map (sm _ _ epa), at_of (j := i) (by omega) (natV_at hp), d.2.2.1, _, _, .int (valD d p), rfl, rfl, sd, at_of (j := p) rfl (by rw [List.getElem?_map, valD_at plt] <;> rfl), ?_⟩
      refine ⟨.ref W, rfl, .ref dl, rfl, _, rfl, dl, _, _, .ref d.1, rfl, rfl, sl_map dm'.lst, at_of (j := i) (by omega) (domV_at hv), d.1, _, _, .str d.2.1, rfl, rfl, tt, atI_nat (j := 0) rfl, W, _, rfl, DPut.k (k := .inr d.2.1) eW (by rw [intK_len]; exact small1000 (by have := atV_few okp dlen i; omega)), ?_⟩
      rw [putK_int, putA_new (atV_new okp ok.nd hv), ← atV_take okp hv hp]
      exact ⟨_, rfl, same_at sm nW, upd_same⟩
    · rintro σ H' ⟨y3, rfl, sm, eW⟩
      rw [List.length_map, show ((ds.length : Int).toNat) = ds.length by omega, List.take_length, ← okp.len, List.take_length] at eW
      exact ⟨_, rfl, q H' W sm nW eW⟩
abbrev sNum : Stmt := topS 42
abbrev nNum : List Str := ["_law_domains_here", "_law_places", "_law_number_here", "_law_k"]
theorem scNum : FnScope nNum ["_law_domains_here", "_law_places"] (defScope sNum) := ⟨rfl, rfl, rfl, by decide +kernel, rfl, by decide +kernel, by decide +kernel⟩
def spNum : Sp := fun vs H Q _ => ∃ (dl pa : Addr) (ds : List DomE) (ps : List Nat), vs = [.ref dl, .ref pa] ∧ Doms H dl ds ∧ Dok ds ∧ H pa = some (.lst (ps.map natV)) ∧ Okp ds ps ∧ Q (.int (num ds ps : Nat)) H
theorem ok_num {f : Addr} {fd : FuncData} {k : Nat} (F : Fun K "_law_number" "_law_number" sNum f fd) (B : Bt mg) : FnOk P w K mg base CX0 (k + 1) f fd ["_law_domains_here", "_law_places"] spNum := by
  refine F.ok scNum (fun vs H Q E h => ?_) (fun cdv A outer s H vs Q E hr h => ?_)
  · obtain ⟨dl, pa, ds, ps, rfl, _⟩ := h
    rfl
  · obtain ⟨dl, pa, ds, ps, rfl, dm, ok, epa, okp, q⟩ := h
    have nd := scNum.nd
    refine ⟨_, pss_cons (ps_set (i := 2) nd rfl (.inl rfl) pe_int)
      (pss_cons (ps_for PassesOwn.never rfl (pi_range1 (by rfl) B.range (pa_cons (pe_callB call_len_seq (by rfl) B.len PySem.boot_len (pa_cons (pv 0) pa_nil)) pa_nil)) (pg_name (i := 3) nd rfl (.inl rfl))
        (pss_one (ps_set (i := 2) nd rfl (.inl rfl) (pe_op op_add (pe_op op_mul (pv 2) (pe_callB call_len_seq (by rfl) B.len PySem.boot_len (pa_cons (pe_ix ix_tup (pe_ix ix_list (pv 0) (pv 3) (fun _ _ => rfl)) pe_int (fun _ _ => rfl)) pa_nil))) (pe_ix ix_list (pv 1) (pv 3) (fun _ _ => rfl))))))
      (pss_one (ps_ret (pv 2)))), ?_⟩
    have dlen := ok.len
    refine ⟨.ref dl, rfl, dl, _, rfl, .inl (sl_map dm.lst), _, rfl, by rw [List.length_map]; omega, by rw [List.length_map]; omega, for_range (lo := 0) (n := ((ds.map fun d : DomE => V.ref d.1).length : Int).toNat) (fun i σ H' => ∃ (y3 : Option V), H' = H ∧ σ = [some (.ref dl), some (.ref pa), some (.int (hor 0 (ds.take i) (ps.take i) : Nat)), y3])
      ⟨none, rfl, rfl⟩ ?_ ?_⟩
    · rintro i σ H' hi ⟨y3, rfl, rfl⟩
      rw [List.length_map] at hi
      have hi' : i < ds.length := by omega
      obtain ⟨d, hv⟩ : ∃ d, ds[i]? = some d := ⟨_, List.getElem?_eq_getElem hi'⟩
      have dmem := List.mem_of_getElem? hv
      obtain ⟨p, hp, plt⟩ := okp.at_ hv
      have tt : SqT K H' d.1 [V.str d.2.1, V.ref d.2.2.1] := .inl (.inl (dm.tup d dmem))
      have sd := sl_map (K := K) (dm.side d dmem)
      have szd : d.2.2.2.length ≤ 31 := ok.sz d dmem
      refine ⟨_, rfl, .ref dl, rfl, _, rfl, dl, _, _, .ref d.1, rfl, rfl, sl_map dm.lst, at_of (j := i) (by omega) (domV_at hv), d.1, _, _, .ref d.2.2.1, rfl, rfl, tt, atI_nat (j := 1) rfl, d.2.2.1, _, rfl, .inl sd, _, _, rfl, rfl, .inr ⟨by rw [List.length_map]; omega, by rw [List.length_map]; omega⟩, .ref pa, rfl, _, rfl, pa, _, _, .int (p : Int), rfl, rfl, sl_map epa, at_of (j := i) (by omega) (natV_at hp), _, _, rfl, rfl, some (.int (0 + (i : Int))), rfl, ?_⟩
      rw [hor_snoc okp 0 hv hp, List.length_map]
      show _ = [some (.ref dl), some (.ref pa), some (V.int ((hor 0 (ds.take i) (ps.take i) * szD d + p : Nat) : Int)), _]
      rw [Int.natCast_add, Int.natCast_mul]
      rfl
    · rintro σ H' ⟨y3, rfl, rfl⟩
      rw [List.length_map, show ((ds.length : Int).toNat) = ds.length by omega, List.take_length, ← okp.len, List.take_length, hor_all okp]
      exact ⟨_, rfl, q⟩
end
end K3

set_option Elab.async false
set_option linter.all false
set_option maxRecDepth 100000
set_option maxHeartbeats 4000000
namespace K3
open PySem PySem.Spec PyProof.Rows L2 Cs CsX
/-! ### values, by membership -/
theorem aget_iff {A : List (Str × Int)} (nd : (A.map (·.1)).Nodup) (x : Str) (v : Int) : aget A x = some v ↔ (x, v) ∈ A := by
  induction A with
  | nil => simp [aget]
  | cons e A ih =>
    obtain ⟨n1, n2⟩ := List.nodup_cons.mp nd
    rw [aget_cons, List.mem_cons]
    by_cases c : e.1 = x
    · rw [if_pos c]
      constructor
      · intro h
        left
        have := Option.some.inj h
        rw [← c, ← this]
      · rintro (h | h)
        · rw [← h]
        · rw [← c] at h
          exact absurd (List.mem_map_of_mem (f := fun e : Str × Int => e.1) h) n1
    · rw [if_neg c, ih n2]
      constructor
      · exact .inr
      · rintro (h | h)
        · exact absurd (congrArg Prod.fst h).symm c
        · exact h
theorem aget_rev {A : List (Str × Int)} (nd : (A.map (·.1)).Nodup) (x : Str) : aget A.reverse x = aget A x := by
  have nd' : (A.reverse.map (·.1)).Nodup := by rw [List.map_reverse]; exact List.pairwise_reverse.mpr (nd.imp fun h => h.symm)
  refine Option.ext fun v => ?_
  rw [aget_iff nd', aget_iff nd, List.mem_reverse]
def SameA (L M : List (Str × Int)) : Prop := ∀ x, aget L x = aget M x
theorem SameA.keys {L M : List (Str × Int)} (s : SameA L M) {x : Str} (h : x ∈ L.map (·.1)) : x ∈ M.map (·.1) := by
  rw [← aget_mem] at h ⊢
  rw [← s x]
  exact h
theorem SameA.len {L M : List (Str × Int)} (s : SameA L M) (n1 : (L.map (·.1)).Nodup) (n2 : (M.map (·.1)).Nodup) : L.length = M.length := by
  have h1 := List.Nodup.length_le_of_subset n1 fun x hx => s.keys hx
  have h2 := List.Nodup.length_le_of_subset n2 fun x hx => SameA.keys (fun y => (s y).symm) hx
  rw [List.length_map, List.length_map] at h1 h2
  omega
theorem keysI {L : List (Str × Int)} {i : Nat} {k : Key} {v : V} (h : (intK L)[i]? = some (k, v)) : ∃ e, L[i]? = some e ∧ k = .inr e.1 ∧ v = .int e.2 := by
  unfold intK at h
  rw [List.getElem?_map] at h
  obtain ⟨e, he, q⟩ := Option.map_eq_some_iff.mp h
  exact ⟨e, he, (Prod.mk.inj q).1.symm, (Prod.mk.inj q).2.symm⟩
theorem all_repl (n : Nat) : (List.replicate n true).all id = true := by simp
theorem set_mid {α : Type} (A Z : List α) (p x : α) : (A ++ p :: Z).set A.length x = A ++ x :: Z := by
  induction A with
  | nil => rfl
  | cons a A ih => exact congrArg (a :: ·) ih
section
variable {P : Program} {w : World} {K : PySem.W.Frag} {mg : Str → Option Value} {base : Heap}
abbrev sAfter : Stmt := topS 43
abbrev nAfter : List Str := ["_law_domains_here", "_law_places", "_law_after_here", "_law_k"]
theorem scAfter : FnScope nAfter ["_law_domains_here", "_law_places"] (defScope sAfter) := ⟨rfl, rfl, rfl, by decide +kernel, rfl, by decide +kernel, by decide +kernel⟩
def spAfter : Sp := fun vs H Q _ => ∃ (dl pa : Addr) (ds : List DomE) (ps : List Nat), vs = [.ref dl, .ref pa] ∧ Doms H dl ds ∧ Dok ds ∧ H pa = some (.lst (ps.map natV)) ∧ Okp ds ps ∧
  (∀ (H' : Hp) (l : Addr) (qs : List Nat), Same H H' → H l = none → H' l = some (.lst (qs.map natV)) → Okp ds qs → num ds qs = num ds ps + 1 → Q (.ref l) H') ∧ ∀ H', Same H H' → Q .non H'
theorem ok_after {f : Addr} {fd : FuncData} {k : Nat} (F : Fun K "_law_after" "_law_after" sAfter f fd) (B : Bt mg) : FnOk P w K mg base CX0 (k + 1) f fd ["_law_domains_here", "_law_places"] spAfter := by
  refine F.ok scAfter (fun vs H Q E h => ?_) (fun cdv A outer s H vs Q E hr h => ?_)
  · obtain ⟨dl, pa, ds, ps, rfl, _⟩ := h
    rfl
  · obtain ⟨dl, pa, ds, ps, rfl, dm, ok, epa, okp, q1, q2⟩ := h
    have nd := scAfter.nd
    refine ⟨_, pss_cons (ps_set (i := 2) nd rfl (.inl rfl) (pe_callTy call_list_of (by rfl) B.list PyProof.Rows.boot_list (pa_cons (pv 1) pa_nil)))
      (pss_cons (ps_for PassesOwn.never rfl (pi_range3 (by rfl) B.range (pa_cons (pe_op op_sub (pe_callB call_len_seq (by rfl) B.len PySem.boot_len (pa_cons (pv 0) pa_nil)) pe_int) (pa_cons (pe_un un_neg pe_int) (pa_cons (pe_un un_neg pe_int) pa_nil)))) (pg_name (i := 3) nd rfl (.inl rfl))
        (pss_cons (ps_asg (pe_op op_add (pe_ix ix_list (pv 2) (pv 3) (fun _ _ => rfl)) pe_int) (pg_sub (pv 2) (pv 3) set_list))
        (pss_cons (ps_if (pt_cmpR op_lt (pe_ix ix_list (pv 2) (pv 3) (fun _ _ => rfl)) (pe_callB call_len_seq (by rfl) B.len PySem.boot_len (pa_cons (pe_ix ix_tup (pe_ix ix_list (pv 0) (pv 3) (fun _ _ => rfl)) pe_int (fun _ _ => rfl)) pa_nil)) rfl) (pss_one (ps_ret (pv 2))) pss_nil)
        (pss_one (ps_asg pe_int (pg_sub (pv 2) (pv 3) set_list))))))
      (pss_one (ps_ret pe_non))), ?_⟩
    have dlen := ok.len
    have plen := okp.len
    refine ⟨.ref pa, rfl, pa, _, rfl, .inl (sl_map epa), fun a na => ?_⟩
    have s1 := same_new (o := HO.lst (ps.map natV)) na
    refine ⟨.ref dl, rfl, dl, _, rfl, .inl (sl_map (s1 _ _ dm.lst)), _, 1, rfl, rfl, 1, rfl, 1, rfl, _, -1, -1, _, rfl, RgC.neg (by rw [List.length_map]; omega) (by rw [List.length_map]; omega) (by decide) (by decide), for_rangeC (fun i σ H' => ∃ (y3 : Option V), σ = [some (.ref dl), some (.ref pa), some (.ref a), y3] ∧ Same H H' ∧ H' a = some (.lst ((ps.take (ds.length - i) ++ (ps.drop (ds.length - i)).map fun _ => 0).map natV)) ∧ suc (ds.drop (ds.length - i)) (ps.drop (ds.length - i)) = none)
      ⟨none, rfl, s1, ?_, ?_⟩ ?_ ?_⟩
    · rw [upd_same, Nat.sub_zero, ← plen, List.take_length, List.drop_length, List.map_nil, List.append_nil]
    · rw [Nat.sub_zero, List.drop_length, ← plen, List.drop_length] <;> rfl
    · rintro i σ H' hi ⟨y3, rfl, sm, ea, sn⟩
      rw [List.length_map] at hi
      have hi' : i < ds.length := by omega
      obtain ⟨k, hk⟩ : ∃ k, ds.length = k + 1 + i := ⟨ds.length - 1 - i, by omega⟩
      have hki : ds.length - i = k + 1 := by omega
      have hki2 : ds.length - (i + 1) = k := by omega
      rw [hki] at ea sn
      obtain ⟨d, hv⟩ : ∃ d, ds[k]? = some d := ⟨_, List.getElem?_eq_getElem (by omega)⟩
      have dmem := List.mem_of_getElem? hv
      obtain ⟨p, hp, plt⟩ := okp.at_ hv
      have dm' := dm.same sm
      have tt : SqT K H' d.1 [V.str d.2.1, V.ref d.2.2.1] := .inl (.inl (dm'.tup d dmem))
      have sd := sl_map (K := K) (dm'.side d dmem)
      have tk : ps.take (k + 1) = ps.take k ++ [p] := by rw [List.take_add_one, hp] <;> rfl
      have tkl : (ps.take k).length = k := by rw [List.length_take]; omega
      have eV : (ps.take (k + 1) ++ (ps.drop (k + 1)).map fun _ => 0).map natV = (ps.take k).map natV ++ natV p :: ((ps.drop (k + 1)).map fun _ => 0).map natV := by
        rw [tk, List.map_append, List.map_append, List.append_assoc] <;> rfl
      rw [eV] at ea
      have mkl : ((ps.take k).map natV).length = k := by rw [List.length_map, tkl]
      have gk : ((ps.take k).map natV ++ natV p :: ((ps.drop (k + 1)).map fun _ => 0).map natV)[k]? = some (.int (p : Int)) := by
        rw [List.getElem?_append_right (by omega), mkl, Nat.sub_self] <;> rfl
      have kz : (((ds.map fun d : DomE => V.ref d.1).length : Nat) : Int) - 1 + ((i : Nat) : Int) * -1 = (k : Int) := by rw [List.length_map]; omega
      have nsa : ∀ (xs : List V), Same H (upd H' a (.lst xs)) := fun xs => same_at sm na
      refine ⟨.ref a, rfl, _, rfl, a, _, _, .int (p : Int), rfl, rfl, sl_map ea, at_of (j := k) kz gk, (p : Int), 1, rfl, rfl, .ref a, rfl, _, rfl, a, _, _, k, rfl, rfl, ea, ?_, ?_⟩
      · unfold ixN
        rw [kz, if_pos (by omega), if_pos (by rw [List.length_append, mkl, List.length_cons]; omega)] <;> rfl
      have es : ((ps.take k).map natV ++ natV p :: ((ps.drop (k + 1)).map fun _ => 0).map natV).set k (.int ((p : Int) + 1)) = (ps.take k).map natV ++ .int ((p : Int) + 1) :: ((ps.drop (k + 1)).map fun _ => 0).map natV := by
        have := set_mid ((ps.take k).map natV) (((ps.drop (k + 1)).map fun _ => 0).map natV) (natV p) (.int ((p : Int) + 1))
        rw [mkl] at this
        exact this
      rw [es]
      have s2 := nsa ((ps.take k).map natV ++ .int ((p : Int) + 1) :: ((ps.drop (k + 1)).map fun _ => 0).map natV)
      have ea2 := upd_same (H := H') (a := a) (o := HO.lst ((ps.take k).map natV ++ .int ((p : Int) + 1) :: ((ps.drop (k + 1)).map fun _ => 0).map natV))
      have gk2 : ((ps.take k).map natV ++ .int ((p : Int) + 1) :: ((ps.drop (k + 1)).map fun _ => 0).map natV)[k]? = some (.int ((p : Int) + 1)) := by
        rw [List.getElem?_append_right (by omega), mkl, Nat.sub_self] <;> rfl
      have dm2 := dm.same s2
      have tt2 : SqT K _ d.1 [V.str d.2.1, V.ref d.2.2.1] := .inl (.inl (dm2.tup d dmem))
      have sd2 := sl_map (K := K) (dm2.side d dmem)
      have drd : ds.drop k = d :: ds.drop (k + 1) := drop_at hv
      have drp : ps.drop k = p :: ps.drop (k + 1) := drop_at hp
      have sk : suc (ds.drop k) (ps.drop k) = if p + 1 < szD d then some ((p + 1) :: (ps.drop (k + 1)).map fun _ => 0) else none := by
        rw [drd, drp]
        show (match suc (ds.drop (k + 1)) (ps.drop (k + 1)) with
          | some qs => some (p :: qs)
          | none => if p + 1 < szD d then some ((p + 1) :: (ps.drop (k + 1)).map fun _ => 0) else none) = _
        rw [sn] <;> rfl
      generalize upd H' a (HO.lst ((ps.take k).map natV ++ .int ((p : Int) + 1) :: ((ps.drop (k + 1)).map fun _ => 0).map natV)) = H2 at s2 ea2 dm2 tt2 sd2 ⊢
      refine ⟨.ref a, rfl, _, rfl, a, _, _, .int ((p : Int) + 1), rfl, rfl, sl_map ea2, at_of (j := k) kz gk2, .ref dl, rfl, _, rfl, dl, _, _, .ref d.1, rfl, rfl, sl_map dm2.lst, at_of (j := k) kz (domV_at hv), d.1, _, _, .ref d.2.2.1, rfl, rfl, tt2, atI_nat (j := 1) rfl, d.2.2.1, _, rfl, .inl sd2, (p : Int) + 1, _, rfl, rfl, _, rfl, ?_⟩
      have ll : (((d.2.2.2.map V.int).length : Nat) : Int) = (d.2.2.2.length : Int) := by rw [List.length_map]
      by_cases lt : p + 1 < szD d
      · rw [if_pos lt] at sk
        have e3 := suc_pre okp sk
        obtain ⟨o1, o2⟩ := (suc_ok okp).1 _ e3
        refine ifT (decide_eq_true (by have : p + 1 < d.2.2.2.length := lt; omega)) ⟨.ref a, rfl, q1 H2 a _ s2 na ?_ o1 o2⟩
        rw [ea2, List.map_append, List.map_cons]
        show _ = some (HO.lst ((ps.take k).map natV ++ V.int ((p + 1 : Nat) : Int) :: _))
        rw [Int.natCast_add] <;> rfl
      · rw [if_neg lt] at sk
        refine ifF (decide_eq_false (by have : ¬ p + 1 < d.2.2.2.length := lt; omega)) ⟨.ref a, rfl, _, rfl, a, _, _, k, rfl, rfl, ea2, ?_, ?_⟩
        · unfold ixN
          rw [kz, if_pos (by omega), if_pos (by rw [List.length_append, mkl, List.length_cons]; omega)] <;> rfl
        · have es2 : ((ps.take k).map natV ++ .int ((p : Int) + 1) :: ((ps.drop (k + 1)).map fun _ => 0).map natV).set k (.int 0) = (ps.take k).map natV ++ .int 0 :: ((ps.drop (k + 1)).map fun _ => 0).map natV := by
            have := set_mid ((ps.take k).map natV) (((ps.drop (k + 1)).map fun _ => 0).map natV) (.int ((p : Int) + 1)) (.int 0)
            rw [mkl] at this
            exact this
          rw [es2]
          refine ⟨_, rfl, same_at s2 na, ?_, ?_⟩
          · rw [upd_same, hki2, drp, List.map_append] <;> rfl
          · rw [hki2]; exact sk
    · rintro σ H' ⟨y3, rfl, sm, ea, sn⟩
      exact q2 _ sm
abbrev sTurn : Stmt := topS 44
abbrev nTurn : List Str := ["_law_values", "_law_turned_here", "_law_name"]
theorem scTurn : FnScope nTurn ["_law_values"] (defScope sTurn) := ⟨rfl, rfl, rfl, by decide +kernel, rfl, by decide +kernel, by decide +kernel⟩
def spTurn : Sp := fun vs H Q _ => ∃ (v : Addr) (A : List (Str × Int)), vs = [.ref v] ∧ Vd H v A ∧ ∀ (H' : Hp) (d : Addr), Same H H' → H d = none → H' d = some (.dK (intK A.reverse)) → Q (.ref d) H'
theorem ok_turn {f : Addr} {fd : FuncData} {k : Nat} (F : Fun K "_law_turned" "_law_turned" sTurn f fd) (B : Bt mg) : FnOk P w K mg base CX0 (k + 1) f fd ["_law_values"] spTurn := by
  refine F.ok scTurn (fun vs H Q E h => ?_) (fun cdv A outer s H vs Q E hr h => ?_)
  · obtain ⟨v, A, rfl, _⟩ := h
    rfl
  · obtain ⟨v, Av, rfl, vd, q⟩ := h
    have hu := hu_of hr
    have nd := scTurn.nd
    refine ⟨_, pss_cons (ps_set (i := 1) nd rfl (.inl rfl) pe_dnewK)
      (pss_cons (ps_for PassesOwn.never rfl (pi_list (pe_revL (pe_callTy (call_listD rfl) (by rfl) B.list PyProof.Rows.boot_list (pa_cons (pv 0) pa_nil)))) (pg_name (i := 2) nd rfl (.inl rfl))
        (pss_one (ps_dput hu (pv 1) (pv 2) (pe_dget hu (pv 0) (pv 2) (fun _ _ => rfl)) rfl)))
      (pss_one (ps_ret (pv 1)))), ?_⟩
    intro W nW
    have s1 := same_new (o := HO.dK []) nW
    refine ⟨.ref v, rfl, v, _, rfl, .inl (s1 _ _ vd.un), fun l nl => ?_⟩
    have s2 := s1.trans (same_new (o := HO.lst ((intK Av).map fun kv => kV kv.1)) nl)
    refine ⟨l, _, rfl, sl_map upd_same, fun r nr => ?_⟩
    have s3 := s2.trans (same_new (o := HO.lst ((intK Av).map fun kv => kV kv.1).reverse) nr)
    have eR : ((intK Av).map fun kv => kV kv.1).reverse = (Av.reverse.map (·.1)).map V.str := by
      unfold intK
      rw [List.map_map, List.map_map, List.map_reverse] <;> rfl
    rw [eR] at s3 ⊢
    have nWl : W ≠ l := fun z => by rw [← z, upd_same] at nl; cases nl
    have nWr : W ≠ r := fun z => by rw [← z, upd_ne nWl, upd_same] at nr; cases nr
    have vd3 := vd.same s3
    have nW0 := nW
    have er := upd_same (H := upd (upd H W (HO.dK [])) l (HO.lst ((intK Av).map fun kv => kV kv.1))) (a := r) (o := HO.lst ((Av.reverse.map (·.1)).map V.str))
    have eW : (upd (upd (upd H W (HO.dK [])) l (HO.lst ((intK Av).map fun kv => kV kv.1))) r (HO.lst ((Av.reverse.map (·.1)).map V.str))) W = some (.dK []) := by rw [upd_ne nWr, upd_ne nWl, upd_same]
    generalize upd (upd (upd H W (HO.dK [])) l (HO.lst ((intK Av).map fun kv => kV kv.1))) r (HO.lst ((Av.reverse.map (·.1)).map V.str)) = H3 at s3 vd3 er eW ⊢
    have rl : Av.reverse.length ≤ 40 := by rw [List.length_reverse]; exact vd.few
    have ndr : (Av.reverse.map (·.1)).Nodup := by rw [List.map_reverse]; exact List.pairwise_reverse.mpr (vd.nd.imp fun h => h.symm)
    refine ⟨r, rfl, ⟨_, sl_map er⟩, for_list (xs := (Av.reverse.map (·.1)).map V.str) (fun i σ H' => ∃ (y2 : Option V), σ = [some (.ref v), some (.ref W), y2] ∧ Same H H' ∧ H' r = some (.lst ((Av.reverse.map (·.1)).map V.str)) ∧ H' W = some (.dK (intK (Av.reverse.take i))))
      ⟨none, rfl, s3, er, eW⟩ (fun i σ H' _ h => by obtain ⟨_, _, _, h, _⟩ := h; exact sl_map h) ?_ ?_⟩
    · rintro i x σ H' hx ⟨y2, rfl, sm, er', eW'⟩
      rw [List.getElem?_map, List.getElem?_map] at hx
      obtain ⟨n, hn, rfl⟩ := Option.map_eq_some_iff.mp hx
      obtain ⟨e, he, rfl⟩ := Option.map_eq_some_iff.mp hn
      have hi := (List.getElem?_eq_some_iff.mp he).1
      have em : e ∈ Av := List.mem_reverse.mp (List.mem_of_getElem? he)
      have gv := (vd.same sm).ax.get e.1
      rw [(aget_iff vd.nd e.1 e.2).mpr em] at gv
      have tk : Av.reverse.take (i + 1) = Av.reverse.take i ++ [e] := by rw [List.take_add_one, he] <;> rfl
      have xn : e.1 ∉ (Av.reverse.take i).map (·.1) := fun z => by
        rw [List.map_take] at z
        obtain ⟨j, hj⟩ := List.mem_iff_getElem?.mp z
        rw [List.getElem?_take] at hj
        split at hj
        · next l => exact absurd (nd_ix ndr hj (by rw [List.getElem?_map, he] <;> rfl)) (by omega)
        · cases hj
      refine ⟨.ref v, rfl, .str e.1, rfl, v, .int e.2, rfl, gv, .ref W, rfl, .str e.1, rfl, W, _, rfl, DPut.k (k := .inr e.1) eW' (by rw [intK_len, List.length_take]; exact small1000 (by omega)), ?_⟩
      rw [putK_int, putA_new xn, ← tk]
      have nrW : r ≠ W := fun z => by rw [z, eW'] at er'; cases er'
      exact ⟨_, rfl, same_at sm nW0, by rw [upd_ne nrW]; exact er', upd_same⟩
    · rintro σ H' ⟨y2, rfl, sm, er', eW'⟩
      rw [List.length_map, List.length_map, List.take_length] at eW'
      exact ⟨_, rfl, q H' W sm nW0 eW'⟩
end
end K3

set_option Elab.async false
set_option linter.all false
set_option maxRecDepth 100000
set_option maxHeartbeats 4000000
namespace K3
open PySem PySem.Spec PyProof.Rows L2 Cs CsX
abbrev saysD (ds : List DomE) : List (Str × List Int) := ds.map fun d => (d.2.1, d.2.2.2)
theorem says_keys {gs ds : List DomE} (h : saysD gs = saysD ds) : gs.map (·.2.1) = ds.map (·.2.1) := by
  have := congrArg (List.map Prod.fst) h
  unfold saysD at this
  rw [List.map_map, List.map_map] at this
  exact this
theorem says_mem {M L : List DomE} (h : saysD M = saysD L) {e : DomE} (he : e ∈ M) : ∃ g ∈ L, g.2.1 = e.2.1 ∧ g.2.2.2 = e.2.2.2 := by
  have : (e.2.1, e.2.2.2) ∈ saysD L := h ▸ List.mem_map_of_mem (f := fun e : DomE => (e.2.1, e.2.2.2)) he
  obtain ⟨g, hg, eq⟩ := List.mem_map.mp this
  exact ⟨g, hg, (Prod.mk.inj eq).1, (Prod.mk.inj eq).2⟩
theorem Dok.says {gs ds : List DomE} (h : saysD gs = saysD ds) (ok : Dok ds) : Dok gs := by
  refine ⟨by rw [says_keys h]; exact ok.nd, ?_, fun d hd => ?_, fun d hd => ?_, fun d hd => ?_⟩
  · have := congrArg List.length h
    rw [List.length_map, List.length_map] at this
    have := ok.len
    omega
  · obtain ⟨g, gm, _, e⟩ := says_mem h hd
    show d.2.2.2.length ≤ 31
    rw [← e]; exact ok.sz g gm
  · obtain ⟨g, gm, _, e⟩ := says_mem h hd
    rw [← e]; exact ok.srt g gm
  · obtain ⟨g, gm, e, _⟩ := says_mem h hd
    rw [← e]; exact ok.ok g gm
theorem says_tot : ∀ {gs ds : List DomE}, saysD gs = saysD ds → tot gs = tot ds
  | [], [], _ => rfl
  | [], _ :: _, h => by cases h
  | _ :: _, [], h => by cases h
  | g :: gs, d :: ds, h => by
    have h1 := (List.cons.inj h).1
    have h2 := (List.cons.inj h).2
    have e : szD g = szD d := by show g.2.2.2.length = d.2.2.2.length; rw [(Prod.mk.inj h1).2]
    show szD g * tot gs = szD d * tot ds
    rw [e, says_tot h2]
theorem says_num {ds : List DomE} {ps : List Nat} (okp : Okp ds ps) : ∀ {gs : List DomE}, saysD gs = saysD ds → Okp gs ps ∧ num gs ps = num ds ps ∧ atV gs ps = atV ds ps := by
  induction okp with
  | nil =>
    intro gs h
    cases gs with
    | nil => exact ⟨.nil, rfl, rfl⟩
    | cons => cases h
  | @cons d ds p ps hp t ih =>
    intro gs h
    cases gs with
    | nil => cases h
    | cons g gs =>
      have h1 := (List.cons.inj h).1
      have h2 := (List.cons.inj h).2
      have e : szD g = szD d := by show g.2.2.2.length = d.2.2.2.length; rw [(Prod.mk.inj h1).2]
      obtain ⟨i1, i2, i3⟩ := ih h2
      refine ⟨.cons (by rw [e]; exact hp) i1, ?_, ?_⟩
      · show p * tot gs + num gs ps = p * tot ds + num ds ps
        rw [says_tot h2, i2]
      · show (g.2.1, valD g p) :: atV gs ps = (d.2.1, valD d p) :: atV ds ps
        have : valD g p = valD d p := by show g.2.2.2.getD p 0 = d.2.2.2.getD p 0; rw [(Prod.mk.inj h1).2]
        rw [i3, this, (Prod.mk.inj h1).1]
theorem vd_at {H : Hp} {v : Addr} {ds : List DomE} {ps : List Nat} (ok : Dok ds) (okp : Okp ds ps) (h : H v = some (.dK (intK (atV ds ps)))) : Vd H v (atV ds ps) := by
  refine ⟨h, by rw [atV_keys okp]; exact ok.nd, ?_⟩
  have := congrArg List.length (atV_keys okp)
  rw [List.length_map, List.length_map] at this
  have := ok.len
  omega
theorem Vd.rev {H H' : Hp} {v d : Addr} {A : List (Str × Int)} (B : Vd H v A) (h : H' d = some (.dK (intK A.reverse))) : Vd H' d A.reverse :=
  ⟨h, by rw [List.map_reverse]; exact List.pairwise_reverse.mpr (B.nd.imp fun h => h.symm), by rw [List.length_reverse]; exact B.few⟩
section
variable {P : Program} {w : World} {K : PySem.W.Frag} {mg : Str → Option Value} {base : Heap}
abbrev sSV : Stmt := topS 38
abbrev nSV : List Str := ["_law_actual", "_law_expected", "_law_found", "_law_name"]
theorem scSV : FnScope nSV ["_law_actual", "_law_expected"] (defScope sSV) := ⟨rfl, rfl, rfl, by decide +kernel, rfl, by decide +kernel, by decide +kernel⟩
def spSV : Sp := fun vs H Q _ => ∃ (a e : Addr) (M X : List (Str × Int)), vs = [.ref a, .ref e] ∧ Vd H a M ∧ Vd H e X ∧ SameA M X ∧ a ≠ e ∧ ∀ H', Same H H' → Q (.bl true) H'
theorem ok_sv {f fI : Addr} {fd fdI : FuncData} (F : Fun K "_law_same_values" "_law_same_values" sSV f fd) (B : Bt mg) (I : Call P w K mg base 1 "_law_is_integer" fI fdI ["_law_actual"] spIsInt) :
    FnOk P w K mg base CX0 2 f fd ["_law_actual", "_law_expected"] spSV := by
  refine F.ok scSV (fun vs H Q E h => ?_) (fun cdv A outer s H vs Q E hr h => ?_)
  · obtain ⟨a, e, M, E, rfl, _⟩ := h
    rfl
  · obtain ⟨a, e, M, X, rfl, bm, be, same, nae, q⟩ := h
    have hu := hu_of hr
    have nd := scSV.nd
    refine ⟨_, pss_cons (ps_if (PW.pt (pw_or (pt_not (pt_val (pe_callB call_isi (by rfl) B.isi PyProof.Rows.boot_isinstance (pa_cons (pv 0) (pa_cons (pe_bltn (by rfl) B.dict PyProof.Rows.boot_dict (v := .ty "dict") rfl) pa_nil)))))
        (pw_or1 (pt_cmpR op_ne (pe_callB call_lenD (by rfl) B.len PySem.boot_len (pa_cons (pv 0) pa_nil)) (pe_callB call_lenD (by rfl) B.len PySem.boot_len (pa_cons (pv 1) pa_nil)) rfl)))) (pss_one (ps_ret pe_bl)) pss_nil)
      (pss_cons (ps_lock (ps_setLc (i := 2) (own := [("_law_name", 3)]) (g := gName 3) (te := tVar 3) rfl nd rfl rfl (by rfl) (pi_keys (pv 1)) (blkOk_by (N := nSV) (sc := defScope sSV) (by decide +kernel)) (fun _ _ _ _ _ => pg_name (i := 3) nd rfl (Or.inl rfl))
          (fun _ _ _ _ _ => pts_one (PW.pt (pw_and (pt_cmp (pc_din hu (pv 3) (pv 0))) (pw_and1 (pt_val (pe_call I.ok hr (by rfl) I.at_ I.kp I.bd .nil pass0 (pa_cons (pe_dget hu (pv 0) (pv 3) (fun _ _ => rfl)) pa_nil))))))) (fun _ _ _ _ _ => pv 3)))
      (pss_one (ps_ret (pe_and (pe_cmpR op_eq (pe_callB call_len_seq (by rfl) B.len PySem.boot_len (pa_cons (pv 2) pa_nil)) (pe_callB call_lenD (by rfl) B.len PySem.boot_len (pa_cons (pv 1) pa_nil)) rfl)
        (pe_one (pe_callB (cr_all rfl) (by rfl) B.all PyProof.Rows.boot_all (pa_cons
          (pe_lc (own := [("_law_name", 3)]) (g := gName 3) (tt := tYes) (te := tOp rEq (tDGet (tVar 0) (tVar 3)) (tDGet (tVar 1) (tVar 3))) rfl nd (pi_list (pv 2)) (blkOk_by (N := nSV) (sc := defScope sSV) (by decide +kernel)) (fun _ _ _ _ _ => pg_name (i := 3) nd rfl (Or.inl rfl)) (fun _ _ _ _ _ => pts_nil)
            (fun _ _ _ _ _ => pe_cmpR (r := rEq) op_eq (pe_dget hu (pv 0) (pv 3) (fun _ _ => rfl)) (pe_dget hu (pv 1) (pv 3) (fun _ _ => rfl)) rfl)) pa_nil))))))), ?_⟩
    have lens : M.length = X.length := same.len bm.nd be.nd
    refine ⟨.ref a, rfl, .ref a, .ty "dict", .type "dict", .type "dict", true, rfl, .ty _, .base (.dK bm.un), kit_ty (by decide +kernel), true, rfl, iteF ?_⟩
    refine ⟨.ref a, rfl, a, _, rfl, bm.un, .ref e, rfl, e, _, rfl, be.un, rfl, ?_⟩
    rw [intK_len, intK_len, lens, decide_eq_true rfl]
    refine ⟨false, rfl, iteF ?_⟩
    refine ⟨e, _, be.un, trivial, fun od => ?_⟩
    have ax0 : (upd H e (.frz od (.dK (intK X)))) a = some (.dK (intK M)) := by rw [upd_ne nae]; exact bm.un
    refine ⟨.ref e, rfl, e, od, rfl, .inl ⟨intK X, upd_same, fun D nD => lc_it walk_keys (fun i H' => Same (upd H e (.frz od (.dK (intK X)))) H' ∧ H' D = some (.lst (((X.take i).map (·.1)).map V.str))) ⟨same_new nD, upd_same⟩ (fun i H' _ h => h.1 _ _ upd_same) ?_ ?_⟩⟩
    · rintro i x Hz H' hi ⟨sm, eD⟩ ⟨rfl, k1, v1, hk, rfl⟩
      obtain ⟨x, hx, rfl, rfl⟩ := keysI hk
      have xm := List.mem_of_getElem? hx
      have gx := (aget_iff be.nd x.1 x.2).mpr xm
      have gv := (Ax.get (H := H') (d := a) (A := M) ⟨.inl (sm _ _ ax0)⟩ x.1)
      rw [same x.1, gx] at gv
      refine ⟨rfl, .str x.1, rfl, .ref a, rfl, a, _, rfl, gv, true, rfl, iteT ?_⟩
      refine ⟨.ref a, rfl, .str x.1, rfl, a, .int x.2, rfl, gv, x.2, rfl, true, rfl, iteT ⟨.str x.1, rfl, _, eD, ?_, same_at sm nD, ?_⟩⟩
      · rw [List.length_map, List.length_map, List.length_take]
        have := be.few
        exact small1000 (by omega)
      · rw [upd_same, List.take_add_one, hx, List.map_append, List.map_append]
        rfl
    · rintro H' ⟨sm, eD⟩
      rw [intK_len, List.take_length] at eD
      have eF := sm _ _ (upd_same (H := H) (a := e) (o := HO.frz od (.dK (intK X))))
      have nDe : D ≠ e := fun z => by rw [z, eF] at eD; cases eD
      refine ⟨eF, ?_⟩
      have s2 : Same H (upd H' e (.dK (intK X))) := unlock be.un sm
      have eD2 : (upd H' e (.dK (intK X))) D = some (.lst ((X.map (·.1)).map V.str)) := by rw [upd_ne nDe]; exact eD
      generalize upd H' e (.dK (intK X)) = H2 at s2 eD2 ⊢
      clear sm eD eF H'
      refine ⟨.ref D, rfl, D, _, rfl, .inl (sl_map eD2), .ref e, rfl, e, _, rfl, s2 _ _ be.un, rfl, ?_⟩
      rw [intK_len, List.length_map, List.length_map, decide_eq_true rfl]
      refine ⟨true, rfl, iteT ?_⟩
      refine ⟨.ref D, rfl, D, rfl, ⟨_, sl_map eD2⟩, fun R nR => lc_list (xs := (X.map (·.1)).map V.str) (fun i H' => Same H2 H' ∧ H' R = some (.lst ((List.replicate i true).map V.bl))) ⟨same_new nR, upd_same⟩ (fun i H' _ h => h.1.seq (sl_map eD2)) ?_ ?_⟩
      · rintro i z H' hz ⟨sm, hd⟩
        rw [List.getElem?_map, List.getElem?_map] at hz
        obtain ⟨v, hv, rfl⟩ := Option.map_eq_some_iff.mp hz
        obtain ⟨x, hx, rfl⟩ := Option.map_eq_some_iff.mp hv
        have xm := List.mem_of_getElem? hx
        have gx := (aget_iff be.nd x.1 x.2).mpr xm
        have s3 := s2.trans sm
        have gv := (bm.same s3).ax.get x.1
        rw [same x.1, gx] at gv
        have ev := (be.same s3).ax.get x.1
        rw [gx] at ev
        have few := be.few
        have hi := (List.getElem?_eq_some_iff.mp hx).1
        refine ⟨rfl, .ref a, rfl, .str x.1, rfl, a, .int x.2, rfl, gv, .ref e, rfl, .str x.1, rfl, e, .int x.2, rfl, ev, rfl, ?_⟩
        rw [decide_eq_true rfl]
        refine ⟨_, hd, ?_, same_at sm nR, ?_⟩
        · rw [List.length_map, List.length_replicate]
          exact small1000 (by omega)
        · rw [upd_same, List.replicate_succ', List.map_append]
          rfl
      · rintro H' ⟨sm, hd⟩
        refine ⟨R, _, rfl, sl_map hd, ?_⟩
        rw [all_repl]
        exact q _ (s2.trans sm)
abbrev sMeets : Stmt := topS 45
abbrev nMeets : List Str := ["_law_given", "_law_domains_here", "_law_places", "_law_number_here", "_law_due", "_law_told", "_law_values", "_law_back"]
abbrev pMeets : List Str := ["_law_given", "_law_domains_here", "_law_places", "_law_number_here"]
theorem scMeets : FnScope nMeets pMeets (defScope sMeets) := ⟨rfl, rfl, rfl, by decide +kernel, rfl, by decide +kernel, by decide +kernel⟩
def spMeets : Sp := fun vs H Q _ => ∃ (g dl pa : Addr) (N : Int) (gs ds : List DomE) (ps : List Nat), vs = [.ref g, .ref dl, .ref pa, .int N] ∧ Doms H g gs ∧ Doms H dl ds ∧ saysD gs = saysD ds ∧ Dok ds ∧ H pa = some (.lst (ps.map natV)) ∧ Okp ds ps ∧ N = (num ds ps : Nat) ∧
  ∀ H', Same H H' → Q (.bl true) H'
theorem ok_meets {f fA fT fS fR fN fI : Addr} {fd fdA fdT fdS fdR fdN fdI : FuncData} (F : Fun K "_law_meets" "_law_meets" sMeets f fd) (B : Bt mg) (La : Call P w K mg base 1 "_law_at" fA fdA ["_law_domains_here", "_law_places"] spLAt)
    (At : Call P w K mg base 2 "assignment_at" fT fdT ["domains", "number"] spAt) (Sv : Call P w K mg base 2 "_law_same_values" fS fdS ["_law_actual", "_law_expected"] spSV) (Tu : Call P w K mg base 1 "_law_turned" fR fdR ["_law_values"] spTurn)
    (No : Call P w K mg base 1 "number_of" fN fdN ["domains", "values"] spNo) (I : Call P w K mg base 1 "_law_is_integer" fI fdI ["_law_actual"] spIsInt) : FnOk P w K mg base CX0 3 f fd pMeets spMeets := by
  refine F.ok scMeets (fun vs H Q E h => ?_) (fun cdv A outer s H vs Q E hr h => ?_)
  · obtain ⟨g, dl, pa, N, gs, ds, ps, rfl, _⟩ := h
    rfl
  · obtain ⟨g, dl, pa, N, gs, ds, ps, rfl, dg, dm, says, ok, epa, okp, rfl, q⟩ := h
    have hr1 : Room 1 (A.deeper (envOfC "_law_meets" (defScope sMeets) s.heap.objs.size f cdv)) := hr.mono (by decide)
    have nd := scMeets.nd
    obtain ⟨okpg, numg, atg⟩ := says_num okp says
    have okg := ok.says says
    refine ⟨_, pss_cons (ps_set (i := 4) nd rfl (.inl rfl) (pe_call La.ok hr1 (by rfl) La.at_ La.kp La.bd .nil pass0 (pa_cons (pv 1) (pa_cons (pv 2) pa_nil))))
      (pss_cons (ps_set (i := 5) nd rfl (.inl rfl) (pe_call At.ok hr (by rfl) At.at_ At.kp At.bd .nil pass0 (pa_cons (pv 0) (pa_cons (pv 3) pa_nil))))
      (pss_cons (ps_if (pt_not (pt_val (pe_call Sv.ok hr (by rfl) Sv.at_ Sv.kp Sv.bd .nil pass0 (pa_cons (pv 5) (pa_cons (pv 4) pa_nil))))) (pss_one (ps_ret pe_bl)) pss_nil)
      (pss_cons (ps_for PassesOwn.never rfl (pi_list (pe_lst (pa_cons (pe_call Tu.ok hr1 (by rfl) Tu.at_ Tu.kp Tu.bd .nil pass0 (pa_cons (pv 4) pa_nil)) (pa_cons (pv 5) pa_nil)))) (pg_name (i := 6) nd rfl (.inl rfl))
        (pss_cons (ps_set (i := 7) nd rfl (.inl rfl) (pe_call No.ok hr1 (by rfl) No.at_ No.kp No.bd .nil pass0 (pa_cons (pv 0) (pa_cons (pv 6) pa_nil))))
        (pss_one (ps_if (PW.pt (pw_or (pt_not (pt_val (pe_call I.ok hr1 (by rfl) I.at_ I.kp I.bd .nil pass0 (pa_cons (pv 7) pa_nil)))) (pw_or (pt_cmpR op_ne (pv 7) (pv 3) rfl)
            (pw_or1 (pt_not (pt_val (pe_call Sv.ok hr (by rfl) Sv.at_ Sv.kp Sv.bd .nil pass0 (pa_cons (pv 6) (pa_cons (pv 4) pa_nil))))))))) (pss_one (ps_ret pe_bl)) pss_nil))))
      (pss_one (ps_ret pe_bl))))), ?_⟩
    refine ⟨.ref dl, rfl, .ref pa, rfl, dl, pa, ds, ps, rfl, dm, ok, epa, okp, fun H1 due s1 nd1 e1 => ?_⟩
    refine ⟨.ref g, rfl, .int (num ds ps : Nat), rfl, g, (num ds ps : Nat), gs, ps, rfl, dg.same s1, okg, okpg, by rw [numg], fun H2 told s2 nt e2 => ?_⟩
    rw [atg] at e2
    have v1 := (vd_at ok okp e1).same s2
    have v2 := vd_at ok okp e2
    have ntd : told ≠ due := fun z => by rw [z, e1] at nt; cases nt
    refine ⟨.ref told, rfl, .ref due, rfl, told, due, _, _, rfl, v2, v1, fun x => rfl, ntd, fun H3 s3 => ⟨true, rfl, iteF ?_⟩⟩
    refine ⟨.ref due, rfl, due, _, rfl, v1.same s3, fun H4 tu s4 ntu e4 => ⟨.ref told, rfl, by show 2 ≤ sizeLine; decide, fun l nl => ?_⟩⟩
    have v4 := v1.rev e4
    have s5 := same_new (o := HO.lst [V.ref tu, V.ref told]) nl
    have ntud : tu ≠ due := fun z => by rw [z, (v1.same s3).un] at ntu; cases ntu
    have t1 := (s3.trans s4).trans s5
    have w1 := v1.same t1
    have w2 := v2.same t1
    have w4 := v4.same s5
    have sH := (s1.trans s2).trans t1
    have el := upd_same (H := H4) (a := l) (o := HO.lst [V.ref tu, V.ref told])
    generalize upd H4 l (HO.lst [V.ref tu, V.ref told]) = H5 at w1 w2 w4 sH el ⊢
    refine ⟨l, rfl, ⟨_, sl_map el⟩, for_list (xs := [V.ref tu, V.ref told]) (fun i σ H' => ∃ (y6 y7 : Option V), σ = [some (.ref g), some (.ref dl), some (.ref pa), some (.int (num ds ps : Nat)), some (.ref due), some (.ref told), y6, y7] ∧ Same H5 H')
      ⟨none, none, rfl, Same.refl _⟩ (fun i σ H' _ h => by obtain ⟨_, _, _, h⟩ := h; exact sl_map (h _ _ el)) ?_ ?_⟩
    · rintro i x σ H' hx ⟨y6, y7, rfl, sm⟩
      obtain ⟨t, At', rfl, vt, saysT, sameT, ntd'⟩ : ∃ (t : Addr) (At' : List (Str × Int)), x = .ref t ∧ Vd H' t At' ∧ Says At' gs ps ∧ SameA At' (atV ds ps) ∧ t ≠ due := by
        match i, hx with
        | 0, h =>
          refine ⟨tu, _, (Option.some.inj h).symm, w4.same sm, fun i d p hd hp => ?_, fun x => aget_rev w1.nd x, ntud⟩
          rw [aget_rev w1.nd, ← atg]
          exact atV_get okpg okg.nd hd hp
        | 1, h =>
          refine ⟨told, _, (Option.some.inj h).symm, w2.same sm, fun i d p hd hp => ?_, fun x => rfl, ntd⟩
          rw [← atg]
          exact atV_get okpg okg.nd hd hp
      refine ⟨.ref g, rfl, .ref t, rfl, g, t, gs, ps, At', rfl, (dg.same sH).same sm, okg, okpg, vt, saysT, ?_⟩
      rw [numg]
      refine ⟨.int (num ds ps : Nat), rfl, (num ds ps : Nat), rfl, true, rfl, iteF ⟨.int (num ds ps : Nat), rfl, .int (num ds ps : Nat), rfl, rfl, _, rfl, ifF (by simp) ⟨.ref t, rfl, .ref due, rfl, t, due, At', _, rfl, vt, w1.same sm, sameT, ntd', fun H6 s6 => ⟨true, rfl, iteF ⟨_, _, rfl, sm.trans s6⟩⟩⟩⟩⟩
    · rintro σ H' ⟨y6, y7, rfl, sm⟩
      exact q _ (sH.trans sm)
end
end K3

set_option Elab.async false
set_option linter.all false
set_option maxRecDepth 100000
set_option maxHeartbeats 4000000
namespace K3
open PySem PySem.Spec PyProof.Rows L2 Cs CsX
theorem with_restS {R : L2.St → Hp → Prop} {G : Prop} (C : L2.St → Hp → Prop) (r : ∀ σ H, C σ H → R σ H) (g : (∀ σ H, C σ H → R σ H) → G) : G := g r
theorem ite_two {X : Int → Prop} {c : Bool} {a b : Int} (h : ∀ n, n = a ∨ n = b → X n) : if c = true then X a else X b := by
  cases c
  · rw [if_neg (by decide)]; exact h b (.inr rfl)
  · rw [if_pos rfl]; exact h a (.inl rfl)
theorem ite_both {A B : Prop} {c : Bool} (h1 : c = true → A) (h2 : c = false → B) : if c = true then A else B := by
  cases c
  · rw [if_neg (by decide)]; exact h2 rfl
  · rw [if_pos rfl]; exact h1 rfl
theorem keep_fresh {p : Addr} {H H' : Hp} (k : Keep p H H') (n : H p = none) : Same H H' := fun b o e => k b o (ne_of_none e n) e
theorem Okp.snoc {A : List DomE} {ps : List Nat} (h : Okp A ps) {d : DomE} {p : Nat} (lt : p < szD d) : Okp (A ++ [d]) (ps ++ [p]) := by
  induction h with
  | nil => exact .cons lt .nil
  | cons hp t ih => exact .cons hp ih
theorem sz_pos : ∀ {ds : List DomE}, 0 < tot ds → ∀ d ∈ ds, 0 < szD d
  | d :: ds, h, e, he => by
    rcases List.mem_cons.mp he with z | z
    · rw [z]; exact Nat.pos_of_mul_pos_right h
    · exact sz_pos (Nat.pos_of_mul_pos_left h) e z
section
variable {P : Program} {w : World} {K : PySem.W.Frag} {mg : Str → Option Value} {base : Heap}
abbrev sNd : Stmt := topS 46
abbrev nNd : List Str := ["_law_script", "_law_given", "_law_domains_here", "_law_total", "_law_places", "_law_number_here", "_law_k", "_law_stream_here", "_law_after_here", "_law_domain"]
abbrev pNd : List Str := ["_law_script", "_law_given", "_law_domains_here", "_law_total"]
theorem scNd : FnScope nNd pNd (defScope sNd) := ⟨rfl, rfl, rfl, by decide +kernel, rfl, by decide +kernel, by decide +kernel⟩
def spNd (K : PySem.W.Frag) : Sp := fun vs H Q _ => ∃ (a g dl : Addr) (sc : List Int) (gs ds : List DomE), vs = [.ref a, .ref g, .ref dl, .int (tot ds : Nat)] ∧ SqL K H a (sc.map V.int) ∧ Doms H g gs ∧ Doms H dl ds ∧ saysD gs = saysD ds ∧ Dok ds ∧ 0 < tot ds ∧
  ∀ H', Same H H' → Q (.bl true) H'
theorem ok_nd {f fM fA fS fD fN : Addr} {fd fdM fdA fdS fdD fdN : FuncData} (F : Fun K "_law_numbered" "_law_numbered" sNd f fd) (B : Bt mg) (M : Call P w K mg base 3 "_law_meets" fM fdM pMeets spMeets)
    (Af : Call P w K mg base 1 "_law_after" fA fdA ["_law_domains_here", "_law_places"] spAfter) (T : Call P w K mg base 1 "_law_stream" fS fdS ["_law_script", "_law_k"] (spStream K))
    (D : Call P w K mg base 1 "_law_next" fD fdD ["_law_stream_here", "_law_size"] spDraw) (Nu : Call P w K mg base 1 "_law_number" fN fdN ["_law_domains_here", "_law_places"] spNum) : FnOk P w K mg base CX0 4 f fd pNd (spNd K) := by
  refine F.ok scNd (fun vs H Q E h => ?_) (fun cdv A outer s H vs Q E hr h => ?_)
  · obtain ⟨a, g, dl, sc, gs, ds, rfl, _⟩ := h
    rfl
  · obtain ⟨a, g, dl, sc, gs, ds, rfl, ha, dg, dm, says, ok, pos, q⟩ := h
    have hr1 : Room 1 (A.deeper (envOfC "_law_numbered" (defScope sNd) s.heap.objs.size f cdv)) := hr.mono (by decide)
    have nd := scNd.nd
    refine ⟨_, pss_cons (ps_setLc (i := 4) (own := [("_law_domain", 9)]) (g := gName 9) (tt := tYes) (te := tC (.int 0)) rfl nd rfl rfl (by rfl) (pi_list (pv 2)) (blkOk_by (N := nNd) (sc := defScope sNd) (by decide +kernel)) (fun _ _ _ _ _ => pg_name (i := 9) nd rfl (Or.inl rfl)) (fun _ _ _ _ _ => pts_nil) (fun _ _ _ _ _ => pe_int))
      (pss_cons (ps_for PassesOwn.never rfl (pi_range1 (by rfl) B.range (pa_cons (pe_ifExp (pt_cmpR op_le (pv 3) pe_int rfl) pe_int pe_int) pa_nil)) (pg_name (i := 5) nd rfl (.inl rfl))
        (pss_cons (ps_if (pt_not (pt_val (pe_call M.ok hr (by rfl) M.at_ M.kp M.bd .nil pass0 (pa_cons (pv 1) (pa_cons (pv 2) (pa_cons (pv 4) (pa_cons (pv 5) pa_nil))))))) (pss_one (ps_ret pe_bl)) pss_nil)
        (pss_cons (ps_set (i := 4) nd rfl (.inl rfl) (pe_call Af.ok hr1 (by rfl) Af.at_ Af.kp Af.bd .nil pass0 (pa_cons (pv 2) (pa_cons (pv 4) pa_nil))))
        (pss_one (ps_if (pt_cmp (pc_isN (pv 4))) (pss_one ps_break) pss_nil)))))
      (pss_cons (ps_if (pt_not (pt_val (pe_call M.ok hr (by rfl) M.at_ M.kp M.bd .nil pass0 (pa_cons (pv 1) (pa_cons (pv 2) (pa_cons
          (pe_lc (own := [("_law_domain", 9)]) (g := gName 9) (tt := tYes) (te := tOp (rI0 fun i j => .int (i - j)) (tCB (fun xs H Q => ∃ p ys, xs = [V.ref p] ∧ (SqL K H p ys ∨ SqT K H p ys) ∧ Q (V.int ys.length) H) (tCons (tOp (rIxT K) (tVar 9) (tC (V.int 1))) tNil)) (tC (.int 1))) rfl nd (pi_list (pv 2)) (blkOk_by (N := nNd) (sc := defScope sNd) (by decide +kernel)) (fun _ _ _ _ _ => pg_name (i := 9) nd rfl (Or.inl rfl)) (fun _ _ _ _ _ => pts_nil)
            (fun _ _ _ _ _ => pe_op op_sub (pe_callB call_len_seq (by rfl) B.len PySem.boot_len (pa_cons (pe_ix (r := rIxT K) ix_tup (pv 9) pe_int (fun _ _ => rfl)) pa_nil)) pe_int))
          (pa_cons (pe_op op_sub (pv 3) pe_int) pa_nil))))))) (pss_one (ps_ret pe_bl)) pss_nil)
      (pss_cons (ps_for PassesOwn.never rfl (pi_range2 (by rfl) B.range (pa_cons pe_int (pa_cons pe_int pa_nil))) (pg_name (i := 6) nd rfl (.inl rfl))
        (pss_cons (ps_set (i := 7) nd rfl (.inr rfl) (pe_call T.ok hr1 (by rfl) T.at_ T.kp T.bd .nil pass0 (pa_cons (pv 0) (pa_cons (pv 6) pa_nil))))
        (pss_cons (ps_setLc (i := 4) (own := [("_law_domain", 9)]) (g := gName 9) (tt := tYes) (te := tCall spDraw [] E0 (tCons (tVar 7) (tCons (tCB (fun xs H Q => ∃ p ys, xs = [V.ref p] ∧ (SqL K H p ys ∨ SqT K H p ys) ∧ Q (V.int ys.length) H) (tCons (tOp (rIxT K) (tVar 9) (tC (V.int 1))) tNil)) tNil))) rfl nd rfl rfl (by rfl) (pi_list (pv 2)) (blkOk_by (N := nNd) (sc := defScope sNd) (by decide +kernel)) (fun _ _ _ _ _ => pg_name (i := 9) nd rfl (Or.inl rfl)) (fun _ _ _ _ _ => pts_nil)
            (fun _ _ _ _ _ => pe_call D.ok hr1 (by rfl) D.at_ D.kp D.bd .nil pass0 (pa_cons (pv 7) (pa_cons (pe_callB call_len_seq (by rfl) B.len PySem.boot_len (pa_cons (pe_ix (r := rIxT K) ix_tup (pv 9) pe_int (fun _ _ => rfl)) pa_nil)) pa_nil))))
        (pss_cons (ps_set (i := 5) nd rfl (.inl rfl) (pe_call Nu.ok hr1 (by rfl) Nu.at_ Nu.kp Nu.bd .nil pass0 (pa_cons (pv 2) (pa_cons (pv 4) pa_nil))))
        (pss_cons (ps_set (i := 8) nd rfl (.inl rfl) (pe_call Af.ok hr1 (by rfl) Af.at_ Af.kp Af.bd .nil pass0 (pa_cons (pv 2) (pa_cons (pv 4) pa_nil))))
        (pss_cons (ps_if (pt_not (pt_val (pe_call M.ok hr (by rfl) M.at_ M.kp M.bd .nil pass0 (pa_cons (pv 1) (pa_cons (pv 2) (pa_cons (pv 4) (pa_cons (pv 5) pa_nil))))))) (pss_one (ps_ret pe_bl)) pss_nil)
        (pss_one (ps_if (PW.pt (pw_and (pt_cmp (pc_notN (pv 8))) (pw_and1 (pt_not (pt_val (pe_call M.ok hr (by rfl) M.at_ M.kp M.bd .nil pass0 (pa_cons (pv 1) (pa_cons (pv 2) (pa_cons (pv 8) (pa_cons (pe_op op_add (pv 5) pe_int) pa_nil))))))))))
          (pss_one (ps_ret pe_bl)) pss_nil))))))))
      (pss_one (ps_ret pe_bl))))), ?_⟩
    have dlen := ok.len
    have okp0 := (zero_ok pos).1
    have num0 := (zero_ok pos).2
    refine ⟨.ref dl, rfl, dl, rfl, ⟨_, sl_map dm.lst⟩, fun Z nZ => lc_list (xs := ds.map fun d : DomE => V.ref d.1) (fun i H' => Same H H' ∧ H' Z = some (.lst (((ds.take i).map fun _ => 0).map natV))) ⟨same_new nZ, upd_same⟩ (fun i H' _ h => h.1.seq (sl_map dm.lst)) ?_ ?_⟩
    · rintro i x H' hx ⟨sm, eZ⟩
      rw [List.getElem?_map] at hx
      obtain ⟨d, hv, rfl⟩ := Option.map_eq_some_iff.mp hx
      refine ⟨rfl, _, eZ, ?_, same_at sm nZ, ?_⟩
      · rw [List.length_map, List.length_map, List.length_take]
        exact small1000 (by omega)
      · rw [upd_same, List.take_add_one, hv, List.map_append, List.map_append] <;> rfl
    rintro H1 ⟨s1, eZ⟩
    rw [List.length_map, List.take_length] at eZ
    -- the first numbers
    refine' with_restS (fun σ H' => ∃ (y4 y5 : Option V), σ = [some (.ref a), some (.ref g), some (.ref dl), some (.int (tot ds : Nat)), y4, y5, none, none, none, none] ∧ Same H H') ?r (fun rest => ⟨.int (tot ds : Nat), rfl, (tot ds : Nat), 60, rfl, rfl, _, rfl, ?k⟩)
    case k =>
      refine ite_both (fun _ => ?_) (fun _ => ?_)
      · refine ⟨60, rfl, by decide, by decide, for_range (lo := 0) (n := (60 : Int).toNat) (fun i σ H' => ∃ (pa : Addr) (ps : List Nat) (y5 : Option V), σ = [some (.ref a), some (.ref g), some (.ref dl), some (.int (tot ds : Nat)), some (.ref pa), y5, none, none, none, none] ∧ Same H H' ∧ H' pa = some (.lst (ps.map natV)) ∧ Okp ds ps ∧ num ds ps = i)
          ⟨Z, _, none, rfl, s1, eZ, okp0, num0⟩ ?_ ?_⟩
        · rintro i σ H' hi ⟨pa, ps, y5, rfl, sm, epa, okp, en⟩
          refine ⟨.ref g, rfl, .ref dl, rfl, .ref pa, rfl, _, rfl, g, dl, pa, _, gs, ds, ps, rfl, dg.same sm, dm.same sm, says, ok, epa, okp, by rw [en]; omega, fun H6 s6 => ⟨true, rfl, iteF ?_⟩⟩
          have m6 := sm.trans s6
          refine ⟨.ref dl, rfl, .ref pa, rfl, dl, pa, ds, ps, rfl, dm.same m6, ok, s6 _ _ epa, okp, fun H7 l qs s7 nl el oq nq => ?_, fun H7 s7 => ?_⟩
          · exact ⟨.ref l, rfl, _, rfl, ifF (by simp) ⟨l, qs, _, rfl, m6.trans s7, el, oq, by omega⟩⟩
          · exact ⟨.non, rfl, _, rfl, ifT (by simp) (rest _ _ ⟨_, _, rfl, m6.trans s7⟩)⟩
        · rintro σ H' ⟨pa, ps, y5, rfl, sm, epa, okp, en⟩
          exact rest _ _ ⟨_, _, rfl, sm⟩
      · refine ⟨25, rfl, by decide, by decide, for_range (lo := 0) (n := (25 : Int).toNat) (fun i σ H' => ∃ (pa : Addr) (ps : List Nat) (y5 : Option V), σ = [some (.ref a), some (.ref g), some (.ref dl), some (.int (tot ds : Nat)), some (.ref pa), y5, none, none, none, none] ∧ Same H H' ∧ H' pa = some (.lst (ps.map natV)) ∧ Okp ds ps ∧ num ds ps = i)
          ⟨Z, _, none, rfl, s1, eZ, okp0, num0⟩ ?_ ?_⟩
        · rintro i σ H' hi ⟨pa, ps, y5, rfl, sm, epa, okp, en⟩
          refine ⟨.ref g, rfl, .ref dl, rfl, .ref pa, rfl, _, rfl, g, dl, pa, _, gs, ds, ps, rfl, dg.same sm, dm.same sm, says, ok, epa, okp, by rw [en]; omega, fun H6 s6 => ⟨true, rfl, iteF ?_⟩⟩
          have m6 := sm.trans s6
          refine ⟨.ref dl, rfl, .ref pa, rfl, dl, pa, ds, ps, rfl, dm.same m6, ok, s6 _ _ epa, okp, fun H7 l qs s7 nl el oq nq => ?_, fun H7 s7 => ?_⟩
          · exact ⟨.ref l, rfl, _, rfl, ifF (by simp) ⟨l, qs, _, rfl, m6.trans s7, el, oq, by omega⟩⟩
          · exact ⟨.non, rfl, _, rfl, ifT (by simp) (rest _ _ ⟨_, _, rfl, m6.trans s7⟩)⟩
        · rintro σ H' ⟨pa, ps, y5, rfl, sm, epa, okp, en⟩
          exact rest _ _ ⟨_, _, rfl, sm⟩
    case r =>
      rintro σ H2 ⟨y4, y5, rfl, s2⟩
      have okm := (max_ok pos).1
      have numm := (max_ok pos).2
      have dm2 := dm.same s2
      refine ⟨.ref g, rfl, .ref dl, rfl, .ref dl, rfl, dl, rfl, ⟨_, sl_map dm2.lst⟩, fun Y nY => lc_list (xs := ds.map fun d : DomE => V.ref d.1) (fun i H' => Same H2 H' ∧ H' Y = some (.lst ((maxP (ds.take i)).map natV))) ⟨same_new nY, upd_same⟩ (fun i H' _ h => h.1.seq (sl_map dm2.lst)) ?_ ?_⟩
      · rintro i x H' hx ⟨sm, eY⟩
        rw [List.getElem?_map] at hx
        obtain ⟨d, hv, rfl⟩ := Option.map_eq_some_iff.mp hx
        have dmem := List.mem_of_getElem? hv
        have dm' := dm2.same sm
        have tt : SqT K H' d.1 [V.str d.2.1, V.ref d.2.2.1] := .inl (.inl (dm'.tup d dmem))
        obtain ⟨p, hp, plt⟩ := okm.at_ hv
        have plt' : p < d.2.2.2.length := plt
        refine ⟨rfl, .ref d.1, rfl, d.1, _, _, .ref d.2.2.1, rfl, rfl, tt, atI_nat (j := 1) rfl, d.2.2.1, _, rfl, .inl (sl_map (dm'.side d dmem)), _, 1, rfl, rfl, _, eY, ?_, same_at sm nY, ?_⟩
        · rw [List.length_map]
          unfold maxP
          rw [List.length_map, List.length_take]
          exact small1000 (by omega)
        · rw [upd_same, List.length_map]
          unfold maxP
          rw [List.take_add_one, hv, List.map_append, List.map_append]
          show _ = some (HO.lst (_ ++ [V.int ((d.2.2.2.length - 1 : Nat) : Int)]))
          rw [Int.natCast_sub (by omega)] <;> rfl
      · rintro H3 ⟨s3, eY⟩
        rw [List.length_map, List.take_length] at eY
        have m3 := s2.trans s3
        refine ⟨.int (tot ds : Nat), rfl, (tot ds : Nat), 1, rfl, rfl, g, dl, Y, _, gs, ds, maxP ds, rfl, dg.same m3, dm.same m3, says, ok, eY, okm, by omega, fun H4 s4 => ⟨true, rfl, iteF ?_⟩⟩
        have m4 := m3.trans s4
        -- drawn ones
        refine ⟨1, 7, rfl, by decide, for_range (lo := 1) (n := (7 - 1 : Int).toNat) (fun i σ H' => ∃ (y4 y5 y6 y7 y8 : Option V), σ = [some (.ref a), some (.ref g), some (.ref dl), some (.int (tot ds : Nat)), y4, y5, y6, y7, y8, none] ∧ Same H H')
          ⟨_, _, _, _, _, rfl, m4⟩ ?_ ?_⟩
        · rintro i σ H' hi ⟨y4, y5, y6, y7, y8, rfl, sm⟩
          refine ⟨.ref a, rfl, _, rfl, a, sc, 1 + i, ?_, sm.seq ha, fun H6 p s6 np st6 => ?_⟩
          · show [V.ref a, V.int (1 + (i : Int))] = [V.ref a, V.int ((1 + i : Nat) : Int)]
            rw [Int.natCast_add] <;> rfl
          have m6 := sm.trans s6
          have dm6 := dm.same m6
          have pdl : dl ≠ p := fun z => by rw [← z, sm _ _ dm.lst] at np; cases np
          have apart : ∀ d ∈ ds, d.1 ≠ p ∧ d.2.2.1 ≠ p := fun d hd => ⟨(fun z => by rw [← z, (dm.same sm).tup d hd] at np; cases np), (fun z => by rw [← z, (dm.same sm).side d hd] at np; cases np)⟩
          refine ⟨.ref dl, rfl, dl, rfl, ⟨_, sl_map dm6.lst⟩, fun R nR => ?_⟩
          have pR : p ≠ R := fun z => st6.some (z ▸ nR)
          refine lc_list (xs := ds.map fun d : DomE => V.ref d.1) (fun j H' => Keep p H6 H' ∧ Strm H' p ∧ ∃ ps : List Nat, H' R = some (.lst (ps.map natV)) ∧ Okp (ds.take j) ps) ⟨(Keep.refl p H6).at_ nR, st6.upd pR, [], upd_same, .nil⟩ (fun j H' _ h => sl_map (h.1 _ _ pdl dm6.lst)) ?_ ?_
          · rintro j x H7 hx ⟨k7, st7, ps, eR, okp⟩
            rw [List.getElem?_map] at hx
            obtain ⟨d, hv, rfl⟩ := Option.map_eq_some_iff.mp hx
            have dmem := List.mem_of_getElem? hv
            have dm7 := dm6.keep k7 pdl apart
            have tt : SqT K H7 d.1 [V.str d.2.1, V.ref d.2.2.1] := .inl (.inl (dm7.tup d dmem))
            have p0 : 0 < d.2.2.2.length := sz_pos pos d dmem
            have p1 : d.2.2.2.length ≤ 31 := ok.sz d dmem
            refine ⟨rfl, .ref p, rfl, .ref d.1, rfl, d.1, _, _, .ref d.2.2.1, rfl, rfl, tt, atI_nat (j := 1) rfl, d.2.2.1, _, rfl, .inl (sl_map (dm7.side d dmem)), p, _, rfl, st7, by rw [List.length_map]; omega, by rw [List.length_map]; omega, fun H8 v o8 st8 v0 v1 => ?_⟩
            rw [List.length_map] at v1
            obtain ⟨v, rfl⟩ : ∃ n : Nat, v = (n : Int) := ⟨v.toNat, by omega⟩
            have k8 := k7.oth o8
            have lps : ps.length ≤ 30 := by
              have := okp.len
              rw [List.length_take] at this
              omega
            refine ⟨_, (o8 R pR.symm).trans eR, ?_, k8.at_ nR, st8.upd pR, ps ++ [v], ?_, ?_⟩
            · rw [List.length_map]; exact small1000 (by omega)
            · rw [upd_same, List.map_append] <;> rfl
            · rw [List.take_add_one, hv]
              exact okp.snoc (show v < d.2.2.2.length by omega)
          · rintro H7 ⟨k7, st7, ps, eR, okp⟩
            rw [List.length_map, List.take_length] at okp
            have m7 : Same H H7 := sm.trans (keep_fresh ((Keep.same s6).trans k7) np)
            have dm7 := dm.same m7
            have dg7 := dg.same m7
            refine ⟨.ref dl, rfl, .ref R, rfl, dl, R, ds, ps, rfl, dm7, ok, eR, okp, ?_⟩
            refine ⟨.ref dl, rfl, .ref R, rfl, dl, R, ds, ps, rfl, dm7, ok, eR, okp, fun H8 l qs s8 nl el oq nq => ?_, fun H8 s8 => ?_⟩
            · refine ⟨.ref g, rfl, .ref dl, rfl, .ref R, rfl, _, rfl, g, dl, R, _, gs, ds, ps, rfl, dg7.same s8, dm7.same s8, says, ok, s8 _ _ eR, okp, rfl, fun H9 s9 => ⟨true, rfl, iteF ?_⟩⟩
              have m9 := s8.trans s9
              exact ⟨.ref l, rfl, _, rfl, ifT (by simp) ⟨.ref g, rfl, .ref dl, rfl, .ref l, rfl, _, rfl, _, 1, rfl, rfl, g, dl, l, _, gs, ds, qs, rfl, dg7.same m9, dm7.same m9, says, ok, s9 _ _ el, oq, by omega, fun H10 s10 => ⟨true, rfl, iteF ⟨_, _, _, _, _, rfl, (m7.trans m9).trans s10⟩⟩⟩⟩
            · refine ⟨.ref g, rfl, .ref dl, rfl, .ref R, rfl, _, rfl, g, dl, R, _, gs, ds, ps, rfl, dg7.same s8, dm7.same s8, says, ok, s8 _ _ eR, okp, rfl, fun H9 s9 => ⟨true, rfl, iteF ?_⟩⟩
              have m9 := s8.trans s9
              exact ⟨.non, rfl, _, rfl, ifF (by simp) (iteF ⟨_, _, _, _, _, rfl, m7.trans m9⟩)⟩
        · rintro σ H' ⟨y4, y5, y6, y7, y8, rfl, sm⟩
          exact q _ sm
end
end K3

set_option Elab.async false
set_option linter.all false
set_option maxRecDepth 100000
set_option maxHeartbeats 4000000
namespace K3
open PySem PySem.Spec PyProof.Rows L2 Cs CsX
/-- the other errors os, none a class of the error at C; the base class at cd -/
structure Errs (os : List Str) (K : PySem.W.Frag) (mg : Str → Option Value) (C cd : Addr) (cs : List Addr) : Prop where
  len : ∃ c0 c1 c2 c3 c4 c5 c6 c7 c8 c9 c10 c11 c12 c13 c14 c15 c16 c17 c18 c19 c20 c21 c22 : Addr, cs = [c0, c1, c2, c3, c4, c5, c6, c7, c8, c9, c10, c11, c12, c13, c14, c15, c16, c17, c18, c19, c20, c21, c22]
  at_ : ∀ (i : Nat) (x : Str), os[i]? = some x → mg x = some (.ref (cs.getD i 0))
  any : PySem.W.kitAny K (.ref C) (cs.map Value.ref) = some false
  gd : mg "DeskError" = some (.ref cd)
  kd : PySem.W.kitOne K (.ref C) (.ref cd) = some true
  kv : PySem.W.kitOne K (.ref C) (.type "ValueError") = some true
  ve : mg "ValueError" = none
section
variable {P : Program} {w : World} {K : PySem.W.Frag} {mg : Str → Option Value} {base : Heap}
abbrev othersN : List Str := ["UnknownName", "RepeatedName", "UnknownValue", "RepeatedValue", "UnknownKey", "RepeatedKey", "EmptyRule", "BadRow", "BadBounds", "BadStep", "NoMark", "NotStruck", "BadOrder", "NotBare", "NoClash", "HoldsAnswer", "BadLine", "UnknownLine", "BadText", "NothingToUndo", "NothingToRedo", "UnknownStep", "BadDeed"]
abbrev sToldN : Stmt := topS 47
abbrev nToldN : List Str := ["_law_domains_here", "_law_number_here", "e", "_law_other"]
theorem scToldN : FnScope nToldN ["_law_domains_here", "_law_number_here"] (defScope sToldN) := ⟨rfl, rfl, rfl, by decide +kernel, rfl, by decide +kernel, by decide +kernel⟩
def spToldN : Sp := fun vs H Q _ => ∃ (dl : Addr) (N : Int) (ds : List DomE), vs = [.ref dl, .int N] ∧ Doms H dl ds ∧ Dok ds ∧ (N < 0 ∨ (tot ds : Int) ≤ N) ∧ ∀ H', Same H H' → Q (.int N) H'
theorem ok_toldN {f fl C fI cd : Addr} {fd fdl : FuncData} {cs : List Addr} (F : Fun K "_law_told_number" "_law_told_number" sToldN f fd) (B : Bt mg) (U : Own K mg "BadNumber" C fI ["number"]) (E : Errs othersN K mg C cd cs)
    (Fi : CallX P w K mg base 3 "assignment_at" fl fdl ["domains", "number"] (spAtX C)) : FnOk P w K mg base CX0 4 f fd ["_law_domains_here", "_law_number_here"] spToldN := by
  refine F.ok scToldN (fun vs H Q E h => ?_) (fun cdv A outer s H vs Q E1 hr h => ?_)
  · obtain ⟨dl, N, ds, rfl, _⟩ := h
    rfl
  · obtain ⟨dl, N, ds, rfl, dm, ok, bad, q⟩ := h
    have nd := scToldN.nd
    obtain ⟨c0, c1, c2, c3, c4, c5, c6, c7, c8, c9, c10, c11, c12, c13, c14, c15, c16, c17, c18, c19, c20, c21, c22, rfl⟩ := E.len
    refine ⟨_, pss_cons (ps_try_as (i := 2) (c := .ref C) (Wout := fun _ _ _ _ => False)
        (tb := fun W => tDrop (tCallS (spAtX C) (WE W) (tCons (tVar 0) (tCons (tVar 1) tNil))))
        rfl rfl nd rfl rfl ⟨rfl, by decide, Or.inl U.gC⟩ takes0
        (fun W pn xe tk _ => pss_one (ps_expr (pe_callS Fi.ok hr (by rfl) Fi.at_ Fi.kp Fi.bd (fun σ => passAt tk σ) (pa_cons (pv 0) (pa_cons (pv 1) pa_nil)))))
        (fun a oe cls d pn hz hf => pss_cons (ps_set (i := 3) nd rfl (.inl rfl) (pe_callB (r := rIsED K a cls d) (call_isED hz hf) (by rfl) B.isi PyProof.Rows.boot_isinstance (pa_cons (pv 2) (pa_cons (pe_tup (pa_cons (pe_glob (by rfl) (E.at_ 0 _ rfl) (v := .ref c0) rfl) (pa_cons (pe_glob (by rfl) (E.at_ 1 _ rfl) (v := .ref c1) rfl) (pa_cons (pe_glob (by rfl) (E.at_ 2 _ rfl) (v := .ref c2) rfl) (pa_cons (pe_glob (by rfl) (E.at_ 3 _ rfl) (v := .ref c3) rfl) (pa_cons (pe_glob (by rfl) (E.at_ 4 _ rfl) (v := .ref c4) rfl) (pa_cons (pe_glob (by rfl) (E.at_ 5 _ rfl) (v := .ref c5) rfl) (pa_cons (pe_glob (by rfl) (E.at_ 6 _ rfl) (v := .ref c6) rfl) (pa_cons (pe_glob (by rfl) (E.at_ 7 _ rfl) (v := .ref c7) rfl) (pa_cons (pe_glob (by rfl) (E.at_ 8 _ rfl) (v := .ref c8) rfl) (pa_cons (pe_glob (by rfl) (E.at_ 9 _ rfl) (v := .ref c9) rfl) (pa_cons (pe_glob (by rfl) (E.at_ 10 _ rfl) (v := .ref c10) rfl) (pa_cons (pe_glob (by rfl) (E.at_ 11 _ rfl) (v := .ref c11) rfl) (pa_cons (pe_glob (by rfl) (E.at_ 12 _ rfl) (v := .ref c12) rfl) (pa_cons (pe_glob (by rfl) (E.at_ 13 _ rfl) (v := .ref c13) rfl) (pa_cons (pe_glob (by rfl) (E.at_ 14 _ rfl) (v := .ref c14) rfl) (pa_cons (pe_glob (by rfl) (E.at_ 15 _ rfl) (v := .ref c15) rfl) (pa_cons (pe_glob (by rfl) (E.at_ 16 _ rfl) (v := .ref c16) rfl) (pa_cons (pe_glob (by rfl) (E.at_ 17 _ rfl) (v := .ref c17) rfl) (pa_cons (pe_glob (by rfl) (E.at_ 18 _ rfl) (v := .ref c18) rfl) (pa_cons (pe_glob (by rfl) (E.at_ 19 _ rfl) (v := .ref c19) rfl) (pa_cons (pe_glob (by rfl) (E.at_ 20 _ rfl) (v := .ref c20) rfl) (pa_cons (pe_glob (by rfl) (E.at_ 21 _ rfl) (v := .ref c21) rfl) (pa_cons (pe_glob (by rfl) (E.at_ 22 _ rfl) (v := .ref c22) rfl) pa_nil)))))))))))))))))))))))) pa_nil))))
          (pss_cons (ps_if (PW.pt (pw_or (pt_val (pv 3)) (pw_or (pt_not (pt_val (pe_callB (r := rIsED K a cls d) (call_isED hz hf) (by rfl) B.isi PyProof.Rows.boot_isinstance (pa_cons (pv 2) (pa_cons (pe_glob (by rfl) E.gd (v := .ref cd) rfl) pa_nil)))))
              (pw_or1 (pt_not (pt_val (pe_callB (r := rIsED K a cls d) (call_isED hz hf) (by rfl) B.isi PyProof.Rows.boot_isinstance (pa_cons (pv 2) (pa_cons (pe_bltn (by rfl) E.ve PyProof.Rows.Boot.«ValueError» (v := .ty "ValueError") rfl) pa_nil))))))))) (pss_one (ps_ret pe_non)) pss_nil)
          (pss_one (ps_ret (pe_xf U.xf (U.no _ (by simp)) hz hf (pv 2))))))) (pss_one (ps_ret pe_non)), ?_⟩
    refine ⟨.ref dl, rfl, .int N, rfl, dl, N, ds, rfl, dm, ok, bad, fun d H' s ed => ⟨true, U.te, fun _ a na => ?_, fun z => nomatch z⟩⟩
    refine ⟨.ref a, rfl, by show 23 ≤ sizeLine; decide, fun T nT => ⟨C, d, _, .ref T, false, rfl, rfl, rfl, same_new nT _ _ ed, U.ex, .inr ⟨T, [c0, c1, c2, c3, c4, c5, c6, c7, c8, c9, c10, c11, c12, c13, c14, c15, c16, c17, c18, c19, c20, c21, c22], rfl, upd_same, E.any⟩, ?_⟩⟩
    refine ⟨.bl false, rfl, false, rfl, iteF ⟨.ref a, rfl, C, d, _, .ref cd, true, rfl, rfl, rfl, same_new nT _ _ ed, U.ex, .inl ⟨.ref cd, fun u r => by cases r; rfl, E.kd⟩, true, rfl, iteF ⟨.ref a, rfl, C, d, _, .ty "ValueError", true, rfl, rfl, rfl, same_new nT _ _ ed, U.ex, .inl ⟨.type "ValueError", fun u r => by cases r; rfl, E.kv⟩, true, rfl, iteF ?_⟩⟩⟩
    have sT := s.trans (same_new (o := HO.tup ([c0, c1, c2, c3, c4, c5, c6, c7, c8, c9, c10, c11, c12, c13, c14, c15, c16, c17, c18, c19, c20, c21, c22].map V.ref)) nT)
    have eT := same_new (o := HO.tup ([c0, c1, c2, c3, c4, c5, c6, c7, c8, c9, c10, c11, c12, c13, c14, c15, c16, c17, c18, c19, c20, c21, c22].map V.ref)) nT _ _ ed
    exact ⟨.ref a, rfl, rfl, rfl, d, _, .int N, rfl, eT, (by first | rfl | (simp [List.lookup]; done) | (simp [List.lookup]; rfl)), q _ sT⟩
abbrev othersV : List Str := ["UnknownName", "RepeatedName", "RepeatedValue", "UnknownKey", "RepeatedKey", "EmptyRule", "BadRow", "BadBounds", "BadNumber", "BadStep", "NoMark", "NotStruck", "BadOrder", "NotBare", "NoClash", "HoldsAnswer", "BadLine", "UnknownLine", "BadText", "NothingToUndo", "NothingToRedo", "UnknownStep", "BadDeed"]
abbrev sToldV : Stmt := topS 48
abbrev nToldV : List Str := ["_law_domains_here", "_law_values", "e", "_law_other"]
theorem scToldV : FnScope nToldV ["_law_domains_here", "_law_values"] (defScope sToldV) := ⟨rfl, rfl, rfl, by decide +kernel, rfl, by decide +kernel, by decide +kernel⟩
def spToldV : Sp := fun vs H Q _ => ∃ (dl v : Addr) (ds : List DomE) (A : List (Str × Int)) (i0 : Nat) (d0 : DomE) (z : Int), vs = [.ref dl, .ref v] ∧ Doms H dl ds ∧ Dok ds ∧ Vd H v A ∧ ds[i0]? = some d0 ∧ aget A d0.2.1 = some z ∧ z ∉ d0.2.2.2 ∧ (∀ (i : Nat) (d : DomE), i < i0 → ds[i]? = some d → ∃ y, aget A d.2.1 = some y ∧ y ∈ d.2.2.2) ∧ ∀ (H' : Hp) (t : Addr), Same H H' → H t = none → H' t = some (.tup [.str d0.2.1, .int z]) → Q (.ref t) H'
theorem ok_toldV {f fl C fI cd : Addr} {fd fdl : FuncData} {cs : List Addr} (F : Fun K "_law_told_value" "_law_told_value" sToldV f fd) (B : Bt mg) (U : Own K mg "UnknownValue" C fI ["name", "value"]) (E : Errs othersV K mg C cd cs)
    (Fi : CallX P w K mg base 3 "number_of" fl fdl ["domains", "values"] (spNoX C)) : FnOk P w K mg base CX0 4 f fd ["_law_domains_here", "_law_values"] spToldV := by
  refine F.ok scToldV (fun vs H Q E h => ?_) (fun cdv A outer s H vs Q E1 hr h => ?_)
  · obtain ⟨dl, v, ds, Av, i0, d0, z, rfl, _⟩ := h
    rfl
  · obtain ⟨dl, v, ds, Av, i0, d0, z, rfl, dm, ok, vd, h0, hz0, out, bef, q⟩ := h
    have nd := scToldV.nd
    obtain ⟨c0, c1, c2, c3, c4, c5, c6, c7, c8, c9, c10, c11, c12, c13, c14, c15, c16, c17, c18, c19, c20, c21, c22, rfl⟩ := E.len
    refine ⟨_, pss_cons (ps_try_as (i := 2) (c := .ref C) (Wout := fun _ _ _ _ => False)
        (tb := fun W => tDrop (tCallS (spNoX C) (WE W) (tCons (tVar 0) (tCons (tVar 1) tNil))))
        rfl rfl nd rfl rfl ⟨rfl, by decide, Or.inl U.gC⟩ takes0
        (fun W pn xe tk _ => pss_one (ps_expr (pe_callS Fi.ok hr (by rfl) Fi.at_ Fi.kp Fi.bd (fun σ => passAt tk σ) (pa_cons (pv 0) (pa_cons (pv 1) pa_nil)))))
        (fun a oe cls d pn hz hf => pss_cons (ps_set (i := 3) nd rfl (.inl rfl) (pe_callB (r := rIsED K a cls d) (call_isED hz hf) (by rfl) B.isi PyProof.Rows.boot_isinstance (pa_cons (pv 2) (pa_cons (pe_tup (pa_cons (pe_glob (by rfl) (E.at_ 0 _ rfl) (v := .ref c0) rfl) (pa_cons (pe_glob (by rfl) (E.at_ 1 _ rfl) (v := .ref c1) rfl) (pa_cons (pe_glob (by rfl) (E.at_ 2 _ rfl) (v := .ref c2) rfl) (pa_cons (pe_glob (by rfl) (E.at_ 3 _ rfl) (v := .ref c3) rfl) (pa_cons (pe_glob (by rfl) (E.at_ 4 _ rfl) (v := .ref c4) rfl) (pa_cons (pe_glob (by rfl) (E.at_ 5 _ rfl) (v := .ref c5) rfl) (pa_cons (pe_glob (by rfl) (E.at_ 6 _ rfl) (v := .ref c6) rfl) (pa_cons (pe_glob (by rfl) (E.at_ 7 _ rfl) (v := .ref c7) rfl) (pa_cons (pe_glob (by rfl) (E.at_ 8 _ rfl) (v := .ref c8) rfl) (pa_cons (pe_glob (by rfl) (E.at_ 9 _ rfl) (v := .ref c9) rfl) (pa_cons (pe_glob (by rfl) (E.at_ 10 _ rfl) (v := .ref c10) rfl) (pa_cons (pe_glob (by rfl) (E.at_ 11 _ rfl) (v := .ref c11) rfl) (pa_cons (pe_glob (by rfl) (E.at_ 12 _ rfl) (v := .ref c12) rfl) (pa_cons (pe_glob (by rfl) (E.at_ 13 _ rfl) (v := .ref c13) rfl) (pa_cons (pe_glob (by rfl) (E.at_ 14 _ rfl) (v := .ref c14) rfl) (pa_cons (pe_glob (by rfl) (E.at_ 15 _ rfl) (v := .ref c15) rfl) (pa_cons (pe_glob (by rfl) (E.at_ 16 _ rfl) (v := .ref c16) rfl) (pa_cons (pe_glob (by rfl) (E.at_ 17 _ rfl) (v := .ref c17) rfl) (pa_cons (pe_glob (by rfl) (E.at_ 18 _ rfl) (v := .ref c18) rfl) (pa_cons (pe_glob (by rfl) (E.at_ 19 _ rfl) (v := .ref c19) rfl) (pa_cons (pe_glob (by rfl) (E.at_ 20 _ rfl) (v := .ref c20) rfl) (pa_cons (pe_glob (by rfl) (E.at_ 21 _ rfl) (v := .ref c21) rfl) (pa_cons (pe_glob (by rfl) (E.at_ 22 _ rfl) (v := .ref c22) rfl) pa_nil)))))))))))))))))))))))) pa_nil))))
          (pss_cons (ps_if (PW.pt (pw_or (pt_val (pv 3)) (pw_or (pt_not (pt_val (pe_callB (r := rIsED K a cls d) (call_isED hz hf) (by rfl) B.isi PyProof.Rows.boot_isinstance (pa_cons (pv 2) (pa_cons (pe_glob (by rfl) E.gd (v := .ref cd) rfl) pa_nil)))))
              (pw_or1 (pt_not (pt_val (pe_callB (r := rIsED K a cls d) (call_isED hz hf) (by rfl) B.isi PyProof.Rows.boot_isinstance (pa_cons (pv 2) (pa_cons (pe_bltn (by rfl) E.ve PyProof.Rows.Boot.«ValueError» (v := .ty "ValueError") rfl) pa_nil))))))))) (pss_one (ps_ret pe_non)) pss_nil)
          (pss_one (ps_ret (pe_tup (pa_cons (pe_xf U.xf (U.no _ (by simp)) hz hf (pv 2)) (pa_cons (pe_xf U.xf (U.no _ (by simp)) hz hf (pv 2)) pa_nil)))))))) (pss_one (ps_ret pe_non)), ?_⟩
    refine ⟨.ref dl, rfl, .ref v, rfl, dl, v, ds, Av, i0, d0, z, rfl, dm, ok, vd, h0, hz0, out, bef, fun d H' s ed => ⟨true, U.te, fun _ a na => ?_, fun z => nomatch z⟩⟩
    refine ⟨.ref a, rfl, by show 23 ≤ sizeLine; decide, fun T nT => ⟨C, d, _, .ref T, false, rfl, rfl, rfl, same_new nT _ _ ed, U.ex, .inr ⟨T, [c0, c1, c2, c3, c4, c5, c6, c7, c8, c9, c10, c11, c12, c13, c14, c15, c16, c17, c18, c19, c20, c21, c22], rfl, upd_same, E.any⟩, ?_⟩⟩
    refine ⟨.bl false, rfl, false, rfl, iteF ⟨.ref a, rfl, C, d, _, .ref cd, true, rfl, rfl, rfl, same_new nT _ _ ed, U.ex, .inl ⟨.ref cd, fun u r => by cases r; rfl, E.kd⟩, true, rfl, iteF ⟨.ref a, rfl, C, d, _, .ty "ValueError", true, rfl, rfl, rfl, same_new nT _ _ ed, U.ex, .inl ⟨.type "ValueError", fun u r => by cases r; rfl, E.kv⟩, true, rfl, iteF ?_⟩⟩⟩
    have sT := s.trans (same_new (o := HO.tup ([c0, c1, c2, c3, c4, c5, c6, c7, c8, c9, c10, c11, c12, c13, c14, c15, c16, c17, c18, c19, c20, c21, c22].map V.ref)) nT)
    have eT := same_new (o := HO.tup ([c0, c1, c2, c3, c4, c5, c6, c7, c8, c9, c10, c11, c12, c13, c14, c15, c16, c17, c18, c19, c20, c21, c22].map V.ref)) nT _ _ ed
    exact ⟨.ref a, rfl, rfl, rfl, d, _, .str d0.2.1, rfl, eT, (by first | rfl | (simp [List.lookup]; done) | (simp [List.lookup]; rfl)), .ref a, rfl, rfl, rfl, d, _, .int z, rfl, eT, (by first | rfl | (simp [List.lookup]; done) | (simp [List.lookup]; rfl)), by show 2 ≤ sizeLine; decide, fun t nt => q _ t (sT.trans (same_new nt)) (sT.free nt) upd_same⟩
end
end K3

set_option Elab.async false
set_option linter.all false
set_option maxRecDepth 100000
set_option maxHeartbeats 4000000
namespace K3
open PySem PySem.Spec PyProof.Rows L2 Cs CsX
theorem exists_max : ∀ l : List Int, l ≠ [] → ∃ m ∈ l, ∀ k ∈ l, k ≤ m
  | [], h => absurd rfl h
  | [x], _ => ⟨x, List.mem_cons_self, fun k hk => by rw [List.mem_singleton.mp hk]; exact Int.le_refl _⟩
  | x :: y :: l, _ => by
    obtain ⟨m, hm, h⟩ := exists_max (y :: l) (by simp)
    by_cases c : m ≤ x
    · refine ⟨x, List.mem_cons_self, fun k hk => ?_⟩
      rcases List.mem_cons.mp hk with z | z
      · rw [z]; exact Int.le_refl _
      · exact Int.le_trans (h k z) c
    · refine ⟨m, List.mem_cons_of_mem _ hm, fun k hk => ?_⟩
      rcases List.mem_cons.mp hk with z | z
      · rw [z]; omega
      · exact h k z
theorem next_out {ss : List Int} (h : ss ≠ []) : ∃ v ∈ ss, v + 1 ∉ ss := by
  obtain ⟨m, hm, hk⟩ := exists_max ss h
  exact ⟨m, hm, fun z => by have := hk _ z; omega⟩
section
variable {P : Program} {w : World} {K : PySem.W.Frag} {mg : Str → Option Value} {base : Heap}
abbrev sStr : Stmt := topS 49
abbrev nStr : List Str := ["_law_stream_here", "_law_side", "_law_near", "_law_value"]
theorem scStr : FnScope nStr ["_law_stream_here", "_law_side"] (defScope sStr) := ⟨rfl, rfl, rfl, by decide +kernel, rfl, by decide +kernel, by decide +kernel⟩
def spStr : Sp := fun vs H Q _ => ∃ (p sd : Addr) (ss : List Int), vs = [.ref p, .ref sd] ∧ Strm H p ∧ H sd = some (.lst (ss.map V.int)) ∧ p ≠ sd ∧ ss.length ≤ 31 ∧ ∀ (H' : Hp) (z : Int), Keep p H H' → Strm H' p → z ∉ ss → Q (.int z) H'
theorem ok_str {f fD : Addr} {fd fdD : FuncData} (F : Fun K "_law_strange" "_law_strange" sStr f fd) (B : Bt mg) (D : Call P w K mg base 1 "_law_next" fD fdD ["_law_stream_here", "_law_size"] spDraw) :
    FnOk P w K mg base CX0 2 f fd ["_law_stream_here", "_law_side"] spStr := by
  refine F.ok scStr (fun vs H Q E h => ?_) (fun cdv A outer s H vs Q E hr h => ?_)
  · obtain ⟨p, sd, ss, rfl, _⟩ := h
    rfl
  · obtain ⟨p, sd, ss, rfl, hp, esd, psd, ssl, q⟩ := h
    have nd := scStr.nd
    refine ⟨_, pss_cons (ps_setLc (i := 2) (own := [("_law_value", 3)]) (g := gName 3) (te := tOp (rI0 fun i j => .int (i + j)) (tVar 3) (tC (.int 1))) rfl nd rfl rfl (by rfl) (pi_list (pv 1)) (blkOk_by (N := nStr) (sc := defScope sStr) (by decide +kernel)) (fun _ _ _ _ _ => pg_name (i := 3) nd rfl (Or.inl rfl))
        (fun _ _ _ _ _ => pts_one (pt_cmpR (r := rIn K true) op_notIn_seq (pe_op op_add (pv 3) pe_int) (pv 1) rfl)) (fun _ _ _ _ _ => pe_op op_add (pv 3) pe_int))
      (pss_cons (ps_set (i := 2) nd rfl (.inl rfl) (pe_op op_cat (pv 2) (pe_lc (own := [("_law_value", 3)]) (g := gName 3) (te := tOp (rI0 fun i j => .int (i - j)) (tVar 3) (tC (.int 1))) rfl nd (pi_list (pv 1)) (blkOk_by (N := nStr) (sc := defScope sStr) (by decide +kernel)) (fun _ _ _ _ _ => pg_name (i := 3) nd rfl (Or.inl rfl))
        (fun _ _ _ _ _ => pts_one (pt_cmpR (r := rIn K true) op_notIn_seq (pe_op op_sub (pv 3) pe_int) (pv 1) rfl)) (fun _ _ _ _ _ => pe_op op_sub (pv 3) pe_int))))
      (pss_cons (ps_if (pt_cmpR op_eq (pe_callB call_len_seq (by rfl) B.len PySem.boot_len (pa_cons (pv 2) pa_nil)) pe_int rfl)
        (pss_one (ps_ret (pe_op op_sub (pe_call D.ok hr (by rfl) D.at_ D.kp D.bd .nil pass0 (pa_cons (pv 0) (pa_cons pe_int pa_nil))) pe_int))) pss_nil)
      (pss_one (ps_ret (pe_ix ix_list (pv 2) (pe_call D.ok hr (by rfl) D.at_ D.kp D.bd .nil pass0 (pa_cons (pv 0) (pa_cons (pe_callB call_len_seq (by rfl) B.len PySem.boot_len (pa_cons (pv 2) pa_nil)) pa_nil))) (fun _ _ => rfl)))))), ?_⟩
    refine ⟨.ref sd, rfl, sd, rfl, ⟨_, sl_map esd⟩, fun N nN => lc_list (xs := ss.map V.int) (fun i H' => Same H H' ∧ ∃ ns : List Int, H' N = some (.lst (ns.map V.int)) ∧ ns.length ≤ i ∧ (∀ k ∈ ns, k ∉ ss) ∧ ∀ v ∈ ss.take i, v + 1 ∉ ss → v + 1 ∈ ns) ⟨same_new nN, [], upd_same, Nat.le_refl _, (fun _ h => nomatch h), fun v h => by rw [List.take_zero] at h; cases h⟩ (fun i H' _ h => sl_map (h.1 _ _ esd)) ?_ ?_⟩
    · rintro i x H' hx ⟨sm, ns, eN, nl, out, all⟩
      rw [List.getElem?_map] at hx
      obtain ⟨v, hv, rfl⟩ := Option.map_eq_some_iff.mp hx
      have hi := (List.getElem?_eq_some_iff.mp hv).1
      refine ⟨rfl, .int v, rfl, v, 1, rfl, rfl, .ref sd, rfl, sd, _, rfl, .inl (sl_map (sm _ _ esd)), rfl, flat_ints _, _, rfl, ?_⟩
      by_cases c : v + 1 ∈ ss
      · refine ifF (in_no c) ⟨sm, ns, eN, by omega, out, fun u hu no => ?_⟩
        rw [List.take_add_one, hv] at hu
        rcases List.mem_append.mp hu with z | z
        · exact all u z no
        · rw [show u = v from List.mem_singleton.mp z] at no
          exact absurd c no
      · refine ifT (in_yes c) ⟨.int v, rfl, v, 1, rfl, rfl, _, eN, ?_, same_at sm nN, ns ++ [v + 1], ?_, ?_, fun k hk => ?_, fun u hu no => ?_⟩
        · rw [List.length_map]; exact small1000 (by omega)
        · rw [upd_same, List.map_append] <;> rfl
        · rw [List.length_append]; show ns.length + 1 ≤ i + 1; omega
        · rcases List.mem_append.mp hk with z | z
          · exact out k z
          · rw [List.mem_singleton.mp z]; exact c
        · rw [List.take_add_one, hv] at hu
          rcases List.mem_append.mp hu with z | z
          · exact List.mem_append_left _ (all u z no)
          · rw [show u = v from List.mem_singleton.mp z]; exact List.mem_append_right _ (List.mem_singleton.mpr rfl)
    rintro H1 ⟨s1, ns, eN, nl, out, all⟩
    rw [List.length_map] at nl all
    rw [List.take_length] at all
    have esd1 := s1 _ _ esd
    refine ⟨.ref N, rfl, .ref sd, rfl, sd, rfl, ⟨_, sl_map esd1⟩, fun M nM => lc_list (xs := ss.map V.int) (fun i H' => Same H1 H' ∧ ∃ ms : List Int, H' M = some (.lst (ms.map V.int)) ∧ ms.length ≤ i ∧ ∀ k ∈ ms, k ∉ ss) ⟨same_new nM, [], upd_same, Nat.le_refl _, (fun _ h => nomatch h)⟩ (fun i H' _ h => sl_map (h.1 _ _ esd1)) ?_ ?_⟩
    · rintro i x H' hx ⟨sm, ms, eM, ml, out2⟩
      rw [List.getElem?_map] at hx
      obtain ⟨v, hv, rfl⟩ := Option.map_eq_some_iff.mp hx
      have hi := (List.getElem?_eq_some_iff.mp hv).1
      refine ⟨rfl, .int v, rfl, v, 1, rfl, rfl, .ref sd, rfl, sd, _, rfl, .inl (sl_map (sm _ _ esd1)), rfl, flat_ints _, _, rfl, ?_⟩
      by_cases c : v - 1 ∈ ss
      · exact ifF (in_no c) ⟨sm, ms, eM, by omega, out2⟩
      · refine ifT (in_yes c) ⟨.int v, rfl, v, 1, rfl, rfl, _, eM, ?_, same_at sm nM, ms ++ [v - 1], ?_, ?_, fun k hk => ?_⟩
        · rw [List.length_map]; exact small1000 (by omega)
        · rw [upd_same, List.map_append] <;> rfl
        · rw [List.length_append]; show ms.length + 1 ≤ i + 1; omega
        · rcases List.mem_append.mp hk with z | z
          · exact out2 k z
          · rw [List.mem_singleton.mp z]; exact c
    rintro H2 ⟨s2, ms, eM, ml, out2⟩
    rw [List.length_map] at ml
    refine ⟨N, M, _, _, rfl, rfl, s2 _ _ eN, eM, by rw [List.length_map, List.length_map]; exact Nat.le_of_lt (small1000 (by omega)), fun L nL => ?_⟩
    rw [← List.map_append]
    have s3 := (s1.trans s2).trans (same_new (o := HO.lst ((ns ++ ms).map V.int)) nL)
    have st3 : Strm (upd H2 L (.lst ((ns ++ ms).map V.int))) p := by
      obtain ⟨x1, x2, x3, e⟩ := hp
      exact ⟨x1, x2, x3, s3 _ _ e⟩
    have eL := upd_same (H := H2) (a := L) (o := HO.lst ((ns ++ ms).map V.int))
    have nLH : H L = none := (s1.trans s2).free nL
    have npL : p ≠ L := fun z => hp.some (z ▸ nLH)
    generalize upd H2 L (HO.lst ((ns ++ ms).map V.int)) = H3 at s3 st3 eL ⊢
    have outs : ∀ k ∈ ns ++ ms, k ∉ ss := fun k hk => (List.mem_append.mp hk).elim (out k) (out2 k)
    refine ⟨.ref L, rfl, L, _, rfl, .inl (sl_map eL), rfl, _, rfl, ite_both (fun c => ?_) (fun c => ?_)⟩
    · have c0 := of_decide_eq_true c
      have c1 : (ns ++ ms).length = 0 := by
        have := V.int.inj c0
        rw [List.length_map] at this
        omega
      have nse : ns = [] := by
        cases ns with
        | nil => rfl
        | cons a b => rw [List.length_append, List.length_cons] at c1; omega
      have sse : ss = [] := by
        cases ss with
        | nil => rfl
        | cons a b =>
          obtain ⟨v, hv, no⟩ := next_out (ss := a :: b) (by simp)
          have := all v hv no
          rw [nse] at this
          cases this
      refine ⟨.ref p, rfl, p, 9, rfl, st3, by decide, by decide, fun H4 v o4 st4 v0 v1 => ⟨v, 4, rfl, rfl, q H4 _ ((Keep.same s3).oth o4) st4 (by rw [sse]; exact fun h => nomatch h)⟩⟩
    · have c0 := of_decide_eq_false c
      have c1 : 0 < (ns ++ ms).length := by
        rcases Nat.eq_zero_or_pos (ns ++ ms).length with z | z
        · exact absurd (by rw [List.length_map, z] <;> rfl) c0
        · exact z
      have c2 : (ns ++ ms).length ≤ 62 := by rw [List.length_append]; omega
      refine ⟨.ref L, rfl, .ref p, rfl, .ref L, rfl, L, _, rfl, .inl (sl_map eL), p, _, rfl, st3, by rw [List.length_map]; omega, by rw [List.length_map]; omega, fun H4 v o4 st4 v0 v1 => ?_⟩
      rw [List.length_map] at v1
      obtain ⟨v, rfl⟩ : ∃ n : Nat, v = (n : Int) := ⟨v.toNat, by omega⟩
      have hv : v < (ns ++ ms).length := by omega
      refine ⟨L, _, _, .int (ns ++ ms)[v], rfl, rfl, sl_map ((o4 L npL.symm).trans eL), at_of (j := v) rfl (by rw [List.getElem?_map, List.getElem?_eq_getElem hv] <;> rfl), q H4 _ ((Keep.same s3).oth o4) st4 (outs _ (List.getElem_mem hv))⟩
abbrev sSpo : Stmt := topS 50
abbrev nSpo : List Str := ["_law_stream_here", "_law_domains_here", "_law_values", "_law_domain", "_law_turn"]
theorem scSpo : FnScope nSpo ["_law_stream_here", "_law_domains_here"] (defScope sSpo) := ⟨rfl, rfl, rfl, by decide +kernel, rfl, by decide +kernel, by decide +kernel⟩
def spSpo : Sp := fun vs H Q _ => ∃ (p dl : Addr) (ds : List DomE), vs = [.ref p, .ref dl] ∧ Strm H p ∧ Doms H dl ds ∧ Dok ds ∧ 0 < ds.length ∧ dl ≠ p ∧ (∀ d ∈ ds, d.1 ≠ p ∧ d.2.2.1 ≠ p) ∧
  ∀ (H' : Hp) (v : Addr) (A : List (Str × Int)), Keep p H H' → Strm H' p → H v = none → Vd H' v A → A.map (·.1) = ds.map (·.2.1) → (∃ d ∈ ds, ∃ z, aget A d.2.1 = some z ∧ z ∉ d.2.2.2) → Q (.ref v) H'
theorem ok_spo {f fD fS : Addr} {fd fdD fdS : FuncData} (F : Fun K "_law_spoilt" "_law_spoilt" sSpo f fd) (B : Bt mg) (D : Call P w K mg base 1 "_law_next" fD fdD ["_law_stream_here", "_law_size"] spDraw) (S : Call P w K mg base 2 "_law_strange" fS fdS ["_law_stream_here", "_law_side"] spStr) :
    FnOk P w K mg base CX0 3 f fd ["_law_stream_here", "_law_domains_here"] spSpo := by
  refine F.ok scSpo (fun vs H Q E h => ?_) (fun cdv A outer s H vs Q E hr h => ?_)
  · obtain ⟨p, dl, ds, rfl, _⟩ := h
    rfl
  · obtain ⟨p, dl, ds, rfl, hp, dm, ok, dpos, dlp, apart, q⟩ := h
    have hu := hu_of hr
    have hr1 : Room 1 (A.deeper (envOfC "_law_spoilt" (defScope sSpo) s.heap.objs.size f cdv)) := hr.mono (by decide)
    have nd := scSpo.nd
    refine ⟨_, pss_cons (ps_set (i := 2) nd rfl (.inl rfl) pe_dnewK)
      (pss_cons (ps_for PassesOwn.never rfl (pi_list (pv 1)) (pg_name (i := 3) nd rfl (.inl rfl))
        (pss_cons (ps_dput hu (pv 2) (pe_ix ix_tup (pv 3) pe_int (fun _ _ => rfl)) (pe_call S.ok hr (by rfl) S.at_ S.kp S.bd .nil pass0 (pa_cons (pv 0) (pa_cons (pe_ix ix_tup (pv 3) pe_int (fun _ _ => rfl)) pa_nil))) rfl)
        (pss_one (ps_if (pt_cmpR op_gt (pe_callB call_len_seq (by rfl) B.len PySem.boot_len (pa_cons (pe_ix ix_tup (pv 3) pe_int (fun _ _ => rfl)) pa_nil)) pe_int rfl)
          (pss_one (ps_dput hu (pv 2) (pe_ix ix_tup (pv 3) pe_int (fun _ _ => rfl)) (pe_ix ix_list (pe_ix ix_tup (pv 3) pe_int (fun _ _ => rfl)) (pe_call D.ok hr1 (by rfl) D.at_ D.kp D.bd .nil pass0 (pa_cons (pv 0) (pa_cons (pe_callB call_len_seq (by rfl) B.len PySem.boot_len (pa_cons (pe_ix ix_tup (pv 3) pe_int (fun _ _ => rfl)) pa_nil)) pa_nil))) (fun _ _ => rfl)) rfl)) pss_nil))))
      (pss_cons (ps_for PassesOwn.never rfl (pi_range1 (by rfl) B.range (pa_cons (pe_op op_add pe_int (pe_call D.ok hr1 (by rfl) D.at_ D.kp D.bd .nil pass0 (pa_cons (pv 0) (pa_cons pe_int pa_nil)))) pa_nil)) (pg_name (i := 4) nd rfl (.inl rfl))
        (pss_cons (ps_set (i := 3) nd rfl (.inl rfl) (pe_ix ix_list (pv 1) (pe_call D.ok hr1 (by rfl) D.at_ D.kp D.bd .nil pass0 (pa_cons (pv 0) (pa_cons (pe_callB call_len_seq (by rfl) B.len PySem.boot_len (pa_cons (pv 1) pa_nil)) pa_nil))) (fun _ _ => rfl)))
        (pss_one (ps_dput hu (pv 2) (pe_ix ix_tup (pv 3) pe_int (fun _ _ => rfl)) (pe_call S.ok hr (by rfl) S.at_ S.kp S.bd .nil pass0 (pa_cons (pv 0) (pa_cons (pe_ix ix_tup (pv 3) pe_int (fun _ _ => rfl)) pa_nil))) rfl))))
      (pss_one (ps_ret (pv 2))))), ?_⟩
    intro W nW
    have npW : p ≠ W := fun z => hp.some (z ▸ nW)
    have dlen := ok.len
    have keysT : ∀ {i : Nat} {d : DomE}, ds[i]? = some d → (ds.take (i + 1)).map (·.2.1) = (ds.take i).map (·.2.1) ++ [d.2.1] := fun {i d} hv => by rw [List.take_add_one, hv, List.map_append] <;> rfl
    refine ⟨.ref dl, rfl, dl, rfl, ⟨_, sl_map (same_new nW _ _ dm.lst)⟩, for_list (xs := ds.map fun d : DomE => V.ref d.1) (fun i σ H' => ∃ (A : List (Str × Int)) (y3 : Option V), σ = [some (.ref p), some (.ref dl), some (.ref W), y3, none] ∧ Keep p H H' ∧ Strm H' p ∧ H' W = some (.dK (intK A)) ∧ A.map (·.1) = (ds.take i).map (·.2.1))
      ⟨[], none, rfl, (Keep.refl p H).at_ nW, hp.upd npW, upd_same, rfl⟩ (fun i σ H' _ h => by obtain ⟨_, _, _, k, _⟩ := h; exact sl_map (k _ _ dlp dm.lst)) ?_ ?_⟩
    · rintro i x σ H' hx ⟨Av, y3, rfl, k1, st1, eW, ks⟩
      rw [List.getElem?_map] at hx
      obtain ⟨d, hv, rfl⟩ := Option.map_eq_some_iff.mp hx
      have dmem := List.mem_of_getElem? hv
      have hi := (List.getElem?_eq_some_iff.mp hv).1
      have dm1 := dm.keep k1 dlp apart
      have tt : SqT K H' d.1 [V.str d.2.1, V.ref d.2.2.1] := .inl (.inl (dm1.tup d dmem))
      have szd : d.2.2.2.length ≤ 31 := ok.sz d dmem
      have lA : Av.length = i := by
        have := congrArg List.length ks
        rw [List.length_map, List.length_map, List.length_take] at this
        omega
      have xn : d.2.1 ∉ Av.map (·.1) := fun z => by
        rw [ks, List.map_take] at z
        obtain ⟨j, hj⟩ := List.mem_iff_getElem?.mp z
        rw [List.getElem?_take] at hj
        split at hj
        · next l => exact absurd (nd_ix ok.nd hj (by rw [List.getElem?_map, hv] <;> rfl)) (by omega)
        · cases hj
      refine ⟨.ref p, rfl, .ref d.1, rfl, d.1, _, _, .ref d.2.2.1, rfl, rfl, tt, atI_nat (j := 1) rfl, p, d.2.2.1, d.2.2.2, rfl, st1, dm1.side d dmem, (apart d dmem).2.symm, szd, fun H2 z k2 st2 zout => ?_⟩
      have k12 := k1.trans k2
      have dm2 := dm.keep k12 dlp apart
      have tt2 : SqT K H2 d.1 [V.str d.2.1, V.ref d.2.2.1] := .inl (.inl (dm2.tup d dmem))
      refine ⟨.ref W, rfl, .ref d.1, rfl, d.1, _, _, .str d.2.1, rfl, rfl, tt2, atI_nat (j := 0) rfl, W, _, rfl, DPut.k (k := .inr d.2.1) (k2 _ _ npW.symm eW) (by rw [intK_len]; exact small1000 (by omega)), ?_⟩
      rw [putK_int, putA_new xn]
      have k3 : Keep p H (upd H2 W (.dK (intK (Av ++ [(d.2.1, z)])))) := k12.at_ nW
      have st3 := st2.upd (o := HO.dK (intK (Av ++ [(d.2.1, z)]))) npW
      have eW3 := upd_same (H := H2) (a := W) (o := HO.dK (intK (Av ++ [(d.2.1, z)])))
      have ks3 : (Av ++ [(d.2.1, z)]).map (·.1) = (ds.take (i + 1)).map (·.2.1) := by rw [keysT hv, List.map_append, ks] <;> rfl
      generalize upd H2 W (HO.dK (intK (Av ++ [(d.2.1, z)]))) = H3 at k3 st3 eW3 ⊢
      have dm3 := dm.keep k3 dlp apart
      have tt3 : SqT K H3 d.1 [V.str d.2.1, V.ref d.2.2.1] := .inl (.inl (dm3.tup d dmem))
      have sd3 := sl_map (K := K) (dm3.side d dmem)
      refine ⟨.ref d.1, rfl, d.1, _, _, .ref d.2.2.1, rfl, rfl, tt3, atI_nat (j := 1) rfl, d.2.2.1, _, rfl, .inl sd3, _, 0, rfl, rfl, _, rfl, ite_both (fun c => ?_) (fun c => ⟨_, _, rfl, k3, st3, eW3, ks3⟩)⟩
      have p0 : 0 < d.2.2.2.length := by
        have := of_decide_eq_true c
        rw [List.length_map] at this
        omega
      refine ⟨.ref d.1, rfl, d.1, _, _, .ref d.2.2.1, rfl, rfl, tt3, atI_nat (j := 1) rfl, .ref p, rfl, .ref d.1, rfl, d.1, _, _, .ref d.2.2.1, rfl, rfl, tt3, atI_nat (j := 1) rfl, d.2.2.1, _, rfl, .inl sd3, p, _, rfl, st3, by rw [List.length_map]; omega, by rw [List.length_map]; omega, fun H4 v o4 st4 v0 v1 => ?_⟩
      rw [List.length_map] at v1
      obtain ⟨v, rfl⟩ : ∃ n : Nat, v = (n : Int) := ⟨v.toNat, by omega⟩
      have hv4 : v < d.2.2.2.length := by omega
      have k4 := k3.oth o4
      have dm4 := dm.keep k4 dlp apart
      have tt4 : SqT K H4 d.1 [V.str d.2.1, V.ref d.2.2.1] := .inl (.inl (dm4.tup d dmem))
      refine ⟨d.2.2.1, _, _, .int d.2.2.2[v], rfl, rfl, sl_map (dm4.side d dmem), at_of (j := v) rfl (by rw [List.getElem?_map, List.getElem?_eq_getElem hv4] <;> rfl), .ref W, rfl, .ref d.1, rfl, d.1, _, _, .str d.2.1, rfl, rfl, tt4, atI_nat (j := 0) rfl, W, _, rfl, DPut.k (k := .inr d.2.1) ((o4 W npW.symm).trans eW3) (by rw [intK_len, List.length_append]; exact small1000 (by show Av.length + 1 ≤ 1000; omega)), ?_⟩
      rw [putK_int]
      refine ⟨_, _, rfl, k4.at_ nW, st4.upd npW, upd_same, ?_⟩
      rw [putA_keys (by rw [List.map_append]; exact List.mem_append_right _ List.mem_cons_self), ks3]
    · rintro σ H1 ⟨Av, y3, rfl, k1, st1, eW, ks⟩
      rw [List.length_map, List.take_length] at ks
      refine ⟨.ref p, rfl, p, 2, rfl, st1, by decide, by decide, fun H2 e o2 st2 e0 e1 => ⟨1, e, rfl, rfl, _, rfl, by omega, by omega, for_range (lo := 0) (n := (1 + e).toNat) (fun i σ H' => ∃ (A : List (Str × Int)) (y3 y4 : Option V), σ = [some (.ref p), some (.ref dl), some (.ref W), y3, y4] ∧ Keep p H H' ∧ Strm H' p ∧ H' W = some (.dK (intK A)) ∧ A.map (·.1) = ds.map (·.2.1) ∧ (0 < i → ∃ d ∈ ds, ∃ z, aget A d.2.1 = some z ∧ z ∉ d.2.2.2))
        ⟨Av, _, _, rfl, k1.oth o2, st2, (o2 W npW.symm).trans eW, ks, fun h => absurd h (by decide)⟩ ?_ ?_⟩⟩
      · rintro i σ H' hi ⟨Av, y3, y4, rfl, k1, st1, eW, ks, _⟩
        have lA : Av.length = ds.length := by
          have := congrArg List.length ks
          rw [List.length_map, List.length_map] at this
          exact this
        have dm1 := dm.keep k1 dlp apart
        refine ⟨.ref dl, rfl, .ref p, rfl, .ref dl, rfl, dl, _, rfl, .inl (sl_map dm1.lst), p, _, rfl, st1, by rw [List.length_map]; omega, by rw [List.length_map]; omega, fun H2 j o2 st2 j0 j1 => ?_⟩
        rw [List.length_map] at j1
        obtain ⟨j, rfl⟩ : ∃ n : Nat, j = (n : Int) := ⟨j.toNat, by omega⟩
        have hj : j < ds.length := by omega
        obtain ⟨d, hv⟩ : ∃ d, ds[j]? = some d := ⟨_, List.getElem?_eq_getElem hj⟩
        have dmem := List.mem_of_getElem? hv
        have k2 := k1.oth o2
        have dm2 := dm.keep k2 dlp apart
        have tt : SqT K H2 d.1 [V.str d.2.1, V.ref d.2.2.1] := .inl (.inl (dm2.tup d dmem))
        have szd : d.2.2.2.length ≤ 31 := ok.sz d dmem
        refine ⟨dl, _, _, .ref d.1, rfl, rfl, sl_map dm2.lst, at_of (j := j) rfl (domV_at hv), ?_⟩
        refine ⟨.ref p, rfl, .ref d.1, rfl, d.1, _, _, .ref d.2.2.1, rfl, rfl, tt, atI_nat (j := 1) rfl, p, d.2.2.1, d.2.2.2, rfl, st2, dm2.side d dmem, (apart d dmem).2.symm, szd, fun H3 z k3 st3 zout => ?_⟩
        have k13 := k2.trans k3
        have dm3 := dm.keep k13 dlp apart
        have tt3 : SqT K H3 d.1 [V.str d.2.1, V.ref d.2.2.1] := .inl (.inl (dm3.tup d dmem))
        refine ⟨.ref W, rfl, .ref d.1, rfl, d.1, _, _, .str d.2.1, rfl, rfl, tt3, atI_nat (j := 0) rfl, W, _, rfl, DPut.k (k := .inr d.2.1) (k3 _ _ npW.symm ((o2 W npW.symm).trans eW)) (by rw [intK_len]; exact small1000 (by omega)), ?_⟩
        rw [putK_int]
        refine ⟨_, _, _, rfl, k13.at_ nW, st3.upd npW, upd_same, ?_, fun _ => ⟨d, dmem, z, by rw [aget_put, if_pos rfl], zout⟩⟩
        rw [putA_keys (by rw [ks]; exact List.mem_map_of_mem (f := fun d : DomE => d.2.1) dmem), ks]
      · rintro σ H' ⟨Av, y3, y4, rfl, k1, st1, eW, ks, bad⟩
        have lA : Av.length = ds.length := by
          have := congrArg List.length ks
          rw [List.length_map, List.length_map] at this
          exact this
        exact ⟨_, rfl, q H' W Av k1 st1 nW ⟨eW, by rw [ks]; exact ok.nd, by omega⟩ ks (bad (by omega))⟩
end
end K3

set_option Elab.async false
set_option linter.all false
set_option maxRecDepth 100000
set_option maxHeartbeats 4000000
namespace K3
open PySem PySem.Spec PyProof.Rows L2 Cs CsX
/-- the first value that is not in its side -/
def firstBad (A : List (Str × Int)) : List DomE → Option (DomE × Int)
  | [] => none
  | d :: ds => match aget A d.2.1 with
    | some z => if z ∈ d.2.2.2 then firstBad A ds else some (d, z)
    | none => firstBad A ds
theorem firstBad_some {A : List (Str × Int)} : ∀ {ds : List DomE} {d0 : DomE} {z : Int}, (∀ d ∈ ds, ∃ y, aget A d.2.1 = some y) → firstBad A ds = some (d0, z) →
    ∃ i0, ds[i0]? = some d0 ∧ aget A d0.2.1 = some z ∧ z ∉ d0.2.2.2 ∧ ∀ (i : Nat) (d : DomE), i < i0 → ds[i]? = some d → ∃ y, aget A d.2.1 = some y ∧ y ∈ d.2.2.2
  | [], _, _, _, h => by cases h
  | d :: ds, d0, z, all, h => by
    obtain ⟨y, hy⟩ := all d List.mem_cons_self
    have e : firstBad A (d :: ds) = if y ∈ d.2.2.2 then firstBad A ds else some (d, y) := by
      show (match aget A d.2.1 with
        | some z => if z ∈ d.2.2.2 then firstBad A ds else some (d, z)
        | none => firstBad A ds) = _
      rw [hy] <;> rfl
    rw [e] at h
    by_cases c : y ∈ d.2.2.2
    · rw [if_pos c] at h
      obtain ⟨i0, h1, h2, h3, h4⟩ := firstBad_some (fun d hd => all d (List.mem_cons_of_mem _ hd)) h
      refine ⟨i0 + 1, h1, h2, h3, fun i e hi he => ?_⟩
      cases i with
      | zero => cases he; exact ⟨y, hy, c⟩
      | succ i => exact h4 i e (by omega) he
    · rw [if_neg c] at h
      have h := Prod.mk.inj (Option.some.inj h)
      obtain ⟨rfl, rfl⟩ := h
      exact ⟨0, rfl, hy, c, fun i e hi _ => absurd hi (by omega)⟩
theorem firstBad_is {A : List (Str × Int)} : ∀ {ds : List DomE}, (∃ d ∈ ds, ∃ z, aget A d.2.1 = some z ∧ z ∉ d.2.2.2) → ∃ d0 z, firstBad A ds = some (d0, z)
  | [], h => by obtain ⟨_, h, _⟩ := h; cases h
  | d :: ds, h => by
    obtain ⟨e, he, z, hz, out⟩ := h
    show ∃ d0 z, (match aget A d.2.1 with
        | some z => if z ∈ d.2.2.2 then firstBad A ds else some (d, z)
        | none => firstBad A ds) = some (d0, z)
    have rest : e ∈ ds → ∃ d0 z, firstBad A ds = some (d0, z) := fun m => firstBad_is ⟨e, m, z, hz, out⟩
    rcases List.mem_cons.mp he with h | h
    · subst h
      rw [hz]
      show ∃ d0 z', (if z ∈ e.2.2.2 then firstBad A ds else some (e, z)) = some (d0, z')
      rw [if_neg out]
      exact ⟨e, z, rfl⟩
    · cases c : aget A d.2.1 with
      | none => exact rest h
      | some y =>
        show ∃ d0 z', (if y ∈ d.2.2.2 then firstBad A ds else some (d, y)) = some (d0, z')
        by_cases c2 : y ∈ d.2.2.2
        · rw [if_pos c2]; exact rest h
        · rw [if_neg c2]; exact ⟨d, y, rfl⟩
theorem firstBad_says {A : List (Str × Int)} : ∀ {gs ds : List DomE}, saysD gs = saysD ds → ∀ {d0 : DomE} {z : Int}, firstBad A ds = some (d0, z) → ∃ g0, firstBad A gs = some (g0, z) ∧ g0.2.1 = d0.2.1
  | [], [], _, _, _, h => by cases h
  | [], _ :: _, h, _, _, _ => by cases h
  | _ :: _, [], h, _, _, _ => by cases h
  | g :: gs, d :: ds, h, d0, z, hb => by
    have h1 := Prod.mk.inj (List.cons.inj h).1
    have h2 := (List.cons.inj h).2
    have hb : (match aget A d.2.1 with
        | some z => if z ∈ d.2.2.2 then firstBad A ds else some (d, z)
        | none => firstBad A ds) = some (d0, z) := hb
    show ∃ g0, (match aget A g.2.1 with
        | some z => if z ∈ g.2.2.2 then firstBad A gs else some (g, z)
        | none => firstBad A gs) = some (g0, z) ∧ _
    rw [h1.1, h1.2]
    cases c : aget A d.2.1 with
    | none => rw [c] at hb; exact firstBad_says h2 hb
    | some y =>
      rw [c] at hb
      have hb : (if y ∈ d.2.2.2 then firstBad A ds else some (d, y)) = some (d0, z) := hb
      show ∃ g0, (if y ∈ d.2.2.2 then firstBad A gs else some (g, y)) = some (g0, z) ∧ _
      by_cases c2 : y ∈ d.2.2.2
      · rw [if_pos c2] at hb ⊢; exact firstBad_says h2 hb
      · rw [if_neg c2] at hb ⊢
        have hb := Prod.mk.inj (Option.some.inj hb)
        exact ⟨g, by rw [hb.2], by rw [h1.1, hb.1]⟩
theorem firstBad_congr {A M : List (Str × Int)} (s : SameA A M) : ∀ ds : List DomE, firstBad A ds = firstBad M ds
  | [] => rfl
  | d :: ds => by
    show (match aget A d.2.1 with
        | some z => if z ∈ d.2.2.2 then firstBad A ds else some (d, z)
        | none => firstBad A ds) = match aget M d.2.1 with
        | some z => if z ∈ d.2.2.2 then firstBad M ds else some (d, z)
        | none => firstBad M ds
    rw [s, firstBad_congr s ds] <;> rfl
section
variable {P : Program} {w : World} {K : PySem.W.Frag} {mg : Str → Option Value} {base : Heap}
abbrev sRef : Stmt := topS 51
abbrev nRef : List Str := ["_law_stream_here", "_law_given", "_law_domains_here", "_law_total", "_law_number_here", "_law_told", "_law_values", "_law_due", "_law_domain", "_law_passed"]
abbrev pRef : List Str := ["_law_stream_here", "_law_given", "_law_domains_here", "_law_total"]
theorem scRef : FnScope nRef pRef (defScope sRef) := ⟨rfl, rfl, rfl, by decide +kernel, rfl, by decide +kernel, by decide +kernel⟩
def spRef : Sp := fun vs H Q _ => ∃ (p g dl : Addr) (gs ds : List DomE), vs = [.ref p, .ref g, .ref dl, .int (tot ds : Nat)] ∧ Strm H p ∧ Doms H g gs ∧ Doms H dl ds ∧ saysD gs = saysD ds ∧ Dok ds ∧ dl ≠ p ∧ g ≠ p ∧ (∀ d ∈ ds, d.1 ≠ p ∧ d.2.2.1 ≠ p) ∧ (∀ d ∈ gs, d.1 ≠ p ∧ d.2.2.1 ≠ p) ∧
  ∀ H', Keep p H H' → Q (.bl true) H'
theorem ok_ref {f fN fS fR fV fE fI : Addr} {fd fdN fdS fdR fdV fdE fdI : FuncData} (F : Fun K "_law_refused" "_law_refused" sRef f fd) (B : Bt mg) (bt : mg "tuple" = none) (bs : mg "str" = none) (N : Call P w K mg base 4 "_law_told_number" fN fdN ["_law_domains_here", "_law_number_here"] spToldN)
    (S : Call P w K mg base 3 "_law_spoilt" fS fdS ["_law_stream_here", "_law_domains_here"] spSpo) (Tu : Call P w K mg base 1 "_law_turned" fR fdR ["_law_values"] spTurn) (Vv : Call P w K mg base 4 "_law_told_value" fV fdV ["_law_domains_here", "_law_values"] spToldV)
    (Sv : Call P w K mg base 2 "_law_same_values" fE fdE ["_law_actual", "_law_expected"] spSV) (I : Call P w K mg base 1 "_law_is_integer" fI fdI ["_law_actual"] spIsInt) : FnOk P w K mg base CX0 5 f fd pRef spRef := by
  refine F.ok scRef (fun vs H Q E h => ?_) (fun cdv A outer s H vs Q E hr h => ?_)
  · obtain ⟨p, g, dl, gs, ds, rfl, _⟩ := h
    rfl
  · obtain ⟨p, g, dl, gs, ds, rfl, hp, dg, dm, says, ok, dlp, gp, apart, apartg, q⟩ := h
    have hu := hu_of hr
    have hu64 : (A.deeper (envOfC "_law_refused" (defScope sRef) s.heap.objs.size f cdv)).units + 64 < cLine := by have := hr.un; omega
    have hr1 : Room 1 (A.deeper (envOfC "_law_refused" (defScope sRef) s.heap.objs.size f cdv)) := hr.mono (by decide)
    have hr2 : Room 2 (A.deeper (envOfC "_law_refused" (defScope sRef) s.heap.objs.size f cdv)) := hr.mono (by decide)
    have hr3 : Room 3 (A.deeper (envOfC "_law_refused" (defScope sRef) s.heap.objs.size f cdv)) := hr.mono (by decide)
    have nd := scRef.nd
    refine ⟨_, pss_cons (ps_for PassesOwn.never rfl (pi_list (pe_lst (pa_cons (pe_un un_neg pe_int) (pa_cons (pe_op op_sub (pe_un un_neg (pv 3)) pe_int) (pa_cons (pe_un un_neg (pe_op op_pow pe_int pe_int)) (pa_cons (pv 3) (pa_cons (pe_op op_add (pv 3) pe_int) (pa_cons (pe_op op_add (pv 3) (pe_op op_pow pe_int pe_int)) pa_nil)))))))) (pg_name (i := 4) nd rfl (.inl rfl))
        (pss_cons (ps_set (i := 5) nd rfl (.inl rfl) (pe_call N.ok hr (by rfl) N.at_ N.kp N.bd .nil pass0 (pa_cons (pv 1) (pa_cons (pv 4) pa_nil))))
        (pss_one (ps_if (PW.pt (pw_or (pt_not (pt_val (pe_call I.ok hr1 (by rfl) I.at_ I.kp I.bd .nil pass0 (pa_cons (pv 5) pa_nil)))) (pw_or1 (pt_cmpR op_ne (pv 5) (pv 4) rfl)))) (pss_one (ps_ret pe_bl)) pss_nil))))
      (pss_cons (ps_if (pt_cmpR op_eq (pe_callB call_len_seq (by rfl) B.len PySem.boot_len (pa_cons (pv 2) pa_nil)) pe_int rfl) (pss_one (ps_ret pe_bl)) pss_nil)
      (pss_cons (ps_set (i := 6) nd rfl (.inl rfl) (pe_call S.ok hr3 (by rfl) S.at_ S.kp S.bd .nil pass0 (pa_cons (pv 0) (pa_cons (pv 2) pa_nil))))
      (pss_cons (ps_set (i := 7) nd rfl (.inl rfl) pe_non)
      (pss_cons (ps_for PassesOwn.never rfl (pi_list (pe_revL (pv 2))) (pg_name (i := 8) nd rfl (.inl rfl))
        (pss_one (ps_if (pt_cmpR (r := rIn K true) op_notIn_seq (pe_dget hu (pv 6) (pe_ix ix_tup (pv 8) pe_int (fun _ _ => rfl)) (fun _ _ => rfl)) (pe_ix ix_tup (pv 8) pe_int (fun _ _ => rfl)) rfl)
          (pss_one (ps_set (i := 7) nd rfl (.inl rfl) (pe_tup (pa_cons (pe_ix ix_tup (pv 8) pe_int (fun _ _ => rfl)) (pa_cons (pe_dget hu (pv 6) (pe_ix ix_tup (pv 8) pe_int (fun _ _ => rfl)) (fun _ _ => rfl)) pa_nil))))) pss_nil)))
      (pss_cons (ps_set (i := 9) nd rfl (.inl rfl) (pe_call Tu.ok hr1 (by rfl) Tu.at_ Tu.kp Tu.bd .nil pass0 (pa_cons (pv 6) pa_nil)))
      (pss_cons (ps_set (i := 5) nd rfl (.inl rfl) (pe_call Vv.ok hr (by rfl) Vv.at_ Vv.kp Vv.bd .nil pass0 (pa_cons (pv 1) (pa_cons (pv 9) pa_nil))))
      (pss_cons (ps_if (PW.pt (pw_or (pt_not (pt_val (pe_callB call_isi (by rfl) B.isi PyProof.Rows.boot_isinstance (pa_cons (pv 5) (pa_cons (pe_bltn (by rfl) bt PyProof.Rows.boot_tuple (v := .ty "tuple") rfl) pa_nil)))))
          (pw_or (pt_not (pt_val (pe_callB call_isi (by rfl) B.isi PyProof.Rows.boot_isinstance (pa_cons (pe_ix ix_tup (pv 5) pe_int (fun _ _ => rfl)) (pa_cons (pe_bltn (by rfl) bs PyProof.Rows.boot_str (v := .ty "str") rfl) pa_nil)))))
          (pw_or1 (pt_not (pt_val (pe_call I.ok hr1 (by rfl) I.at_ I.kp I.bd .nil pass0 (pa_cons (pe_ix ix_tup (pv 5) pe_int (fun _ _ => rfl)) pa_nil)))))))) (pss_one (ps_ret pe_bl)) pss_nil)
      (pss_one (ps_ret (pe_and (pe_cmpR (r := rEqD K) (op_eqD hu64) (pv 5) (pv 7) rfl) (pe_one (pe_call Sv.ok hr2 (by rfl) Sv.at_ Sv.kp Sv.bd .nil pass0 (pa_cons (pv 9) (pa_cons (pv 6) pa_nil)))))))))))))), ?_⟩
    have dlen := ok.len
    have okg := ok.says says
    have totg : tot gs = tot ds := says_tot says
    have cp : CPow 10 30 := ⟨by decide, by decide, by decide⟩
    obtain ⟨big, hbig, bpos⟩ : ∃ z : Int, (10 : Int) ^ (30 : Int).toNat = z ∧ 0 < z := ⟨_, rfl, by decide⟩
    refine ⟨1, rfl, .int (tot ds : Nat), rfl, (tot ds : Nat), rfl, _, 1, rfl, rfl, 10, 30, rfl, rfl, cp, _, rfl, .int (tot ds : Nat), rfl, .int (tot ds : Nat), rfl, _, 1, rfl, rfl, .int (tot ds : Nat), rfl, 10, 30, rfl, rfl, cp, _, _, rfl, rfl, by show 6 ≤ sizeLine; decide, fun l nl => ?_⟩
    rw [hbig]
    have sl := same_new (o := HO.lst [V.int (-1), V.int (-(tot ds : Nat) - 1), V.int (-big), V.int (tot ds : Nat), V.int ((tot ds : Nat) + 1), V.int ((tot ds : Nat) + big)]) nl
    have npl : p ≠ l := fun z => hp.some (z ▸ nl)
    refine ⟨l, rfl, ⟨_, sl_map upd_same⟩, for_list (xs := [V.int (-1), V.int (-(tot ds : Nat) - 1), V.int (-big), V.int (tot ds : Nat), V.int ((tot ds : Nat) + 1), V.int ((tot ds : Nat) + big)]) (fun i σ H' => ∃ (y4 y5 : Option V), σ = [some (.ref p), some (.ref g), some (.ref dl), some (.int (tot ds : Nat)), y4, y5, none, none, none, none] ∧ Same H H' ∧ H' l = some (.lst [V.int (-1), V.int (-(tot ds : Nat) - 1), V.int (-big), V.int (tot ds : Nat), V.int ((tot ds : Nat) + 1), V.int ((tot ds : Nat) + big)]))
      ⟨none, none, rfl, sl, upd_same⟩ (fun i σ H' _ h => by obtain ⟨_, _, _, _, h⟩ := h; exact sl_map h) ?_ ?_⟩
    · rintro i x σ H' hx ⟨y4, y5, rfl, sm, el⟩
      obtain ⟨z, rfl, hz⟩ : ∃ z : Int, x = .int z ∧ (z < 0 ∨ (tot gs : Int) ≤ z) := by
        rw [totg]
        match i, hx with
        | 0, h => exact ⟨_, (Option.some.inj h).symm, .inl (by decide)⟩
        | 1, h => exact ⟨_, (Option.some.inj h).symm, .inl (by omega)⟩
        | 2, h => exact ⟨_, (Option.some.inj h).symm, .inl (by omega)⟩
        | 3, h => exact ⟨_, (Option.some.inj h).symm, .inr (by omega)⟩
        | 4, h => exact ⟨_, (Option.some.inj h).symm, .inr (by omega)⟩
        | 5, h => exact ⟨_, (Option.some.inj h).symm, .inr (by omega)⟩
      refine ⟨.ref g, rfl, .int z, rfl, g, z, gs, rfl, dg.same sm, okg, hz, fun H2 s2 => ?_⟩
      exact ⟨.int z, rfl, z, rfl, true, rfl, iteF ⟨.int z, rfl, .int z, rfl, rfl, _, rfl, ifF (by simp) ⟨_, _, rfl, sm.trans s2, s2 _ _ el⟩⟩⟩
    rintro σ H1 ⟨y4, y5, rfl, s1, _⟩
    have dm1 := dm.same s1
    have dg1 := dg.same s1
    have st1 : Strm H1 p := by
      obtain ⟨x1, x2, x3, e⟩ := hp
      exact ⟨x1, x2, x3, s1 _ _ e⟩
    refine ⟨.ref dl, rfl, dl, _, rfl, .inl (sl_map dm1.lst), rfl, _, rfl, ite_both (fun c => q _ (Keep.same s1)) (fun c => ?_)⟩
    have dpos : 0 < ds.length := by
      rcases Nat.eq_zero_or_pos ds.length with z | z
      · exact absurd (by rw [List.length_map, z] <;> rfl) (of_decide_eq_false c)
      · exact z
    refine ⟨.ref p, rfl, .ref dl, rfl, p, dl, ds, rfl, st1, dm1, ok, dpos, dlp, apart, fun H2 v Av k2 st2 nv vd ks bad => ?_⟩
    have dm2 := dm1.keep k2 dlp apart
    have dg2 := dg1.keep k2 gp apartg
    have all : ∀ d ∈ ds, ∃ y, aget Av d.2.1 = some y := fun d hd => by
      have : d.2.1 ∈ Av.map (·.1) := by rw [ks]; exact List.mem_map_of_mem (f := fun d : DomE => d.2.1) hd
      exact Option.isSome_iff_exists.mp (aget_mem.mpr this)
    have K2 : Keep p H H2 := (Keep.same s1).trans k2
    obtain ⟨d0, z0, fb⟩ := firstBad_is bad
    -- due
    refine ⟨.ref dl, rfl, dl, _, rfl, sl_map dm2.lst, fun r nr => ?_⟩
    have sr := same_new (o := HO.lst (ds.map fun d : DomE => V.ref d.1).reverse) nr
    refine ⟨r, rfl, ⟨_, sl_map upd_same⟩, for_list (xs := (ds.map fun d : DomE => V.ref d.1).reverse) (fun i σ H' => ∃ (due : V) (y8 : Option V), σ = [some (.ref p), some (.ref g), some (.ref dl), some (.int (tot ds : Nat)), y4, y5, some (.ref v), some due, y8, none] ∧ Same H2 H' ∧ H' r = some (.lst (ds.map fun d : DomE => V.ref d.1).reverse) ∧
        match firstBad Av (ds.drop (ds.length - i)) with
        | none => due = .non
        | some (d, z) => ∃ t, due = .ref t ∧ H' t = some (.tup [.str d.2.1, .int z]))
      ⟨.non, none, rfl, sr, upd_same, by rw [Nat.sub_zero, List.drop_length] <;> rfl⟩ (fun i σ H' _ h => by obtain ⟨_, _, _, _, h, _⟩ := h; exact sl_map h) ?_ ?_⟩
    · rintro i x σ H' hx ⟨due, y8, rfl, sm, er, hd⟩
      have hi : i < ds.length := by
        have := (List.getElem?_eq_some_iff.mp hx).1
        rw [List.length_reverse, List.length_map] at this
        exact this
      obtain ⟨k, hk⟩ : ∃ k, ds.length = k + 1 + i := ⟨ds.length - 1 - i, by omega⟩
      have hki : ds.length - i = k + 1 := by omega
      have hki2 : ds.length - (i + 1) = k := by omega
      rw [List.getElem?_reverse (by rw [List.length_map]; exact hi), List.length_map, show ds.length - 1 - i = k by omega, List.getElem?_map] at hx
      obtain ⟨d, hv, rfl⟩ := Option.map_eq_some_iff.mp hx
      have dmem := List.mem_of_getElem? hv
      have dm' := dm2.same sm
      have tt : SqT K H' d.1 [V.str d.2.1, V.ref d.2.2.1] := .inl (.inl (dm'.tup d dmem))
      have sd := sl_map (K := K) (dm'.side d dmem)
      obtain ⟨y, hy⟩ := all d dmem
      have gv := (vd.same sm).ax.get d.2.1
      rw [hy] at gv
      rw [hki] at hd
      have fbk : firstBad Av (ds.drop k) = if y ∈ d.2.2.2 then firstBad Av (ds.drop (k + 1)) else some (d, y) := by
        rw [drop_at hv]
        show (match aget Av d.2.1 with
          | some z => if z ∈ d.2.2.2 then firstBad Av (ds.drop (k + 1)) else some (d, z)
          | none => firstBad Av (ds.drop (k + 1))) = _
        rw [hy] <;> rfl
      refine ⟨.ref v, rfl, .ref d.1, rfl, d.1, _, _, .str d.2.1, rfl, rfl, tt, atI_nat (j := 0) rfl, v, .int y, rfl, gv, .ref d.1, rfl, d.1, _, _, .ref d.2.2.1, rfl, rfl, tt, atI_nat (j := 1) rfl, d.2.2.1, _, rfl, .inl sd, rfl, flat_ints _, _, rfl, ?_⟩
      by_cases c : y ∈ d.2.2.2
      · refine ifF (in_no c) ⟨due, _, rfl, sm, er, ?_⟩
        rw [hki2, fbk, if_pos c]
        exact hd
      · refine ifT (in_yes c) ⟨.ref d.1, rfl, d.1, _, _, .str d.2.1, rfl, rfl, tt, atI_nat (j := 0) rfl, .ref v, rfl, .ref d.1, rfl, d.1, _, _, .str d.2.1, rfl, rfl, tt, atI_nat (j := 0) rfl, v, .int y, rfl, gv, by show 2 ≤ sizeLine; decide, fun t nt => ⟨.ref t, _, rfl, sm.trans (same_new nt), same_new nt _ _ er, ?_⟩⟩
        rw [hki2, fbk, if_neg c]
        exact ⟨t, rfl, upd_same⟩
    rintro σ H3 ⟨due, y8, rfl, s3, er, hd⟩
    rw [List.length_reverse, List.length_map, Nat.sub_self, List.drop_zero, fb] at hd
    obtain ⟨t, rfl, et⟩ := hd
    have vd3 := vd.same s3
    -- what the program tells
    refine ⟨.ref v, rfl, v, Av, rfl, vd3, fun H4 u s4 nu eu => ?_⟩
    have vu := vd3.rev eu
    have s24 := s3.trans s4
    have nuv : u ≠ v := fun z => by rw [z, vd3.un] at nu; cases nu
    obtain ⟨g0, fbg, gname⟩ := firstBad_says says fb
    have fbg' : firstBad Av.reverse gs = some (g0, z0) := by rw [firstBad_congr (fun x => aget_rev vd.nd x)]; exact fbg
    have allg : ∀ d ∈ gs, ∃ y, aget Av.reverse d.2.1 = some y := fun d hd => by
      obtain ⟨e, em, e1, _⟩ := says_mem says hd
      rw [aget_rev vd.nd, ← e1]
      exact all e em
    obtain ⟨i0, h1, h2, h3, h4⟩ := firstBad_some allg fbg'
    refine ⟨.ref g, rfl, .ref u, rfl, g, u, gs, Av.reverse, i0, g0, z0, rfl, dg2.same s24, okg, vu, h1, h2, h3, h4, fun H5 t5 s5 nt5 e5 => ?_⟩
    rw [gname] at e5
    have tt5 : SqT K H5 t5 [V.str d0.2.1, V.int z0] := .inl (.inl e5)
    refine ⟨.ref t5, rfl, .ref t5, .ty "tuple", .type "tuple", .type "tuple", true, rfl, .ty _, .base (.tup e5), kit_ty (by decide +kernel), true, rfl, iteF ?_⟩
    refine ⟨.ref t5, rfl, t5, _, _, .str d0.2.1, rfl, rfl, tt5, atI_nat (j := 0) rfl, .str d0.2.1, .ty "str", .type "str", .type "str", true, rfl, .ty _, .base (.str _), kit_ty (by decide +kernel), true, rfl, iteF ?_⟩
    refine ⟨.ref t5, rfl, t5, _, _, .int z0, rfl, rfl, tt5, atI_nat (j := 1) rfl, z0, rfl, true, rfl, iteF ?_⟩
    have ttd : SqT K H5 t [V.str d0.2.1, V.int z0] := .inl (.inl (s5 _ _ (s4 _ _ et)))
    have ksok : PyData.strOk d0.2.1 = true := by
      obtain ⟨_, hd0, _⟩ := firstBad_some all fb
      exact ok.ok d0 (List.mem_of_getElem? hd0)
    have lay : (PyData.tuple [.str d0.2.1, .int z0]).canLay0 = true := by
      simp [PyData.canLay0, PyData.canLayAll0]
      exact ksok
    have shp : SeqAt.shaped (.tuple [.str d0.2.1, .int z0]) = true := by
      unfold SeqAt.shaped
      rw [lay]
      simp [PyData.depth, PyData.depthAll]
    have ee : PyData.eqv (.tuple [.str d0.2.1, .int z0]) (.tuple [.str d0.2.1, .int z0]) = true := SeqAt.eqv_refl _ lay
    refine ⟨.ref t5, rfl, .ref t, rfl, _, _, Dp.tup tt5 (.cons (.str _) (.cons (.int _) .nil)), Dp.tup ttd (.cons (.str _) (.cons (.int _) .nil)), shp, shp, ?_⟩
    rw [ee]
    refine ⟨true, rfl, iteT ⟨.ref u, rfl, .ref v, rfl, u, v, Av.reverse, Av, rfl, vu.same s5, (vd3.same s4).same s5, fun x => aget_rev vd.nd x, nuv, fun H6 s6 => ?_⟩⟩
    exact q _ (K2.trans (Keep.same ((s24.trans s5).trans s6)))
end
end K3

set_option Elab.async false
set_option linter.all false
set_option maxRecDepth 100000
set_option maxHeartbeats 4000000
namespace K3
open PySem PySem.Spec PyProof.Rows L2 Cs CsX
/-- a text taken several times -/
theorem op_mulS {X : Cx} : OpR X (binaryOp .Mult) (fun x y H Q => ∃ z k, x = .str z ∧ y = .int k ∧ MulOk z k ∧ Q (.str (Txt.mul z k)) H) := by
  intro pins s σ H x y v u Q I rx ry h
  obtain ⟨z, k, rfl, rfl, ok, q⟩ := h
  obtain ⟨t, rfl⟩ := rx
  obtain ⟨t', rfl⟩ := ry
  exact SB.mul ok fun t' k2 => ⟨.str (Txt.mul z k), H, I.tok _, ⟨_, rfl⟩, q⟩
def lettersM : Str := "qxcvbnmasdfghjklpoiu"
def nameM (s k : Nat) : Str := Txt.mul ⟨#[lettersM.cps.toList.getD ((k * 7 + s) % 20) 0]⟩ (1 + (k % 3 : Nat))
theorem many_nodup : ((List.range 20).all fun s => decide (((List.range 20).map (nameM s)).Nodup)) = true := by decide +kernel
theorem many_ok : ((List.range 20).all fun s => (List.range 20).all fun k => PyData.strOk (nameM s k)) = true := by decide +kernel
theorem lettersM_len : lettersM.cps.toList.length = 20 := by decide +kernel
def sideM (start step : Int) (n : Nat) : List Int := (List.range n).map fun (i : Nat) => start + step * (i : Int)
theorem sideM_len (start step : Int) (n : Nat) : (sideM start step n).length = n := by unfold sideM; rw [List.length_map, List.length_range]
theorem sideM_srt {start step : Int} (h : 1 ≤ step) (n : Nat) : Srt (sideM start step n) := by
  unfold sideM
  refine List.Pairwise.map _ (fun a b (hab : a < b) => ?_) List.pairwise_lt_range
  have h1 : ((a : Int) + 1) ≤ b := by omega
  have h2 := Int.mul_le_mul_of_nonneg_left h1 (show 0 ≤ step by omega)
  rw [Int.mul_add, Int.mul_one] at h2
  omega
section
variable {P : Program} {w : World} {K : PySem.W.Frag} {mg : Str → Option Value} {base : Heap}
abbrev sMany : Stmt := topS 39
abbrev nMany : List Str := ["_law_stream_here", "_law_letters", "_law_shift", "_law_domains_here", "_law_k", "_law_name", "_law_start", "_law_step", "_law_size", "_law_at_here"]
theorem scMany : FnScope nMany ["_law_stream_here"] (defScope sMany) := ⟨rfl, rfl, rfl, by decide +kernel, rfl, by decide +kernel, by decide +kernel⟩
def spDrawnD : Sp := fun vs H Q _ => ∃ (p : Addr), vs = [.ref p] ∧ Strm H p ∧ ∀ (H' : Hp) (l : Addr) (ds : List DomE), Keep p H H' → Strm H' p → Doms H' l ds → Dok ds → Q (.ref l) H'
theorem ok_many {f fD : Addr} {fd fdD : FuncData} (F : Fun K "_law_many_domains" "_law_many_domains" sMany f fd) (B : Bt mg) (D : Call P w K mg base 1 "_law_next" fD fdD ["_law_stream_here", "_law_size"] spDraw) :
    FnOk P w K mg base CX0 2 f fd ["_law_stream_here"] spDrawnD := by
  refine F.ok scMany (fun vs H Q E h => ?_) (fun cdv A outer s H vs Q E hr h => ?_)
  · obtain ⟨p, rfl, _⟩ := h
    rfl
  · obtain ⟨p, rfl, hp, q⟩ := h
    have nd := scMany.nd
    refine ⟨_, pss_cons (ps_set (i := 1) nd rfl (.inl rfl) pe_str)
      (pss_cons (ps_set (i := 2) nd rfl (.inl rfl) (pe_call D.ok hr (by rfl) D.at_ D.kp D.bd .nil pass0 (pa_cons (pv 0) (pa_cons pe_int pa_nil))))
      (pss_cons (ps_set (i := 3) nd rfl (.inl rfl) (pe_lst pa_nil))
      (pss_cons (ps_for PassesOwn.never rfl (pi_range1 (by rfl) B.range (pa_cons (pe_ix ix_list (pe_lst (pa_cons pe_int (pa_cons pe_int (pa_cons pe_int pa_nil)))) (pe_call D.ok hr (by rfl) D.at_ D.kp D.bd .nil pass0 (pa_cons (pv 0) (pa_cons pe_int pa_nil))) (fun _ _ => rfl)) pa_nil)) (pg_name (i := 4) nd rfl (.inl rfl))
        (pss_cons (ps_set (i := 5) nd rfl (.inl rfl) (pe_op op_mulS (pe_ix ix_str (pv 1) (pe_op op_mod (pe_callTy call_int1 (by rfl) B.int PyProof.Rows.boot_int (pa_cons (pe_op op_add (pe_op op_mul (pv 4) pe_int) (pv 2)) pa_nil)) pe_int) (fun _ _ => rfl))
          (pe_op op_add pe_int (pe_op op_mod (pe_callTy call_int1 (by rfl) B.int PyProof.Rows.boot_int (pa_cons (pv 4) pa_nil)) pe_int))))
        (pss_cons (ps_set (i := 6) nd rfl (.inr rfl) (pe_op op_sub (pe_call D.ok hr (by rfl) D.at_ D.kp D.bd .nil pass0 (pa_cons (pv 0) (pa_cons pe_int pa_nil))) pe_int))
        (pss_cons (ps_set (i := 7) nd rfl (.inr rfl) (pe_op op_add pe_int (pe_call D.ok hr (by rfl) D.at_ D.kp D.bd .nil pass0 (pa_cons (pv 0) (pa_cons pe_int pa_nil)))))
        (pss_cons (ps_set (i := 8) nd rfl (.inl rfl) (pe_op op_sub pe_int (pe_op op_mul (pe_call D.ok hr (by rfl) D.at_ D.kp D.bd .nil pass0 (pa_cons (pv 0) (pa_cons pe_int pa_nil))) (pe_call D.ok hr (by rfl) D.at_ D.kp D.bd .nil pass0 (pa_cons (pv 0) (pa_cons pe_int pa_nil))))))
        (pss_one (ps_expr (pe_bm PySem.F.plainAttrs_list PySem.F.slot_list_append PySem.F.type_list_append mt_append (pv 3) (pa_cons
          (pe_tup (pa_cons (pv 5) (pa_cons (pe_lc (own := [("_law_at_here", 9)]) (g := gName 9) (tt := tYes) (te := tOp (rI0 fun i j => .int (i + j)) (tVar 6) (tOp (rI CMul fun i j => .int (i * j)) (tVar 7) (tVar 9))) rfl nd (pi_range1 (by rfl) B.range (pa_cons (pv 8) pa_nil)) (blkOk_by (N := nMany) (sc := defScope sMany) (by decide +kernel)) (fun _ _ _ _ _ => pg_name (i := 9) nd rfl (Or.inl rfl)) (fun _ _ _ _ _ => pts_nil)
            (fun _ _ _ _ _ => pe_op op_add (pv 6) (pe_op op_mul (pv 7) (pv 9)))) pa_nil))) pa_nil)))))))))
      (pss_one (ps_ret (pv 3)))))), ?_⟩
    refine ⟨.ref p, rfl, p, 20, rfl, hp, by decide, by decide, fun H1 s o1 st1 s0 s1 => ?_⟩
    obtain ⟨s, rfl⟩ : ∃ n : Nat, s = (n : Int) := ⟨s.toNat, by omega⟩
    refine ⟨Nat.zero_le _, fun l nl1 => ?_⟩
    have npl : p ≠ l := fun z => st1.some (z ▸ nl1)
    have nl : H l = none := by rw [← o1 l npl.symm]; exact nl1
    have k1 : Keep p H (upd H1 l (.lst [])) := ((Keep.refl p H).oth o1).at_ nl
    have st1' := st1.upd (o := HO.lst []) npl
    have el1 := upd_same (H := H1) (a := l) (o := HO.lst [])
    generalize upd H1 l (HO.lst []) = H2 at k1 st1' el1 ⊢
    refine ⟨by show 3 ≤ sizeLine; decide, fun t nt => ?_⟩
    have npt : p ≠ t := fun z => st1'.some (z ▸ nt)
    refine ⟨.ref p, rfl, p, 3, rfl, st1'.upd npt, by decide, by decide, fun H3 e o3 st3 e0 e1 => ?_⟩
    obtain ⟨m, hm, hm20⟩ : ∃ m : Nat, atI [V.int 20, V.int 14, V.int 8] e = some (.int (m : Int)) ∧ m ≤ 20 := by
      have : e = 0 ∨ e = 1 ∨ e = 2 := by omega
      rcases this with rfl | rfl | rfl
      · exact ⟨20, atI_nat (j := 0) rfl, by decide⟩
      · exact ⟨14, atI_nat (j := 1) rfl, by decide⟩
      · exact ⟨8, atI_nat (j := 2) rfl, by decide⟩
    have k3 : Keep p H H3 := (k1.at_ (k1.free st1' nt)).oth o3
    have ntl : t ≠ l := fun z => by rw [z, el1] at nt; cases nt
    have el3 : H3 l = some (.lst []) := by rw [o3 l npl.symm, upd_ne (Ne.symm ntl)]; exact el1
    have et3 : H3 t = some (.lst [V.int 20, V.int 14, V.int 8]) := by rw [o3 t npt.symm]; exact upd_same
    refine ⟨t, _, e, .int (m : Int), rfl, rfl, sl_map et3, hm, (m : Int), rfl, by omega, by omega, for_range (lo := 0) (n := ((m : Int)).toNat) (fun i σ H' => ∃ (y4 y5 y6 y7 y8 : Option V) (ds : List DomE), σ = [some (.ref p), some (.str lettersM), some (.int (s : Int)), some (.ref l), y4, y5, y6, y7, y8, none] ∧ Keep p H H' ∧ Strm H' p ∧ Doms H' l ds ∧ ds.map (·.2.1) = (List.range i).map (nameM s) ∧ ∀ d ∈ ds, (Srt d.2.2.2 ∧ d.2.2.2.length ≤ 31) ∧ H d.1 = none ∧ H d.2.2.1 = none)
      ⟨none, none, none, none, none, [], rfl, k3, st3, ⟨el3, (fun _ h => nomatch h), (fun _ h => nomatch h)⟩, rfl, (fun _ h => nomatch h)⟩ ?_ ?_⟩
    · rintro i σ H' hi ⟨y4, y5, y6, y7, y8, ds, rfl, kp, st, dm, ks, dok⟩
      have hi' : i < 20 := by omega
      have hx : (i * 7 + s) % 20 < lettersM.cps.toList.length := by rw [lettersM_len]; exact Nat.mod_lt _ (by decide)
      have gx : lettersM.cps.toList[(i * 7 + s) % 20]? = some (lettersM.cps.toList.getD ((i * 7 + s) % 20) 0) := by
        rw [List.getD_eq_getElem?_getD, List.getElem?_eq_getElem hx] <;> rfl
      have ez : (0 + (i : Int)) * 7 + (s : Int) = ((i * 7 + s : Nat) : Int) := by omega
      have mo : MulOk ⟨#[lettersM.cps.toList.getD ((i * 7 + s) % 20) 0]⟩ (1 + (0 + (i : Int)) % 3) := mulOk_of 1 3 (Nat.le_refl 1) (by omega) (by omega) (by decide) (by decide)
      have en : Txt.mul ⟨#[lettersM.cps.toList.getD ((i * 7 + s) % 20) 0]⟩ (1 + (0 + (i : Int)) % 3) = nameM s i := by
        unfold nameM
        rw [show (0 + (i : Int)) % 3 = ((i % 3 : Nat) : Int) by omega]
      refine ⟨_, rfl, .int (0 + (i : Int)), rfl, 0 + (i : Int), 7, rfl, rfl, .inr ⟨by decide, by decide⟩, .int (s : Int), rfl, (0 + (i : Int)) * 7, (s : Int), rfl, rfl, .inl ⟨_, rfl, (0 + (i : Int)) * 7 + (s : Int), 20, rfl, rfl, ?_, ?_⟩⟩
      · show (0 : Int) < 20
        decide
      refine ⟨lettersM, _, lettersM.cps.toList.getD ((i * 7 + s) % 20) 0, rfl, rfl, by decide +kernel, ?_, .int (0 + (i : Int)), rfl, .inl ⟨_, rfl, 0 + (i : Int), 3, rfl, rfl, ?_, 1, (0 + (i : Int)) % 3, rfl, rfl, _, _, rfl, rfl, mo, ?_⟩⟩
      · rw [ez, show (((i * 7 + s : Nat) : Int) % 20) = (((i * 7 + s) % 20 : Nat) : Int) by omega]
        exact atI_nat gx
      · show (0 : Int) < 3
        decide
      rw [en]
      refine ⟨.ref p, rfl, p, 41, rfl, st, by decide, by decide, fun H4 a o4 st4 a0 a1 => ⟨a, 20, rfl, rfl, ?_⟩⟩
      refine ⟨.ref p, rfl, p, 3, rfl, st4, by decide, by decide, fun H5 b o5 st5 b0 b1 => ⟨1, b, rfl, rfl, ?_⟩⟩
      refine ⟨.ref p, rfl, p, 3, rfl, st5, by decide, by decide, fun H6 c o6 st6 c0 c1 => ⟨.ref p, rfl, p, 7, rfl, st6, by decide, by decide, fun H7 d o7 st7 d0 d1 => ⟨c, d, rfl, rfl, .inr ⟨by omega, by omega⟩, 20, c * d, rfl, rfl, ?_⟩⟩⟩
      have cd0 : 0 ≤ c * d := Int.mul_nonneg c0 d0
      have cd1 : c * d ≤ 12 := by
        have h1 : c ≤ 2 := by omega
        have h2 : d ≤ 6 := by omega
        have := Int.mul_le_mul h1 h2 d0 (by decide)
        omega
      obtain ⟨n, hn, hn20⟩ : ∃ n : Nat, (20 : Int) - c * d = (n : Int) ∧ n ≤ 20 := ⟨(20 - c * d).toNat, by omega, by omega⟩
      have k7 := (((kp.oth o4).oth o5).oth o6).oth o7
      have pd : ∀ d ∈ ds, d.1 ≠ p ∧ d.2.2.1 ≠ p := fun d hd => ⟨fun z => hp.some (z ▸ (dok d hd).2.1), fun z => hp.some (z ▸ (dok d hd).2.2)⟩
      have dm7 := dm.keep ((((Keep.refl p H').oth o4).oth o5).oth o6 |>.oth o7) npl.symm pd
      have lds : ds.length = i := by
        have := congrArg List.length ks
        rw [List.length_map, List.length_map, List.length_range] at this
        exact this
      refine ⟨.ref l, rfl, .inl ⟨rfl, _, sl_map dm7.lst⟩, _, rfl, .int (20 - c * d), rfl, 20 - c * d, rfl, by omega, by omega, fun R nR => ?_⟩
      refine lc_range (lo := 0) (fun j H8 => Same H7 H8 ∧ H8 R = some (.lst ((sideM (a - 20) (1 + b) j).map V.int))) ⟨same_new nR, upd_same⟩ ?_ ?_
      · rintro j H8 hj ⟨s8, eR⟩
        refine ⟨rfl, .int (a - 20), rfl, .int (1 + b), rfl, .int (0 + (j : Int)), rfl, 1 + b, 0 + (j : Int), rfl, rfl, .inl ⟨by omega, by omega⟩, a - 20, _, rfl, rfl, _, eR, ?_, same_at s8 nR, ?_⟩
        · rw [List.length_map, sideM_len]
          exact small1000 (by omega)
        · rw [upd_same]
          unfold sideM
          rw [List.range_succ, List.map_append, List.map_append]
          show _ = some (HO.lst (_ ++ [V.int (a - 20 + (1 + b) * (j : Int))]))
          rw [Int.zero_add]
      · rintro H8 ⟨s8, eR⟩
        refine ⟨by show 2 ≤ sizeLine; decide, fun T nT => ?_⟩
        have sT := same_new (o := HO.tup [V.str (nameM s i), V.ref R]) nT
        have dm8 := dm7.same s8
        have dmT := dm8.same sT
        have nRl : R ≠ l := fun z => by rw [z, dm7.lst] at nR; cases nR
        have nRH : H R = none := k7.free st7 nR
        have st8 : Strm H8 p := by
          obtain ⟨x1, x2, x3, ep⟩ := st7
          exact ⟨x1, x2, x3, s8 _ _ ep⟩
        have k8 := k7.trans (Keep.same s8)
        have nTH : H T = none := k8.free st8 nT
        refine ⟨l, _, _, rfl, rfl, dmT.lst, by rw [List.length_map]; exact small1000 (by omega), ?_⟩
        refine ⟨_, _, _, _, _, ds ++ [(T, nameM s i, R, sideM (a - 20) (1 + b) (20 - c * d).toNat)], rfl, (k8.trans (Keep.same sT)).at_ nl, ?_, dmT.snoc upd_same (sT _ _ eR) nRl, ?_, fun d' hd => ?_⟩
        · obtain ⟨x1, x2, x3, ep⟩ := st8
          exact ⟨x1, x2, x3, by rw [upd_ne npl]; exact sT _ _ ep⟩
        · rw [List.map_append, ks, List.range_succ, List.map_append] <;> rfl
        · rcases List.mem_append.mp hd with h | h
          · exact dok d' h
          · rw [List.mem_singleton.mp h]
            refine ⟨⟨sideM_srt (by omega) _, ?_⟩, nTH, nRH⟩
            show (sideM (a - 20) (1 + b) (20 - c * d).toNat).length ≤ 31
            rw [sideM_len]
            omega
    · rintro σ H' ⟨y4, y5, y6, y7, y8, ds, rfl, kp, st, dm, ks, dok⟩
      have h8 := List.all_eq_true.mp many_nodup s (List.mem_range.mpr (by omega))
      have h9 := of_decide_eq_true h8
      have mm : ((m : Int)).toNat = m := by omega
      rw [mm] at ks
      have e8 : List.range m = (List.range 20).take m := by rw [List.take_range, show min m 20 = m by omega]
      refine ⟨_, rfl, q H' l ds kp st dm ⟨?_, ?_, fun d hd => (dok d hd).1.2, fun d hd => (dok d hd).1.1, fun d hd => ?_⟩⟩
      · rw [ks, e8, List.map_take]
        exact List.Pairwise.sublist (List.take_sublist _ _) h9
      · have := congrArg List.length ks
        rw [List.length_map, List.length_map, List.length_range] at this
        omega
      · have : d.2.1 ∈ (List.range m).map (nameM s) := by rw [← ks]; exact List.mem_map_of_mem (f := fun d : DomE => d.2.1) hd
        obtain ⟨k, hk, ek⟩ := List.mem_map.mp this
        rw [← ek]
        have := List.all_eq_true.mp many_ok s (List.mem_range.mpr (by omega))
        exact List.all_eq_true.mp this k (List.mem_range.mpr (by have := List.mem_range.mp hk; omega))
end
end K3

set_option Elab.async false
set_option linter.all false
set_option maxRecDepth 100000
set_option maxHeartbeats 8000000
namespace K3
open PySem PySem.Spec PyProof.Rows L2 Cs CsX
/-- one pair of the domains is another one -/
theorem Doms.set_at {H : Hp} {l T Z : Addr} {ds : List DomE} {j : Nat} {x : Str} (D : Doms H l ds) (nZ : H Z = none) (nT : (upd H Z (.lst [])) T = none) :
    Doms (upd (upd (upd H Z (.lst [])) T (.tup [V.str x, V.ref Z])) l (.lst ((ds.set j (T, x, Z, [])).map fun d => V.ref d.1))) l (ds.set j (T, x, Z, [])) := by
  have hl := D.lst
  have nZl : Z ≠ l := fun z => by rw [z, hl] at nZ; cases nZ
  have nTZ : T ≠ Z := fun z => by rw [z, upd_same] at nT; cases nT
  have nT' : H T = none := by rw [upd_ne nTZ] at nT; exact nT
  have nTl : T ≠ l := fun z => by rw [z, hl] at nT'; cases nT'
  refine ⟨upd_same, fun d hd => ?_, fun d hd => ?_⟩
  · rcases List.mem_or_eq_of_mem_set hd with h | h
    · have e := D.tup d h
      have h1 : d.1 ≠ l := fun z => by rw [z, hl] at e; cases e
      rw [upd_ne h1, upd_ne (ne_of_none e nT'), upd_ne (ne_of_none e nZ)]
      exact e
    · rw [h, upd_ne nTl, upd_same]
  · rcases List.mem_or_eq_of_mem_set hd with h | h
    · have e := D.side d h
      have h1 : d.2.2.1 ≠ l := fun z => by
        rw [z, hl] at e
        cases ds with
        | nil => cases h
        | cons g gs =>
          have e' := HO.lst.inj (Option.some.inj e)
          cases hh : d.2.2.2 with
          | nil => rw [hh] at e'; cases e'
          | cons v vs => rw [hh] at e'; cases (List.cons.inj e').1
      rw [upd_ne h1, upd_ne (ne_of_none e nT'), upd_ne (ne_of_none e nZ)]
      exact e
    · rw [h, upd_ne nZl, upd_ne (Ne.symm nTZ), upd_same] <;> rfl
abbrev dDom (e : Str × List Int) : PyData := .tuple [.str e.1, dI e.2]
theorem dp_doms {K : PySem.W.Frag} {H : Hp} : ∀ ds : List DomE, (∀ d ∈ ds, H d.1 = some (.tup [V.str d.2.1, V.ref d.2.2.1])) → (∀ d ∈ ds, H d.2.2.1 = some (.lst (d.2.2.2.map V.int))) → DpAll K H (ds.map fun d => V.ref d.1) ((saysD ds).map dDom)
  | [], _, _ => .nil
  | d :: ds, h1, h2 => .cons (.tup (.inl (.inl (h1 d List.mem_cons_self))) (.cons (.str _) (.cons (dpI (sl_map (h2 d List.mem_cons_self))) .nil))) (dp_doms ds (fun e he => h1 e (List.mem_cons_of_mem _ he)) fun e he => h2 e (List.mem_cons_of_mem _ he))
theorem lay_doms : ∀ es : List (Str × List Int), (∀ e ∈ es, PyData.strOk e.1 = true) → PyData.canLayAll0 (es.map dDom) = true
  | [], _ => rfl
  | e :: es, k => by
    show (PyData.canLay0 (dDom e) && PyData.canLayAll0 (es.map dDom)) = true
    rw [lay_doms es fun g hg => k g (List.mem_cons_of_mem _ hg)]
    have : PyData.canLay0 (dDom e) = true := by
      have h := layI e.2
      have h0 := k e List.mem_cons_self
      simp [dDom, PyData.canLay0, PyData.canLayAll0] at h ⊢
      exact ⟨h0, h⟩
    rw [this]
    rfl
theorem deep_doms : ∀ es : List (Str × List Int), PyData.depthAll (es.map dDom) ≤ 4
  | [] => by simp [PyData.depthAll]
  | e :: es => by
    have h1 := deep_doms es
    have h2 := deepI e.2
    simp only [List.map_cons, PyData.depthAll, PyData.depth, dDom, List.map_nil] at *
    omega
theorem sh_doms (es : List (Str × List Int)) (k : ∀ e ∈ es, PyData.strOk e.1 = true) : SeqAt.shaped (.list (es.map dDom)) = true := by
  unfold SeqAt.shaped
  have h : (PyData.list (es.map dDom)).canLay0 = true := lay_doms es k
  rw [h]
  have := deep_doms es
  have h3 : (PyData.list (es.map dDom)).depth ≤ 5 := by
    simp only [PyData.depth]
    omega
  simp
  omega
section
variable {P : Program} {w : World} {K : PySem.W.Frag} {mg : Str → Option Value} {base : Heap}
abbrev sDD : Stmt := topS 40
abbrev nDD : List Str := ["_law_stream_here", "_law_pool_here", "_law_count", "_law_domains_here", "_law_at_here"]
theorem scDD : FnScope nDD ["_law_stream_here"] (defScope sDD) := ⟨rfl, rfl, rfl, by decide +kernel, rfl, by decide +kernel, by decide +kernel⟩
theorem ok_dd {f fD fM fP fN fO : Addr} {fd fdD fdM fdP fdN fdO : FuncData} (F : Fun K "_law_drawn_domains" "_law_drawn_domains" sDD f fd) (B : Bt mg) (D : Call P w K mg base 1 "_law_next" fD fdD ["_law_stream_here", "_law_size"] spDraw)
    (M : Call P w K mg base 2 "_law_many_domains" fM fdM ["_law_stream_here"] spDrawnD) (Po : Call P w K mg base 2 "_law_pool" fP fdP ["_law_stream_here", "_law_count"] spPool)
    (Na : Call P w K mg base 2 "_law_names" fN fdN ["_law_stream_here", "_law_count"] spNames) (Do : Call P w K mg base 2 "_law_domains" fO fdO ["_law_stream_here", "_law_names_here", "_law_pool_here", "_law_most"] spDoms) :
    FnOk P w K mg base CX0 3 f fd ["_law_stream_here"] spDrawnD := by
  refine F.ok scDD (fun vs H Q E h => ?_) (fun cdv A outer s H vs Q E hr h => ?_)
  · obtain ⟨p, rfl, _⟩ := h
    rfl
  · obtain ⟨p, rfl, hp, q⟩ := h
    have nd := scDD.nd
    have hr1 : Room 1 (A.deeper (envOfC "_law_drawn_domains" (defScope sDD) s.heap.objs.size f cdv)) := hr.mono (by decide)
    refine ⟨_, pss_cons (ps_if (pt_cmpR op_eq (pe_call D.ok hr1 (by rfl) D.at_ D.kp D.bd .nil pass0 (pa_cons (pv 0) (pa_cons pe_int pa_nil))) pe_int rfl)
        (pss_one (ps_ret (pe_call M.ok hr (by rfl) M.at_ M.kp M.bd .nil pass0 (pa_cons (pv 0) pa_nil)))) pss_nil)
      (pss_cons (ps_set (i := 1) nd rfl (.inl rfl) (pe_call Po.ok hr (by rfl) Po.at_ Po.kp Po.bd .nil pass0 (pa_cons (pv 0) (pa_cons (pe_op op_add pe_int (pe_call D.ok hr1 (by rfl) D.at_ D.kp D.bd .nil pass0 (pa_cons (pv 0) (pa_cons pe_int pa_nil)))) pa_nil))))
      (pss_cons (ps_set (i := 2) nd rfl (.inl rfl) (pe_call D.ok hr1 (by rfl) D.at_ D.kp D.bd .nil pass0 (pa_cons (pv 0) (pa_cons pe_int pa_nil))))
      (pss_cons (ps_set (i := 3) nd rfl (.inl rfl) (pe_call Do.ok hr (by rfl) Do.at_ Do.kp Do.bd .nil pass0 (pa_cons (pv 0) (pa_cons (pe_call Na.ok hr (by rfl) Na.at_ Na.kp Na.bd .nil pass0 (pa_cons (pv 0) (pa_cons (pv 2) pa_nil))) (pa_cons (pv 1) (pa_cons pe_int pa_nil))))))
      (pss_cons (ps_if (PW.pt (pw_and (pt_cmpR op_gt (pv 2) pe_int rfl) (pw_and1 (pt_cmpR op_eq (pe_call D.ok hr1 (by rfl) D.at_ D.kp D.bd .nil pass0 (pa_cons (pv 0) (pa_cons pe_int pa_nil))) pe_int rfl))))
        (pss_cons (ps_set (i := 4) nd rfl (.inl rfl) (pe_call D.ok hr1 (by rfl) D.at_ D.kp D.bd .nil pass0 (pa_cons (pv 0) (pa_cons (pv 2) pa_nil))))
        (pss_one (ps_asg (pe_tup (pa_cons (pe_ix ix_tup (pe_ix ix_list (pv 3) (pv 4) (fun _ _ => rfl)) pe_int (fun _ _ => rfl)) (pa_cons (pe_lst pa_nil) pa_nil))) (pg_sub (pv 3) (pv 4) set_list)))) pss_nil)
      (pss_one (ps_ret (pv 3))))))), ?_⟩
    refine ⟨.ref p, rfl, p, 5, rfl, hp, by decide, by decide, fun H1 e o1 st1 e0 e1 => ⟨rfl, _, rfl, ite_both (fun c => ?_) (fun c => ?_)⟩⟩
    · exact ⟨.ref p, rfl, p, rfl, st1, fun H' l ds k st dm ok => q H' l ds (((Keep.refl p H).oth o1).trans k) st dm ok⟩
    refine ⟨.ref p, rfl, .ref p, rfl, p, 4, rfl, st1, by decide, by decide, fun H2 b o2 st2 b0 b1 => ?_⟩
    obtain ⟨b, rfl⟩ : ∃ n : Nat, b = (n : Int) := ⟨b.toNat, by omega⟩
    refine ⟨2, (b : Int), rfl, rfl, p, 2 + b, ?_, st2, by omega, by omega, fun H3 pl ns k3 npl st3 epl srt nlen => ?_⟩
    · show [V.ref p, V.int (2 + (b : Int))] = [V.ref p, V.int ((2 + b : Nat) : Int)]
      rw [show (2 : Int) + (b : Int) = ((2 + b : Nat) : Int) by omega]
    have K3 : Keep p H H3 := (((Keep.refl p H).oth o1).oth o2).trans k3
    refine ⟨.ref p, rfl, p, 6, rfl, st3, by decide, by decide, fun H4 c o4 st4 c0 c1 => ?_⟩
    obtain ⟨c, rfl⟩ : ∃ n : Nat, c = (n : Int) := ⟨c.toNat, by omega⟩
    have nlp : pl ≠ p := fun z => st2.some (z ▸ npl)
    refine ⟨.ref p, rfl, .ref p, rfl, .int (c : Int), rfl, p, c, rfl, st4, by omega, fun H5 nm xs k5 nnm st5 enm xnd xlen xok => ?_⟩
    have nnp : nm ≠ p := fun z => st4.some (z ▸ nnm)
    have epl5 : H5 pl = some (.lst (ns.map V.int)) := k5 _ _ nlp ((o4 pl nlp).trans epl)
    have K5 : Keep p H H5 := (K3.oth o4).trans k5
    refine ⟨.ref pl, rfl, p, nm, pl, xs, ns, 4, rfl, st5, enm, epl5, nnp.symm, nlp.symm, srt, by omega, by omega, by omega, fun H6 dl ds k6 ndl st6 dm names dok nodS => ?_⟩
    have K6 := K5.trans k6
    have ndl0 : H dl = none := K5.free st5 ndl
    have pdl : dl ≠ p := fun z => hp.some (z ▸ ndl0)
    have apart : ∀ d ∈ ds, d.1 ≠ p ∧ d.2.2.1 ≠ p := fun d hd => ⟨fun z => st5.some (z ▸ (dok d hd).2.2.1), fun z => st5.some (z ▸ (dok d hd).2.2.2.1)⟩
    have dlen : ds.length = c := by
      have := congrArg List.length names
      rw [List.length_map, xlen] at this
      exact this
    have ok1 : Dok ds := ⟨by rw [names]; exact xnd, by omega, fun d hd => by have := (dok d hd).2.1; show d.2.2.2.length ≤ 31; omega, fun d hd => (dok d hd).1, fun d hd => xok _ (names ▸ List.mem_map_of_mem (f := fun d : DomE => d.2.1) hd)⟩
    refine' with_restS (fun σ H' => ∃ (y4 : Option V) (ds : List DomE), σ = [some (.ref p), some (.ref pl), some (.int (c : Int)), some (.ref dl), y4] ∧ Keep p H H' ∧ Strm H' p ∧ Doms H' dl ds ∧ Dok ds) ?r
      (fun rest => ⟨.int (c : Int), rfl, (c : Int), 0, rfl, rfl, _, rfl, ite_both (fun c0 => ⟨.ref p, rfl, p, 6, rfl, st6, by decide, by decide, fun H7 e o7 st7 e0 e1 => ⟨rfl, _, rfl, ite_both (fun c1 => ?g) (fun c1 => rest _ _ ⟨none, ds, rfl, K6.oth o7, st7, dm.keep ((Keep.refl p H6).oth o7) pdl apart, ok1⟩)⟩⟩) (fun c0 => rest _ _ ⟨none, ds, rfl, K6, st6, dm, ok1⟩)⟩)
    case g =>
      have cp : (0 : Int) < c := of_decide_eq_true c0
      refine ⟨.ref p, rfl, .int (c : Int), rfl, p, (c : Int), rfl, st7, cp, by omega, fun H8 j o8 st8 j0 j1 => ?_⟩
      obtain ⟨j, rfl⟩ : ∃ n : Nat, j = (n : Int) := ⟨j.toNat, by omega⟩
      have hj : j < ds.length := by omega
      obtain ⟨d, hv⟩ : ∃ d, ds[j]? = some d := ⟨_, List.getElem?_eq_getElem hj⟩
      have dmem := List.mem_of_getElem? hv
      have k8 : Keep p H6 H8 := ((Keep.refl p H6).oth o7).oth o8
      have dm8 := dm.keep k8 pdl apart
      have tt : SqT K H8 d.1 [V.str d.2.1, V.ref d.2.2.1] := .inl (.inl (dm8.tup d dmem))
      refine ⟨.ref dl, rfl, .int (j : Int), rfl, dl, _, _, .ref d.1, rfl, rfl, sl_map dm8.lst, at_of (j := j) rfl (domV_at hv), d.1, _, _, .str d.2.1, rfl, rfl, tt, atI_nat (j := 0) rfl, by show 0 ≤ sizeLine; decide, fun Z nZ => ⟨by show 2 ≤ sizeLine; decide, fun T nT => ?_⟩⟩
      have s8 := (same_new (o := HO.lst []) nZ).trans (same_new (o := HO.tup [V.str d.2.1, V.ref Z]) nT)
      refine ⟨.ref dl, rfl, .int (j : Int), rfl, dl, _, _, j, rfl, rfl, s8 _ _ dm8.lst, ?_, rest _ _ ?_⟩
      · rw [List.length_map]
        unfold ixN
        rw [if_pos (by omega), if_pos (by omega)] <;> rfl
      · have es : (ds.map fun d : DomE => V.ref d.1).set j (V.ref T) = (ds.set j (T, d.2.1, Z, [])).map fun d => V.ref d.1 := by rw [List.map_set]
        rw [es]
        have D2 := dm8.set_at (x := d.2.1) (j := j) nZ nT
        have npd : p ≠ dl := pdl.symm
        refine ⟨_, ds.set j (T, d.2.1, Z, []), rfl, ((K6.trans k8).trans (Keep.same s8)).at_ ndl0, ?_, D2, ?_⟩
        · obtain ⟨x1, x2, x3, ep⟩ := st8
          exact ⟨x1, x2, x3, by rw [upd_ne npd]; exact s8 _ _ ep⟩
        · have nm2 : (ds.set j (T, d.2.1, Z, [])).map (·.2.1) = ds.map (·.2.1) := by
            rw [List.map_set]
            refine List.ext_getElem? fun i => ?_
            rw [List.getElem?_set]
            split
            · next h => subst h; rw [List.length_map, if_pos hj, List.getElem?_map, hv] <;> rfl
            · rfl
          refine ⟨by rw [nm2]; exact ok1.nd, by rw [List.length_set]; exact ok1.len, fun e he => ?_, fun e he => ?_, fun e he => ?_⟩
          · rcases List.mem_or_eq_of_mem_set he with h | h
            · exact ok1.sz e h
            · rw [h]; show 0 ≤ 31; omega
          · rcases List.mem_or_eq_of_mem_set he with h | h
            · exact ok1.srt e h
            · rw [h]; exact .nil
          · rcases List.mem_or_eq_of_mem_set he with h | h
            · exact ok1.ok e h
            · rw [h]; exact ok1.ok d dmem
    case r =>
      rintro σ H' ⟨y4, ds, rfl, k, st, dm, ok⟩
      exact ⟨_, rfl, q H' dl ds k st dm ok⟩
theorem tot_snoc {ds : List DomE} : ∀ {i : Nat} {d : DomE}, ds[i]? = some d → tot (ds.take (i + 1)) = tot (ds.take i) * szD d := by
  induction ds with
  | nil => intro i d h; cases i <;> cases h
  | cons e ds ih =>
    intro i d h
    cases i with
    | zero => cases h; show szD e * 1 = 1 * szD e; omega
    | succ i =>
      show szD e * tot (ds.take (i + 1)) = szD e * tot (ds.take i) * szD d
      rw [ih h, Nat.mul_assoc]
abbrev sLaw : Stmt := topS 52
abbrev nLaw : List Str := ["_law_script", "_law_domains_here", "_law_total", "_law_domain", "_law_given"]
theorem scLaw : FnScope nLaw ["_law_script"] (defScope sLaw) := ⟨rfl, rfl, rfl, by decide +kernel, rfl, by decide +kernel, by decide +kernel⟩
def spLaw (K : PySem.W.Frag) : Sp := fun vs H Q _ => ∃ (a : Addr) (ns : List Int), vs = [.ref a] ∧ SqL K H a (ns.map V.int) ∧ ns.length ≤ 63 ∧ ∀ H', Q (.bl true) H'
theorem ok_law {f fT fO fN fR : Addr} {fd fdT fdO fdN fdR : FuncData} (F : Fun K "law" "law" sLaw f fd) (B : Bt mg) (T : Call P w K mg base 1 "_law_stream" fT fdT ["_law_script", "_law_k"] (spStream K))
    (Do : Call P w K mg base 3 "_law_drawn_domains" fO fdO ["_law_stream_here"] spDrawnD) (Nd : Call P w K mg base 4 "_law_numbered" fN fdN pNd (spNd K)) (Re : Call P w K mg base 5 "_law_refused" fR fdR pRef spRef) :
    FnOk P w K mg base CX0 6 f fd ["_law_script"] (spLaw K) := by
  refine F.ok scLaw (fun vs H Q E h => ?_) (fun cdv A outer s H vs Q E hr h => ?_)
  · obtain ⟨a, ns, rfl, _⟩ := h
    rfl
  · obtain ⟨a, sc, rfl, ha, ln, q⟩ := h
    have hr1 : Room 1 (A.deeper (envOfC "law" (defScope sLaw) s.heap.objs.size f cdv)) := hr.mono (by decide)
    have hr3 : Room 3 (A.deeper (envOfC "law" (defScope sLaw) s.heap.objs.size f cdv)) := hr.mono (by decide)
    have hr4 : Room 4 (A.deeper (envOfC "law" (defScope sLaw) s.heap.objs.size f cdv)) := hr.mono (by decide)
    have hu64 : (A.deeper (envOfC "law" (defScope sLaw) s.heap.objs.size f cdv)).units + 64 < cLine := by have := hr.un; omega
    have nd := scLaw.nd
    refine ⟨_, pss_cons (ps_set (i := 1) nd rfl (.inl rfl) (pe_call Do.ok hr3 (by rfl) Do.at_ Do.kp Do.bd .nil pass0 (pa_cons (pe_call T.ok hr1 (by rfl) T.at_ T.kp T.bd .nil pass0 (pa_cons (pv 0) (pa_cons pe_int pa_nil))) pa_nil)))
      (pss_cons (ps_set (i := 2) nd rfl (.inl rfl) pe_int)
      (pss_cons (ps_for PassesOwn.never rfl (pi_list (pv 1)) (pg_name (i := 3) nd rfl (.inl rfl))
        (pss_one (ps_set (i := 2) nd rfl (.inl rfl) (pe_op op_mul (pv 2) (pe_callB call_len_seq (by rfl) B.len PySem.boot_len (pa_cons (pe_ix ix_tup (pv 3) pe_int (fun _ _ => rfl)) pa_nil))))))
      (pss_cons (ps_setLc (i := 4) (own := [("_law_domain", 3)]) (g := gName 3) (tt := tYes) (te := tTup (tCons (tOp (rIxT K) (tVar 3) (tC (V.int 0))) (tCons (tCB (rLst K) (tCons (tOp (rIxT K) (tVar 3) (tC (V.int 1))) tNil)) tNil))) rfl nd rfl rfl (by rfl) (pi_list (pv 1)) (blkOk_by (N := nLaw) (sc := defScope sLaw) (by decide +kernel)) (fun _ _ _ _ _ => pg_name (i := 3) nd rfl (Or.inl rfl)) (fun _ _ _ _ _ => pts_nil)
          (fun _ _ _ _ _ => pe_tup (pa_cons (pe_ix (r := rIxT K) ix_tup (pv 3) pe_int (fun _ _ => rfl)) (pa_cons (pe_callTy call_list_of (by rfl) B.list PyProof.Rows.boot_list (pa_cons (pe_ix (r := rIxT K) ix_tup (pv 3) pe_int (fun _ _ => rfl)) pa_nil)) pa_nil))))
      (pss_cons (ps_if (PW.pt (pw_and (pt_cmpR op_gt (pv 2) pe_int rfl) (pw_and1 (pt_not (pt_val (pe_call Nd.ok hr4 (by rfl) Nd.at_ Nd.kp Nd.bd .nil pass0 (pa_cons (pv 0) (pa_cons (pv 4) (pa_cons (pv 1) (pa_cons (pv 2) pa_nil)))))))))) (pss_one (ps_ret pe_bl)) pss_nil)
      (pss_one (ps_ret (pe_and (pe_call Re.ok hr (by rfl) Re.at_ Re.kp Re.bd .nil pass0 (pa_cons (pe_call T.ok hr1 (by rfl) T.at_ T.kp T.bd .nil pass0 (pa_cons (pv 0) (pa_cons pe_int pa_nil))) (pa_cons (pv 4) (pa_cons (pv 1) (pa_cons (pv 2) pa_nil)))))
        (pe_one (pe_cmpR (r := rEqD K) (op_eqD hu64) (pv 4) (pv 1) rfl))))))))), ?_⟩
    refine ⟨.ref a, rfl, a, sc, 0, rfl, ha, fun H1 p s1 np st1 => ⟨p, rfl, st1, fun H2 dl ds k2 st2 dm ok => ?_⟩⟩
    have ha2 : SqL K H2 a (sc.map V.int) := sq_keep ha np ((Keep.same s1).trans k2)
    clear s1 np st1 k2 st2 ha
    have dlen := ok.len
    refine ⟨.ref dl, rfl, dl, rfl, ⟨_, sl_map dm.lst⟩, for_list (xs := ds.map fun d : DomE => V.ref d.1) (fun i σ H' => ∃ (y3 : Option V), H' = H2 ∧ σ = [some (.ref a), some (.ref dl), some (.int (tot (ds.take i) : Nat)), y3, none])
      ⟨none, rfl, rfl⟩ (fun i σ H' _ h => by obtain ⟨_, rfl, _⟩ := h; exact sl_map dm.lst) ?_ ?_⟩
    · rintro i x σ H' hx ⟨y3, rfl, rfl⟩
      rw [List.getElem?_map] at hx
      obtain ⟨d, hv, rfl⟩ := Option.map_eq_some_iff.mp hx
      have dmem := List.mem_of_getElem? hv
      have tt : SqT K H' d.1 [V.str d.2.1, V.ref d.2.2.1] := .inl (.inl (dm.tup d dmem))
      have szd : d.2.2.2.length ≤ 31 := ok.sz d dmem
      refine ⟨_, rfl, .ref d.1, rfl, d.1, _, _, .ref d.2.2.1, rfl, rfl, tt, atI_nat (j := 1) rfl, d.2.2.1, _, rfl, .inl (sl_map (dm.side d dmem)), _, _, rfl, rfl, .inr ⟨by rw [List.length_map]; omega, by rw [List.length_map]; omega⟩, some (.ref d.1), rfl, ?_⟩
      rw [tot_snoc hv, Int.natCast_mul, List.length_map] <;> rfl
    rintro σ H' ⟨y3, rfl, rfl⟩
    rw [List.length_map, List.take_length]
    refine ⟨.ref dl, rfl, dl, rfl, ⟨_, sl_map dm.lst⟩, fun G nG => lc_list (xs := ds.map fun d : DomE => V.ref d.1) (fun i H3 => Same H' H3 ∧ ∃ gs : List DomE, Doms H3 G gs ∧ saysD gs = saysD (ds.take i)) ⟨same_new nG, [], ⟨upd_same, (fun _ h => nomatch h), (fun _ h => nomatch h)⟩, rfl⟩ (fun i H3 _ h => h.1.seq (sl_map dm.lst)) ?_ ?_⟩
    · rintro i x H3 hx ⟨sm, gs, dg, says⟩
      rw [List.getElem?_map] at hx
      obtain ⟨d, hv, rfl⟩ := Option.map_eq_some_iff.mp hx
      have dmem := List.mem_of_getElem? hv
      have hi := (List.getElem?_eq_some_iff.mp hv).1
      have dm' := dm.same sm
      have tt : SqT K H3 d.1 [V.str d.2.1, V.ref d.2.2.1] := .inl (.inl (dm'.tup d dmem))
      have lg : gs.length = i := by
        have := congrArg List.length says
        rw [List.length_map, List.length_map, List.length_take] at this
        omega
      refine ⟨rfl, .ref d.1, rfl, d.1, _, _, .str d.2.1, rfl, rfl, tt, atI_nat (j := 0) rfl, .ref d.1, rfl, d.1, _, _, .ref d.2.2.1, rfl, rfl, tt, atI_nat (j := 1) rfl, d.2.2.1, _, rfl, .inl (sl_map (dm'.side d dmem)), fun Z nZ => ⟨by show 2 ≤ sizeLine; decide, fun T nT => ?_⟩⟩
      have sZ := same_new (o := HO.lst (d.2.2.2.map V.int)) nZ
      have sT := same_new (o := HO.tup [V.str d.2.1, V.ref Z]) nT
      have dT := (dg.same sZ).same sT
      have nZD : Z ≠ G := fun z => by rw [z, dg.lst] at nZ; cases nZ
      refine ⟨_, dT.lst, ?_, same_at ((sm.trans sZ).trans sT) nG, gs ++ [(T, d.2.1, Z, d.2.2.2)], dT.snoc upd_same (sT _ _ upd_same) nZD, ?_⟩
      · rw [List.length_map]
        exact small1000 (by omega)
      · unfold saysD at says ⊢
        rw [List.map_append, says, List.take_add_one, hv, List.map_append]
        rfl
    rintro H3 ⟨s3, gs, dg, says⟩
    rw [List.length_map, List.take_length] at says
    have dm3 := dm.same s3
    have ha3 := s3.seq ha2
    refine' with_restS (fun σ H' => ∃ y3 : Option V, σ = [some (.ref a), some (.ref dl), some (.int (tot ds : Nat)), y3, some (.ref G)] ∧ Same H3 H') ?r (fun rest => ⟨.int (tot ds : Nat), rfl, (tot ds : Nat), 0, rfl, rfl, _, rfl, ite_both (fun c => ?k) (fun c => iteF (rest _ _ ⟨_, rfl, Same.refl _⟩))⟩)
    case k =>
      have pos : 0 < tot ds := by have := of_decide_eq_true c; omega
      exact ⟨.ref a, rfl, .ref G, rfl, .ref dl, rfl, .int (tot ds : Nat), rfl, a, G, dl, sc, gs, ds, rfl, ha3, dg, dm3, says, ok, pos, fun H5 s5 => ⟨true, rfl, iteF (rest _ _ ⟨_, rfl, s5⟩)⟩⟩
    case r =>
      rintro σ H4 ⟨y3, rfl, s4⟩
      have dm4 := dm3.same s4
      have dg4 := dg.same s4
      refine ⟨.ref a, rfl, a, sc, 7, rfl, s4.seq ha3, fun H6 p2 s6 np2 st6 => ?_⟩
      have dlp : dl ≠ p2 := fun z => by rw [← z, dm4.lst] at np2; cases np2
      have gp : G ≠ p2 := fun z => by rw [← z, dg4.lst] at np2; cases np2
      have ap : ∀ {l : Addr} {es : List DomE}, Doms H4 l es → ∀ d ∈ es, d.1 ≠ p2 ∧ d.2.2.1 ≠ p2 := fun {l es} D d hd => ⟨(fun z => by have := D.tup d hd; rw [z, np2] at this; cases this), (fun z => by have := D.side d hd; rw [z, np2] at this; cases this)⟩
      refine ⟨.ref G, rfl, .ref dl, rfl, .int (tot ds : Nat), rfl, p2, G, dl, gs, ds, rfl, st6, dg4.same s6, dm4.same s6, says, ok, dlp, gp, ap dm4, ap dg4, fun H7 k7 => ⟨true, rfl, iteT ?_⟩⟩
      have dX := (dg4.same s6).keep k7 gp (ap dg4)
      have eX := (dm4.same s6).keep k7 dlp (ap dm4)
      have kk : ∀ e ∈ saysD ds, PyData.strOk e.1 = true := fun e he => by obtain ⟨d, hd, rfl⟩ := List.mem_map.mp he; exact ok.ok d hd
      have p1 := Dp.lst (K := K) (sl_map dX.lst) (dp_doms gs dX.tup dX.side)
      rw [says] at p1
      refine ⟨.ref G, rfl, .ref dl, rfl, _, _, p1, Dp.lst (sl_map eX.lst) (dp_doms ds eX.tup eX.side), sh_doms _ kk, sh_doms _ kk, ?_⟩
      have ee : PyData.eqv (.list ((saysD ds).map dDom)) (.list ((saysD ds).map dDom)) = true := SeqAt.eqv_refl _ (lay_doms _ kk)
      rw [ee]
      exact q _
end
end K3

set_option Elab.async false
set_option linter.all false
set_option maxRecDepth 100000
set_option maxHeartbeats 4000000
namespace K3
open PySem PySem.Spec PyProof.Rows L2 Cs CsX
/-! ### what the top has written -/
theorem all_mk {l : PySem.W.OpenLaw} {w : World} {K : PySem.W.Frag} {h : Heap} {mg : Str → Option Value} {fa f1 f2 f3 f4 f5 f6 f7 f8 f9 f10 f11 f12 f13 f14 f15 f16 f17 f18 f19 f20 f21 f22 f23 f24 e0 e1 e2 e3 e4 e5 e6 e7 e8 e9 e10 e11 e12 e13 e14 e15 e16 e17 e18 e19 e20 e21 e22 e23 e24 i0 i1 : Addr} (X : K.In h) (G : h.Ns mainGlobals mg) (hfa : mg "law" = some (.ref fa))
    {od1 an1 od2 an2 od3 an3 od4 an4 od5 an5 od6 an6 od7 an7 od8 an8 od9 an9 od10 an10 od11 an11 od12 an12 od13 an13 od14 an14 od15 an15 od16 an16 od17 an17 od18 an18 od19 an19 od20 an20 od21 an21 od22 an22 od23 an23 od24 an24 : Option Addr} {sl1 sl2 sl3 sl4 sl5 sl6 sl7 sl8 sl9 sl10 sl11 sl12 sl13 sl14 sl15 sl16 sl17 sl18 sl19 sl20 sl21 sl22 sl23 sl24 : Array (Option Value)}
    {oc1 kV1 dc1 pm1 cd1 ct1 oc2 kV2 dc2 pm2 cd2 ct2 oc3 kV3 dc3 pm3 cd3 ct3 oc4 kV4 dc4 pm4 cd4 ct4 oc5 kV5 dc5 pm5 cd5 ct5 oc6 kV6 dc6 pm6 cd6 ct6 oc7 kV7 dc7 pm7 cd7 ct7 oc8 kV8 dc8 pm8 cd8 ct8 oc9 kV9 dc9 pm9 cd9 ct9 oc10 kV10 dc10 pm10 cd10 ct10 oc11 kV11 dc11 pm11 cd11 ct11 oc12 kV12 dc12 pm12 cd12 ct12 oc13 kV13 dc13 pm13 cd13 ct13 oc14 kV14 dc14 pm14 cd14 ct14 oc15 kV15 dc15 pm15 cd15 ct15 oc16 kV16 dc16 pm16 cd16 ct16 oc17 kV17 dc17 pm17 cd17 ct17 oc18 kV18 dc18 pm18 cd18 ct18 oc19 kV19 dc19 pm19 cd19 ct19 oc20 kV20 dc20 pm20 cd20 ct20 oc21 kV21 dc21 pm21 cd21 ct21 oc22 kV22 dc22 pm22 cd22 ct22 oc23 kV23 dc23 pm23 cd23 ct23 oc24 kV24 dc24 pm24 cd24 ct24 : Value}
    {iod0 ian0 : Option Addr} {isl0 : Array (Option Value)} {ioc0 ikV0 idc0 ipm0 icd0 ict0 : Value} {nm0 q0 : Str} {N0 : Addr} {bs0 : List Value} {sn0 : List Str} {sub0 : List Value} {ab0 : Bool} {col0 : Option Bool} {dd0 : Option Addr} {m00 m10 m20 m30 m50 : Option Value}
    {iod1 ian1 : Option Addr} {isl1 : Array (Option Value)} {ioc1 ikV1 idc1 ipm1 icd1 ict1 : Value} {nm1 q1 : Str} {N1 : Addr} {bs1 : List Value} {sn1 : List Str} {sub1 : List Value} {ab1 : Bool} {col1 : Option Bool} {dd1 : Option Addr} {m01 m11 m21 m31 m51 : Option Value}
    (a1 : PySem.W.nsIn K mainGlobals "room" = some (some (.ref f1))) (l1 : K.lookup f1 = some ⟨oc1, od1, .func (PySem.W.fnOf "room" "room" (defArgs sRoom) (defBody sRoom) (defScope sRoom) .none kV1 dc1 pm1 an1 cd1 ct1), sl1⟩) (c1 : PySem.W.codeIn K cd1 "room" = true) (k1 : PySem.W.keepIn K (.ref f1) = true)
    (a2 : PySem.W.nsIn K mainGlobals "assignment_at" = some (some (.ref f2))) (l2 : K.lookup f2 = some ⟨oc2, od2, .func (PySem.W.fnOf "assignment_at" "assignment_at" (defArgs sAt) (defBody sAt) (defScope sAt) .none kV2 dc2 pm2 an2 cd2 ct2), sl2⟩) (c2 : PySem.W.codeIn K cd2 "assignment_at" = true) (k2 : PySem.W.keepIn K (.ref f2) = true)
    (a3 : PySem.W.nsIn K mainGlobals "number_of" = some (some (.ref f3))) (l3 : K.lookup f3 = some ⟨oc3, od3, .func (PySem.W.fnOf "number_of" "number_of" (defArgs sNo) (defBody sNo) (defScope sNo) .none kV3 dc3 pm3 an3 cd3 ct3), sl3⟩) (c3 : PySem.W.codeIn K cd3 "number_of" = true) (k3 : PySem.W.keepIn K (.ref f3) = true)
    (a4 : PySem.W.nsIn K mainGlobals "_law_is_integer" = some (some (.ref f4))) (l4 : K.lookup f4 = some ⟨oc4, od4, .func (PySem.W.fnOf "_law_is_integer" "_law_is_integer" (defArgs sIsInt) (defBody sIsInt) (defScope sIsInt) .none kV4 dc4 pm4 an4 cd4 ct4), sl4⟩) (c4 : PySem.W.codeIn K cd4 "_law_is_integer" = true) (k4 : PySem.W.keepIn K (.ref f4) = true)
    (a5 : PySem.W.nsIn K mainGlobals "_law_stream" = some (some (.ref f5))) (l5 : K.lookup f5 = some ⟨oc5, od5, .func (PySem.W.fnOf "_law_stream" "_law_stream" (defArgs sStream) (defBody sStream) (defScope sStream) .none kV5 dc5 pm5 an5 cd5 ct5), sl5⟩) (c5 : PySem.W.codeIn K cd5 "_law_stream" = true) (k5 : PySem.W.keepIn K (.ref f5) = true)
    (a6 : PySem.W.nsIn K mainGlobals "_law_next" = some (some (.ref f6))) (l6 : K.lookup f6 = some ⟨oc6, od6, .func (PySem.W.fnOf "_law_next" "_law_next" (defArgs sDraw) (defBody sDraw) (defScope sDraw) .none kV6 dc6 pm6 an6 cd6 ct6), sl6⟩) (c6 : PySem.W.codeIn K cd6 "_law_next" = true) (k6 : PySem.W.keepIn K (.ref f6) = true)
    (a7 : PySem.W.nsIn K mainGlobals "_law_names" = some (some (.ref f7))) (l7 : K.lookup f7 = some ⟨oc7, od7, .func (PySem.W.fnOf "_law_names" "_law_names" (defArgs sNames) (defBody sNames) (defScope sNames) .none kV7 dc7 pm7 an7 cd7 ct7), sl7⟩) (c7 : PySem.W.codeIn K cd7 "_law_names" = true) (k7 : PySem.W.keepIn K (.ref f7) = true)
    (a8 : PySem.W.nsIn K mainGlobals "_law_pool" = some (some (.ref f8))) (l8 : K.lookup f8 = some ⟨oc8, od8, .func (PySem.W.fnOf "_law_pool" "_law_pool" (defArgs sPool) (defBody sPool) (defScope sPool) .none kV8 dc8 pm8 an8 cd8 ct8), sl8⟩) (c8 : PySem.W.codeIn K cd8 "_law_pool" = true) (k8 : PySem.W.keepIn K (.ref f8) = true)
    (a9 : PySem.W.nsIn K mainGlobals "_law_domains" = some (some (.ref f9))) (l9 : K.lookup f9 = some ⟨oc9, od9, .func (PySem.W.fnOf "_law_domains" "_law_domains" (defArgs sDoms) (defBody sDoms) (defScope sDoms) .none kV9 dc9 pm9 an9 cd9 ct9), sl9⟩) (c9 : PySem.W.codeIn K cd9 "_law_domains" = true) (k9 : PySem.W.keepIn K (.ref f9) = true)
    (a10 : PySem.W.nsIn K mainGlobals "_law_same_values" = some (some (.ref f10))) (l10 : K.lookup f10 = some ⟨oc10, od10, .func (PySem.W.fnOf "_law_same_values" "_law_same_values" (defArgs sSV) (defBody sSV) (defScope sSV) .none kV10 dc10 pm10 an10 cd10 ct10), sl10⟩) (c10 : PySem.W.codeIn K cd10 "_law_same_values" = true) (k10 : PySem.W.keepIn K (.ref f10) = true)
    (a11 : PySem.W.nsIn K mainGlobals "_law_many_domains" = some (some (.ref f11))) (l11 : K.lookup f11 = some ⟨oc11, od11, .func (PySem.W.fnOf "_law_many_domains" "_law_many_domains" (defArgs sMany) (defBody sMany) (defScope sMany) .none kV11 dc11 pm11 an11 cd11 ct11), sl11⟩) (c11 : PySem.W.codeIn K cd11 "_law_many_domains" = true) (k11 : PySem.W.keepIn K (.ref f11) = true)
    (a12 : PySem.W.nsIn K mainGlobals "_law_drawn_domains" = some (some (.ref f12))) (l12 : K.lookup f12 = some ⟨oc12, od12, .func (PySem.W.fnOf "_law_drawn_domains" "_law_drawn_domains" (defArgs sDD) (defBody sDD) (defScope sDD) .none kV12 dc12 pm12 an12 cd12 ct12), sl12⟩) (c12 : PySem.W.codeIn K cd12 "_law_drawn_domains" = true) (k12 : PySem.W.keepIn K (.ref f12) = true)
    (a13 : PySem.W.nsIn K mainGlobals "_law_at" = some (some (.ref f13))) (l13 : K.lookup f13 = some ⟨oc13, od13, .func (PySem.W.fnOf "_law_at" "_law_at" (defArgs sLAt) (defBody sLAt) (defScope sLAt) .none kV13 dc13 pm13 an13 cd13 ct13), sl13⟩) (c13 : PySem.W.codeIn K cd13 "_law_at" = true) (k13 : PySem.W.keepIn K (.ref f13) = true)
    (a14 : PySem.W.nsIn K mainGlobals "_law_number" = some (some (.ref f14))) (l14 : K.lookup f14 = some ⟨oc14, od14, .func (PySem.W.fnOf "_law_number" "_law_number" (defArgs sNum) (defBody sNum) (defScope sNum) .none kV14 dc14 pm14 an14 cd14 ct14), sl14⟩) (c14 : PySem.W.codeIn K cd14 "_law_number" = true) (k14 : PySem.W.keepIn K (.ref f14) = true)
    (a15 : PySem.W.nsIn K mainGlobals "_law_after" = some (some (.ref f15))) (l15 : K.lookup f15 = some ⟨oc15, od15, .func (PySem.W.fnOf "_law_after" "_law_after" (defArgs sAfter) (defBody sAfter) (defScope sAfter) .none kV15 dc15 pm15 an15 cd15 ct15), sl15⟩) (c15 : PySem.W.codeIn K cd15 "_law_after" = true) (k15 : PySem.W.keepIn K (.ref f15) = true)
    (a16 : PySem.W.nsIn K mainGlobals "_law_turned" = some (some (.ref f16))) (l16 : K.lookup f16 = some ⟨oc16, od16, .func (PySem.W.fnOf "_law_turned" "_law_turned" (defArgs sTurn) (defBody sTurn) (defScope sTurn) .none kV16 dc16 pm16 an16 cd16 ct16), sl16⟩) (c16 : PySem.W.codeIn K cd16 "_law_turned" = true) (k16 : PySem.W.keepIn K (.ref f16) = true)
    (a17 : PySem.W.nsIn K mainGlobals "_law_meets" = some (some (.ref f17))) (l17 : K.lookup f17 = some ⟨oc17, od17, .func (PySem.W.fnOf "_law_meets" "_law_meets" (defArgs sMeets) (defBody sMeets) (defScope sMeets) .none kV17 dc17 pm17 an17 cd17 ct17), sl17⟩) (c17 : PySem.W.codeIn K cd17 "_law_meets" = true) (k17 : PySem.W.keepIn K (.ref f17) = true)
    (a18 : PySem.W.nsIn K mainGlobals "_law_numbered" = some (some (.ref f18))) (l18 : K.lookup f18 = some ⟨oc18, od18, .func (PySem.W.fnOf "_law_numbered" "_law_numbered" (defArgs sNd) (defBody sNd) (defScope sNd) .none kV18 dc18 pm18 an18 cd18 ct18), sl18⟩) (c18 : PySem.W.codeIn K cd18 "_law_numbered" = true) (k18 : PySem.W.keepIn K (.ref f18) = true)
    (a19 : PySem.W.nsIn K mainGlobals "_law_told_number" = some (some (.ref f19))) (l19 : K.lookup f19 = some ⟨oc19, od19, .func (PySem.W.fnOf "_law_told_number" "_law_told_number" (defArgs sToldN) (defBody sToldN) (defScope sToldN) .none kV19 dc19 pm19 an19 cd19 ct19), sl19⟩) (c19 : PySem.W.codeIn K cd19 "_law_told_number" = true) (k19 : PySem.W.keepIn K (.ref f19) = true)
    (a20 : PySem.W.nsIn K mainGlobals "_law_told_value" = some (some (.ref f20))) (l20 : K.lookup f20 = some ⟨oc20, od20, .func (PySem.W.fnOf "_law_told_value" "_law_told_value" (defArgs sToldV) (defBody sToldV) (defScope sToldV) .none kV20 dc20 pm20 an20 cd20 ct20), sl20⟩) (c20 : PySem.W.codeIn K cd20 "_law_told_value" = true) (k20 : PySem.W.keepIn K (.ref f20) = true)
    (a21 : PySem.W.nsIn K mainGlobals "_law_strange" = some (some (.ref f21))) (l21 : K.lookup f21 = some ⟨oc21, od21, .func (PySem.W.fnOf "_law_strange" "_law_strange" (defArgs sStr) (defBody sStr) (defScope sStr) .none kV21 dc21 pm21 an21 cd21 ct21), sl21⟩) (c21 : PySem.W.codeIn K cd21 "_law_strange" = true) (k21 : PySem.W.keepIn K (.ref f21) = true)
    (a22 : PySem.W.nsIn K mainGlobals "_law_spoilt" = some (some (.ref f22))) (l22 : K.lookup f22 = some ⟨oc22, od22, .func (PySem.W.fnOf "_law_spoilt" "_law_spoilt" (defArgs sSpo) (defBody sSpo) (defScope sSpo) .none kV22 dc22 pm22 an22 cd22 ct22), sl22⟩) (c22 : PySem.W.codeIn K cd22 "_law_spoilt" = true) (k22 : PySem.W.keepIn K (.ref f22) = true)
    (a23 : PySem.W.nsIn K mainGlobals "_law_refused" = some (some (.ref f23))) (l23 : K.lookup f23 = some ⟨oc23, od23, .func (PySem.W.fnOf "_law_refused" "_law_refused" (defArgs sRef) (defBody sRef) (defScope sRef) .none kV23 dc23 pm23 an23 cd23 ct23), sl23⟩) (c23 : PySem.W.codeIn K cd23 "_law_refused" = true) (k23 : PySem.W.keepIn K (.ref f23) = true)
    (a24 : PySem.W.nsIn K mainGlobals "law" = some (some (.ref f24))) (l24 : K.lookup f24 = some ⟨oc24, od24, .func (PySem.W.fnOf "law" "law" (defArgs sLaw) (defBody sLaw) (defScope sLaw) .none kV24 dc24 pm24 an24 cd24 ct24), sl24⟩) (c24 : PySem.W.codeIn K cd24 "law" = true) (k24 : PySem.W.keepIn K (.ref f24) = true)
    (cg0 : PySem.W.nsIn K mainGlobals "BadNumber" = some (some (.ref e0)))
    (cg1 : PySem.W.nsIn K mainGlobals "UnknownValue" = some (some (.ref e1)))
    (cg2 : PySem.W.nsIn K mainGlobals "DeskError" = some (some (.ref e2)))
    (cg3 : PySem.W.nsIn K mainGlobals "UnknownName" = some (some (.ref e3)))
    (cg4 : PySem.W.nsIn K mainGlobals "RepeatedName" = some (some (.ref e4)))
    (cg5 : PySem.W.nsIn K mainGlobals "RepeatedValue" = some (some (.ref e5)))
    (cg6 : PySem.W.nsIn K mainGlobals "UnknownKey" = some (some (.ref e6)))
    (cg7 : PySem.W.nsIn K mainGlobals "RepeatedKey" = some (some (.ref e7)))
    (cg8 : PySem.W.nsIn K mainGlobals "EmptyRule" = some (some (.ref e8)))
    (cg9 : PySem.W.nsIn K mainGlobals "BadRow" = some (some (.ref e9)))
    (cg10 : PySem.W.nsIn K mainGlobals "BadBounds" = some (some (.ref e10)))
    (cg11 : PySem.W.nsIn K mainGlobals "BadStep" = some (some (.ref e11)))
    (cg12 : PySem.W.nsIn K mainGlobals "NoMark" = some (some (.ref e12)))
    (cg13 : PySem.W.nsIn K mainGlobals "NotStruck" = some (some (.ref e13)))
    (cg14 : PySem.W.nsIn K mainGlobals "BadOrder" = some (some (.ref e14)))
    (cg15 : PySem.W.nsIn K mainGlobals "NotBare" = some (some (.ref e15)))
    (cg16 : PySem.W.nsIn K mainGlobals "NoClash" = some (some (.ref e16)))
    (cg17 : PySem.W.nsIn K mainGlobals "HoldsAnswer" = some (some (.ref e17)))
    (cg18 : PySem.W.nsIn K mainGlobals "BadLine" = some (some (.ref e18)))
    (cg19 : PySem.W.nsIn K mainGlobals "UnknownLine" = some (some (.ref e19)))
    (cg20 : PySem.W.nsIn K mainGlobals "BadText" = some (some (.ref e20)))
    (cg21 : PySem.W.nsIn K mainGlobals "NothingToUndo" = some (some (.ref e21)))
    (cg22 : PySem.W.nsIn K mainGlobals "NothingToRedo" = some (some (.ref e22)))
    (cg23 : PySem.W.nsIn K mainGlobals "UnknownStep" = some (some (.ref e23)))
    (cg24 : PySem.W.nsIn K mainGlobals "BadDeed" = some (some (.ref e24)))
    (x0 : K.lookup e0 = some (excClassObj nm0 q0 e0 N0 bs0 [.ref e2, .type "ValueError", .type "Exception", .type "BaseException", .type "object"] true sn0 sub0 ab0 col0 dd0 m00 m10 m20 m30 m50 "ValueError.__new__"))
    (xsa0 : PySem.W.findIn K (.ref e0) "__setattr__" = some (some (.builtin "object.__setattr__")))
    (xga0 : PySem.W.findIn K (.ref e0) "__getattribute__" = some (some (.builtin "BaseException.__getattribute__")))
    (xgg0 : PySem.W.findIn K (.ref e0) "__getattr__" = some none)
    (xf0_0 : PySem.W.findIn K (.ref e0) "number" = some none)
    (xin0 : PySem.W.findIn K (.ref e0) "__init__" = some (some (.ref i0)))
    (xti0 : PySem.W.typeIn K (.ref i0) = some (.type "function"))
    (xli0 : K.lookup i0 = some ⟨ioc0, iod0, .func (PySem.W.fnOf "__init__" "BadNumber.__init__" (defArgs sBad) (defBody sBad) (defScope sBad) .none ikV0 idc0 ipm0 ian0 icd0 ict0), isl0⟩)
    (xci0 : PySem.W.codeIn K icd0 "BadNumber.__init__" = true)
    (xki0 : PySem.W.keepIn K (.ref i0) = true)
    (xkc0 : PySem.W.keepIn K (.ref e0) = true)
    (xec0 : PySem.W.subIn K (.ref e0) (.type "BaseException") = some true)
    (xtc0 : PySem.W.typeIn K (.ref e0) = some (.type "type"))
    (xhc0 : PySem.W.hasDictIn K e0 = true)
    (xsc0 : PySem.W.subIn K (.ref e0) (.ref e0) = some true)
    (xha0 : PySem.W.findIn K (.ref e0) "__class__" = some (some (.builtin "object.__class__")))
    (xhn0 : PySem.W.specialIn K (.builtin "object.__class__") "__get__" = some (some (.builtin "getset_descriptor.__get__")))
    (xht0 : PySem.W.takesIn K (.builtin "object.__class__") = some true)
    (xhm0 : PySem.W.mroIn K e0 (.type "object") = some true)
    (x1 : K.lookup e1 = some (excClassObj nm1 q1 e1 N1 bs1 [.ref e2, .type "ValueError", .type "Exception", .type "BaseException", .type "object"] true sn1 sub1 ab1 col1 dd1 m01 m11 m21 m31 m51 "ValueError.__new__"))
    (xsa1 : PySem.W.findIn K (.ref e1) "__setattr__" = some (some (.builtin "object.__setattr__")))
    (xga1 : PySem.W.findIn K (.ref e1) "__getattribute__" = some (some (.builtin "BaseException.__getattribute__")))
    (xgg1 : PySem.W.findIn K (.ref e1) "__getattr__" = some none)
    (xf0_1 : PySem.W.findIn K (.ref e1) "name" = some none)
    (xf1_1 : PySem.W.findIn K (.ref e1) "value" = some none)
    (xin1 : PySem.W.findIn K (.ref e1) "__init__" = some (some (.ref i1)))
    (xti1 : PySem.W.typeIn K (.ref i1) = some (.type "function"))
    (xli1 : K.lookup i1 = some ⟨ioc1, iod1, .func (PySem.W.fnOf "__init__" "UnknownValue.__init__" (defArgs sUnv) (defBody sUnv) (defScope sUnv) .none ikV1 idc1 ipm1 ian1 icd1 ict1), isl1⟩)
    (xci1 : PySem.W.codeIn K icd1 "UnknownValue.__init__" = true)
    (xki1 : PySem.W.keepIn K (.ref i1) = true)
    (xkc1 : PySem.W.keepIn K (.ref e1) = true)
    (xec1 : PySem.W.subIn K (.ref e1) (.type "BaseException") = some true)
    (xtc1 : PySem.W.typeIn K (.ref e1) = some (.type "type"))
    (xhc1 : PySem.W.hasDictIn K e1 = true)
    (xsc1 : PySem.W.subIn K (.ref e1) (.ref e1) = some true)
    (xha1 : PySem.W.findIn K (.ref e1) "__class__" = some (some (.builtin "object.__class__")))
    (xhn1 : PySem.W.specialIn K (.builtin "object.__class__") "__get__" = some (some (.builtin "getset_descriptor.__get__")))
    (xht1 : PySem.W.takesIn K (.builtin "object.__class__") = some true)
    (xhm1 : PySem.W.mroIn K e1 (.type "object") = some true)
    (ran0 : PySem.W.kitAny K (.ref e0) [.ref e3, .ref e4, .ref e1, .ref e5, .ref e6, .ref e7, .ref e8, .ref e9, .ref e10, .ref e11, .ref e12, .ref e13, .ref e14, .ref e15, .ref e16, .ref e17, .ref e18, .ref e19, .ref e20, .ref e21, .ref e22, .ref e23, .ref e24] = some false)
    (rkd0 : PySem.W.kitOne K (.ref e0) (.ref e2) = some true)
    (rkv0 : PySem.W.kitOne K (.ref e0) (.type "ValueError") = some true)
    (ran1 : PySem.W.kitAny K (.ref e1) [.ref e3, .ref e4, .ref e5, .ref e6, .ref e7, .ref e8, .ref e9, .ref e10, .ref e0, .ref e11, .ref e12, .ref e13, .ref e14, .ref e15, .ref e16, .ref e17, .ref e18, .ref e19, .ref e20, .ref e21, .ref e22, .ref e23, .ref e24] = some false)
    (rkd1 : PySem.W.kitOne K (.ref e1) (.ref e2) = some true)
    (rkv1 : PySem.W.kitOne K (.ref e1) (.type "ValueError") = some true)
    (z1 : PySem.W.nsIn K mainGlobals "sorted" = some none) (z2 : PySem.W.nsIn K mainGlobals "set" = some none) (z3 : PySem.W.nsIn K mainGlobals "len" = some none) (z4 : PySem.W.nsIn K mainGlobals "isinstance" = some none) (z5 : PySem.W.nsIn K mainGlobals "int" = some none) (z6 : PySem.W.nsIn K mainGlobals "bool" = some none) (z7 : PySem.W.nsIn K mainGlobals "list" = some none) (z8 : PySem.W.nsIn K mainGlobals "all" = some none) (z9 : PySem.W.nsIn K mainGlobals "range" = some none) (z10 : PySem.W.nsIn K mainGlobals "dict" = some none) (z11 : PySem.W.nsIn K mainGlobals "ValueError" = some none) (z12 : PySem.W.nsIn K mainGlobals "str" = some none) (z13 : PySem.W.nsIn K mainGlobals "tuple" = some none) :
    ∃ fd : FuncData, (∀ (s : Shared) (v : Value), BindsTo s fd ⟨[v], []⟩ [("_law_script", v)]) ∧ ∀ base : Heap, K.In base → base.Ns mainGlobals mg → FnOk l.prog w K mg base CX0 6 fa fd ["_law_script"] (spLaw K) := by
  have e := hfa.symm.trans (PySem.W.mg_of X G a24)
  cases e
  have B : Bt mg := ⟨PySem.W.mg_none_of X G z1, PySem.W.mg_none_of X G z2, PySem.W.mg_none_of X G z3, PySem.W.mg_none_of X G z4, PySem.W.mg_none_of X G z5, PySem.W.mg_none_of X G z6, PySem.W.mg_none_of X G z7, PySem.W.mg_none_of X G z8, PySem.W.mg_none_of X G z9, PySem.W.mg_none_of X G z10⟩
  have F1 := fun_mk (st := sRoom) l1 c1 k1
  have b1 := F1.binds (ps := ["box"]) fun _ _ _ _ _ _ us hl => match us, hl with | [_], _ => rfl
  have F2 := fun_mk (st := sAt) l2 c2 k2
  have b2 := F2.binds (ps := ["domains", "number"]) fun _ _ _ _ _ _ us hl => match us, hl with | [_, _], _ => rfl
  have F3 := fun_mk (st := sNo) l3 c3 k3
  have b3 := F3.binds (ps := ["domains", "values"]) fun _ _ _ _ _ _ us hl => match us, hl with | [_, _], _ => rfl
  have F4 := fun_mk (st := sIsInt) l4 c4 k4
  have b4 := F4.binds (ps := ["_law_actual"]) fun _ _ _ _ _ _ us hl => match us, hl with | [_], _ => rfl
  have F5 := fun_mk (st := sStream) l5 c5 k5
  have b5 := F5.binds (ps := ["_law_script", "_law_k"]) fun _ _ _ _ _ _ us hl => match us, hl with | [_, _], _ => rfl
  have F6 := fun_mk (st := sDraw) l6 c6 k6
  have b6 := F6.binds (ps := ["_law_stream_here", "_law_size"]) fun _ _ _ _ _ _ us hl => match us, hl with | [_, _], _ => rfl
  have F7 := fun_mk (st := sNames) l7 c7 k7
  have b7 := F7.binds (ps := ["_law_stream_here", "_law_count"]) fun _ _ _ _ _ _ us hl => match us, hl with | [_, _], _ => rfl
  have F8 := fun_mk (st := sPool) l8 c8 k8
  have b8 := F8.binds (ps := ["_law_stream_here", "_law_count"]) fun _ _ _ _ _ _ us hl => match us, hl with | [_, _], _ => rfl
  have F9 := fun_mk (st := sDoms) l9 c9 k9
  have b9 := F9.binds (ps := ["_law_stream_here", "_law_names_here", "_law_pool_here", "_law_most"]) fun _ _ _ _ _ _ us hl => match us, hl with | [_, _, _, _], _ => rfl
  have F10 := fun_mk (st := sSV) l10 c10 k10
  have b10 := F10.binds (ps := ["_law_actual", "_law_expected"]) fun _ _ _ _ _ _ us hl => match us, hl with | [_, _], _ => rfl
  have F11 := fun_mk (st := sMany) l11 c11 k11
  have b11 := F11.binds (ps := ["_law_stream_here"]) fun _ _ _ _ _ _ us hl => match us, hl with | [_], _ => rfl
  have F12 := fun_mk (st := sDD) l12 c12 k12
  have b12 := F12.binds (ps := ["_law_stream_here"]) fun _ _ _ _ _ _ us hl => match us, hl with | [_], _ => rfl
  have F13 := fun_mk (st := sLAt) l13 c13 k13
  have b13 := F13.binds (ps := ["_law_domains_here", "_law_places"]) fun _ _ _ _ _ _ us hl => match us, hl with | [_, _], _ => rfl
  have F14 := fun_mk (st := sNum) l14 c14 k14
  have b14 := F14.binds (ps := ["_law_domains_here", "_law_places"]) fun _ _ _ _ _ _ us hl => match us, hl with | [_, _], _ => rfl
  have F15 := fun_mk (st := sAfter) l15 c15 k15
  have b15 := F15.binds (ps := ["_law_domains_here", "_law_places"]) fun _ _ _ _ _ _ us hl => match us, hl with | [_, _], _ => rfl
  have F16 := fun_mk (st := sTurn) l16 c16 k16
  have b16 := F16.binds (ps := ["_law_values"]) fun _ _ _ _ _ _ us hl => match us, hl with | [_], _ => rfl
  have F17 := fun_mk (st := sMeets) l17 c17 k17
  have b17 := F17.binds (ps := ["_law_given", "_law_domains_here", "_law_places", "_law_number_here"]) fun _ _ _ _ _ _ us hl => match us, hl with | [_, _, _, _], _ => rfl
  have F18 := fun_mk (st := sNd) l18 c18 k18
  have b18 := F18.binds (ps := ["_law_script", "_law_given", "_law_domains_here", "_law_total"]) fun _ _ _ _ _ _ us hl => match us, hl with | [_, _, _, _], _ => rfl
  have F19 := fun_mk (st := sToldN) l19 c19 k19
  have b19 := F19.binds (ps := ["_law_domains_here", "_law_number_here"]) fun _ _ _ _ _ _ us hl => match us, hl with | [_, _], _ => rfl
  have F20 := fun_mk (st := sToldV) l20 c20 k20
  have b20 := F20.binds (ps := ["_law_domains_here", "_law_values"]) fun _ _ _ _ _ _ us hl => match us, hl with | [_, _], _ => rfl
  have F21 := fun_mk (st := sStr) l21 c21 k21
  have b21 := F21.binds (ps := ["_law_stream_here", "_law_side"]) fun _ _ _ _ _ _ us hl => match us, hl with | [_, _], _ => rfl
  have F22 := fun_mk (st := sSpo) l22 c22 k22
  have b22 := F22.binds (ps := ["_law_stream_here", "_law_domains_here"]) fun _ _ _ _ _ _ us hl => match us, hl with | [_, _], _ => rfl
  have F23 := fun_mk (st := sRef) l23 c23 k23
  have b23 := F23.binds (ps := ["_law_stream_here", "_law_given", "_law_domains_here", "_law_total"]) fun _ _ _ _ _ _ us hl => match us, hl with | [_, _, _, _], _ => rfl
  have F24 := fun_mk (st := sLaw) l24 c24 k24
  have U0 : Own K mg "BadNumber" e0 i0 ["number"] := { gC := PySem.W.mg_of X G cg0, oex := ⟨⟨nm0, q0, N0, bs0, _, sn0, sub0, ab0, col0, dd0, m00, m10, m20, m30, m50, x0, rfl⟩, xsa0, xec0, xtc0, xkc0⟩, xf := ⟨xga0, xgg0, xec0, xhc0⟩, iC := xin0, tI := xti0, ex := ⟨xga0, xgg0, xec0, xhc0, xha0, xhn0, xht0, xhm0⟩, te := PySem.W.exm_ref xec0 xhc0 xtc0 xsc0, no := (fun f hf => (List.mem_singleton.mp hf) ▸ xf0_0) }
  have I0 := fun_mk (st := sBad) xli0 xci0 xki0
  have ib0 := I0.binds (ps := ["self", "number"]) fun _ _ _ _ _ _ us hl => match us, hl with | [_, _], _ => rfl
  have U1 : Own K mg "UnknownValue" e1 i1 ["name", "value"] := { gC := PySem.W.mg_of X G cg1, oex := ⟨⟨nm1, q1, N1, bs1, _, sn1, sub1, ab1, col1, dd1, m01, m11, m21, m31, m51, x1, rfl⟩, xsa1, xec1, xtc1, xkc1⟩, xf := ⟨xga1, xgg1, xec1, xhc1⟩, iC := xin1, tI := xti1, ex := ⟨xga1, xgg1, xec1, xhc1, xha1, xhn1, xht1, xhm1⟩, te := PySem.W.exm_ref xec1 xhc1 xtc1 xsc1, no := (fun f hf => by rcases List.mem_cons.mp hf with h | h; exact h ▸ xf0_1; exact (List.mem_singleton.mp h) ▸ xf1_1) }
  have I1 := fun_mk (st := sUnv) xli1 xci1 xki1
  have ib1 := I1.binds (ps := ["self", "name", "value"]) fun _ _ _ _ _ _ us hl => match us, hl with | [_, _, _], _ => rfl
  have at0 : ∀ (i : Nat) (x : Str), othersN[i]? = some x → mg x = some (.ref (([e3, e4, e1, e5, e6, e7, e8, e9, e10, e11, e12, e13, e14, e15, e16, e17, e18, e19, e20, e21, e22, e23, e24] : List Addr).getD i 0)) := by
    intro i x hx
    match i, hx with
    | 0, hx => obtain rfl := Option.some.inj hx; exact PySem.W.mg_of X G cg3
    | 1, hx => obtain rfl := Option.some.inj hx; exact PySem.W.mg_of X G cg4
    | 2, hx => obtain rfl := Option.some.inj hx; exact PySem.W.mg_of X G cg1
    | 3, hx => obtain rfl := Option.some.inj hx; exact PySem.W.mg_of X G cg5
    | 4, hx => obtain rfl := Option.some.inj hx; exact PySem.W.mg_of X G cg6
    | 5, hx => obtain rfl := Option.some.inj hx; exact PySem.W.mg_of X G cg7
    | 6, hx => obtain rfl := Option.some.inj hx; exact PySem.W.mg_of X G cg8
    | 7, hx => obtain rfl := Option.some.inj hx; exact PySem.W.mg_of X G cg9
    | 8, hx => obtain rfl := Option.some.inj hx; exact PySem.W.mg_of X G cg10
    | 9, hx => obtain rfl := Option.some.inj hx; exact PySem.W.mg_of X G cg11
    | 10, hx => obtain rfl := Option.some.inj hx; exact PySem.W.mg_of X G cg12
    | 11, hx => obtain rfl := Option.some.inj hx; exact PySem.W.mg_of X G cg13
    | 12, hx => obtain rfl := Option.some.inj hx; exact PySem.W.mg_of X G cg14
    | 13, hx => obtain rfl := Option.some.inj hx; exact PySem.W.mg_of X G cg15
    | 14, hx => obtain rfl := Option.some.inj hx; exact PySem.W.mg_of X G cg16
    | 15, hx => obtain rfl := Option.some.inj hx; exact PySem.W.mg_of X G cg17
    | 16, hx => obtain rfl := Option.some.inj hx; exact PySem.W.mg_of X G cg18
    | 17, hx => obtain rfl := Option.some.inj hx; exact PySem.W.mg_of X G cg19
    | 18, hx => obtain rfl := Option.some.inj hx; exact PySem.W.mg_of X G cg20
    | 19, hx => obtain rfl := Option.some.inj hx; exact PySem.W.mg_of X G cg21
    | 20, hx => obtain rfl := Option.some.inj hx; exact PySem.W.mg_of X G cg22
    | 21, hx => obtain rfl := Option.some.inj hx; exact PySem.W.mg_of X G cg23
    | 22, hx => obtain rfl := Option.some.inj hx; exact PySem.W.mg_of X G cg24
    | k + 23, hx => exact absurd (show none = some x from hx) (by simp)
  have E0 : Errs othersN K mg e0 e2 [e3, e4, e1, e5, e6, e7, e8, e9, e10, e11, e12, e13, e14, e15, e16, e17, e18, e19, e20, e21, e22, e23, e24] := ⟨⟨_, _, _, _, _, _, _, _, _, _, _, _, _, _, _, _, _, _, _, _, _, _, _, rfl⟩, at0, ran0, PySem.W.mg_of X G cg2, rkd0, rkv0, PySem.W.mg_none_of X G z11⟩
  have at1 : ∀ (i : Nat) (x : Str), othersV[i]? = some x → mg x = some (.ref (([e3, e4, e5, e6, e7, e8, e9, e10, e0, e11, e12, e13, e14, e15, e16, e17, e18, e19, e20, e21, e22, e23, e24] : List Addr).getD i 0)) := by
    intro i x hx
    match i, hx with
    | 0, hx => obtain rfl := Option.some.inj hx; exact PySem.W.mg_of X G cg3
    | 1, hx => obtain rfl := Option.some.inj hx; exact PySem.W.mg_of X G cg4
    | 2, hx => obtain rfl := Option.some.inj hx; exact PySem.W.mg_of X G cg5
    | 3, hx => obtain rfl := Option.some.inj hx; exact PySem.W.mg_of X G cg6
    | 4, hx => obtain rfl := Option.some.inj hx; exact PySem.W.mg_of X G cg7
    | 5, hx => obtain rfl := Option.some.inj hx; exact PySem.W.mg_of X G cg8
    | 6, hx => obtain rfl := Option.some.inj hx; exact PySem.W.mg_of X G cg9
    | 7, hx => obtain rfl := Option.some.inj hx; exact PySem.W.mg_of X G cg10
    | 8, hx => obtain rfl := Option.some.inj hx; exact PySem.W.mg_of X G cg0
    | 9, hx => obtain rfl := Option.some.inj hx; exact PySem.W.mg_of X G cg11
    | 10, hx => obtain rfl := Option.some.inj hx; exact PySem.W.mg_of X G cg12
    | 11, hx => obtain rfl := Option.some.inj hx; exact PySem.W.mg_of X G cg13
    | 12, hx => obtain rfl := Option.some.inj hx; exact PySem.W.mg_of X G cg14
    | 13, hx => obtain rfl := Option.some.inj hx; exact PySem.W.mg_of X G cg15
    | 14, hx => obtain rfl := Option.some.inj hx; exact PySem.W.mg_of X G cg16
    | 15, hx => obtain rfl := Option.some.inj hx; exact PySem.W.mg_of X G cg17
    | 16, hx => obtain rfl := Option.some.inj hx; exact PySem.W.mg_of X G cg18
    | 17, hx => obtain rfl := Option.some.inj hx; exact PySem.W.mg_of X G cg19
    | 18, hx => obtain rfl := Option.some.inj hx; exact PySem.W.mg_of X G cg20
    | 19, hx => obtain rfl := Option.some.inj hx; exact PySem.W.mg_of X G cg21
    | 20, hx => obtain rfl := Option.some.inj hx; exact PySem.W.mg_of X G cg22
    | 21, hx => obtain rfl := Option.some.inj hx; exact PySem.W.mg_of X G cg23
    | 22, hx => obtain rfl := Option.some.inj hx; exact PySem.W.mg_of X G cg24
    | k + 23, hx => exact absurd (show none = some x from hx) (by simp)
  have E1 : Errs othersV K mg e1 e2 [e3, e4, e5, e6, e7, e8, e9, e10, e0, e11, e12, e13, e14, e15, e16, e17, e18, e19, e20, e21, e22, e23, e24] := ⟨⟨_, _, _, _, _, _, _, _, _, _, _, _, _, _, _, _, _, _, _, _, _, _, _, rfl⟩, at1, ran1, PySem.W.mg_of X G cg2, rkd1, rkv1, PySem.W.mg_none_of X G z11⟩
  refine ⟨PySem.W.fnOf "law" "law" (defArgs sLaw) (defBody sLaw) (defScope sLaw) .none kV24 dc24 pm24 an24 cd24 ct24, fun s v => .of_eq rfl, fun base _ _ => ?_⟩
  have Cii : Call l.prog w K mg base 1 "_law_is_integer" f4 _ ["_law_actual"] spIsInt := ⟨ok_isInt F4 B, PySem.W.mg_of X G a4, k4, b4⟩
  have Cst : Call l.prog w K mg base 1 "_law_stream" f5 _ ["_law_script", "_law_k"] (spStream K) := ⟨ok_stream F5 B, PySem.W.mg_of X G a5, k5, b5⟩
  have Cdr : Call l.prog w K mg base 1 "_law_next" f6 _ ["_law_stream_here", "_law_size"] spDraw := ⟨ok_draw F6 B, PySem.W.mg_of X G a6, k6, b6⟩
  have Cna : Call l.prog w K mg base 2 "_law_names" f7 _ ["_law_stream_here", "_law_count"] spNames := ⟨ok_names F7 B Cdr, PySem.W.mg_of X G a7, k7, b7⟩
  have Cpo : Call l.prog w K mg base 2 "_law_pool" f8 _ ["_law_stream_here", "_law_count"] spPool := ⟨ok_pool F8 B Cdr, PySem.W.mg_of X G a8, k8, b8⟩
  have Cdo : Call l.prog w K mg base 2 "_law_domains" f9 _ ["_law_stream_here", "_law_names_here", "_law_pool_here", "_law_most"] spDoms := ⟨ok_doms F9 B Cdr, PySem.W.mg_of X G a9, k9, b9⟩
  have Cro : Call l.prog w K mg base 1 "room" f1 _ ["box"] spRoom := ⟨ok_room F1 B, PySem.W.mg_of X G a1, k1, b1⟩
  have Cat : Call l.prog w K mg base 2 "assignment_at" f2 _ ["domains", "number"] spAt := ⟨ok_at F2 B Cro, PySem.W.mg_of X G a2, k2, b2⟩
  have Cno : Call l.prog w K mg base 1 "number_of" f3 _ ["domains", "values"] spNo := ⟨ok_no F3 B, PySem.W.mg_of X G a3, k3, b3⟩
  have Csv : Call l.prog w K mg base 2 "_law_same_values" f10 _ ["_law_actual", "_law_expected"] spSV := ⟨ok_sv F10 B Cii, PySem.W.mg_of X G a10, k10, b10⟩
  have Cmd : Call l.prog w K mg base 2 "_law_many_domains" f11 _ ["_law_stream_here"] spDrawnD := ⟨ok_many F11 B Cdr, PySem.W.mg_of X G a11, k11, b11⟩
  have Cdd : Call l.prog w K mg base 3 "_law_drawn_domains" f12 _ ["_law_stream_here"] spDrawnD := ⟨ok_dd F12 B Cdr Cmd Cpo Cna Cdo, PySem.W.mg_of X G a12, k12, b12⟩
  have Cla : Call l.prog w K mg base 1 "_law_at" f13 _ ["_law_domains_here", "_law_places"] spLAt := ⟨ok_lat F13 B, PySem.W.mg_of X G a13, k13, b13⟩
  have Cnu : Call l.prog w K mg base 1 "_law_number" f14 _ ["_law_domains_here", "_law_places"] spNum := ⟨ok_num F14 B, PySem.W.mg_of X G a14, k14, b14⟩
  have Caf : Call l.prog w K mg base 1 "_law_after" f15 _ ["_law_domains_here", "_law_places"] spAfter := ⟨ok_after F15 B, PySem.W.mg_of X G a15, k15, b15⟩
  have Ctu : Call l.prog w K mg base 1 "_law_turned" f16 _ ["_law_values"] spTurn := ⟨ok_turn F16 B, PySem.W.mg_of X G a16, k16, b16⟩
  have Cme : Call l.prog w K mg base 3 "_law_meets" f17 _ ["_law_given", "_law_domains_here", "_law_places", "_law_number_here"] spMeets := ⟨ok_meets F17 B Cla Cat Csv Ctu Cno Cii, PySem.W.mg_of X G a17, k17, b17⟩
  have Cnd : Call l.prog w K mg base 4 "_law_numbered" f18 _ ["_law_script", "_law_given", "_law_domains_here", "_law_total"] (spNd K) := ⟨ok_nd F18 B Cme Caf Cst Cdr Cnu, PySem.W.mg_of X G a18, k18, b18⟩
  have Ibn : CallI l.prog w K mg base i0 _ ["self", "number"] (spIni e0 "number") := ⟨ok_bad I0 U0, ib0⟩
  have Iuv : CallI l.prog w K mg base i1 _ ["self", "name", "value"] (spIni2 e1 "name" "value") := ⟨ok_unv I1 U1, ib1⟩
  have Xat : CallX l.prog w K mg base 3 "assignment_at" f2 _ ["domains", "number"] (spAtX e0) := ⟨ok_atX F2 B Cro U0 Ibn, PySem.W.mg_of X G a2, k2, b2⟩
  have Xno : CallX l.prog w K mg base 3 "number_of" f3 _ ["domains", "values"] (spNoX e1) := ⟨ok_noX F3 B U1 Iuv, PySem.W.mg_of X G a3, k3, b3⟩
  have Ctn : Call l.prog w K mg base 4 "_law_told_number" f19 _ ["_law_domains_here", "_law_number_here"] spToldN := ⟨ok_toldN F19 B U0 E0 Xat, PySem.W.mg_of X G a19, k19, b19⟩
  have Ctv : Call l.prog w K mg base 4 "_law_told_value" f20 _ ["_law_domains_here", "_law_values"] spToldV := ⟨ok_toldV F20 B U1 E1 Xno, PySem.W.mg_of X G a20, k20, b20⟩
  have Cstr : Call l.prog w K mg base 2 "_law_strange" f21 _ ["_law_stream_here", "_law_side"] spStr := ⟨ok_str F21 B Cdr, PySem.W.mg_of X G a21, k21, b21⟩
  have Csp : Call l.prog w K mg base 3 "_law_spoilt" f22 _ ["_law_stream_here", "_law_domains_here"] spSpo := ⟨ok_spo F22 B Cdr Cstr, PySem.W.mg_of X G a22, k22, b22⟩
  have Cre : Call l.prog w K mg base 5 "_law_refused" f23 _ ["_law_stream_here", "_law_given", "_law_domains_here", "_law_total"] spRef := ⟨ok_ref F23 B (PySem.W.mg_none_of X G z13) (PySem.W.mg_none_of X G z12) Ctn Csp Ctu Ctv Csv Cii, PySem.W.mg_of X G a23, k23, b23⟩
  exact ok_law F24 B Cst Cdd Cnd Cre
theorem walk {l : PySem.W.OpenLaw} {q : Program} {loose : List Str} {XP : (Str → Option Value) → Heap → Prop} {YP : World → Heap → Prop} {d : DefRec} {K : Params → PySem.W.Frag} (hn : l.most = some 63) (hdf : d.params.defaults = [])
    (hY : ∀ (w : World) (h : Heap), YP w h → (K w.params).In h)
    (F : ∀ (w : World) (mg : Str → Option Value) (fa : Addr) (h : Heap), (K w.params).In h → h.Ns mainGlobals mg → mg d.name = some (.ref fa) →
      ∃ fd : FuncData, (∀ (s : Shared) (u : Value), BindsTo s fd ⟨[u], []⟩ [("_law_script", u)]) ∧ ∀ base : Heap, (K w.params).In base → base.Ns mainGlobals mg → FnOk l.prog w (K w.params) mg base CX0 6 fa fd ["_law_script"] (spLaw (K w.params))) :
    PySem.W.WalkO q loose XP YP l.row.toRowW d [] (fun f vs => PySem.call f vs) :=
  L2.walk_of (n := 63) (k := 6) (x := "_law_script") (CX := fun _ => CX0) (sp := fun w => spLaw (K w.params)) hn (by decide) hdf ⟨rfl, by decide, by decide⟩ hY F (fun _ _ a ns hl _ hS => ⟨a, ns, rfl, hS, hl, fun _ => rfl⟩) fun _ _ _ _ _ z => z
end K3

set_option Elab.async false
set_option linter.all false
open PySem PySem.W PyProof.Rows
set_option maxRecDepth 100000 in
set_option maxHeartbeats 0 in
theorem PySem.Challenge.cw_curbdesk_k03_numbers_of_assignments_holds : PySem.Challenge.rw_curbdesk_k03_numbers_of_assignments.Holds := by
  w_on; o_law; k_head; (case hw => w_witness2)
  k_fill
  refine K3.walk (l := PySem.Challenge.rw_curbdesk_k03_numbers_of_assignments) rfl rfl (fun w h Y => PySem.W.kIn_of Y) ?F
  case F =>
    intro w mg fa h KX G hmg
    refine' K3.all_mk KX G hmg ?a1 ?l1 ?c1 ?k1 ?a2 ?l2 ?c2 ?k2 ?a3 ?l3 ?c3 ?k3 ?a4 ?l4 ?c4 ?k4 ?a5 ?l5 ?c5 ?k5 ?a6 ?l6 ?c6 ?k6 ?a7 ?l7 ?c7 ?k7 ?a8 ?l8 ?c8 ?k8 ?a9 ?l9 ?c9 ?k9 ?a10 ?l10 ?c10 ?k10 ?a11 ?l11 ?c11 ?k11 ?a12 ?l12 ?c12 ?k12 ?a13 ?l13 ?c13 ?k13 ?a14 ?l14 ?c14 ?k14 ?a15 ?l15 ?c15 ?k15 ?a16 ?l16 ?c16 ?k16 ?a17 ?l17 ?c17 ?k17 ?a18 ?l18 ?c18 ?k18 ?a19 ?l19 ?c19 ?k19 ?a20 ?l20 ?c20 ?k20 ?a21 ?l21 ?c21 ?k21 ?a22 ?l22 ?c22 ?k22 ?a23 ?l23 ?c23 ?k23 ?a24 ?l24 ?c24 ?k24 ?cg0 ?cg1 ?cg2 ?cg3 ?cg4 ?cg5 ?cg6 ?cg7 ?cg8 ?cg9 ?cg10 ?cg11 ?cg12 ?cg13 ?cg14 ?cg15 ?cg16 ?cg17 ?cg18 ?cg19 ?cg20 ?cg21 ?cg22 ?cg23 ?cg24 ?x0 ?xsa0 ?xga0 ?xgg0 ?xf0_0 ?xin0 ?xti0 ?xli0 ?xci0 ?xki0 ?xkc0 ?xec0 ?xtc0 ?xhc0 ?xsc0 ?xha0 ?xhn0 ?xht0 ?xhm0 ?x1 ?xsa1 ?xga1 ?xgg1 ?xf0_1 ?xf1_1 ?xin1 ?xti1 ?xli1 ?xci1 ?xki1 ?xkc1 ?xec1 ?xtc1 ?xhc1 ?xsc1 ?xha1 ?xhn1 ?xht1 ?xhm1 ?ran0 ?rkd0 ?rkv0 ?ran1 ?rkd1 ?rkv1 ?z1 ?z2 ?z3 ?z4 ?z5 ?z6 ?z7 ?z8 ?z9 ?z10 ?z11 ?z12 ?z13
    (case a1 => k_is)
    (case l1 => k_is)
    (case c1 => k_is)
    (case k1 => k_is)
    (case a2 => k_is)
    (case l2 => k_is)
    (case c2 => k_is)
    (case k2 => k_is)
    (case a3 => k_is)
    (case l3 => k_is)
    (case c3 => k_is)
    (case k3 => k_is)
    (case a4 => k_is)
    (case l4 => k_is)
    (case c4 => k_is)
    (case k4 => k_is)
    (case a5 => k_is)
    (case l5 => k_is)
    (case c5 => k_is)
    (case k5 => k_is)
    (case a6 => k_is)
    (case l6 => k_is)
    (case c6 => k_is)
    (case k6 => k_is)
    (case a7 => k_is)
    (case l7 => k_is)
    (case c7 => k_is)
    (case k7 => k_is)
    (case a8 => k_is)
    (case l8 => k_is)
    (case c8 => k_is)
    (case k8 => k_is)
    (case a9 => k_is)
    (case l9 => k_is)
    (case c9 => k_is)
    (case k9 => k_is)
    (case a10 => k_is)
    (case l10 => k_is)
    (case c10 => k_is)
    (case k10 => k_is)
    (case a11 => k_is)
    (case l11 => k_is)
    (case c11 => k_is)
    (case k11 => k_is)
    (case a12 => k_is)
    (case l12 => k_is)
    (case c12 => k_is)
    (case k12 => k_is)
    (case a13 => k_is)
    (case l13 => k_is)
    (case c13 => k_is)
    (case k13 => k_is)
    (case a14 => k_is)
    (case l14 => k_is)
    (case c14 => k_is)
    (case k14 => k_is)
    (case a15 => k_is)
    (case l15 => k_is)
    (case c15 => k_is)
    (case k15 => k_is)
    (case a16 => k_is)
    (case l16 => k_is)
    (case c16 => k_is)
    (case k16 => k_is)
    (case a17 => k_is)
    (case l17 => k_is)
    (case c17 => k_is)
    (case k17 => k_is)
    (case a18 => k_is)
    (case l18 => k_is)
    (case c18 => k_is)
    (case k18 => k_is)
    (case a19 => k_is)
    (case l19 => k_is)
    (case c19 => k_is)
    (case k19 => k_is)
    (case a20 => k_is)
    (case l20 => k_is)
    (case c20 => k_is)
    (case k20 => k_is)
    (case a21 => k_is)
    (case l21 => k_is)
    (case c21 => k_is)
    (case k21 => k_is)
    (case a22 => k_is)
    (case l22 => k_is)
    (case c22 => k_is)
    (case k22 => k_is)
    (case a23 => k_is)
    (case l23 => k_is)
    (case c23 => k_is)
    (case k23 => k_is)
    (case a24 => k_is)
    (case l24 => k_is)
    (case c24 => k_is)
    (case k24 => k_is)
    (case cg0 => k_is)
    (case cg1 => k_is)
    (case cg2 => k_is)
    (case cg3 => k_is)
    (case cg4 => k_is)
    (case cg5 => k_is)
    (case cg6 => k_is)
    (case cg7 => k_is)
    (case cg8 => k_is)
    (case cg9 => k_is)
    (case cg10 => k_is)
    (case cg11 => k_is)
    (case cg12 => k_is)
    (case cg13 => k_is)
    (case cg14 => k_is)
    (case cg15 => k_is)
    (case cg16 => k_is)
    (case cg17 => k_is)
    (case cg18 => k_is)
    (case cg19 => k_is)
    (case cg20 => k_is)
    (case cg21 => k_is)
    (case cg22 => k_is)
    (case cg23 => k_is)
    (case cg24 => k_is)
    (case x0 => first | k_is | rfl)
    (case xsa0 => first | k_is | rfl)
    (case xga0 => first | k_is | rfl)
    (case xgg0 => first | k_is | rfl)
    (case xf0_0 => first | k_is | rfl)
    (case xin0 => first | k_is | rfl)
    (case xti0 => first | k_is | rfl)
    (case xli0 => first | k_is | rfl)
    (case xci0 => first | k_is | rfl)
    (case xki0 => first | k_is | rfl)
    (case xkc0 => first | k_is | rfl)
    (case xec0 => first | k_is | rfl)
    (case xtc0 => first | k_is | rfl)
    (case xhc0 => first | k_is | rfl)
    (case xsc0 => first | k_is | rfl)
    (case xha0 => first | k_is | rfl)
    (case xhn0 => first | k_is | rfl)
    (case xht0 => first | k_is | rfl)
    (case xhm0 => first | k_is | rfl)
    (case x1 => first | k_is | rfl)
    (case xsa1 => first | k_is | rfl)
    (case xga1 => first | k_is | rfl)
    (case xgg1 => first | k_is | rfl)
    (case xf0_1 => first | k_is | rfl)
    (case xf1_1 => first | k_is | rfl)
    (case xin1 => first | k_is | rfl)
    (case xti1 => first | k_is | rfl)
    (case xli1 => first | k_is | rfl)
    (case xci1 => first | k_is | rfl)
    (case xki1 => first | k_is | rfl)
    (case xkc1 => first | k_is | rfl)
    (case xec1 => first | k_is | rfl)
    (case xtc1 => first | k_is | rfl)
    (case xhc1 => first | k_is | rfl)
    (case xsc1 => first | k_is | rfl)
    (case xha1 => first | k_is | rfl)
    (case xhn1 => first | k_is | rfl)
    (case xht1 => first | k_is | rfl)
    (case xhm1 => first | k_is | rfl)
    (case ran0 => first | k_is | rfl)
    (case rkd0 => first | k_is | rfl)
    (case rkv0 => first | k_is | rfl)
    (case ran1 => first | k_is | rfl)
    (case rkd1 => first | k_is | rfl)
    (case rkv1 => first | k_is | rfl)
    (case z1 => k_is)
    (case z2 => k_is)
    (case z3 => k_is)
    (case z4 => k_is)
    (case z5 => k_is)
    (case z6 => k_is)
    (case z7 => k_is)
    (case z8 => k_is)
    (case z9 => k_is)
    (case z10 => k_is)
    (case z11 => k_is)
    (case z12 => k_is)
    (case z13 => k_is)
