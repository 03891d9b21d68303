import PyProof.Rows.All
import Wide.All
import OpenK.AllK
import Wide.FinOn
import HandS.ForMost
import HandS.Strs
import HandS.Set
import HandS.SetFor
import HandS.TupSets
import HandS.IsInst
import HandS.Flow
import HandS.Style
import HandS.Zip
import HandS.SortInts
import HandS.DeepEq
import HandS.SetBool
import HandS.SetKeys
import HandS.ExcInit
import HandS.ExcField
import HandS.ExcOwn
import HandS.WordsExc
import HandS.ExcIs
import KE.KExcIs
import HandS.DictComp
import HandS.OwnEq
import HandS.Small
import HandS.Property
import HandS.ExcInitHot
import HandS.Comp
import PyProof.Rows.SortStr
import PyProof.Rows.SortKeyStr
import KE.KSetDisp
import HandS.Walk
import HandS.SetIn
import HandS.RevRange
import HandS.Conv
import PySem.Challenge.RW_curbdesk_k46_rests_on
set_option Elab.async false
set_option linter.all false
set_option maxRecDepth 100000
/-! Tables of sets that are laid anew, for the masks that merging asks for. -/
namespace Cs
open PySem PySem.Spec PyProof.Rows

def hop (m : Nat) (q : Nat × Nat) : Nat × Nat := SetTable.leap m q.1 q.2
def hops (m : Nat) : Nat → Nat × Nat → Nat × Nat
  | 0, q => q
  | n + 1, q => hops m n (hop m q)
abbrev own (ow : Array (Option Nat)) (j : Nat) : Option Nat := ow.getD j (some 0)

theorem free_step (m : Nat) (ow : Array (Option Nat)) (f : Nat) (q : Nat × Nat) : SetTable.layClean.free m ow (f + 1) q.1 q.2 =
    (match (List.range (SetTable.runEnd m q.1 + 1 - q.1)).find? (fun k => (own ow (q.1 + k)).isNone) with
      | some k => some (q.1 + k)
      | none => SetTable.layClean.free m ow f (hop m q).1 (hop m q).2) := rfl
theorem run_ge (m i : Nat) : i ≤ SetTable.runEnd m i := by
  unfold SetTable.runEnd
  split <;> omega
theorem run_le {m i : Nat} (h : i ≤ m) : SetTable.runEnd m i ≤ m := by
  unfold SetTable.runEnd
  split <;> omega
theorem hop_le (m : Nat) (q : Nat × Nat) : (hop m q).1 ≤ m := Nat.le_of_lt_succ (Nat.mod_lt _ (Nat.succ_pos m))

theorem free_none (m : Nat) (ow : Array (Option Nat)) : ∀ (f : Nat) (q : Nat × Nat), SetTable.layClean.free m ow f q.1 q.2 = none → ∀ n, n < f → (own ow (hops m n q).1).isNone = false
  | 0, _, _, n, h => absurd h (Nat.not_lt_zero n)
  | f + 1, q, e, n, h => by
    rw [free_step] at e
    cases c : (List.range (SetTable.runEnd m q.1 + 1 - q.1)).find? (fun k => (own ow (q.1 + k)).isNone) with
    | some k => rw [c] at e; exact nomatch e
    | none =>
      rw [c] at e
      cases n with
      | zero =>
        have z := List.find?_eq_none.mp c 0 (List.mem_range.mpr (by have := run_ge m q.1; omega))
        have z2 : ¬ ((own ow q.1).isNone = true) := z
        exact Bool.eq_false_iff.mpr z2
      | succ n => exact free_none m ow f (hop m q) e n (by omega)

theorem free_some (m : Nat) (ow : Array (Option Nat)) : ∀ (f : Nat) (q : Nat × Nat) (j : Nat), SetTable.layClean.free m ow f q.1 q.2 = some j → q.1 ≤ m → j ≤ m ∧ (own ow j).isNone = true
  | 0, _, _, e, _ => nomatch e
  | f + 1, q, j, e, hq => by
    rw [free_step] at e
    cases c : (List.range (SetTable.runEnd m q.1 + 1 - q.1)).find? (fun k => (own ow (q.1 + k)).isNone) with
    | some k =>
      rw [c] at e
      have ej : q.1 + k = j := Option.some.inj e
      have h1 := List.mem_of_find?_eq_some c
      have h2 := List.find?_some c
      have h3 := List.mem_range.mp h1
      have h4 := run_le hq
      rw [← ej]
      exact ⟨by omega, h2⟩
    | none =>
      rw [c] at e
      exact free_some m ow f (hop m q) j e (hop_le m q)

theorem hops_back (m : Nat) : ∀ (n : Nat) (q : Nat × Nat), hops m (n + 1) q = hop m (hops m n q)
  | 0, _ => rfl
  | n + 1, q => hops_back m n (hop m q)
theorem hops_add (m : Nat) (a : Nat) : ∀ (k : Nat) (q : Nat × Nat), hops m (a + k) q = hops m k (hops m a q)
  | 0, _ => rfl
  | k + 1, q => by
    rw [show a + (k + 1) = (a + k) + 1 from rfl, hops_back, hops_back, hops_add m a k q]
theorem hops_snd (m : Nat) : ∀ (n : Nat) (q : Nat × Nat), (hops m n q).2 = q.2 / 32 ^ n
  | 0, q => (Nat.div_one q.2).symm
  | n + 1, q => by
    rw [hops_back]
    show (hops m n q).2 / 32 = _
    rw [hops_snd m n q, Nat.div_div_eq_div_mul, Nat.pow_succ]
theorem hops_fst_le (m : Nat) {q : Nat × Nat} (hq : q.1 ≤ m) : ∀ n, (hops m n q).1 ≤ m
  | 0 => hq
  | n + 1 => by rw [hops_back]; exact hop_le m _
theorem hops_zero (m i : Nat) : ∀ k, hops m k (i, 0) = (L2.lcgI m i k, 0)
  | 0 => rfl
  | k + 1 => by
    rw [hops_back, hops_zero m i k]
    show ((L2.lcgI m i k * 5 + 1 + 0 / 32) % (m + 1), 0 / 32) = _
    rw [Nat.zero_div, Nat.add_zero] <;> rfl

def Msk (m : Nat) : Prop := m = 7 ∨ m = 15 ∨ m = 31 ∨ m = 63 ∨ m = 127
def meetsAll (m : Nat) : Bool := (List.range (m + 1)).all fun i => (List.range (m + 1)).all fun j => (List.range (m + 1)).any fun k => L2.lcgI m i k == j
theorem lcg_of {m : Nat} (h : meetsAll m = true) {i j : Nat} (hi : i ≤ m) (hj : j ≤ m) : ∃ k, k ≤ m ∧ L2.lcgI m i k = j := by
  have h1 := List.all_eq_true.mp (List.all_eq_true.mp h i (List.mem_range.mpr (by omega))) j (List.mem_range.mpr (by omega))
  obtain ⟨k, hk, e⟩ := List.any_eq_true.mp h1
  exact ⟨k, Nat.le_of_lt_succ (List.mem_range.mp hk), eq_of_beq e⟩
/- one round from 0, then the shift -/
theorem all15 : ((List.range 16).all fun j => (List.range 16).any fun b => L2.lcgN 15 b == j) = true := by decide +kernel
theorem all63 : ((List.range 64).all fun j => (List.range 64).any fun b => L2.lcgN 63 b == j) = true := by decide +kernel
theorem round15 : L2.lcgN 15 16 = 0 := by decide +kernel
theorem round63 : L2.lcgN 63 64 = 0 := by decide +kernel
theorem turn_mod {m : Nat} (h : L2.lcgN m (m + 1) = 0) : ∀ k, L2.lcgN m (m + 1 + k) = L2.lcgN m k
  | 0 => h
  | k + 1 => by
    show (L2.lcgN m (m + 1 + k) * 5 + 1) % (m + 1) = (L2.lcgN m k * 5 + 1) % (m + 1)
    rw [turn_mod h k]
theorem lcg_by {m : Nat} (hr : L2.lcgN m (m + 1) = 0) (ha : ((List.range (m + 1)).all fun j => (List.range (m + 1)).any fun b => L2.lcgN m b == j) = true) {i j : Nat} (hi : i ≤ m) (hj : j ≤ m) :
    ∃ k, k ≤ m ∧ L2.lcgI m i k = j := by
  have at0 : ∀ x, x ≤ m → ∃ b, b ≤ m ∧ L2.lcgN m b = x := fun x hx => by
    obtain ⟨b, hb, e⟩ := List.any_eq_true.mp (List.all_eq_true.mp ha x (List.mem_range.mpr (by omega)))
    exact ⟨b, Nat.le_of_lt_succ (List.mem_range.mp hb), eq_of_beq e⟩
  obtain ⟨a, la, ea⟩ := at0 i hi
  obtain ⟨b, lb, eb⟩ := at0 j hj
  subst ea
  by_cases c : a ≤ b
  · exact ⟨b - a, by omega, by rw [L2.lcgN_add, Nat.add_sub_cancel' c]; exact eb⟩
  · refine ⟨m + 1 + b - a, by omega, ?_⟩
    rw [L2.lcgN_add, Nat.add_sub_cancel' (by omega), turn_mod hr]
    exact eb
theorem lcg_meets {m : Nat} (hm : Msk m) {i j : Nat} (hi : i ≤ m) (hj : j ≤ m) : ∃ k, k ≤ m ∧ L2.lcgI m i k = j := by
  rcases hm with e | e | e | e | e
  · exact L2.lcgI_all (.inl e) hi hj
  · subst e; exact lcg_by round15 all15 hi hj
  · exact L2.lcgI_all (.inr (.inl e)) hi hj
  · subst e; exact lcg_by round63 all63 hi hj
  · exact L2.lcgI_all (.inr (.inr e)) hi hj

theorem free_there {m : Nat} (hm : Msk m) (ow : Array (Option Nat)) (h : Int) {j0 : Nat} (hj : j0 ≤ m) (hf : (own ow j0).isNone = true) :
    ∃ j, SetTable.layClean.free m ow (SetTable.turns m) (SetTable.bits h % (m + 1)) (SetTable.bits h) = some j ∧ j ≤ m ∧ (own ow j).isNone = true := by
  have hq : SetTable.bits h % (m + 1) ≤ m := Nat.le_of_lt_succ (Nat.mod_lt _ (Nat.succ_pos m))
  cases e : SetTable.layClean.free m ow (SetTable.turns m) (SetTable.bits h % (m + 1)) (SetTable.bits h) with
  | some j => exact ⟨j, rfl, free_some m ow _ (SetTable.bits h % (m + 1), SetTable.bits h) j e hq⟩
  | none =>
    exfalso
    have all := free_none m ow _ (SetTable.bits h % (m + 1), SetTable.bits h) e
    have z : (hops m 13 (SetTable.bits h % (m + 1), SetTable.bits h)).2 = 0 := by
      rw [hops_snd]
      refine Nat.div_eq_of_lt (Nat.lt_trans (L2.bits_lt h) ?_)
      decide
    have le := hops_fst_le m (q := (SetTable.bits h % (m + 1), SetTable.bits h)) hq 13
    obtain ⟨k, hk, ek⟩ := lcg_meets hm le hj
    have q := all (13 + k) (by show 13 + k < m + 15; omega)
    have e2 : hops m 13 (SetTable.bits h % (m + 1), SetTable.bits h) = ((hops m 13 (SetTable.bits h % (m + 1), SetTable.bits h)).1, 0) := by
      rw [← z]
    rw [hops_add, e2, hops_zero] at q
    rw [ek] at q
    rw [hf] at q
    cases q

/-! ### who sits where -/
theorem put_perm : ∀ (l : List (Option Nat)) (j k : Nat), l[j]? = some none → ((l.set j (some k)).filterMap id).Perm (k :: l.filterMap id)
  | [], j, k, h => by simp at h
  | x :: l, 0, k, h => by
    have e : x = none := by simpa using h
    subst e
    simp
  | x :: l, j + 1, k, h => by
    have ih := put_perm l j k (by simpa using h)
    cases x with
    | none => simpa using ih
    | some y =>
      simp only [List.set_cons_succ, List.filterMap_cons, id]
      exact (ih.cons y).trans (List.Perm.swap k y _)
theorem gap : ∀ l : List (Option Nat), (l.filterMap id).length < l.length → ∃ j : Nat, j < l.length ∧ l[j]? = some none
  | [], h => by simp at h
  | none :: l, h => ⟨0, by simp, rfl⟩
  | some y :: l, h => by
    obtain ⟨j, hj, e⟩ := gap l (by simpa using h)
    exact ⟨j + 1, by simpa using hj, by simpa using e⟩
structure Sit (m k : Nat) (ow : Array (Option Nat)) : Prop where
  sz : ow.size = m + 1
  pm : (ow.toList.filterMap id).Perm (List.range k)
theorem Sit.start (m : Nat) : Sit m 0 (Array.replicate (m + 1) none) := ⟨by simp, by simp⟩
theorem Sit.next {m k : Nat} {ow : Array (Option Nat)} (S : Sit m k ow) (hm : Msk m) (hk : k ≤ m) (h : Int) :
    ∃ j, SetTable.layClean.free m ow (SetTable.turns m) (SetTable.bits h % (m + 1)) (SetTable.bits h) = some j ∧ Sit m (k + 1) (ow.setIfInBounds j (some k)) := by
  have l1 := S.pm.length_eq
  rw [List.length_range] at l1
  obtain ⟨j0, h0, e0⟩ := gap ow.toList (by rw [l1, Array.length_toList, S.sz]; omega)
  rw [Array.length_toList, S.sz] at h0
  have f0 : (own ow j0).isNone = true := by
    have : ow[j0]? = some none := by rw [← Array.getElem?_toList]; exact e0
    simp [own, Array.getD_eq_getD_getElem?, this]
  obtain ⟨j, ej, hj, hn⟩ := free_there hm ow h (by omega) f0
  have hjs : j < ow.size := by rw [S.sz]; omega
  have en : ow.toList[j]? = some none := by
    have : own ow j = none := by simpa using hn
    rw [Array.getElem?_toList]
    simp only [own, Array.getD_eq_getD_getElem?, Array.getElem?_eq_getElem hjs, Option.getD_some] at this
    rw [Array.getElem?_eq_getElem hjs, this]
  refine ⟨j, ej, by rw [Array.size_setIfInBounds]; exact S.sz, ?_⟩
  rw [Array.toList_setIfInBounds]
  refine (put_perm ow.toList j k en).trans ?_
  rw [List.range_succ]
  exact (S.pm.cons k).trans (List.perm_append_singleton k _).symm
theorem sit_all {m : Nat} (hm : Msk m) : ∀ (hs : List Int) (k : Nat) (ow : Array (Option Nat)), Sit m k ow → k + hs.length ≤ m →
    ∃ ow', hs.foldl (L2.stepF m) (some (ow, k)) = some (ow', k + hs.length) ∧ Sit m (k + hs.length) ow'
  | [], k, ow, S, _ => ⟨ow, rfl, S⟩
  | h :: hs, k, ow, S, hl => by
    rw [List.length_cons] at hl
    obtain ⟨j, ej, S2⟩ := S.next hm (by omega) h
    obtain ⟨ow', e, S3⟩ := sit_all hm hs (k + 1) _ S2 (by omega)
    refine ⟨ow', ?_, ?_⟩
    · rw [List.foldl_cons, L2.stepF_some ej, e, List.length_cons]
      exact congrArg (fun n => some (ow', n)) (by omega)
    · rw [List.length_cons, show k + (hs.length + 1) = k + 1 + hs.length by omega]
      exact S3
theorem lay_ok {m : Nat} (hm : Msk m) {hs : Array Int} (hn : hs.size ≤ m) : ∃ ow, SetTable.layClean m hs = some ow ∧ Sit m hs.size ow := by
  obtain ⟨ow, e, S⟩ := sit_all hm hs.toList 0 _ (Sit.start m) (by rw [Array.length_toList]; omega)
  rw [Nat.zero_add, Array.length_toList] at S
  refine ⟨ow, ?_, S⟩
  rw [L2.layClean_eq, e] <;> rfl

def liveAt (m : Nat) (ow : Array (Option Nat)) : List (Nat × Nat) := (List.range (m + 1)).filterMap fun j => (ow.getD j none).map (j, ·)
theorem live_snd {m : Nat} {ow : Array (Option Nat)} (hz : ow.size = m + 1) : (liveAt m ow).map (·.2) = ow.toList.filterMap id := by
  unfold liveAt
  rw [List.map_filterMap, ← hz]
  have e1 : (fun j => ((ow.getD j none).map (j, ·)).map (·.2)) = fun j => (ow[j]?).bind id := by
    funext j
    rw [Array.getD_eq_getD_getElem?]
    cases ow[j]? with
    | none => rfl
    | some y => cases y <;> rfl
  have e2 := filterMap_getElem?_range ow
  rw [e1, ← e2, List.filterMap_filterMap]
theorem laid_ok {m : Nat} (hm : Msk m) {hs : Array Int} (hn : hs.size ≤ m) (fi mv : Nat) (ld pl : Bool) :
    ∃ t order, SetTable.laid m fi mv ld pl hs = some (t, order) ∧ order.toList.Perm (List.range hs.size) ∧ t.mask = m ∧ t.dummies = #[] ∧ t.led = ld ∧ L2.Ris t.place.toList ∧ t.place.size = hs.size := by
  obtain ⟨ow, e, S⟩ := lay_ok hm hn
  have p : ((liveAt m ow).map (·.2)).Perm (List.range hs.size) := by
    rw [live_snd S.sz]
    exact S.pm
  refine ⟨_, _, by unfold SetTable.laid; rw [e]; rfl, p, rfl, rfl, rfl, ?_, ?_⟩
  · refine (L2.ris_live (fun j => ow.getD j none) (List.range (m + 1)) ?_).1
    unfold L2.Ris
    first | exact List.pairwise_lt_range | exact List.pairwise_lt_range _
  · have l := p.length_eq
    rw [List.length_map, List.length_range] at l
    show ((liveAt m ow).map (·.1)).toArray.size = hs.size
    rw [List.size_toArray, List.length_map]
    exact l
theorem above_msk : ((List.range 128).all fun n => (SetTable.sizeAbove n == 8 || SetTable.sizeAbove n == 16 || SetTable.sizeAbove n == 32 || SetTable.sizeAbove n == 64 || SetTable.sizeAbove n == 128) && decide (n < SetTable.sizeAbove n)) = true := by
  decide +kernel
theorem above_ok {n : Nat} (h : n < 128) : Msk (SetTable.sizeAbove n - 1) ∧ n ≤ SetTable.sizeAbove n - 1 ∧ SetTable.sizeAbove n ≤ 128 := by
  have q := List.all_eq_true.mp above_msk n (List.mem_range.mpr h)
  simp only [Bool.and_eq_true, Bool.or_eq_true, beq_iff_eq, decide_eq_true_eq] at q
  obtain ⟨q1, q2⟩ := q
  refine ⟨?_, by omega, by omega⟩
  unfold Msk
  omega
end Cs

set_option Elab.async false
set_option linter.all false
set_option maxRecDepth 100000
set_option maxHeartbeats 1000000
namespace Cs
open PySem PySem.Spec PyProof.Rows L2

/-- a set of ints, written out -/
structure SetX (w : World) (h : Heap) (a : Addr) (es : Array (Int × Value)) (ep : Nat) (t : SetTable) : Prop where
  obj : h.get? a = some { cls := .type "set", dict := none, data := .set es ep t, slots := #[] }
  good : ∀ e ∈ es.toList, GoodE e
  nd : (es.toList.map keyOf).Nodup
  few : es.size < scanBound
  fits : t.fits es.size = true
  ris : Ris t.place.toList
  led : w.params.followText "set-order" = true ∨ t.led = true
section
variable {w : World} {h h' : Heap} {a : Addr} {S : Int → Bool} {n : Nat} {es : Array (Int × Value)} {ep : Nat} {t : SetTable}
theorem SetX.toR (R : SetX w h a es ep t) (hS : ∀ k, S k = true ↔ k ∈ es.toList.map keyOf) (hn : es.size = n) : SetR w h a S n :=
  ⟨_, es, ep, t, R.obj, ⟨rfl, rfl, rfl⟩, rfl, R.good, R.nd, hS, R.few, R.fits, hn, R.ris, R.led⟩
theorem xOf (R : SetR w h a S n) : ∃ es ep t, SetX w h a es ep t ∧ (∀ k, S k = true ↔ k ∈ es.toList.map keyOf) ∧ es.size = n := by
  obtain ⟨⟨c, d, dt, sl⟩, es, ep, t, ho, ⟨e1, e2, e3⟩, hd, g, nd, m, fw, ft, hn, r, l⟩ := R
  simp only at e1 e2 e3 hd
  subst e1 e2 e3 hd
  exact ⟨es, ep, t, ⟨ho, g, nd, fw, ft, r, l⟩, m, hn⟩
theorem SetX.move (R : SetX w h a es ep t) (k : ∀ o, h.get? a = some o → h'.get? a = some o) : SetX w h' a es ep t :=
  ⟨k _ R.obj, R.good, R.nd, R.few, R.fits, R.ris, R.led⟩
theorem SetX.perm {es' : Array (Int × Value)} {t' : SetTable} {ep' : Nat} (R : SetX w h a es ep t) (p : es'.toList.Perm es.toList)
    (o : h'.get? a = some { cls := .type "set", dict := none, data := .set es' ep' t', slots := #[] }) (f : t'.fits es'.size = true) (r : Ris t'.place.toList) (l : w.params.followText "set-order" = true ∨ t'.led = true) : SetX w h' a es' ep' t' :=
  ⟨o, fun e he => R.good e (p.mem_iff.mp he), (p.map keyOf).nodup_iff.mpr R.nd, by
    have q := p.length_eq
    rw [Array.length_toList, Array.length_toList] at q
    rw [q]; exact R.few, f, r, l⟩
end
theorem order_perm {es : Array (Int × Value)} {order : Array Nat} (p : order.toList.Perm (List.range es.size)) : (order.filterMap (es[·]?)).toList.Perm es.toList := by
  have q := p.filterMap (fun i => es[i]?)
  rw [filterMap_getElem?_range] at q
  rw [Array.toList_filterMap]
  exact q
theorem perm_size {α : Type} {x y : Array α} (p : x.toList.Perm y.toList) : x.size = y.size := by
  have q := p.length_eq
  rw [Array.length_toList, Array.length_toList] at q
  exact q
section
variable {P : Program} {w : World} {A : Around} {E : Value → Shared → Prop} {s : Shared} {a : Addr} {es : Array (Int × Value)} {ep : Nat} {t : SetTable}

theorem relay_x {wanted : Nat} {Q : Unit → Shared → Prop} (R : SetX w s.heap a es ep t) (hw : wanted < 128) (hn : es.size ≤ wanted)
    (hQ : ∀ h' es' t', Heap.SameBut a s.heap h' → SetX w h' a es' (ep + 1) t' → es'.toList.Perm es.toList → t'.mask = SetTable.sizeAbove wanted - 1 → t'.dummies = #[] → t'.place.size = es.size → Q () { s with heap := h' }) :
    wpAny (model P w) A (setRelay a wanted) Q E s := by
  obtain ⟨hM, hMn, h128⟩ := above_ok hw
  obtain ⟨t', order, e, hp, em, ed, el, er, ez⟩ := laid_ok hM (hs := es.map (·.1)) (by rw [Array.size_map]; omega) t.finger (t.movedTo (SetTable.sizeAbove wanted - 1)) t.led t.plain
  rw [Array.size_map] at hp ez
  have p2 := order_perm hp
  have z2 := perm_size p2
  have fit : t'.fits (order.filterMap (es[·]?)).size = true := by
    unfold SetTable.fits SetTable.fill
    rw [ed, z2, ez, em, Bool.and_eq_true, beq_iff_eq, decide_eq_true_eq]
    exact ⟨rfl, by show es.size + 0 ≤ _; omega⟩
  have e' : t.relaid (es.map (·.1)) wanted = some (t', order) := e
  unfold setRelay
  refine wpAny_bind (wpAny_setState_of R.obj rfl R.fits ?_)
  dsimp only
  refine wp_if_neg (by rw [sizeLine_eq]; omega) ?_
  try refine wpAny_bind (wpAny_pure ?_)
  rw [e']
  refine wpAny_bind ?_
  refine wp_if_neg (c := ((order.filterMap (es[·]?)).size != es.size) = true) (by rw [z2]; simp) ?_
  try refine wpAny_bind (wpAny_pure ?_)
  refine wpAny_pure ?_
  dsimp only
  refine wpAny_storeSet_of R.obj rfl ?_ (fits_of_scanBound (by rw [z2]; exact R.few))
  have sb : Heap.SameBut a s.heap (s.heap.update a (Obj.putSet (order.filterMap (es[·]?)) t')) := Heap.SameBut.update ..
  exact hQ _ _ t' sb (R.perm p2 (store_at R.obj rfl) fit er (R.led.imp id fun z => el.trans z)) p2 em ed ez

/-! ### walking -/
theorem walk_x {Q : Array (Int × Value) → Shared → Prop} (R : SetX w s.heap a es ep t) (hQ : ∀ ys d, ys.toList.Perm es.toList → Q ys { s with drawn := d }) : wpAny (model P w) A (setWalk a) Q E s := by
  have rf : Q es s := hQ es s.drawn (List.Perm.refl _)
  unfold setWalk
  refine wpAny_bind (wpAny_setState_of R.obj rfl R.fits ?_)
  dsimp only
  refine wpAny_bind (wpAny_byText ?_)
  by_cases hb : w.params.followText "set-order" = true
  · refine wp_if_pos hb ?_
    refine wpAny_bind (wpAny_askSetting ?_)
    exact wpAny_pure (hQ _ s.drawn (pick_perm _ es))
  · refine wp_if_neg hb ?_
    by_cases hd : (!t.plain && decide (es.size > 1)) = true
    · refine wp_if_pos (c := (!t.plain && decide (es.size > 1)) = true) hd ?_
      refine wpAny_bind (drawOrder_at _ _ _ _ (Nat.le_of_eq Array.length_toList) fun ys d p => wpAny_pure (hQ _ d ?_))
      simpa using p
    · refine wp_if_neg (c := (!t.plain && decide (es.size > 1)) = true) hd ?_
      have hl : t.led = true := R.led.resolve_left hb
      refine wpAny_bind (m := (_ : Sem Unit)) ?_
      refine wp_if_neg (c := (!t.led && decide (es.size > 1)) = true) (by rw [hl]; simp) ?_
      exact wpAny_pure (wpAny_pure rf)
end
end Cs

set_option Elab.async false
set_option linter.all false
set_option maxRecDepth 100000
set_option maxHeartbeats 1000000
namespace Cs
open PySem PySem.Spec PyProof.Rows L2
section
variable {P : Program} {w : World} {A : Around} {E : Value → Shared → Prop} {s : Shared} {a : Addr} {es : Array (Int × Value)} {ep : Nat} {t : SetTable}

theorem quiet_x {Q : Bool → Shared → Prop} : ∀ (l : List Addr), (∀ b ∈ l, ∃ es ep t, SetX w s.heap b es ep t) → Q true s → wpAny (model P w) A (setsQuiet l) Q E s := by
  intro l hl hq
  unfold setsQuiet
  refine wpAny_bind (wpAny_forIn_list _ (fun rest b s' => b.1 = none ∧ s' = s ∧ ∀ x ∈ rest, ∃ es ep t, SetX w s.heap x es ep t) _ ?turn ?fin l _ ⟨rfl, rfl, hl⟩)
  case fin =>
    rintro ⟨b1, b2⟩ s' ⟨h1, rfl, _⟩
    cases h1
    exact wpAny_pure hq
  case turn =>
    rintro x rest ⟨b1, b2⟩ s' ⟨h1, rfl, h2⟩
    cases h1
    obtain ⟨es, ep, t, R⟩ := h2 x List.mem_cons_self
    unfold setEntries
    refine wpAny_bind (wpAny_bind (wpAny_setState_of R.obj rfl R.fits (wpAny_pure ?_)))
    refine wpAny_bind (MeetsSeq2.wpAny_forIn_array _ (fun rest' b s'' => b.1 = none ∧ s'' = s' ∧ ∀ e ∈ rest', GoodE e) _ ?t2 ?f2 es _ ⟨rfl, rfl, R.good⟩)
    case f2 =>
      rintro ⟨b1, b2⟩ s' ⟨h1, rfl, _⟩
      cases h1
      exact wpAny_pure ⟨rfl, rfl, fun y hy => h2 y (List.mem_cons_of_mem _ hy)⟩
    case t2 =>
      rintro ⟨hh, v⟩ rest' ⟨b1, b2⟩ s' ⟨h1, rfl, hg⟩
      cases h1
      obtain ⟨k, tk, e1, _⟩ := hg _ List.mem_cons_self
      have e2 : v = .int k tk := e1
      subst e2
      dsimp only
      refine wpAny_pure ⟨rfl, rfl, fun y hy => hg y (List.mem_cons_of_mem _ hy)⟩
end
end Cs

set_option Elab.async false
set_option linter.all false
set_option maxRecDepth 100000
set_option maxHeartbeats 1000000
namespace Cs
open PySem PySem.Spec PyProof.Rows L2
section
variable {P : Program} {w : World} {A : Around} {E : Value → Shared → Prop} {s : Shared} {a : Addr} {es : Array (Int × Value)} {ep : Nat} {t : SetTable}
theorem unseen_x {others : List Addr} {f : Addr} {ef : Array (Int × Value)} {pf : Nat} {tf : SetTable} {Q : Array (Int × Value) → Shared → Prop} (R : SetX w s.heap a es ep t)
    (ho : ∀ b ∈ others, ∃ es ep t, SetX w s.heap b es ep t) (F : SetX w s.heap f ef pf tf)
    (hQ : ∀ ys d h' pf' tf', ys.toList.Perm es.toList → Heap.SameBut f s.heap h' → SetX w h' f ef pf' tf' → Q ys { s with heap := h', drawn := d }) :
    wpAny (model P w) A (setWalkUnseen a others (some f)) Q E s := by
  have rf : ∀ ys d, ys.toList.Perm es.toList → Q ys { s with drawn := d } := fun ys d p => hQ ys d s.heap pf tf p (Heap.SameBut.refl f s.heap) F
  unfold setWalkUnseen
  refine wpAny_bind (wpAny_setState_of R.obj rfl R.fits ?_)
  dsimp only
  refine wpAny_bind (wpAny_byText ?_)
  by_cases hb : (w.params.followText "set-order" || (t.led && t.plain) || decide (es.size ≤ 1)) = true
  · refine wp_if_pos (c := (w.params.followText "set-order" || (t.led && t.plain) || decide (es.size ≤ 1)) = true) hb ?_
    exact walk_x R rf
  · refine wp_if_neg (c := (w.params.followText "set-order" || (t.led && t.plain) || decide (es.size ≤ 1)) = true) hb ?_
    have hnt : ¬ w.params.followText "set-order" = true := fun z => hb (by rw [z] <;> rfl)
    have hl : t.led = true := R.led.resolve_left hnt
    try refine wpAny_bind (wpAny_pure ?_)
    refine wpAny_bind (quiet_x _ (fun b hb' => (List.mem_cons.mp hb').elim (fun z => ⟨es, ep, t, z ▸ R⟩) (ho b)) ?_)
    refine wp_if_neg (c := (!true) = true) (by simp) ?_
    try refine wpAny_bind (wpAny_pure ?_)
    refine wpAny_bind (wpAny_rule ?_)
    try dsimp only
    refine wpAny_bind (wpAny_setState_of F.obj rfl F.fits ?_)
    dsimp only
    split
    · refine wpAny_bind (wpAny_storeSet_of F.obj rfl ?_ (fits_of_scanBound F.few))
      refine wpAny_pure ?_
      refine hQ es s.drawn _ _ _ (List.Perm.refl _) (Heap.SameBut.update s.heap f _) (F.perm (List.Perm.refl _) (store_at F.obj rfl) ?_ F.ris ?_)
      · exact F.fits
      · refine F.led.imp id fun z => ?_
        show (tf.led && t.led) = true
        rw [z, hl] <;> rfl
    · try refine wpAny_bind (wpAny_pure ?_)
      exact wpAny_pure (rf es s.drawn (List.Perm.refl _))
theorem unseen_n {others : List Addr} {Q : Array (Int × Value) → Shared → Prop} (R : SetX w s.heap a es ep t)
    (ho : ∀ b ∈ others, ∃ es ep t, SetX w s.heap b es ep t)
    (rf : ∀ ys d, ys.toList.Perm es.toList → Q ys { s with drawn := d }) :
    wpAny (model P w) A (setWalkUnseen a others none) Q E s := by
  unfold setWalkUnseen
  refine wpAny_bind (wpAny_setState_of R.obj rfl R.fits ?_)
  dsimp only
  refine wpAny_bind (wpAny_byText ?_)
  by_cases hb : (w.params.followText "set-order" || (t.led && t.plain) || decide (es.size ≤ 1)) = true
  · refine wp_if_pos (c := (w.params.followText "set-order" || (t.led && t.plain) || decide (es.size ≤ 1)) = true) hb ?_
    exact walk_x R rf
  · refine wp_if_neg (c := (w.params.followText "set-order" || (t.led && t.plain) || decide (es.size ≤ 1)) = true) hb ?_
    try refine wpAny_bind (wpAny_pure ?_)
    refine wpAny_bind (quiet_x _ (fun b hb' => (List.mem_cons.mp hb').elim (fun z => ⟨es, ep, t, z ▸ R⟩) (ho b)) ?_)
    refine wp_if_neg (c := (!true) = true) (by simp) ?_
    try refine wpAny_bind (wpAny_pure ?_)
    refine wpAny_bind (wpAny_rule ?_)
    try dsimp only
    try refine wpAny_bind (wpAny_pure ?_)
    exact wpAny_pure (rf es s.drawn (List.Perm.refl _))

theorem room_x {more : Nat} {Q : Unit → Shared → Prop} (R : SetX w s.heap a es ep t) (hm : (es.size + more) * 2 < 128)
    (hQ : ∀ h' es' ep' t', Heap.SameBut a s.heap h' → SetX w h' a es' ep' t' → es'.toList.Perm es.toList →
      ((t' = t ∧ (t.fill + more) * 5 < t.mask * 3) ∨ (t'.mask = SetTable.sizeAbove ((es.size + more) * 2) - 1 ∧ t'.dummies = #[])) → Q () { s with heap := h' }) :
    wpAny (model P w) A (setRoomFor a more) Q E s := by
  have hz : t.place.size = es.size := by
    have f := R.fits
    unfold SetTable.fits at f
    rw [Bool.and_eq_true, beq_iff_eq] at f
    exact f.1
  unfold setRoomFor
  refine wpAny_bind (wpAny_setState_of R.obj rfl R.fits ?_)
  dsimp only
  by_cases c : (t.fill + more) * 5 ≥ t.mask * 3
  · have e : t.roomFor more = some ((t.place.size + more) * 2) := if_pos c
    rw [e]
    dsimp only
    rw [hz]
    refine relay_x R hm (by omega) fun h' es' t' sb X p em ed _ => hQ h' es' _ t' sb X p (.inr ⟨em, ed⟩)
  · have e : t.roomFor more = none := if_neg c
    rw [e]
    dsimp only
    exact wpAny_pure (hQ s.heap es ep t (Heap.SameBut.refl a s.heap) R (List.Perm.refl _) (.inl ⟨rfl, by omega⟩))
end
end Cs

set_option Elab.async false
set_option linter.all false
set_option maxRecDepth 100000
set_option maxHeartbeats 1000000
namespace Cs
open PySem PySem.Spec PyProof.Rows L2
section
variable {P : Program} {w : World} {A : Around} {E : Value → Shared → Prop} {s : Shared}
abbrev keys (es : Array (Int × Value)) : List Int := es.toList.map keyOf
theorem keys_perm {x y : Array (Int × Value)} (p : x.toList.Perm y.toList) (k : Int) : k ∈ keys x ↔ k ∈ keys y := (p.map keyOf).mem_iff
theorem sb_trans {a : Addr} {h1 h2 h3 : Heap} (x : Heap.SameBut a h1 h2) (y : Heap.SameBut a h2 h3) : Heap.SameBut a h1 h3 := x.trans y
theorem sx_other {h h' : Heap} {a b : Addr} {es : Array (Int × Value)} {ep : Nat} {t : SetTable} (R : SetX w h b es ep t) (sb : Heap.SameBut a h h') (hne : b ≠ a) : SetX w h' b es ep t :=
  R.move fun o e => (sb.2 b hne).trans e
theorem sr_other {h h' : Heap} {a b : Addr} {S : Int → Bool} {n : Nat} (R : SetR w h b S n) (sb : Heap.SameBut a h h') (hne : b ≠ a) : SetR w h' b S n :=
  R.at fun o e => (sb.2 b hne).trans e

/-- adding the members of a walk, one by one -/
theorem add_all {r : Addr} (f : (Int × Value) → PUnit → Sem (ForInStep PUnit)) (K : Shared → Prop) (hK : ∀ s1 h', Heap.SameBut r s1.heap h' → K s1 → K { s1 with heap := h' })
    (hf : ∀ e k tk s1 Q', e = (hashInt k, Value.int k tk) → K s1 → (wpAny (model P w) A (setAddHashed r (.int k tk) (hashInt k)) (fun _ s2 => K s2 ∧ Q' (.yield ⟨⟩) s2) E s1) → wpAny (model P w) A (f e ⟨⟩) Q' E s1)
    (ys : Array (Int × Value)) (g : ∀ e ∈ ys.toList, GoodE e) {S : Int → Bool} {n : Nat} (R : SetR w s.heap r S n) (hn : n + ys.size + 1 < scanBound) (hs : K s) {Q : PUnit → Shared → Prop}
    (hQ : ∀ h' S' n', SetR w h' r S' n' → (∀ k, S' k = true ↔ S k = true ∨ k ∈ keys ys) → n' ≤ n + ys.size → Heap.SameBut r s.heap h' → K { s with heap := h' } → Q ⟨⟩ { s with heap := h' }) :
    wpAny (model P w) A (forIn ys ⟨⟩ f) Q E s := by
  refine MeetsSeq2.wpAny_forIn_array f (fun rest _ s' => ∃ h' S' n', s' = { s with heap := h' } ∧ SetR w h' r S' n' ∧ (∀ k, (S' k = true ∨ k ∈ rest.map keyOf) ↔ (S k = true ∨ k ∈ keys ys)) ∧ n' + rest.length ≤ n + ys.size ∧
    Heap.SameBut r s.heap h' ∧ K { s with heap := h' } ∧ ∀ e ∈ rest, GoodE e) Q ?turn ?fin ys ⟨⟩ ⟨s.heap, S, n, rfl, R, fun k => Iff.rfl, by rw [Array.length_toList]; exact Nat.le_refl _, Heap.SameBut.refl r s.heap, hs, g⟩
  case fin =>
    rintro ⟨⟩ s' ⟨h', S', n', rfl, R', m, l, sb, k, _⟩
    exact hQ h' S' n' R' (fun k => by simpa using m k) (by simpa using l) sb k
  case turn =>
    rintro e rest ⟨⟩ s' ⟨h', S', n', rfl, R', m, l, sb, kk, g'⟩
    obtain ⟨k, tk, e1, e2⟩ := g' e List.mem_cons_self
    obtain ⟨eh, ev⟩ := e
    simp only at e1 e2
    subst e1 e2
    rw [List.length_cons] at l
    refine hf _ k tk _ _ rfl kk ?_
    refine setR_add_hashed (s := { s with heap := h' }) R' (by omega) fun h2 sb2 R2 => ?_
    have k2 : K { s with heap := h2 } := hK { s with heap := h' } h2 sb2 kk
    refine ⟨k2, h2, _, _, rfl, R2, fun j => ?_, ?_, sb_trans sb sb2, k2, fun e he => g' e (List.mem_cons_of_mem _ he)⟩
    · rw [← m j, List.map_cons, List.mem_cons, Bool.or_eq_true, decide_eq_true_eq]
      show ((S' j = true ∨ j = k) ∨ _) ↔ (S' j = true ∨ (j = k ∨ _))
      exact or_assoc
    · have : (if S' k = true then n' else n' + 1) ≤ n' + 1 := by split <;> omega
      omega

/-- what is merged into a set with members -/
theorem merge_more {r o : Addr} {each : Sem Unit} {er eo : Array (Int × Value)} {pr po : Nat} {tr to : SetTable} {Q : Unit → Shared → Prop} (hro : o ≠ r) (R : SetX w s.heap r er pr tr) (O : SetX w s.heap o eo po to)
    (hne : er.size ≠ 0) (hroom : (er.size + eo.size) * 2 < 128)
    (heach : ∀ s' Q', SetX w s'.heap o eo po to → Q' () s' → wpAny (model P w) A each Q' E s')
    (hQ : ∀ h' d' S' n', SetR w h' r S' n' → (∀ k, S' k = true ↔ k ∈ keys er ∨ k ∈ keys eo) → n' ≤ er.size + eo.size → Heap.SameBut r s.heap h' → Q () { s with heap := h', drawn := d' }) :
    wpAny (model P w) A (setMerge r o each) Q E s := by
  unfold setMerge
  refine wp_if_neg (c := (r == o) = true) (by simpa using Ne.symm hro) ?_
  try refine wpAny_bind (wpAny_pure ?_)
  refine wpAny_bind (wpAny_setState_of O.obj rfl O.fits ?_)
  dsimp only
  by_cases he : eo.isEmpty = true
  · refine wp_if_pos (c := eo.isEmpty = true) he ?_
    refine wpAny_pure (hQ s.heap s.drawn _ _ (R.toR (S := fun k => decide (k ∈ keys er)) (fun k => decide_eq_true_iff) rfl) (fun k => ?_) (by omega) (Heap.SameBut.refl r s.heap))
    have : eo = #[] := by simpa using he
    subst this
    simp
  · refine wp_if_neg (c := eo.isEmpty = true) he ?_
    try refine wpAny_bind (wpAny_pure ?_)
    refine wpAny_bind (room_x R hroom fun h1 er1 pr1 tr1 sb1 R1 p1 _ => ?_)
    have O1 := sx_other O sb1 hro
    refine wpAny_bind (wpAny_setState_of R1.obj rfl R1.fits ?_)
    dsimp only
    have z1 := perm_size p1
    have hfill : (tr1.fill != 0) = true := by
      have f := R1.fits
      unfold SetTable.fits at f
      rw [Bool.and_eq_true, beq_iff_eq] at f
      have : tr1.fill ≠ 0 := by
        unfold SetTable.fill
        omega
      simpa using this
    have er' : tr1.road to = .oneByOne := if_pos hfill
    rw [er']
    dsimp only
    refine wpAny_bind (unseen_x (s := { s with heap := h1 }) O1 (fun b hb => by rw [List.mem_singleton.mp hb]; exact ⟨_, _, _, R1⟩) R1 fun ys d h2 pf tf py sb2 R2 => ?_)
    have O2 := sx_other O1 sb2 hro
    have zy := perm_size py
    refine wpAny_bind (add_all (s := { s with heap := h2, drawn := d }) (P := P) (A := A) (E := E) _ (fun s1 => SetX w s1.heap o eo po to) (fun s1 h' sb k => sx_other k sb hro) ?hf ys (fun e he => O.good e (py.mem_iff.mp he))
      (R2.toR (S := fun k => decide (k ∈ keys er1)) (fun k => decide_eq_true_iff) rfl) (by have : scanBound = 4096 := rfl; omega) O2 ?hQ)
    case hQ =>
      intro h3 S' n' R3 m3 l3 sb3 _
      refine wpAny_pure (hQ h3 d S' n' R3 (fun k => ?_) (by omega) (sb_trans sb1 (sb_trans sb2 sb3)))
      rw [m3 k, decide_eq_true_iff, keys_perm p1 k, keys_perm py k]
    case hf =>
      intro e k tk s1 Q' ee kk hwp
      subst ee
      dsimp only
      refine wpAny_bind (wpAny_holding (wpAny_mono hwp (fun b s2 hs2 => ?_) fun _ _ z => z))
      obtain ⟨k2, q2⟩ := hs2
      refine wpAny_bind (heach s2 _ k2 ?_)
      refine wpAny_bind (wpAny_setState_of k2.obj rfl k2.fits ?_)
      refine wp_if_neg (c := (po != po) = true) (by simp) ?_
      exact wpAny_pure q2
end
end Cs

set_option Elab.async false
set_option linter.all false
set_option maxRecDepth 100000
set_option maxHeartbeats 1000000
namespace Cs
open PySem PySem.Spec PyProof.Rows L2
section
variable {P : Program} {w : World} {A : Around} {E : Value → Shared → Prop} {s : Shared}
theorem SetX.permTo {h h' : Heap} {a b : Addr} {es es' : Array (Int × Value)} {t t' : SetTable} {ep ep' : Nat} (R : SetX w h a es ep t) (p : es'.toList.Perm es.toList)
    (o : h'.get? b = some { cls := .type "set", dict := none, data := .set es' ep' t', slots := #[] }) (f : t'.fits es'.size = true) (r : Ris t'.place.toList) (l : w.params.followText "set-order" = true ∨ t'.led = true) : SetX w h' b es' ep' t' :=
  ⟨o, fun e he => R.good e (p.mem_iff.mp he), (p.map keyOf).nodup_iff.mpr R.nd, by rw [perm_size p]; exact R.few, f, r, l⟩
theorem nil_of_perm {es : Array (Int × Value)} (p : es.toList.Perm (#[] : Array (Int × Value)).toList) : es = #[] := by
  have q := List.perm_nil.mp p
  simpa using q
theorem merge_fresh {r o : Addr} {each : Sem Unit} {eo : Array (Int × Value)} {pr po : Nat} {tr to : SetTable} {Q : Unit → Shared → Prop} (hro : o ≠ r) (R : SetX w s.heap r #[] pr tr)
    (hm : tr.mask = 7) (hdm : tr.dummies = #[]) (O : SetX w s.heap o eo po to) (h63 : eo.size ≤ 63)
    (hQ : ∀ h' es' ep' t', SetX w h' r es' ep' t' → es'.toList.Perm eo.toList → Heap.SameBut r s.heap h' → Q () { s with heap := h' }) :
    wpAny (model P w) A (setMerge r o each) Q E s := by
  unfold setMerge
  refine wp_if_neg (c := (r == o) = true) (by simpa using Ne.symm hro) ?_
  try refine wpAny_bind (wpAny_pure ?_)
  refine wpAny_bind (wpAny_setState_of O.obj rfl O.fits ?_)
  dsimp only
  by_cases he : eo.isEmpty = true
  · refine wp_if_pos (c := eo.isEmpty = true) he ?_
    have e0 : eo = #[] := by simpa using he
    subst e0
    exact wpAny_pure (hQ s.heap _ _ _ R (List.Perm.refl _) (Heap.SameBut.refl r s.heap))
  · refine wp_if_neg (c := eo.isEmpty = true) he ?_
    try refine wpAny_bind (wpAny_pure ?_)
    have fr : tr.fill = 0 := by
      have f := R.fits
      unfold SetTable.fits at f
      rw [Bool.and_eq_true, beq_iff_eq] at f
      have f1 : tr.place.size = 0 := f.1
      unfold SetTable.fill
      rw [hdm, f1]
      rfl
    refine wpAny_bind (room_x R (by show (0 + eo.size) * 2 < 128; omega) fun h1 er1 pr1 tr1 sb1 R1 p1 alt => ?_)
    have e1 := nil_of_perm p1
    subst e1
    have O1 := sx_other O sb1 hro
    have hM : Msk tr1.mask ∧ eo.size ≤ tr1.mask ∧ tr1.dummies = #[] := by
      rcases alt with ⟨et, hlt⟩ | ⟨em, ed⟩
      · subst et
        rw [fr, hm] at hlt
        exact ⟨.inl hm, by rw [hm]; omega, hdm⟩
      · have z : (#[] : Array (Int × Value)).size = 0 := rfl
        rw [z] at em
        obtain ⟨a1, a2, a3⟩ := above_ok (n := (0 + eo.size) * 2) (by omega)
        exact ⟨em ▸ a1, by omega, ed⟩
    obtain ⟨hM1, hM2, hM3⟩ := hM
    have fr1 : tr1.fill = 0 := by
      have f := R1.fits
      unfold SetTable.fits at f
      rw [Bool.and_eq_true, beq_iff_eq] at f
      have f1 : tr1.place.size = 0 := f.1
      unfold SetTable.fill
      rw [hM3, f1]
      rfl
    refine wpAny_bind (wpAny_setState_of R1.obj rfl R1.fits ?_)
    dsimp only
    have led : w.params.followText "set-order" = true ∨ (tr1.led && to.led) = true := by
      rcases R1.led with z | z
      · exact .inl z
      · rcases O1.led with y | y
        · exact .inl y
        · exact .inr (by rw [z, y] <;> rfl)
    have er : tr1.road to = if (tr1.mask == to.mask && to.dummies.isEmpty) = true then .slotForSlot else .clean := if_neg (by rw [fr1]; simp)
    by_cases c : (tr1.mask == to.mask && to.dummies.isEmpty) = true
    · rw [er, if_pos c]
      dsimp only
      refine wpAny_storeSet_of R1.obj rfl ?_ (fits_of_scanBound O.few)
      refine hQ _ _ _ _ (O1.permTo (List.Perm.refl _) (store_at R1.obj rfl) ?_ O1.ris led) (List.Perm.refl _) (sb_trans sb1 (Heap.SameBut.update h1 r _))
      exact O1.fits
    · rw [er, if_neg c]
      dsimp only
      obtain ⟨t', order, e, hp, em, ed, el, eR, ez⟩ := laid_ok hM1 (hs := eo.map (·.1)) (by rw [Array.size_map]; exact hM2) tr1.finger tr1.moves (tr1.led && to.led) (tr1.plain && to.plain)
      rw [Array.size_map] at hp ez
      have p2 := order_perm hp
      have z2 := perm_size p2
      rw [e]
      refine wpAny_bind ?_
      refine wp_if_neg (c := ((order.filterMap (eo[·]?)).size != eo.size) = true) (by rw [z2]; simp) ?_
      try refine wpAny_bind (wpAny_pure ?_)
      refine wpAny_pure ?_
      dsimp only
      refine wpAny_storeSet_of R1.obj rfl ?_ (fits_of_scanBound (by rw [z2]; exact O.few))
      refine hQ _ _ _ _ (O1.permTo p2 (store_at R1.obj rfl) ?_ eR (by rw [el]; exact led)) p2 (sb_trans sb1 (Heap.SameBut.update h1 r _))
      unfold SetTable.fits SetTable.fill
      rw [ed, z2, ez, em, Bool.and_eq_true, beq_iff_eq, decide_eq_true_eq]
      exact ⟨rfl, by show eo.size + 0 ≤ _; omega⟩

/-! ### the words of the class -/
abbrev newObjOf (w : World) : Obj := { cls := .type "set", dict := none, data := .set #[] 0 (.fresh 0 0 (!w.params.followText "set-order")) }
theorem fresh_x (h : Heap) : SetX w (h.push (newObjOf w)) h.objs.size #[] 0 (.fresh 0 0 (!w.params.followText "set-order")) :=
  ⟨Heap.get?_push_size _ rfl, fun e he => by simp at he, by simp, by decide, rfl, List.Pairwise.nil, by
    show _ ∨ (!w.params.followText "set-order") = true
    cases w.params.followText "set-order" <;> simp⟩
theorem SetX.ty {h : Heap} {a : Addr} {es : Array (Int × Value)} {ep : Nat} {t : SetTable} (R : SetX w h a es ep t) {s : Shared} (e : s.heap = h) : s.TypeIs (.ref a) "set" :=
  ⟨_, by rw [e]; exact R.obj, rfl⟩
theorem base_x {a : Addr} {Q : Value → Shared → Prop} (hT : s.TypeIs (.ref a) "set") (q : Q (.type "set") s) : wpAny (model P w) A (Builtin.Frozenset.baseOf a) Q E s := by
  unfold Builtin.Frozenset.baseOf
  refine wpAny_bind (wpAny_isInstance (b := true) hT sub_set_self ?_)
  exact wpAny_pure q
theorem any_x {a : Addr} {Q : Bool → Shared → Prop} (hT : s.TypeIs (.ref a) "set") (q : Q true s) : wpAny (model P w) A (Builtin.Frozenset.isAnySet (.ref a)) Q E s := by
  unfold Builtin.Frozenset.isAnySet
  refine wpAny_bind (wpAny_isInstance (b := true) hT sub_set_self ?_)
  exact wpAny_pure q
theorem new_x {Q : Value → Shared → Prop} (q : Q (.ref s.heap.objs.size) { s with heap := s.heap.push (newObjOf w) }) : wpAny (model P w) A (newSet (.type "set")) Q E s := by
  unfold newSet
  refine wpAny_bind (wpAny_byText ?_)
  dsimp only
  simp only [newObj]
  exact wpAny_bind (wpAny_alloc (wpAny_pure q))
theorem size_x {a : Addr} {es : Array (Int × Value)} {ep : Nat} {t : SetTable} {Q : Nat → Shared → Prop} (R : SetX w s.heap a es ep t) (q : Q es.size s) : wpAny (model P w) A (Builtin.Frozenset.sizeOf a) Q E s := by
  unfold Builtin.Frozenset.sizeOf setEntries
  exact wpAny_bind (wpAny_bind (wpAny_setState_of R.obj rfl R.fits (wpAny_pure (wpAny_pure q))))
theorem unchanged_x {id : String} {a : Addr} {es : Array (Int × Value)} {ep : Nat} {t : SetTable} {Q : Unit → Shared → Prop} (R : SetX w s.heap a es ep t) (q : Q () s) : wpAny (model P w) A (Builtin.Frozenset.unchanged id a ep) Q E s := by
  unfold Builtin.Frozenset.unchanged
  refine wpAny_bind (wpAny_setEpoch_of R.obj rfl R.fits ?_)
  exact wp_if_neg (c := (ep != ep) = true) (by simp) (wpAny_pure q)

/-- heaps in which all is as it was but what is new -/
def Old (h h' : Heap) : Prop := ∀ b o, h.get? b = some o → h'.get? b = some o
theorem old_push (h : Heap) (o : Obj) : Old h (h.push o) := fun _ _ e => Heap.get?_push_of_some o e
theorem old_but {h h' : Heap} {o : Obj} (sb : Heap.SameBut h.objs.size (h.push o) h') : Old h h' := fun b u e => by
  rw [sb.2 b (Nat.ne_of_lt (Heap.lt_size e))]
  exact Heap.get?_push_of_some o e
theorem copy_x {a : Addr} {es : Array (Int × Value)} {ep : Nat} {t : SetTable} {Q : Value → Shared → Prop} (R : SetX w s.heap a es ep t) (h63 : es.size ≤ 63)
    (hQ : ∀ h' es' ep' t', SetX w h' s.heap.objs.size es' ep' t' → es'.toList.Perm es.toList → Heap.SameBut s.heap.objs.size (s.heap.push (newObjOf w)) h' → Q (.ref s.heap.objs.size) { s with heap := h' }) :
    wpAny (model P w) A (Builtin.Frozenset.copyOf a) Q E s := by
  unfold Builtin.Frozenset.copyOf
  refine wpAny_bind (base_x (R.ty rfl) ?_)
  refine wpAny_bind (new_x ?_)
  refine wpAny_bind (wpAny_pure ?_)
  have hne : a ≠ s.heap.objs.size := Nat.ne_of_lt (Heap.lt_size R.obj)
  refine wpAny_bind (merge_fresh (s := { s with heap := s.heap.push (newObjOf w) }) hne (fresh_x s.heap) rfl rfl (R.move fun o e => old_push _ _ _ _ e) h63 fun h' es' ep' t' X p sb => ?_)
  exact wpAny_pure (hQ h' es' ep' t' X p sb)
end
end Cs

set_option Elab.async false
set_option linter.all false
set_option maxRecDepth 100000
set_option maxHeartbeats 1000000
namespace Cs
open PySem PySem.Spec PyProof.Rows L2
section
variable {P : Program} {w : World} {A : Around} {E : Value → Shared → Prop} {s : Shared}
/-- adding those of a walk that a test lets in -/
theorem add_some {r : Addr} (C : Int → Bool) (f : (Int × Value) → PUnit → Sem (ForInStep PUnit)) (K : Shared → Prop) (hK : ∀ s1 h', Heap.SameBut r s1.heap h' → K s1 → K { s1 with heap := h' })
    (hf : ∀ e k tk s1 Q', e = (hashInt k, Value.int k tk) → K s1 → (C k = true → wpAny (model P w) A (setAddHashed r (.int k tk) (hashInt k)) (fun _ s2 => K s2 ∧ Q' (.yield ⟨⟩) s2) E s1) → (C k = false → Q' (.yield ⟨⟩) s1) →
      wpAny (model P w) A (f e ⟨⟩) Q' E s1)
    (ys : Array (Int × Value)) (g : ∀ e ∈ ys.toList, GoodE e) {S : Int → Bool} {n : Nat} (R : SetR w s.heap r S n) (hn : n + ys.size + 1 < scanBound) (hs : K s) {Q : PUnit → Shared → Prop}
    (hQ : ∀ h' S' n', SetR w h' r S' n' → (∀ k, S' k = true ↔ S k = true ∨ (k ∈ keys ys ∧ C k = true)) → n' ≤ n + ys.size → Heap.SameBut r s.heap h' → K { s with heap := h' } → Q ⟨⟩ { s with heap := h' }) :
    wpAny (model P w) A (forIn ys ⟨⟩ f) Q E s := by
  refine MeetsSeq2.wpAny_forIn_array f (fun rest _ s' => ∃ h' S' n', s' = { s with heap := h' } ∧ SetR w h' r S' n' ∧ (∀ k, (S' k = true ∨ (k ∈ rest.map keyOf ∧ C k = true)) ↔ (S k = true ∨ (k ∈ keys ys ∧ C k = true))) ∧ n' + rest.length ≤ n + ys.size ∧
    Heap.SameBut r s.heap h' ∧ K { s with heap := h' } ∧ ∀ e ∈ rest, GoodE e) Q ?turn ?fin ys ⟨⟩ ⟨s.heap, S, n, rfl, R, fun k => Iff.rfl, by rw [Array.length_toList]; exact Nat.le_refl _, Heap.SameBut.refl r s.heap, hs, g⟩
  case fin =>
    rintro ⟨⟩ s' ⟨h', S', n', rfl, R', m, l, sb, k, _⟩
    exact hQ h' S' n' R' (fun k => by simpa using m k) (by simpa using l) sb k
  case turn =>
    rintro e rest ⟨⟩ s' ⟨h', S', n', rfl, R', m, l, sb, kk, g'⟩
    obtain ⟨k, tk, e1, e2⟩ := g' e List.mem_cons_self
    obtain ⟨eh, ev⟩ := e
    simp only at e1 e2
    subst e1 e2
    rw [List.length_cons] at l
    refine hf _ k tk _ _ rfl kk (fun hc => ?_) (fun hc => ?_)
    · refine setR_add_hashed (s := { s with heap := h' }) R' (by omega) fun h2 sb2 R2 => ?_
      have k2 : K { s with heap := h2 } := hK { s with heap := h' } h2 sb2 kk
      refine ⟨k2, h2, _, _, rfl, R2, fun j => ?_, ?_, sb_trans sb sb2, k2, fun e he => g' e (List.mem_cons_of_mem _ he)⟩
      · rw [← m j, List.map_cons, List.mem_cons, Bool.or_eq_true, decide_eq_true_eq]
        show ((S' j = true ∨ j = k) ∨ _) ↔ (S' j = true ∨ ((j = k ∨ _) ∧ _))
        constructor
        · rintro ((z | z) | ⟨z, z2⟩)
          · exact .inl z
          · exact .inr ⟨.inl z, z ▸ hc⟩
          · exact .inr ⟨.inr z, z2⟩
        · rintro (z | ⟨z | z, z2⟩)
          · exact .inl (.inl z)
          · exact .inl (.inr z)
          · exact .inr ⟨z, z2⟩
      · have : (if S' k = true then n' else n' + 1) ≤ n' + 1 := by split <;> omega
        omega
    · refine ⟨h', S', n', rfl, R', fun j => ?_, by omega, sb, kk, fun e he => g' e (List.mem_cons_of_mem _ he)⟩
      rw [← m j, List.map_cons, List.mem_cons]
      show (S' j = true ∨ _) ↔ (S' j = true ∨ ((j = k ∨ _) ∧ _))
      constructor
      · rintro (z | ⟨z, z2⟩)
        · exact .inl z
        · exact .inr ⟨.inr z, z2⟩
      · rintro (z | ⟨z | z, z2⟩)
        · exact .inl z
        · rw [z, hc] at z2
          cases z2
        · exact .inr ⟨z, z2⟩

theorem find_x {a : Addr} {es : Array (Int × Value)} {ep : Nat} {t : SetTable} {k : Int} {tk : Tok} {Q : Option Nat → Shared → Prop} (R : SetX w s.heap a es ep t)
    (h : ∀ i : Option Nat, (i = none ∧ k ∉ keys es ∨ ∃ j, i = some j ∧ (keys es)[j]? = some k) → Q i s) : wpAny (model P w) A (setFind a (.int k tk) (hashInt k)) Q E s := by
  have hkey : (intKind P w).is k (.int k tk) = true := intKind_is P w k tk
  have hel : ElemsOf (intKind P w) es.toList := good_elems R.good
  unfold setFind setFindIn
  refine wpAny_bind (wpAny_setState_of R.obj rfl R.fits ?_)
  dsimp only
  rw [byScan_of (x := .int k tk) rfl R.few hel]
  simp only [↓reduceIte]
  refine wpAny_bind (wpAny_rule ?_)
  refine wpAny_bind (wpAny_setScan_of (knd := intKind P w) hkey R.obj rfl R.fits hel ?_)
  cases hr : List.findIdx? (fun e => (intKind P w).is k e.2) es.toList with
  | none =>
    dsimp only
    refine wpAny_pure (h none (.inl ⟨rfl, fun z => ?_⟩))
    obtain ⟨e, he, q⟩ := (good_mem (P := P) (w := w) R.good k).1 z
    have c := List.findIdx?_eq_none_iff.mp hr e he
    rw [q] at c
    cases c
  | some j =>
    dsimp only
    obtain ⟨hj, pj, _⟩ := List.findIdx?_eq_some_iff_getElem.mp hr
    refine wpAny_pure (h (some (0 + j)) (.inr ⟨0 + j, rfl, ?_⟩))
    rw [Nat.zero_add, List.getElem?_map, List.getElem?_eq_getElem hj]
    have := (good_is (P := P) (w := w) (R.good _ (List.getElem_mem hj)) k).1 pj
    exact congrArg some this
theorem found_x {a : Addr} {es : Array (Int × Value)} {ep : Nat} {t : SetTable} {k : Int} {tk : Tok} {Q : Option Nat → Shared → Prop} (R : SetX w s.heap a es ep t)
    (h : ∀ i : Option Nat, i.isSome = decide (k ∈ keys es) → Q i s) : wpAny (model P w) A (setFind a (.int k tk) (hashInt k)) Q E s := by
  refine find_x R fun i hi => h i ?_
  rcases hi with ⟨rfl, z⟩ | ⟨j, rfl, z⟩
  · simp [z]
  · have : k ∈ keys es := List.mem_of_getElem? z
    simp [this]

/-- a & b -/
theorem and_xM {mx : Nat} (hmx : mx ≤ 4000) {id : String} {a b : Addr} {ea eb : Array (Int × Value)} {pa pb : Nat} {ta tb : SetTable} {Q : Value → Shared → Prop} (hne : b ≠ a) (RA : SetX w s.heap a ea pa ta) (RB : SetX w s.heap b eb pb tb)
    (hl : ea.size ≤ mx) (hl2 : eb.size ≤ mx)
    (hQ : ∀ h' d' S n, SetR w h' s.heap.objs.size S n → (∀ k, S k = true ↔ k ∈ keys ea ∧ k ∈ keys eb) → n ≤ mx → Old s.heap h' → Q (.ref s.heap.objs.size) { s with heap := h', drawn := d' }) :
    wpAny (model P w) A (Builtin.Frozenset.intersection id a (.ref b)) Q E s := by
  have hsb : scanBound = 4096 := rfl
  have na : a ≠ s.heap.objs.size := Nat.ne_of_lt (Heap.lt_size RA.obj)
  have nb : b ≠ s.heap.objs.size := Nat.ne_of_lt (Heap.lt_size RB.obj)
  unfold Builtin.Frozenset.intersection
  refine wp_if_neg (c := ((Value.ref b == Value.ref a) = true)) (by simpa using hne) ?_
  try refine wpAny_bind (wpAny_pure ?_)
  refine wpAny_bind (base_x (RA.ty rfl) ?_)
  refine wpAny_bind (new_x ?_)
  refine wpAny_bind (wpAny_pure ?_)
  have RA1 : SetX w (s.heap.push (newObjOf w)) a ea pa ta := RA.move fun o e => old_push _ _ _ _ e
  have RB1 : SetX w (s.heap.push (newObjOf w)) b eb pb tb := RB.move fun o e => old_push _ _ _ _ e
  have R1 := fresh_x (w := w) s.heap
  refine wpAny_bind (wpAny_holding ?_)
  refine wpAny_bind (any_x (RB1.ty rfl) ?_)
  refine wp_if_pos (c := (true = true)) rfl ?_
  refine wpAny_bind (wpAny_pure ?_)
  refine wpAny_bind (size_x (s := { s with heap := s.heap.push (newObjOf w) }) RB1 ?_)
  refine wpAny_bind (size_x (s := { s with heap := s.heap.push (newObjOf w) }) RA1 ?_)
  have key : ∀ (q v : Addr) (eq ev : Array (Int × Value)) (pq pv : Nat) (tq tv : SetTable), SetX w (s.heap.push (newObjOf w)) q eq pq tq → SetX w (s.heap.push (newObjOf w)) v ev pv tv → ev.size ≤ mx → q ≠ s.heap.objs.size → v ≠ s.heap.objs.size →
      (∀ k, k ∈ keys ev ∧ k ∈ keys eq ↔ k ∈ keys ea ∧ k ∈ keys eb) → wpAny (model P w) A (do
        let was ← setEpoch v
        for (h, x) in ← setWalkUnseen v [q, s.heap.objs.size] (some s.heap.objs.size) do
          holding [x] do
            if (← setFind q x h).isSome then
              let _ ← setAddHashed s.heap.objs.size x h
          Builtin.Frozenset.unchanged id v was) (fun _ s' => wpAny (model P w) A (pure (Value.ref s.heap.objs.size)) Q E s') E { s with heap := s.heap.push (newObjOf w) } := by
    intro q v eq ev pq pv tq tv RQ RV hv nq nv hk
    refine wpAny_bind (wpAny_setEpoch_of RV.obj rfl RV.fits ?_)
    refine wpAny_bind (unseen_x (s := { s with heap := s.heap.push (newObjOf w) }) RV (fun c hc => ?_) R1 fun ys d h2 pf tf py sb2 R2 => ?_)
    · rcases List.mem_cons.mp hc with z | z
      · exact ⟨_, _, _, z ▸ RQ⟩
      · rw [List.mem_singleton.mp z]
        exact ⟨_, _, _, R1⟩
    have RQ2 := sx_other RQ sb2 nq
    have RV2 := sx_other RV sb2 nv
    have zy := perm_size py
    refine wpAny_bind (add_some (P := P) (A := A) (E := E) (s := { s with heap := h2, drawn := d }) (r := s.heap.objs.size) (fun k => decide (k ∈ keys eq)) _ (fun s1 => SetX w s1.heap q eq pq tq ∧ SetX w s1.heap v ev pv tv) (fun s1 h' sb k => ⟨sx_other k.1 sb nq, sx_other k.2 sb nv⟩) ?hf ys
      (fun e he => RV.good e (py.mem_iff.mp he)) (R2.toR (S := fun _ => false) (fun k => by simp) rfl) (by show 0 + ys.size + 1 < scanBound; omega) ⟨RQ2, RV2⟩ ?hQ)
    case hQ =>
      intro h3 S' n' R3 m3 l3 sb3 _
      refine wpAny_pure (wpAny_pure (hQ h3 d S' n' R3 (fun k => ?_) ?_ ?_))
      · rw [m3 k, keys_perm py k, decide_eq_true_iff, ← hk k]
        simp
      · have : n' ≤ 0 + ys.size := l3
        omega
      · exact old_but (sb_trans sb2 sb3)
    case hf =>
      intro e k tk s1 Q' ee kk h1 h0
      subst ee
      dsimp only
      refine wpAny_bind (wpAny_holding ?_)
      refine wpAny_bind (found_x kk.1 fun i hi => ?_)
      by_cases c : k ∈ keys eq
      · refine wp_if_pos (by rw [hi]; exact decide_eq_true c) ?_
        refine wpAny_bind (wpAny_mono (h1 (decide_eq_true c)) (fun b s2 hs2 => ?_) fun _ _ z => z)
        refine wpAny_pure ?_
        refine wpAny_bind (unchanged_x hs2.1.2 ?_)
        exact wpAny_pure hs2.2
      · refine wp_if_neg (by rw [hi]; simpa using c) ?_
        refine wpAny_pure ?_
        refine wpAny_bind (unchanged_x kk.2 ?_)
        exact wpAny_pure (h0 (decide_eq_false c))
  by_cases c : eb.size > ea.size
  · rw [if_pos c]
    exact key b a eb ea pb pa tb ta RB1 RA1 hl nb na (fun k => Iff.rfl)
  · rw [if_neg c]
    exact key a b ea eb pa pb ta tb RA1 RB1 hl2 na nb (fun k => And.comm)
theorem and_x {id : String} {a b : Addr} {ea eb : Array (Int × Value)} {pa pb : Nat} {ta tb : SetTable} {Q : Value → Shared → Prop} (hne : b ≠ a) (RA : SetX w s.heap a ea pa ta) (RB : SetX w s.heap b eb pb tb)
    (hl : ea.size ≤ 63) (hl2 : eb.size ≤ 63)
    (hQ : ∀ h' d' S n, SetR w h' s.heap.objs.size S n → (∀ k, S k = true ↔ k ∈ keys ea ∧ k ∈ keys eb) → n ≤ 63 → Old s.heap h' → Q (.ref s.heap.objs.size) { s with heap := h', drawn := d' }) :
    wpAny (model P w) A (Builtin.Frozenset.intersection id a (.ref b)) Q E s := and_xM (by decide) hne RA RB hl hl2 hQ
end
end Cs

set_option Elab.async false
set_option linter.all false
set_option maxRecDepth 100000
set_option maxHeartbeats 1000000
namespace Cs
open PySem PySem.Spec PyProof.Rows L2
section
variable {P : Program} {w : World} {A : Around} {E : Value → Shared → Prop} {s : Shared}
theorem map_out {α β : Type} (f : α → β) : ∀ (l : List α) (i : Nat), (l.map f).eraseIdx i = (l.eraseIdx i).map f
  | [], i => by simp
  | x :: l, 0 => by simp
  | x :: l, i + 1 => by simp [map_out f l i]
/-- a | b -/
theorem union_x {id : String} {a b : Addr} {ea eb : Array (Int × Value)} {pa pb : Nat} {ta tb : SetTable} {Q : Unit → Shared → Prop} (hne : b ≠ a) (RA : SetX w s.heap a ea pa ta) (RB : SetX w s.heap b eb pb tb)
    (ha : ea.size ≠ 0 ∨ (ea = #[] ∧ ta.mask = 7 ∧ ta.dummies = #[])) (hl : (ea.size + eb.size) * 2 < 128)
    (hQ : ∀ h' d' S n, SetR w h' a S n → (∀ k, S k = true ↔ k ∈ keys ea ∨ k ∈ keys eb) → n ≤ ea.size + eb.size → Heap.SameBut a s.heap h' → Q () { s with heap := h', drawn := d' }) :
    wpAny (model P w) A (Builtin.Frozenset.updateFrom id a (.ref b)) Q E s := by
  unfold Builtin.Frozenset.updateFrom
  refine wpAny_bind (any_x (RB.ty rfl) ?_)
  refine wp_if_pos (c := (true = true)) rfl ?_
  refine wpAny_bind (wpAny_pure ?_)
  refine wpAny_bind (wpAny_setEpoch_of RB.obj rfl RB.fits ?_)
  rcases ha with ha | ⟨e0, em, ed⟩
  · refine merge_more hne RA RB ha hl (fun s' Q' k q => unchanged_x k q) fun h' d' S' n' R m l sb => ?_
    exact hQ h' d' S' n' R m l sb
  · subst e0
    have z0 : (#[] : Array (Int × Value)).size = 0 := rfl
    refine merge_fresh hne RA em ed RB (by omega) fun h' es' ep' t' X p sb => ?_
    have z := perm_size p
    exact hQ h' s.drawn _ _ (X.toR (S := fun k => decide (k ∈ keys es')) (fun k => decide_eq_true_iff) rfl) (fun k => by rw [decide_eq_true_iff, keys_perm p k]; simp) (by omega) sb

/-- what is struck out -/
theorem discard_x {a : Addr} {es : Array (Int × Value)} {ep : Nat} {t : SetTable} {k : Int} {tk : Tok} {Q : Bool → Shared → Prop} (R : SetX w s.heap a es ep t)
    (hQ : ∀ b h' es' ep' t', SetX w h' a es' ep' t' → (∀ j, j ∈ keys es' ↔ j ∈ keys es ∧ j ≠ k) → es'.size ≤ es.size → Heap.SameBut a s.heap h' → Q b { s with heap := h' }) :
    wpAny (model P w) A (setDiscardHashed a (.int k tk) (hashInt k)) Q E s := by
  unfold setDiscardHashed
  refine wpAny_bind (find_x R fun i hi => ?_)
  rcases hi with ⟨rfl, z⟩ | ⟨i, rfl, z⟩
  · exact wpAny_pure (hQ false s.heap es ep t R (fun j => ⟨fun q => ⟨q, fun e => z (e ▸ q)⟩, fun q => q.1⟩) (Nat.le_refl _) (Heap.SameBut.refl a s.heap))
  · dsimp only
    refine wpAny_bind (wpAny_setState_of R.obj rfl R.fits ?_)
    dsimp only
    have hf := R.fits
    unfold SetTable.fits SetTable.fill at hf
    rw [Bool.and_eq_true, beq_iff_eq, decide_eq_true_eq] at hf
    have hi : i < es.toList.length := by
      have := (List.getElem?_eq_some_iff.mp z).1
      rw [List.length_map] at this
      exact this
    have hi2 : i < t.place.size := by rw [hf.1, ← Array.length_toList]; exact hi
    have er : ∀ {α : Type} (xs : Array α), (SetTable.eraseAt xs i).toList = xs.toList.eraseIdx i := fun xs => by
      unfold SetTable.eraseAt
      rw [List.eraseIdx_eq_take_drop_succ]
      simp [List.extract_eq_take_drop, List.take_of_length_le]
    have ed : t.drop i = { t with place := SetTable.eraseAt t.place i, dummies := SetTable.insertAt t.dummies (SetTable.below t.dummies t.place[i]) t.place[i] } := by
      unfold SetTable.drop
      rw [Array.getElem?_eq_getElem hi2]
    have l1 : (SetTable.eraseAt es i).size + 1 = es.size := by
      rw [← Array.length_toList, er, List.length_eraseIdx, if_pos hi, Array.length_toList]
      rw [Array.length_toList] at hi
      omega
    have l2 : (SetTable.eraseAt t.place i).size + 1 = t.place.size := by
      rw [← Array.length_toList, er, List.length_eraseIdx, Array.length_toList, if_pos hi2]
      omega
    have l3 : ∀ p x, (SetTable.insertAt t.dummies p x).size = t.dummies.size + 1 := fun p x => by
      have := (SetTable.insertAt_perm t.dummies p x).length_eq
      rw [Array.length_toList, Array.length_toList, Array.size_push] at this
      exact this
    refine wpAny_bind (wpAny_storeSet_of R.obj rfl ?_ (fits_of_scanBound (by have := R.few; omega)))
    refine wpAny_bind (wpAny_point ?_)
    have ek : keys (SetTable.eraseAt es i) = (keys es).eraseIdx i := by
      show (SetTable.eraseAt es i).toList.map keyOf = _
      rw [er]
      exact (map_out keyOf es.toList i).symm
    have pk : (k :: (keys es).eraseIdx i).Perm (keys es) := erase_perm (keys es) i k z
    have nd : (k :: (keys es).eraseIdx i).Nodup := pk.nodup_iff.mpr R.nd
    refine wpAny_pure (hQ true _ _ _ _ ⟨store_at R.obj rfl, fun e he => R.good e ?_, ?_, ?_, ?_, ?_, ?_⟩ (fun j => ?_) (by omega) (Heap.SameBut.update s.heap a _))
    · rw [er] at he
      exact List.mem_of_mem_eraseIdx he
    · show (keys (SetTable.eraseAt es i)).Nodup
      rw [ek]
      exact (List.nodup_cons.mp nd).2
    · have := R.few
      omega
    · rw [ed]
      unfold SetTable.fits SetTable.fill
      rw [Bool.and_eq_true, beq_iff_eq, decide_eq_true_eq]
      simp only
      rw [l3]
      exact ⟨by omega, by omega⟩
    · rw [ed]
      show Ris (SetTable.eraseAt t.place i).toList
      rw [er]
      exact List.Pairwise.sublist (List.eraseIdx_sublist _ _) R.ris
    · rw [ed]
      exact R.led
    · rw [ek, ← (pk.mem_iff (a := j)), List.mem_cons]
      constructor
      · intro q
        exact ⟨.inr q, fun e => (List.nodup_cons.mp nd).1 (e ▸ q)⟩
      · rintro ⟨q | q, q2⟩
        · exact absurd q q2
        · exact q

theorem strike_all {r : Addr} (f : (Int × Value) → PUnit → Sem (ForInStep PUnit)) (K : Shared → Prop) (hK : ∀ s1 h', Heap.SameBut r s1.heap h' → K s1 → K { s1 with heap := h' })
    (hf : ∀ e k tk s1 Q', e = (hashInt k, Value.int k tk) → K s1 → (wpAny (model P w) A (setDiscardHashed r (.int k tk) (hashInt k)) (fun _ s2 => K s2 ∧ Q' (.yield ⟨⟩) s2) E s1) → wpAny (model P w) A (f e ⟨⟩) Q' E s1)
    (ys : Array (Int × Value)) (g : ∀ e ∈ ys.toList, GoodE e) {es : Array (Int × Value)} {ep : Nat} {t : SetTable} (R : SetX w s.heap r es ep t) (hs : K s) {Q : PUnit → Shared → Prop}
    (hQ : ∀ h' es' ep' t', SetX w h' r es' ep' t' → (∀ k, k ∈ keys es' ↔ k ∈ keys es ∧ k ∉ keys ys) → es'.size ≤ es.size → Heap.SameBut r s.heap h' → K { s with heap := h' } → Q ⟨⟩ { s with heap := h' }) :
    wpAny (model P w) A (forIn ys ⟨⟩ f) Q E s := by
  refine MeetsSeq2.wpAny_forIn_array f (fun rest _ s' => ∃ h' es' ep' t', s' = { s with heap := h' } ∧ SetX w h' r es' ep' t' ∧ (∀ k, (k ∈ keys es' ∧ k ∉ rest.map keyOf) ↔ (k ∈ keys es ∧ k ∉ keys ys)) ∧ es'.size ≤ es.size ∧
    Heap.SameBut r s.heap h' ∧ K { s with heap := h' } ∧ ∀ e ∈ rest, GoodE e) Q ?turn ?fin ys ⟨⟩ ⟨s.heap, es, ep, t, rfl, R, fun k => Iff.rfl, Nat.le_refl _, Heap.SameBut.refl r s.heap, hs, g⟩
  case fin =>
    rintro ⟨⟩ s' ⟨h', es', ep', t', rfl, R', m, l, sb, k, _⟩
    exact hQ h' es' ep' t' R' (fun k => by simpa using m k) l sb k
  case turn =>
    rintro e rest ⟨⟩ s' ⟨h', es', ep', t', rfl, R', m, l, sb, kk, g'⟩
    obtain ⟨k, tk, e1, e2⟩ := g' e List.mem_cons_self
    obtain ⟨eh, ev⟩ := e
    simp only at e1 e2
    subst e1 e2
    refine hf _ k tk _ _ rfl kk ?_
    refine discard_x (s := { s with heap := h' }) R' fun b h2 es2 ep2 t2 R2 m2 l2 sb2 => ?_
    have k2 : K { s with heap := h2 } := hK { s with heap := h' } h2 sb2 kk
    refine ⟨k2, h2, _, _, _, rfl, R2, fun j => ?_, by omega, sb_trans sb sb2, k2, fun e he => g' e (List.mem_cons_of_mem _ he)⟩
    rw [← m j, List.map_cons, List.mem_cons, m2 j]
    show ((j ∈ keys es' ∧ j ≠ k) ∧ _) ↔ (j ∈ keys es' ∧ ¬ (j = k ∨ _))
    constructor
    · rintro ⟨⟨z1, z2⟩, z3⟩
      exact ⟨z1, fun z => z.elim z2 z3⟩
    · rintro ⟨z1, z2⟩
      exact ⟨⟨z1, fun z => z2 (.inl z)⟩, fun z => z2 (.inr z)⟩

theorem tidy_x {a : Addr} {es : Array (Int × Value)} {ep : Nat} {t : SetTable} {Q : Unit → Shared → Prop} (R : SetX w s.heap a es ep t) (hl : es.size ≤ 31)
    (hQ : ∀ h' es' ep' t', SetX w h' a es' ep' t' → es'.toList.Perm es.toList → Heap.SameBut a s.heap h' → Q () { s with heap := h' }) :
    wpAny (model P w) A (setTidy a) Q E s := by
  unfold setTidy
  refine wpAny_bind (wpAny_setState_of R.obj rfl R.fits ?_)
  dsimp only
  have eg : SetTable.grown es.size = es.size * 4 := if_neg (by omega)
  split
  · rw [eg]
    exact relay_x R (by omega) (by omega) fun h' es' t' sb X p _ _ _ => hQ h' es' _ t' X p sb
  · exact wpAny_pure (hQ s.heap es ep t R (List.Perm.refl _) (Heap.SameBut.refl a s.heap))
end
end Cs

set_option Elab.async false
set_option linter.all false
set_option maxRecDepth 100000
set_option maxHeartbeats 2000000
namespace Cs
open PySem PySem.Spec PyProof.Rows L2
section
variable {P : Program} {w : World} {A : Around} {E : Value → Shared → Prop} {s : Shared}
/-- a - b -/
theorem sub_x {id : String} {a b : Addr} {ea eb : Array (Int × Value)} {pa pb : Nat} {ta tb : SetTable} {Q : Value → Shared → Prop} (hne : b ≠ a) (RA : SetX w s.heap a ea pa ta) (RB : SetX w s.heap b eb pb tb)
    (hl : ea.size ≤ 31) (hl2 : eb.size ≤ 63)
    (hQ : ∀ h' d' S n, SetR w h' s.heap.objs.size S n → (∀ k, S k = true ↔ k ∈ keys ea ∧ k ∉ keys eb) → n ≤ 31 → Old s.heap h' → Q (.ref s.heap.objs.size) { s with heap := h', drawn := d' }) :
    wpAny (model P w) A (Builtin.Frozenset.difference id a (.ref b)) Q E s := by
  have hsb : scanBound = 4096 := rfl
  have na : a ≠ s.heap.objs.size := Nat.ne_of_lt (Heap.lt_size RA.obj)
  have nb : b ≠ s.heap.objs.size := Nat.ne_of_lt (Heap.lt_size RB.obj)
  unfold Builtin.Frozenset.difference
  dsimp only
  refine wpAny_bind (any_x (RB.ty rfl) ?_)
  refine wp_if_neg (c := ((!true) = true)) (by simp) ?_
  try refine wpAny_bind (wpAny_pure ?_)
  try refine wpAny_bind (wpAny_pure ?_)
  refine wp_if_neg (c := ((!true && b == sysModules) = true)) (by simp) ?_
  try refine wpAny_bind (wpAny_pure ?_)
  refine wp_if_pos (c := (true = true)) rfl ?_
  refine wpAny_bind (size_x RB ?_)
  refine wpAny_bind (size_x RA ?_)
  by_cases c : ea.size / 4 > eb.size
  · refine wp_if_pos c ?_
    refine wpAny_bind (wpAny_rule ?_)
    refine wpAny_bind (copy_x RA (by omega) fun h1 es1 ep1 t1 X1 p1 sb1 => ?_)
    have z1 := perm_size p1
    have RB1 : SetX w h1 b eb pb tb := RB.move fun o e => old_but sb1 _ _ e
    refine wpAny_bind (wpAny_pure ?_)
    refine wpAny_bind (wpAny_holding ?_)
    unfold Builtin.Frozenset.differenceUpdate
    refine wp_if_neg (c := ((Value.ref b == Value.ref s.heap.objs.size) = true)) (by simpa using nb) ?_
    try refine wpAny_bind (wpAny_pure ?_)
    refine wpAny_bind (any_x (RB1.ty rfl) ?_)
    refine wp_if_pos (c := (true = true)) rfl ?_
    refine wpAny_bind (wpAny_pure ?_)
    dsimp only
    refine wpAny_bind (size_x (s := { s with heap := h1 }) RB1 ?_)
    refine wpAny_bind (size_x (s := { s with heap := h1 }) X1 ?_)
    refine wp_if_neg (by omega) ?_
    try refine wpAny_bind (wpAny_pure ?_)
    refine wpAny_bind (wpAny_setEpoch_of RB1.obj rfl RB1.fits ?_)
    refine wpAny_bind (wpAny_holding ?_)
    refine wpAny_bind (unseen_n (s := { s with heap := h1 }) RB1 (fun x hx => by rw [List.mem_singleton.mp hx]; exact ⟨_, _, _, X1⟩) fun ys d py => ?_)
    refine wpAny_bind (strike_all (P := P) (A := A) (E := E) (s := { s with heap := h1, drawn := d }) (r := s.heap.objs.size) _ (fun s1 => SetX w s1.heap b eb pb tb) (fun s1 h' sb k => sx_other k sb nb) ?hf ys
      (fun e he => RB.good e (py.mem_iff.mp he)) X1 RB1 ?hQ)
    case hf =>
      intro e k tk s1 Q' ee kk hwp
      subst ee
      dsimp only
      refine wpAny_bind (wpAny_holding (wpAny_mono hwp (fun b s2 hs2 => ?_) fun _ _ z => z))
      obtain ⟨k2, q2⟩ := hs2
      refine wpAny_bind (unchanged_x k2 ?_)
      exact wpAny_pure q2
    case hQ =>
      intro h2 es2 ep2 t2 X2 m2 l2 sb2 _
      refine wpAny_pure ?_
      refine tidy_x (s := { s with heap := h2, drawn := d }) X2 (by omega) fun h3 es3 ep3 t3 X3 p3 sb3 => ?_
      have z3 := perm_size p3
      refine wpAny_pure (hQ h3 d _ _ (X3.toR (S := fun k => decide (k ∈ keys es3)) (fun k => decide_eq_true_iff) rfl) (fun k => ?_) (by omega) ?_)
      · rw [decide_eq_true_iff, keys_perm p3 k, m2 k, keys_perm p1 k, keys_perm py k]
      · exact old_but (sb_trans sb1 (sb_trans sb2 sb3))
  · refine wp_if_neg c ?_
    try refine wpAny_bind (wpAny_pure ?_)
    refine wpAny_bind (base_x (RA.ty rfl) ?_)
    refine wpAny_bind (new_x ?_)
    refine wpAny_bind (wpAny_pure ?_)
    have RA1 : SetX w (s.heap.push (newObjOf w)) a ea pa ta := RA.move fun o e => old_push _ _ _ _ e
    have RB1 : SetX w (s.heap.push (newObjOf w)) b eb pb tb := RB.move fun o e => old_push _ _ _ _ e
    have R1 := fresh_x (w := w) s.heap
    refine wpAny_bind (wpAny_setEpoch_of RA1.obj rfl RA1.fits ?_)
    refine wpAny_bind (wpAny_holding ?_)
    refine wpAny_bind (wp_if_pos (c := (true = true)) rfl ?_)
    refine unseen_x (s := { s with heap := s.heap.push (newObjOf w) }) RA1 (fun x hx => ?_) R1 fun ys d h2 pf tf py sb2 R2 => ?_
    · rcases List.mem_cons.mp hx with z | z
      · exact ⟨_, _, _, z ▸ RB1⟩
      · rw [List.mem_singleton.mp z]
        exact ⟨_, _, _, R1⟩
    have RA2 := sx_other RA1 sb2 na
    have RB2 := sx_other RB1 sb2 nb
    have zy := perm_size py
    refine wpAny_bind (add_some (P := P) (A := A) (E := E) (s := { s with heap := h2, drawn := d }) (r := s.heap.objs.size) (fun k => decide (k ∉ keys eb)) _ (fun s1 => SetX w s1.heap b eb pb tb ∧ SetX w s1.heap a ea pa ta)
      (fun s1 h' sb k => ⟨sx_other k.1 sb nb, sx_other k.2 sb na⟩) ?hf ys
      (fun e he => RA.good e (py.mem_iff.mp he)) (R2.toR (S := fun _ => false) (fun k => by simp) rfl) (by show 0 + ys.size + 1 < scanBound; omega) ⟨RB2, RA2⟩ ?hQ)
    case hQ =>
      intro h3 S' n' R3 m3 l3 sb3 _
      refine wpAny_pure (wpAny_pure (hQ h3 d S' n' R3 (fun k => ?_) ?_ ?_))
      · rw [m3 k, keys_perm py k, decide_eq_true_iff]
        simp
      · have : n' ≤ 0 + ys.size := l3
        omega
      · exact old_but (sb_trans sb2 sb3)
    case hf =>
      intro e k tk s1 Q' ee kk h1 h0
      subst ee
      dsimp only
      refine wpAny_bind (wpAny_holding ?_)
      refine wp_if_pos (c := (true = true)) rfl ?_
      refine wpAny_bind (found_x kk.1 fun i hi => ?_)
      refine wpAny_bind (wpAny_pure ?_)
      try refine wpAny_bind (wpAny_pure ?_)
      by_cases c : k ∈ keys eb
      · refine wp_if_neg (by rw [hi]; simp [c]) ?_
        refine wpAny_pure ?_
        refine wpAny_bind (unchanged_x kk.2 ?_)
        exact wpAny_pure (h0 (by simp [c]))
      · refine wp_if_pos (by rw [hi]; simp [c]) ?_
        refine wpAny_bind (wpAny_mono (h1 (decide_eq_true c)) (fun b s2 hs2 => ?_) fun _ _ z => z)
        refine wpAny_pure ?_
        refine wpAny_bind (unchanged_x hs2.1.2 ?_)
        exact wpAny_pure hs2.2
end
end Cs

set_option Elab.async false
set_option linter.all false
set_option maxRecDepth 100000
set_option maxHeartbeats 2000000
namespace Cs
open PySem PySem.Spec PyProof.Rows L2
theorem entry_and : entryFor table "set.__and__" = some Builtin.«frozenset.__and__» := entryFor_alias (id' := "frozenset.__and__") (by kernel_rfl) rfl (by decide +kernel) (by kernel_rfl)
theorem entry_or : entryFor table "set.__or__" = some Builtin.«frozenset.__or__» := entryFor_alias (id' := "frozenset.__or__") (by kernel_rfl) rfl (by decide +kernel) (by kernel_rfl)
theorem entry_sub : entryFor table "set.__sub__" = some Builtin.«frozenset.__sub__» := entryFor_alias (id' := "frozenset.__sub__") (by kernel_rfl) rfl (by decide +kernel) (by kernel_rfl)
end Cs

set_option Elab.async false
set_option linter.all false
set_option maxRecDepth 100000
set_option maxHeartbeats 2000000
namespace Cs
open PySem PySem.Spec PyProof.Rows L2
section
variable {P : Program} {w : World} {A : Around} {E : Value → Shared → Prop} {s : Shared}
theorem slot1_x {name : String} {v u : Value} {Q : Value × Value → Shared → Prop} (q : Q (v, u) s) : wpAny (model P w) A (Builtin.Frozenset.slot1 name ⟨[v, u], []⟩) Q E s := by
  unfold Builtin.Frozenset.slot1 slotArgs
  exact wpAny_pure q
theorem op_and_xM {mx : Nat} (hmx : mx ≤ 4000) {a b : Addr} {SA SB : Int → Bool} {na nb : Nat} {Q : Value → Shared → Prop} (hne : b ≠ a) (RA : SetR w s.heap a SA na) (RB : SetR w s.heap b SB nb) (hl : na ≤ mx) (hl2 : nb ≤ mx)
    (hQ : ∀ h' d' S n, SetR w h' s.heap.objs.size S n → (∀ k, S k = true ↔ SA k = true ∧ SB k = true) → n ≤ mx → Old s.heap h' → Q (.ref s.heap.objs.size) { s with heap := h', drawn := d' }) :
    wpAny (model P w) A (binaryOp .BitAnd (.ref a) (.ref b)) Q E s := by
  obtain ⟨ea, pa, ta, XA, mA, zA⟩ := xOf RA
  obtain ⟨eb, pb, tb, XB, mB, zB⟩ := xOf RB
  have TA : s.TypeIs (.ref a) "set" := XA.ty rfl
  have TB : s.TypeIs (.ref b) "set" := XB.ty rfl
  refine wpAny_binaryOp_same (op := .BitAnd) TA TB F.fills_set_and F.slot_set_and ?_
  refine wpAny_call_entry F.slot_set_and TA entry_and ?_ (F.args_set_and_2 _ _)
  refine wpAny_bind (slot1_x ?_)
  dsimp only
  refine wpAny_bind (wpAny_bind (any_x TA ?_))
  show wpAny _ _ (Builtin.Frozenset.isAnySet (.ref b)) _ _ _
  refine any_x TB ?_
  refine wp_if_neg (c := ((!true) = true)) (by simp) ?_
  refine wpAny_bind (wpAny_pure ?_)
  refine wpAny_bind (and_xM hmx hne XA XB (by omega) (by omega) fun h' d' S n R m l o => ?_)
  refine wpAny_pure ⟨_, rfl, (fun z => nomatch z), hQ h' d' S n R (fun k => ?_) l o⟩
  rw [m k, mA k, mB k]
theorem op_and_x {a b : Addr} {SA SB : Int → Bool} {na nb : Nat} {Q : Value → Shared → Prop} (hne : b ≠ a) (RA : SetR w s.heap a SA na) (RB : SetR w s.heap b SB nb) (hl : na ≤ 63) (hl2 : nb ≤ 63)
    (hQ : ∀ h' d' S n, SetR w h' s.heap.objs.size S n → (∀ k, S k = true ↔ SA k = true ∧ SB k = true) → n ≤ 63 → Old s.heap h' → Q (.ref s.heap.objs.size) { s with heap := h', drawn := d' }) :
    wpAny (model P w) A (binaryOp .BitAnd (.ref a) (.ref b)) Q E s := op_and_xM (by decide) hne RA RB hl hl2 hQ
theorem op_or_x {a b : Addr} {SA SB : Int → Bool} {na nb : Nat} {Q : Value → Shared → Prop} (hne : b ≠ a) (RA : SetR w s.heap a SA na) (RB : SetR w s.heap b SB nb) (hl : na + nb ≤ 63)
    (hQ : ∀ h' d' S n, SetR w h' s.heap.objs.size S n → (∀ k, S k = true ↔ SA k = true ∨ SB k = true) → n ≤ na + nb → Old s.heap h' → Q (.ref s.heap.objs.size) { s with heap := h', drawn := d' }) :
    wpAny (model P w) A (binaryOp .BitOr (.ref a) (.ref b)) Q E s := by
  obtain ⟨ea, pa, ta, XA, mA, zA⟩ := xOf RA
  obtain ⟨eb, pb, tb, XB, mB, zB⟩ := xOf RB
  have TA : s.TypeIs (.ref a) "set" := XA.ty rfl
  have TB : s.TypeIs (.ref b) "set" := XB.ty rfl
  have hbs : b ≠ s.heap.objs.size := Nat.ne_of_lt (Heap.lt_size XB.obj)
  refine wpAny_binaryOp_same (op := .BitOr) TA TB F.fills_set_or F.slot_set_or ?_
  refine wpAny_call_entry F.slot_set_or TA entry_or ?_ (F.args_set_or_2 _ _)
  refine wpAny_bind (slot1_x ?_)
  dsimp only
  refine wpAny_bind (wpAny_bind (any_x TA ?_))
  show wpAny _ _ (Builtin.Frozenset.isAnySet (.ref b)) _ _ _
  refine any_x TB ?_
  refine wp_if_neg (c := ((!true) = true)) (by simp) ?_
  refine wpAny_bind (wpAny_pure ?_)
  refine wpAny_bind ?_
  by_cases he : ea = #[]
  · subst he
    refine wpAny_bind (m := Builtin.Frozenset.copyOf a) ?_
    unfold Builtin.Frozenset.copyOf
    refine wpAny_bind (base_x TA ?_)
    refine wpAny_bind (new_x ?_)
    refine wpAny_bind (wpAny_pure ?_)
    have hae : a ≠ s.heap.objs.size := Nat.ne_of_lt (Heap.lt_size XA.obj)
    have XA1 : SetX w (s.heap.push (newObjOf w)) a #[] pa ta := XA.move fun o e => old_push _ _ _ _ e
    have XB1 : SetX w (s.heap.push (newObjOf w)) b eb pb tb := XB.move fun o e => old_push _ _ _ _ e
    refine wpAny_bind ?_
    unfold setMerge
    refine wp_if_neg (c := (s.heap.objs.size == a) = true) (by simpa using hae.symm) ?_
    try refine wpAny_bind (wpAny_pure ?_)
    refine wpAny_bind (wpAny_setState_of XA1.obj rfl XA1.fits ?_)
    dsimp only
    refine wp_if_pos (c := (#[] : Array (Int × Value)).isEmpty = true) rfl ?_
    refine wpAny_pure (wpAny_pure ?_)
    refine wp_if_pos (c := ((Value.ref b != Value.ref a) = true)) (by simpa using hne) ?_
    refine wpAny_bind (wpAny_pure ?_)
    have z0 : (#[] : Array (Int × Value)).size = 0 := rfl
    refine wpAny_bind (wpAny_holding (union_x (s := { s with heap := s.heap.push (newObjOf w) }) hbs (fresh_x s.heap) XB1 (.inr ⟨rfl, rfl, rfl⟩) (by omega) fun h' d' S n R m l sb => ?_))
    refine wpAny_pure (wpAny_pure ⟨_, rfl, (fun z => nomatch z), hQ h' d' S n R (fun k => ?_) (by omega) (old_but sb)⟩)
    rw [m k, mA k, mB k]
  · have hz : ea.size ≠ 0 := fun z => he (by simpa using z)
    refine wpAny_bind (m := Builtin.Frozenset.copyOf a) (copy_x XA (by omega) fun h1 es1 ep1 t1 X1 p1 sb1 => ?_)
    have z1 := perm_size p1
    have XB1 : SetX w h1 b eb pb tb := XB.move fun o e => old_but sb1 _ _ e
    refine wp_if_pos (c := ((Value.ref b != Value.ref a) = true)) (by simpa using hne) ?_
    refine wpAny_bind (wpAny_pure ?_)
    refine wpAny_bind (wpAny_holding (union_x (s := { s with heap := h1 }) hbs X1 XB1 (.inl (by omega)) (by omega) fun h' d' S n R m l sb => ?_))
    refine wpAny_pure (wpAny_pure ⟨_, rfl, (fun z => nomatch z), hQ h' d' S n R (fun k => ?_) (by omega) (old_but (sb_trans sb1 sb))⟩)
    rw [m k, keys_perm p1 k, mA k, mB k]
theorem op_sub_x {a b : Addr} {SA SB : Int → Bool} {na nb : Nat} {Q : Value → Shared → Prop} (hne : b ≠ a) (RA : SetR w s.heap a SA na) (RB : SetR w s.heap b SB nb) (hl : na ≤ 31) (hl2 : nb ≤ 63)
    (hQ : ∀ h' d' S n, SetR w h' s.heap.objs.size S n → (∀ k, S k = true ↔ SA k = true ∧ SB k = false) → n ≤ 31 → Old s.heap h' → Q (.ref s.heap.objs.size) { s with heap := h', drawn := d' }) :
    wpAny (model P w) A (binaryOp .Sub (.ref a) (.ref b)) Q E s := by
  obtain ⟨ea, pa, ta, XA, mA, zA⟩ := xOf RA
  obtain ⟨eb, pb, tb, XB, mB, zB⟩ := xOf RB
  have TA : s.TypeIs (.ref a) "set" := XA.ty rfl
  have TB : s.TypeIs (.ref b) "set" := XB.ty rfl
  refine wpAny_binaryOp_same (op := .Sub) TA TB F.fills_set_sub F.slot_set_sub ?_
  refine wpAny_call_entry F.slot_set_sub TA entry_sub ?_ (F.args_set_sub_2 _ _)
  refine wpAny_bind (slot1_x ?_)
  dsimp only
  refine wpAny_bind (wpAny_bind (any_x TA ?_))
  show wpAny _ _ (Builtin.Frozenset.isAnySet (.ref b)) _ _ _
  refine any_x TB ?_
  refine wp_if_neg (c := ((!true) = true)) (by simp) ?_
  refine wpAny_bind (wpAny_pure ?_)
  refine wpAny_bind (sub_x hne XA XB (by omega) (by omega) fun h' d' S n R m l o => ?_)
  refine wpAny_pure ⟨_, rfl, (fun z => nomatch z), hQ h' d' S n R (fun k => ?_) l o⟩
  rw [m k, mA k, ← mB k]
  simp
end
end Cs

set_option Elab.async false
set_option linter.all false
set_option maxRecDepth 100000
set_option maxHeartbeats 3200000
namespace Cs
open PySem PySem.Spec PyProof.Rows L2
section
variable {P : Program} {w : World} {A : Around} {E : Value → Shared → Prop} {s : Shared}
/-- set(l), l a list of ints: made empty, then its items one by one -/
theorem set_of_list {l : Addr} {items : Array Value} (ns : List Int) {Q : Value → Shared → Prop} (quiet : A.handled = none) (isl : s.heap.IsList l items) (hints : IntsAre items.toList ns) (room : ns.length + 1 < scanBound)
    (fin : ∀ (h' : Heap) (tk c : Nat), SetR w h' s.heap.objs.size (fun j => decide (j ∈ ns)) c → c ≤ ns.length → Old s.heap h' → Q (.ref s.heap.objs.size) { s with heap := h', toks := tk }) :
    wpAny (model P w) A (call (.type "set") [.ref l]) Q E s := by
  have many : items.size = ns.length := (Array.length_toList (xs := items)).symm.trans (IntsAre.length hints)
  have cs := F.called_set
  obtain ⟨mc, mt, mro⟩ := cs.mro
  have made := cs.made
  have under := cs.sub
  refine wpAny_call (codeAny_of_tree ?_)
  show wpAny _ _ (callAny (.type "set") ⟨[.ref l], []⟩) _ _ _
  refine wpAny_pure ⟨Code.quiet_builtin _ (by decide +kernel), ?_⟩
  refine codeAny_builtin F.entry_type_call ?_
  rw [Around.under_plain (weight_type_call_type "set" [Value.ref l] []) rfl]
  have k1 := cs.notType
  have k2 := cs.canCreate
  have k3 := F.typeCall_set_1 (.ref l)
  repeat (any_goals (first | assumption | wp_step))
  refine codeAny_mono (code_set_led1 (.ref l) (E := E) (Q₁ := fun o z => o = .ref s.heap.objs.size ∧ z = { s with heap := s.heap.push (newObjOf w) }) ⟨rfl, rfl⟩) fun r z hz => ?_
  cases r with
  | error e => exact hz
  | ok fl =>
    cases fl with
    | ret o =>
      obtain ⟨rfl, rfl⟩ := hz
      have here : (s.heap.push (newObjOf w)).get? s.heap.objs.size = some (newObjOf w) := Heap.get?_push_size _ rfl
      have ty : Shared.TypeIs { s with heap := s.heap.push (newObjOf w) } (.ref s.heap.objs.size) "set" := ⟨_, here, rfl⟩
      have k4 := cs.init.lookup
      have k5 := cs.init.bind (.ref s.heap.objs.size)
      repeat (any_goals (first | assumption | wp_step))
      refine codeAny_mono (codeAny_call_builtin (R := wants (fun r y => r = .none ∧ ∃ h' tk c, y = { s with heap := h', toks := tk } ∧ SetR w h' s.heap.objs.size (fun j => decide (j ∈ ns)) c ∧ c ≤ ns.length ∧ Old s.heap h') E)
        cs.init.plain F.entry_set_init (check_set_init_1 ty ?_)) fun r2 y hy => ?_
      · obtain ⟨⟨oc, od, oda, osl⟩, lo, lc, ln, ld⟩ := isl
        simp only at lc ld
        subst lc ld
        have isl2 : (s.heap.push (newObjOf w)).IsList l items := ⟨_, Heap.get?_push_of_some _ lo, rfl, ln, rfl⟩
        have ll : l < s.heap.objs.size := Heap.lt_size lo
        have isl3 := Heap.get?_push_of_some (newObjOf w) lo
        have n1 := PySem.F.sub_list_set
        have n2 := PySem.F.sub_list_frozenset
        have n3 : (Value.type "list" == Value.type "dict") = false := by decide
        unfold Builtin.«set.__init__» noKeywords Builtin.Frozenset.updateFrom
        generalize hp : pyIter = iterOf
        wp_walk
        subst hp
        refine wpAny_pyIter_list isl2 ?_
        refine wpAny_bind (wpAny_runValue ?_)
        have q3 : A.in1.in1.in1.handled = none := by simp [quiet]
        have sz : (s.heap.push (newObjOf w)).objs.size = s.heap.objs.size + 1 := Heap.size_push ..
        have apart : l ≠ (s.heap.push (newObjOf w)).objs.size := by
          rw [sz]
          exact Nat.ne_of_lt (Nat.lt_succ_of_lt ll)
        have away : s.heap.objs.size ∉ [(s.heap.push (newObjOf w)).objs.size, l] := by
          rw [sz]
          simp only [List.mem_cons, List.not_mem_nil, or_false, not_or]
          exact ⟨Nat.ne_of_lt (Nat.lt_succ_self _), Nat.ne_of_gt ll⟩
        have val : ∀ (i : Nat) (v : Value), items[i]? = some v → ∃ k t, ns[i]? = some k ∧ v = .int k t := fun i v hv => by
          have hi : i < ns.length := by rw [← many]; exact (Array.getElem?_eq_some_iff.mp hv).1
          obtain ⟨t, e⟩ := IntsAre.int_at hints i v (by rw [Array.getElem?_toList]; exact hv)
          exact ⟨ns[i], t, List.getElem?_eq_getElem hi, by rw [e, List.getD_eq_getElem?_getD, List.getElem?_eq_getElem hi] <;> rfl⟩
        refine set_update_ints ((Walks.list q3 _ l apart items).toS) s.heap.objs.size away ns many room val (items.size - 0) 0 _ (by omega) (Nat.zero_le _) ⟨⟨_, Heap.get?_push_size _ rfl, rfl, rfl⟩, (isl2.push _)⟩ ?start ?stop
        case start => exact ⟨0, Nat.le_refl 0, setR_new_at (Heap.get?_push_of_some _ here)⟩
        case stop =>
          intro s2 c2 hm hc hS
          obtain ⟨h2, g2, d2, t2, o2⟩ := s2
          have eg : g2 = s.gens := hm.gens
          have ed : d2 = s.drawn := hm.drawn
          have eo : o2 = s.os := hm.os
          subst eg ed eo
          show wpAny _ _ _ _ _ _
          refine wpAny_pure ?_
          show wpAny _ _ (ret Value.none) _ _ _
          refine wpAny_pure ⟨rfl, h2, t2, c2, rfl, hS, by omega, fun b u e => ?_⟩
          have hb := Heap.lt_size e
          refine hm.heap b u ?_ (Heap.get?_push_of_some _ (Heap.get?_push_of_some _ e))
          rw [sz]
          simp only [List.mem_cons, List.not_mem_nil, or_false, not_or]
          exact ⟨Nat.ne_of_lt hb, Nat.ne_of_lt (Nat.lt_succ_of_lt hb)⟩
      · cases r2 with
        | error e => exact hy
        | ok f2 =>
          cases f2 with
          | ret r =>
            obtain ⟨rfl, h', tk, c, rfl, hS, hc, old⟩ := hy
            repeat (any_goals (first | assumption | wp_step))
            exact fin h' tk c hS hc old
          | _ => exact hy.elim
    | _ => exact hz.elim
end
end Cs

set_option Elab.async false
set_option linter.all false
set_option maxRecDepth 100000
set_option maxHeartbeats 2000000
namespace Cs
open PySem PySem.Spec PyProof.Rows L2
section
variable {X : Cx}
/-- set(l) -/
def rSetI (K : PySem.W.Frag) (w : World) : List V → Hp → VK → Prop := fun xs H Q => ∃ (l : Addr) (ns : List Int), xs = [V.ref l] ∧ SqL K H l (ns.map V.int) ∧ ns.length ≤ 4000 ∧
  ∀ (p : Addr) (c : Nat), H p = none → c ≤ ns.length → Q (.ref p) (upd H p (SetO w p (fun j => decide (j ∈ ns)) c))
theorem cr_setI (hc : X.calm = true) : CallR X (.type "set") (rSetI X.K X.w) := by
  intro pins s σ H xs us Q I r h
  obtain ⟨l, ns, rfl, hq, hl, q⟩ := h
  rw [Vals.ref1 r]
  obtain ⟨its, rv, pl, hz⟩ := I.list hq
  refine set_of_list ns (I.ok.hd hc) pl.isList (by simpa using ints_of_vals rv) (by have : scanBound = 4096 := rfl; omega) fun h' tk c hS hcn old => ?_
  exact ⟨.ref _, upd H s.heap.objs.size (SetO X.w s.heap.objs.size (fun j => decide (j ∈ ns)) c), I.laid (t' := tk) old (Nat.le_refl _) (setO_new hS), rfl, q _ c (I.hok.fresh (Nat.le_refl _)) hcn⟩
theorem laidD {pins : List (Addr × Obj)} {σ : L2.St} {H : Hp} {s : Shared} {h' : Heap} {d' : Drawn} {S : Int → Bool} {n : Nat} (I : Inv X pins σ H s) (old : Old s.heap h') (R : SetR X.w h' s.heap.objs.size S n) :
    Inv X pins σ (upd H s.heap.objs.size (SetO X.w s.heap.objs.size S n)) { s with heap := h', drawn := d' } :=
  I.call (ch := []) (g' := s.gens) (t' := s.toks) (Un.laid old (Nat.le_refl _) (I.hok.fresh (Nat.le_refl _))) (I.hok.laid old (Nat.le_refl _) (setO_new R)) I.bare (fun _ z => nomatch z)
/-- a & b, a | b, a - b of two sets of ints -/
def rSetOp (w : World) (most : Nat → Nat → Prop) (mem : (Int → Bool) → (Int → Bool) → Int → Prop) : V → V → Hp → VK → Prop := fun x y H Q => ∃ (a b : Addr) (SA SB : Int → Bool) (na nb : Nat), x = V.ref a ∧ y = V.ref b ∧ b ≠ a ∧
  H a = some (SetO w a SA na) ∧ H b = some (SetO w b SB nb) ∧ most na nb ∧
  ∀ (p : Addr) (S : Int → Bool) (n : Nat), H p = none → (∀ k, S k = true ↔ mem SA SB k) → n ≤ 63 → Q (.ref p) (upd H p (SetO w p S n))
abbrev mAnd : Nat → Nat → Prop := fun na nb => na ≤ 63 ∧ nb ≤ 63
abbrev mOr : Nat → Nat → Prop := fun na nb => na + nb ≤ 63
abbrev mSub : Nat → Nat → Prop := fun na nb => na ≤ 31 ∧ nb ≤ 63
abbrev eAnd : (Int → Bool) → (Int → Bool) → Int → Prop := fun A B k => A k = true ∧ B k = true
abbrev eOr : (Int → Bool) → (Int → Bool) → Int → Prop := fun A B k => A k = true ∨ B k = true
abbrev eSub : (Int → Bool) → (Int → Bool) → Int → Prop := fun A B k => A k = true ∧ B k = false
theorem op_sand : OpR X (binaryOp .BitAnd) (rSetOp X.w mAnd eAnd) := by
  intro pins s σ H x y v u Q I rx ry h
  obtain ⟨a, b, SA, SB, na, nb, rfl, rfl, hne, ha, hb, hm, q⟩ := h
  cases rx
  cases ry
  exact op_and_x hne (setO_get I ha) (setO_get I hb) hm.1 hm.2 fun h' d' S n R m l old => ⟨.ref _, _, laidD I old R, rfl, q _ S n (I.hok.fresh (Nat.le_refl _)) m l⟩
/-- a & b of any size -/
def rSandN (w : World) : V → V → Hp → VK → Prop := fun x y H Q => ∃ (a b : Addr) (SA SB : Int → Bool) (na nb : Nat), x = V.ref a ∧ y = V.ref b ∧ b ≠ a ∧
  H a = some (SetO w a SA na) ∧ H b = some (SetO w b SB nb) ∧ na ≤ 4000 ∧ nb ≤ 4000 ∧
  ∀ (p : Addr) (S : Int → Bool) (n : Nat), H p = none → (∀ k, S k = true ↔ eAnd SA SB k) → n ≤ 4000 → Q (.ref p) (upd H p (SetO w p S n))
theorem op_sandN : OpR X (binaryOp .BitAnd) (rSandN X.w) := by
  intro pins s σ H x y v u Q I rx ry h
  obtain ⟨a, b, SA, SB, na, nb, rfl, rfl, hne, ha, hb, h1, h2, q⟩ := h
  cases rx
  cases ry
  exact op_and_xM (Nat.le_refl _) hne (setO_get I ha) (setO_get I hb) h1 h2 fun h' d' S n R m l old => ⟨.ref _, _, laidD I old R, rfl, q _ S n (I.hok.fresh (Nat.le_refl _)) m l⟩
theorem op_sor : OpR X (binaryOp .BitOr) (rSetOp X.w mOr eOr) := by
  intro pins s σ H x y v u Q I rx ry h
  obtain ⟨a, b, SA, SB, na, nb, rfl, rfl, hne, ha, hb, hm, q⟩ := h
  cases rx
  cases ry
  have hm' : na + nb ≤ 63 := hm
  exact op_or_x hne (setO_get I ha) (setO_get I hb) hm fun h' d' S n R m l old => ⟨.ref _, _, laidD I old R, rfl, q _ S n (I.hok.fresh (Nat.le_refl _)) m (by omega)⟩
theorem op_ssub : OpR X (binaryOp .Sub) (rSetOp X.w mSub eSub) := by
  intro pins s σ H x y v u Q I rx ry h
  obtain ⟨a, b, SA, SB, na, nb, rfl, rfl, hne, ha, hb, hm, q⟩ := h
  cases rx
  cases ry
  exact op_sub_x hne (setO_get I ha) (setO_get I hb) hm.1 hm.2 fun h' d' S n R m l old => ⟨.ref _, _, laidD I old R, rfl, q _ S n (I.hok.fresh (Nat.le_refl _)) m (by omega)⟩
/-- len(s) of a set of ints: none where it has no members -/
def rLenSet (w : World) : List V → Hp → VK → Prop := fun xs H Q => ∃ (a : Addr) (S : Int → Bool) (n : Nat), xs = [V.ref a] ∧ H a = some (SetO w a S n) ∧ (∀ c : Nat, (c = 0 ↔ ∀ k, S k = false) → Q (.int (c : Int)) H)
theorem call_len_sI : CallR X (.builtin "len") (rLenSet X.w) := by
  intro pins s σ H xs us Q I r h
  obtain ⟨a, S, n, rfl, ha, q⟩ := h
  rw [Vals.ref1 r]
  obtain ⟨es, ep, t, R, m, hn⟩ := xOf (setO_get I ha)
  refine call_len_set R.obj ⟨rfl, rfl, rfl⟩ rfl R.fits (by have := R.few; have : scanBound = 4096 := rfl; omega) ⟨.int (es.size : Nat), H, I.tok _, ⟨_, rfl⟩, q _ ?_⟩
  constructor
  · intro z k
    have e : es = #[] := by simpa using z
    subst e
    cases c : S k with
    | false => rfl
    | true => exact absurd ((m k).1 c) (by simp)
  · intro z
    cases c : es.toList with
    | nil =>
      rw [← Array.length_toList, c]
      rfl
    | cons e r =>
      have : S (keyOf e) = true := (m _).2 (by rw [c]; simp)
      rw [z] at this
      cases this
end
end Cs

set_option Elab.async false
set_option linter.all false
set_option maxRecDepth 100000
set_option maxHeartbeats 2000000
/-! != of two lists whose items are equal, deep -/
namespace Cs
open PySem PySem.Spec PyProof.Rows L2
open AutoSeq1 (wpAny_loadPart')
open MeetsSeq MeetsSeq2 MeetsSeq3 SeqRoads2 SeqAt
section
variable {prog : Program} {w : World}
abbrev seqO (us : Array Value) (n : Nat) (dd : Option Addr) (sl : Array (Option Value)) : Obj := { cls := .type "list", dict := dd, data := .seq us n, slots := sl }
abbrev AllP (prog : Program) (w : World) (A : Around) (s : Shared) (us ws : Array Value) : Prop := ∀ j (h1 : j < us.size) (h2 : j < ws.size), EqP prog w A s us[j] ws[j] true
theorem ne_stepP (a c : Addr) (us ws : Array Value) (n m : Nat) (d1 d2 : Option Addr) (s1 s2 : Array (Option Value)) (eq : us.size = ws.size) :
    ∀ (k i : Nat), us.size - i = k → MeetsIn prog w (Builtin.«list.__eq__.loop» ⟨[.ref a, .ref c, rawInt i, rawInt 3], []⟩)
      (fun A R s => s.heap.get? a = some (seqO us n d1 s1) ∧ s.heap.get? c = some (seqO ws m d2 s2) ∧ AllP prog w A.in1 s us ws ∧ R (.ok (.ret (.bool false))) s) := by
  intro k
  induction k with
  | zero =>
    intro i le A R s h
    obtain ⟨hp, g, d, tk, os⟩ := s
    obtain ⟨ha, hc, _, q⟩ := h
    wp_walk using wpAny_loadPart' ha, wpAny_loadPart' hc
    rw [show us[((i : Nat) : Int).toNat]? = none by simp; omega, show ws[((i : Nat) : Int).toNat]? = none by simp; omega]
    wp_walk using wpAny_loadPart' ha, wpAny_loadPart' hc
    show R (.ok (.ret (.bool (us.size != ws.size)))) _
    rw [eq]
    simpa using q
  | succ k ih =>
    intro i le A R s h
    obtain ⟨hp, g, d, tk, os⟩ := s
    obtain ⟨ha, hc, al, q⟩ := h
    have i1 : i < us.size := by omega
    have i2 : i < ws.size := by omega
    wp_walk using wpAny_loadPart' ha, wpAny_loadPart' hc
    rw [show us[((i : Nat) : Int).toNat]? = some us[i] by simp [i1], show ws[((i : Nat) : Int).toNat]? = some ws[i] by simp [i2]]
    refine wpAny_bind (al i i1 i2 _ _ ?_)
    wp_walk
    rw [show ((i : Int) + 1) = ((i + 1 : Nat) : Int) by push_cast; rfl]
    refine ⟨plainId_quiet plain_eq_loop _, codeAny_builtin entry_eq_loop ?_⟩
    rw [Around.under_plainId plain_eq_loop _]
    exact ih (i + 1) (by omega) A R _ ⟨ha, hc, al, q⟩
theorem ne_listP (a c : Addr) (us ws : Array Value) (n m : Nat) (d1 d2 : Option Addr) (s1 s2 : Array (Option Value)) (eq : us.size = ws.size) :
    MeetsIn prog w (Builtin.«list.__ne__» ⟨[.ref a, .ref c], []⟩)
      (fun A R s => s.heap.get? a = some (seqO us n d1 s1) ∧ s.heap.get? c = some (seqO ws m d2 s2) ∧ AllP prog w A.in1 s us ws ∧ R (.ok (.ret (.bool false))) s) := by
  intro A R s h
  obtain ⟨hp, g, d, tk, os⟩ := s
  obtain ⟨ha, hc, al, q⟩ := h
  have sub := AutoSeq1.sub_list_list
  have same : ¬ (us.size != ws.size) = true := by simp [eq]
  wp_walk using wpAny_loadPart' ha, wpAny_loadPart' hc
  refine ⟨plainId_quiet plain_eq_loop _, codeAny_builtin entry_eq_loop ?_⟩
  rw [Around.under_plainId plain_eq_loop _]
  exact ne_stepP a c us ws n m d1 d2 s1 s2 eq _ 0 rfl A R _ ⟨ha, hc, al, q⟩
theorem rc_neP {A : Around} {s : Shared} {a c : Addr} {us ws : Array Value} (ha : s.heap.IsList a us) (hc : s.heap.IsList c ws) (eq : us.size = ws.size) (hu : A.units < cLine)
    (al : AllP prog w A.in1 s us ws) (E Q : Value → Shared → Prop) (q : Q (.bool false) s) : wpAny (model prog w) A (richCompare .NotEq (.ref a) (.ref c)) Q E s := by
  obtain ⟨⟨c1, d1, x1, s1⟩, o1, e1, n, f1⟩ := id ha
  obtain ⟨⟨c2, d2, x2, s2⟩, o2, e2, m, f2⟩ := id hc
  simp only at e1 f1 e2 f2
  subst e1 f1 e2 f2
  have ta : s.TypeIs (.ref a) "list" := ⟨_, o1, rfl⟩
  have tc : s.TypeIs (.ref c) "list" := ⟨_, o2, rfl⟩
  exact wpAny_richCompare_same_room (op := .NotEq) ta tc F.slot_list_ne (call_meetsIn F.slot_list_ne ta F.entry_list_ne (F.args_list_ne_2 _ _) (ne_listP a c us ws n m d1 d2 s1 s2 eq)
    ⟨o1, o2, al, show Value.bool false ≠ Value.notImplemented ∧ Q (.bool false) s from ⟨(fun x => nomatch x), q⟩⟩) hu
end
section
variable {X : Cx}
/-- a != b, two lists that are equal -/
def rNeV (K : PySem.W.Frag) : R2 := fun x y H Q => ∃ a b xs ys, x = .ref a ∧ y = .ref b ∧ SqL K H a xs ∧ SqL K H b ys ∧ (∃ n, n ≤ 60 ∧ Paired (EqV K H n) xs ys) ∧ Q (.bl false) H
theorem op_neV (hu : X.A.units + 64 < cLine) : OpR X (compareOp .NotEq) (rNeV X.K) := by
  intro pins s σ H x y v u Q I rx ry h
  obtain ⟨a, b, xs, ys, rfl, rfl, ha, hb, ⟨n, hn, hp⟩, q⟩ := h
  cases (show v = Value.ref a from rx)
  cases (show u = Value.ref b from ry)
  obtain ⟨us, r1, p1, _⟩ := I.list ha
  obtain ⟨ws, r2, p2, _⟩ := I.list hb
  have hsz : us.toArray.size = ws.toArray.size := by
    rw [List.size_toArray, List.size_toArray, ← r1.length, ← r2.length]
    exact Paired.length hp
  refine rc_neP p1.isList p2.isList hsz (by omega) (fun j h1 h2 => ?_) _ _ ⟨.bl false, H, I, rfl, q⟩
  have k := items_run (eqV_run I n X.A.in1 (by show X.A.units + 1 + n < cLine; omega)) hp r1 r2 j (by simpa using h1) (by simpa using h2)
  simpa using k
end
end Cs

set_option Elab.async false
set_option linter.all false
set_option maxRecDepth 100000
set_option maxHeartbeats 4000000
/-! Sets of keys by a comprehension: {x for .. in ..}, the members ints or texts. -/
namespace Cs
open PySem PySem.Spec PyProof.Rows L2 PpSet
section
variable {X : Cx}
abbrev noK : Key → Bool := fun _ => false
abbrev withK (S : Key → Bool) (k : Key) : Key → Bool := fun j => S j || decide (j = k)
/-- one member more -/
theorem addK {pins : List (Addr × Obj)} {σ : L2.St} {H : Hp} {s : Shared} {E : Value → Shared → Prop} {D : Addr} {S : Key → Bool} {n : Nat} {k : Key} {u : Value} {Q : Value → Shared → Prop} (I : Inv X pins σ H s) (at_ : H D = some (SetK X.prog X.w D S n)) (few : n + 1 < scanBound) (r : RelV (kV k) u)
    (q : ∀ s', Inv X pins σ (upd H D (SetK X.prog X.w D (withK S k) (if S k = true then n else n + 1))) s' → Q .none s') : wpAny (model X.prog X.w) X.A (call (.builtin "set.add") [.ref D, u]) Q E s :=
  call_set_add (kV_is r) (key_scan r) (setK_get I at_) few fun h' sb new => q _ (I.write (e := D) (t' := s.toks + 1) (by rw [at_]; trivial) (.inl rfl) (fun b o hb ho => (sb.2 b hb).trans ho) (let ⟨o, _, _, _, ho, _⟩ := new; ⟨o, ho⟩) (setK_new new))
/-- what a comprehension asks: its walk, and a set that grows -/
def tScK (P : Program) (w : World) (wi : TI) (g : TG) (tt : TT) (te : TE) (vs : List Nat) : TE := fun σ H Q => wi σ H fun J H1 => ∀ D, H1 D = none → ∃ W : Nat → Nat → Hp → Prop, (∃ m, W 0 m (upd H1 D (SetK P w D noK 0))) ∧ ∀ i m H, W i m H →
  (J.stop i H ∧ Q (.ref D) H) ∨ (J.go i H ∧ ∃ Nx : Hp → Prop, (∀ H', Nx H' → ∃ m', m' < m ∧ W (i + 1) m' H') ∧ ∀ x H', J.yld i H x H' → g x (wipe σ vs) H' fun σ2 H2 => wipe σ2 vs = wipe σ vs ∧ tt σ2 H2 fun b H3 =>
    if b = true then te σ2 H3 fun y H4 => ∃ (k : Key) (S : Key → Bool) (n : Nat), y = kV k ∧ H4 D = some (SetK P w D S n) ∧ n + 1 < scanBound ∧ Nx (upd H4 D (SetK P w D (withK S k) (if S k = true then n else n + 1))) else Nx H3)
theorem scK_core {pins : List (Addr × Obj)} {s : Shared} {σ : L2.St} {H : Hp} {Q : VK} {el tg it : Expr} {cs : List Expr} {scope : Scope} {own : List (PySem.Str × Nat)} {pos pos' : Pos} {wi : TI} {g : TG} {tt : TT} {te : TE} {use : Option (Value → Sem Unit)} {Qf : Value → Shared → Prop}
    (hc : X.calm = true) (hN : X.N.Nodup) (I : Inv X pins σ H s) (hi : PI X tg it wi) (ok : BlkOk X.N X.env.scope scope own)
    (hg : ∀ (s : Shared) (H : Hp) (C : Addr) (cl : List (PySem.Str × Addr)) (fp : List Addr), PG (X.blk s H scope (compEnvC scope cl C X.env) fp) tg g)
    (ht : ∀ (s : Shared) (H : Hp) (C : Addr) (cl : List (PySem.Str × Addr)) (fp : List Addr), PTs (X.blk s H scope (compEnvC scope cl C X.env) fp) cs tt)
    (he : ∀ (s : Shared) (H : Hp) (C : Addr) (cl : List (PySem.Str × Addr)) (fp : List Addr), PE (X.blk s H scope (compEnvC scope cl C X.env) fp) el te)
    (hs : ∀ x, foldedSetIterable it X.env x = pure x) (h : tScK X.prog X.w wi g tt te (own.map (·.2)) σ H Q)
    (done : ∀ D C s' m H', Inv X pins σ H' s' → Q (.ref D) H' → s'.heap.Ns C m → FpOk X pins H' C → compPost (model X.prog X.w) X.A X.xe use Qf (.ref D) C (.ok .next) s') :
    wpAny (model X.prog X.w) X.A (comprehension (.SetComp el [⟨tg, it, cs, 0⟩] scope pos) scope X.env pos' (newSet (.type "set")) false (eval it X.env) use) Qf X.xe s := by
  refine wpAny_comprehension_free (use := use) rfl hs (closure_ok fun y hy e => (ok.free y hy e).elim (fun k => I.ok.has _ (.inl k)) fun k => I.ok.has _ (.inr k)) ok.kind (fun y hy e => by rw [ok.uniq y hy, e])
    (thn (hi.run pins s σ H _ I h) fun xv s1 hx => thn hx fun itv s2 ⟨ia, fp, tn, J, H2, eq, I2, T, st2, f2, q⟩ => ?_)
  subst eq
  refine newSet_ok (newEnv_comp ?_)
  generalize eD : s2.heap.objs.size = D
  have free : H2 D = none := I2.hok.fresh (Nat.le_of_eq eD)
  obtain ⟨W, ⟨m0, w0⟩, turn⟩ := q D free
  generalize e3 : ({ s2 with heap := s2.heap.push { cls := .type "set", dict := none, data := .set #[] 0 (.fresh 0 0 (!X.w.params.followText "set-order")) } } : Shared) = s3
  have heap3 : s3.heap = s2.heap.push { cls := .type "set", dict := none, data := .set #[] 0 (.fresh 0 0 (!X.w.params.followText "set-order")) } := by rw [← e3]
  have I3 : Inv X pins σ (upd H2 D (SetK X.prog X.w D noK 0)) s3 := by
    rw [← e3, ← eD]
    exact I2.laid (t' := s2.toks) (fun b o e => Heap.get?_push_of_some _ e) (Nat.le_refl _) (setK_new ⟨_, #[], 0, _, Heap.get?_push_size _ rfl, ⟨rfl, rfl, rfl⟩, rfl, (fun e he => by simp at he), (fun k => by simp), (by decide), (by rfl), rfl⟩)
  have below : ∀ b ∈ fp, b < s2.heap.objs.size := fun b hb => let ⟨o, e, _⟩ := T.obj _ _ st2 b hb; Heap.lt_size e
  have f3 : ∀ b ∈ fp, FpOk X pins (upd H2 D (SetK X.prog X.w D noK 0)) b ∧ b < s3.heap.objs.size := fun b hb =>
    ⟨⟨by rw [upd_ne (by rw [← eD]; exact Nat.ne_of_lt (below b hb))]; exact (f2 b hb).1, (f2 b hb).2⟩, by rw [heap3, Heap.size_push]; exact Nat.lt_succ_of_lt (below b hb)⟩
  have I4 := block_start I3 ok hN f3
  have pg := hg s3 (upd H2 D (SetK X.prog X.w D noK 0)) s3.heap.objs.size (cellsFrom (s3.heap.objs.size + 1) scope.names (cloFrom X.env.cells scope.names [])) fp
  have pt := ht s3 (upd H2 D (SetK X.prog X.w D noK 0)) s3.heap.objs.size (cellsFrom (s3.heap.objs.size + 1) scope.names (cloFrom X.env.cells scope.names [])) fp
  have pe := he s3 (upd H2 D (SetK X.prog X.w D noK 0)) s3.heap.objs.size (cellsFrom (s3.heap.objs.size + 1) scope.names (cloFrom X.env.cells scope.names [])) fp
  show codeAny _ _ (.compStart (.SetComp el [⟨tg, it, cs, 0⟩] scope pos) 0 (.ref ia) (.ref D) (compEnvC scope (cellsFrom (s3.heap.objs.size + 1) scope.names (cloFrom X.env.cells scope.names [])) s3.heap.objs.size X.env)) (compPost (model X.prog X.w) X.A X.xe use Qf (.ref D) s3.heap.objs.size) { s3 with heap := pushCells (s3.heap.push { cls := .type "dict", data := .dict #[] }) scope.names }
  have none3 : ∀ b ∈ fp, (upd H2 D (SetK X.prog X.w D noK 0)) b = none := fun b hb => (f3 b hb).1.1
  generalize ec : compEnvC scope (cellsFrom (s3.heap.objs.size + 1) scope.names (cloFrom X.env.cells scope.names [])) s3.heap.objs.size X.env = ce at I4 pg pt pe ⊢
  have loc : ce.locals = s3.heap.objs.size := by subst ec; rfl
  generalize upd H2 D (SetK X.prog X.w D noK 0) = H3 at I3 I4 pg pt pe w0 none3 f3
  generalize e4 : ({ s3 with heap := pushCells (s3.heap.push { cls := .type "dict", data := .dict #[] }) scope.names } : Shared) = s4 at I4 ⊢
  have st3 : tn 0 s3.heap := T.keep _ _ _ st2 fun b _ o e => by rw [heap3]; exact Heap.get?_push_of_some _ e
  have st4 : tn 0 s4.heap := T.keep _ _ _ st3 fun b _ o e => by rw [← e4]; exact pushCells_keeps _ _ _ _ (Heap.get?_push_of_some _ e)
  have still : ∀ {σ' : L2.St} {H' : Hp} {s' : Shared}, Inv (X.blk s3 H3 scope ce fp) [] σ' H' s' → (∀ b ∈ fp, H' b = none) → ∀ b ∈ fp, FpOk (X.blk s3 H3 scope ce fp) [] H' b := fun I' hn b hb =>
    ⟨hn b hb, (I'.ok.exf b hb).1, I'.ok.exfs b hb, .inl hb, fun x c e => (I'.ok.exf b hb).2 x c e, fun p hp => absurd (show p ∈ ([] : List (Addr × Obj)) ++ [] from hp) (by simp)⟩
  have loop : codeAny (model X.prog X.w) X.A (.compLoop (.SetComp el [⟨tg, it, cs, 0⟩] scope pos) 0 (.ref ia) (.ref D) ce) (compPost (model X.prog X.w) X.A X.xe use Qf (.ref D) s3.heap.objs.size) s4 := by
    refine compLoopS_any (fun n s' => ∃ i H', Inv (X.blk s3 H3 scope ce fp) [] (wipe σ (own.map (·.2))) H' s' ∧ tn i s'.heap ∧ (∀ b ∈ fp, H' b = none) ∧ W i n H') ?_ m0 ⟨0, H3, I4, st4, none3, w0⟩
    rintro n s5 ⟨i, H5, I5, st5, n5, w5⟩
    rcases turn i n H5 w5 with ⟨stop, last⟩ | ⟨go, Nx, next, step⟩
    · refine thnF (T.done (X.blk s3 H3 scope ce fp) rfl rfl rfl hc i [] s5 _ H5 (fun _ _ => False) I5 (still I5 n5) st5 stop) fun r s6 ⟨er, I6⟩ => ?_
      subst er
      have unused : H5 ce.locals = none := I6.free
      obtain ⟨m, ns, _⟩ := I6.loc
      have ns : s6.heap.Ns ce.locals m := ns
      rw [loc] at ns unused
      exact done D s3.heap.objs.size s6 m H5 (I3.call' (ch := fp) I6.os I6.base I6.hok I6.bare fun b hb => ⟨(f3 b hb).1.2.2.2.1, (f3 b hb).1.2.1, (f3 b hb).1.2.2.2.2.1, (f3 b hb).1.2.2.2.2.2⟩) last ns (I3.fpOk (Nat.le_refl _) unused)
    · refine thnF (T.item (X.blk s3 H3 scope ce fp) rfl rfl rfl hc i [] s5 _ H5 (fun _ _ => False) I5 (still I5 n5) st5 go) fun r s6 ⟨u, er, h6⟩ => ?_
      subst er
      refine thnF h6 fun _ s7 ⟨x, H7, I7, r7, y7, st7, n7⟩ => ?_
      refine thnF (pg.run _ s7 _ H7 x u _ (I7.pinned (still I7 n7) (T.obj _ _ st7)) r7 (step x H7 y7)) fun _ s8 ⟨σ8, H8, I8, w8, q8⟩ => ?_
      refine thnF (pt.run _ s8 σ8 H8 _ I8 q8) fun b s9 ⟨H9, I9, q9⟩ => ?_
      have round : ∀ {s' : Shared} {H' : Hp}, Inv (X.blk s3 H3 scope ce fp) ([] ++ pinsAt fp s7.heap) σ8 H' s' → Nx H' → ∃ m, m < n ∧ ∃ i H', Inv (X.blk s3 H3 scope ce fp) [] (wipe σ (own.map (·.2))) H' s' ∧ tn i s'.heap ∧ (∀ b ∈ fp, H' b = none) ∧ W i m H' := fun {s' H'} I' nx => by
        obtain ⟨m', lt, w'⟩ := next H' nx
        have held : ∀ b ∈ fp, ∀ o, s7.heap.get? b = some o → s'.heap.get? b = some o ∧ H' b = none := fun b hb o e => let z := I'.pin (b, o) (List.mem_append_right _ (List.mem_append_right _ (mem_pinsAt hb e))); ⟨z.1, z.2.1⟩
        refine ⟨m', lt, i + 1, H', (I'.unpinned (pins := [])).weak (by rw [← w8, wipe_length]) (fun j v e => ?_), T.keep _ _ _ st7 fun b hb o e => (held b hb o e).1, fun b hb => ?_, w'⟩
        · rw [← w8] at e
          exact (wipe_some e).1
        · obtain ⟨o, e, _⟩ := T.obj _ _ st7 b hb
          exact (held b hb o e).2
      cases b with
      | false =>
        simp only [Bool.false_eq_true, if_false] at q9 ⊢
        exact round I9 q9
      | true =>
        simp only [if_true] at q9 ⊢
        refine thnF (pe.run _ s9 σ8 H9 _ I9 q9) fun z s10 ⟨y, H10, I10, r10, k, S, n0, ey, at10, few, nx⟩ => ?_
        subst ey
        exact addK (X := X.blk s3 H3 scope ce fp) I10 at10 few r10 fun s11 I11 => round I11 nx
  exact codeAny_compStart_set loop (T.self X.A 0 _ _ _ st4 loop)
/-- name = {..} on one line, the name a local -/
theorem ps_setScK {i : Nat} {y : Str} {py : Pos} {el tg it : Expr} {cs : List Expr} {scope : Scope} {own : List (PySem.Str × Nat)} {pos spos : Pos} {wi : TI} {g : TG} {tt : TT} {te : TE} (hc : X.calm = true) (hN : X.N.Nodup) (hy : X.N[i]? = some y) (hyl : X.env.scope.names.lookup y = some .local)
    (hsw : swapsWith (.SetComp el [⟨tg, it, cs, 0⟩] scope pos) (some (.Name y py)) spos.line X.env = pure true) (hi : PI X tg it wi) (ok : BlkOk X.N X.env.scope scope own)
    (hg : ∀ (s : Shared) (H : Hp) (C : Addr) (cl : List (PySem.Str × Addr)) (fp : List Addr), PG (X.blk s H scope (compEnvC scope cl C X.env) fp) tg g)
    (ht : ∀ (s : Shared) (H : Hp) (C : Addr) (cl : List (PySem.Str × Addr)) (fp : List Addr), PTs (X.blk s H scope (compEnvC scope cl C X.env) fp) cs tt)
    (he : ∀ (s : Shared) (H : Hp) (C : Addr) (cl : List (PySem.Str × Addr)) (fp : List Addr), PE (X.blk s H scope (compEnvC scope cl C X.env) fp) el te)
    (hs : ∀ x, foldedSetIterable it X.env x = pure x := by intro _; rfl) :
    PS X (.Assign [.Name y py] (.SetComp el [⟨tg, it, cs, 0⟩] scope pos) spos) (tAsg (tScK X.prog X.w wi g tt te (own.map (·.2))) (gName i)) := by
  refine ⟨fun pins s σ H D I h => ?_⟩
  rw [exec_Assign_Name_used _ _ _ _ hsw]
  refine wpAny_bind (wpAny_standAt (wpAny_bind ?_))
  show wpAny _ X.A (do let _ ← comprehension (.SetComp el [⟨tg, it, cs, 0⟩] scope pos) scope X.env (firstIterPos [⟨tg, it, cs, 0⟩] pos) (newSet (.type "set")) false (eval it X.env) (some (assign (.Name y py) X.env))) _ _ s
  have h : tScK X.prog X.w wi g tt te (own.map (·.2)) σ H (fun x H1 => gName i x σ H1 D.nx) := h
  refine wpAny_bind (thn (scK_core (Qf := fun _ s' => SP X pins D .next s') hc hN I hi ok hg ht he hs h fun L C s' m H' I' q hn f => ?_) fun _ s' hq => wpAny_pure (wpAny_pure hq))
  obtain ⟨f0, f1, f2, f3, f4, f5⟩ := f
  show wpAny _ _ (assign (.Name y py) X.env (.ref L)) _ _ _
  refine wpAny_assign_Name (store_ok2 (v := V.ref L) I' hN hy (.inl hyl) rfl (fun s2 I2 ⟨a, sb, ha⟩ => ?_) (.inr hyl))
  have apart : C ≠ a := ha.elim (fun z => z ▸ f1) fun z e => f4 y a z e.symm
  exact ⟨m, hn.sameBut sb apart, fun h3 sb3 => ⟨_, H', I2.turned (t' := s2.toks) (fun b o hb e => (sb3.2 b hb).trans e) f0 f1 f3 f4 f5, q⟩⟩
end
end Cs

set_option Elab.async false
set_option linter.all false
set_option maxRecDepth 100000
set_option maxHeartbeats 400000
/-! != of two dicts that are equal, deep -/
namespace Cs
open PySem PySem.Spec PyProof.Rows L2
section
variable {X : Cx}
def rNeDV (K : PySem.W.Frag) : R2 := fun x y H Q => ∃ a b ks ls, x = .ref a ∧ y = .ref b ∧ H a = some (.dK ks) ∧ H b = some (.dK ls) ∧ ks.length = ls.length ∧ (∃ n, n ≤ 60 ∧ ∀ p ∈ ks, ∃ u, valV ls p.1 = some u ∧ EqV K H n p.2 u) ∧ Q (.bl false) H
theorem op_neDV (hu : X.A.units + 64 < cLine) : OpR X (compareOp .NotEq) (rNeDV X.K) := by
  intro pins s σ H x y v u Q I rx ry h
  obtain ⟨a, b, ks, ls, rfl, rfl, ea, eb, len, ⟨n, hn, hp⟩, q⟩ := h
  cases (show v = Value.ref a from rx)
  cases (show u = Value.ref b from ry)
  obtain ⟨_, ya, va, ra, da⟩ := (show ObjOk X.prog X.w H s.heap a (.dK ks) from I.hok a _ ea)
  obtain ⟨_, yb, vb, rb, db⟩ := (show ObjOk X.prog X.w H s.heap b (.dK ls) from I.hok b _ eb)
  have e : va.length = vb.length := by rw [← ra.length, ← rb.length]; exact len
  have hits := hits_run (eqV_run I n X.A.in1 (by show X.A.units + 1 + n < cLine; omega)) rb ra hp
  refine wpAny_richCompare_same_room (op := .NotEq) da.typeIs db.typeIs PySem.F.slot_dict_ne (wpAny_call_entry PySem.F.slot_dict_ne da.typeIs PySem.F.entry_dict_ne ?_ (PySem.F.args_dict_ne_2 _ _)) (by omega)
  show wpAny _ _ (Builtin.Dict.dictSlotArgs "__ne__" ⟨[.ref a, .ref b], []⟩ >>= _) _ _ s
  unfold Builtin.Dict.dictSlotArgs
  refine wpAny_bind (wpAny_bind (wpAny_notOrdered_dict da.typeIs ?_))
  show wpAny _ _ (pure (Value.ref a, Value.ref b)) _ _ s
  refine wpAny_pure (wpAny_bind (wpAny_isInstance (T := "dict") db.typeIs PySem.F.sub_dict_dict ?_))
  simp only [Bool.not_true, Bool.false_eq_true, if_false]
  refine wpAny_bind (wpAny_pure (wpAny_bind (wpAny_pure ?_)))
  refine wpAny_bind (PySem.W.samePairsP (r := true) ya yb da db (fun _ => hits) ?_)
  have w0 : ((va.length == vb.length && true) == false) = false := by rw [e]; simp
  refine wpAny_pure ⟨_, rfl, ?_, ?_⟩
  · intro x
    cases x
  · have z : EP X pins σ Q (.bool false) s := ⟨.bl false, H, I, rfl, q⟩
    rw [← w0] at z
    exact z
end
end Cs

set_option Elab.async false
set_option linter.all false
set_option maxRecDepth 100000
set_option maxHeartbeats 4000000
/-! Exceptions of own classes with fields: made, raised while a dict is walked, caught, asked for their class. -/
namespace CsX
open PySem PySem.Spec PyProof.Rows L2
/-- a block that is not reached -/
theorem pss_any {X : Cx} {l : List Stmt} : PSs X l (fun _ _ _ => False) := ⟨fun _ _ _ _ _ _ h => h.elim⟩
/-- a raise while the thing at d is locked -/
theorem Takes.lock {X : Cx} {W : WX} {d : Addr} (tk : Takes X W) (hn : ∀ o' u', X.H_0 d ≠ some (.frz o' u')) : Takes X (fun cls dd σ H => ∃ od u, H d = some (.frz od u) ∧ W cls dd σ (upd H d u)) :=
  fun u s' ⟨a, B, sI, pins, σ, H, cls, dd, e, I, nb, up, sky, na, os, ag, od, uu, hd, w⟩ =>
    tk u s' ⟨a, B, sI, pins, σ, upd H d uu, cls, dd, e, I.unlock hd hn, nb, up, sky, (by rw [upd_ne (fun z => by rw [z, hd] at na; cases na)]; exact na), os, ag, w⟩
/-- __init__(self, f): self.f = f -/
def spIni (C : Addr) (f : Str) : Sp := fun vs H Q _ => ∃ (a : Addr) (v : V), vs = [.ref a, v] ∧ H a = some (exo a C none) ∧
  ∀ dx, H dx = none → dx ≠ a → Q .non (upd (upd H dx (exd dx [(f, v)])) a (exo a C (some dx)))
/-- __init__(self, f, g): self.f = f; self.g = g -/
def spIni2 (C : Addr) (f g : Str) : Sp := fun vs H Q _ => ∃ (a : Addr) (v u : V), vs = [.ref a, v, u] ∧ H a = some (exo a C none) ∧
  ∀ dx, H dx = none → dx ≠ a → Q .non (upd (upd (upd H dx (exd dx [(f, v)])) a (exo a C (some dx))) dx (exd dx [(g, u), (f, v)]))
/-- what the top has written of an own error with the fields fs, its __init__ at fI -/
structure Own (K : PySem.W.Frag) (mg : Str → Option Value) (x : Str) (C fI : Addr) (fs : List Str) : Prop where
  gC : mg x = some (.ref C)
  oex : OexC K C
  xf : XfC K C
  no : ∀ f ∈ fs, PySem.W.findIn K (.ref C) f = some none
  iC : PySem.W.findIn K (.ref C) "__init__" = some (some (.ref fI))
  tI : PySem.W.typeIn K (.ref fI) = some (.type "function")
  ex : ExcC K C
  te : PySem.W.exmOne K (.ref C) (.ref C) = some true
theorem same_upd {H : Hp} {p : Addr} {o : HO} (h : H p = none) : Same H (upd H p o) := fun b x e => by
  rw [upd_ne (ne_of_none e h)]
  exact e
/-- what is asked of C(v) -/
theorem mk_one {C : Addr} {f : Str} {H1 : Hp} {v : V} {Q : XK} (h : ∀ d H2, H1 d = none → Same H1 H2 → H2 d = some (.xd [(f, v)]) → Q (.ref C) (some d) H2) :
    [v].length ≤ 1000 ∧ ∀ a, H1 a = none → spIni C f (V.ref a :: ([v] ++ [])) (upd H1 a (exo a C none)) (fun x H2 => x = .non ∧ ∃ (d : Addr) (fs : List (Str × V)), H2 a = some (exo a C (some d)) ∧ H2 d = some (exd d fs) ∧ H1 d = none ∧ Q (.ref C) (some d) (upd (del H2 a) d (.xd fs))) (fun _ _ _ => False) := by
  refine ⟨by show 1 ≤ 1000; decide, fun a na => ⟨a, v, rfl, upd_same, fun dx n ne => ?_⟩⟩
  have n1 : H1 dx = none := by rw [upd_ne ne] at n; exact n
  refine ⟨rfl, dx, _, upd_same, by rw [upd_ne ne, upd_same], n1, h dx _ n1 (fun b o e => ?_) upd_same⟩
  have hb : b ≠ dx := ne_of_none e n1
  have ha : b ≠ a := ne_of_none e na
  rw [upd_ne hb, del_ne ha, upd_ne ha, upd_ne hb, upd_ne ha]
  exact e
/-- what is asked of C(v, u) -/
theorem mk_two {C : Addr} {f g : Str} {H1 : Hp} {v u : V} {Q : XK} (h : ∀ d H2, H1 d = none → Same H1 H2 → H2 d = some (.xd [(g, u), (f, v)]) → Q (.ref C) (some d) H2) :
    [v, u].length ≤ 1000 ∧ ∀ a, H1 a = none → spIni2 C f g (V.ref a :: ([v, u] ++ [])) (upd H1 a (exo a C none)) (fun x H2 => x = .non ∧ ∃ (d : Addr) (fs : List (Str × V)), H2 a = some (exo a C (some d)) ∧ H2 d = some (exd d fs) ∧ H1 d = none ∧ Q (.ref C) (some d) (upd (del H2 a) d (.xd fs))) (fun _ _ _ => False) := by
  refine ⟨by show 2 ≤ 1000; decide, fun a na => ⟨a, v, u, rfl, upd_same, fun dx n ne => ?_⟩⟩
  have n1 : H1 dx = none := by rw [upd_ne ne] at n; exact n
  refine ⟨rfl, dx, _, by rw [upd_ne (Ne.symm ne), upd_same], upd_same, n1, h dx _ n1 (fun b o e => ?_) upd_same⟩
  have hb : b ≠ dx := ne_of_none e n1
  have ha : b ≠ a := ne_of_none e na
  rw [upd_ne hb, del_ne ha, upd_ne hb, upd_ne ha, upd_ne hb, upd_ne ha]
  exact e
/-- isinstance(e, c), isinstance(e, (c, ..)): e the exception that the suite holds, with fields -/
def rIsED (K : PySem.W.Frag) (a : Addr) (cls : Value) (d : Option Addr) : List V → Hp → VK → Prop := fun xs H Q => ∃ (C dd : Addr) (fs : List (Str × V)) (c : V) (b : Bool), xs = [.ref a, c] ∧ cls = .ref C ∧ d = some dd ∧ H dd = some (.xd fs) ∧ ExcC K C ∧
  ((∃ cv, (∀ u, RelV c u → u = cv) ∧ PySem.W.kitOne K (.ref C) cv = some b) ∨ ∃ (t : Addr) (cs : List Addr), c = .ref t ∧ H t = some (.tup (cs.map V.ref)) ∧ PySem.W.kitAny K (.ref C) (cs.map Value.ref) = some b) ∧ Q (.bl b) H
theorem vals_refs : ∀ {cs : List Addr} {us : List Value}, Vals (cs.map V.ref) us → us = cs.map Value.ref
  | [], _, h => by cases h; rfl
  | c :: cs, _, h => by
    cases h with
    | cons a b =>
      cases a
      exact congrArg (Value.ref c :: ·) (vals_refs b)
theorem call_isED {X : Cx} {a : Addr} {cls : Value} {d : Option Addr} {oe : Obj} {pn : List (Addr × Obj)} (hz : Zc cls d oe) (hf : ∃ vs, oe.data = .fields vs) : CallR (X.suite a ((a, oe) :: pn)) (.builtin "isinstance") (rIsED X.K a cls d) := by
  intro pins s σ H xs us Q I r h
  obtain ⟨D, dd, fs, c, b, rfl, rfl, rfl, hdd, C, hc, q⟩ := h
  cases r with
  | cons rx rr =>
    cases rr with
    | cons rt rr =>
      cases rr
      cases rx
      obtain ⟨hget, _⟩ := I.pin (a, oe) (List.mem_append.mpr (.inl List.mem_cons_self))
      obtain ⟨vs, hv⟩ := hf
      have hx : ObjOk X.prog X.w H s.heap dd (.xd fs) := I.hok dd _ hdd
      obtain ⟨mA, hns, hr⟩ := hx
      obtain ⟨od, ho, hl⟩ := lookIn_ns hns
      have J : PySem.W.InstAt s.heap a oe D (some od) := ⟨hget, hz.1, by unfold PySem.W.notCls; rw [hv] <;> rfl, by rw [hz.2]; exact ho⟩
      have cl : (PySem.W.clsIn X.K D).isSome = true := by
        obtain ⟨cd, e, _⟩ := PySem.W.any_some C.hd
        rw [e]; rfl
      have Z := fun (od : Option Obj) => PySem.W.kitx_exc (x := a) (ox := oe) (od := od) cl C.hg C.hk C.hs C.ha C.hn C.ht C.hm
      rcases hc with ⟨cv, hcv, e⟩ | ⟨t, cs, rfl, ht, e⟩
      · have ec := hcv _ rt
        subst ec
        exact PySem.W.kia_one (Z _) I.kIn J e (fun z => nomatch z) fun tk => ⟨.bl b, H, I.kept (t' := tk) fun _ _ z => z, rfl, q⟩
      · cases rt
        obtain ⟨_, its, rv, o, ho2, hcls, n, hdat⟩ := (show ObjOk X.prog X.w H s.heap t (.tup (cs.map V.ref)) from I.hok t _ ht)
        obtain ⟨oc, oda, odt, osl⟩ := o
        dsimp only at hcls hdat
        subst hcls hdat
        rw [← vals_refs rv] at e
        exact PySem.W.kia_tup (Z _) I.kIn J ho2 e (fun z => nomatch z) fun tk => ⟨.bl b, H, I.kept (t' := tk) fun _ _ z => z, rfl, q⟩
end CsX

set_option Elab.async false
set_option linter.all false
set_option maxRecDepth 100000
set_option maxHeartbeats 4000000
/-! name = {k: v for ..} as a statement. -/
namespace Cs
open PySem PySem.Spec PyProof.Rows L2
section
variable {X : Cx}
theorem ps_setDc {i : Nat} {y : Str} {py : Pos} {kx vx tg it : Expr} {cs : List Expr} {scope : Scope} {own : List (PySem.Str × Nat)} {pos spos : Pos} {wi : TI} {g : TG} {tt : TT} {tk tv : TE} (hc : X.calm = true) (hN : X.N.Nodup) (hy : X.N[i]? = some y) (hyl : X.env.scope.names.lookup y = some .local)
    (hsw : swapsWith (.DictComp kx vx [⟨tg, it, cs, 0⟩] scope pos) (some (.Name y py)) spos.line X.env = pure true) (hi : PI X tg it wi) (ok : BlkOk X.N X.env.scope scope own)
    (hg : ∀ (s : Shared) (H : Hp) (C : Addr) (cl : List (PySem.Str × Addr)) (fp : List Addr), PG (X.blk s H scope (compEnvC scope cl C X.env) fp) tg g)
    (ht : ∀ (s : Shared) (H : Hp) (C : Addr) (cl : List (PySem.Str × Addr)) (fp : List Addr), PTs (X.blk s H scope (compEnvC scope cl C X.env) fp) cs tt)
    (hk : ∀ (s : Shared) (H : Hp) (C : Addr) (cl : List (PySem.Str × Addr)) (fp : List Addr), PE (X.blk s H scope (compEnvC scope cl C X.env) fp) kx tk)
    (he : ∀ (s : Shared) (H : Hp) (C : Addr) (cl : List (PySem.Str × Addr)) (fp : List Addr), PE (X.blk s H scope (compEnvC scope cl C X.env) fp) vx tv)
    (hs : ∀ x, foldedSetIterable it X.env x = pure x := by intro _; rfl) :
    PS X (.Assign [.Name y py] (.DictComp kx vx [⟨tg, it, cs, 0⟩] scope pos) spos) (tAsg (tDc wi g tt tk tv (own.map (·.2))) (gName i)) := by
  refine ⟨fun pins s σ H D I h => ?_⟩
  rw [exec_Assign_Name_used _ _ _ _ hsw]
  refine wpAny_bind (wpAny_standAt (wpAny_bind ?_))
  have h : tDc wi g tt tk tv (own.map (·.2)) σ H (fun x H1 => gName i x σ H1 D.nx) := h
  refine wpAny_bind (thn (dc_core (Qf := fun _ s' => SP X pins D .next s') hc hN I hi ok hg ht hk he hs h fun L C s' m H' I' q hn f => ?_) fun _ s' hq => wpAny_pure (wpAny_pure hq))
  obtain ⟨f0, f1, f2, f3, f4, f5⟩ := f
  show wpAny _ _ (assign (.Name y py) X.env (.ref L)) _ _ _
  refine wpAny_assign_Name (store_ok2 (v := V.ref L) I' hN hy (.inl hyl) rfl (fun s2 I2 ⟨a, sb, ha⟩ => ?_) (.inr hyl))
  have apart : C ≠ a := ha.elim (fun z => z ▸ f1) fun z e => f4 y a z e.symm
  exact ⟨m, hn.sameBut sb apart, fun h3 sb3 => ⟨_, H', I2.turned (t' := s2.toks) (fun b o hb e => (sb3.2 b hb).trans e) f0 f1 f3 f4 f5, q⟩⟩
end
end Cs

set_option Elab.async false
set_option linter.all false
set_option maxRecDepth 100000
set_option maxHeartbeats 4000000
/-! == of two tuples that are equal, deep. -/
namespace Cs
open PySem PySem.Spec PyProof.Rows L2
def rEqT (K : PySem.W.Frag) : R2 := fun x y H Q => ∃ a b xs ys, x = .ref a ∧ y = .ref b ∧ SqT K H a xs ∧ SqT K H b ys ∧ Paired (EqV K H 2) xs ys ∧ Q (.bl true) H
theorem op_eqT {X : Cx} (hu : X.A.units + 64 < cLine) : OpR X (compareOp .Eq) (rEqT X.K) := by
  intro pins s σ H x y v u Q I rx ry h
  obtain ⟨a, b, xs, ys, rfl, rfl, ha, hb, hp, q⟩ := h
  cases (show v = Value.ref a from rx)
  cases (show u = Value.ref b from ry)
  obtain ⟨its, r, e, z⟩ := I.tuple ha
  obtain ⟨its2, r2, e2, z2⟩ := I.tuple hb
  have hsz : its.toArray.size = its2.toArray.size := by rw [List.size_toArray, List.size_toArray, ← r.length, ← r2.length]; exact Paired.length hp
  refine GQ.rc_tupG hsz (by omega) (fun _ s' => s' = s) e e2 (fun i h1 h2 s' hs => ?_) (fun s' hs => ?_) rfl
  · subst hs
    have k := items_run (A := X.A.in1) (eqV_run I 2 X.A.in1 (by show X.A.units + 1 + 2 < cLine; omega)) hp r r2 i (by simpa using h1) (by simpa using h2)
    have k2 : SeqAt.EqP X.prog X.w X.A.in1 s' its.toArray[i] its2.toArray[i] true := by simpa using k
    exact k2 _ _ ⟨rfl, rfl⟩
  · subst hs
    exact ⟨.bl true, H, I, rfl, q⟩
end Cs

set_option Elab.async false
set_option linter.all false
set_option maxRecDepth 100000
set_option maxHeartbeats 4000000
namespace CsX
open PySem PySem.Spec PyProof.Rows L2
section
variable {X : Cx}
/-- X(), X an own exception class without own __init__ -/
theorem pmk_own0 {C : Addr} {bmB : List Value} {B newId initId : String} {x : Str} {p pos : Pos} (F : ExcBaseFacts B newId initId bmB) (q : PySem.W.excIn X.K C bmB newId = true) (gC : X.mg x = some (.ref C))
    (kC : PySem.W.keepIn X.K (.ref C) = true) (r : Raises X (.ref C)) (hg : Gl X x) (hdb : (x == ("__debug__" : Str)) = false := by decide) :
    PMk X (.Call (.Name x p) [] [] pos) (fun _ H Q => Q (.ref C) none H) := by
  intro pins s σ H Q I h
  refine wpAny_Call_Name_kw (ld_glob I hg gC ?_ hdb)
  refine PySem.W.callWith_K0 I.kIn kC ?_
  show wpAny _ _ (call (.ref C) []) _ _ _
  obtain ⟨bm, N, nm, qn, bs, hdct, sn, sub, ab, col, dd, k0, k1, k2, k3, k5, mN, hC, hN, hni, T⟩ := exc_obj I.kIn q
  refine wpAny_call_exc_subT F T hC hN hni (fun h' e hm => ?_) (by show 0 ≤ sizeLine; rw [sizeLine_eq]; omega)
  exact mk_of I hm r h (I.hok.gone hm.new)
end
end CsX
/-! ### an own error without fields; classes, methods, properties -/
namespace CsX
open PySem PySem.Spec PyProof.Rows L2
/-- an own error class without an own __init__ (facts of the head) -/
structure Own0 (K : PySem.W.Frag) (mg : Str → Option Value) (x : Str) (C : Addr) : Prop where
  gC : mg x = some (.ref C)
  ex : PySem.W.excIn K C [.type "ValueError", .type "Exception", .type "BaseException", .type "object"] "ValueError.__new__" = true
  kC : PySem.W.keepIn K (.ref C) = true
  sB : PySem.W.subIn K (.ref C) (.type "BaseException") = some true
  tC : PySem.W.typeIn K (.ref C) = some (.type "type")
theorem Own0.mk0 {X : Cx} {x : Str} {C : Addr} {p pos : Pos} (U : Own0 X.K X.mg x C) (hg : Gl X x) (hdb : (x == ("__debug__" : Str)) = false := by decide) : PMk X (.Call (.Name x p) [] [] pos) (fun _ H Q => Q (.ref C) none H) :=
  pmk_own0 PySem.F.excBase_ValueError U.ex U.gC U.kC (raises_own U.sB U.tC) hg hdb
/-- a class of the program: its text, its name, its attributes (no class attribute has the name) -/
structure Kls (K : PySem.W.Frag) (mg : Str → Option Value) (x : Str) (C : Addr) (fs : List Str) : Prop where
  cl : Cls K C
  gC : mg x = some (.ref C)
  no : ∀ f ∈ fs, NoAttr K C f
/-- its __init__ -/
structure CallN (P : Program) (w : World) (K : PySem.W.Frag) (mg : Str → Option Value) (base : Heap) (k : Nat) (C f : Addr) (fd : FuncData) (ps : List Str) (sp : Sp) : Prop where
  ok : FnOk P w K mg base CX0 k f fd ps sp
  mkr : Mk K C f
  bd : Binds K fd ps []
/-- a method -/
structure CallM (P : Program) (w : World) (K : PySem.W.Frag) (mg : Str → Option Value) (base : Heap) (k : Nat) (C : Addr) (m : Str) (f : Addr) (fd : FuncData) (ps : List Str) (sp : Sp) : Prop where
  ok : FnOk P w K mg base CX0 k f fd ps sp
  mt : Meth K C m f
  bd : Binds K fd ps []
/-- a method that may raise -/
structure CallMX (P : Program) (w : World) (K : PySem.W.Frag) (mg : Str → Option Value) (base : Heap) (k : Nat) (C : Addr) (m : Str) (f : Addr) (fd : FuncData) (ps : List Str) (sp : Sp) : Prop where
  ok : FnOk P w K mg base (L2.CX P w) k f fd ps sp
  mt : Meth K C m f
  bd : Binds K fd ps []
/-- a property -/
structure CallP (P : Program) (w : World) (K : PySem.W.Frag) (mg : Str → Option Value) (base : Heap) (k : Nat) (C : Addr) (m : Str) (p f : Addr) (fd : FuncData) (sp : Sp) : Prop where
  ok : FnOk P w K mg base CX0 k f fd ["self"] sp
  pr : PropOf K C m p f
  bd : Binds K fd ["self"] []
end CsX

set_option Elab.async false
set_option linter.all false
set_option maxRecDepth 100000
set_option maxHeartbeats 4000000
namespace CsX
open PySem PySem.Spec PyProof.Rows L2
/-- two promises of one def, in one -/
theorem FnOk.or {P : Program} {w : World} {K : PySem.W.Frag} {mg : Str → Option Value} {base : Heap} {CX : CXT} {k : Nat} {f : Addr} {fd : FuncData} {ps : List Str} {sp1 sp2 : Sp} (F1 : FnOk P w K mg base CX k f fd ps sp1) (F2 : FnOk P w K mg base CX k f fd ps sp2) :
    FnOk P w K mg base CX k f fd ps (fun vs H Q E => sp1 vs H Q E ∨ sp2 vs H Q E) :=
  ⟨fun vs H Q E h => h.elim (F1.len vs H Q E) (F2.len vs H Q E), fun A outer s H args us vs Q E hr he hb hv h => h.elim (F1.run A outer s H args us vs Q E hr he hb hv) (F2.run A outer s H args us vs Q E hr he hb hv)⟩
/-- o.m(..) that may raise: the ends of the raise know the slots -/
def tMethX (C : Addr) (m : Str) (sp : Sp) (E : L2.St → XK) (ta : TE) (t : TA) : TE := fun σ H Q => ta σ H fun x H1 => ∃ a dx fs, x = .ref a ∧ H1 a = some (.ins C dx fs) ∧ fs.lookup m = none ∧ t σ H1 fun vs H2 => sp (x :: vs) H2 Q (E σ)
section
variable {X : Cx} {CX : CXT} {k : Nat} {f C : Addr} {fd : FuncData} {ps : List Str} {sp : Sp} {E : L2.St → XK} {m : Str} {pos apos : Pos} {e o : Expr} {es : List Expr} {ta : TE} {t : TA}
theorem pe_methX0 {pl : Sem Bool} (he : PE X o ta) (c : Cls X.K C) (hm : Meth X.K C m f) (F : FnOk X.prog X.w X.K X.mg X.base CX k f fd ps sp) (hr : Room k X.A) (hb : Binds X.K fd ps []) (hx : ∀ σ, PassesAt CX X σ (E σ))
    (ht : eval (.Call (.Attribute o m apos) [] [] pos) X.env = (do
      let ov ← eval o X.env
      standAt apos.atName
      let (f, first) ← holding [ov] (getMethod ov m pl)
      callWith pos f first (backTo pos (starEach [] X.env)) (backToKw pos (keywordEach [] X.env))) := by rfl) :
    PE X (.Call (.Attribute o m apos) [] [] pos) (tMethX C m sp E ta tNil) := by
  refine ⟨fun pins s σ H Q I h => ?_⟩
  refine PySem.W.methodCall_KW (pl := pl) (thn (he.run pins s σ H _ I h) fun u s1 ⟨x, H1, I1, rx, a, dx, fs, ex, ea, l, q⟩ => ?_) ht
  subst ex
  obtain rfl : u = Value.ref a := rx
  exact getmeth_ok I1 ea c hm l (PySem.W.callWith_K0 (first := [.ref a]) I1.kIn hm.kp (run_fnS (us := [.ref a]) (vs := [.ref a]) F hr hb (hx σ) I1 (.cons rfl .nil) q))
theorem pe_methX {pl : Sem Bool} (he : PE X o ta) (c : Cls X.K C) (hm : Meth X.K C m f) (F : FnOk X.prog X.w X.K X.mg X.base CX k f fd ps sp) (hr : Room k X.A) (hb : Binds X.K fd ps []) (hx : ∀ σ, PassesAt CX X σ (E σ)) (ha : PA X (e :: es) t)
    (hst : starEach (e :: es) X.env = (false, eval e X.env) :: starEach es X.env := by rfl) (hpl : (backTo pos (starEach es X.env)).any (·.1) = false := by rfl)
    (ht : eval (.Call (.Attribute o m apos) (e :: es) [] pos) X.env = (do
      let ov ← eval o X.env
      standAt apos.atName
      let (f, first) ← holding [ov] (getMethod ov m pl)
      callWith pos f first (backTo pos (starEach (e :: es) X.env)) (backToKw pos (keywordEach [] X.env))) := by rfl) :
    PE X (.Call (.Attribute o m apos) (e :: es) [] pos) (tMethX C m sp E ta t) := by
  refine ⟨fun pins s σ H Q I h => ?_⟩
  refine PySem.W.methodCall_KW (pl := pl) (thn (he.run pins s σ H _ I h) fun u s1 ⟨x, H1, I1, rx, a, dx, fs, ex, ea, l, q⟩ => ?_) ht
  subst ex
  obtain rfl : u = Value.ref a := rx
  refine getmeth_ok I1 ea c hm l ?_
  refine PySem.W.callWith_K (first := [.ref a]) (h₀ := X.base) I.ok.mod.kin hm.kp (thn (ha.run pos pins s1 σ H1 _ I1 q) fun us s2 ⟨vs, H2, I2, r, q2⟩ => ⟨I2.kIn, ?_⟩) hst hpl
  exact run_fnS (us := .ref a :: us) (vs := .ref a :: vs) F hr hb (hx σ) I2 (.cons rfl r) q2
end
/-- isinstance(e, c), isinstance(e, (c, ..)): e the exception that the suite holds, without fields -/
def rIsEN (K : PySem.W.Frag) (a : Addr) (cls : Value) (d : Option Addr) : List V → Hp → VK → Prop := fun xs H Q => ∃ (C : Addr) (c : V) (b : Bool), xs = [.ref a, c] ∧ cls = .ref C ∧ d = none ∧ ExcC K C ∧
  ((∃ cv, (∀ u, RelV c u → u = cv) ∧ PySem.W.kitOne K (.ref C) cv = some b) ∨ ∃ (t : Addr) (cs : List Addr), c = .ref t ∧ H t = some (.tup (cs.map V.ref)) ∧ PySem.W.kitAny K (.ref C) (cs.map Value.ref) = some b) ∧ Q (.bl b) H
theorem call_isEN {X : Cx} {a : Addr} {cls : Value} {d : Option Addr} {oe : Obj} {pn : List (Addr × Obj)} (hz : Zc cls d oe) (hf : ∃ vs, oe.data = .fields vs) : CallR (X.suite a ((a, oe) :: pn)) (.builtin "isinstance") (rIsEN X.K a cls d) := by
  intro pins s σ H xs us Q I r h
  obtain ⟨D, c, b, rfl, rfl, rfl, C, hc, q⟩ := h
  cases r with
  | cons rx rr =>
    cases rr with
    | cons rt rr =>
      cases rr
      cases rx
      obtain ⟨hget, _⟩ := I.pin (a, oe) (List.mem_append.mpr (.inl List.mem_cons_self))
      obtain ⟨vs, hv⟩ := hf
      have J : PySem.W.InstAt s.heap a oe D none := ⟨hget, hz.1, by unfold PySem.W.notCls; rw [hv] <;> rfl, by rw [hz.2]; trivial⟩
      have Z := PySem.W.handS_kitx_exc (x := a) (ox := oe) C.hg C.hk C.hs C.hd C.ha C.hn C.ht C.hm
      rcases hc with ⟨cv, hcv, e⟩ | ⟨t, cs, rfl, ht, e⟩
      · have ec := hcv _ rt
        subst ec
        exact PySem.W.kia_one Z I.kIn J e (fun z => nomatch z) fun tk => ⟨.bl b, H, I.kept (t' := tk) fun _ _ z => z, rfl, q⟩
      · cases rt
        obtain ⟨_, its, rv, o, ho2, hcls, n, hdat⟩ := (show ObjOk X.prog X.w H s.heap t (.tup (cs.map V.ref)) from I.hok t _ ht)
        obtain ⟨oc, oda, odt, osl⟩ := o
        dsimp only at hcls hdat
        subst hcls hdat
        rw [← vals_refs rv] at e
        exact PySem.W.kia_tup Z I.kIn J ho2 e (fun z => nomatch z) fun tk => ⟨.bl b, H, I.kept (t' := tk) fun _ _ z => z, rfl, q⟩
end CsX

set_option Elab.async false
set_option linter.all false
set_option maxRecDepth 100000
set_option maxHeartbeats 4000000
/-! ### errors whose context is known to be None; calls within an except suite -/
namespace CsX
open PySem PySem.Spec PyProof.Rows L2 L2H HotX
section
variable {P : Program} {w : World} {K : PySem.W.Frag} {mg : Str → Option Value} {base : Heap}
/-- a promise without errors, as one with any errors -/
theorem liftE {CX : CXT} {k : Nat} {f : Addr} {fd : FuncData} {ps : List Str} {sp : Sp} (F : FnOk P w K mg base CX0 k f fd ps sp) : FnOk P w K mg base CX k f fd ps sp :=
  ⟨F.len, fun A outer s H args us vs Q E hr he hb hv hs => codeAny_mono (F.run A outer s H args us vs Q E hr he hb hv hs) fun r s' q => by
    cases r with
    | error e => exact False.elim q
    | ok fl => cases fl with
      | ret u => exact q
      | next => exact False.elim q
      | brk => exact False.elim q
      | cont => exact False.elim q⟩
/-- a def by its body, with errors of any kind -/
theorem okN {CX : CXT} {x qual : Str} {st : Stmt} {f : Addr} {fd : FuncData} {N ps : List Str}
    {k : Nat} {sp : Sp} (F : Fun K x qual st f fd) (S : FnScope N ps (defScope st))
    (count : ∀ vs H Q E, sp vs H Q E → vs.length = ps.length)
    (body : ∀ cdv A outer s H vs Q E, Room k (A.deeper (envOfC qual (defScope st) s.heap.objs.size f cdv)) →
      sp vs H Q E → ∃ t, PSs (cxOf CX P w K mg base N qual (defScope st) f cdv A outer s H E) (defBody st) t ∧
        t { nx := fun _ H' => Q .non H', rt := Q } (start N vs) H) :
    FnOk P w K mg base CX (k + 1) f fd ps sp := by
  obtain ⟨_, _, _, _, _, _, _, _, _, rfl, at_, code⟩ := F.ex
  exact fn_of at_ code S count (body _)
/-- a def by its body, for calls within an except suite -/
theorem okH {x qual : Str} {st : Stmt} {f : Addr} {fd : FuncData} {N ps : List Str}
    {k : Nat} {sp : Sp} (F : Fun K x qual st f fd) (S : FnScope N ps (defScope st))
    (count : ∀ vs H Q E, sp vs H Q E → vs.length = ps.length)
    (body : ∀ cdv A outer s H vs Q E p, sp vs H Q E →
      ∃ t, PSs (cxH CX0 P w K mg base N qual (defScope st) f cdv A outer s H E p).nox (defBody st) t ∧
        t { nx := fun _ H' => Q .non H', rt := Q } (start N vs) H) :
    FnH P w K mg base CX0 (k + 1) f fd ps sp := by
  obtain ⟨_, _, _, _, _, _, _, _, _, rfl, at_, code⟩ := F.ex
  refine fn_ofH at_ code S count fun A outer s H vs Q E p _ _ hs => ?_
  obtain ⟨t, good, q⟩ := body _ A outer s H vs Q E p hs
  exact ⟨t, good.nox, q⟩
end
/-! C(x): an own error with fields, its context None (after ExcInit's and ExcInitHot's own, for L2N) -/
abbrev atE (hp : Heap) : Addr := hp.objs.size + 1
abbrev withE (hp : Heap) (us : List Value) (C : Addr) : Heap :=
  (hp.push (PySem.W.kdv_tup us)).push (PySem.HandSPX.excO C hp.objs.size)
theorem withE_old {hp : Heap} {us : List Value} {C b : Addr} {o : Obj}
    (e : hp.get? b = some o) : (withE hp us C).get? b = some o :=
  Heap.get?_push_of_some _ (Heap.get?_push_of_some _ e)
theorem withE_new {hp : Heap} {us : List Value} {C : Addr} :
    (withE hp us C).get? (atE hp) = some (PySem.HandSPX.excO C hp.objs.size) := by heap_get
section
variable {X : Cx} {CX : CXT} {C fI : Addr} {k : Nat} {fd : FuncData} {ps : List Str} {sp : Sp}
theorem call_madeN (T : OexC X.K C)
    (iC : PySem.W.findIn X.K (.ref C) "__init__" = some (some (.ref fI)))
    (tI : PySem.W.typeIn X.K (.ref fI) = some (.type "function"))
    (G : FnOk X.prog X.w X.K X.mg X.base CX k fI fd ps sp) (room : Room (k + 1) X.A)
    (bd : Binds X.K fd ps []) (hx : Passes CX X (fun _ _ _ => False))
    {pins : List (Addr × Obj)} {σ : L2.St} {H1 : Hp} {Q : XK} {us : List Value} {vs : List V}
    {hp : Heap} {g : Array GenState} {dr : Drawn} {tk : Nat} {os : OsState}
    (J1 : Inv X pins σ H1 ⟨hp, g, dr, tk, os⟩) (rel : Vals vs us) (few : vs.length ≤ 1000)
    (init : ∀ a, H1 a = none → sp (V.ref a :: (vs ++ [])) (upd H1 a (exo a C none))
      (fun v H2 => v = .non ∧ ∃ d fs, H2 a = some (exo a C (some d)) ∧ H2 d = some (exd d fs) ∧
        H1 d = none ∧ Q (.ref C) (some d) (upd (del H2 a) d (.xd fs))) (fun _ _ _ => False)) :
    wpAny (model X.prog X.w) X.A (call (.ref C) us) (L2N.MkP X pins σ Q) X.xe ⟨hp, g, dr, tk, os⟩ := by
  have up1 : hp.objs.size ≤ atE hp := Nat.le_succ _
  have free := J1.hok.fresh up1
  have q0 := init (atE hp) free
  rw [List.append_nil] at q0
  have J2 : Inv X pins σ (upd H1 (atE hp) (exo (atE hp) C none)) ⟨withE hp us C, g, dr, tk, os⟩ :=
    J1.laid (t' := tk) (fun _ _ e => withE_old e) up1 (exo_ok withE_new)
  have rel2 : Vals (V.ref (atE hp) :: vs) (Value.ref (atE hp) :: us) := .cons rfl rel
  have many : (Value.ref (atE hp) :: us).length = ps.length := by
    rw [← rel2.length]
    exact G.len _ _ _ _ q0
  have b2 := bd _ (Value.ref (atE hp) :: us) J2.kIn (by rw [List.append_nil]; exact many)
  rw [List.append_nil] at b2
  have small : us.length ≤ sizeLine := by
    have := Paired.length rel
    rw [sizeLine_eq]
    omega
  obtain ⟨_, _, _, _, bm, _, _, _, _, _, _, _, _, _, _, hC, hbm⟩ := T.cls
  have ran := G.run (X.A.under (.builtin "type.__call__" ⟨.ref C :: us, []⟩)) X.stack
    ⟨withE hp us C, g, dr, tk, os⟩ _ ⟨Value.ref (atE hp) :: us, []⟩ _ _ _ (fun _ _ _ => False)
    (room.make C us []) (J2.env0.make C us []) b2 rel2 q0
  refine wpAny_call (PySem.HandSPX.call_own F.excBase_ValueError
    (fun Y => PySem.HandSPX.refsVE_contains Y bm hbm) (J1.kIn _ _ hC) (PySem.W.looks_findIn J1.kIn iC)
    (fun self => PySem.W.bind_fn J1.kIn self tI) small (codeAny_mono ran fun r s2 end2 => ?_))
  match r, end2 with
  | .error er, end2 => exact hx pins σ _ _ er s2 J2 end2
  | .ok (.ret u), end2 =>
    obtain ⟨v, H2, same, bare2, un2, ok2, rv, rfl, d, fs, oA, oD, newD, q2⟩ := end2
    obtain ⟨h2, g2, d2, t2, os2⟩ := s2
    obtain ⟨t0, B, JB, kB, gone, there, nA⟩ := mk_end0 (d2 := d2) (t2 := t2) J1 up1
      (fun _ _ e => withE_old e) un2 ok2 same bare2 oA oD newD
    refine ⟨rv, ⟨atE hp, _, _, ⟨B, g2, d2, t2, os2⟩, _, .ref C, some d, rfl, JB, kB, gone, there,
      ⟨rfl, rfl, fun us2 e2 => ?_⟩, rfl, rfl, nA, rfl, bare2, raises_own T.exC T.tyC, q2⟩⟩
    cases e2
    rfl
  | .ok .next, end2 => exact end2.elim
  | .ok .brk, end2 => exact end2.elim
  | .ok .cont, end2 => exact end2.elim
theorem pmk_oexN {x : Str} {e : Expr} {es : List Expr} {ta : TA} {p pos : Pos} (T : OexC X.K C)
    (iC : PySem.W.findIn X.K (.ref C) "__init__" = some (some (.ref fI)))
    (tI : PySem.W.typeIn X.K (.ref fI) = some (.type "function"))
    (G : FnOk X.prog X.w X.K X.mg X.base CX k fI fd ps sp) (room : Room (k + 1) X.A)
    (bd : Binds X.K fd ps []) (hx : Passes CX X (fun _ _ _ => False)) (hg : Gl X x)
    (hm : X.mg x = some (.ref C)) (ha : PA X (e :: es) ta)
    (hdb : (x == ("__debug__" : Str)) = false := by decide)
    (st : starEach (e :: es) X.env = (false, eval e X.env) :: starEach es X.env := by rfl)
    (pl : (backTo pos (starEach es X.env)).any (·.1) = false := by rfl) :
    L2N.PMk X (.Call (.Name x p) (e :: es) [] pos) (tMkO C sp [] ta) := fun pins s σ H Q I h =>
  wpAny_Call_Name_kw (ld_glob I hg hm (PySem.W.callWith_K (h₀ := X.base) I.ok.mod.kin T.kC
    (thn (ha.run pos pins s σ H _ I h) fun us s1 ⟨vs, H1, J1, rel, few, init⟩ => ⟨J1.kIn, by
      match s1, J1, init with
      | ⟨hp, g, dr, tk, os⟩, J1, init => exact call_madeN T iC tI G room bd hx J1 rel few init⟩) st pl) hdb)
end
end CsX

set_option Elab.async false
set_option linter.all false
set_option maxRecDepth 100000
set_option maxHeartbeats 4000000
/-! ### sorted(s), s a set of areI of any number of members -/
namespace Cs
open PySem PySem.Spec PyProof.Rows L2
section
variable {P : Program} {w : World} {A : Around} {E : Value → Shared → Prop} {s : Shared} {a : Addr}
/-- (after sorted_set of HandS.Set, with the sort of SortOrd) -/
theorem sorted_setN {S : Int → Bool} {n : Nat} {Q : Value → Shared → Prop} (R : SetR w s.heap a S n)
    (cool : A.handled = none) (small : n ≤ 16000000)
    (after : ∀ s' p (out : Array Value) (c : Nat) (ns : List Int),
      (∀ b o, s.heap.get? b = some o → s'.heap.get? b = some o) → s'.gens = s.gens → s'.os = s.os →
      s.heap.objs.size ≤ p → s'.heap.get? p = some (seqObj "list" out c) → IntsAre out.toList ns →
      ns.Pairwise (· < ·) → (∀ k, k ∈ ns ↔ S k = true) → ns.length = n → Q (.ref p) s') :
    wpAny (model P w) A (call (.builtin "sorted") [.ref a]) Q E s := by
  obtain ⟨o, es, ep, t, ho, hex, hd, good, nd, mem, bnd, fits, cnt, r1, r2⟩ := R
  refine Calls.call_function_entry kind_sorted plain_sorted entry_sorted (args_sorted1 _) ?_
  unfold Builtin.«sorted»
  refine wpAny_bind (m := checkCount "sorted" 1 1 _) (wpAny_pure ?_)
  refine wpAny_bind (collect_set (A := A.in1) cool ⟨o, ho, hex.1, hd⟩ fits bnd r1 r2
    fun s1 vs keep1 up1 g1 o1 perm => ?_)
  have many : vs.length = n := by
    rw [perm.length_eq, List.length_map, Array.length_toList]
    exact cnt
  have line : vs.length ≤ sizeLine := by rw [many, sizeLine_eq]; omega
  have areI : IntsAre vs (vs.map Builtin.Re.reRawOf) := ints_of vs fun v hv => by
    obtain ⟨e, he, q⟩ := List.mem_map.mp (perm.mem_iff.mp hv)
    obtain ⟨k, tk, h1, _⟩ := good e he
    exact ⟨k, tk, q ▸ h1⟩
  have keys : (vs.map Builtin.Re.reRawOf).Perm (es.toList.map keyOf) := by
    have := perm.map Builtin.Re.reRawOf
    rwa [List.map_map] at this
  refine wpAny_bind (wpAny_newList ?_ line)
  have new1 : (s1.heap.push (seqObj "list" vs.toArray 0)).get? s1.heap.objs.size =
    some (seqObj "list" vs.toArray 0) := Heap.get?_push_size _ rfl
  refine wpAny_bind (wpAny_holding (wpAny_call_entry slot_list_sort ⟨_, new1, rfl⟩ entry_list_sort
    (SrtO.list_sort_ord SrtO.swo_int new1 line (fun two => SrtO.ints_sortable areI two)
      fun out srt stb => ⟨_, rfl, ?_⟩) (args_list_sort _)))
  obtain ⟨k1, k2, k3⟩ := SrtO.ints_out areI srt stb
  obtain ⟨c, hc⟩ := sortedHeap_at (vs := vs) (out := out.toArray) new1
  have pn : (out.map SrtO.iv).Perm (es.toList.map keyOf) := k2.trans keys
  refine wpAny_pure ⟨_, rfl, after _ s1.heap.objs.size out.toArray c (out.map SrtO.iv) (fun b u e => ?_)
    g1 o1 up1 hc k1 (lt_of_le_nodup _ k3 (pn.nodup_iff.mpr nd)) (fun k => by rw [pn.mem_iff, ← mem k]) ?_⟩
  · have old := keep1 b u e
    have lt := Heap.lt_size old
    show (sortedHeap (s1.heap.push (seqObj "list" vs.toArray 0)) s1.heap.objs.size vs out.toArray).get? b = some u
    rw [sortedHeap_old (Nat.ne_of_lt lt) (by rw [size_push']; exact Nat.lt_succ_of_lt lt)]
    exact Heap.get?_push_of_some _ old
  · rw [pn.length_eq, List.length_map, Array.length_toList]
    exact cnt
end
def rSortedN (w : World) : List V → Hp → VK → Prop := fun vs H Q => ∃ (a : Addr) (S : Int → Bool) (n : Nat),
  vs = [V.ref a] ∧ H a = some (SetO w a S n) ∧ n ≤ 16000000 ∧ ∀ (ns : List Int) (p : Addr), ns.Pairwise (· < ·) →
    (∀ k : Int, k ∈ ns ↔ S k = true) → ns.length = n → H p = none → Q (.ref p) (upd H p (.lst (ns.map V.int)))
theorem cr_sortedN {X : Cx} (cool : X.calm = true) : CallR X (.builtin "sorted") (rSortedN X.w) := by
  intro pins s σ H vs us Q I rel h
  obtain ⟨a, S, n, rfl, ha, few, q⟩ := h
  rw [Vals.ref1 rel]
  refine sorted_setN (setO_get I ha) (I.ok.hd cool) few fun s2 p out c ns old g o up at_ areI asc mem cnt => ?_
  have free : H p = none := I.hok.fresh up
  have line : (ns.map V.int).length ≤ sizeLine := by rw [List.length_map, cnt, sizeLine_eq]; omega
  have J : Inv X pins σ (upd H p (.lst (ns.map V.int)))
      { s with heap := s2.heap, gens := s2.gens, drawn := s2.drawn, toks := s2.toks } :=
    I.call (ch := []) (Un.laid old up free) (I.hok.laid old up ⟨line, out.toList, c, vals_of_ints areI, at_⟩)
      (by rw [g]; exact I.bare) (fun _ z => nomatch z)
  have same : s2 = { s with heap := s2.heap, gens := s2.gens, drawn := s2.drawn, toks := s2.toks } := by
    cases s2; cases s; cases o; rfl
  rw [same]
  exact ⟨.ref p, _, J, rfl, q ns p asc mem cnt free⟩
end Cs

set_option Elab.async false
set_option linter.all false
set_option maxRecDepth 100000
set_option maxHeartbeats 4000000
/-! ### {x for .. in .. for .. in ..}, the members ints (after pe_lc2 of HandS.Comp and scK_core of CsSc) -/
namespace Cs
open PySem PySem.Spec PyProof.Rows L2 PpSet
theorem turnS_out (el a0 b0 a1 b1 : Expr) (c0 c1 : List Expr) (scope : Scope) (pos : Pos) (it acc : Value) (env : Env) :
    compTurn (.SetComp el [⟨a0, b0, c0, 0⟩, ⟨a1, b1, c1, 0⟩] scope pos) 0 it acc env = (do
      standAt b0.pos
      match ← pyNext it with
      | none => pure (.done .next)
      | some v =>
        letOwnedTupleGo a0 it v
        assign a0 env v
        let mut ok := true
        for c in c0 do
          if ok then ok ← isTrue c env (eval c env)
        if ok then
          let x ← eval b1 env
          standAt b1.pos
          let x ← foldedSetIterable b1 env x
          let _ ← runOwn (.compStart (.SetComp el [⟨a0, b0, c0, 0⟩, ⟨a1, b1, c1, 0⟩] scope pos) 1 (← holding [x] (pyIter x)) acc env) env
        again (.compLoop (.SetComp el [⟨a0, b0, c0, 0⟩, ⟨a1, b1, c1, 0⟩] scope pos) 0 it acc env)) := by rfl
theorem turnS_in (el a0 b0 a1 b1 : Expr) (c0 c1 : List Expr) (scope : Scope) (pos : Pos) (it acc : Value) (env : Env) :
    compTurn (.SetComp el [⟨a0, b0, c0, 0⟩, ⟨a1, b1, c1, 0⟩] scope pos) 1 it acc env = (do
      standAt b1.pos
      match ← pyNext it with
      | none => pure (.done .next)
      | some v =>
        letOwnedTupleGo a1 it v
        assign a1 env v
        let mut ok := true
        for c in c1 do
          if ok then ok ← isTrue c env (eval c env)
        if ok then
          (do let v ← eval el env; standAt el.pos; let _ ← call (.builtin "set.add") [acc, v])
        again (.compLoop (.SetComp el [⟨a0, b0, c0, 0⟩, ⟨a1, b1, c1, 0⟩] scope pos) 1 it acc env)) := by rfl
section
variable {prog : Program} {w : World} {A : Around} {R : Result → Shared → Prop} {s : Shared} {el a0 b0 a1 b1 : Expr} {c0 c1 : List Expr} {scope : Scope} {pos : Pos} {it acc : Value} {env : Env}
abbrev ES (el a0 b0 a1 b1 : Expr) (c0 c1 : List Expr) (scope : Scope) (pos : Pos) : Expr := .SetComp el [⟨a0, b0, c0, 0⟩, ⟨a1, b1, c1, 0⟩] scope pos
abbrev nt (prog : Program) (w : World) (A : Around) (env : Env) (R : Result → Shared → Prop) : Value → Shared → Prop := notedBy (model prog w) A env fun e s' => R (.error e) s'
theorem loopS_out (plain : ∀ x, foldedSetIterable b1 env x = pure x) (I : Nat → Shared → Prop)
    (turn : ∀ n s, I n s → wpAny (model prog w) A (pyNext it) (fun r s₁ => match r with
      | none => R (.ok .next) s₁
      | some v => wpAny (model prog w) A (letOwnedTupleGo a0 it v) (fun _ s2 => wpAny (model prog w) A (assign a0 env v) (fun _ s3 =>
          wpAny (model prog w) A (forIn c0 true fun c r => if r = true then do let ok ← isTrue c env (eval c env); pure (ForInStep.yield ok) else pure (ForInStep.yield r)) (fun ok s4 =>
            if ok = true then wpAny (model prog w) A (eval b1 env) (fun x sv => wpAny (model prog w) A (pyIter x) (fun it1 s6 =>
              codeAny (model prog w) A (.compStart (ES el a0 b0 a1 b1 c0 c1 scope pos) 1 it1 acc env) (fun r s' => match r with
                | .ok _ => ∃ m, m < n ∧ I m s'
                | .error _ => False) s6) (nt prog w A env R) sv) (nt prog w A env R) s4
            else ∃ m, m < n ∧ I m s4) (nt prog w A env R) s3) (nt prog w A env R) s2) (nt prog w A env R) s₁) (nt prog w A env R) s)
    (n : Nat) (h : I n s) : codeAny (model prog w) A (.compLoop (ES el a0 b0 a1 b1 c0 c1 scope pos) 0 it acc env) R s := by
  refine codeAny_loop rfl I (fun n s hI => ?_) n h
  show wpAny _ A ((compTurn (ES el a0 b0 a1 b1 c0 c1 scope pos) 0 it acc env).onRaise (fun x => do noteFrame x env; theTreesLotGoes x)) _ _ s
  refine wpAny_noted ?_
  rw [turnS_out]
  refine wpAny_bind (wpAny_standAt (wpAny_bind (wpAny_mono (turn n s hI) (fun r s1 g1 => ?_) fun _ _ z => z)))
  match r, g1 with
  | none, g1 => exact wpAny_pure g1
  | some v, g1 =>
    refine wpAny_bind (wpAny_mono g1 (fun _ s2 g2 => ?_) fun _ _ z => z)
    refine wpAny_bind (wpAny_mono g2 (fun _ s3 g3 => wpAny_bind (wpAny_mono g3 (fun ok s4 g4 => ?_) fun _ _ z => z)) fun _ _ z => z)
    match ok, g4 with
    | false, g4 => exact wpAny_pure ⟨rfl, g4⟩
    | true, g4 =>
      refine wpAny_bind (wpAny_mono g4 (fun x sv g5 => ?_) fun _ _ z => z)
      refine wpAny_bind (wpAny_standAt (wpAny_bind (wpAny_of_eq (plain x) (wpAny_bind (wpAny_holding (wpAny_mono g5 (fun it1 s6 g6 => ?_) fun _ _ z => z))))))
      refine wpAny_bind (wpAny_runOwn ?_)
      rw [Around.mark_none]
      refine codeAny_mono g6 fun r s' hr => ?_
      match r, hr with
      | .ok f, hr =>
        first
          | exact wpAny_pure ⟨rfl, hr⟩
          | exact wpAny_bind (wpAny_pure (wpAny_pure ⟨rfl, hr⟩))
      | .error e, hr => exact hr.elim
theorem loopS_in (I : Nat → Shared → Prop)
    (turn : ∀ n s, I n s → wpAny (model prog w) A (pyNext it) (fun r s₁ => match r with
      | none => R (.ok .next) s₁
      | some v => wpAny (model prog w) A (letOwnedTupleGo a1 it v) (fun _ s2 => wpAny (model prog w) A (assign a1 env v) (fun _ s3 =>
          wpAny (model prog w) A (forIn c1 true fun c r => if r = true then do let ok ← isTrue c env (eval c env); pure (ForInStep.yield ok) else pure (ForInStep.yield r)) (fun ok s4 =>
            if ok = true then wpAny (model prog w) A (eval el env) (fun x sv =>
              wpAny (model prog w) A (call (.builtin "set.add") [acc, x]) (fun _ s6 => ∃ m, m < n ∧ I m s6) (nt prog w A env R) sv) (nt prog w A env R) s4
            else ∃ m, m < n ∧ I m s4) (nt prog w A env R) s3) (nt prog w A env R) s2) (nt prog w A env R) s₁) (nt prog w A env R) s)
    (n : Nat) (h : I n s) : codeAny (model prog w) A (.compLoop (ES el a0 b0 a1 b1 c0 c1 scope pos) 1 it acc env) R s := by
  refine codeAny_loop rfl I (fun n s hI => ?_) n h
  show wpAny _ A ((compTurn (ES el a0 b0 a1 b1 c0 c1 scope pos) 1 it acc env).onRaise (fun x => do noteFrame x env; theTreesLotGoes x)) _ _ s
  refine wpAny_noted ?_
  rw [turnS_in]
  refine wpAny_bind (wpAny_standAt (wpAny_bind (wpAny_mono (turn n s hI) (fun r s1 g1 => ?_) fun _ _ z => z)))
  match r, g1 with
  | none, g1 => exact wpAny_pure g1
  | some v, g1 =>
    refine wpAny_bind (wpAny_mono g1 (fun _ s2 g2 => ?_) fun _ _ z => z)
    refine wpAny_bind (wpAny_mono g2 (fun _ s3 g3 => wpAny_bind (wpAny_mono g3 (fun ok s4 g4 => ?_) fun _ _ z => z)) fun _ _ z => z)
    match ok, g4 with
    | false, g4 => exact wpAny_pure ⟨rfl, g4⟩
    | true, g4 => exact wpAny_bind (wpAny_bind (wpAny_mono g4 (fun x sv g5 => wpAny_bind (wpAny_standAt (wpAny_bind (wpAny_mono g5 (fun _ s6 g6 => wpAny_pure (wpAny_pure ⟨rfl, g6⟩)) fun _ _ z => z)))) fun _ _ z => z))
theorem startS1 (h0 : codeAny (model prog w) A (.compLoop (ES el a0 b0 a1 b1 c0 c1 scope pos) 1 it acc env) R s)
    (h : wpAny (model prog w) A (pyIter it) (fun it' s' => codeAny (model prog w) A (.compLoop (ES el a0 b0 a1 b1 c0 c1 scope pos) 1 it' acc env) R s') (nt prog w A env R) s) :
    codeAny (model prog w) A (.compStart (ES el a0 b0 a1 b1 c0 c1 scope pos) 1 it acc env) R s := by
  refine codeAny_of_tree ?_
  show wpAny _ _ ((compStart (ES el a0 b0 a1 b1 c0 c1 scope pos) 1 it acc env).onRaise (fun x => do noteFrame x env; standAt theWindowsPlace)) _ _ s
  refine wpAny_notedAt ?_
  unfold compStart
  show wpAny _ _ (ask >>= _) _ _ s
  refine wpAny_bind (wpAny_askSetting (wpAny_ite ?_))
  split
  · first
      | exact wpAny_bind (wpAny_pure (wpAny_pure (And.intro rfl h0)))
      | exact wpAny_pure (And.intro rfl h0)
  · first
      | exact wpAny_bind (wpAny_rule (wpAny_bind (wpAny_standAt (wpAny_bind (wpAny_mono h (fun _ _ g => wpAny_pure (And.intro rfl g)) fun _ _ z => z)))))
      | (refine wpAny_bind (wpAny_rule ?_); show wpAny _ _ (standAt b1.pos >>= _) _ _ s; exact wpAny_bind (wpAny_standAt (wpAny_bind (wpAny_mono h (fun _ _ g => wpAny_pure (And.intro rfl g)) fun _ _ z => z))))
end
section
variable {X : Cx}
abbrev noI : Int → Bool := fun _ => false
abbrev withI (S : Int → Bool) (k : Int) : Int → Bool := fun j => S j || decide (j = k)
theorem addI_ok {pins : List (Addr × Obj)} {σ : L2.St} {H : Hp} {s : Shared} {E : Value → Shared → Prop} {D : Addr} {S : Int → Bool} {n : Nat} {k : Int} {t : Tok} {Q : Value → Shared → Prop} (I : Inv X pins σ H s) (at_ : H D = some (SetO X.w D S n)) (few : n + 1 < scanBound)
    (q : ∀ s', Inv X pins σ (upd H D (SetO X.w D (withI S k) (if S k = true then n else n + 1))) s' → Q .none s') : wpAny (model X.prog X.w) X.A (call (.builtin "set.add") [.ref D, .int k t]) Q E s :=
  setR_add (setO_get I at_) few fun h' sb new => q _ (I.write (e := D) (t' := s.toks + 1) (by rw [at_]; trivial) (.inl rfl) (fun b o hb ho => (sb.2 b hb).trans ho) (let ⟨o, _, _, _, ho, _⟩ := new; ⟨o, ho⟩) (setO_new new))
/-- what it asks: as tLc2 does, D a set of ints -/
def tSc2 (w : World) (wi : TI) (g : TG) (tt : TT) (wi1 : TI) (g1 : TG) (tt1 : TT) (te : TE) (vs vs1 : List Nat) : TE := fun σ H Q => wi σ H fun J H1 => ∀ D, H1 D = none → ∃ W : Nat → Nat → Hp → Prop, (∃ m, W 0 m (upd H1 D (SetO w D noI 0))) ∧ ∀ i m H, W i m H →
  (J.stop i H ∧ Q (.ref D) H) ∨ (J.go i H ∧ ∃ more : Hp → Prop, (∀ H', more H' → ∃ m', m' < m ∧ W (i + 1) m' H') ∧ ∀ x H', J.yld i H x H' → g x (wipe σ vs) H' fun σ2 H2 => wipe σ2 vs = wipe σ vs ∧ tt σ2 H2 fun b H3 =>
    if b = true then wi1 σ2 H3 fun Ji H4 => ∃ Wi : Nat → Nat → Hp → Prop, (∃ m, Wi 0 m H4) ∧ ∀ j k H, Wi j k H →
      (Ji.stop j H ∧ more H) ∨ (Ji.go j H ∧ ∃ more1 : Hp → Prop, (∀ H', more1 H' → ∃ k', k' < k ∧ Wi (j + 1) k' H') ∧ ∀ x H', Ji.yld j H x H' → g1 x (wipe σ2 vs1) H' fun σ3 Hv => wipe σ3 vs1 = wipe σ2 vs1 ∧ tt1 σ3 Hv fun b H6 =>
        if b = true then te σ3 H6 fun y Hx => ∃ (k : Int) (S : Int → Bool) (n : Nat), y = .int k ∧ Hx D = some (SetO w D S n) ∧ n + 1 < scanBound ∧ more1 (upd Hx D (SetO w D (withI S k) (if S k = true then n else n + 1))) else more1 H6)
    else more H3)
theorem sc2_core {pins : List (Addr × Obj)} {s : Shared} {σ : L2.St} {H : Hp} {Q : VK} {el tg it tg1 it1 : Expr} {cs cs1 : List Expr} {scope : Scope} {own : List (PySem.Str × Nat)} {vs1 : List Nat} {pos pos' : Pos} {wi wi1 : TI} {g g1 : TG} {tt tt1 : TT} {te : TE} {use : Option (Value → Sem Unit)} {Qf : Value → Shared → Prop}
    (hc : X.calm = true) (hN : X.N.Nodup) (I : Inv X pins σ H s) (hi : PI X tg it wi) (ok : BlkOk X.N X.env.scope scope own) (hv : ∀ i ∈ vs1, i ∈ own.map (·.2))
    (hg : ∀ (s : Shared) (H : Hp) (C : Addr) (cl : List (PySem.Str × Addr)) (fp : List Addr), PG (X.blk s H scope (compEnvC scope cl C X.env) fp) tg g)
    (ht : ∀ (s : Shared) (H : Hp) (C : Addr) (cl : List (PySem.Str × Addr)) (fp : List Addr), PTs (X.blk s H scope (compEnvC scope cl C X.env) fp) cs tt)
    (he : ∀ (s : Shared) (H : Hp) (C : Addr) (cl : List (PySem.Str × Addr)) (fp : List Addr), PE (X.blk s H scope (compEnvC scope cl C X.env) fp) el te)
    (hs : ∀ x, foldedSetIterable it X.env x = pure x)
    (hi1 : ∀ (s : Shared) (H : Hp) (C : Addr) (cl : List (PySem.Str × Addr)) (fp : List Addr), PI (X.blk s H scope (compEnvC scope cl C X.env) fp) tg1 it1 wi1)
    (hg1 : ∀ (s : Shared) (H : Hp) (C : Addr) (cl : List (PySem.Str × Addr)) (fp : List Addr), PG (X.blk s H scope (compEnvC scope cl C X.env) fp) tg1 g1)
    (ht1 : ∀ (s : Shared) (H : Hp) (C : Addr) (cl : List (PySem.Str × Addr)) (fp : List Addr), PTs (X.blk s H scope (compEnvC scope cl C X.env) fp) cs1 tt1)
    (hs1 : ∀ env x, foldedSetIterable it1 env x = pure x) (h : tSc2 X.w wi g tt wi1 g1 tt1 te (own.map (·.2)) vs1 σ H Q)
    (done : ∀ D C s' m H', Inv X pins σ H' s' → Q (.ref D) H' → s'.heap.Ns C m → FpOk X pins H' C → compPost (model X.prog X.w) X.A X.xe use Qf (.ref D) C (.ok .next) s') :
    wpAny (model X.prog X.w) X.A (comprehension (ES el tg it tg1 it1 cs cs1 scope pos) scope X.env pos' (newSet (.type "set")) false (eval it X.env) use) Qf X.xe s := by
  refine wpAny_comprehension_free (use := use) rfl hs (closure_ok fun y hy e => (ok.free y hy e).elim (fun k => I.ok.has _ (.inl k)) fun k => I.ok.has _ (.inr k)) ok.kind (fun y hy e => by rw [ok.uniq y hy, e])
    (thn (hi.run pins s σ H _ I h) fun xv s1 hx => thn hx fun itv s2 ⟨ia, fp, tn, J, H2, eq, I2, T, st2, f2, q⟩ => ?_)
  subst eq
  refine newSet_ok (newEnv_comp ?_)
  generalize eD : s2.heap.objs.size = D
  have free : H2 D = none := I2.hok.fresh (Nat.le_of_eq eD)
  obtain ⟨W, ⟨m0, w0⟩, turn⟩ := q D free
  generalize e3 : ({ s2 with heap := s2.heap.push { cls := .type "set", dict := none, data := .set #[] 0 (.fresh 0 0 (!X.w.params.followText "set-order")) } } : Shared) = s3
  have heap3 : s3.heap = s2.heap.push { cls := .type "set", dict := none, data := .set #[] 0 (.fresh 0 0 (!X.w.params.followText "set-order")) } := by rw [← e3]
  have I3 : Inv X pins σ (upd H2 D (SetO X.w D noI 0)) s3 := by
    rw [← e3, ← eD]
    exact I2.laid (t' := s2.toks) (fun b o e => Heap.get?_push_of_some _ e) (Nat.le_refl _) (setO_new (setR_fresh X.w))
  have below : ∀ b ∈ fp, b < s2.heap.objs.size := fun b hb => let ⟨o, e, _⟩ := T.obj _ _ st2 b hb; Heap.lt_size e
  have f3 : ∀ b ∈ fp, FpOk X pins (upd H2 D (SetO X.w D noI 0)) b ∧ b < s3.heap.objs.size := fun b hb =>
    ⟨⟨by rw [upd_ne (by rw [← eD]; exact Nat.ne_of_lt (below b hb))]; exact (f2 b hb).1, (f2 b hb).2⟩, by rw [heap3, Heap.size_push]; exact Nat.lt_succ_of_lt (below b hb)⟩
  have I4 := block_start I3 ok hN f3
  have pg := hg s3 (upd H2 D (SetO X.w D noI 0)) s3.heap.objs.size (cellsFrom (s3.heap.objs.size + 1) scope.names (cloFrom X.env.cells scope.names [])) fp
  have pt := ht s3 (upd H2 D (SetO X.w D noI 0)) s3.heap.objs.size (cellsFrom (s3.heap.objs.size + 1) scope.names (cloFrom X.env.cells scope.names [])) fp
  have pe := he s3 (upd H2 D (SetO X.w D noI 0)) s3.heap.objs.size (cellsFrom (s3.heap.objs.size + 1) scope.names (cloFrom X.env.cells scope.names [])) fp
  have pi1 := hi1 s3 (upd H2 D (SetO X.w D noI 0)) s3.heap.objs.size (cellsFrom (s3.heap.objs.size + 1) scope.names (cloFrom X.env.cells scope.names [])) fp
  have pg1 := hg1 s3 (upd H2 D (SetO X.w D noI 0)) s3.heap.objs.size (cellsFrom (s3.heap.objs.size + 1) scope.names (cloFrom X.env.cells scope.names [])) fp
  have pt1 := ht1 s3 (upd H2 D (SetO X.w D noI 0)) s3.heap.objs.size (cellsFrom (s3.heap.objs.size + 1) scope.names (cloFrom X.env.cells scope.names [])) fp
  show codeAny _ _ (.compStart (ES el tg it tg1 it1 cs cs1 scope pos) 0 (.ref ia) (.ref D) (compEnvC scope (cellsFrom (s3.heap.objs.size + 1) scope.names (cloFrom X.env.cells scope.names [])) s3.heap.objs.size X.env)) (compPost (model X.prog X.w) X.A X.xe use Qf (.ref D) s3.heap.objs.size) { s3 with heap := pushCells (s3.heap.push { cls := .type "dict", data := .dict #[] }) scope.names }
  have none3 : ∀ b ∈ fp, (upd H2 D (SetO X.w D noI 0)) b = none := fun b hb => (f3 b hb).1.1
  generalize ec : compEnvC scope (cellsFrom (s3.heap.objs.size + 1) scope.names (cloFrom X.env.cells scope.names [])) s3.heap.objs.size X.env = ce at I4 pg pt pe pi1 pg1 pt1 ⊢
  have loc : ce.locals = s3.heap.objs.size := by subst ec; rfl
  generalize upd H2 D (SetO X.w D noI 0) = H3 at I3 I4 pg pt pe pi1 pg1 pt1 w0 none3 f3
  generalize e4 : ({ s3 with heap := pushCells (s3.heap.push { cls := .type "dict", data := .dict #[] }) scope.names } : Shared) = s4 at I4 ⊢
  have st3 : tn 0 s3.heap := T.keep _ _ _ st2 fun b _ o e => by rw [heap3]; exact Heap.get?_push_of_some _ e
  have st4 : tn 0 s4.heap := T.keep _ _ _ st3 fun b _ o e => by rw [← e4]; exact pushCells_keeps _ _ _ _ (Heap.get?_push_of_some _ e)
  have still : ∀ {σ' : L2.St} {H' : Hp} {s' : Shared}, Inv (X.blk s3 H3 scope ce fp) [] σ' H' s' → (∀ b ∈ fp, H' b = none) → ∀ b ∈ fp, FpOk (X.blk s3 H3 scope ce fp) [] H' b := fun I' hn b hb =>
    ⟨hn b hb, (I'.ok.exf b hb).1, I'.ok.exfs b hb, .inl hb, fun x c e => (I'.ok.exf b hb).2 x c e, fun p hp => absurd (show p ∈ ([] : List (Addr × Obj)) ++ [] from hp) (by simp)⟩
  have loop : codeAny (model X.prog X.w) X.A (.compLoop (ES el tg it tg1 it1 cs cs1 scope pos) 0 (.ref ia) (.ref D) ce) (compPost (model X.prog X.w) X.A X.xe use Qf (.ref D) s3.heap.objs.size) s4 := by
    refine loopS_out (hs1 ce) (fun n s' => ∃ i H', Inv (X.blk s3 H3 scope ce fp) [] (wipe σ (own.map (·.2))) H' s' ∧ tn i s'.heap ∧ (∀ b ∈ fp, H' b = none) ∧ W i n H') ?_ m0 ⟨0, H3, I4, st4, none3, w0⟩
    rintro n sv ⟨i, Hv, I5, st5, n5, w5⟩
    rcases turn i n Hv w5 with ⟨stop, last⟩ | ⟨go, more, next, step⟩
    · refine thnF (T.done (X.blk s3 H3 scope ce fp) rfl rfl rfl hc i [] sv _ Hv (fun _ _ => False) I5 (still I5 n5) st5 stop) fun r s6 ⟨er, I6⟩ => ?_
      subst er
      have unused : Hv ce.locals = none := I6.free
      obtain ⟨m, ns, _⟩ := I6.loc
      have ns : s6.heap.Ns ce.locals m := ns
      rw [loc] at ns unused
      exact done D s3.heap.objs.size s6 m Hv (I3.call' (ch := fp) I6.os I6.base I6.hok I6.bare fun b hb => ⟨(f3 b hb).1.2.2.2.1, (f3 b hb).1.2.1, (f3 b hb).1.2.2.2.2.1, (f3 b hb).1.2.2.2.2.2⟩) last ns (I3.fpOk (Nat.le_refl _) unused)
    · refine thnF (T.item (X.blk s3 H3 scope ce fp) rfl rfl rfl hc i [] sv _ Hv (fun _ _ => False) I5 (still I5 n5) st5 go) fun r s6 ⟨u, er, h6⟩ => ?_
      subst er
      refine thnF h6 fun _ sx ⟨x, Hx, I7, r7, y7, st7, n7⟩ => ?_
      refine thnF (pg.run _ sx _ Hx x u _ (I7.pinned (still I7 n7) (T.obj _ _ st7)) r7 (step x Hx y7)) fun _ s8 ⟨σ8, H8, I8, w8, q8⟩ => ?_
      refine thnF (pt.run _ s8 σ8 H8 _ I8 q8) fun b sy ⟨Hy, I9, qy⟩ => ?_
      have round : ∀ {σ9 : L2.St} {s' : Shared} {H' : Hp}, Inv (X.blk s3 H3 scope ce fp) ([] ++ pinsAt fp sx.heap) σ9 H' s' → (wipe σ (own.map (·.2))).length = σ9.length → (∀ (j : Nat) v, (wipe σ (own.map (·.2)))[j]? = some (some v) → σ9[j]? = some (some v)) → more H' →
          ∃ m, m < n ∧ ∃ i H', Inv (X.blk s3 H3 scope ce fp) [] (wipe σ (own.map (·.2))) H' s' ∧ tn i s'.heap ∧ (∀ b ∈ fp, H' b = none) ∧ W i m H' := fun {σ9 s' H'} I' len keep nx => by
        obtain ⟨m', lt, w'⟩ := next H' nx
        have held : ∀ b ∈ fp, ∀ o, sx.heap.get? b = some o → s'.heap.get? b = some o ∧ H' b = none := fun b hb o e => let z := I'.pin (b, o) (List.mem_append_right _ (List.mem_append_right _ (mem_pinsAt hb e))); ⟨z.1, z.2.1⟩
        refine ⟨m', lt, i + 1, H', (I'.unpinned (pins := [])).weak len keep, T.keep _ _ _ st7 fun b hb o e => (held b hb o e).1, fun b hb => ?_, w'⟩
        obtain ⟨o, e, _⟩ := T.obj _ _ st7 b hb
        exact (held b hb o e).2
      have len8 : (wipe σ (own.map (·.2))).length = σ8.length := by rw [← w8, wipe_length]
      have keep8 : ∀ (j : Nat) v, (wipe σ (own.map (·.2)))[j]? = some (some v) → σ8[j]? = some (some v) := fun j v e => by
        rw [← w8] at e
        exact (wipe_some e).1
      have keep9 : ∀ (j : Nat) v, (wipe σ (own.map (·.2)))[j]? = some (some v) → (wipe σ8 vs1)[j]? = some (some v) := fun j v e => by
        rw [← w8] at e
        obtain ⟨y1, y2⟩ := wipe_some e
        rw [wipe_out fun z => y2 (hv j z)]
        exact y1
      match b, qy with
      | false, qy =>
        simp only [Bool.false_eq_true, if_false] at qy ⊢
        exact round I9 len8 keep8 qy
      | true, qy =>
        simp only [if_true] at qy ⊢
        refine thnF (pi1.run _ sy σ8 Hy _ I9 qy) fun xv s10 hx => thnF hx fun itv s11 h11 => ?_
        obtain ⟨ia1, fp1, tn1, Ji, H11, eq1, I11, T1, st11, f11, Wi, ⟨m1, w1⟩, turn1⟩ := h11
        subst eq1
        have still1 : ∀ {H' : Hp}, (∀ b ∈ fp1, H' b = none) → ∀ b ∈ fp1, FpOk (X.blk s3 H3 scope ce fp) ([] ++ pinsAt fp sx.heap) H' b := fun hn b hb => ⟨hn b hb, (f11 b hb).2⟩
        have inner : codeAny (model X.prog X.w) X.A (.compLoop (ES el tg it tg1 it1 cs cs1 scope pos) 1 (.ref ia1) (.ref D) ce)
            (fun r s' => match r with
              | .ok _ => ∃ m, m < n ∧ ∃ i H', Inv (X.blk s3 H3 scope ce fp) [] (wipe σ (own.map (·.2))) H' s' ∧ tn i s'.heap ∧ (∀ b ∈ fp, H' b = none) ∧ W i m H'
              | .error _ => False) s11 := by
          refine loopS_in (fun k s' => ∃ j H', Inv (X.blk s3 H3 scope ce fp) ([] ++ pinsAt fp sx.heap) (wipe σ8 vs1) H' s' ∧ tn1 j s'.heap ∧ (∀ b ∈ fp1, H' b = none) ∧ Wi j k H') ?_ m1 ⟨0, H11, I11.weak (wipe_length _ _) (fun j v e => (wipe_some e).1), st11, fun b hb => (f11 b hb).1, w1⟩
          rintro k s12 ⟨j, Hm, I12, st12, n12, w12⟩
          rcases turn1 j k Hm w12 with ⟨stop1, nx1⟩ | ⟨go1, more1, next1, step1⟩
          · refine thnF (T1.done (X.blk s3 H3 scope ce fp) rfl rfl rfl hc j _ s12 (wipe σ8 vs1) Hm (fun _ _ => False) I12 (still1 n12) st12 stop1) fun r s13 ⟨er, I13⟩ => ?_
            subst er
            exact round I13 (len8.trans (wipe_length σ8 vs1).symm) keep9 nx1
          · refine thnF (T1.item (X.blk s3 H3 scope ce fp) rfl rfl rfl hc j _ s12 (wipe σ8 vs1) Hm (fun _ _ => False) I12 (still1 n12) st12 go1) fun r s13 ⟨u1, er, h13⟩ => ?_
            subst er
            refine thnF h13 fun _ s14 ⟨x1, Hn, I14, r14, y14, st14, n14⟩ => ?_
            refine thnF (pg1.run _ s14 (wipe σ8 vs1) Hn x1 u1 _ (I14.pinned (still1 n14) (T1.obj _ _ st14)) r14 (step1 x1 Hn y14)) fun _ s15 ⟨σ15, H15, I15, w15, q15⟩ => ?_
            refine thnF (pt1.run _ s15 σ15 H15 _ I15 q15) fun b1 s16 ⟨Ho, I16, qo⟩ => ?_
            have round1 : ∀ {s' : Shared} {H' : Hp}, Inv (X.blk s3 H3 scope ce fp) (([] ++ pinsAt fp sx.heap) ++ pinsAt fp1 s14.heap) σ15 H' s' → more1 H' → ∃ m, m < k ∧ ∃ j H', Inv (X.blk s3 H3 scope ce fp) ([] ++ pinsAt fp sx.heap) (wipe σ8 vs1) H' s' ∧ tn1 j s'.heap ∧ (∀ b ∈ fp1, H' b = none) ∧ Wi j m H' := fun {s' H'} I' nx => by
              obtain ⟨m', lt, w'⟩ := next1 H' nx
              have held : ∀ b ∈ fp1, ∀ o, s14.heap.get? b = some o → s'.heap.get? b = some o ∧ H' b = none := fun b hb o e => let z := I'.pin (b, o) (List.mem_append_right _ (List.mem_append_right _ (mem_pinsAt hb e))); ⟨z.1, z.2.1⟩
              refine ⟨m', lt, j + 1, H', I'.unpinned.weak (by rw [← w15, wipe_length]) (fun j v e => by rw [← w15] at e; exact (wipe_some e).1), T1.keep _ _ _ st14 fun b hb o e => (held b hb o e).1, fun b hb => ?_, w'⟩
              obtain ⟨o, e, _⟩ := T1.obj _ _ st14 b hb
              exact (held b hb o e).2
            match b1, qo with
            | false, qo =>
              simp only [Bool.false_eq_true, if_false] at qo ⊢
              exact round1 I16 qo
            | true, qo =>
              simp only [if_true] at qo ⊢
              refine thnF (pe.run _ s16 σ15 Ho _ I16 qo) fun z s17 ⟨y, H17, I17, r17, k0, S, n0, ey, at17, few, nx⟩ => ?_
              subst ey
              obtain ⟨tk, rfl⟩ := r17
              exact addI_ok (X := X.blk s3 H3 scope ce fp) I17 at17 few fun s18 I18 => round1 I18 nx
        exact startS1 inner (T1.self X.A 0 _ _ _ st11 inner)
  exact codeAny_compStart_set loop (T.self X.A 0 _ _ _ st4 loop)
theorem pe_sc2 {el tg it tg1 it1 : Expr} {cs cs1 : List Expr} {scope : Scope} {own : List (PySem.Str × Nat)} {vs1 : List Nat} {pos : Pos} {wi wi1 : TI} {g g1 : TG} {tt tt1 : TT} {te : TE}
    (hc : X.calm = true) (hN : X.N.Nodup) (hi : PI X tg it wi) (ok : BlkOk X.N X.env.scope scope own) (hv : ∀ i ∈ vs1, i ∈ own.map (·.2))
    (hg : ∀ (s : Shared) (H : Hp) (C : Addr) (cl : List (PySem.Str × Addr)) (fp : List Addr), PG (X.blk s H scope (compEnvC scope cl C X.env) fp) tg g)
    (ht : ∀ (s : Shared) (H : Hp) (C : Addr) (cl : List (PySem.Str × Addr)) (fp : List Addr), PTs (X.blk s H scope (compEnvC scope cl C X.env) fp) cs tt)
    (hi1 : ∀ (s : Shared) (H : Hp) (C : Addr) (cl : List (PySem.Str × Addr)) (fp : List Addr), PI (X.blk s H scope (compEnvC scope cl C X.env) fp) tg1 it1 wi1)
    (hg1 : ∀ (s : Shared) (H : Hp) (C : Addr) (cl : List (PySem.Str × Addr)) (fp : List Addr), PG (X.blk s H scope (compEnvC scope cl C X.env) fp) tg1 g1)
    (ht1 : ∀ (s : Shared) (H : Hp) (C : Addr) (cl : List (PySem.Str × Addr)) (fp : List Addr), PTs (X.blk s H scope (compEnvC scope cl C X.env) fp) cs1 tt1)
    (he : ∀ (s : Shared) (H : Hp) (C : Addr) (cl : List (PySem.Str × Addr)) (fp : List Addr), PE (X.blk s H scope (compEnvC scope cl C X.env) fp) el te)
    (hs : ∀ x, foldedSetIterable it X.env x = pure x := by intro _; rfl) (hs1 : ∀ env x, foldedSetIterable it1 env x = pure x := by intro _ _; rfl) :
    PE X (ES el tg it tg1 it1 cs cs1 scope pos) (tSc2 X.w wi g tt wi1 g1 tt1 te (own.map (·.2)) vs1) := by
  refine ⟨fun pins s σ H Q I h => ?_⟩
  rw [eval_SetComp]
  refine sc2_core hc hN I hi ok hv hg ht he hs hi1 hg1 ht1 hs1 h fun D C s' m H' I' q hn f => ⟨m, hn, fun h2 sb => ?_⟩
  obtain ⟨g0, f1, f2, f3, f4, f5⟩ := f
  exact ⟨.ref D, H', I'.turned (t' := s'.toks) (fun b o hb e => (sb.2 b hb).trans e) g0 f1 f3 f4 f5, rfl, q⟩
end
end Cs

set_option Elab.async false
set_option linter.all false
set_option maxRecDepth 100000
set_option maxHeartbeats 4000000
/-! Sets of texts that can be walked: {x for ..}, sorted(s), of any number of members below the line. -/
namespace Cs
open PySem PySem.Spec PyProof.Rows L2 PpSet
/-! ### sorting texts -/
def sv : Value → PySem.Str
  | .str x _ => x
  | _ => PySem.Str.empty
def ltSv (v u : Value) : Bool := decide ((sv v).cps.toList < (sv u).cps.toList)
theorem swo_str : SrtO.Swo ltSv := by
  refine ⟨fun x y h => ?_, fun x y z h1 h2 => ?_⟩
  · have a := of_decide_eq_true (p := (sv x).cps.toList < (sv y).cps.toList) h
    exact decide_eq_false (p := (sv y).cps.toList < (sv x).cps.toList) (List.lt_asymm a)
  · have a := of_decide_eq_false (p := (sv y).cps.toList < (sv x).cps.toList) h1
    have b := of_decide_eq_false (p := (sv z).cps.toList < (sv y).cps.toList) h2
    exact decide_eq_false (p := (sv z).cps.toList < (sv x).cps.toList) fun c => by
      rcases Decidable.em ((sv x).cps.toList < (sv y).cps.toList) with q | q
      · exact b (List.lt_trans c q)
      · have e : (sv x).cps.toList = (sv y).cps.toList := List.le_antisymm (List.not_lt.mp a) (List.not_lt.mp q)
        rw [e] at c
        exact b c
theorem strs_mem : ∀ {vs : List Value} {ss : List PySem.Str}, StrsAre vs ss → ∀ v ∈ vs, ∃ x t, v = Value.str x t
  | _, _, .nil, v, h => absurd h (by simp)
  | _, _, .cons n t r, v, h => (List.mem_cons.mp h).elim (fun e => ⟨n, t, e⟩) (strs_mem r v)
theorem strs_sv : ∀ {vs : List Value}, (∀ v ∈ vs, ∃ x t, v = Value.str x t) → StrsAre vs (vs.map sv)
  | [], _ => .nil
  | v :: vs, h => by
    obtain ⟨i, t, e⟩ := h v List.mem_cons_self
    subst e
    exact .cons i t (strs_sv fun u hu => h u (List.mem_cons_of_mem _ hu))
theorem sv_strs : ∀ {vs : List Value} {ss : List PySem.Str}, StrsAre vs ss → vs.map sv = ss
  | _, _, .nil => rfl
  | _, _, .cons n t r => congrArg (n :: ·) (sv_strs r)
section
variable {prog : Program} {w : World} {A : Around} {E : Value → Shared → Prop} {s : Shared}
theorem strs_sortable {a : Addr} {vs : List Value} {ss : List PySem.Str} (hS : StrsAre vs ss) (h2 : 2 ≤ vs.length) : SrtO.SortableO prog w A s a vs ltSv := by
  intro h' _
  refine ⟨oneType', fun Q E hq => ?_, fun p q hm hm' => ?_⟩
  · match vs, hS, h2 with
    | v1 :: v2 :: rest, hS, _ =>
      rw [keyKind_strs hS]
      exact wpAny_pure hq
    | [], _, h => exact absurd h (by decide)
    | [v], _, h => exact absurd h (by simp)
  · obtain ⟨a, t, e⟩ := strs_mem hS _ hm
    obtain ⟨b, u, e'⟩ := strs_mem hS _ hm'
    show wpAny (model prog w) A (keyLt' oneType' p.1 q.1) (fun r s' => s' = _ ∧ r = ltSv p.1 q.1) (fun _ _ => False) _
    rw [e, e', keyLt'_oneType]
    exact oneLt_str ⟨rfl, rfl⟩
end
theorem strs_vals : ∀ {us : List Value} {ss : List PySem.Str}, StrsAre us ss → Vals (ss.map V.str) us
  | _, _, .nil => .nil
  | _, _, .cons x t r => .cons ⟨t, rfl⟩ (strs_vals r)
end Cs

set_option Elab.async false
set_option linter.all false
set_option maxRecDepth 100000
set_option maxHeartbeats 4000000
/-! Sets of keys (ints, texts) that can be walked: set.add, {x for ..}, sorted(s) of texts. -/
namespace Cs
open PySem PySem.Spec PyProof.Rows L2 PpSet
section
variable {P : Program} {w : World}
/-- no key is both of these -/
abbrev Far (P : Program) (w : World) (e f : Int × Value) : Prop := ∀ k, (mixKind P w).is k e.2 = true → (mixKind P w).is k f.2 = false
theorem far_symm {e f : Int × Value} (h : Far P w e f) : Far P w f e := fun k hf => by
  cases c : (mixKind P w).is k e.2 with
  | false => rfl
  | true => rw [h k c] at hf; cases hf
theorem far_perm {l l' : List (Int × Value)} (p : l.Perm l') : l.Pairwise (Far P w) ↔ l'.Pairwise (Far P w) := p.pairwise_iff far_symm
/-- the table es, t of a set at a holds the keys S, n of them, and can be walked -/
structure Tab (P : Program) (w : World) (es : Array (Int × Value)) (t : SetTable) (S : Key → Bool) (n : Nat) : Prop where
  elems : ElemsOf (mixKind P w) es.toList
  mem : ∀ k, S k = true ↔ ∃ e ∈ es.toList, (mixKind P w).is k e.2 = true
  low : es.size < scanBound
  fits : t.fits es.size = true
  size : es.size = n
  far : es.toList.Pairwise (Far P w)
  ris : Ris t.place.toList
  led : w.params.followText "set-order" = true ∨ t.led = true
def Wk (P : Program) (w : World) (h : Heap) (a : Addr) (S : Key → Bool) (n : Nat) : Prop := ∃ o es ep t, h.get? a = some o ∧ o.ExactSet ∧ o.data = .set es ep t ∧ Tab P w es t S n
theorem Wk.setOf {h : Heap} {a : Addr} {S : Key → Bool} {n : Nat} (R : Wk P w h a S n) : h.SetOf (mixKind P w) a S n := by
  obtain ⟨o, es, ep, t, ho, hx, hd, T⟩ := R
  exact ⟨o, es, ep, t, ho, hx, hd, T.elems, T.mem, T.low, T.fits, T.size⟩
theorem Wk.at {h h' : Heap} {a : Addr} {S : Key → Bool} {n : Nat} (R : Wk P w h a S n) (k : ∀ o, h.get? a = some o → h'.get? a = some o) : Wk P w h' a S n := by
  obtain ⟨o, es, ep, t, ho, r⟩ := R
  exact ⟨o, es, ep, t, k o ho, r⟩
theorem Tab.perm {es es' : Array (Int × Value)} {t t' : SetTable} {S : Key → Bool} {n : Nat} (T : Tab P w es t S n) (p : es'.toList.Perm es.toList) (f : t'.fits es'.size = true) (r : Ris t'.place.toList) (l : w.params.followText "set-order" = true ∨ t'.led = true) : Tab P w es' t' S n := by
  have hs : es'.size = es.size := by rw [← Array.length_toList, p.length_eq, Array.length_toList]
  refine ⟨fun e he => T.elems e (p.mem_iff.mp he), fun k => (T.mem k).trans ⟨fun ⟨e, he, q⟩ => ⟨e, p.mem_iff.mpr he, q⟩, fun ⟨e, he, q⟩ => ⟨e, p.mem_iff.mp he, q⟩⟩, hs ▸ T.low, f, hs.trans T.size, (far_perm p).mpr T.far, r, l⟩
/-- one key more -/
theorem Tab.more {es es' : Array (Int × Value)} {t t' : SetTable} {S : Key → Bool} {n : Nat} {k : Key} {v : Value} (T : Tab P w es t S n) (hv : (mixKind P w).is k v = true) (hs : v.scannable = true) (out : S k = false) (room : n + 1 < scanBound)
    (p : es'.toList.Perm (((mixKind P w).hash k, v) :: es.toList)) (f : t'.fits es'.size = true) (r : Ris t'.place.toList) (l : w.params.followText "set-order" = true ∨ t'.led = true) : Tab P w es' t' (fun j => S j || decide (j = k)) (n + 1) := by
  have hz : es'.size = n + 1 := by rw [← Array.length_toList, p.length_eq, List.length_cons, Array.length_toList, T.size]
  refine ⟨fun e he => ?_, fun j => ?_, hz ▸ room, f, hz, (far_perm p).mpr (List.pairwise_cons.mpr ⟨fun e he j hj => ?_, T.far⟩), r, l⟩
  · rcases List.mem_cons.mp (p.mem_iff.mp he) with z | z
    · rw [z]; exact ⟨⟨k, hv, rfl⟩, hs⟩
    · exact T.elems e z
  · rw [Bool.or_eq_true, decide_eq_true_eq, T.mem j]
    constructor
    · rintro (⟨e, he, q⟩ | rfl)
      · exact ⟨e, p.mem_iff.mpr (List.mem_cons_of_mem _ he), q⟩
      · exact ⟨_, p.mem_iff.mpr List.mem_cons_self, hv⟩
    · rintro ⟨e, he, q⟩
      rcases List.mem_cons.mp (p.mem_iff.mp he) with z | z
      · rw [z] at q
        exact .inr ((mixKind P w).inj _ _ _ q hv)
      · exact .inl ⟨e, z, q⟩
  · have e1 : j = k := (mixKind P w).inj _ _ _ hj hv
    cases c : (mixKind P w).is j e.2 with
    | false => rfl
    | true =>
      rw [e1] at c
      rw [(T.mem k).mpr ⟨e, he, c⟩] at out
      cases out
variable {A : Around} {E : Value → Shared → Prop} {s : Shared} {a : Addr} {S : Key → Bool} {n : Nat}
theorem wk_store {h : Heap} {o : Obj} {es es' : Array (Int × Value)} {ep : Nat} {t t' : SetTable} (ho : h.get? a = some o) (hd : o.data = .set es ep t) : (h.update a (Obj.putSet es' t')).get? a = some { o with data := .set es' (ep + 1) t' } := by
  have q := Heap.get?_update_self (Obj.putSet es' t') ho (by rw [putSet_of es' t' hd]; rfl)
  rw [putSet_of es' t' hd] at q
  exact q
/-- the table is written, and again where it is too full -/
theorem wk_write {g : Bool → Sem Unit} (quiet : ∀ (b : Bool) (s₁ : Shared) (Q' : Unit → Shared → Prop), Q' () s₁ → wpAny (model P w) A (g b) Q' E s₁)
    {o : Obj} {es es1 : Array (Int × Value)} {ep m : Nat} {t t2 : SetTable} {S' : Key → Bool} (ho : s.heap.get? a = some o) (hx : o.ExactSet) (hd : o.data = .set es ep t) (T : Tab P w es1 t2 S' m) {dm : Bool} {R : Option Bool → Shared → Prop}
    (done : ∀ h', Heap.SameBut a s.heap h' → Wk P w h' a S' m → R (some true) { s with heap := h' }) :
    wpAny (model P w) A (do
        storeSet a es1 t2
        if (!dm && t2.tooFull) = true then do
            g (relayAll t2 es1 (SetTable.grown es1.size)).2.2
            storeSet a (relayAll t2 es1 (SetTable.grown es1.size)).1 (relayAll t2 es1 (SetTable.grown es1.size)).2.1
            pure (some true)
          else pure (some true)) R E s := by
  have at1 := wk_store (es' := es1) (t' := t2) ho hd
  have only1 := Heap.SameBut.update s.heap a (Obj.putSet es1 t2)
  refine wpAny_bind (wpAny_storeSet_of ho hd ?_ (fits_of_scanBound T.low))
  split
  · have p := relayAll_perm t2 es1 (SetTable.grown es1.size)
    have z : (relayAll t2 es1 (SetTable.grown es1.size)).1.size = es1.size := by rw [← Array.length_toList, p.length_eq, Array.length_toList]
    have T' := T.perm p (relayAll_fits t2 es1 (SetTable.grown es1.size)) (relayAll_ris t2 es1 _) (T.led.imp id fun q => by rw [relayAll_led]; exact q)
    exact wpAny_bind (quiet _ _ _ (wpAny_bind (wpAny_storeSet_of at1 rfl (wpAny_pure (done _ (only1.trans (Heap.SameBut.update _ a _)) ⟨_, _, _, _, wk_store at1 rfl, hx, rfl, T'⟩)) (fits_of_scanBound T'.low))))
  · exact wpAny_pure (done _ only1 ⟨_, _, _, _, at1, hx, rfl, T⟩)
theorem wk_add {k : Key} {v : Value} {Q : Bool → Shared → Prop} (hv : (mixKind P w).is k v = true) (hs : v.scannable = true) (R : Wk P w s.heap a S n) (room : n + 1 < scanBound)
    (hQ : ∀ h', Heap.SameBut a s.heap h' → Wk P w h' a (fun j => S j || decide (j = k)) (if S k = true then n else n + 1) → Q (!S k) { s with heap := h' }) :
    wpAny (model P w) A (setAddHashed a v ((mixKind P w).hash k)) Q E s := by
  obtain ⟨o, es, ep, t, ho, hx, hd, T⟩ := R
  unfold setAddHashed setAddHashedIn
  refine wpAny_holding (wpAny_bind (wpAny_setState_of ho hd T.fits ?_))
  dsimp only
  rw [byScan_of hs T.low T.elems]
  simp only [↓reduceIte]
  unfold setAddByScan
  refine wpAny_bind (wpAny_bind (wpAny_rule (wpAny_bind (wpAny_setScan_of hv ho hd T.fits T.elems ?_))))
  cases found : List.findIdx? (fun e => (mixKind P w).is k e.2) es.toList with
  | some j =>
    obtain ⟨hj, at_, _⟩ := List.findIdx?_eq_some_iff_getElem.mp found
    have there : S k = true := (T.mem k).2 ⟨es.toList[j], List.getElem_mem hj, at_⟩
    have same : (fun i => S i || decide (i = k)) = S := funext fun i => by
      by_cases q : i = k
      · rw [q, there] <;> rfl
      · rw [decide_eq_false q, Bool.or_false]
    have q := hQ s.heap (Heap.SameBut.refl a s.heap) ⟨o, es, ep, t, ho, hx, hd, by rw [same, if_pos there]; exact T⟩
    rw [there] at q
    exact wpAny_pure (wpAny_pure q)
  | none =>
    have out : S k = false := by
      cases q : S k with
      | false => rfl
      | true =>
        obtain ⟨e, he, q2⟩ := (T.mem k).1 q
        have := List.findIdx?_eq_none_iff.mp found e he
        rw [q2] at this
        cases this
    rw [out] at hQ
    have p := layNew_perm t es ((mixKind P w).hash k) v
    have f := layNew_fits t es ((mixKind P w).hash k) v
    have r := layNew_ris t es ((mixKind P w).hash k) v T.ris
    have l := layNew_led t es ((mixKind P w).hash k) v
    dsimp only
    generalize layNew t es ((mixKind P w).hash k) v = Z at p f r l ⊢
    obtain ⟨es1, t1, dm, gave⟩ := Z
    dsimp only at p f r l ⊢
    rw [Array.toList_push] at p
    have pc := p.trans (List.perm_append_singleton _ _)
    have ld : w.params.followText "set-order" = true ∨ t1.led = true := T.led.imp id fun z => by rw [l]; exact z
    have quiet : ∀ (b : Bool) (s₁ : Shared) (Q' : Unit → Shared → Prop), Q' () s₁ → wpAny (model P w) A (match b with | true => rule "set.scan.the-table-gave-way" | false => pure ()) Q' E s₁ := fun b s₁ Q' q => by cases b <;> first | exact wpAny_pure q | exact wpAny_rule q
    have fin : ∀ h', Heap.SameBut a s.heap h' → Wk P w h' a (fun j => S j || decide (j = k)) (n + 1) → Q true { s with heap := h' } := hQ
    refine wpAny_bind (quiet _ _ _ ?_)
    split
    · refine wpAny_bind ?_
      rw [hashByValue_scannable 8 hs]
      refine wpAny_pure ?_
      refine wk_write ?_ ho hx hd (T.more hv hs out room pc ?_ ?_ ?_) fun h' only R' => ?_
      · intro b s₁ Q' q; cases b <;> first | exact wpAny_pure q | exact wpAny_rule q
      · first | (split <;> first | exact f | exact SetTable.fits_plain_off f) | exact f
      · first | (split <;> exact r) | exact r
      · first | (split <;> exact ld) | exact ld
      · dsimp only; exact wpAny_pure (fin h' only R')
    · refine wpAny_bind (wpAny_pure ?_)
      simp only [↓reduceIte]
      refine wk_write ?_ ho hx hd (T.more hv hs out room pc f r ld) fun h' only R' => ?_
      · intro b s₁ Q' q; cases b <;> first | exact wpAny_pure q | exact wpAny_rule q
      · dsimp only; exact wpAny_pure (fin h' only R')
theorem wk_call {k : Key} {v : Value} {Q : Value → Shared → Prop} (hv : (mixKind P w).is k v = true) (hs : v.scannable = true) (R : Wk P w s.heap a S n) (room : n + 1 < scanBound)
    (hQ : ∀ h', Heap.SameBut a s.heap h' → Wk P w h' a (fun j => S j || decide (j = k)) (if S k = true then n else n + 1) → Q .none { s with heap := h', toks := s.toks + 1 }) :
    wpAny (model P w) A (call (.builtin "set.add") [.ref a, v]) Q E s := by
  refine wpAny_call_entry F.slot_set_add R.setOf.typeIs F.entry_set_add ?_ (F.args_set_add_2 _ _)
  unfold Builtin.«set.add» Builtin.Frozenset.oneOther
  simp only [List.isEmpty_nil, bind_assoc]
  unfold Builtin.Frozenset.addrOf setAdd
  refine wpAny_bind (wpAny_pure ?_)
  try dsimp only
  refine wpAny_bind (wpAny_pure ?_)
  try dsimp only
  refine wpAny_bind (wpAny_holding (wpAny_bind ((mixKind P w).pyHash hv ?_)))
  refine wk_add (s := { s with toks := s.toks + 1 }) hv hs R room fun h' only R' => ?_
  show wpAny _ _ (ret Value.none) _ _ _
  exact wpAny_pure ⟨_, rfl, hQ h' only R'⟩
theorem wk_fresh {h : Heap} : Wk P w (h.push (newObjOf w)) h.objs.size (fun _ => false) 0 :=
  ⟨_, #[], 0, _, Heap.get?_push_size _ rfl, ⟨rfl, rfl, rfl⟩, rfl, (fun e he => by simp at he), (fun k => by simp), (by decide), (by rfl), rfl, .nil, List.Pairwise.nil, by
    show _ ∨ (!w.params.followText "set-order") = true
    cases w.params.followText "set-order"
    · exact .inr rfl
    · exact .inl rfl⟩
end
/-! ### on the heap of a proof -/
def SetW (P : Program) (w : World) (a : Addr) (S : Key → Bool) (n : Nat) : HO := .ext fun h => Wk P w h a S n
theorem setW_new {w : World} {P : Program} {H : Hp} {h : Heap} {a : Addr} {S : Key → Bool} {n : Nat} (R : Wk P w h a S n) : ObjOk P w H h a (SetW P w a S n) := by
  have ⟨o, _, _, _, ho, _⟩ := R
  exact ⟨R, ⟨o, ho⟩, fun h1 h2 p k => Wk.at p k⟩
theorem setW_get {X : Cx} {pins : List (Addr × Obj)} {σ : L2.St} {H : Hp} {s : Shared} {a : Addr} {S : Key → Bool} {n : Nat} (I : Inv X pins σ H s) (ha : H a = some (SetW X.prog X.w a S n)) : Wk X.prog X.w s.heap a S n := (I.hok a _ ha).1
theorem addW {X : Cx} {pins : List (Addr × Obj)} {σ : L2.St} {H : Hp} {s : Shared} {E : Value → Shared → Prop} {D : Addr} {S : Key → Bool} {n : Nat} {k : Key} {u : Value} {Q : Value → Shared → Prop} (I : Inv X pins σ H s) (at_ : H D = some (SetW X.prog X.w D S n)) (few : n + 1 < scanBound) (r : RelV (kV k) u)
    (q : ∀ s', Inv X pins σ (upd H D (SetW X.prog X.w D (withK S k) (if S k = true then n else n + 1))) s' → Q .none s') : wpAny (model X.prog X.w) X.A (call (.builtin "set.add") [.ref D, u]) Q E s :=
  wk_call (kV_is r) (key_scan r) (setW_get I at_) few fun h' sb new => q _ (I.write (e := D) (t' := s.toks + 1) (by rw [at_]; trivial) (.inl rfl) (fun b o hb ho => (sb.2 b hb).trans ho) (let ⟨o, _, _, _, ho, _⟩ := new; ⟨o, ho⟩) (setW_new new))
end Cs

set_option Elab.async false
set_option linter.all false
set_option maxRecDepth 100000
set_option maxHeartbeats 4000000
/-! Sets that can be walked: by a comprehension; sorted(s) of texts; {x} of one int. -/
namespace Cs
open PySem PySem.Spec PyProof.Rows L2 PpSet
section
variable {X : Cx}
/-- what a comprehension asks: its walk, and a set that grows -/
def tScW (P : Program) (w : World) (wi : TI) (g : TG) (tt : TT) (te : TE) (vs : List Nat) : TE := fun σ H Q => wi σ H fun J H1 => ∀ D, H1 D = none → ∃ W : Nat → Nat → Hp → Prop, (∃ m, W 0 m (upd H1 D (SetW P w D noK 0))) ∧ ∀ i m H, W i m H →
  (J.stop i H ∧ Q (.ref D) H) ∨ (J.go i H ∧ ∃ Nx : Hp → Prop, (∀ H', Nx H' → ∃ m', m' < m ∧ W (i + 1) m' H') ∧ ∀ x H', J.yld i H x H' → g x (wipe σ vs) H' fun σ2 H2 => wipe σ2 vs = wipe σ vs ∧ tt σ2 H2 fun b H3 =>
    if b = true then te σ2 H3 fun y H4 => ∃ (k : Key) (S : Key → Bool) (n : Nat), y = kV k ∧ H4 D = some (SetW P w D S n) ∧ n + 1 < scanBound ∧ Nx (upd H4 D (SetW P w D (withK S k) (if S k = true then n else n + 1))) else Nx H3)
theorem scW_core {pins : List (Addr × Obj)} {s : Shared} {σ : L2.St} {H : Hp} {Q : VK} {el tg it : Expr} {cs : List Expr} {scope : Scope} {own : List (PySem.Str × Nat)} {pos pos' : Pos} {wi : TI} {g : TG} {tt : TT} {te : TE} {use : Option (Value → Sem Unit)} {Qf : Value → Shared → Prop}
    (hc : X.calm = true) (hN : X.N.Nodup) (I : Inv X pins σ H s) (hi : PI X tg it wi) (ok : BlkOk X.N X.env.scope scope own)
    (hg : ∀ (s : Shared) (H : Hp) (C : Addr) (cl : List (PySem.Str × Addr)) (fp : List Addr), PG (X.blk s H scope (compEnvC scope cl C X.env) fp) tg g)
    (ht : ∀ (s : Shared) (H : Hp) (C : Addr) (cl : List (PySem.Str × Addr)) (fp : List Addr), PTs (X.blk s H scope (compEnvC scope cl C X.env) fp) cs tt)
    (he : ∀ (s : Shared) (H : Hp) (C : Addr) (cl : List (PySem.Str × Addr)) (fp : List Addr), PE (X.blk s H scope (compEnvC scope cl C X.env) fp) el te)
    (hs : ∀ x, foldedSetIterable it X.env x = pure x) (h : tScW X.prog X.w wi g tt te (own.map (·.2)) σ H Q)
    (done : ∀ D C s' m H', Inv X pins σ H' s' → Q (.ref D) H' → s'.heap.Ns C m → FpOk X pins H' C → compPost (model X.prog X.w) X.A X.xe use Qf (.ref D) C (.ok .next) s') :
    wpAny (model X.prog X.w) X.A (comprehension (.SetComp el [⟨tg, it, cs, 0⟩] scope pos) scope X.env pos' (newSet (.type "set")) false (eval it X.env) use) Qf X.xe s := by
  refine wpAny_comprehension_free (use := use) rfl hs (closure_ok fun y hy e => (ok.free y hy e).elim (fun k => I.ok.has _ (.inl k)) fun k => I.ok.has _ (.inr k)) ok.kind (fun y hy e => by rw [ok.uniq y hy, e])
    (thn (hi.run pins s σ H _ I h) fun xv s1 hx => thn hx fun itv s2 ⟨ia, fp, tn, J, H2, eq, I2, T, st2, f2, q⟩ => ?_)
  subst eq
  refine newSet_ok (newEnv_comp ?_)
  generalize eD : s2.heap.objs.size = D
  have free : H2 D = none := I2.hok.fresh (Nat.le_of_eq eD)
  obtain ⟨W, ⟨m0, w0⟩, turn⟩ := q D free
  generalize e3 : ({ s2 with heap := s2.heap.push { cls := .type "set", dict := none, data := .set #[] 0 (.fresh 0 0 (!X.w.params.followText "set-order")) } } : Shared) = s3
  have heap3 : s3.heap = s2.heap.push { cls := .type "set", dict := none, data := .set #[] 0 (.fresh 0 0 (!X.w.params.followText "set-order")) } := by rw [← e3]
  have I3 : Inv X pins σ (upd H2 D (SetW X.prog X.w D noK 0)) s3 := by
    rw [← e3, ← eD]
    exact I2.laid (t' := s2.toks) (fun b o e => Heap.get?_push_of_some _ e) (Nat.le_refl _) (setW_new wk_fresh)
  have below : ∀ b ∈ fp, b < s2.heap.objs.size := fun b hb => let ⟨o, e, _⟩ := T.obj _ _ st2 b hb; Heap.lt_size e
  have f3 : ∀ b ∈ fp, FpOk X pins (upd H2 D (SetW X.prog X.w D noK 0)) b ∧ b < s3.heap.objs.size := fun b hb =>
    ⟨⟨by rw [upd_ne (by rw [← eD]; exact Nat.ne_of_lt (below b hb))]; exact (f2 b hb).1, (f2 b hb).2⟩, by rw [heap3, Heap.size_push]; exact Nat.lt_succ_of_lt (below b hb)⟩
  have I4 := block_start I3 ok hN f3
  have pg := hg s3 (upd H2 D (SetW X.prog X.w D noK 0)) s3.heap.objs.size (cellsFrom (s3.heap.objs.size + 1) scope.names (cloFrom X.env.cells scope.names [])) fp
  have pt := ht s3 (upd H2 D (SetW X.prog X.w D noK 0)) s3.heap.objs.size (cellsFrom (s3.heap.objs.size + 1) scope.names (cloFrom X.env.cells scope.names [])) fp
  have pe := he s3 (upd H2 D (SetW X.prog X.w D noK 0)) s3.heap.objs.size (cellsFrom (s3.heap.objs.size + 1) scope.names (cloFrom X.env.cells scope.names [])) fp
  show codeAny _ _ (.compStart (.SetComp el [⟨tg, it, cs, 0⟩] scope pos) 0 (.ref ia) (.ref D) (compEnvC scope (cellsFrom (s3.heap.objs.size + 1) scope.names (cloFrom X.env.cells scope.names [])) s3.heap.objs.size X.env)) (compPost (model X.prog X.w) X.A X.xe use Qf (.ref D) s3.heap.objs.size) { s3 with heap := pushCells (s3.heap.push { cls := .type "dict", data := .dict #[] }) scope.names }
  have none3 : ∀ b ∈ fp, (upd H2 D (SetW X.prog X.w D noK 0)) b = none := fun b hb => (f3 b hb).1.1
  generalize ec : compEnvC scope (cellsFrom (s3.heap.objs.size + 1) scope.names (cloFrom X.env.cells scope.names [])) s3.heap.objs.size X.env = ce at I4 pg pt pe ⊢
  have loc : ce.locals = s3.heap.objs.size := by subst ec; rfl
  generalize upd H2 D (SetW X.prog X.w D noK 0) = H3 at I3 I4 pg pt pe w0 none3 f3
  generalize e4 : ({ s3 with heap := pushCells (s3.heap.push { cls := .type "dict", data := .dict #[] }) scope.names } : Shared) = s4 at I4 ⊢
  have st3 : tn 0 s3.heap := T.keep _ _ _ st2 fun b _ o e => by rw [heap3]; exact Heap.get?_push_of_some _ e
  have st4 : tn 0 s4.heap := T.keep _ _ _ st3 fun b _ o e => by rw [← e4]; exact pushCells_keeps _ _ _ _ (Heap.get?_push_of_some _ e)
  have still : ∀ {σ' : L2.St} {H' : Hp} {s' : Shared}, Inv (X.blk s3 H3 scope ce fp) [] σ' H' s' → (∀ b ∈ fp, H' b = none) → ∀ b ∈ fp, FpOk (X.blk s3 H3 scope ce fp) [] H' b := fun I' hn b hb =>
    ⟨hn b hb, (I'.ok.exf b hb).1, I'.ok.exfs b hb, .inl hb, fun x c e => (I'.ok.exf b hb).2 x c e, fun p hp => absurd (show p ∈ ([] : List (Addr × Obj)) ++ [] from hp) (by simp)⟩
  have loop : codeAny (model X.prog X.w) X.A (.compLoop (.SetComp el [⟨tg, it, cs, 0⟩] scope pos) 0 (.ref ia) (.ref D) ce) (compPost (model X.prog X.w) X.A X.xe use Qf (.ref D) s3.heap.objs.size) s4 := by
    refine compLoopS_any (fun n s' => ∃ i H', Inv (X.blk s3 H3 scope ce fp) [] (wipe σ (own.map (·.2))) H' s' ∧ tn i s'.heap ∧ (∀ b ∈ fp, H' b = none) ∧ W i n H') ?_ m0 ⟨0, H3, I4, st4, none3, w0⟩
    rintro n s5 ⟨i, H5, I5, st5, n5, w5⟩
    rcases turn i n H5 w5 with ⟨stop, last⟩ | ⟨go, Nx, next, step⟩
    · refine thnF (T.done (X.blk s3 H3 scope ce fp) rfl rfl rfl hc i [] s5 _ H5 (fun _ _ => False) I5 (still I5 n5) st5 stop) fun r s6 ⟨er, I6⟩ => ?_
      subst er
      have unused : H5 ce.locals = none := I6.free
      obtain ⟨m, ns, _⟩ := I6.loc
      have ns : s6.heap.Ns ce.locals m := ns
      rw [loc] at ns unused
      exact done D s3.heap.objs.size s6 m H5 (I3.call' (ch := fp) I6.os I6.base I6.hok I6.bare fun b hb => ⟨(f3 b hb).1.2.2.2.1, (f3 b hb).1.2.1, (f3 b hb).1.2.2.2.2.1, (f3 b hb).1.2.2.2.2.2⟩) last ns (I3.fpOk (Nat.le_refl _) unused)
    · refine thnF (T.item (X.blk s3 H3 scope ce fp) rfl rfl rfl hc i [] s5 _ H5 (fun _ _ => False) I5 (still I5 n5) st5 go) fun r s6 ⟨u, er, h6⟩ => ?_
      subst er
      refine thnF h6 fun _ s7 ⟨x, H7, I7, r7, y7, st7, n7⟩ => ?_
      refine thnF (pg.run _ s7 _ H7 x u _ (I7.pinned (still I7 n7) (T.obj _ _ st7)) r7 (step x H7 y7)) fun _ s8 ⟨σ8, H8, I8, w8, q8⟩ => ?_
      refine thnF (pt.run _ s8 σ8 H8 _ I8 q8) fun b s9 ⟨H9, I9, q9⟩ => ?_
      have round : ∀ {s' : Shared} {H' : Hp}, Inv (X.blk s3 H3 scope ce fp) ([] ++ pinsAt fp s7.heap) σ8 H' s' → Nx H' → ∃ m, m < n ∧ ∃ i H', Inv (X.blk s3 H3 scope ce fp) [] (wipe σ (own.map (·.2))) H' s' ∧ tn i s'.heap ∧ (∀ b ∈ fp, H' b = none) ∧ W i m H' := fun {s' H'} I' nx => by
        obtain ⟨m', lt, w'⟩ := next H' nx
        have held : ∀ b ∈ fp, ∀ o, s7.heap.get? b = some o → s'.heap.get? b = some o ∧ H' b = none := fun b hb o e => let z := I'.pin (b, o) (List.mem_append_right _ (List.mem_append_right _ (mem_pinsAt hb e))); ⟨z.1, z.2.1⟩
        refine ⟨m', lt, i + 1, H', (I'.unpinned (pins := [])).weak (by rw [← w8, wipe_length]) (fun j v e => ?_), T.keep _ _ _ st7 fun b hb o e => (held b hb o e).1, fun b hb => ?_, w'⟩
        · rw [← w8] at e
          exact (wipe_some e).1
        · obtain ⟨o, e, _⟩ := T.obj _ _ st7 b hb
          exact (held b hb o e).2
      cases b with
      | false =>
        simp only [Bool.false_eq_true, if_false] at q9 ⊢
        exact round I9 q9
      | true =>
        simp only [if_true] at q9 ⊢
        refine thnF (pe.run _ s9 σ8 H9 _ I9 q9) fun z s10 ⟨y, H10, I10, r10, k, S, n0, ey, at10, few, nx⟩ => ?_
        subst ey
        exact addW (X := X.blk s3 H3 scope ce fp) I10 at10 few r10 fun s11 I11 => round I11 nx
  exact codeAny_compStart_set loop (T.self X.A 0 _ _ _ st4 loop)
theorem pe_scW {el tg it : Expr} {cs : List Expr} {scope : Scope} {own : List (PySem.Str × Nat)} {pos : Pos} {wi : TI} {g : TG} {tt : TT} {te : TE}
    (hc : X.calm = true) (hN : X.N.Nodup) (hi : PI X tg it wi) (ok : BlkOk X.N X.env.scope scope own)
    (hg : ∀ (s : Shared) (H : Hp) (C : Addr) (cl : List (PySem.Str × Addr)) (fp : List Addr), PG (X.blk s H scope (compEnvC scope cl C X.env) fp) tg g)
    (ht : ∀ (s : Shared) (H : Hp) (C : Addr) (cl : List (PySem.Str × Addr)) (fp : List Addr), PTs (X.blk s H scope (compEnvC scope cl C X.env) fp) cs tt)
    (he : ∀ (s : Shared) (H : Hp) (C : Addr) (cl : List (PySem.Str × Addr)) (fp : List Addr), PE (X.blk s H scope (compEnvC scope cl C X.env) fp) el te)
    (hs : ∀ x, foldedSetIterable it X.env x = pure x := by intro _; rfl) :
    PE X (.SetComp el [⟨tg, it, cs, 0⟩] scope pos) (tScW X.prog X.w wi g tt te (own.map (·.2))) := by
  refine ⟨fun pins s σ H Q I h => ?_⟩
  rw [eval_SetComp]
  refine scW_core hc hN I hi ok hg ht he hs h fun D C s' m H' I' q hn f => ⟨m, hn, fun h2 sb => ?_⟩
  obtain ⟨g0, f1, f2, f3, f4, f5⟩ := f
  exact ⟨.ref D, H', I'.turned (t' := s'.toks) (fun b o hb e => (sb.2 b hb).trans e) g0 f1 f3 f4 f5, rfl, q⟩
end
/-! ### sorted(s), s a set of texts -/
theorem strs_sorted : ∀ {ss : List PySem.Str}, ss.Pairwise (fun x y => ¬ y.cps.toList < x.cps.toList) → ss.Nodup → ss.Pairwise (fun x y => x.cps.toList < y.cps.toList)
  | [], _, _ => .nil
  | x :: r, h, nd => by
    obtain ⟨h1, h2⟩ := List.pairwise_cons.mp h
    obtain ⟨n1, n2⟩ := List.nodup_cons.mp nd
    refine List.pairwise_cons.mpr ⟨fun y hy => ?_, strs_sorted h2 n2⟩
    rcases Decidable.em (x.cps.toList < y.cps.toList) with c | c
    · exact c
    · have e := List.le_antisymm (List.not_lt.mp c) (List.not_lt.mp (h1 y hy))
      have : y = x := by
        cases x; cases y
        simpa using e
      exact absurd hy (this ▸ n1)
section
variable {P : Program} {w : World} {A : Around} {E : Value → Shared → Prop} {s : Shared} {a : Addr}
theorem sorted_setW {S : Key → Bool} {n : Nat} {Q : Value → Shared → Prop} (R : Wk P w s.heap a S n) (texts : ∀ i, S (.inl i) = false) (cool : A.handled = none)
    (after : ∀ s' p (out : Array Value) (c : Nat) (ns : List PySem.Str),
      (∀ b o, s.heap.get? b = some o → s'.heap.get? b = some o) → s'.gens = s.gens → s'.os = s.os →
      s.heap.objs.size ≤ p → s'.heap.get? p = some (seqObj "list" out c) → StrsAre out.toList ns →
      ns.Pairwise (fun x y => x.cps.toList < y.cps.toList) → (∀ k, k ∈ ns ↔ S (.inr k) = true) → ns.length = n → Q (.ref p) s') :
    wpAny (model P w) A (call (.builtin "sorted") [.ref a]) Q E s := by
  obtain ⟨o, es, ep, t, ho, hex, hd, T⟩ := R
  refine Calls.call_function_entry kind_sorted plain_sorted entry_sorted (args_sorted1 _) ?_
  unfold Builtin.«sorted»
  refine wpAny_bind (m := checkCount "sorted" 1 1 _) (wpAny_pure ?_)
  refine wpAny_bind (collect_set (A := A.in1) cool ⟨o, ho, hex.1, hd⟩ T.fits T.low T.ris T.led
    fun s1 vs keep1 up1 g1 o1 perm => ?_)
  have many : vs.length = n := by
    rw [perm.length_eq, List.length_map, Array.length_toList]
    exact T.size
  have sb : scanBound = 4096 := rfl
  have line : vs.length ≤ sizeLine := by rw [many, sizeLine_eq]; have := T.low; rw [T.size] at this; omega
  have text : ∀ e ∈ es.toList, ∃ x t, e.2 = Value.str x t := fun e he => by
    obtain ⟨⟨k, hk, _⟩, _⟩ := T.elems e he
    rcases keyIs_shape hk with ⟨i, u, rfl, z⟩ | ⟨x, u, rfl, z⟩
    · have := (T.mem (.inl i)).mpr ⟨e, he, hk⟩
      rw [texts i] at this
      cases this
    · exact ⟨x, u, z⟩
  have areS : StrsAre vs (vs.map sv) := strs_sv fun v hv => by
    obtain ⟨e, he, q⟩ := List.mem_map.mp (perm.mem_iff.mp hv)
    obtain ⟨x, u, z⟩ := text e he
    exact ⟨x, u, q ▸ z⟩
  have keys : (vs.map sv).Perm (es.toList.map fun e => sv e.2) := by
    have := perm.map sv
    rwa [List.map_map] at this
  have nodup : (es.toList.map fun e => sv e.2).Nodup := by
    refine List.pairwise_map.mpr (T.far.imp_of_mem fun {e f} he hf far z => ?_)
    obtain ⟨x, u, zx⟩ := text e he
    obtain ⟨y, v, zy⟩ := text f hf
    rw [zx, zy] at z
    have h1 := far (.inr x) (by rw [zx]; exact kV_is (k := .inr x) ⟨u, rfl⟩)
    have z' : x = y := z
    rw [zy, ← z', kV_is (k := .inr x) ⟨v, rfl⟩] at h1
    cases h1
  refine wpAny_bind (wpAny_newList ?_ line)
  have new1 : (s1.heap.push (seqObj "list" vs.toArray 0)).get? s1.heap.objs.size =
    some (seqObj "list" vs.toArray 0) := Heap.get?_push_size _ rfl
  refine wpAny_bind (wpAny_holding (wpAny_call_entry slot_list_sort ⟨_, new1, rfl⟩ entry_list_sort
    (SrtO.list_sort_ord swo_str new1 line (fun two => strs_sortable areS two)
      fun out srt stb => ⟨_, rfl, ?_⟩) (args_list_sort _)))
  have k2 : (out.map sv).Perm (vs.map sv) := stb.perm.map sv
  have k1 : StrsAre out (out.map sv) := strs_sv fun v hv => strs_mem areS v (stb.perm.mem_iff.mp hv)
  have k3 : (out.map sv).Pairwise (fun x y => ¬ y.cps.toList < x.cps.toList) := List.pairwise_map.mpr (srt.imp fun {x y} h => of_decide_eq_false (p := (sv y).cps.toList < (sv x).cps.toList) h)
  obtain ⟨c, hc⟩ := sortedHeap_at (vs := vs) (out := out.toArray) new1
  have pn : (out.map sv).Perm (es.toList.map fun e => sv e.2) := k2.trans keys
  refine wpAny_pure ⟨_, rfl, after _ s1.heap.objs.size out.toArray c (out.map sv) (fun b u e => ?_)
    g1 o1 up1 hc k1 (strs_sorted k3 (pn.nodup_iff.mpr nodup)) (fun k => ?_) ?_⟩
  · have old := keep1 b u e
    have lt := Heap.lt_size old
    show (sortedHeap (s1.heap.push (seqObj "list" vs.toArray 0)) s1.heap.objs.size vs out.toArray).get? b = some u
    rw [sortedHeap_old (Nat.ne_of_lt lt) (by rw [size_push']; exact Nat.lt_succ_of_lt lt)]
    exact Heap.get?_push_of_some _ old
  · rw [pn.mem_iff, T.mem, List.mem_map]
    constructor
    · rintro ⟨e, he, rfl⟩
      obtain ⟨x, u, z⟩ := text e he
      refine ⟨e, he, ?_⟩
      rw [z]
      exact kV_is (k := .inr x) ⟨u, rfl⟩
    · rintro ⟨e, he, q⟩
      refine ⟨e, he, ?_⟩
      rcases keyIs_shape (show keyIs (.inr k) e.2 = true from q) with ⟨i, u, z, _⟩ | ⟨x, u, z, z2⟩
      · cases z
      · cases z
        rw [z2] <;> rfl
  · rw [pn.length_eq, List.length_map, Array.length_toList]
    exact T.size
end
def rSortedW (P : Program) (w : World) : List V → Hp → VK → Prop := fun vs H Q => ∃ (a : Addr) (S : Key → Bool) (n : Nat),
  vs = [V.ref a] ∧ H a = some (SetW P w a S n) ∧ (∀ i, S (.inl i) = false) ∧ ∀ (ns : List PySem.Str) (p : Addr), ns.Pairwise (fun x y => x.cps.toList < y.cps.toList) →
    (∀ k, k ∈ ns ↔ S (.inr k) = true) → ns.length = n → H p = none → Q (.ref p) (upd H p (.lst (ns.map V.str)))
theorem cr_sortedW {X : Cx} (cool : X.calm = true) : CallR X (.builtin "sorted") (rSortedW X.prog X.w) := by
  intro pins s σ H vs us Q I rel h
  obtain ⟨a, S, n, rfl, ha, texts, q⟩ := h
  rw [Vals.ref1 rel]
  have R := setW_get I ha
  have few : n < 4096 := by
    obtain ⟨_, _, _, _, _, _, _, T⟩ := R
    rw [← T.size]
    exact T.low
  refine sorted_setW R texts (I.ok.hd cool) fun s2 p out c ns old g o up at_ areS asc mem cnt => ?_
  have free : H p = none := I.hok.fresh up
  have line : (ns.map V.str).length ≤ sizeLine := by rw [List.length_map, cnt, sizeLine_eq]; omega
  have J : Inv X pins σ (upd H p (.lst (ns.map V.str)))
      { s with heap := s2.heap, gens := s2.gens, drawn := s2.drawn, toks := s2.toks } :=
    I.call (ch := []) (Un.laid old up free) (I.hok.laid old up ⟨line, out.toList, c, strs_vals areS, at_⟩)
      (by rw [g]; exact I.bare) (fun _ z => nomatch z)
  have same : s2 = { s with heap := s2.heap, gens := s2.gens, drawn := s2.drawn, toks := s2.toks } := by
    cases s2; cases s; cases o; rfl
  rw [same]
  exact ⟨.ref p, _, J, rfl, q ns p asc mem cnt free⟩
/-! ### {x}, x an int -/
def tSetOne (w : World) (ta : TE) : TE := fun σ H Q => ∀ D, H D = none → ta σ (upd H D (SetO w D noI 0)) fun x H1 => ∃ k, x = .int k ∧ H1 D = some (SetO w D noI 0) ∧ Q (.ref D) (upd H1 D (SetO w D (fun j => decide (j = k)) 1))
theorem pe_setOne {X : Cx} {a : Expr} {ta : TE} {pos : Pos} (ha : PE X a ta) (hcd : PySem.W.kdsCode X.K X.env.code = true) (hs : starEach [a] X.env = [(false, eval a X.env)] := by rfl) : PE X (.Set [a] 0 pos) (tSetOne X.w ta) := by
  refine ⟨fun pins s σ H Q I h => ?_⟩
  rw [arm_eval_Set]
  refine wpAny_bind (wpAny_standAt (wpAny_bind (PySem.W.kds_main I.kIn hcd fun b => ?_)))
  rw [hs]
  unfold setDisplay
  dsimp only
  have road : displayRoad 0 [a] = .oneByOne := rfl
  rw [road, if_neg (by decide)]
  refine wpAny_bind (newSet_ok ?_)
  dsimp only
  generalize eD : s.heap.objs.size = D
  have free : H D = none := I.hok.fresh (Nat.le_of_eq eD)
  have I1 : Inv X pins σ (upd H D (SetO X.w D noI 0)) { s with heap := s.heap.push { cls := .type "set", dict := none, data := .set #[] 0 (.fresh 0 0 (!X.w.params.followText "set-order")) } } := by
    rw [← eD]
    exact I.laid (t' := s.toks) (fun b o e => Heap.get?_push_of_some _ e) (Nat.le_refl _) (setO_new (setR_fresh X.w))
  refine wpAny_bind (wpAny_holding ?_)
  show wpAny _ _ (evalAll [eval a X.env >>= fun v => standAt pos >>= fun _ => pure v] >>= fun first => holding first (do
      for x in first do let _ ← setAdd D x
      if (DisplayRoad.oneByOne == DisplayRoad.unsure) = true then do
        rule "set.display.perhaps-of-constants"
        setUnled D) >>= fun _ => (forIn ([] : List (Bool × Sem Value)) PUnit.unit fun x __s => do
          let v ← x.snd
          if x.fst = true then do
              holding [v] (setDisplayStar D v)
              pure (ForInStep.yield PUnit.unit)
            else do
              let _ ← holding [v] (setAdd D v)
              pure (ForInStep.yield PUnit.unit)) >>= fun _ => pure ()) _ _ _
  have ev : ∀ t : Sem Value, evalAll [t] = t >>= fun v => holding [v] (evalAll []) >>= fun r => pure (v :: r) := fun t => rfl
  rw [ev]
  refine wpAny_bind (wpAny_bind (wpAny_bind (thn (ha.run pins _ σ _ _ I1 (h D free)) fun v s1 ⟨x, H1, I2, r, k, ek, at1, q⟩ => ?_)))
  subst ek
  obtain ⟨tk, rfl⟩ := r
  refine wpAny_bind (wpAny_standAt (wpAny_pure (wpAny_bind (wpAny_holding (wpAny_pure (wpAny_pure ?_))))))
  refine wpAny_bind (wpAny_holding (wpAny_bind ?_))
  rw [List.forIn_cons]
  refine wpAny_bind (wpAny_bind ?_)
  unfold setAdd
  refine wpAny_holding (wpAny_bind ((intKind X.prog X.w).pyHash (intKind_is X.prog X.w k tk) ?_))
  have R := setO_get I2 at1
  refine setR_add_hashed (s := { s1 with toks := s1.toks + 1 }) R (by decide) fun h' sb R' => ?_
  have I3 : Inv X pins σ (upd H1 D (SetO X.w D (fun j => decide (j = k)) 1)) { s1 with heap := h', toks := s1.toks + 1 } :=
    I2.write (e := D) (t' := s1.toks + 1) (by rw [at1]; trivial) (.inl rfl) (fun b o hb ho => (sb.2 b hb).trans ho) (let ⟨o, _, _, _, ho, _⟩ := R'; ⟨o, ho⟩) (setO_new (R'.congr fun j => by simp [noI]))
  refine wpAny_pure (wpAny_pure ?_)
  rw [List.forIn_nil]
  refine wpAny_pure ?_
  refine wpAny_bind (wpAny_pure (wpAny_pure ?_))
  exact wpAny_pure ⟨.ref D, _, I3, rfl, q⟩
end Cs

set_option Elab.async false
set_option linter.all false
set_option maxRecDepth 100000
set_option maxHeartbeats 4000000
/-! Twins: two values that are equal all the way down, through lists, dicts and tuples; == and != of them. -/
namespace Cs
open PySem PySem.Spec PyProof.Rows L2
/-- twins, of nesting below n; all that they are made of stands at addresses F -/
def Twn (F : Addr → Prop) (H : Hp) : Nat → V → V → Prop
  | 0 => fun _ _ => False
  | n + 1 => fun x y => (x = y ∧ flatB x = true) ∨ (∃ a, x = .ref a ∧ y = .ref a) ∨
      (∃ a b xs ys, x = .ref a ∧ y = .ref b ∧ F a ∧ F b ∧ H a = some (.lst xs) ∧ H b = some (.lst ys) ∧ Paired (Twn F H n) xs ys) ∨
      (∃ a b ks ls, x = .ref a ∧ y = .ref b ∧ F a ∧ F b ∧ H a = some (.dK ks) ∧ H b = some (.dK ls) ∧ ks.length = ls.length ∧ ∀ p ∈ ks, ∃ u, valV ls p.1 = some u ∧ Twn F H n p.2 u) ∨
      (∃ a b xs ys, x = .ref a ∧ y = .ref b ∧ F a ∧ F b ∧ H a = some (.tup xs) ∧ H b = some (.tup ys) ∧ Paired (Twn F H n) xs ys)
theorem paired_imp {α β : Type} {F G : α → β → Prop} (h : ∀ x y, F x y → G x y) {xs : List α} {ys : List β} (p : Paired F xs ys) : Paired G xs ys := by
  induction p with
  | nil => exact .nil
  | cons a _ ih => exact .cons (h _ _ a) ih
theorem Twn.imp {F G : Addr → Prop} {H H' : Hp} (f : ∀ a, F a → G a) (s : ∀ a o, F a → H a = some o → H' a = some o) : ∀ {n m : Nat} {x y : V}, n ≤ m → Twn F H n x y → Twn G H' m x y
  | 0, _, _, _, _, h => (show False from h).elim
  | n + 1, 0, _, _, l, _ => absurd l (by omega)
  | n + 1, m + 1, x, y, l, h => by
    have up : ∀ x y, Twn F H n x y → Twn G H' m x y := fun x y h => Twn.imp f s (by omega) h
    rcases h with h | h | ⟨a, b, xs, ys, e1, e2, fa, fb, ha, hb, p⟩ | ⟨a, b, ks, ls, e1, e2, fa, fb, ha, hb, hl, p⟩ | ⟨a, b, xs, ys, e1, e2, fa, fb, ha, hb, p⟩
    · exact .inl h
    · exact .inr (.inl h)
    · exact .inr (.inr (.inl ⟨a, b, xs, ys, e1, e2, f a fa, f b fb, s _ _ fa ha, s _ _ fb hb, paired_imp up p⟩))
    · exact .inr (.inr (.inr (.inl ⟨a, b, ks, ls, e1, e2, f a fa, f b fb, s _ _ fa ha, s _ _ fb hb, hl, fun q hq => let ⟨u, z, t⟩ := p q hq; ⟨u, z, up _ _ t⟩⟩)))
    · exact .inr (.inr (.inr (.inr ⟨a, b, xs, ys, e1, e2, f a fa, f b fb, s _ _ fa ha, s _ _ fb hb, paired_imp up p⟩)))
theorem Twn.same {F : Addr → Prop} {H H' : Hp} {n : Nat} {x y : V} (t : Twn F H n x y) (s : Same H H') : Twn F H' n x y := t.imp (fun _ h => h) (fun a o _ e => s a o e) (Nat.le_refl n)
theorem Twn.up {F : Addr → Prop} {H : Hp} {n m : Nat} {x y : V} (t : Twn F H n x y) (l : n ≤ m) : Twn F H m x y := t.imp (fun _ h => h) (fun _ _ _ e => e) l
theorem Twn.upd {F : Addr → Prop} {H : Hp} {n : Nat} {x y : V} {b : Addr} {u : HO} (t : Twn F H n x y) (h : ¬ F b) : Twn F (upd H b u) n x y := t.imp (fun _ h => h) (fun a o fa e => by rw [upd_ne (fun z : a = b => h (by rw [← z]; exact fa))]; exact e) (Nat.le_refl n)
theorem Twn.flat {F : Addr → Prop} {H : Hp} {n : Nat} {x : V} (f : flatB x = true) : Twn F H (n + 1) x x := .inl ⟨rfl, f⟩
theorem Twn.flats {F : Addr → Prop} {H : Hp} {n : Nat} : ∀ {xs : List V}, (∀ x ∈ xs, flatB x = true) → Paired (Twn F H (n + 1)) xs xs
  | [], _ => .nil
  | x :: xs, h => .cons (.flat (h x List.mem_cons_self)) (Twn.flats fun y hy => h y (List.mem_cons_of_mem _ hy))
theorem Twn.list {F : Addr → Prop} {H : Hp} {n : Nat} {a b : Addr} {xs ys : List V} (fa : F a) (fb : F b) (ha : H a = some (.lst xs)) (hb : H b = some (.lst ys)) (p : Paired (Twn F H n) xs ys) : Twn F H (n + 1) (.ref a) (.ref b) := .inr (.inr (.inl ⟨a, b, xs, ys, rfl, rfl, fa, fb, ha, hb, p⟩))
theorem Twn.tup {F : Addr → Prop} {H : Hp} {n : Nat} {a b : Addr} {xs ys : List V} (fa : F a) (fb : F b) (ha : H a = some (.tup xs)) (hb : H b = some (.tup ys)) (p : Paired (Twn F H n) xs ys) : Twn F H (n + 1) (.ref a) (.ref b) := .inr (.inr (.inr (.inr ⟨a, b, xs, ys, rfl, rfl, fa, fb, ha, hb, p⟩)))
theorem Twn.dict {F : Addr → Prop} {H : Hp} {n : Nat} {a b : Addr} {ks ls : List (Key × V)} (fa : F a) (fb : F b) (ha : H a = some (.dK ks)) (hb : H b = some (.dK ls)) (hl : ks.length = ls.length) (p : ∀ p ∈ ks, ∃ u, valV ls p.1 = some u ∧ Twn F H n p.2 u) : Twn F H (n + 1) (.ref a) (.ref b) := .inr (.inr (.inr (.inl ⟨a, b, ks, ls, rfl, rfl, fa, fb, ha, hb, hl, p⟩)))
section
variable {X : Cx} {pins : List (Addr × Obj)} {σ : L2.St} {H : Hp} {s : Shared}
/-- == of two tuples whose items are equal -/
theorem tup_run (I : Inv X pins σ H s) {A : Around} {F : V → V → Prop} (hu : A.units < cLine) (ih : ∀ x y v u, F x y → RelV x v → RelV y u → SeqAt.EqP X.prog X.w A.in1 s v u true) {a b : Addr} {xs ys : List V} (ha : H a = some (.tup xs)) (hb : H b = some (.tup ys)) (hp : Paired F xs ys)
    (E Q : Value → Shared → Prop) (q : Q (.bool true) s) : wpAny (model X.prog X.w) A (richCompare .Eq (.ref a) (.ref b)) Q E s := by
  obtain ⟨its, r, e, z⟩ := I.tuple (.inl (.inl ha) : SqT X.K H a xs)
  obtain ⟨its2, r2, e2, z2⟩ := I.tuple (.inl (.inl hb) : SqT X.K H b ys)
  have hsz : its.toArray.size = its2.toArray.size := by rw [List.size_toArray, List.size_toArray, ← r.length, ← r2.length]; exact Paired.length hp
  refine GQ.rc_tupG hsz hu (fun _ s' => s' = s) e e2 (fun i h1 h2 s' hs => ?_) (fun s' hs => by subst hs; exact q) rfl
  subst hs
  have k := items_run (A := A.in1) ih hp r r2 i (by simpa using h1) (by simpa using h2)
  have k2 : SeqAt.EqP X.prog X.w A.in1 s' its.toArray[i] its2.toArray[i] true := by simpa using k
  exact k2 _ _ ⟨rfl, rfl⟩
theorem twn_run {F : Addr → Prop} (I : Inv X pins σ H s) : ∀ (n : Nat) (A : Around), A.units + n < cLine → ∀ (x y : V) (v u : Value), Twn F H n x y → RelV x v → RelV y u → SeqAt.EqP X.prog X.w A s v u true
  | 0, _, _, _, _, _, _, h, _, _ => (show False from h).elim
  | n + 1, A, hu, x, y, v, u, h, rx, ry => by
    have ih := twn_run (F := F) I n A.in1 (by show A.units + 1 + n < cLine; omega)
    have refs : ∀ {a b : Addr}, x = .ref a → y = .ref b → (∀ E Q : Value → Shared → Prop, Q (.bool true) s → wpAny (model X.prog X.w) A (richCompare .Eq (.ref a) (.ref b)) Q E s) → SeqAt.EqP X.prog X.w A s v u true := fun {a b} e1 e2 step => by
      subst e1 e2
      cases (show v = Value.ref a from rx)
      cases (show u = Value.ref b from ry)
      by_cases e : a = b
      · subst e
        exact (SeqAt.EqAt.same _).eqP
      · exact SeqAt.eqP_refs e step
    rcases h with ⟨rfl, f⟩ | ⟨a, rfl, rfl⟩ | ⟨a, b, xs, ys, e1, e2, _, _, ha, hb, p⟩ | ⟨a, b, ks, ls, e1, e2, _, _, ha, hb, hl, p⟩ | ⟨a, b, xs, ys, e1, e2, _, _, ha, hb, p⟩
    · exact (eqAt_same rx ry f).eqP
    · cases (show v = Value.ref a from rx)
      cases (show u = Value.ref a from ry)
      exact (SeqAt.EqAt.same _).eqP
    · exact refs e1 e2 fun E Q q => eqR_run I (A := A) (by omega) ih (.inl ⟨a, b, xs, ys, rfl, rfl, .inl (.inl ha), .inl (.inl hb), p⟩) rfl rfl E Q q
    · exact refs e1 e2 fun E Q q => eqR_run I (A := A) (by omega) ih (.inr ⟨a, b, ks, ls, rfl, rfl, ha, hb, hl, p⟩) rfl rfl E Q q
    · exact refs e1 e2 fun E Q q => tup_run I (A := A) (by omega) ih ha hb p E Q q
end
section
variable {X : Cx}
/-- a == b, twins that are no plain values -/
def rEqW : R2 := fun x y H Q => ∃ (F : Addr → Prop) (n : Nat), n ≤ 60 ∧ (∃ a b, x = .ref a ∧ y = .ref b ∧ ((∃ xs ys, H a = some (.lst xs) ∧ H b = some (.lst ys) ∧ Paired (Twn F H n) xs ys) ∨ (∃ ks ls, H a = some (.dK ks) ∧ H b = some (.dK ls) ∧ ks.length = ls.length ∧ ∀ p ∈ ks, ∃ u, valV ls p.1 = some u ∧ Twn F H n p.2 u) ∨ ∃ xs ys, H a = some (.tup xs) ∧ H b = some (.tup ys) ∧ Paired (Twn F H n) xs ys)) ∧ Q (.bl true) H
theorem op_eqW (hu : X.A.units + 64 < cLine) : OpR X (compareOp .Eq) rEqW := by
  intro pins s σ H x y v u Q I rx ry h
  obtain ⟨F, n, hn, ⟨a, b, rfl, rfl, h⟩, q⟩ := h
  cases (show v = Value.ref a from rx)
  cases (show u = Value.ref b from ry)
  have ih := twn_run (F := F) I n X.A.in1 (by show X.A.units + 1 + n < cLine; omega)
  rcases h with ⟨xs, ys, ha, hb, p⟩ | ⟨ks, ls, ha, hb, hl, p⟩ | ⟨xs, ys, ha, hb, p⟩
  · exact eqR_run I (A := X.A) (by omega) ih (.inl ⟨a, b, xs, ys, rfl, rfl, .inl (.inl ha), .inl (.inl hb), p⟩) rfl rfl _ _ ⟨.bl true, H, I, rfl, q⟩
  · exact eqR_run I (A := X.A) (by omega) ih (.inr ⟨a, b, ks, ls, rfl, rfl, ha, hb, hl, p⟩) rfl rfl _ _ ⟨.bl true, H, I, rfl, q⟩
  · exact tup_run I (A := X.A) (by omega) ih ha hb p _ _ ⟨.bl true, H, I, rfl, q⟩
/-- a != b, two lists of twins -/
def rNeW : R2 := fun x y H Q => ∃ a b xs ys, x = .ref a ∧ y = .ref b ∧ H a = some (.lst xs) ∧ H b = some (.lst ys) ∧ (∃ (F : Addr → Prop) (n : Nat), n ≤ 60 ∧ Paired (Twn F H n) xs ys) ∧ Q (.bl false) H
theorem op_neW (hu : X.A.units + 64 < cLine) : OpR X (compareOp .NotEq) rNeW := by
  intro pins s σ H x y v u Q I rx ry h
  obtain ⟨a, b, xs, ys, rfl, rfl, ha, hb, ⟨F, n, hn, hp⟩, q⟩ := h
  cases (show v = Value.ref a from rx)
  cases (show u = Value.ref b from ry)
  obtain ⟨us, r1, p1, _⟩ := I.list (.inl (.inl ha) : SqL X.K H a xs)
  obtain ⟨ws, r2, p2, _⟩ := I.list (.inl (.inl hb) : SqL X.K H b ys)
  have hsz : us.toArray.size = ws.toArray.size := by
    rw [List.size_toArray, List.size_toArray, ← r1.length, ← r2.length]
    exact Paired.length hp
  refine rc_neP p1.isList p2.isList hsz (by omega) (fun j h1 h2 => ?_) _ _ ⟨.bl false, H, I, rfl, q⟩
  have k := items_run (twn_run (F := F) I n X.A.in1 (by show X.A.units + 1 + n < cLine; omega)) hp r1 r2 j (by simpa using h1) (by simpa using h2)
  simpa using k
end
end Cs

set_option Elab.async false
set_option linter.all false
set_option maxRecDepth 100000
set_option maxHeartbeats 4000000
namespace K46
open PySem PySem.Spec PyProof.Rows L2 Cs
def topS (i : Nat) : Stmt := PySem.Challenge.pw_curbdesk_k46_rests_on.main.body.getD i (.Pass ⟨0, 0, 0, 0⟩)
structure Bt (mg : Str → Option Value) : Prop where
  sorted : mg "sorted" = none
  set : mg "set" = none
  len : mg "len" = none
  isi : mg "isinstance" = none
  int : mg "int" = none
  bool : mg "bool" = none
  list : mg "list" = none
  all : mg "all" = none
  range : mg "range" = none
  dict : mg "dict" = none
abbrev Srt (ms : List Int) : Prop := ms.Pairwise (· < ·)
theorem same_new {H : Hp} {p : Addr} {o : HO} (h : H p = none) : Same H (upd H p o) := fun b x e => by
  rw [upd_ne (ne_of_none e h)]
  exact e
theorem same_at {H H' : Hp} {p : Addr} {o : HO} (s : Same H H') (h : H p = none) : Same H (upd H' p o) := fun b x e => by
  rw [upd_ne (ne_of_none e h)]
  exact s _ _ e
theorem sl_map {K : PySem.W.Frag} {H : Hp} {a : Addr} {xs : List V} (h : H a = some (.lst xs)) : SqL K H a xs := .inl (.inl h)
theorem and_iff (ns ks : List Int) (k : Int) : eAnd (fun j => decide (j ∈ ns)) (fun j => decide (j ∈ ks)) k ↔ k ∈ ns ∧ k ∈ ks := by
  show (decide (k ∈ ns) = true ∧ decide (k ∈ ks) = true) ↔ _
  simp
theorem or_iff' (ns ks : List Int) (k : Int) : eOr (fun j => decide (j ∈ ns)) (fun j => decide (j ∈ ks)) k ↔ k ∈ ns ∨ k ∈ ks := by
  show (decide (k ∈ ns) = true ∨ decide (k ∈ ks) = true) ↔ _
  simp
theorem sub_iff (ns ks : List Int) (k : Int) : eSub (fun j => decide (j ∈ ns)) (fun j => decide (j ∈ ks)) k ↔ k ∈ ns ∧ k ∉ ks := by
  show (decide (k ∈ ns) = true ∧ decide (k ∈ ks) = false) ↔ _
  simp
section
variable {P : Program} {w : World} {K : PySem.W.Frag} {mg : Str → Option Value} {base : Heap}
/-! ### the program: sides -/
/-- two lists, and what is said of the members -/
def spTwo (K : PySem.W.Frag) (mem : List Int → List Int → Int → Prop) : Sp := fun vs H Q _ => ∃ (a b : Addr) (ns ks : List Int), vs = [.ref a, .ref b] ∧ SqL K H a (ns.map V.int) ∧ SqL K H b (ks.map V.int) ∧ ns.length ≤ 31 ∧ ks.length ≤ 31 ∧
  ∀ H' p ms, Same H H' → H p = none → H' p = some (.lst (ms.map V.int)) → Srt ms → (∀ k, k ∈ ms ↔ mem ns ks k) → ms.length ≤ 63 → Q (.ref p) H'
end
section
variable {P : Program} {w : World} {K : PySem.W.Frag} {mg : Str → Option Value} {base : Heap}
abbrev sIsInt : Stmt := topS 9
abbrev sStream : Stmt := topS 10
abbrev sDraw : Stmt := topS 11
theorem scIsInt : FnScope ["_law_actual"] ["_law_actual"] (defScope sIsInt) := ⟨rfl, rfl, rfl, by decide +kernel, rfl, by decide +kernel, by decide +kernel⟩
theorem scStream : FnScope ["_law_script", "_law_k", "_law_cell"] ["_law_script", "_law_k"] (defScope sStream) := ⟨rfl, rfl, rfl, by decide +kernel, rfl, by decide +kernel, by decide +kernel⟩
theorem scDraw : FnScope ["_law_stream_here", "_law_size", "_law_digit", "_law_mixed"] ["_law_stream_here", "_law_size"] (defScope sDraw) := ⟨rfl, rfl, rfl, by decide +kernel, rfl, by decide +kernel, by decide +kernel⟩
def spIsInt : Sp := fun vs H Q _ => ∃ k : Int, vs = [.int k] ∧ Q (.bl true) H
theorem ok_isInt {f : Addr} {fd : FuncData} {k : Nat} (F : Fun K "_law_is_integer" "_law_is_integer" sIsInt f fd) (B : Bt mg) : FnOk P w K mg base CX0 (k + 1) f fd ["_law_actual"] spIsInt := by
  refine F.ok scIsInt (fun vs H Q E h => ?_) (fun cdv A outer s H vs Q E hr h => ?_)
  · obtain ⟨a, rfl, _⟩ := h
    rfl
  · obtain ⟨a, rfl, q⟩ := h
    refine ⟨_, pss_one (ps_ret (pe_and (pe_callB call_isi (by rfl) B.isi PyProof.Rows.boot_isinstance (pa_cons (pv 0) (pa_cons (pe_bltn (by rfl) B.int PyProof.Rows.boot_int (v := .ty "int") rfl) pa_nil)))
      (pe_one (pe_not (pe_callB call_isi (by rfl) B.isi PyProof.Rows.boot_isinstance (pa_cons (pv 0) (pa_cons (pe_bltn (by rfl) B.bool PyProof.Rows.boot_bool (v := .ty "bool") rfl) pa_nil))))))), ?_⟩
    refine ⟨.int a, rfl, .int a, .ty "int", .type "int", .type "int", true, rfl, .ty _, .base (.int a), kit_ty (by decide +kernel), true, rfl, iteT ?_⟩
    exact ⟨.int a, rfl, .int a, .ty "bool", .type "int", .type "bool", false, rfl, .ty _, .base (.int a), kit_ty (by decide +kernel), false, rfl, q⟩

/-- a stream: three ints -/
def Strm (H : Hp) (p : Addr) : Prop := ∃ x y z : Int, H p = some (.lst [.int x, .int y, .int z])
def spStream (K : PySem.W.Frag) : Sp := fun vs H Q _ => ∃ (a : Addr) (ns : List Int) (k : Nat), vs = [.ref a, .int (k : Int)] ∧ SqL K H a (ns.map V.int) ∧
  ∀ H' p, Same H H' → H p = none → Strm H' p → Q (.ref p) H'
theorem ok_stream {f : Addr} {fd : FuncData} {k : Nat} (F : Fun K "_law_stream" "_law_stream" sStream f fd) (B : Bt mg) : FnOk P w K mg base CX0 (k + 1) f fd ["_law_script", "_law_k"] (spStream K) := by
  refine F.ok scStream (fun vs H Q E h => ?_) (fun cdv A outer s H vs Q E hr h => ?_)
  · obtain ⟨a, ns, k, rfl, _⟩ := h
    rfl
  · obtain ⟨a, ns, k, rfl, hS, q⟩ := h
    refine ⟨_, pss_cons (ps_set (i := 2) scStream.nd rfl (.inl rfl) pe_int)
      (pss_cons (ps_if (pt_cmpR op_lt (pv 1) (pe_callB call_len_seq (by rfl) B.len PySem.boot_len (pa_cons (pv 0) pa_nil)) (nomark _))
        (pss_one (ps_set (i := 2) scStream.nd rfl (.inl rfl) (pe_ix ix_list (pv 0) (pv 1) (fun _ _ => rfl)))) pss_nil)
      (pss_one (ps_ret (pe_lst (pa_cons (pe_op op_mul (pv 2) (pe_callTy call_int1 (by rfl) B.int PyProof.Rows.boot_int (pa_cons (pe_cmpR op_ge (pv 2) (pe_op op_pow pe_int pe_int) (nomark _)) pa_nil))) (pa_cons pe_int (pa_cons (pv 2) pa_nil))))))), ?_⟩
    have tail : ∀ (c : Int) (b : Bool), -(2 ^ 64) < (if b = true then (1 : Int) else 0) ∧ (if b = true then (1 : Int) else 0) < 2 ^ 64 := fun c b => by cases b <;> decide
    refine ⟨.int k, rfl, .ref a, rfl, a, _, rfl, .inl hS, (k : Int), _, rfl, rfl, _, rfl, ite2 (fun c => ?_) (fun c => ?_)⟩
    · have hk : k < ns.length := by
        have := of_decide_eq_true c
        rw [List.length_map] at this
        omega
      have g : (ns.map V.int)[k]? = some (.int ns[k]) := by
        rw [List.getElem?_map, List.getElem?_eq_getElem hk]
        rfl
      refine ⟨.ref a, rfl, .int k, rfl, a, _, (k : Int), _, rfl, rfl, hS, atI_nat g, ?_⟩
      refine ⟨.int ns[k], rfl, .int ns[k], rfl, 10, 18, rfl, rfl, ⟨by decide, by decide, by decide⟩, ns[k], _, rfl, rfl, .inr ⟨_, rfl, ns[k], _, rfl, rfl, .inr (tail 0 _), .int ns[k], rfl, by show 3 ≤ sizeLine; decide, fun l hl => ?_⟩⟩
      exact q _ l (same_new hl) hl ⟨_, _, _, upd_same⟩
    · refine ⟨.int 0, rfl, .int 0, rfl, 10, 18, rfl, rfl, ⟨by decide, by decide, by decide⟩, 0, _, rfl, rfl, .inr ⟨_, rfl, 0, _, rfl, rfl, .inr (tail 0 _), .int 0, rfl, by show 3 ≤ sizeLine; decide, fun l hl => ?_⟩⟩
      exact q _ l (same_new hl) hl ⟨_, _, _, upd_same⟩
/-- all but the one at p is as it was -/
def Oth (p : Addr) (H H' : Hp) : Prop := ∀ b, b ≠ p → H' b = H b
def spDraw : Sp := fun vs H Q _ => ∃ (p : Addr) (m : Int), vs = [.ref p, .int m] ∧ Strm H p ∧ 0 < m ∧ m < 1073741824 ∧
  ∀ H' d, Oth p H H' → Strm H' p → 0 ≤ d → d < m → Q (.int d) H'
theorem at0 {x y z : V} : atI [x, y, z] (0 : Int) = some x := atI_nat (j := 0) rfl
theorem at1 {x y z : V} : atI [x, y, z] (1 : Int) = some y := atI_nat (j := 1) rfl
theorem at2 {x y z : V} : atI [x, y, z] (2 : Int) = some z := atI_nat (j := 2) rfl
theorem ok_draw {f : Addr} {fd : FuncData} {k : Nat} (F : Fun K "_law_next" "_law_next" sDraw f fd) (B : Bt mg) : FnOk P w K mg base CX0 (k + 1) f fd ["_law_stream_here", "_law_size"] spDraw := by
  refine F.ok scDraw (fun vs H Q E h => ?_) (fun cdv A outer s H vs Q E hr h => ?_)
  · obtain ⟨p, m, rfl, _⟩ := h
    rfl
  · obtain ⟨p, m, rfl, ⟨x, y, z, hp⟩, m0, m1, q⟩ := h
    refine ⟨_, pss_cons (ps_asg (pe_op op_add (pe_ix ix_list (pv 0) pe_int (fun _ _ => rfl)) pe_int) (pg_sub (pv 0) pe_int set_list))
      (pss_cons (ps_if (pt_cmpR op_gt (pe_ix ix_list (pv 0) pe_int (fun _ _ => rfl)) pe_int (nomark _))
        (pss_cons (ps_set (i := 2) scDraw.nd rfl (.inl rfl) (pe_op op_mod (pe_callTy call_int1 (by rfl) B.int PyProof.Rows.boot_int (pa_cons (pe_ix ix_list (pv 0) pe_int (fun _ _ => rfl)) pa_nil)) (pv 1)))
          (pss_cons (ps_asg (pe_op op_fdiv (pe_ix ix_list (pv 0) pe_int (fun _ _ => rfl)) (pv 1)) (pg_sub (pv 0) pe_int set_list))
          (pss_one (ps_ret (pv 2))))) pss_nil)
      (pss_cons (ps_set (i := 3) scDraw.nd rfl (.inl rfl) (pe_op op_mod (pe_callTy call_int1 (by rfl) B.int PyProof.Rows.boot_int (pa_cons
          (pe_op op_add (pe_op op_add (pe_ix ix_list (pv 0) pe_int (fun _ _ => rfl)) (pe_op op_mul pe_int (pe_ix ix_list (pv 0) pe_int (fun _ _ => rfl)))) pe_int) pa_nil)) pe_int))
      (pss_cons (ps_set (i := 3) scDraw.nd rfl (.inl rfl) (pe_op op_mod (pe_callTy call_int1 (by rfl) B.int PyProof.Rows.boot_int (pa_cons
          (pe_op op_mul (pv 3) (pe_op op_add (pv 3) pe_int)) pa_nil)) pe_int))
      (pss_cons (ps_set (i := 3) scDraw.nd rfl (.inl rfl) (pe_op op_mod (pe_callTy call_int1 (by rfl) B.int PyProof.Rows.boot_int (pa_cons
          (pe_op op_add (pe_op op_mul (pv 3) (pe_op op_add (pv 3) pe_int)) (pe_op op_mul pe_int (pe_ix ix_list (pv 0) pe_int (fun _ _ => rfl)))) pa_nil)) pe_int))
      (pss_one (ps_ret (pe_op op_mod (pe_callTy call_int1 (by rfl) B.int PyProof.Rows.boot_int (pa_cons (pe_op op_fdiv (pv 3) pe_int) pa_nil)) (pv 1)))))))), ?_⟩
    have pos1 : (0 : Int) < 2147483647 := by decide
    have pos2 : (0 : Int) < 2147483629 := by decide
    -- stream[1] = stream[1] + 1
    refine ⟨.ref p, rfl, p, _, 1, .int y, rfl, rfl, sl_map hp, at1, y, 1, rfl, rfl, .ref p, rfl, p, _, 1, 1, rfl, rfl, hp, rfl, ?_⟩
    have h1 : ∀ o, (upd H p o) p = some o := fun o => upd_same
    -- if stream[0] > 0
    refine ⟨.ref p, rfl, p, _, 0, .int x, rfl, rfl, sl_map upd_same, at0, x, 0, rfl, rfl, _, rfl, ite2 (fun c => ?_) (fun c => ?_)⟩
    · refine ⟨.ref p, rfl, p, _, 0, .int x, rfl, rfl, sl_map upd_same, at0, .inl ⟨x, rfl, .int m, rfl, x, m, rfl, rfl, m0, ?_⟩⟩
      refine ⟨.ref p, rfl, p, _, 0, .int x, rfl, rfl, sl_map upd_same, at0, .int m, rfl, x, m, rfl, rfl, ⟨m0, m1⟩, .ref p, rfl, p, _, 0, 0, rfl, rfl, upd_same, rfl, ?_⟩
      refine ⟨.int (x % m), rfl, q _ _ (fun b hb => by rw [upd_ne hb, upd_ne hb]) ⟨_, _, _, upd_same⟩ (Int.emod_nonneg _ (by omega)) (Int.emod_lt_of_pos _ m0)⟩
    · refine ⟨.ref p, rfl, p, _, 2, .int z, rfl, rfl, sl_map upd_same, at2, .ref p, rfl, p, _, 1, .int (y + 1), rfl, rfl, sl_map upd_same, at1, 7919, y + 1, rfl, rfl, .inl ⟨by decide, by decide⟩, z, _, rfl, rfl, _, 13, rfl, rfl,
        .inl ⟨_, rfl, _, 2147483647, rfl, rfl, pos1, ?_⟩⟩
      have r1 : ∀ u : Int, 0 ≤ u % 2147483647 ∧ u % 2147483647 < 2147483647 := fun u => ⟨Int.emod_nonneg _ (by decide), Int.emod_lt_of_pos _ (by decide)⟩
      have r2 : ∀ u : Int, 0 ≤ u % 2147483629 ∧ u % 2147483629 < 2147483629 := fun u => ⟨Int.emod_nonneg _ (by decide), Int.emod_lt_of_pos _ (by decide)⟩
      have big : (2147483647 : Int) < 2 ^ 64 := by decide
      have big2 : (-(2 ^ 64) : Int) < 0 := by decide
      have b1 := r1 (z + 7919 * (y + 1) + 13)
      refine ⟨_, rfl, _, rfl, (z + 7919 * (y + 1) + 13) % 2147483647, 48271, rfl, rfl, (z + 7919 * (y + 1) + 13) % 2147483647, _, rfl, rfl, .inl ⟨by omega, by omega⟩, .inl ⟨_, rfl, _, 2147483629, rfl, rfl, pos2, ?_⟩⟩
      have b2 := r2 ((z + 7919 * (y + 1) + 13) % 2147483647 * ((z + 7919 * (y + 1) + 13) % 2147483647 + 48271))
      refine ⟨_, rfl, _, rfl, _, 69621, rfl, rfl, (z + 7919 * (y + 1) + 13) % 2147483647 * ((z + 7919 * (y + 1) + 13) % 2147483647 + 48271) % 2147483629, _, rfl, rfl, .inl ⟨?_, ?_⟩, .ref p, rfl, p, _, 1, .int (y + 1), rfl, rfl, sl_map upd_same, at1, 31, y + 1, rfl, rfl, .inl ⟨by decide, by decide⟩, _, _, rfl, rfl,
        .inl ⟨_, rfl, _, 2147483647, rfl, rfl, pos1, ?_⟩⟩
      · generalize (z + 7919 * (y + 1) + 13) % 2147483647 * ((z + 7919 * (y + 1) + 13) % 2147483647 + 48271) % 2147483629 = v at b2
        omega
      · generalize (z + 7919 * (y + 1) + 13) % 2147483647 * ((z + 7919 * (y + 1) + 13) % 2147483647 + 48271) % 2147483629 = v at b2
        omega
      refine ⟨_, rfl, _, 9, rfl, rfl, ⟨by decide, by decide⟩, .inl ⟨_, rfl, .int m, rfl, _, m, rfl, rfl, m0, ?_⟩⟩
      exact q _ _ (fun b hb => by rw [upd_ne hb]) ⟨_, _, _, upd_same⟩ (Int.emod_nonneg _ (by omega)) (Int.emod_lt_of_pos _ m0)
/-- a def that stands, with its promise -/
structure Call (P : Program) (w : World) (K : PySem.W.Frag) (mg : Str → Option Value) (base : Heap) (k : Nat) (x : Str) (f : Addr) (fd : FuncData) (ps : List Str) (sp : Sp) : Prop where
  ok : FnOk P w K mg base CX0 k f fd ps sp
  at_ : mg x = some (.ref f)
  kp : PySem.W.keepIn K (.ref f) = true
  bd : Binds K fd ps []
abbrev nIsSide : List Str := ["_law_actual", "_law_value", "_law_k"]
def spIsSide : Sp := fun vs H Q _ => ∃ (a : Addr) (ns : List Int), vs = [.ref a] ∧ H a = some (.lst (ns.map V.int)) ∧ Srt ns ∧ ns.length ≤ 1000 ∧ ∀ H', Same H H' → Q (.bl true) H'
theorem all_rep (n : Nat) : (List.replicate n true).all id = true := by simp
/-- what was tracked, but for the one at p, is as it was -/
def Keep (p : Addr) (H H' : Hp) : Prop := ∀ b o, b ≠ p → H b = some o → H' b = some o
theorem Keep.refl (p : Addr) (H : Hp) : Keep p H H := fun _ _ _ e => e
theorem Keep.oth {p : Addr} {H H1 H2 : Hp} (k : Keep p H H1) (o : Oth p H1 H2) : Keep p H H2 := fun b u hb e => (o b hb).trans (k b u hb e)
theorem Keep.trans {p : Addr} {H H1 H2 : Hp} (k : Keep p H H1) (k2 : Keep p H1 H2) : Keep p H H2 := fun b u hb e => k2 b u hb (k b u hb e)
theorem Keep.at_ {p q : Addr} {o : HO} {H H1 : Hp} (k : Keep p H H1) (n : H q = none) : Keep p H (upd H1 q o) := fun b u hb e => by
  rw [upd_ne (ne_of_none e n)]
  exact k b u hb e
theorem Keep.same {p : Addr} {H H1 : Hp} (s : Same H H1) : Keep p H H1 := fun b u _ e => s b u e
theorem Strm.some {H : Hp} {p : Addr} (s : Strm H p) : H p ≠ none := fun z => by
  obtain ⟨x, y, z', e⟩ := s
  rw [z] at e
  cases e
theorem Strm.keep {H H' : Hp} {p q : Addr} (s : Strm H p) (k : Keep q H H') (h : p ≠ q) : Strm H' p := by
  obtain ⟨x, y, z, e⟩ := s
  exact ⟨x, y, z, k _ _ h e⟩
theorem Strm.upd {H : Hp} {p q : Addr} {o : HO} (s : Strm H p) (h : p ≠ q) : Strm (upd H q o) p := by
  obtain ⟨x, y, z, e⟩ := s
  exact ⟨x, y, z, by rw [upd_ne h]; exact e⟩
theorem Keep.free {p q : Addr} {H H1 : Hp} (k : Keep p H H1) (s : Strm H1 p) (n : H1 q = none) : H q = none := by
  have hp : q ≠ p := fun z => s.some (z ▸ n)
  cases c : H q with
  | none => rfl
  | some o =>
    rw [k q o hp c] at n
    cases n
end
theorem srt_ext : ∀ {xs ys : List Int}, Srt xs → Srt ys → (∀ k, k ∈ xs ↔ k ∈ ys) → xs = ys
  | [], [], _, _, _ => rfl
  | [], y :: ys, _, _, h => absurd ((h y).2 List.mem_cons_self) (by simp)
  | x :: xs, [], _, _, h => absurd ((h x).1 List.mem_cons_self) (by simp)
  | x :: xs, y :: ys, sx, sy, h => by
    obtain ⟨x1, x2⟩ := List.pairwise_cons.mp sx
    obtain ⟨y1, y2⟩ := List.pairwise_cons.mp sy
    have e : x = y := by
      rcases List.mem_cons.mp ((h x).1 List.mem_cons_self) with a | a
      · exact a
      · rcases List.mem_cons.mp ((h y).2 List.mem_cons_self) with b | b
        · exact b.symm
        · have := x1 y b
          have := y1 x a
          omega
    subst e
    have t : ∀ k, k ∈ xs ↔ k ∈ ys := fun k => by
      constructor
      · intro hk
        rcases List.mem_cons.mp ((h k).1 (List.mem_cons_of_mem _ hk)) with a | a
        · have := x1 k hk
          omega
        · exact a
      · intro hk
        rcases List.mem_cons.mp ((h k).2 (List.mem_cons_of_mem _ hk)) with a | a
        · have := y1 k hk
          omega
        · exact a
    rw [srt_ext x2 y2 t]
/-! ### lists of ints as data -/
abbrev dI (ns : List Int) : PyData := .list (ns.map PyData.int)
theorem dp_all {K : PySem.W.Frag} {H : Hp} : ∀ ns : List Int, DpAll K H (ns.map V.int) (ns.map PyData.int)
  | [] => .nil
  | n :: ns => .cons (.int n) (dp_all ns)
theorem dpI {K : PySem.W.Frag} {H : Hp} {a : Addr} {ns : List Int} (h : SqL K H a (ns.map V.int)) : Dp K H (.ref a) (dI ns) := .lst h (dp_all ns)
theorem lay_all : ∀ ns : List Int, PyData.canLayAll0 (ns.map PyData.int) = true
  | [] => rfl
  | n :: ns => by
    show (PyData.canLay0 (.int n) && PyData.canLayAll0 (ns.map PyData.int)) = true
    rw [lay_all ns] <;> rfl
theorem layI (ns : List Int) : (dI ns).canLay0 = true := lay_all ns
theorem deep_all : ∀ ns : List Int, PyData.depthAll (ns.map PyData.int) ≤ 1
  | [] => by simp [PyData.depthAll]
  | n :: ns => by
    have := deep_all ns
    simp only [List.map_cons, PyData.depthAll, PyData.depth]
    omega
theorem deepI (ns : List Int) : (dI ns).depth ≤ 2 := by
  have := deep_all ns
  simp only [dI, PyData.depth]
  omega
theorem shI (ns : List Int) : SeqAt.shaped (dI ns) = true := by
  unfold SeqAt.shaped
  rw [layI]
  have := deepI ns
  simp
  omega
theorem eqI (ns : List Int) : PyData.eqv (dI ns) (dI ns) = true := SeqAt.eqv_refl _ (layI ns)
theorem lay2 (ns ks : List Int) : (PyData.list [dI ns, dI ks]).canLay0 = true := by
  show (PyData.canLay0 (dI ns) && (PyData.canLay0 (dI ks) && true)) = true
  rw [layI, layI]
  rfl
theorem sh2 (ns ks : List Int) : SeqAt.shaped (.list [dI ns, dI ks]) = true := by
  unfold SeqAt.shaped
  rw [lay2]
  have h1 := deepI ns
  have h2 := deepI ks
  have : (PyData.list [dI ns, dI ks]).depth ≤ 3 := by
    simp only [PyData.depth, PyData.depthAll] at *
    omega
  simp
  omega
theorem eq2 (ns ks : List Int) : PyData.eqv (.list [dI ns, dI ks]) (.list [dI ns, dI ks]) = true := SeqAt.eqv_refl _ (lay2 ns ks)
/-! ### boxes: dicts from texts to lists of ints -/
abbrev Ent := Str × Addr × List Int
def entK (L : List Ent) : List (Key × V) := L.map fun e => (Sum.inr e.1, V.ref e.2.1)
def getE (L : List Ent) (x : Str) : Option Ent := L.find? fun e => decide (e.1 = x)
def look (L : List Ent) (x : Str) : Option (List Int) := (getE L x).map (·.2.2)
theorem getE_nil (x : Str) : getE [] x = none := rfl
theorem getE_pos {e : Ent} {L : List Ent} {x : Str} (h : e.1 = x) : getE (e :: L) x = some e := by simp [getE, List.find?_cons, h]
theorem getE_neg {e : Ent} {L : List Ent} {x : Str} (h : ¬ e.1 = x) : getE (e :: L) x = getE L x := by simp [getE, List.find?_cons, h]
theorem getE_mem {L : List Ent} {x : Str} {e : Ent} (h : getE L x = some e) : e ∈ L ∧ e.1 = x :=
  ⟨List.mem_of_find?_eq_some h, of_decide_eq_true (List.find?_some (p := fun e : Ent => decide (e.1 = x)) h)⟩
theorem getE_of : ∀ {L : List Ent} {e : Ent}, (L.map (·.1)).Nodup → e ∈ L → getE L e.1 = some e
  | [], _, _, h => by cases h
  | a :: L, e, nd, h => by
    rw [List.map_cons, List.nodup_cons] at nd
    rcases List.mem_cons.mp h with z | z
    · rw [z]; exact getE_pos rfl
    · have ne : ¬ a.1 = e.1 := fun q => nd.1 (q ▸ List.mem_map_of_mem z)
      rw [getE_neg ne]
      exact getE_of nd.2 z
theorem getE_none {L : List Ent} {x : Str} : getE L x = none ↔ x ∉ L.map (·.1) := by
  unfold getE
  rw [List.find?_eq_none]
  constructor
  · intro h hx
    obtain ⟨e, he, q⟩ := List.mem_map.mp hx
    exact h e he (decide_eq_true q)
  · intro h e he q
    exact h (of_decide_eq_true q ▸ List.mem_map_of_mem he)
theorem look_mem {L : List Ent} {e : Ent} (nd : (L.map (·.1)).Nodup) (h : e ∈ L) : look L e.1 = some e.2.2 := by
  unfold look
  rw [getE_of nd h]
  rfl
theorem valV_ent (x : Str) : ∀ L : List Ent, valV (entK L) (.inr x) = (getE L x).map fun e => V.ref e.2.1
  | [] => rfl
  | e :: L => by
    by_cases h : e.1 = x
    · rw [getE_pos h]
      exact valV_pos (congrArg Sum.inr h)
    · rw [getE_neg h]
      have : valV (entK (e :: L)) (.inr x) = valV (entK L) (.inr x) := valV_neg (fun z => h (Sum.inr.inj z))
      rw [this]
      exact valV_ent x L
structure Bx (H : Hp) (d : Addr) (L : List Ent) : Prop where
  rd : Rd H d (.dK (entK L))
  sides : ∀ e ∈ L, H e.2.1 = some (.lst (e.2.2.map V.int))
  nd : (L.map (·.1)).Nodup
  few : L.length ≤ 40
theorem Rd.same {H H' : Hp} {a : Addr} {u : HO} (s : Same H H') (r : Rd H a u) : Rd H' a u := r.elim (fun h => .inl (s _ _ h)) fun ⟨o, h⟩ => .inr ⟨o, s _ _ h⟩
theorem Bx.same {H H' : Hp} {d : Addr} {L : List Ent} (B : Bx H d L) (s : Same H H') : Bx H' d L := ⟨Rd.same s B.rd, fun e he => s _ _ (B.sides e he), B.nd, B.few⟩
theorem Bx.get {H : Hp} {d : Addr} {L : List Ent} (B : Bx H d L) (x : Str) : DGet H d (.str x) ((getE L x).map fun e => V.ref e.2.1) := .inl ⟨entK L, .inr x, B.rd, rfl, (valV_ent x L).symm⟩
/-- a locked dict is read as before -/
theorem Bx.lock {H : Hp} {d d' : Addr} {L L' : List Ent} {od : Obj} (B : Bx H d L) (h : H d' = some (.dK (entK L'))) : Bx (upd H d' (.frz od (.dK (entK L')))) d L := by
  refine ⟨?_, fun e he => ?_, B.nd, B.few⟩
  · by_cases z : d = d'
    · subst z
      have : entK L' = entK L := by
        rcases B.rd with q | ⟨o, q⟩
        · rw [h] at q
          exact HO.dK.inj (Option.some.inj q)
        · rw [h] at q; cases q
      rw [← this]
      exact .inr ⟨od, upd_same⟩
    · rcases B.rd with q | ⟨o, q⟩
      · exact .inl (by rw [upd_ne z]; exact q)
      · exact .inr ⟨o, by rw [upd_ne z]; exact q⟩
  · have : e.2.1 ≠ d' := fun z => by have q := B.sides e he; rw [z, h] at q; cases q
    rw [upd_ne this]
    exact B.sides e he
theorem unlock {H H' : Hp} {d : Addr} {u : HO} {od : Obj} (h : H d = some u) (s : Same (upd H d (.frz od u)) H') : Same H (upd H' d u) := fun b o e => by
  by_cases z : b = d
  · subst z
    rw [upd_same]
    exact h.symm.trans e
  · rw [upd_ne z]
    exact s b o (by rw [upd_ne z]; exact e)
/-- put -/
def putE (L : List Ent) (x : Str) (a : Addr) (s : List Int) : List Ent := if (L.any fun e => decide (e.1 = x)) = true then L.map (fun e => if e.1 = x then (x, a, s) else e) else L ++ [(x, a, s)]
theorem any_ent (L : List Ent) (x : Str) : ((entK L).any fun kv => decide (kv.1 = Sum.inr x)) = L.any fun e => decide (e.1 = x) := by
  unfold entK
  rw [List.any_map]
  congr 1
  funext e
  simp
theorem putK_ent (L : List Ent) (x : Str) (a : Addr) (s : List Int) : putK (entK L) (.inr x) (V.ref a) = entK (putE L x a s) := by
  unfold putK putE
  rw [any_ent]
  by_cases h : (L.any fun e => decide (e.1 = x)) = true
  · rw [if_pos h, if_pos h]
    unfold entK
    rw [List.map_map, List.map_map]
    congr 1
    funext e
    by_cases z : e.1 = x
    · simp [z]
    · simp [z]
  · rw [if_neg h, if_neg h]
    unfold entK
    rw [List.map_append]
    rfl
theorem any_iff {L : List Ent} {x : Str} : (L.any fun e => decide (e.1 = x)) = true ↔ x ∈ L.map (·.1) := by
  rw [List.any_eq_true, List.mem_map]
  constructor
  · rintro ⟨e, he, q⟩; exact ⟨e, he, of_decide_eq_true q⟩
  · rintro ⟨e, he, q⟩; exact ⟨e, he, decide_eq_true q⟩
theorem putE_keys (L : List Ent) (x : Str) (a : Addr) (s : List Int) : (putE L x a s).map (·.1) = if x ∈ L.map (·.1) then L.map (·.1) else L.map (·.1) ++ [x] := by
  unfold putE
  by_cases h : (L.any fun e => decide (e.1 = x)) = true
  · rw [if_pos h, if_pos (any_iff.mp h), List.map_map]
    congr 1
    funext e
    by_cases z : e.1 = x
    · simp [z]
    · simp [z]
  · rw [if_neg h, if_neg (fun z => h (any_iff.mpr z)), List.map_append]
    rfl
theorem putE_nd {L : List Ent} {x : Str} {a : Addr} {s : List Int} (nd : (L.map (·.1)).Nodup) : ((putE L x a s).map (·.1)).Nodup := by
  rw [putE_keys]
  split
  · exact nd
  · rename_i h
    rw [List.nodup_append]
    exact ⟨nd, by simp, fun y hy z hz => by rw [List.mem_singleton.mp hz]; exact fun e => h (e ▸ hy)⟩
theorem putE_len (L : List Ent) (x : Str) (a : Addr) (s : List Int) : (putE L x a s).length ≤ L.length + 1 := by
  unfold putE
  split
  · rw [List.length_map]; omega
  · rw [List.length_append]; exact Nat.le_refl _
theorem putE_mem {L : List Ent} {x : Str} {a : Addr} {s : List Int} {e : Ent} (h : e ∈ putE L x a s) : e = (x, a, s) ∨ (e ∈ L ∧ e.1 ≠ x) := by
  unfold putE at h
  split at h
  · obtain ⟨f, hf, q⟩ := List.mem_map.mp h
    by_cases z : f.1 = x
    · rw [if_pos z] at q; exact .inl q.symm
    · rw [if_neg z] at q; exact .inr (q ▸ ⟨hf, z⟩)
  · rename_i g
    rcases List.mem_append.mp h with q | q
    · exact .inr ⟨q, fun z => g (any_iff.mpr (z ▸ List.mem_map_of_mem q))⟩
    · exact .inl (List.mem_singleton.mp q)
theorem find_map_at {x y : Str} {a : Addr} {s : List Int} (h : ¬ x = y) : ∀ L : List Ent, getE (L.map (fun e => if e.1 = x then (x, a, s) else e)) y = getE L y
  | [] => rfl
  | e :: L => by
    rw [List.map_cons]
    by_cases z : e.1 = x
    · rw [if_pos z, getE_neg (show ¬ (x, a, s).1 = y from h), getE_neg (fun q => h (z.symm.trans q))]
      exact find_map_at h L
    · rw [if_neg z]
      by_cases q : e.1 = y
      · rw [getE_pos q, getE_pos q]
      · rw [getE_neg q, getE_neg q]
        exact find_map_at h L
theorem find_map_self {x : Str} {a : Addr} {s : List Int} : ∀ L : List Ent, x ∈ L.map (·.1) → getE (L.map (fun e => if e.1 = x then (x, a, s) else e)) x = some (x, a, s)
  | [], h => by cases h
  | e :: L, h => by
    rw [List.map_cons]
    by_cases z : e.1 = x
    · rw [if_pos z]; exact getE_pos rfl
    · rw [if_neg z, getE_neg z]
      rw [List.map_cons] at h
      exact find_map_self L ((List.mem_cons.mp h).elim (fun q => absurd q.symm z) id)
theorem getE_app (L M : List Ent) (y : Str) : getE (L ++ M) y = (getE L y).or (getE M y) := List.find?_append
theorem getE_put (L : List Ent) (x y : Str) (a : Addr) (s : List Int) : getE (putE L x a s) y = if y = x then some (x, a, s) else getE L y := by
  unfold putE
  by_cases h : (L.any fun e => decide (e.1 = x)) = true
  · rw [if_pos h]
    by_cases z : y = x
    · rw [if_pos z, z]
      exact find_map_self L (any_iff.mp h)
    · rw [if_neg z]
      exact find_map_at (fun q => z q.symm) L
  · rw [if_neg h, getE_app]
    by_cases z : y = x
    · rw [if_pos z, z, getE_none.mpr (fun q => h (any_iff.mpr q))]
      exact getE_pos rfl
    · rw [if_neg z, show getE [(x, a, s)] y = none from getE_neg (fun q => z q.symm)]
      cases getE L y <;> rfl
theorem look_put (L : List Ent) (x y : Str) (a : Addr) (s : List Int) : look (putE L x a s) y = if y = x then some s else look L y := by
  unfold look
  rw [getE_put]
  by_cases z : y = x
  · rw [if_pos z, if_pos z]; rfl
  · rw [if_neg z, if_neg z]
/-- drop -/
def dropE (L : List Ent) (x : Str) : List Ent := L.filter fun e => decide (e.1 ≠ x)
theorem dropK_ent (L : List Ent) (x : Str) : dropK (entK L) (.inr x) = entK (dropE L x) := by
  unfold dropK dropE entK
  rw [List.filter_map]
  congr 1
  apply List.filter_congr
  intro e _
  simp
theorem getE_drop (x y : Str) : ∀ L : List Ent, getE (dropE L x) y = if y = x then none else getE L y
  | [] => by unfold dropE; simp [getE]
  | e :: L => by
    have ih := getE_drop x y L
    unfold dropE at ih ⊢
    by_cases z : e.1 = x
    · rw [List.filter_cons_of_neg (by simp [z]), ih]
      by_cases q : y = x
      · rw [if_pos q, if_pos q]
      · rw [if_neg q, if_neg q, getE_neg (fun w => q (w.symm.trans z))]
    · rw [List.filter_cons_of_pos (by simp [z])]
      by_cases w : e.1 = y
      · rw [getE_pos w, getE_pos w, if_neg (fun q => z (w.trans q))]
      · rw [getE_neg w, getE_neg w, ih]
theorem look_drop (L : List Ent) (x y : Str) : look (dropE L x) y = if y = x then none else look L y := by
  unfold look
  rw [getE_drop]
  by_cases q : y = x
  · rw [if_pos q, if_pos q]; rfl
  · rw [if_neg q, if_neg q]
theorem dropE_nd {L : List Ent} {x : Str} (nd : (L.map (·.1)).Nodup) : ((dropE L x).map (·.1)).Nodup := List.Pairwise.sublist (List.Sublist.map _ List.filter_sublist) nd
theorem dropE_mem {L : List Ent} {x : Str} {e : Ent} (h : e ∈ dropE L x) : e ∈ L := (List.mem_filter.mp h).1
theorem dropE_len (L : List Ent) (x : Str) : (dropE L x).length ≤ L.length := List.length_filter_le _ _
/-- two boxes that say the same -/
def SameB (L M : List Ent) : Prop := ∀ x, look L x = look M x
theorem look_isSome {L : List Ent} {x : Str} : (look L x).isSome = true ↔ x ∈ L.map (·.1) := by
  unfold look
  rw [Option.isSome_map]
  cases h : getE L x with
  | none => simp [getE_none.mp h]
  | some e => simp only [Option.isSome_some, true_iff]; obtain ⟨a, b⟩ := getE_mem h; exact b ▸ List.mem_map_of_mem a
theorem len_le {α : Type} [DecidableEq α] : ∀ {l m : List α}, l.Nodup → (∀ x ∈ l, x ∈ m) → l.length ≤ m.length
  | [], _, _, _ => Nat.zero_le _
  | x :: l, m, nd, h => by
    rw [List.nodup_cons] at nd
    have hx := h x List.mem_cons_self
    have ih := len_le (m := m.erase x) nd.2 (fun y hy => (List.mem_erase_of_ne (fun (e : y = x) => nd.1 (by rw [← e]; exact hy))).2 (h y (List.mem_cons_of_mem _ hy)))
    rw [List.length_erase_of_mem hx] at ih
    have : 0 < m.length := List.length_pos_of_mem hx
    rw [List.length_cons]
    omega
theorem SameB.len {L M : List Ent} (s : SameB L M) (n1 : (L.map (·.1)).Nodup) (n2 : (M.map (·.1)).Nodup) : L.length = M.length := by
  have h1 := len_le n1 (fun x hx => look_isSome.mp (by rw [← s x]; exact look_isSome.mpr hx))
  have h2 := len_le n2 (fun x hx => look_isSome.mp (by rw [s x]; exact look_isSome.mpr hx))
  rw [List.length_map, List.length_map] at h1 h2
  omega
/-- v in ks, as the model asks it -/
theorem in_ints (ks : List Int) (v : Int) : inV (.int v) (ks.map V.int) = decide (v ∈ ks) := by
  unfold inV
  induction ks with
  | nil => simp
  | cons k ks ih =>
    rw [List.map_cons, List.any_cons, ih]
    have e : eqV (.int k) (.int v) = decide (k = v) := by
      by_cases c : k = v
      · subst c; simp [eqV]
      · simp [eqV, c]
    rw [e]
    by_cases c : k = v
    · subst c; simp
    · have c2 : ¬ v = k := fun z => c z.symm
      simp [c, c2]
theorem flat_ints (ks : List Int) : (ks.map V.int).all flatV = true := by
  rw [List.all_map]
  exact List.all_eq_true.mpr fun _ _ => rfl
section
variable {P : Program} {w : World} {K : PySem.W.Frag} {mg : Str → Option Value} {base : Heap}
/-! ### the program: boxes -/
/-- a box that no walk has locked -/
structure Bu (H : Hp) (d : Addr) (L : List Ent) : Prop extends Bx H d L where
  un : H d = some (.dK (entK L))
theorem Bu.same' {H H' : Hp} {d : Addr} {L : List Ent} (B : Bu H d L) (s : Same H H') : Bu H' d L := ⟨B.toBx.same s, s _ _ B.un⟩
theorem upd_back {H : Hp} {d : Addr} {u x : HO} (h : H d = some u) : upd (upd H d x) d u = H := by
  funext b
  by_cases z : b = d
  · rw [z, upd_same, h]
  · rw [upd_ne z, upd_ne z]
theorem entK_get {L : List Ent} {i : Nat} : (entK L)[i]? = (L[i]?).map fun e => (Sum.inr e.1, V.ref e.2.1) := by
  unfold entK
  rw [List.getElem?_map]
/-! ### holds -/
def intK (A : List (Str × Int)) : List (Key × V) := A.map fun e => (Sum.inr e.1, V.int e.2)
def aget (A : List (Str × Int)) (x : Str) : Option Int := (A.find? fun e => decide (e.1 = x)).map (·.2)
theorem valV_int (x : Str) : ∀ A : List (Str × Int), valV (intK A) (.inr x) = (aget A x).map V.int
  | [] => rfl
  | e :: A => by
    by_cases h : e.1 = x
    · have : aget (e :: A) x = some e.2 := by simp [aget, List.find?_cons, h]
      rw [this]
      exact valV_pos (congrArg Sum.inr h)
    · have : aget (e :: A) x = aget A x := by simp [aget, List.find?_cons, h]
      rw [this]
      have : valV (intK (e :: A)) (.inr x) = valV (intK A) (.inr x) := valV_neg (fun z => h (Sum.inr.inj z))
      rw [this]
      exact valV_int x A
/-- an assignment: a dict from texts to ints -/
structure Ax (H : Hp) (d : Addr) (A : List (Str × Int)) : Prop where
  rd : Rd H d (.dK (intK A))
theorem Ax.same {H H' : Hp} {d : Addr} {A : List (Str × Int)} (B : Ax H d A) (s : Same H H') : Ax H' d A := ⟨Rd.same s B.rd⟩
theorem Ax.get {H : Hp} {d : Addr} {A : List (Str × Int)} (B : Ax H d A) (x : Str) : DGet H d (.str x) ((aget A x).map V.int) := .inl ⟨intK A, .inr x, B.rd, rfl, (valV_int x A).symm⟩
def inSide (A : List (Str × Int)) (e : Ent) : Bool := match aget A e.1 with
  | some v => decide (v ∈ e.2.2)
  | none => true
def holdsE (L : List Ent) (A : List (Str × Int)) : Bool := L.all (inSide A)
theorem same_frz {H H' : Hp} {d : Addr} {u : HO} {od : Obj} (h : H d = some u) (s : Same H H') : Same (upd H d (.frz od u)) (upd H' d (.frz od u)) := fun b o e => by
  by_cases z : b = d
  · subst z
    rw [upd_same] at e ⊢
    exact e
  · rw [upd_ne z] at e ⊢
    exact s _ _ e
theorem take_all {α : Type} {L : List α} {i : Nat} {e : α} {p : α → Bool} (h : L[i]? = some e) : (L.take (i + 1)).all p = ((L.take i).all p && p e) := by
  rw [List.take_add_one, h, List.all_append]
  simp
theorem not_all {α : Type} {L : List α} {i : Nat} {e : α} {p : α → Bool} (h : L[i]? = some e) (q : p e = false) : L.all p = false := by
  rw [List.all_eq_false]
  exact ⟨e, List.mem_of_getElem? h, by simp [q]⟩
theorem Ax.frz {H : Hp} {v d : Addr} {A : List (Str × Int)} {u : HO} (B : Ax H v A) (h : v ≠ d) : Ax (upd H d u) v A := ⟨B.rd.elim (fun q => .inl (by rw [upd_ne h]; exact q)) fun ⟨o, q⟩ => .inr ⟨o, by rw [upd_ne h]; exact q⟩⟩
theorem entK_len (L : List Ent) : (entK L).length = L.length := by unfold entK; rw [List.length_map]
theorem items_at {L : List Ent} {i : Nat} {x1 x2 : V} (g1 : ((entK L)[i]?.map fun kv => kV kv.1) = some x1) (g2 : ((entK L)[i]?.map Prod.snd) = some x2) : ∃ e, L[i]? = some e ∧ x1 = .str e.1 ∧ x2 = .ref e.2.1 := by
  rw [entK_get] at g1 g2
  cases c : L[i]? with
  | none => rw [c] at g1; cases g1
  | some e => rw [c] at g1 g2; exact ⟨e, rfl, (Option.some.inj g1).symm, (Option.some.inj g2).symm⟩
theorem keys_at {L : List Ent} {i : Nat} {k : Key} {v : V} (h : (entK L)[i]? = some (k, v)) : ∃ e, L[i]? = some e ∧ k = .inr e.1 ∧ v = .ref e.2.1 := by
  rw [entK_get] at h
  obtain ⟨e, he, q⟩ := Option.map_eq_some_iff.mp h
  cases q
  exact ⟨e, he, rfl, rfl⟩
/-! ### box_within -/
end
/-- a new box with sides of its own -/
structure Nb (H0 H : Hp) (d : Addr) (L : List Ent) : Prop extends Bu H d L where
  fresh : H0 d = none
  freshS : ∀ e ∈ L, H0 e.2.1 = none
  inj : (L.map (·.2.1)).Nodup
theorem Nb.pull {H H0 H1 : Hp} {d : Addr} {L : List Ent} (N : Nb H0 H1 d L) (s : Same H H0) : Nb H H1 d L := ⟨N.toBu, s.free N.fresh, fun e he => s.free (N.freshS e he), N.inj⟩
theorem Nb.push {H0 H1 H2 : Hp} {d : Addr} {L : List Ent} (N : Nb H0 H1 d L) (s : Same H1 H2) : Nb H0 H2 d L := ⟨N.toBu.same' s, N.fresh, N.freshS, N.inj⟩
abbrev shape (L : List Ent) : List (Str × List Int) := L.map fun e => (e.1, e.2.2)
theorem look_shape : ∀ {L M : List Ent}, shape L = shape M → SameB L M
  | [], [], _, _ => rfl
  | [], _ :: _, h, _ => by cases h
  | _ :: _, [], h, _ => by cases h
  | e :: L, f :: M, h, x => by
    simp only [shape, List.map_cons, List.cons.injEq, Prod.mk.injEq] at h
    obtain ⟨⟨h1, h2⟩, h3⟩ := h
    have ih := look_shape (L := L) (M := M) h3 x
    unfold look at ih ⊢
    by_cases z : e.1 = x
    · rw [getE_pos z, getE_pos (h1 ▸ z)]
      exact congrArg some h2
    · rw [getE_neg z, getE_neg (fun q => z (h1.trans q))]
      exact ih
theorem shape_keys {L M : List Ent} (h : shape L = shape M) : L.map (·.1) = M.map (·.1) := by
  have q := congrArg (List.map Prod.fst) h
  unfold shape at q
  rw [List.map_map, List.map_map] at q
  exact q
theorem putE_new {L : List Ent} {x : Str} {a : Addr} {s : List Int} (h : x ∉ L.map (·.1)) : putE L x a s = L ++ [(x, a, s)] := if_neg fun z => h (any_iff.mp z)
theorem nd_snoc {α : Type} {l : List α} {x : α} (nd : l.Nodup) (h : x ∉ l) : (l ++ [x]).Nodup := by
  rw [List.nodup_append]
  exact ⟨nd, by simp, fun y hy z hz => by rw [List.mem_singleton.mp hz]; exact fun e => h (e ▸ hy)⟩
theorem dc_it {J : It} {n : Nat} {G : Hp → Prop} {Y : Nat → Hp → V → Hp → Prop} (w : Walk J n G Y) {g : TG} {tt : TT} {tk tv : TE} {vs : List Nat} {σ : L2.St} {H1 : Hp} {D : Addr} {Qd : Hp → Prop} (Pv : Nat → Hp → Prop) (start : Pv 0 (upd H1 D (.dK []))) (stays : ∀ i H, i ≤ n → Pv i H → G H)
    (turn : ∀ i x H H', i < n → Pv i H → Y i H x H' → g x (wipe σ vs) H' fun σ2 H2 => wipe σ2 vs = wipe σ vs ∧ tt σ2 H2 fun b H3 =>
      if b = true then tk σ2 H3 fun y H4 => tv σ2 H4 fun z H5 => ∃ kvs k, y = kV k ∧ H5 D = some (.dK kvs) ∧ kvs.length < sizeLine ∧ Pv (i + 1) (upd H5 D (.dK (putK kvs k z))) else Pv (i + 1) H3) (after : ∀ H, Pv n H → Qd H) :
    ∃ W : Nat → Nat → Hp → Prop, (∃ m, W 0 m (upd H1 D (.dK []))) ∧ ∀ i m H, W i m H →
      (J.stop i H ∧ Qd H) ∨ (J.go i H ∧ ∃ Nx : Hp → Prop, (∀ H', Nx H' → ∃ m', m' < m ∧ W (i + 1) m' H') ∧ ∀ x H', J.yld i H x H' → g x (wipe σ vs) H' fun σ2 H2 => wipe σ2 vs = wipe σ vs ∧ tt σ2 H2 fun b H3 =>
        if b = true then tk σ2 H3 fun y H4 => tv σ2 H4 fun z H5 => ∃ kvs k, y = kV k ∧ H5 D = some (.dK kvs) ∧ kvs.length < sizeLine ∧ Nx (upd H5 D (.dK (putK kvs k z))) else Nx H3) := by
  refine ⟨fun i m H => m = n - i ∧ i ≤ n ∧ Pv i H, ⟨n, rfl, Nat.zero_le _, start⟩, fun i m H h => ?_⟩
  obtain ⟨em, le, pv⟩ := h
  by_cases lt : i < n
  · exact .inr ⟨w.goes i H lt (stays i H le pv), Pv (i + 1), fun H' p => ⟨n - (i + 1), by omega, rfl, lt, p⟩, fun x H' y => turn i x H H' lt pv (w.yields i H x H' lt (stays i H le pv) y)⟩
  · obtain rfl : i = n := by omega
    exact .inl ⟨w.stops H (stays _ H le pv), after H pv⟩
section
variable {P : Program} {w : World} {K : PySem.W.Frag} {mg : Str → Option Value} {base : Heap}
abbrev rLst (K : PySem.W.Frag) : List V → Hp → VK → Prop := fun xs H Q => ∃ p ys, xs = [.ref p] ∧ (SqL K H p ys ∨ SqT K H p ys) ∧ ∀ l, H l = none → Q (.ref l) (upd H l (.lst ys))
def spCopy : Sp := fun vs H Q _ => ∃ (d : Addr) (L : List Ent), vs = [.ref d] ∧ Bu H d L ∧ ∀ (H' : Hp) (d' : Addr) (M : List Ent), Same H H' → Nb H H' d' M → shape M = shape L → Q (.ref d') H'
end
/-! ### what two sorted lists have together -/
def ins (k : Int) : List Int → List Int
  | [] => [k]
  | x :: l => if k < x then k :: x :: l else if k = x then x :: l else x :: ins k l
theorem ins_mem (k j : Int) : ∀ l : List Int, j ∈ ins k l ↔ j = k ∨ j ∈ l
  | [] => by simp [ins]
  | x :: l => by
    unfold ins
    by_cases a : k < x
    · rw [if_pos a]; simp
    · rw [if_neg a]
      by_cases b : k = x
      · rw [if_pos b, b]; simp
      · rw [if_neg b, List.mem_cons, ins_mem k j l, List.mem_cons]
        constructor
        · rintro (h | h | h)
          · exact .inr (.inl h)
          · exact .inl h
          · exact .inr (.inr h)
        · rintro (h | h | h)
          · exact .inr (.inl h)
          · exact .inl h
          · exact .inr (.inr h)
theorem ins_srt (k : Int) : ∀ l : List Int, Srt l → Srt (ins k l)
  | [], _ => List.pairwise_singleton _ _
  | x :: l, s => by
    obtain ⟨s1, s2⟩ := List.pairwise_cons.mp s
    unfold ins
    by_cases a : k < x
    · rw [if_pos a]
      refine List.pairwise_cons.mpr ⟨fun y hy => ?_, s⟩
      rcases List.mem_cons.mp hy with h | h
      · rw [h]; exact a
      · have := s1 y h; omega
    · rw [if_neg a]
      by_cases b : k = x
      · rw [if_pos b]; exact s
      · rw [if_neg b]
        refine List.pairwise_cons.mpr ⟨fun y hy => ?_, ins_srt k l s2⟩
        rcases (ins_mem k y l).mp hy with h | h
        · rw [h]; omega
        · exact s1 y h
theorem ins_len (k : Int) : ∀ l : List Int, (ins k l).length ≤ l.length + 1
  | [] => Nat.le_refl _
  | x :: l => by
    have := ins_len k l
    unfold ins
    split
    · simp
    · split
      · simp
      · simp only [List.length_cons]; omega
def uni (a b : List Int) : List Int := b.foldr ins a
theorem uni_mem (a : List Int) (j : Int) : ∀ b : List Int, j ∈ uni a b ↔ j ∈ a ∨ j ∈ b
  | [] => by simp [uni]
  | k :: b => by
    have ih := uni_mem a j b
    show j ∈ ins k (uni a b) ↔ _
    rw [ins_mem, ih, List.mem_cons]
    constructor
    · rintro (h | h | h)
      · exact .inr (.inl h)
      · exact .inl h
      · exact .inr (.inr h)
    · rintro (h | h | h)
      · exact .inr (.inl h)
      · exact .inl h
      · exact .inr (.inr h)
theorem uni_srt {a : List Int} (s : Srt a) : ∀ b : List Int, Srt (uni a b)
  | [] => s
  | k :: b => ins_srt k _ (uni_srt s b)
theorem uni_len (a : List Int) : ∀ b : List Int, (uni a b).length ≤ a.length + b.length
  | [] => Nat.le_refl _
  | k :: b => by
    have h1 := ins_len k (uni a b)
    have h2 := uni_len a b
    show (ins k (uni a b)).length ≤ a.length + (b.length + 1)
    omega
def both (a s : List Int) : List Int := a.filter fun k => decide (k ∈ s)
theorem both_srt {a s : List Int} (h : Srt a) : Srt (both a s) := List.Pairwise.filter _ h
theorem both_mem (a s : List Int) (k : Int) : k ∈ both a s ↔ k ∈ a ∧ k ∈ s := by
  unfold both
  rw [List.mem_filter, decide_eq_true_iff]
theorem look_snoc (L : List Ent) (e : Ent) (y : Str) (h : e.1 ∉ L.map (·.1)) : look (L ++ [e]) y = if y = e.1 then some e.2.2 else look L y := by
  unfold look
  rw [getE_app]
  by_cases z : y = e.1
  · rw [if_pos z, z, getE_none.mpr h, getE_pos rfl]
    rfl
  · rw [if_neg z, getE_neg (fun q => z q.symm), getE_nil]
    cases getE L y <;> rfl
theorem take_keys {L : List Ent} {i : Nat} {e : Ent} (nd : (L.map (·.1)).Nodup) (he : L[i]? = some e) : e.1 ∉ (L.take i).map (·.1) := by
  intro z
  obtain ⟨g, hg, eg⟩ := List.mem_map.mp z
  obtain ⟨j, hj⟩ := List.mem_iff_getElem?.mp hg
  rw [List.getElem?_take] at hj
  split at hj
  · rename_i hji
    have a1 : (L.map (·.1))[j]? = some e.1 := by rw [List.getElem?_map, hj]; exact congrArg some eg
    have a2 : (L.map (·.1))[i]? = some e.1 := by rw [List.getElem?_map, he]; rfl
    have := nd_ix nd a1 a2
    omega
  · cases hj
theorem look_take {L : List Ent} {i : Nat} {e : Ent} (nd : (L.map (·.1)).Nodup) (he : L[i]? = some e) (y : Str) : look (L.take (i + 1)) y = if y = e.1 then some e.2.2 else look (L.take i) y := by
  rw [List.take_add_one, he]
  exact look_snoc (L.take i) e y (take_keys nd he)
structure Sz (L : List Ent) (n : Nat) : Prop where
  srt : ∀ e ∈ L, Srt e.2.2
  len : ∀ e ∈ L, e.2.2.length ≤ n
theorem look_of {L : List Ent} {x : Str} {s : List Int} (h : look L x = some s) : ∃ e ∈ L, e.1 = x ∧ e.2.2 = s := by
  unfold look at h
  obtain ⟨e, he, q⟩ := Option.map_eq_some_iff.mp h
  obtain ⟨a, b⟩ := getE_mem he
  exact ⟨e, a, b, q⟩
/-- what a new box needs when one more side is put -/
theorem Nb.put {H0 H H3 : Hp} {d l : Addr} {M : List Ent} {x : Str} {s : List Int} (N : Nb H0 H d M) (n0 : H0 l = none) (nl : H l = none) (s3 : Same H H3) (el : H3 l = some (.lst (s.map V.int))) (few : M.length + 1 ≤ 40) :
    Nb H0 (upd H3 d (.dK (entK (putE M x l s)))) d (putE M x l s) := by
  have nld : l ≠ d := fun z => by rw [z, N.un] at nl; cases nl
  have sd : ∀ e ∈ putE M x l s, (upd H3 d (.dK (entK (putE M x l s)))) e.2.1 = some (.lst (e.2.2.map V.int)) := fun e he => by
    rcases putE_mem he with z | ⟨z, _⟩
    · rw [z, upd_ne nld]
      exact el
    · have h1 := N.sides e z
      have h2 : e.2.1 ≠ d := fun w => by rw [w, N.un] at h1; cases h1
      rw [upd_ne h2]
      exact s3 _ _ h1
  refine ⟨⟨⟨.inl upd_same, sd, putE_nd N.nd, by have := putE_len M x l s; omega⟩, upd_same⟩, N.fresh, fun e he => ?_, ?_⟩
  · rcases putE_mem he with z | ⟨z, _⟩
    · rw [z]; exact n0
    · exact N.freshS e z
  · have lM : l ∉ M.map (·.2.1) := fun w => by
      obtain ⟨g, hg, eg⟩ := List.mem_map.mp w
      have eg' : g.2.1 = l := eg
      have h1 := N.sides g hg
      rw [eg', nl] at h1
      cases h1
    unfold putE
    split
    · rw [List.map_map]
      have key : ∀ L : List Ent, (L.map (·.1)).Nodup → (L.map (·.2.1)).Nodup → l ∉ L.map (·.2.1) → (L.map ((fun e : Ent => e.2.1) ∘ fun e => if e.1 = x then (x, l, s) else e)).Nodup ∧ ∀ q ∈ L.map ((fun e : Ent => e.2.1) ∘ fun e => if e.1 = x then (x, l, s) else e), q ∈ L.map (·.2.1) ∨ (q = l ∧ x ∈ L.map (·.1)) := by
        intro L
        induction L with
        | nil => intro _ _ _; exact ⟨List.Pairwise.nil, fun q hq => by cases hq⟩
        | cons e L ih =>
          intro n1 n2 n3
          rw [List.map_cons, List.nodup_cons] at n1 n2
          rw [List.map_cons, List.mem_cons, not_or] at n3
          obtain ⟨i1, i2⟩ := ih n1.2 n2.2 n3.2
          rw [List.map_cons, List.nodup_cons]
          by_cases c : e.1 = x
          · have ef : ((fun e : Ent => e.2.1) ∘ fun e => if e.1 = x then (x, l, s) else e) e = l := by simp [c]
            rw [ef]
            refine ⟨⟨fun w => ?_, i1⟩, fun q hq => ?_⟩
            · rcases i2 l w with z | ⟨_, z⟩
              · exact n3.2 z
              · exact n1.1 (c ▸ z)
            · rcases List.mem_cons.mp hq with z | z
              · exact .inr ⟨z, by rw [List.map_cons, c]; exact List.mem_cons_self⟩
              · rcases i2 q z with y | ⟨y1, y2⟩
                · exact .inl (List.mem_cons_of_mem _ y)
                · exact .inr ⟨y1, List.mem_cons_of_mem _ y2⟩
          · have ef : ((fun e : Ent => e.2.1) ∘ fun e => if e.1 = x then (x, l, s) else e) e = e.2.1 := by simp [c]
            rw [ef]
            refine ⟨⟨fun w => ?_, i1⟩, fun q hq => ?_⟩
            · rcases i2 _ w with z | ⟨z, _⟩
              · exact n2.1 z
              · exact n3.1 z.symm
            · rcases List.mem_cons.mp hq with z | z
              · exact .inl (by rw [z]; exact List.mem_cons_self)
              · rcases i2 q z with y | ⟨y1, y2⟩
                · exact .inl (List.mem_cons_of_mem _ y)
                · exact .inr ⟨y1, List.mem_cons_of_mem _ y2⟩
      exact (key M N.nd N.inj lM).1
    · rw [List.map_append]
      exact nd_snoc N.inj lM
theorem Same.unl {H H' : Hp} {d : Addr} {u : HO} {od : Obj} (h : H d = some u) (s : Same (upd H d (.frz od u)) H') : Same H (upd H' d u) := unlock h s
/-- a new box behind a lock elsewhere -/
theorem Nb.unl {H0 H' : Hp} {b d : Addr} {u : HO} {M : List Ent} {od : Obj} (N : Nb H0 H' d M) (hb : H0 b = some u) (eF : H' b = some (.frz od u)) : Nb H0 (upd H' b u) d M := by
  have db : d ≠ b := fun z => by have := N.un; rw [z, eF] at this; cases this
  have away : ∀ g ∈ M, g.2.1 ≠ b := fun g hg z => by have := N.sides g hg; rw [z, eF] at this; cases this
  exact ⟨⟨⟨.inl (by rw [upd_ne db]; exact N.un), fun g hg => by rw [upd_ne (away g hg)]; exact N.sides g hg, N.nd, N.few⟩, by rw [upd_ne db]; exact N.un⟩, N.fresh, N.freshS, N.inj⟩
theorem Nb.lck {H0 H : Hp} {b d : Addr} {u : HO} {M : List Ent} {od : Obj} (N : Nb H0 H d M) (hb : H0 b ≠ none) : Nb H0 (upd H b (.frz od u)) d M := by
  have db : d ≠ b := fun z => hb (z ▸ N.fresh)
  have away : ∀ g ∈ M, g.2.1 ≠ b := fun g hg z => hb (z ▸ N.freshS g hg)
  exact ⟨⟨⟨.inl (by rw [upd_ne db]; exact N.un), fun g hg => by rw [upd_ne (away g hg)]; exact N.sides g hg, N.nd, N.few⟩, by rw [upd_ne db]; exact N.un⟩, N.fresh, N.freshS, N.inj⟩
section
variable {P : Program} {w : World} {K : PySem.W.Frag} {mg : Str → Option Value} {base : Heap}
end
theorem ne_some' {H : Hp} {p q : Addr} {o : HO} (h : H p = some o) (n : H q = none) : p ≠ q := fun e => by rw [e, n] at h; cases h
section
variable {P : Program} {w : World} {K : PySem.W.Frag} {mg : Str → Option Value} {base : Heap}
/-! ### the pool, a part of it -/
abbrev nPool : List Str := ["_law_stream_here", "_law_count", "_law_pool_here", "_law_k", "_law_scale", "_law_value"]
abbrev nPart : List Str := ["_law_stream_here", "_law_side", "_law_value"]
theorem srt_snoc {ss : List Int} {v : Int} (s : Srt ss) (h : ∀ k ∈ ss, k < v) : Srt (ss ++ [v]) :=
  List.pairwise_append.mpr ⟨s, List.pairwise_singleton _ _, fun a ha b hb => by rw [List.mem_singleton.mp hb]; exact h a ha⟩
def spPool : Sp := fun vs H Q _ => ∃ (p : Addr) (m : Nat), vs = [.ref p, .int (m : Int)] ∧ Strm H p ∧ 1 ≤ m ∧ m ≤ 100 ∧
  ∀ (H' : Hp) (l : Addr) (ns : List Int), Keep p H H' → H l = none → Strm H' p → H' l = some (.lst (ns.map V.int)) → Srt ns → ns.length = m → Q (.ref l) H'
def spPart (K : PySem.W.Frag) : Sp := fun vs H Q _ => ∃ (p a : Addr) (ns : List Int), vs = [.ref p, .ref a] ∧ Strm H p ∧ H a = some (.lst (ns.map V.int)) ∧ p ≠ a ∧ ns.length ≤ 1000 ∧
  ∀ (H' : Hp) (l : Addr) (ms : List Int), Keep p H H' → H l = none → Strm H' p → H' l = some (.lst (ms.map V.int)) → ms.Sublist ns → Q (.ref l) H'
end
/-! ### names -/
def plainN : List Str := ["x", "yard", "z", "u", "wide_one", "q", "pp", "t"]
def lettersN : Str := "qwertyuiopasdfghjklzxcvbnm_zyx"
def digitsN : Str := "7305186429"
theorem plain_nodup : ((List.range 8).all fun s => decide (((List.range 8).map fun k => plainN.getD ((k * 3 + s) % 8) "x").Nodup)) = true := by decide +kernel
def isDig (c : Nat) : Bool := decide (48 ≤ c) && decide (c ≤ 57)
def mark (z : Str) : Option Nat := z.cps.toList.find? isDig
theorem letters_none : (lettersN.cps.toList.all fun c => !isDig c) = true := by decide +kernel
theorem digits_are : (digitsN.cps.toList.all isDig) = true := by decide +kernel
theorem digits_nodup : digitsN.cps.toList.Nodup := by decide +kernel
theorem digits_len : digitsN.cps.toList.length = 10 := by decide +kernel
theorem letters_len : lettersN.length = 30 := by decide +kernel
theorem cut_letters (lo hi : Option Int) : ∀ c ∈ (cutS lettersN lo hi).cps.toList, isDig c = false := fun c hc => by
  have h1 : c ∈ lettersN.cps.toList := by
    have : (cutS lettersN lo hi).cps.toList = (lettersN.cps.toList.drop (HT.sIx lettersN.length 0 lo)).take (HT.sIx lettersN.length lettersN.length hi - HT.sIx lettersN.length 0 lo) := by
      unfold cutS
      simp
    rw [this] at hc
    exact List.mem_of_mem_drop (List.mem_of_mem_take hc)
  have := List.all_eq_true.mp letters_none c h1
  simpa using this
theorem cut_len (lo hi : Option Int) : (cutS lettersN lo hi).length ≤ 30 := by
  have h : (cutS lettersN lo hi).cps.toList.length ≤ 30 := by
    unfold cutS
    simp only [List.toList_toArray]
    have l : lettersN.cps.toList.length = 30 := letters_len
    rw [List.length_take, List.length_drop]
    omega
  exact h
theorem mark_of (x t : Str) (c : Nat) (hx : ∀ d ∈ x.cps.toList, isDig d = false) (hc : isDig c = true) : mark (x ++ ⟨#[c]⟩ ++ t) = some c := by
  unfold mark
  have e : (x ++ ⟨#[c]⟩ ++ t).cps.toList = x.cps.toList ++ [c] ++ t.cps.toList := by
    show ((x.cps ++ #[c]) ++ t.cps).toList = _
    simp
  rw [e, List.append_assoc, List.find?_append]
  have : x.cps.toList.find? isDig = none := List.find?_eq_none.mpr fun d hd => by rw [hx d hd]; simp
  rw [this]
  show (([c] ++ t.cps.toList).find? isDig) = some c
  simp [hc]
theorem ok_of {x : Str} (h : ∀ c ∈ x.cps.toList, c < 0x110000) : PyData.strOk x = true := by
  unfold PyData.strOk
  rw [← Array.all_toList]
  exact List.all_eq_true.mpr fun c hc => decide_eq_true (h c hc)
theorem plain_ok : (plainN.all fun x => PyData.strOk x) = true := by decide +kernel
theorem letters_low : (lettersN.cps.toList.all fun c => decide (c < 0x110000)) = true := by decide +kernel
theorem digits_low : (digitsN.cps.toList.all fun c => decide (c < 0x110000)) = true := by decide +kernel
theorem cut_low (lo hi : Option Int) : ∀ c ∈ (cutS lettersN lo hi).cps.toList, c < 0x110000 := fun c hc => by
  have h1 : c ∈ lettersN.cps.toList := by
    have : (cutS lettersN lo hi).cps.toList = (lettersN.cps.toList.drop (HT.sIx lettersN.length 0 lo)).take (HT.sIx lettersN.length lettersN.length hi - HT.sIx lettersN.length 0 lo) := by
      unfold cutS
      simp
    rw [this] at hc
    exact List.mem_of_mem_drop (List.mem_of_mem_take hc)
  exact of_decide_eq_true (List.all_eq_true.mp letters_low c h1)
theorem name_ok (lo hi lo2 hi2 : Option Int) (c : Nat) (hc : c ∈ digitsN.cps.toList) : PyData.strOk (cutS lettersN lo hi ++ ⟨#[c]⟩ ++ cutS lettersN lo2 hi2) = true := ok_of fun d hd => by
  have e : (cutS lettersN lo hi ++ ⟨#[c]⟩ ++ cutS lettersN lo2 hi2).cps.toList = (cutS lettersN lo hi).cps.toList ++ [c] ++ (cutS lettersN lo2 hi2).cps.toList := by
    show (((cutS lettersN lo hi).cps ++ #[c]) ++ (cutS lettersN lo2 hi2).cps).toList = _
    simp
  rw [e] at hd
  rcases List.mem_append.mp hd with h | h
  · rcases List.mem_append.mp h with h | h
    · exact cut_low lo hi d h
    · rw [List.mem_singleton.mp h]
      exact of_decide_eq_true (List.all_eq_true.mp digits_low c hc)
  · exact cut_low lo2 hi2 d h
theorem str_one (c : Nat) : (⟨#[c]⟩ : Str).length = 1 := rfl
theorem len_app (x y : Str) : (x ++ y).length = x.length + y.length := by
  show (x.cps ++ y.cps).size = _
  exact Array.size_append
section
variable {P : Program} {w : World} {K : PySem.W.Frag} {mg : Str → Option Value} {base : Heap}
abbrev nNames : List Str := ["_law_stream_here", "_law_count", "_law_shift", "_law_plain", "_law_k", "_law_letters", "_law_names_here", "_law_at", "_law_size", "_law_tail"]
def spNames : Sp := fun vs H Q _ => ∃ (p : Addr) (m : Nat), vs = [.ref p, .int (m : Int)] ∧ Strm H p ∧ m ≤ 8 ∧
  ∀ (H' : Hp) (l : Addr) (xs : List Str), Keep p H H' → H l = none → Strm H' p → H' l = some (.lst (xs.map V.str)) → xs.Nodup → xs.length = m → (∀ x ∈ xs, PyData.strOk x = true) → Q (.ref l) H'
end
section
variable {P : Program} {w : World} {K : PySem.W.Frag} {mg : Str → Option Value} {base : Heap}
/-! ### a copy, by a loop -/
abbrev sCopied : Stmt := topS 19
abbrev nCopied : List Str := ["_law_sides", "_law_copied_here", "_law_name"]
theorem scCopied : FnScope nCopied ["_law_sides"] (defScope sCopied) := ⟨rfl, rfl, rfl, by decide +kernel, rfl, by decide +kernel, by decide +kernel⟩
theorem Nb.nil {H H' : Hp} {D : Addr} (n : H D = none) (h : H' D = some (.dK [])) : Nb H H' D [] := ⟨⟨⟨.inl h, (fun _ he => nomatch he), .nil, Nat.zero_le _⟩, h⟩, n, (fun _ he => nomatch he), .nil⟩
theorem shape_len {L M : List Ent} (h : shape L = shape M) : L.length = M.length := by have := congrArg List.length h; simpa [shape] using this
theorem shape_take {L M : List Ent} {i : Nat} {e : Ent} {l : Addr} (h : shape M = shape (L.take i)) (he : L[i]? = some e) : shape (M ++ [(e.1, l, e.2.2)]) = shape (L.take (i + 1)) := by
  rw [List.take_add_one, he]
  unfold shape at h ⊢
  rw [List.map_append, List.map_append, h]
  rfl
theorem ok_copied {f : Addr} {fd : FuncData} {k : Nat} (F : Fun K "_law_copied" "_law_copied" sCopied f fd) (B : Bt mg) : FnOk P w K mg base CX0 (k + 1) f fd ["_law_sides"] spCopy := by
  refine F.ok scCopied (fun vs H Q E h => ?_) (fun cdv A outer s H vs Q E hr h => ?_)
  · obtain ⟨d, L, rfl, _⟩ := h
    rfl
  · obtain ⟨d, L, rfl, bx, q⟩ := h
    have hu := hu_of hr
    have nd := scCopied.nd
    refine ⟨_, pss_cons (ps_set (i := 1) nd rfl (.inl rfl) pe_dnewK)
      (pss_cons (ps_lock (ps_for PassesOwn.never rfl (pi_keys (pv 0)) (pg_name (i := 2) nd rfl (.inl rfl))
        (pss_one (ps_dput hu (pv 1) (pv 2) (pe_callTy call_list_of (by rfl) B.list PyProof.Rows.boot_list (pa_cons (pe_dget hu (pv 0) (pv 2) (fun _ _ => rfl)) pa_nil)) rfl))))
      (pss_one (ps_ret (pv 1)))), ?_⟩
    intro D nD
    have s0 := same_new (o := HO.dK []) nD
    have bx0 := bx.same' s0
    refine ⟨d, _, bx0.un, trivial, fun od => ?_⟩
    have hd : H d ≠ none := by rw [bx.un]; exact fun z => by cases z
    have nDd : D ≠ d := fun z => hd (z ▸ nD)
    refine ⟨.ref d, rfl, d, od, rfl, .inl ⟨entK L, upd_same, for_it walk_keys (fun i σ H' => ∃ (M : List Ent) (y : Option V), σ = [some (.ref d), some (.ref D), y] ∧ Same (upd H d (.frz od (.dK (entK L)))) H' ∧ Nb H H' D M ∧ shape M = shape (L.take i))
      ⟨[], none, rfl, ?_, ?_, rfl⟩ (fun i σ H' _ h => by obtain ⟨M, y, _, e, _⟩ := h; exact e _ _ upd_same) ?_ ?_⟩⟩
    · intro b o e
      by_cases z : b = d
      · rw [z, upd_same] at e ⊢; exact e
      · rw [upd_ne z] at e ⊢
        exact s0 _ _ e
    · exact Nb.nil nD (by rw [upd_ne nDd]; exact upd_same)
    · rintro i x σ H' H'' hi ⟨M, y, rfl, sm, nb, sh⟩ ⟨rfl, k1, v1, hk, rfl⟩
      obtain ⟨e, he, rfl, rfl⟩ := keys_at hk
      have em := List.mem_of_getElem? he
      have bl := (bx.toBx.lock (od := od) bx.un).same sm
      have gv := bl.get e.1
      rw [getE_of bx.nd em] at gv
      rw [entK_len] at hi
      have few := bx.few
      have lM := shape_len sh
      rw [List.length_take] at lM
      refine ⟨.ref d, rfl, .str e.1, rfl, d, .ref e.2.1, rfl, gv, e.2.1, _, rfl, .inl (sl_map (bl.sides e em)), fun l nl => ?_⟩
      have sl := same_new (o := HO.lst (e.2.2.map V.int)) nl
      have nl0 : H l = none := by
        have := sm.free nl
        cases c : H l with
        | none => rfl
        | some o =>
          by_cases z : l = d
          · rw [z, upd_same] at this; cases this
          · rw [upd_ne z, c] at this; cases this
      have xnew : e.1 ∉ M.map (·.1) := by rw [shape_keys sh]; exact take_keys bx.nd he
      refine ⟨.ref D, rfl, .str e.1, rfl, D, _, rfl, DPut.k (k := .inr e.1) (sl _ _ nb.un) (by rw [entK_len]; exact small1000 (by omega)), ?_⟩
      refine ⟨putE M e.1 l e.2.2, some (.str e.1), rfl, ?_, ?_, ?_⟩
      · refine same_at (sm.trans sl) ?_
        rw [upd_ne nDd]
        exact nD
      · rw [putK_ent (s := e.2.2)]
        exact nb.put nl0 nl sl upd_same (by omega)
      · rw [putE_new xnew]
        exact shape_take sh he
    · rintro σ H' ⟨M, y, rfl, sm, nb, sh⟩
      rw [entK_len, List.take_length] at sh
      have eF := sm _ _ (upd_same (H := H) (a := d) (o := HO.frz od (.dK (entK L))))
      exact ⟨eF, _, rfl, q _ D M (unlock bx.un sm) (nb.unl bx.un eF) sh⟩
/-! ### _law_holds, _law_within, _law_is -/
end
theorem Nb.alias {H0 H : Hp} {d l : Addr} {M : List Ent} {x : Str} {s : List Int} (N : Nb H0 H d M) (n0 : H0 l = none) (el : H l = some (.lst (s.map V.int))) (nx : x ∉ M.map (·.1)) (nl : l ∉ M.map (·.2.1)) (few : M.length + 1 ≤ 40) :
    Nb H0 (upd H d (.dK (entK (M ++ [(x, l, s)])))) d (M ++ [(x, l, s)]) := by
  have ld : ∀ {c : Addr} {ys : List V}, H c = some (.lst ys) → c ≠ d := fun h z => by rw [z, N.un] at h; cases h
  refine ⟨⟨⟨.inl upd_same, fun e he => ?_, ?_, by rw [List.length_append]; exact few⟩, upd_same⟩, N.fresh, fun e he => ?_, ?_⟩
  · rcases List.mem_append.mp he with z | z
    · have h1 := N.sides e z
      rw [upd_ne (ld h1)]
      exact h1
    · rw [List.mem_singleton.mp z, upd_ne (ld el)]
      exact el
  · rw [List.map_append]
    exact nd_snoc N.nd nx
  · rcases List.mem_append.mp he with z | z
    · exact N.freshS e z
    · rw [List.mem_singleton.mp z]; exact n0
  · rw [List.map_append]
    exact nd_snoc N.inj nl
theorem Nb.unl' {H0 H' : Hp} {b d : Addr} {u : HO} {M : List Ent} {od : Obj} (N : Nb H0 H' d M) (eF : H' b = some (.frz od u)) : Nb H0 (upd H' b u) d M := by
  have db : d ≠ b := fun z => by have := N.un; rw [z, eF] at this; cases this
  have away : ∀ g ∈ M, g.2.1 ≠ b := fun g hg z => by have := N.sides g hg; rw [z, eF] at this; cases this
  exact ⟨⟨⟨.inl (by rw [upd_ne db]; exact N.un), fun g hg => by rw [upd_ne (away g hg)]; exact N.sides g hg, N.nd, N.few⟩, by rw [upd_ne db]; exact N.un⟩, N.fresh, N.freshS, N.inj⟩
section
variable {P : Program} {w : World} {K : PySem.W.Frag} {mg : Str → Option Value} {base : Heap}
end
/-- all that was there, but what stands at one of these -/
def KeepL (as : List Addr) (H H' : Hp) : Prop := ∀ b o, b ∉ as → H b = some o → H' b = some o
theorem KeepL.refl (as : List Addr) (H : Hp) : KeepL as H H := fun _ _ _ e => e
theorem KeepL.same {as : List Addr} {H H1 H2 : Hp} (k : KeepL as H H1) (s : Same H1 H2) : KeepL as H H2 := fun b o h e => s _ _ (k b o h e)
theorem KeepL.trans {as : List Addr} {H H1 H2 : Hp} (k : KeepL as H H1) (s : KeepL as H1 H2) : KeepL as H H2 := fun b o h e => s b o h (k b o h e)
abbrev big : Int := 10 ^ (13 : Int).toNat
def grown (ks : List Str) (e : Ent) : List Int := if e.1 ∈ ks then e.2.2 ++ [big] else e.2.2
theorem SameB.get {L M : List Ent} (s : SameB L M) {e : Ent} (nd : (M.map (·.1)).Nodup) (h : e ∈ M) : ∃ t ∈ L, t.1 = e.1 ∧ t.2.2 = e.2.2 ∧ getE L e.1 = some t := by
  have q := s e.1
  rw [look_mem nd h] at q
  unfold look at q
  obtain ⟨t, ht, eq⟩ := Option.map_eq_some_iff.mp q
  obtain ⟨m1, m2⟩ := getE_mem ht
  exact ⟨t, m1, m2, eq, ht⟩
theorem inj_eq {L : List Ent} (nd : (L.map (·.2.1)).Nodup) {e g : Ent} (he : e ∈ L) (hg : g ∈ L) (h : e.2.1 = g.2.1) : e = g := by
  obtain ⟨i, hi⟩ := List.mem_iff_getElem?.mp he
  obtain ⟨j, hj⟩ := List.mem_iff_getElem?.mp hg
  have a1 : (L.map (·.2.1))[i]? = some e.2.1 := by rw [List.getElem?_map, hi]; rfl
  have a2 : (L.map (·.2.1))[j]? = some e.2.1 := by rw [List.getElem?_map, hj, h]; rfl
  have := nd_ix nd a1 a2
  subst this
  exact Option.some.inj (hi.symm.trans hj)
theorem key_eq {L : List Ent} (nd : (L.map (·.1)).Nodup) {e g : Ent} (he : e ∈ L) (hg : g ∈ L) (h : e.1 = g.1) : e = g := by
  have a := getE_of nd he
  rw [h, getE_of nd hg] at a
  exact (Option.some.inj a).symm
section
variable {P : Program} {w : World} {K : PySem.W.Frag} {mg : Str → Option Value} {base : Heap}
abbrev nLNew : List Str := ["_law_told", "_law_expected", "_law_name"]
def spLNew : Sp := fun vs H Q _ => ∃ (t e : Addr) (T E : List Ent), vs = [.ref t, .ref e] ∧ Bu H t T ∧ (T.map (·.2.1)).Nodup ∧ Bu H e E ∧ SameB T E ∧ (∀ x ∈ E, x.2.1 ∉ T.map (·.2.1)) ∧ t ≠ e ∧ (∀ x ∈ E, x.2.2.length ≤ 100) ∧
  ∀ H', KeepL (T.map (·.2.1)) H H' → Q (.bl true) H'
end
section
variable {P : Program} {w : World} {K : PySem.W.Frag} {mg : Str → Option Value} {base : Heap}
abbrev nSame : List Str := ["_law_actual", "_law_expected", "_law_found", "_law_name"]
def spSame : Sp := fun vs H Q _ => ∃ (a e : Addr) (M E : List Ent), vs = [.ref a, .ref e] ∧ Bu H a M ∧ Bu H e E ∧ SameB M E ∧ (∀ g ∈ M, Srt g.2.2 ∧ g.2.2.length ≤ 1000) ∧ ∀ H', Same H H' → Q (.bl true) H'
end
theorem cutV_to (xs : List V) (j : Nat) : cutV xs none (some (j : Int)) = xs.take j := by
  unfold cutV
  rw [HT.sIx_none, HT.sIx_nat, List.drop_zero, Nat.sub_zero]
  by_cases h : j ≤ xs.length
  · rw [Nat.min_eq_left h]
  · rw [Nat.min_eq_right (by omega), List.take_of_length_le (Nat.le_refl _), List.take_of_length_le (by omega)]
theorem cutV_from (xs : List V) (j : Nat) : cutV xs (some (j : Int)) none = xs.drop j := by
  unfold cutV
  rw [HT.sIx_none, HT.sIx_nat]
  by_cases h : j ≤ xs.length
  · rw [Nat.min_eq_left h, List.take_of_length_le (by rw [List.length_drop]; exact Nat.le_refl _)]
  · rw [Nat.min_eq_right (by omega), List.drop_length, List.drop_of_length_le (by omega)]
    simp
theorem Nb.keep {H0 H H' : Hp} {p d : Addr} {M : List Ent} (N : Nb H0 H d M) (hp : H0 p ≠ none) (k : Keep p H H') : Nb H0 H' d M := by
  have pd : d ≠ p := fun z => hp (z ▸ N.fresh)
  have away : ∀ g ∈ M, g.2.1 ≠ p := fun g hg z => hp (z ▸ N.freshS g hg)
  exact ⟨⟨⟨.inl (k _ _ pd N.un), fun g hg => k _ _ (away g hg) (N.sides g hg), N.nd, N.few⟩, k _ _ pd N.un⟩, N.fresh, N.freshS, N.inj⟩
theorem Bu.keep {H H' : Hp} {p d : Addr} {M : List Ent} (N : Bu H d M) (s : Strm H p) (k : Keep p H H') (away : ∀ g ∈ M, g.2.1 ≠ p) : Bu H' d M := by
  have pd : d ≠ p := fun z => by
    obtain ⟨x, y, w, e⟩ := s
    have := N.un
    rw [z, e] at this
    cases this
  exact ⟨⟨.inl (k _ _ pd N.un), fun g hg => k _ _ (away g hg) (N.sides g hg), N.nd, N.few⟩, k _ _ pd N.un⟩
theorem with_rest2 {R : Hp → Prop} {G : Prop} (C : Hp → Prop) (r : ∀ H, C H → R H) (g : (∀ H, C H → R H) → G) : G := g r
section
variable {P : Program} {w : World} {K : PySem.W.Frag} {mg : Str → Option Value} {base : Heap}
end
theorem with_rest {R G : Prop} (r : R) (g : R → G) : G := g r
theorem Bu.aput {H : Hp} {d l : Addr} {M : List Ent} {x : Str} {s : List Int} (B : Bu H d M) (el : H l = some (.lst (s.map V.int))) (few : M.length + 1 ≤ 40) : Bu (upd H d (.dK (entK (putE M x l s)))) d (putE M x l s) := by
  have ld : ∀ {c : Addr} {ys : List V}, H c = some (.lst ys) → c ≠ d := fun h z => by rw [z, B.un] at h; cases h
  refine ⟨⟨.inl upd_same, fun e he => ?_, putE_nd B.nd, by have := putE_len M x l s; omega⟩, upd_same⟩
  rcases putE_mem he with z | ⟨z, _⟩
  · rw [z, upd_ne (ld el)]
    exact el
  · have h1 := B.sides e z
    rw [upd_ne (ld h1)]
    exact h1
section
variable {P : Program} {w : World} {K : PySem.W.Frag} {mg : Str → Option Value} {base : Heap}
end
theorem small10k {n : Nat} (h : n ≤ 10000) : n < sizeLine := Nat.lt_of_le_of_lt h (by decide)
section
variable {P : Program} {w : World} {K : PySem.W.Frag} {mg : Str → Option Value} {base : Heap}
end
/-! ### equal boxes, deep -/
theorem paired_flat {K : PySem.W.Frag} {H : Hp} {n : Nat} : ∀ xs : List V, (∀ x ∈ xs, flatB x = true) → Paired (EqV K H (n + 1)) xs xs
  | [], _ => .nil
  | x :: xs, h => .cons (.inl ⟨rfl, h x List.mem_cons_self⟩) (paired_flat xs fun y hy => h y (List.mem_cons_of_mem _ hy))
theorem eqL {K : PySem.W.Frag} {H : Hp} {a b : Addr} {ns : List Int} (ha : H a = some (.lst (ns.map V.int))) (hb : H b = some (.lst (ns.map V.int))) : EqV K H 2 (.ref a) (.ref b) :=
  .inr (.inr (.inl ⟨a, b, _, _, rfl, rfl, sl_map ha, sl_map hb, paired_flat _ fun x hx => by obtain ⟨k, _, rfl⟩ := List.mem_map.mp hx; rfl⟩))
theorem eqB {K : PySem.W.Frag} {H : Hp} {d e : Addr} {M X : List Ent} (bd : Bu H d M) (be : Bu H e X) (s : SameB M X) : EqR K H (EqV K H 2) (.ref d) (.ref e) := by
  refine .inr ⟨d, e, _, _, rfl, rfl, bd.un, be.un, by rw [entK_len, entK_len]; exact s.len bd.nd be.nd, fun p hp => ?_⟩
  unfold entK at hp
  obtain ⟨g, hg, rfl⟩ := List.mem_map.mp hp
  have s' : SameB X M := fun x => (s x).symm
  obtain ⟨t, tm, t1, t2, t3⟩ := s'.get bd.nd hg
  refine ⟨.ref t.2.1, ?_, ?_⟩
  · show valV (entK X) (Sum.inr g.1) = _
    rw [valV_ent, t3]
    rfl
  · have h1 := be.sides t tm
    rw [t2] at h1
    exact eqL (bd.sides g hg) h1
theorem shape_same {L M : List Ent} (h : shape L = shape M) : SameB L M := look_shape h
theorem Sz.look {L : List Ent} {n : Nat} (z : Sz L n) {x : Str} {s : List Int} (h : look L x = some s) : Srt s ∧ s.length ≤ n := by
  obtain ⟨e, em, _, rfl⟩ := look_of h
  exact ⟨z.srt e em, z.len e em⟩
theorem sides_ok {M : List Ent} {n : Nat} (nd : (M.map (·.1)).Nodup) (f : Str → Option (List Int)) (h : ∀ x, look M x = f x) (ok : ∀ x s, f x = some s → Srt s ∧ s.length ≤ n) : Sz M n :=
  ⟨fun e he => (ok e.1 _ ((h e.1).symm.trans (look_mem nd he))).1, fun e he => (ok e.1 _ ((h e.1).symm.trans (look_mem nd he))).2⟩
theorem Sz.shape {L M : List Ent} {n : Nat} (z : Sz L n) (h : shape M = shape L) : Sz M n := by
  have q : ∀ e ∈ M, ∃ g ∈ L, g.2.2 = e.2.2 := fun e he => by
    have : (e.1, e.2.2) ∈ K46.shape L := h ▸ List.mem_map_of_mem (f := fun e : Ent => (e.1, e.2.2)) he
    obtain ⟨g, hg, eq⟩ := List.mem_map.mp this
    exact ⟨g, hg, (Prod.mk.inj eq).2⟩
  refine ⟨fun e he => ?_, fun e he => ?_⟩
  · obtain ⟨g, hg, eq⟩ := q e he
    exact eq ▸ z.srt g hg
  · obtain ⟨g, hg, eq⟩ := q e he
    exact eq ▸ z.len g hg
/-- what a change of fresh sides leaves -/
theorem keepL_same {H0 H1 H2 : Hp} {as : List Addr} (s : Same H0 H1) (k : KeepL as H1 H2) (f : ∀ a ∈ as, H0 a = none) : Same H0 H2 := fun b o e => k b o (fun z => by rw [f b z] at e; cases e) (s _ _ e)
theorem Bu.keepL {H H' : Hp} {d : Addr} {M : List Ent} {as : List Addr} (B : Bu H d M) (k : KeepL as H H') (h1 : d ∉ as) (h2 : ∀ e ∈ M, e.2.1 ∉ as) : Bu H' d M :=
  ⟨⟨.inl (k _ _ h1 B.un), fun e he => k _ _ (h2 e he) (B.sides e he), B.nd, B.few⟩, k _ _ h1 B.un⟩
theorem not_side {H : Hp} {d : Addr} {as : List Addr} (n : H d = none) (sd : ∀ a ∈ as, H a ≠ none) : d ∉ as := fun z => sd d z n
theorem side_some {H : Hp} {M : List Ent} (sd : ∀ e ∈ M, H e.2.1 = some (.lst (e.2.2.map V.int))) : ∀ a ∈ M.map (·.2.1), H a ≠ none := fun a ha z => by
  obtain ⟨e, he, rfl⟩ := List.mem_map.mp ha
  have := sd e he
  rw [z] at this
  cases this
section
variable {P : Program} {w : World} {K : PySem.W.Frag} {mg : Str → Option Value} {base : Heap}
end
/-! ### what the meet and the join hold -/
theorem Sz.mono {L : List Ent} {n m : Nat} (z : Sz L n) (h : n ≤ m) : Sz L m := ⟨z.srt, fun e he => Nat.le_trans (z.len e he) h⟩
theorem sq_keep {K : PySem.W.Frag} {H H' : Hp} {a p : Addr} {xs : List V} (h : SqL K H a xs) (np : H p = none) (k : Keep p H H') : SqL K H' a xs := by
  have ap : ∀ o, H a = some o → a ≠ p := fun o e z => by rw [z, np] at e; cases e
  rcases h with (h | ⟨o, h⟩) | h
  · exact .inl (.inl (k _ _ (ap _ h) h))
  · exact .inl (.inr ⟨o, k _ _ (ap _ h) h⟩)
  · exact .inr h
/-! ### domains: a list of pairs of a name and a side -/
abbrev DomE := Addr × Ent
structure Doms (H : Hp) (l : Addr) (ds : List DomE) : Prop where
  lst : H l = some (.lst (ds.map fun d => V.ref d.1))
  tup : ∀ d ∈ ds, H d.1 = some (.tup [V.str d.2.1, V.ref d.2.2.1])
  side : ∀ d ∈ ds, H d.2.2.1 = some (.lst (d.2.2.2.map V.int))
theorem Doms.same {H H' : Hp} {l : Addr} {ds : List DomE} (D : Doms H l ds) (s : Same H H') : Doms H' l ds := ⟨s _ _ D.lst, fun d h => s _ _ (D.tup d h), fun d h => s _ _ (D.side d h)⟩
theorem Srt.sub {a b : List Int} (s : Srt b) (h : a.Sublist b) : Srt a := List.Pairwise.sublist h s
theorem Doms.keep {H H' : Hp} {p l : Addr} {ds : List DomE} (D : Doms H l ds) (k : Keep p H H') (hl : l ≠ p) (h : ∀ d ∈ ds, d.1 ≠ p ∧ d.2.2.1 ≠ p) : Doms H' l ds :=
  ⟨k _ _ hl D.lst, fun d hd => k _ _ (h d hd).1 (D.tup d hd), fun d hd => k _ _ (h d hd).2 (D.side d hd)⟩
theorem refs_ints {ds : List DomE} {ns : List Int} (h : (ds.map fun d => V.ref d.1) = ns.map V.int) : ds = [] := by
  cases ds with
  | nil => rfl
  | cons d ds =>
    cases ns with
    | nil => cases h
    | cons n ns =>
      rw [List.map_cons, List.map_cons] at h
      cases (List.cons.inj h).1
/-- a pair more -/
theorem Doms.snoc {H : Hp} {l T Z : Addr} {ds : List DomE} {x : Str} {zs : List Int} (D : Doms H l ds) (hT : H T = some (.tup [V.str x, V.ref Z])) (hZ : H Z = some (.lst (zs.map V.int))) (nZ : Z ≠ l) :
    Doms (upd H l (.lst ((ds.map fun d => V.ref d.1) ++ [V.ref T]))) l (ds ++ [(T, x, Z, zs)]) := by
  have tl : ∀ {c : Addr} {vs : List V}, H c = some (.tup vs) → c ≠ l := fun h z => by rw [z, D.lst] at h; cases h
  refine ⟨by rw [upd_same, List.map_append]; rfl, fun d hd => ?_, fun d hd => ?_⟩
  · rcases List.mem_append.mp hd with h | h
    · rw [upd_ne (tl (D.tup d h))]
      exact D.tup d h
    · rw [List.mem_singleton.mp h, upd_ne (tl hT)]
      exact hT
  · rcases List.mem_append.mp hd with h | h
    · have q := D.side d h
      have : d.2.2.1 ≠ l := fun z => by
        rw [z, D.lst] at q
        have e := refs_ints (HO.lst.inj (Option.some.inj q))
        rw [e] at h
        cases h
      rw [upd_ne this]
      exact q
    · rw [List.mem_singleton.mp h, upd_ne nZ]
      exact hZ
theorem with_restA {α : Type} {R : α → Hp → Prop} {G : Prop} (C : α → Hp → Prop) (r : ∀ a H, C a H → R a H) (g : (∀ a H, C a H → R a H) → G) : G := g r
section
variable {P : Program} {w : World} {K : PySem.W.Frag} {mg : Str → Option Value} {base : Heap}
abbrev nDoms : List Str := ["_law_stream_here", "_law_names_here", "_law_pool_here", "_law_most", "_law_domains_here", "_law_name", "_law_side", "_law_value"]
def spDoms : Sp := fun vs H Q _ => ∃ (p nm pl : Addr) (xs : List Str) (ns : List Int) (m : Nat), vs = [.ref p, .ref nm, .ref pl, .int (m : Int)] ∧ Strm H p ∧ H nm = some (.lst (xs.map V.str)) ∧ H pl = some (.lst (ns.map V.int)) ∧ p ≠ nm ∧ p ≠ pl ∧ Srt ns ∧ 1 ≤ ns.length ∧ ns.length ≤ 100 ∧ xs.length ≤ 100 ∧
  ∀ (H' : Hp) (l : Addr) (ds : List DomE), Keep p H H' → H l = none → Strm H' p → Doms H' l ds → ds.map (·.2.1) = xs → (∀ d ∈ ds, Srt d.2.2.2 ∧ d.2.2.2.length ≤ max m 1 ∧ H d.1 = none ∧ H d.2.2.1 = none ∧ ∀ v ∈ d.2.2.2, v ∈ ns) → (ds.map (·.2.2.1)).Nodup → Q (.ref l) H'
end
end K46

set_option Elab.async false
set_option linter.all false
set_option maxRecDepth 100000
set_option maxHeartbeats 4000000
namespace K46
open PySem PySem.Spec PyProof.Rows L2 Cs CsX
/-! ### facts of the heap, for grind; small helpers -/
@[grind =] theorem g_upd (H : Hp) (a b : Addr) (o : HO) : upd H a o b = if b = a then some o else H b := rfl
@[grind =] theorem g_same (H H' : Hp) : Same H H' ↔ (∀ a o, H a = some o → H' a = some o) ∧ ∀ a, H' a = none → H a = none := ⟨fun s => ⟨s, fun a h => s.free h⟩, fun h => h.1⟩
@[grind =] theorem g_keep (p : Addr) (H H' : Hp) : Keep p H H' ↔ (∀ a o, a ≠ p → H a = some o → H' a = some o) ∧ ∀ a, a ≠ p → H' a = none → H a = none := ⟨fun s => ⟨s, fun a hp h => by
  cases c : H a with
  | none => rfl
  | some o => rw [s a o hp c] at h; cases h⟩, fun h => h.1⟩
@[grind =] theorem g_oth (p : Addr) (H H' : Hp) : Oth p H H' ↔ ∀ a, a ≠ p → H' a = H a := Iff.rfl
@[grind =] theorem g_strm (H : Hp) (p : Addr) : Strm H p ↔ ∃ x y z : Int, H p = some (.lst [.int x, .int y, .int z]) := Iff.rfl
theorem g_new {H : Hp} {q : Addr} {o : HO} (n : H q = none) : Same H (upd H q o) := same_new n
grind_pattern g_new => upd H q o
@[grind =] theorem g_keepL (as : List Addr) (H H' : Hp) : KeepL as H H' ↔ ∀ b o, b ∉ as → H b = some o → H' b = some o := Iff.rfl
theorem ite_both {A B : Prop} {c : Bool} (h1 : c = true → A) (h2 : c = false → B) : if c = true then A else B := by
  cases c with
  | true => rw [if_pos rfl]; exact h1 rfl
  | false => rw [if_neg (by decide)]; exact h2 rfl
theorem at_int {xs : List V} {i : Int} {v : V} (h0 : 0 ≤ i) (h : xs[i.toNat]? = some v) : atI xs i = some v := by
  have := atI_nat h
  rw [show ((i.toNat : Nat) : Int) = i by omega] at this
  exact this
theorem at_eq {xs : List V} {i : Int} {j : Nat} {v : V} (h : i = (j : Int)) (hx : xs[j]? = some v) : atI xs i = some v := by
  rw [h]; exact atI_nat hx
theorem at_in {ns : List Int} {d : Int} (h0 : 0 ≤ d) (h1 : d < (ns.length : Nat)) : ∃ v ∈ ns, atI (ns.map V.int) d = some (.int v) := by
  have h : d.toNat < ns.length := by omega
  exact ⟨ns[d.toNat], List.getElem_mem h, at_int h0 (by rw [List.getElem?_map, List.getElem?_eq_getElem h] <;> rfl)⟩
theorem at_inS {ns : List Str} {d : Int} (h0 : 0 ≤ d) (h1 : d < (ns.length : Nat)) : ∃ v ∈ ns, atI (ns.map V.str) d = some (.str v) := by
  have h : d.toNat < ns.length := by omega
  exact ⟨ns[d.toNat], List.getElem_mem h, at_int h0 (by rw [List.getElem?_map, List.getElem?_eq_getElem h] <;> rfl)⟩
theorem ixN_nat {n j : Nat} (h : j < n) : ixN n (j : Int) = some j := by
  unfold ixN
  rw [if_pos (by omega), if_pos (by omega)]; simp
theorem with_restS {R : L2.St → Hp → Prop} {G : Prop} (C : L2.St → Hp → Prop) (r : ∀ σ H, C σ H → R σ H) (g : (∀ σ H, C σ H → R σ H) → G) : G := g r
theorem nd_ix {α : Type} {l : List α} (nd : l.Nodup) {i j : Nat} {x : α} (hi : l[i]? = some x) (hj : l[j]? = some x) : i = j :=
  (List.getElem?_inj (List.getElem?_eq_some_iff.mp hi).1 nd).mp (hi.trans hj.symm)
theorem not_take {α : Type} {l : List α} (nd : l.Nodup) {i : Nat} {x : α} (hi : l[i]? = some x) : x ∉ l.take i := fun z => by
  obtain ⟨j, hj⟩ := List.mem_iff_getElem?.mp z
  rw [List.getElem?_take] at hj
  split at hj
  · next c => exact absurd (nd_ix nd hj hi) (by omega)
  · cases hj
theorem srt_nd {l : List Int} (s : Srt l) : l.Nodup := List.Pairwise.imp (fun h z => by rw [z] at h; exact absurd h (Int.lt_irrefl _)) s
theorem filter_snoc {α : Type} {s : List α} {j : Nat} {v : α} {p : α → Bool} (h : s[j]? = some v) : (s.take (j + 1)).filter p = (s.take j).filter p ++ (if p v = true then [v] else []) := by
  rw [List.take_add_one, h, List.filter_append]
  congr 1
  show List.filter p [v] = _
  rw [List.filter_cons] <;> rfl
theorem filter_len {α : Type} (s : List α) (p : α → Bool) (j : Nat) : ((s.take j).filter p).length ≤ s.length := by
  have h1 := List.length_filter_le p (s.take j)
  rw [List.length_take] at h1
  omega
theorem take_snoc {α : Type} {s : List α} {j : Nat} {v : α} (h : s[j]? = some v) : s.take (j + 1) = s.take j ++ [v] := by
  rw [List.take_add_one, h] <;> rfl
theorem pe_or {X : Cx} {e : Expr} {t u : TE} (a : PE X e t) (b : PE X e u) : PE X e (fun σ H Q => t σ H Q ∨ u σ H Q) :=
  ⟨fun pins s σ H Q I h => h.elim (fun h => a.run pins s σ H Q I h) fun h => b.run pins s σ H Q I h⟩
theorem paired_same {K : PySem.W.Frag} {H : Hp} {n : Nat} : ∀ as : List Addr, Paired (EqV K H (n + 1)) (as.map V.ref) (as.map V.ref)
  | [] => .nil
  | a :: as => .cons (.inr (.inl ⟨a, rfl, rfl⟩)) (paired_same as)
theorem in_strs (ks : List Str) (v : Str) : inV (.str v) (ks.map V.str) = decide (v ∈ ks) := by
  unfold inV
  induction ks with
  | nil => simp
  | cons k ks ih =>
    rw [List.map_cons, List.any_cons, ih]
    have e : eqV (.str k) (.str v) = decide (k = v) := by
      by_cases c : k = v
      · subst c; simp [eqV]
      · simp [eqV, c]
    rw [e]
    by_cases c : k = v
    · subst c; simp
    · have : ¬ v = k := fun z => c z.symm
      simp [c, this]
theorem flats_str (xs : List Str) : (xs.map V.str).all flatV = true := by
  rw [List.all_eq_true]
  intro v hv
  obtain ⟨x, _, rfl⟩ := List.mem_map.mp hv
  rfl
end K46

set_option Elab.async false
set_option linter.all false
set_option maxRecDepth 100000
set_option maxHeartbeats 4000000
namespace K46
open PySem PySem.Spec PyProof.Rows L2 Cs
/-! ### words in their order -/
abbrev Bel (x y : Str) : Prop := x.cps.toList < y.cps.toList
def Asc (l : List Str) : Prop := l.Pairwise Bel
theorem bel_irr (x : Str) : ¬ Bel x x := List.lt_irrefl _
theorem bel_asym {x y : Str} (h : Bel x y) : ¬ Bel y x := List.lt_asymm h
theorem str_eq {x y : Str} (h : x.cps.toList = y.cps.toList) : x = y := by
  cases x; cases y
  simpa using h
theorem bel_or {x y : Str} (h : x ≠ y) : Bel x y ∨ Bel y x := by
  rcases Decidable.em (x.cps.toList < y.cps.toList) with c | c
  · exact .inl c
  · rcases Decidable.em (y.cps.toList < x.cps.toList) with d | d
    · exact .inr d
    · exact absurd (str_eq (List.le_antisymm (List.not_lt.mp d) (List.not_lt.mp c))) h
theorem Asc.nd {l : List Str} (a : Asc l) : l.Nodup := List.Pairwise.imp (fun {x y} (h : Bel x y) (z : x = y) => bel_irr x (by rw [← z] at h; exact h)) a
theorem asc_ext : ∀ {l m : List Str}, Asc l → Asc m → (∀ x, x ∈ l ↔ x ∈ m) → l = m
  | [], [], _, _, _ => rfl
  | [], y :: m, _, _, h => absurd ((h y).mpr List.mem_cons_self) (fun z => nomatch z)
  | x :: l, [], _, _, h => absurd ((h x).mp List.mem_cons_self) (fun z => nomatch z)
  | x :: l, y :: m, a, b, h => by
    obtain ⟨a1, a2⟩ := List.pairwise_cons.mp a
    obtain ⟨b1, b2⟩ := List.pairwise_cons.mp b
    have e : x = y := by
      rcases List.mem_cons.mp ((h x).mp List.mem_cons_self) with z | z
      · exact z
      · rcases List.mem_cons.mp ((h y).mpr List.mem_cons_self) with t | t
        · exact t.symm
        · exact absurd (b1 x z) (bel_asym (a1 y t))
    subst e
    rw [asc_ext a2 b2 fun z => ?_]
    constructor
    · intro hz
      rcases List.mem_cons.mp ((h z).mp (List.mem_cons_of_mem _ hz)) with t | t
      · rw [t] at hz; exact absurd (a1 _ hz) (bel_irr _)
      · exact t
    · intro hz
      rcases List.mem_cons.mp ((h z).mpr (List.mem_cons_of_mem _ hz)) with t | t
      · rw [t] at hz; exact absurd (b1 _ hz) (bel_irr _)
      · exact t
theorem asc_split {x : Str} : ∀ {fs : List Str}, Asc fs → x ∉ fs → ∃ A B, fs = A ++ B ∧ (∀ a ∈ A, Bel a x) ∧ ∀ b ∈ B, Bel x b
  | [], _, _ => ⟨[], [], rfl, (fun _ h => nomatch h), fun _ h => nomatch h⟩
  | f :: fs, h, n => by
    obtain ⟨h1, h2⟩ := List.pairwise_cons.mp h
    rcases bel_or (fun z : f = x => n (z ▸ List.mem_cons_self)) with c | c
    · obtain ⟨A, B, e, a, b⟩ := asc_split h2 fun z => n (List.mem_cons_of_mem _ z)
      refine ⟨f :: A, B, by rw [e] <;> rfl, fun y hy => ?_, b⟩
      rcases List.mem_cons.mp hy with z | z
      · rw [z]; exact c
      · exact a y z
    · refine ⟨[], f :: fs, rfl, (fun _ h => nomatch h), fun y hy => ?_⟩
      rcases List.mem_cons.mp hy with z | z
      · rw [z]; exact c
      · exact List.lt_trans c (h1 y z)
abbrev belB (x : Str) (y : Str) : Bool := decide (y.cps.toList < x.cps.toList)
theorem asc_put {x : Str} {fs : List Str} (h : Asc fs) (n : x ∉ fs) : Asc (fs.take (fs.filter (belB x)).length ++ [x] ++ fs.drop (fs.filter (belB x)).length) := by
  obtain ⟨A, B, rfl, a, b⟩ := asc_split h n
  have f1 : A.filter (belB x) = A := List.filter_eq_self.mpr fun y hy => decide_eq_true (a y hy)
  have f2 : B.filter (belB x) = [] := List.filter_eq_nil_iff.mpr fun y hy => by
    rw [decide_eq_true_eq]
    exact bel_asym (b y hy)
  rw [List.filter_append, f1, f2, List.append_nil, List.take_left' rfl, List.drop_left' rfl]
  obtain ⟨p, q, r⟩ := List.pairwise_append.mp h
  refine List.pairwise_append.mpr ⟨List.pairwise_append.mpr ⟨p, List.pairwise_singleton _ _, fun y hy z hz => ?_⟩, q, fun y hy z hz => ?_⟩
  · rw [List.mem_singleton.mp hz]; exact a y hy
  · rcases List.mem_append.mp hy with t | t
    · exact r y t z hz
    · rw [List.mem_singleton.mp t]; exact b z hz
theorem mem_put {x y : Str} {fs : List Str} {c : Nat} : y ∈ fs.take c ++ [x] ++ fs.drop c ↔ y = x ∨ y ∈ fs := by
  rw [List.mem_append, List.mem_append, List.mem_singleton]
  constructor
  · rintro ((h | h) | h)
    · exact .inr (List.mem_of_mem_take h)
    · exact .inl h
    · exact .inr (List.mem_of_mem_drop h)
  · rintro (h | h)
    · exact .inl (.inr h)
    · rw [← List.take_append_drop c fs] at h
      rcases List.mem_append.mp h with h | h
      · exact .inl (.inl h)
      · exact .inr h
/-! ### lines -/
inductive Ln where
  | void
  | rule (key : Str)
  | join (i j : Nat)
def LnAt (H : Hp) (a : Addr) : Ln → Prop
  | .void => ∃ (d : Addr) (x : Str), H a = some (.tup [.str "void", .ref d, .str x])
  | .rule key => ∃ d c : Addr, H a = some (.tup [.str "rule", .ref d, .str key, .ref c])
  | .join i j => ∃ (d : Addr) (x : Str), H a = some (.tup [.str "join", .ref d, .str x, .int (i : Int), .int (j : Int)])
theorem LnAt.same {H H' : Hp} {a : Addr} {ln : Ln} (h : LnAt H a ln) (s : Same H H') : LnAt H' a ln := by
  cases ln with
  | void => obtain ⟨d, x, e⟩ := h; exact ⟨d, x, s _ _ e⟩
  | rule key => obtain ⟨d, x, e⟩ := h; exact ⟨d, x, s _ _ e⟩
  | join i j => obtain ⟨d, x, e⟩ := h; exact ⟨d, x, s _ _ e⟩
def Lns (H : Hp) (L : Addr) (as : List (Addr × Ln)) : Prop := H L = some (.lst (as.map fun a => V.ref a.1)) ∧ ∀ a ∈ as, LnAt H a.1 a.2
theorem Lns.same {H H' : Hp} {L : Addr} {as : List (Addr × Ln)} (h : Lns H L as) (s : Same H H') : Lns H' L as := ⟨s _ _ h.1, fun a ha => (h.2 a ha).same s⟩
/-- the first items of a line -/
theorem LnAt.head {H : Hp} {a : Addr} {ln : Ln} (h : LnAt H a ln) : ∃ xs, H a = some (.tup xs) ∧ xs[0]? = some (.str (match ln with | .void => "void" | .rule _ => "rule" | .join _ _ => "join")) := by
  cases ln with
  | void => obtain ⟨d, x, e⟩ := h; exact ⟨_, e, rfl⟩
  | rule key => obtain ⟨d, x, e⟩ := h; exact ⟨_, e, rfl⟩
  | join i j => obtain ⟨d, x, e⟩ := h; exact ⟨_, e, rfl⟩
/-! ### what a line rests on -/
def From (rs : List (List Str)) : Ln → Str → Prop
  | .void, _ => False
  | .rule k, x => x = k
  | .join i j, x => x ∈ rs.getD (i - 1) [] ∨ x ∈ rs.getD (j - 1) []
def Back (k : Nat) : Ln → Prop
  | .join i j => 1 ≤ i ∧ i ≤ k ∧ 1 ≤ j ∧ j ≤ k
  | _ => True
structure Rests (lns : List Ln) (rs : List (List Str)) : Prop where
  asc : ∀ k ln, lns[k]? = some ln → Asc (rs.getD k [])
  mem : ∀ k ln, lns[k]? = some ln → ∀ x, x ∈ rs.getD k [] ↔ From rs ln x
  back : ∀ k ln, lns[k]? = some ln → Back k ln
theorem Rests.take {lns : List Ln} {rs : List (List Str)} (R : Rests lns rs) (m : Nat) : Rests (lns.take m) rs := by
  have at_ : ∀ k ln, (lns.take m)[k]? = some ln → lns[k]? = some ln := fun k ln h => by
    rw [List.getElem?_take] at h
    split at h
    · exact h
    · cases h
  exact ⟨fun k ln h => R.asc k ln (at_ k ln h), fun k ln h => R.mem k ln (at_ k ln h), fun k ln h => R.back k ln (at_ k ln h)⟩
theorem getD_app {rs : List (List Str)} {ws : List Str} {k : Nat} (h : k < rs.length) : (rs ++ [ws]).getD k [] = rs.getD k [] := by
  rw [List.getD_eq_getElem?_getD, List.getD_eq_getElem?_getD, List.getElem?_append_left h]
theorem getD_end {rs : List (List Str)} {ws : List Str} : (rs ++ [ws]).getD rs.length [] = ws := by
  rw [List.getD_eq_getElem?_getD, List.getElem?_append_right (Nat.le_refl _), Nat.sub_self] <;> rfl
theorem From.app {rs : List (List Str)} {ws : List Str} {ln : Ln} {k : Nat} (b : Back k ln) (h : k ≤ rs.length) (x : Str) : From (rs ++ [ws]) ln x ↔ From rs ln x := by
  cases ln with
  | void => exact Iff.rfl
  | rule key => exact Iff.rfl
  | join i j =>
    obtain ⟨b1, b2, b3, b4⟩ : 1 ≤ i ∧ i ≤ k ∧ 1 ≤ j ∧ j ≤ k := b
    show x ∈ (rs ++ [ws]).getD (i - 1) [] ∨ x ∈ (rs ++ [ws]).getD (j - 1) [] ↔ _
    rw [getD_app (by omega), getD_app (by omega)]
    exact Iff.rfl
theorem Rests.snoc {lns : List Ln} {rs : List (List Str)} {ln : Ln} {ws : List Str} (R : Rests lns rs) (hl : rs.length = lns.length) (a : Asc ws) (m : ∀ x, x ∈ ws ↔ From rs ln x) (b : Back lns.length ln) : Rests (lns ++ [ln]) (rs ++ [ws]) := by
  have cut : ∀ k l, (lns ++ [ln])[k]? = some l → (k < lns.length ∧ lns[k]? = some l) ∨ (k = lns.length ∧ l = ln) := fun k l h => by
    by_cases c : k < lns.length
    · rw [List.getElem?_append_left c] at h
      exact .inl ⟨c, h⟩
    · have := (List.getElem?_eq_some_iff.mp h).1
      rw [List.length_append, List.length_singleton] at this
      have e : k = lns.length := by omega
      subst e
      rw [List.getElem?_append_right (Nat.le_refl _), Nat.sub_self] at h
      exact .inr ⟨rfl, (Option.some.inj h).symm⟩
  refine ⟨fun k l h => ?_, fun k l h x => ?_, fun k l h => ?_⟩
  · rcases cut k l h with ⟨c, h⟩ | ⟨rfl, rfl⟩
    · rw [getD_app (by omega)]; exact R.asc k l h
    · rw [← hl, getD_end]; exact a
  · rcases cut k l h with ⟨c, h⟩ | ⟨rfl, rfl⟩
    · rw [getD_app (by omega), From.app (R.back k l h) (by omega)]; exact R.mem k l h x
    · rw [← hl, getD_end, From.app b (by omega)]; exact m x
  · rcases cut k l h with ⟨c, h⟩ | ⟨rfl, rfl⟩
    · exact R.back k l h
    · exact b
/-- the lines that are used, those behind m seen through -/
structure Seen (lns : List Ln) (rs : List (List Str)) (n m : Nat) (U : Int → Bool) : Prop where
  low : ∀ u, U u = true → 1 ≤ u ∧ u ≤ n
  mem : ∀ x, x ∈ rs.getD (n - 1) [] ↔ (∃ u : Nat, m < u ∧ U u = true ∧ lns[u - 1]? = some (.rule x)) ∨ ∃ u : Nat, u ≤ m ∧ U u = true ∧ x ∈ rs.getD (u - 1) []
theorem Seen.start {lns : List Ln} {rs : List (List Str)} {n : Nat} (h : 1 ≤ n) : Seen lns rs n n (fun j => decide (j = (n : Int))) := by
  refine ⟨fun u hu => by have := of_decide_eq_true hu; omega, fun x => ⟨fun hx => .inr ⟨n, Nat.le_refl n, decide_eq_true rfl, hx⟩, ?_⟩⟩
  rintro (⟨u, h1, h2, _⟩ | ⟨u, _, h2, h3⟩)
  · have := of_decide_eq_true h2
    omega
  · have := of_decide_eq_true h2
    rw [show u = n by omega] at h3
    exact h3
theorem Seen.skip {lns : List Ln} {rs : List (List Str)} {n m : Nat} {U : Int → Bool} (s : Seen lns rs n (m + 1) U) (h : U ((m + 1 : Nat) : Int) = false) : Seen lns rs n m U := by
  refine ⟨s.low, fun x => (s.mem x).trans ⟨?_, ?_⟩⟩
  · rintro (⟨u, h1, h2, h3⟩ | ⟨u, h1, h2, h3⟩)
    · exact .inl ⟨u, by omega, h2, h3⟩
    · refine .inr ⟨u, ?_, h2, h3⟩
      have : u ≠ m + 1 := fun z => by rw [z, h] at h2; cases h2
      omega
  · rintro (⟨u, h1, h2, h3⟩ | ⟨u, h1, h2, h3⟩)
    · refine .inl ⟨u, ?_, h2, h3⟩
      have : u ≠ m + 1 := fun z => by rw [z, h] at h2; cases h2
      omega
    · exact .inr ⟨u, by omega, h2, h3⟩
theorem Seen.plain {lns : List Ln} {rs : List (List Str)} {n m : Nat} {U : Int → Bool} {ln : Ln} (R : Rests lns rs) (s : Seen lns rs n (m + 1) U) (hl : lns[m]? = some ln) (nj : ∀ i j, ln ≠ .join i j) (h : U ((m + 1 : Nat) : Int) = true) : Seen lns rs n m U := by
  have at_ : ∀ x, x ∈ rs.getD m [] ↔ lns[m]? = some (.rule x) := fun x => by
    rw [R.mem m ln hl x, hl]
    cases ln with
    | void => exact ⟨fun z => z.elim, fun z => nomatch z⟩
    | rule k => exact ⟨fun z : x = k => by rw [z], fun z => by cases z; rfl⟩
    | join i j => exact absurd rfl (nj i j)
  refine ⟨s.low, fun x => (s.mem x).trans ⟨?_, ?_⟩⟩
  · rintro (⟨u, h1, h2, h3⟩ | ⟨u, h1, h2, h3⟩)
    · exact .inl ⟨u, by omega, h2, h3⟩
    · by_cases c : u = m + 1
      · rw [c] at h3
        exact .inl ⟨m + 1, by omega, h, (at_ x).mp h3⟩
      · exact .inr ⟨u, by omega, h2, h3⟩
  · rintro (⟨u, h1, h2, h3⟩ | ⟨u, h1, h2, h3⟩)
    · by_cases c : u = m + 1
      · rw [c] at h3
        exact .inr ⟨m + 1, Nat.le_refl _, h, (at_ x).mpr h3⟩
      · exact .inl ⟨u, by omega, h2, h3⟩
    · exact .inr ⟨u, by omega, h2, h3⟩
theorem Seen.join {lns : List Ln} {rs : List (List Str)} {n m i j : Nat} {U : Int → Bool} (R : Rests lns rs) (s : Seen lns rs n (m + 1) U) (hl : lns[m]? = some (.join i j)) (h : U ((m + 1 : Nat) : Int) = true) (hn : m < n) :
    Seen lns rs n m (fun k => (U k || decide (k = (i : Int))) || decide (k = (j : Int))) := by
  have b : 1 ≤ i ∧ i ≤ m ∧ 1 ≤ j ∧ j ≤ m := R.back m _ hl
  have at_ : ∀ x, x ∈ rs.getD m [] ↔ x ∈ rs.getD (i - 1) [] ∨ x ∈ rs.getD (j - 1) [] := fun x => R.mem m _ hl x
  have iff : ∀ k : Int, ((U k || decide (k = (i : Int))) || decide (k = (j : Int))) = true ↔ U k = true ∨ k = i ∨ k = j := fun k => by
    rw [Bool.or_eq_true, Bool.or_eq_true, decide_eq_true_eq, decide_eq_true_eq, or_assoc]
  refine ⟨fun u hu => ?_, fun x => (s.mem x).trans ⟨?_, ?_⟩⟩
  · rcases (iff u).mp hu with z | z | z
    · exact s.low u z
    · omega
    · omega
  · rintro (⟨u, h1, h2, h3⟩ | ⟨u, h1, h2, h3⟩)
    · exact .inl ⟨u, by omega, (iff _).mpr (.inl h2), h3⟩
    · by_cases c : u = m + 1
      · rw [c] at h3
        rcases (at_ x).mp h3 with z | z
        · exact .inr ⟨i, b.2.1, (iff _).mpr (.inr (.inl rfl)), z⟩
        · exact .inr ⟨j, b.2.2.2, (iff _).mpr (.inr (.inr rfl)), z⟩
      · exact .inr ⟨u, by omega, (iff _).mpr (.inl h2), h3⟩
  · rintro (⟨u, h1, h2, h3⟩ | ⟨u, h1, h2, h3⟩)
    · rcases (iff _).mp h2 with z | z | z
      · have : u ≠ m + 1 := fun q => by
          rw [q] at h3
          have := hl.symm.trans h3
          cases this
        exact .inl ⟨u, by omega, z, h3⟩
      · omega
      · omega
    · rcases (iff _).mp h2 with z | z | z
      · exact .inr ⟨u, by omega, z, h3⟩
      · rw [show u = i by omega] at h3
        exact .inr ⟨m + 1, Nat.le_refl _, h, (at_ x).mpr (.inl h3)⟩
      · rw [show u = j by omega] at h3
        exact .inr ⟨m + 1, Nat.le_refl _, h, (at_ x).mpr (.inr h3)⟩
theorem Seen.done {lns : List Ln} {rs : List (List Str)} {n : Nat} {U : Int → Bool} (s : Seen lns rs n 0 U) (x : Str) : x ∈ rs.getD (n - 1) [] ↔ ∃ u : Nat, 1 ≤ u ∧ U u = true ∧ lns[u - 1]? = some (.rule x) := by
  refine (s.mem x).trans ⟨?_, fun ⟨u, h1, h2, h3⟩ => .inl ⟨u, h1, h2, h3⟩⟩
  rintro (h | ⟨u, h1, h2, h3⟩)
  · exact h
  · have := s.low _ h2
    omega
/-! ### twins -/
theorem twn_box {F : Addr → Prop} {H : Hp} {d e : Addr} {M X : List Ent} (bd : Bu H d M) (be : Bu H e X) (fd : F d) (fe : F e) (fM : ∀ g ∈ M, F g.2.1) (fX : ∀ g ∈ X, F g.2.1) (s : SameB M X) : Twn F H 3 (.ref d) (.ref e) := by
  refine Twn.dict fd fe bd.un be.un (by rw [entK_len, entK_len]; exact s.len bd.nd be.nd) fun p hp => ?_
  unfold entK at hp
  obtain ⟨g, hg, rfl⟩ := List.mem_map.mp hp
  have s' : SameB X M := fun x => (s x).symm
  obtain ⟨t, tm, t1, t2, t3⟩ := s'.get bd.nd hg
  refine ⟨.ref t.2.1, ?_, ?_⟩
  · show valV (entK X) (Sum.inr g.1) = _
    rw [valV_ent, t3]
    rfl
  · have h1 := be.sides t tm
    rw [t2] at h1
    exact Twn.list (fM g hg) (fX t tm) (bd.sides g hg) h1 (Twn.flats fun x hx => by obtain ⟨k, _, rfl⟩ := List.mem_map.mp hx; rfl)
/-- a certificate, at addresses F -/
def Cert (F : Addr → Prop) (H : Hp) (c : Addr) : Prop := F c ∧
  ((∃ x : Str, H c = some (.tup [.str "empty", .str x])) ∨
  (∃ (kd : Str) (L : Addr) (xs : List V), F L ∧ H c = some (.tup [.str kd, .ref L]) ∧ kd ≠ "empty" ∧ kd ≠ "layers" ∧ H L = some (.lst xs) ∧ (∀ x ∈ xs, flatB x = true) ∧ xs.length ≤ 100) ∨
  ∃ (L : Addr) (es : List (Addr × List Int)), F L ∧ H c = some (.tup [.str "layers", .ref L]) ∧ H L = some (.lst (es.map fun e => V.ref e.1)) ∧ (∀ e ∈ es, F e.1 ∧ H e.1 = some (.lst (e.2.map V.int))) ∧ es.length ≤ 100)
theorem Cert.imp {F G : Addr → Prop} {H H' : Hp} {c : Addr} (f : ∀ a o, F a → H a = some o → G a) (s : ∀ a o, F a → H a = some o → H' a = some o) (h : Cert F H c) : Cert G H' c := by
  obtain ⟨fc, h⟩ := h
  rcases h with ⟨x, e⟩ | ⟨kd, L, xs, fL, e, n1, n2, eL, fl, l⟩ | ⟨L, es, fL, e, eL, fl, l⟩
  · exact ⟨f c _ fc e, .inl ⟨x, s _ _ fc e⟩⟩
  · exact ⟨f c _ fc e, .inr (.inl ⟨kd, L, xs, f L _ fL eL, s _ _ fc e, n1, n2, s _ _ fL eL, fl, l⟩)⟩
  · exact ⟨f c _ fc e, .inr (.inr ⟨L, es, f L _ fL eL, s _ _ fc e, s _ _ fL eL, fun e he => ⟨f _ _ (fl e he).1 (fl e he).2, s _ _ (fl e he).1 (fl e he).2⟩, l⟩)⟩
/-- a box at addresses F -/
structure BuF (F : Addr → Prop) (H : Hp) (d : Addr) (M : List Ent) : Prop extends Bu H d M where
  fd : F d
  fM : ∀ g ∈ M, F g.2.1
theorem BuF.imp {F G : Addr → Prop} {H H' : Hp} {d : Addr} {M : List Ent} (f : ∀ a o, F a → H a = some o → G a) (s : ∀ a o, F a → H a = some o → H' a = some o) (h : BuF F H d M) : BuF G H' d M :=
  ⟨⟨⟨.inl (s _ _ h.fd h.un), fun e he => s _ _ (h.fM e he) (h.sides e he), h.nd, h.few⟩, s _ _ h.fd h.un⟩, f _ _ h.fd h.un, fun g hg => f _ _ (h.fM g hg) (h.sides g hg)⟩
/-- a line, with all its content, at addresses F -/
def Full (F : Addr → Prop) (H : Hp) (a : Addr) (ln : Ln) : Prop := F a ∧ match ln with
  | .void => ∃ (d : Addr) (x : Str) (M : List Ent), H a = some (.tup [.str "void", .ref d, .str x]) ∧ BuF F H d M
  | .rule key => ∃ (d c : Addr) (M : List Ent), H a = some (.tup [.str "rule", .ref d, .str key, .ref c]) ∧ BuF F H d M ∧ Cert F H c
  | .join i j => ∃ (d : Addr) (x : Str) (M : List Ent), H a = some (.tup [.str "join", .ref d, .str x, .int (i : Int), .int (j : Int)]) ∧ BuF F H d M
theorem Full.imp {F G : Addr → Prop} {H H' : Hp} {a : Addr} {ln : Ln} (f : ∀ a o, F a → H a = some o → G a) (s : ∀ a o, F a → H a = some o → H' a = some o) (h : Full F H a ln) : Full G H' a ln := by
  obtain ⟨fa, h⟩ := h
  cases ln with
  | void => obtain ⟨d, x, M, e, b⟩ := h; exact ⟨f _ _ fa e, d, x, M, s _ _ fa e, b.imp f s⟩
  | rule key => obtain ⟨d, c, M, e, b, ce⟩ := h; exact ⟨f _ _ fa e, d, c, M, s _ _ fa e, b.imp f s, ce.imp f s⟩
  | join i j => obtain ⟨d, x, M, e, b⟩ := h; exact ⟨f _ _ fa e, d, x, M, s _ _ fa e, b.imp f s⟩
theorem Cert.same {F : Addr → Prop} {H H' : Hp} {c : Addr} (h : Cert F H c) (s : Same H H') : Cert F H' c := h.imp (fun _ _ h _ => h) fun a o _ e => s a o e
theorem BuF.same {F : Addr → Prop} {H H' : Hp} {d : Addr} {M : List Ent} (h : BuF F H d M) (s : Same H H') : BuF F H' d M := h.imp (fun _ _ h _ => h) fun a o _ e => s a o e
theorem Full.same {F : Addr → Prop} {H H' : Hp} {a : Addr} {ln : Ln} (h : Full F H a ln) (s : Same H H') : Full F H' a ln := h.imp (fun _ _ h _ => h) fun a o _ e => s a o e
theorem Full.upd {F : Addr → Prop} {H : Hp} {a b : Addr} {u : HO} {ln : Ln} (h : Full F H a ln) (n : ¬ F b) : Full F (upd H b u) a ln := h.imp (fun _ _ h _ => h) fun a o fa e => by rw [upd_ne (fun z : a = b => n (by rw [← z]; exact fa))]; exact e
theorem Full.live {F : Addr → Prop} {H : Hp} {a : Addr} {ln : Ln} (h : Full F H a ln) : Full (fun b => F b ∧ H b ≠ none) H a ln := h.imp (fun _ _ h e => ⟨h, fun z => by rw [e] at z; cases z⟩) fun _ _ _ e => e
theorem Full.at {F : Addr → Prop} {H : Hp} {a : Addr} {ln : Ln} (h : Full F H a ln) : LnAt H a ln := by
  obtain ⟨_, h⟩ := h
  cases ln with
  | void => obtain ⟨d, x, M, e, b⟩ := h; exact ⟨d, x, e⟩
  | rule key => obtain ⟨d, c, M, e, b, ce⟩ := h; exact ⟨d, c, e⟩
  | join i j => obtain ⟨d, x, M, e, b⟩ := h; exact ⟨d, x, e⟩
/-- a def by its body, with the fact of its code -/
theorem okC {P : Program} {w : World} {K : PySem.W.Frag} {mg : Str → Option Value} {base : Heap} {x qual : Str} {st : Stmt} {f : Addr} {fd : FuncData} {N ps : List Str} {k : Nat} {sp : Sp} (F : Fun K x qual st f fd) (S : FnScope N ps (defScope st))
    (count : ∀ vs H Q E, sp vs H Q E → vs.length = ps.length)
    (body : ∀ cdv A outer s H vs Q E, PySem.W.kdsCode K cdv = true → Room k (A.deeper (envOfC qual (defScope st) s.heap.objs.size f cdv)) →
      sp vs H Q E → ∃ t, PSs (cxOf CX0 P w K mg base N qual (defScope st) f cdv A outer s H E).nox (defBody st) t ∧
        t { nx := fun _ H' => Q .non H', rt := Q } (start N vs) H) : FnOk P w K mg base CX0 (k + 1) f fd ps sp := by
  obtain ⟨_, _, _, _, _, _, _, _, _, rfl, at_, code⟩ := F.ex
  refine fn_of at_ code S count fun A outer s H vs Q E hr hs => ?_
  obtain ⟨t, h, q⟩ := body _ A outer s H vs Q E (kdsCode_of code) hr hs
  exact ⟨t, h.nox, q⟩
end K46

set_option Elab.async false
set_option linter.all false
set_option maxRecDepth 100000
set_option maxHeartbeats 4000000
namespace K46
open PySem PySem.Spec PyProof.Rows L2 Cs
theorem sign_at {z : Str} {n : Nat} {d : Int} (h : z.length = n) (d0 : 0 ≤ d) (d1 : d < (n : Int)) : ∃ c, atI z.cps.toList d = some c := by
  obtain ⟨j, rfl⟩ := Int.eq_ofNat_of_zero_le d0
  have hj : j < z.cps.toList.length := by
    have : z.cps.toList.length = z.length := Array.length_toList
    omega
  exact ⟨_, atI_nat (j := j) (List.getElem?_eq_getElem hj)⟩
theorem sl_any {xs : List Int} {d : Int} (h0 : 0 ≤ d) (h1 : d < (xs.length : Nat)) : ∃ v ∈ xs, atI (xs.map V.int) d = some (.int v) := at_in h0 h1
section
variable {P : Program} {w : World} {K : PySem.W.Frag} {mg : Str → Option Value} {base : Heap}
abbrev sWrd : Stmt := topS 12
abbrev nWrd : List Str := ["_law_stream_here", "_law_letters", "_law_signs", "_law_word_here", "_law_k"]
theorem scWrd : FnScope nWrd ["_law_stream_here"] (defScope sWrd) := ⟨rfl, rfl, rfl, by decide +kernel, rfl, by decide +kernel, by decide +kernel⟩
def spWrd : Sp := fun vs H Q _ => ∃ p : Addr, vs = [.ref p] ∧ Strm H p ∧ ∀ (H' : Hp) (x : Str), Keep p H H' → Strm H' p → Q (.str x) H'
theorem ok_Wrd {f f0 : Addr} {fd fd0 : FuncData} (F : Fun K "_law_word" "_law_word" sWrd f fd) (B : Bt mg) (D : Call P w K mg base 1 "_law_next" f0 fd0 ["_law_stream_here", "_law_size"] spDraw) :
    FnOk P w K mg base CX0 2 f fd ["_law_stream_here"] spWrd := by
  refine F.ok scWrd (fun vs H Q E h => ?_) (fun cdv A outer s H vs Q E hr h => ?_)
  · obtain ⟨p, rfl, _⟩ := h
    rfl
  · obtain ⟨p, rfl, hp, q⟩ := h
    have nd := scWrd.nd
    refine ⟨_, pss_cons (ps_set (i := 1) nd rfl (.inl rfl) pe_str)
      (pss_cons (ps_set (i := 2) nd rfl (.inl rfl) (pe_op op_add_str (pv 1) pe_str))
      (pss_cons (ps_set (i := 3) nd rfl (.inl rfl) (pe_ix ix_str (pv 1) (pe_call D.ok (hr.mono (by decide)) (by rfl) D.at_ D.kp D.bd .nil pass0 (pa_cons (pv 0) (pa_cons pe_int pa_nil))) (fun _ _ => rfl)))
      (pss_cons (ps_for PassesOwn.never rfl (pi_range1 (by rfl) B.range (pa_cons (pe_ix ix_list (pe_lst (pa_cons pe_int (pa_cons pe_int (pa_cons pe_int (pa_cons pe_int (pa_cons pe_int (pa_cons pe_int (pa_cons pe_int (pa_cons pe_int pa_nil))))))))) (pe_call D.ok (hr.mono (by decide)) (by rfl) D.at_ D.kp D.bd .nil pass0 (pa_cons (pv 0) (pa_cons pe_int pa_nil))) (fun _ _ => rfl)) pa_nil)) (pg_name (i := 4) nd rfl (.inl rfl))
        (pss_one (ps_set (i := 3) nd rfl (.inl rfl) (pe_op op_add_str (pv 3) (pe_ix ix_str (pv 2) (pe_call D.ok (hr.mono (by decide)) (by rfl) D.at_ D.kp D.bd .nil pass0 (pa_cons (pv 0) (pa_cons pe_int pa_nil))) (fun _ _ => rfl))))))
      (pss_one (ps_ret (pv 3)))))), ?_⟩
    refine ⟨_, rfl, _, _, rfl, rfl, by decide, ?_⟩
    obtain ⟨sg, hsg, lsg⟩ : ∃ sg : Str, sg = ("abcdefghijklmnopqrstuvwxyz" : Str) ++ ("_0123456789" : Str) ∧ sg.length = 37 := ⟨_, rfl, by decide⟩
    rw [← hsg]
    refine ⟨_, rfl, _, rfl, p, 26, rfl, hp, by decide, by decide, fun H1 d o1 st1 d0 d1 => ?_⟩
    obtain ⟨c, hc⟩ := sign_at (z := ("abcdefghijklmnopqrstuvwxyz" : Str)) (n := 26) (by decide) d0 d1
    refine ⟨_, d, c, rfl, rfl, by decide, hc, ?_⟩
    refine ⟨by show 8 ≤ sizeLine; decide, fun t nt => ?_⟩
    have pt : p ≠ t := fun z => st1.some (z ▸ nt)
    refine ⟨_, rfl, p, 8, rfl, st1.upd pt, by decide, by decide, fun H2 e o2 st2 e0 e1 => ?_⟩
    obtain ⟨v, hv, av⟩ : ∃ v ∈ [0, 0, 1, 1, 2, 4, 9, 19], atI (([0, 0, 1, 1, 2, 4, 9, 19] : List Int).map V.int) e = some (.int v) := at_in e0 (by simpa using e1)
    have et : H2 t = some (.lst (([0, 0, 1, 1, 2, 4, 9, 19] : List Int).map V.int)) := (o2 t pt.symm).trans upd_same
    have vb : 0 ≤ v ∧ v ≤ 19 := by
      simp only [List.mem_cons, List.not_mem_nil, or_false] at hv
      omega
    have k2 : Keep p H H2 := (((Keep.refl p H).oth o1).at_ (((Keep.refl p H).oth o1).free st1 nt)).oth o2
    refine ⟨t, _, e, .int v, rfl, rfl, sl_map et, av, v, rfl, by omega, by omega, ?_⟩
    refine for_range (lo := 0) (fun i σ H' => ∃ (x : Str) (y4 : Option V), σ = [some (.ref p), some (.str "abcdefghijklmnopqrstuvwxyz"), some (.str sg), some (.str x), y4] ∧ x.length ≤ i + 1 ∧ Keep p H H' ∧ Strm H' p) ⟨_, none, rfl, Nat.le_refl _, k2, st2⟩ ?_ ?_
    · rintro i σ H3 hi ⟨x, y4, rfl, xl, k3, st3⟩
      refine ⟨_, rfl, _, rfl, _, rfl, p, 37, rfl, st3, by decide, by decide, fun H4 b o4 st4 b0 b1 => ?_⟩
      obtain ⟨c2, hc2⟩ := sign_at lsg b0 b1
      refine ⟨sg, b, c2, rfl, rfl, by rw [lsg]; decide, hc2, x, _, rfl, rfl, ?_, _, _, rfl, ?_, k3.oth o4, st4⟩
      · rw [str_one]
        exact Nat.le_of_lt (small1000 (by omega))
      · rw [len_app, str_one]
        omega
    · rintro σ H3 ⟨x, y4, rfl, xl, k3, st3⟩
      exact ⟨_, rfl, q H3 x k3 st3⟩
abbrev sNum : Stmt := topS 13
abbrev nNum : List Str := ["_law_stream_here", "_law_scale", "_law_number_here"]
theorem scNum : FnScope nNum ["_law_stream_here", "_law_scale"] (defScope sNum) := ⟨rfl, rfl, rfl, by decide +kernel, rfl, by decide +kernel, by decide +kernel⟩
def spNum : Sp := fun vs H Q _ => ∃ (p : Addr) (m : Int), vs = [.ref p, .int m] ∧ Strm H p ∧ ∀ (H' : Hp) (x : Int), Keep p H H' → Strm H' p → Q (.int x) H'
theorem ok_Num {f f0 : Addr} {fd fd0 : FuncData} (F : Fun K "_law_number" "_law_number" sNum f fd) (B : Bt mg) (D : Call P w K mg base 1 "_law_next" f0 fd0 ["_law_stream_here", "_law_size"] spDraw) :
    FnOk P w K mg base CX0 2 f fd ["_law_stream_here", "_law_scale"] spNum := by
  refine F.ok scNum (fun vs H Q E h => ?_) (fun cdv A outer s H vs Q E hr h => ?_)
  · obtain ⟨p, m, rfl, _⟩ := h
    rfl
  · obtain ⟨p, m, rfl, hp, q⟩ := h
    have nd := scNum.nd
    refine ⟨_, pss_cons (ps_set (i := 2) nd rfl (.inl rfl) (pe_op op_sub (pe_call D.ok (hr.mono (by decide)) (by rfl) D.at_ D.kp D.bd .nil pass0 (pa_cons (pv 0) (pa_cons pe_int pa_nil))) pe_int))
      (pss_cons (ps_if (pt_cmpR op_gt (pe_call D.ok (hr.mono (by decide)) (by rfl) D.at_ D.kp D.bd .nil pass0 (pa_cons (pv 0) (pa_cons pe_int pa_nil))) pe_int rfl)
        (pss_one (ps_ret (pv 2)))
        pss_nil)
      (pss_one (ps_ret (pe_op op_add (pe_op op_mul (pv 2) (pv 1)) (pe_call D.ok (hr.mono (by decide)) (by rfl) D.at_ D.kp D.bd .nil pass0 (pa_cons (pv 0) (pa_cons (pe_op op_pow pe_int pe_int) pa_nil))))))), ?_⟩
    refine ⟨_, rfl, p, 19, rfl, hp, by decide, by decide, fun H1 d o1 st1 d0 d1 => ⟨d, 9, rfl, rfl, ?_⟩⟩
    refine ⟨_, rfl, p, 4, rfl, st1, by decide, by decide, fun H2 e o2 st2 e0 e1 => ⟨e, 0, rfl, rfl, _, rfl, ?_⟩⟩
    have k2 : Keep p H H2 := ((Keep.refl p H).oth o1).oth o2
    refine ite_both (fun _ => ⟨_, rfl, q H2 _ k2 st2⟩) fun _ => ?_
    refine ⟨_, rfl, _, rfl, d - 9, m, rfl, rfl, .inl ⟨by omega, by omega⟩, _, rfl, 10, 9, rfl, rfl, ⟨by decide, by decide, by decide⟩, p, _, rfl, st2, by decide, by decide, fun H3 b o3 st3 b0 b1 => ⟨_, b, rfl, rfl, q H3 _ (k2.oth o3) st3⟩⟩
abbrev sDsd : Stmt := topS 14
abbrev nDsd : List Str := ["_law_stream_here", "_law_scale", "_law_value", "_law_side", "_law_k"]
theorem scDsd : FnScope nDsd ["_law_stream_here"] (defScope sDsd) := ⟨rfl, rfl, rfl, by decide +kernel, rfl, by decide +kernel, by decide +kernel⟩
def spDsd : Sp := fun vs H Q _ => ∃ p : Addr, vs = [.ref p] ∧ Strm H p ∧ ∀ (H' : Hp) (l : Addr) (ns : List Int), Keep p H H' → H l = none → Strm H' p → H' l = some (.lst (ns.map V.int)) → Q (.ref l) H'
theorem ok_Dsd {f f0 : Addr} {fd fd0 : FuncData} (F : Fun K "_law_drawn_side" "_law_drawn_side" sDsd f fd) (B : Bt mg) (D : Call P w K mg base 1 "_law_next" f0 fd0 ["_law_stream_here", "_law_size"] spDraw) :
    FnOk P w K mg base CX0 2 f fd ["_law_stream_here"] spDsd := by
  refine F.ok scDsd (fun vs H Q E h => ?_) (fun cdv A outer s H vs Q E hr h => ?_)
  · obtain ⟨p, rfl, _⟩ := h
    rfl
  · obtain ⟨p, rfl, hp, q⟩ := h
    have nd := scDsd.nd
    refine ⟨_, pss_cons (ps_set (i := 1) nd rfl (.inl rfl) (pe_ix ix_list (pe_lst (pa_cons pe_int (pa_cons pe_int (pa_cons pe_int (pa_cons pe_int (pa_cons (pe_op op_pow pe_int pe_int) (pa_cons (pe_op op_pow pe_int pe_int) pa_nil))))))) (pe_call D.ok (hr.mono (by decide)) (by rfl) D.at_ D.kp D.bd .nil pass0 (pa_cons (pv 0) (pa_cons pe_int pa_nil))) (fun _ _ => rfl)))
      (pss_cons (ps_set (i := 2) nd rfl (.inl rfl) (pe_op op_sub (pe_call D.ok (hr.mono (by decide)) (by rfl) D.at_ D.kp D.bd .nil pass0 (pa_cons (pv 0) (pa_cons pe_int pa_nil))) pe_int))
      (pss_cons (ps_set (i := 3) nd rfl (.inl rfl) (pe_lst pa_nil))
      (pss_cons (ps_for PassesOwn.never rfl (pi_range1 (by rfl) B.range (pa_cons (pe_call D.ok (hr.mono (by decide)) (by rfl) D.at_ D.kp D.bd .nil pass0 (pa_cons (pv 0) (pa_cons pe_int pa_nil))) pa_nil)) (pg_name (i := 4) nd rfl (.inl rfl))
        (pss_cons (ps_expr (pe_bm PySem.F.plainAttrs_list PySem.F.slot_list_append PySem.F.type_list_append mt_append (pv 3) (pa_cons (pe_op op_mul (pv 2) (pv 1)) pa_nil)))
          (pss_one (ps_set (i := 2) nd rfl (.inl rfl) (pe_op op_add (pe_op op_add (pv 2) pe_int) (pe_call D.ok (hr.mono (by decide)) (by rfl) D.at_ D.kp D.bd .nil pass0 (pa_cons (pv 0) (pa_cons pe_int pa_nil))))))))
      (pss_one (ps_ret (pv 3)))))), ?_⟩
    refine ⟨10, 9, rfl, rfl, ⟨by decide, by decide, by decide⟩, 10, 10, rfl, rfl, ⟨by decide, by decide, by decide⟩, by show 6 ≤ sizeLine; decide, fun t nt => ?_⟩
    have pt : p ≠ t := fun z => hp.some (z ▸ nt)
    refine ⟨_, rfl, p, 6, rfl, hp.upd pt, by decide, by decide, fun H1 e o1 st1 e0 e1 => ?_⟩
    obtain ⟨sc, hsc, sb⟩ : ∃ v : Int, atI [V.int 1, V.int 1, V.int 1, V.int 7, V.int (10 ^ (9 : Int).toNat), V.int (10 ^ (10 : Int).toNat)] e = some (.int v) ∧ -(2 ^ 64) < v ∧ v < 2 ^ 64 := by
      have : e = 0 ∨ e = 1 ∨ e = 2 ∨ e = 3 ∨ e = 4 ∨ e = 5 := by omega
      rcases this with h | h | h | h | h | h
      · exact ⟨_, by rw [h]; exact atI_nat (j := 0) rfl, by decide⟩
      · exact ⟨_, by rw [h]; exact atI_nat (j := 1) rfl, by decide⟩
      · exact ⟨_, by rw [h]; exact atI_nat (j := 2) rfl, by decide⟩
      · exact ⟨_, by rw [h]; exact atI_nat (j := 3) rfl, by decide⟩
      · exact ⟨_, by rw [h]; exact atI_nat (j := 4) rfl, by decide⟩
      · exact ⟨_, by rw [h]; exact atI_nat (j := 5) rfl, by decide⟩
    refine ⟨t, _, e, .int sc, rfl, rfl, sl_map ((o1 t pt.symm).trans upd_same), hsc, ?_⟩
    have k1 : Keep p H H1 := ((Keep.refl p H).at_ nt).oth o1
    refine ⟨_, rfl, p, 9, rfl, st1, by decide, by decide, fun H2 d o2 st2 d0 d1 => ⟨d, 4, rfl, rfl, by show 0 ≤ sizeLine; decide, fun l nl => ?_⟩⟩
    have k2 := k1.oth o2
    have pl : p ≠ l := fun z => st2.some (z ▸ nl)
    have nl0 := k2.free st2 nl
    refine ⟨_, rfl, p, 5, rfl, st2.upd pl, by decide, by decide, fun H3 c o3 st3 c0 c1 => ⟨c, rfl, by omega, by omega, ?_⟩⟩
    refine for_range (lo := 0) (fun i σ H' => ∃ (x : Int) (ns : List Int) (y4 : Option V), σ = [some (.ref p), some (.int sc), some (.int x), some (.ref l), y4] ∧ ns.length = i ∧ H' l = some (.lst (ns.map V.int)) ∧ Keep p H H' ∧ Strm H' p) ⟨_, [], none, rfl, rfl, (o3 _ pl.symm).trans upd_same, (k2.at_ nl0).oth o3, st3⟩ ?_ ?_
    · rintro i σ H4 hi ⟨x, ns, y4, rfl, nl4, e4, k4, st4⟩
      refine ⟨_, rfl, .inl ⟨rfl, _, sl_map e4⟩, _, rfl, _, rfl, x, sc, rfl, rfl, .inr sb, l, _, _, rfl, rfl, e4, by rw [List.length_map]; exact small1000 (by omega), ?_⟩
      refine ⟨_, rfl, x, 1, rfl, rfl, _, rfl, p, 3, rfl, st4.upd pl, by decide, by decide, fun H5 b o5 st5 b0 b1 => ⟨_, b, rfl, rfl, _, ns ++ [x * sc], _, rfl, by rw [List.length_append, nl4] <;> rfl, ?_, (k4.at_ nl0).oth o5, st5⟩⟩
      rw [o5 _ pl.symm, upd_same, List.map_append] <;> rfl
    · rintro σ H4 ⟨x, ns, y4, rfl, nl4, e4, k4, st4⟩
      exact ⟨_, rfl, q H4 l ns k4 nl0 st4 e4⟩
abbrev sDss : Stmt := topS 15
abbrev nDss : List Str := ["_law_stream_here", "_law_sides", "_law_k", "_law_name"]
theorem scDss : FnScope nDss ["_law_stream_here"] (defScope sDss) := ⟨rfl, rfl, rfl, by decide +kernel, rfl, by decide +kernel, by decide +kernel⟩
def spDss : Sp := fun vs H Q _ => ∃ p : Addr, vs = [.ref p] ∧ Strm H p ∧ ∀ (H' : Hp) (d : Addr) (M : List Ent), Keep p H H' → H d = none → Strm H' p → Bu H' d M → (∀ e ∈ M, e.2.1 ≠ p ∧ H e.2.1 = none) → Q (.ref d) H'
theorem ok_Dss {f f0 f1 f2 : Addr} {fd fd0 fd1 fd2 : FuncData} (F : Fun K "_law_drawn_sides" "_law_drawn_sides" sDss f fd) (B : Bt mg) (D : Call P w K mg base 1 "_law_next" f0 fd0 ["_law_stream_here", "_law_size"] spDraw) (CWrd : Call P w K mg base 2 "_law_word" f1 fd1 ["_law_stream_here"] spWrd) (CDsd : Call P w K mg base 2 "_law_drawn_side" f2 fd2 ["_law_stream_here"] spDsd) :
    FnOk P w K mg base CX0 3 f fd ["_law_stream_here"] spDss := by
  refine F.ok scDss (fun vs H Q E h => ?_) (fun cdv A outer s H vs Q E hr h => ?_)
  · obtain ⟨p, rfl, _⟩ := h
    rfl
  · obtain ⟨p, rfl, hp, q⟩ := h
    have hu := hu_of hr
    have nd := scDss.nd
    refine ⟨_, pss_cons (ps_set (i := 1) nd rfl (.inl rfl) pe_dnewK)
      (pss_cons (ps_for PassesOwn.never rfl (pi_range1 (by rfl) B.range (pa_cons (pe_call D.ok (hr.mono (by decide)) (by rfl) D.at_ D.kp D.bd .nil pass0 (pa_cons (pv 0) (pa_cons pe_int pa_nil))) pa_nil)) (pg_name (i := 2) nd rfl (.inl rfl))
        (pss_cons (ps_set (i := 3) nd rfl (.inl rfl) (pe_call CWrd.ok (hr.mono (by decide)) (by rfl) CWrd.at_ CWrd.kp CWrd.bd .nil pass0 (pa_cons (pv 0) pa_nil)))
          (pss_one (ps_dput hu (pv 1) (pv 3) (pe_call CDsd.ok (hr.mono (by decide)) (by rfl) CDsd.at_ CDsd.kp CDsd.bd .nil pass0 (pa_cons (pv 0) pa_nil)) rfl))))
      (pss_one (ps_ret (pv 1)))), ?_⟩
    intro D nD
    have pD : p ≠ D := fun z => hp.some (z ▸ nD)
    refine ⟨_, rfl, p, 6, rfl, hp.upd pD, by decide, by decide, fun H1 c o1 st1 c0 c1 => ⟨c, rfl, by omega, by omega, ?_⟩⟩
    have e1 : H1 D = some (.dK []) := (o1 _ pD.symm).trans upd_same
    refine for_range (lo := 0) (fun i σ H' => ∃ (M : List Ent) (y2 y3 : Option V), σ = [some (.ref p), some (.ref D), y2, y3] ∧ Bu H' D M ∧ M.length ≤ i ∧ (∀ e ∈ M, e.2.1 ≠ p ∧ H e.2.1 = none) ∧ Keep p H H' ∧ Strm H' p) ⟨[], none, none, rfl, ⟨⟨.inl e1, (fun _ h => nomatch h), .nil, Nat.zero_le _⟩, e1⟩, Nat.le_refl _, (fun _ h => nomatch h), ((Keep.refl p H).at_ nD).oth o1, st1⟩ ?_ ?_
    · rintro i σ H2 hi ⟨M, y2, y3, rfl, bu, ml, aw, k2, st2⟩
      refine ⟨_, rfl, p, rfl, st2, fun H3 x k3 st3 => ?_⟩
      have bu3 := bu.keep st2 k3 fun g hg => (aw g hg).1
      refine ⟨_, rfl, p, rfl, st3, fun H4 l ns k4 nl st4 el => ?_⟩
      have bu4 := bu3.keep st3 k4 fun g hg => (aw g hg).1
      have lp : l ≠ p := fun z => st3.some (z ▸ nl)
      refine ⟨_, rfl, _, rfl, D, _, rfl, DPut.k (k := .inr x) bu4.un (by rw [entK_len]; exact small1000 (by omega)), ?_⟩
      rw [putK_ent (s := ns)]
      refine ⟨putE M x l ns, _, _, rfl, bu4.aput el (by omega), by have := putE_len M x l ns; omega, fun e he => ?_, ((k2.trans k3).trans k4).at_ nD, st4.upd pD⟩
      rcases putE_mem he with z | ⟨z, _⟩
      · rw [z]; exact ⟨lp, (k2.trans k3).free st3 nl⟩
      · exact aw e z
    · rintro σ H2 ⟨M, y2, y3, rfl, bu, ml, aw, k2, st2⟩
      exact ⟨_, rfl, q H2 D M k2 nD st2 bu aw⟩
end
end K46

set_option Elab.async false
set_option linter.all false
set_option maxRecDepth 100000
set_option maxHeartbeats 4000000
namespace K46
open PySem PySem.Spec PyProof.Rows L2 Cs
def kindsC : List Str := ["empty", "blame", "crowd", "full", "climb", "want", "layers"]
section
variable {P : Program} {w : World} {K : PySem.W.Frag} {mg : Str → Option Value} {base : Heap}
abbrev sDct : Stmt := topS 16
abbrev nDct : List Str := ["_law_stream_here", "_law_word_here", "_law_count", "_law_k"]
theorem scDct : FnScope nDct ["_law_stream_here"] (defScope sDct) := ⟨rfl, rfl, rfl, by decide +kernel, rfl, by decide +kernel, by decide +kernel⟩
def spDct : Sp := fun vs H Q _ => ∃ p : Addr, vs = [.ref p] ∧ Strm H p ∧ ∀ (H' : Hp) (c : Addr), Keep p H H' → Strm H' p → Cert (fun b => H b = none) H' c → Q (.ref c) H'
theorem ok_Dct {f f0 f1 f2 f3 : Addr} {fd fd0 fd1 fd2 fd3 : FuncData} (F : Fun K "_law_drawn_certificate" "_law_drawn_certificate" sDct f fd) (B : Bt mg) (D : Call P w K mg base 1 "_law_next" f0 fd0 ["_law_stream_here", "_law_size"] spDraw) (CWrd : Call P w K mg base 2 "_law_word" f1 fd1 ["_law_stream_here"] spWrd) (CNum : Call P w K mg base 2 "_law_number" f2 fd2 ["_law_stream_here", "_law_scale"] spNum) (CDsd : Call P w K mg base 2 "_law_drawn_side" f3 fd3 ["_law_stream_here"] spDsd) :
    FnOk P w K mg base CX0 3 f fd ["_law_stream_here"] spDct := by
  refine F.ok scDct (fun vs H Q E h => ?_) (fun cdv A outer s H vs Q E hr h => ?_)
  · obtain ⟨p, rfl, _⟩ := h
    rfl
  · obtain ⟨p, rfl, hp, q⟩ := h
    have nd := scDct.nd
    refine ⟨_, pss_cons (ps_set (i := 1) nd rfl (.inl rfl) (pe_ix ix_list (pe_lst (pa_cons pe_str (pa_cons pe_str (pa_cons pe_str (pa_cons pe_str (pa_cons pe_str (pa_cons pe_str (pa_cons pe_str pa_nil)))))))) (pe_call D.ok (hr.mono (by decide)) (by rfl) D.at_ D.kp D.bd .nil pass0 (pa_cons (pv 0) (pa_cons pe_int pa_nil))) (fun _ _ => rfl)))
      (pss_cons (ps_if (pt_cmpR op_eq (pv 1) pe_str rfl)
        (pss_one (ps_ret (pe_tup (pa_cons (pv 1) (pa_cons (pe_call CWrd.ok (hr.mono (by decide)) (by rfl) CWrd.at_ CWrd.kp CWrd.bd .nil pass0 (pa_cons (pv 0) pa_nil)) pa_nil)))))
        pss_nil)
      (pss_cons (ps_set (i := 2) nd rfl (.inl rfl) (pe_call D.ok (hr.mono (by decide)) (by rfl) D.at_ D.kp D.bd .nil pass0 (pa_cons (pv 0) (pa_cons pe_int pa_nil))))
      (pss_cons (ps_if (PW.pt (pw_or (pt_cmpR op_eq (pv 1) pe_str rfl) (pw_or1 (pt_cmpR op_eq (pv 1) pe_str rfl))))
        (pss_one (ps_ret (pe_tup (pa_cons (pv 1) (pa_cons (pe_lc (own := [("_law_k", 3)]) (g := gName 3) (tt := tYes)  rfl nd (pi_range1 (by rfl) B.range (pa_cons (pv 2) pa_nil)) (blkOk_by (N := nDct) (sc := defScope sDct) (by decide +kernel)) (fun _ _ _ _ _ => pg_name (i := 3) nd rfl (.inl rfl)) (fun _ _ _ _ _ => pts_nil)
        (fun _ _ _ _ _ => (pe_call CWrd.ok (hr.mono (by decide)) (by rfl) CWrd.at_ CWrd.kp CWrd.bd .nil pass0 (pa_cons (pv 0) pa_nil)))) pa_nil)))))
        pss_nil)
      (pss_cons (ps_if (pt_cmpR op_eq (pv 1) pe_str rfl)
        (pss_one (ps_ret (pe_tup (pa_cons (pv 1) (pa_cons (pe_lc (own := [("_law_k", 3)]) (g := gName 3) (tt := tYes)  rfl nd (pi_range1 (by rfl) B.range (pa_cons (pe_op op_add pe_int (pv 2)) pa_nil)) (blkOk_by (N := nDct) (sc := defScope sDct) (by decide +kernel)) (fun _ _ _ _ _ => pg_name (i := 3) nd rfl (.inl rfl)) (fun _ _ _ _ _ => pts_nil)
        (fun _ _ _ _ _ => (pe_call CDsd.ok (hr.mono (by decide)) (by rfl) CDsd.at_ CDsd.kp CDsd.bd .nil pass0 (pa_cons (pv 0) pa_nil)))) pa_nil)))))
        pss_nil)
      (pss_one (ps_ret (pe_tup (pa_cons (pv 1) (pa_cons (pe_lc (own := [("_law_k", 3)]) (g := gName 3) (tt := tYes)  rfl nd (pi_range1 (by rfl) B.range (pa_cons (pv 2) pa_nil)) (blkOk_by (N := nDct) (sc := defScope sDct) (by decide +kernel)) (fun _ _ _ _ _ => pg_name (i := 3) nd rfl (.inl rfl)) (fun _ _ _ _ _ => pts_nil)
        (fun _ _ _ _ _ => (pe_call CNum.ok (hr.mono (by decide)) (by rfl) CNum.at_ CNum.kp CNum.bd .nil pass0 (pa_cons (pv 0) (pa_cons (pe_op op_pow pe_int pe_int) pa_nil))))) pa_nil))))))))), ?_⟩
    refine ⟨by show 7 ≤ sizeLine; decide, fun t nt => ?_⟩
    have pt : p ≠ t := fun z => hp.some (z ▸ nt)
    refine ⟨_, rfl, p, 7, rfl, hp.upd pt, by decide, by decide, fun H1 e o1 st1 e0 e1 => ?_⟩
    have k1 : Keep p H H1 := ((Keep.refl p H).at_ nt).oth o1
    obtain ⟨kd, hkd, akd⟩ : ∃ v ∈ kindsC, atI (kindsC.map V.str) e = some (.str v) := at_inS e0 (by simpa [kindsC] using e1)
    refine ⟨t, _, e, .str kd, rfl, rfl, sl_map ((o1 t pt.symm).trans upd_same), akd, ?_⟩
    refine ⟨_, rfl, rfl, _, rfl, ite_both (fun c => ?_) fun c => ?_⟩
    · -- empty
      have ce : kd = "empty" := V.str.inj (of_decide_eq_true c)
      refine ⟨_, rfl, _, rfl, p, rfl, st1, fun H2 x k2 st2 => ⟨by show 2 ≤ sizeLine; decide, fun u nu => ?_⟩⟩
      refine q _ u ((k1.trans k2).at_ ((k1.trans k2).free st2 nu)) (st2.upd fun z => st2.some (z ▸ nu)) ⟨(k1.trans k2).free st2 nu, .inl ⟨x, ?_⟩⟩
      rw [upd_same, ce]
    have n1 : kd ≠ "empty" := fun z => by rw [z] at c; simp at c
    refine ⟨_, rfl, p, 6, rfl, st1, by decide, by decide, fun H2 n o2 st2 m0 m1 => ?_⟩
    obtain ⟨n, rfl⟩ := Int.eq_ofNat_of_zero_le m0
    have k2 := k1.oth o2
    -- a list of plain things
    have plain : ∀ (H3 : Hp) (xs : List V) (L : Addr), H L = none → Keep p H H3 → Strm H3 p → H3 L = some (.lst xs) → (∀ x ∈ xs, flatB x = true) → xs.length ≤ 100 → kd ≠ "layers" → ∀ u, H3 u = none → Q (.ref u) (upd H3 u (.tup [.str kd, .ref L])) := fun H3 xs L fL k3 st3 eL f l nl u nu =>
      q _ u (k3.at_ (k3.free st3 nu)) (st3.upd fun z => st3.some (z ▸ nu)) ⟨k3.free st3 nu, .inr (.inl ⟨kd, L, xs, fL, upd_same, n1, nl, by rw [upd_ne (ne_of_none eL nu)]; exact eL, f, l⟩)⟩
    have n100 : n ≤ 6 := by omega
    refine ⟨_, rfl, rfl, _, rfl, ite_both (fun cb => ?_) fun _ => ⟨_, rfl, rfl, _, rfl, ite_both (fun cc => ?_) fun _ => ?_⟩⟩
    · have nl : kd ≠ "layers" := fun z => by rw [z] at cb; simp at cb; exact absurd cb (by decide)
      refine ⟨_, rfl, _, rfl, _, rfl, by omega, by omega, fun L nL => ?_⟩
      have Lp : L ≠ p := fun z => st2.some (z ▸ nL)
      have k2L := k2.free st2 nL
      refine lc_range (lo := 0) (fun i H' => ∃ xs : List V, Keep p H H' ∧ Strm H' p ∧ H' L = some (.lst xs) ∧ (∀ x ∈ xs, flatB x = true) ∧ xs.length = i) ⟨[], k2.at_ k2L, st2.upd Lp.symm, upd_same, (fun _ h => nomatch h), rfl⟩ ?_ ?_
      · rintro i H3 hi ⟨xs, k3, st3, eL, f, l⟩
        refine ⟨rfl, _, rfl, p, rfl, st3, fun H4 x k4 st4 => ⟨xs, k4 _ _ Lp eL, small1000 (by omega), xs ++ [.str x], (k3.trans k4).at_ k2L, st4.upd Lp.symm, upd_same, fun y hy => ?_, by rw [List.length_append, l] <;> rfl⟩⟩
        rcases List.mem_append.mp hy with z | z
        · exact f y z
        · rw [List.mem_singleton.mp z] <;> rfl
      · rintro H3 ⟨xs, k3, st3, eL, f, l⟩
        exact ⟨by show 2 ≤ sizeLine; decide, fun u nu => plain H3 xs L k2L k3 st3 eL f (by omega) nl u nu⟩
    · have nl : kd ≠ "layers" := fun z => by rw [z] at cc; simp at cc; exact absurd cc (by decide)
      refine ⟨_, rfl, _, rfl, _, rfl, by omega, by omega, fun L nL => ?_⟩
      have Lp : L ≠ p := fun z => st2.some (z ▸ nL)
      have k2L := k2.free st2 nL
      refine lc_range (lo := 0) (fun i H' => ∃ xs : List V, Keep p H H' ∧ Strm H' p ∧ H' L = some (.lst xs) ∧ (∀ x ∈ xs, flatB x = true) ∧ xs.length = i) ⟨[], k2.at_ k2L, st2.upd Lp.symm, upd_same, (fun _ h => nomatch h), rfl⟩ ?_ ?_
      · rintro i H3 hi ⟨xs, k3, st3, eL, f, l⟩
        refine ⟨rfl, _, rfl, p, rfl, st3, fun H4 x k4 st4 => ⟨xs, k4 _ _ Lp eL, small1000 (by omega), xs ++ [.str x], (k3.trans k4).at_ k2L, st4.upd Lp.symm, upd_same, fun y hy => ?_, by rw [List.length_append, l] <;> rfl⟩⟩
        rcases List.mem_append.mp hy with z | z
        · exact f y z
        · rw [List.mem_singleton.mp z] <;> rfl
      · rintro H3 ⟨xs, k3, st3, eL, f, l⟩
        exact ⟨by show 2 ≤ sizeLine; decide, fun u nu => plain H3 xs L k2L k3 st3 eL f (by omega) nl u nu⟩
    refine ⟨_, rfl, rfl, _, rfl, ite_both (fun cl => ?_) fun cl => ?_⟩
    · -- layers
      have ce : kd = "layers" := V.str.inj (of_decide_eq_true cl)
      refine ⟨_, rfl, _, rfl, 1, (n : Int), rfl, rfl, 1 + (n : Int), rfl, by omega, by omega, fun L nL => ?_⟩
      have Lp : L ≠ p := fun z => st2.some (z ▸ nL)
      have k2L := k2.free st2 nL
      refine lc_range (lo := 0) (fun i H' => ∃ es : List (Addr × List Int), Keep p H H' ∧ Strm H' p ∧ H' L = some (.lst (es.map fun e => V.ref e.1)) ∧ (∀ e ∈ es, H' e.1 = some (.lst (e.2.map V.int)) ∧ e.1 ≠ p ∧ e.1 ≠ L ∧ H e.1 = none) ∧ es.length = i) ⟨[], k2.at_ k2L, st2.upd Lp.symm, upd_same, (fun _ h => nomatch h), rfl⟩ ?_ ?_
      · rintro i H3 hi ⟨es, k3, st3, eL, f, l⟩
        refine ⟨rfl, _, rfl, p, rfl, st3, fun H4 a ns k4 na st4 ea => ⟨_, k4 _ _ Lp eL, by rw [List.length_map]; exact small1000 (by omega), es ++ [(a, ns)], (k3.trans k4).at_ k2L, st4.upd Lp.symm, ?_, fun y hy => ?_, by rw [List.length_append, l] <;> rfl⟩⟩
        · rw [upd_same, List.map_append] <;> rfl
        · rcases List.mem_append.mp hy with z | z
          · obtain ⟨f1, f2, f3, f4⟩ := f y z
            exact ⟨by rw [upd_ne f3]; exact k4 _ _ f2 f1, f2, f3, f4⟩
          · rw [List.mem_singleton.mp z]
            have aL : a ≠ L := (ne_of_none eL na).symm
            exact ⟨by rw [upd_ne aL]; exact ea, fun z => st3.some (z ▸ na), aL, k3.free st3 na⟩
      · rintro H3 ⟨es, k3, st3, eL, f, l⟩
        refine ⟨by show 2 ≤ sizeLine; decide, fun u nu => q _ u (k3.at_ (k3.free st3 nu)) (st3.upd fun z => st3.some (z ▸ nu)) ⟨k3.free st3 nu, .inr (.inr ⟨L, es, k2L, by rw [upd_same, ce], by rw [upd_ne (ne_of_none eL nu)]; exact eL, fun e he => ⟨(f e he).2.2.2, by rw [upd_ne (ne_of_none (f e he).1 nu)]; exact (f e he).1⟩, by omega⟩)⟩⟩
    · -- numbers
      have nl : kd ≠ "layers" := fun z => by rw [z] at cl; simp at cl
      refine ⟨_, rfl, _, rfl, _, rfl, by omega, by omega, fun L nL => ?_⟩
      have Lp : L ≠ p := fun z => st2.some (z ▸ nL)
      have k2L := k2.free st2 nL
      refine lc_range (lo := 0) (fun i H' => ∃ xs : List V, Keep p H H' ∧ Strm H' p ∧ H' L = some (.lst xs) ∧ (∀ x ∈ xs, flatB x = true) ∧ xs.length = i) ⟨[], k2.at_ k2L, st2.upd Lp.symm, upd_same, (fun _ h => nomatch h), rfl⟩ ?_ ?_
      · rintro i H3 hi ⟨xs, k3, st3, eL, f, l⟩
        refine ⟨rfl, _, rfl, 10, 29, rfl, rfl, ⟨by decide, by decide, by decide⟩, p, _, rfl, st3, fun H4 x k4 st4 => ⟨xs, k4 _ _ Lp eL, small1000 (by omega), xs ++ [.int x], (k3.trans k4).at_ k2L, st4.upd Lp.symm, upd_same, fun y hy => ?_, by rw [List.length_append, l] <;> rfl⟩⟩
        rcases List.mem_append.mp hy with z | z
        · exact f y z
        · rw [List.mem_singleton.mp z] <;> rfl
      · rintro H3 ⟨xs, k3, st3, eL, f, l⟩
        exact ⟨by show 2 ≤ sizeLine; decide, fun u nu => plain H3 xs L k2L k3 st3 eL f (by omega) nl u nu⟩
abbrev sLgl : Stmt := topS 17
abbrev nLgl : List Str := ["_law_stream_here", "_law_keys", "_law_size", "_law_sides", "_law_kind", "_law_first"]
theorem scLgl : FnScope nLgl ["_law_stream_here", "_law_keys", "_law_size"] (defScope sLgl) := ⟨rfl, rfl, rfl, by decide +kernel, rfl, by decide +kernel, by decide +kernel⟩
def spLgl (K : PySem.W.Frag) : Sp := fun vs H Q _ => ∃ (p a : Addr) (ks : List Str) (n : Nat), vs = [.ref p, .ref a, .int (n : Int)] ∧ Strm H p ∧ H a = some (.lst (ks.map V.str)) ∧ a ≠ p ∧ 1 ≤ ks.length ∧ ks.length ≤ 100 ∧ n ≤ 1000 ∧
  ∀ (H' : Hp) (l : Addr) (ln : Ln), Keep p H H' → H l = none → Full (fun b => H b = none) H' l ln → Back n ln → (∀ k, ln = .rule k → k ∈ ks) → Q (.ref l) H'
theorem ok_Lgl {f f0 f1 f2 f3 : Addr} {fd fd0 fd1 fd2 fd3 : FuncData} (F : Fun K "_law_log_line" "_law_log_line" sLgl f fd) (B : Bt mg) (CDss : Call P w K mg base 3 "_law_drawn_sides" f0 fd0 ["_law_stream_here"] spDss) (D : Call P w K mg base 1 "_law_next" f1 fd1 ["_law_stream_here", "_law_size"] spDraw) (CDct : Call P w K mg base 3 "_law_drawn_certificate" f2 fd2 ["_law_stream_here"] spDct) (CWrd : Call P w K mg base 2 "_law_word" f3 fd3 ["_law_stream_here"] spWrd) :
    FnOk P w K mg base CX0 4 f fd ["_law_stream_here", "_law_keys", "_law_size"] (spLgl K) := by
  refine F.ok scLgl (fun vs H Q E h => ?_) (fun cdv A outer s H vs Q E hr h => ?_)
  · obtain ⟨p, a, ks, n, rfl, _⟩ := h
    rfl
  · obtain ⟨p, a, ks, n, rfl, hp, ha, ap, k1', k100, n1000, q⟩ := h
    have nd := scLgl.nd
    refine ⟨_, pss_cons (ps_set (i := 3) nd rfl (.inl rfl) (pe_call CDss.ok (hr.mono (by decide)) (by rfl) CDss.at_ CDss.kp CDss.bd .nil pass0 (pa_cons (pv 0) pa_nil)))
      (pss_cons (ps_set (i := 4) nd rfl (.inl rfl) (pe_call D.ok (hr.mono (by decide)) (by rfl) D.at_ D.kp D.bd .nil pass0 (pa_cons (pv 0) (pa_cons pe_int pa_nil))))
      (pss_cons (ps_if (PW.pt (pw_and (pt_cmpR op_gt (pv 4) pe_int rfl) (pw_and1 (pt_cmpR op_gt (pv 2) pe_int rfl))))
        (pss_cons (ps_set (i := 5) nd rfl (.inl rfl) (pe_op op_add pe_int (pe_call D.ok (hr.mono (by decide)) (by rfl) D.at_ D.kp D.bd .nil pass0 (pa_cons (pv 0) (pa_cons (pv 2) pa_nil)))))
          (pss_one (ps_ret (pe_tup (pa_cons pe_str (pa_cons (pv 3) (pa_cons (pe_call CWrd.ok (hr.mono (by decide)) (by rfl) CWrd.at_ CWrd.kp CWrd.bd .nil pass0 (pa_cons (pv 0) pa_nil)) (pa_cons (pv 5) (pa_cons (pe_op op_add pe_int (pe_call D.ok (hr.mono (by decide)) (by rfl) D.at_ D.kp D.bd .nil pass0 (pa_cons (pv 0) (pa_cons (pv 2) pa_nil)))) pa_nil)))))))))
        pss_nil)
      (pss_cons (ps_if (pt_cmpR op_eq (pv 4) pe_int rfl)
        (pss_one (ps_ret (pe_tup (pa_cons pe_str (pa_cons (pv 3) (pa_cons (pe_call CWrd.ok (hr.mono (by decide)) (by rfl) CWrd.at_ CWrd.kp CWrd.bd .nil pass0 (pa_cons (pv 0) pa_nil)) pa_nil))))))
        pss_nil)
      (pss_one (ps_ret (pe_tup (pa_cons pe_str (pa_cons (pv 3) (pa_cons (pe_ix ix_list (pv 1) (pe_call D.ok (hr.mono (by decide)) (by rfl) D.at_ D.kp D.bd .nil pass0 (pa_cons (pv 0) (pa_cons (pe_callB call_len_seq (by rfl) B.len PySem.boot_len (pa_cons (pv 1) pa_nil)) pa_nil))) (fun _ _ => rfl)) (pa_cons (pe_call CDct.ok (hr.mono (by decide)) (by rfl) CDct.at_ CDct.kp CDct.bd .nil pass0 (pa_cons (pv 0) pa_nil)) pa_nil)))))))))), ?_⟩
    refine ⟨_, rfl, p, rfl, hp, fun H1 d M k1 nD st1 bu1 aw => ?_⟩
    refine ⟨_, rfl, p, 8, rfl, st1, by decide, by decide, fun H2 kd o2 st2 e0 e1 => ?_⟩
    have k2 := k1.oth o2
    have aw1 : ∀ g ∈ M, g.2.1 ≠ p := fun g hg => (aw g hg).1
    have bu2 := bu1.keep st1 ((Keep.refl p H1).oth o2) aw1
    have fill : ∀ {H' : Hp}, Bu H' d M → BuF (fun b => H b = none) H' d M := fun b => ⟨b, nD, fun g hg => (aw g hg).2⟩
    have a2 := k2 _ _ ap ha
    refine' with_restS (fun σ H' => σ = [some (.ref p), some (.ref a), some (.int (n : Int)), some (.ref d), some (.int kd), none] ∧ H' = H2) ?r (fun rest => ⟨_, rfl, _, _, rfl, rfl, _, rfl, ite_both (fun c1 => ⟨_, rfl, _, _, rfl, rfl, _, rfl, ite_both (fun c2 => ?join) fun _ => ?n2⟩) fun _ => ?n1⟩)
    case' n1 => exact iteF (rest _ _ ⟨rfl, rfl⟩)
    case n2 => exact rest _ _ ⟨rfl, rfl⟩
    case join =>
      have np : 0 < (n : Int) := of_decide_eq_true c2
      refine ⟨_, rfl, _, rfl, p, (n : Int), rfl, st2, np, by omega, fun H3 x o3 st3 x0 x1 => ⟨1, x, rfl, rfl, ?_⟩⟩
      refine ⟨_, rfl, _, rfl, p, rfl, st3, fun H4 ww k4 st4 => ⟨_, rfl, _, rfl, _, rfl, p, (n : Int), rfl, st4, np, by omega, fun H5 y o5 st5 y0 y1 => ⟨1, y, rfl, rfl, by show 5 ≤ sizeLine; decide, fun l nl => ?_⟩⟩⟩
      obtain ⟨x, rfl⟩ := Int.eq_ofNat_of_zero_le x0
      obtain ⟨y, rfl⟩ := Int.eq_ofNat_of_zero_le y0
      have k25 : Keep p H2 H5 := (((Keep.refl p H2).oth o3).trans k4).oth o5
      have k5 := k2.trans k25
      have nl0 := k5.free st5 nl
      refine q _ l (.join (1 + x) (1 + y)) (k5.at_ nl0) nl0 ⟨nl0, d, ww, M, ?_, fill ((bu2.keep st2 k25 aw1).same' (same_new nl))⟩ ⟨by omega, by omega, by omega, by omega⟩ (fun k z => nomatch z)
      rw [show ((1 + x : Nat) : Int) = 1 + (x : Int) by omega, show ((1 + y : Nat) : Int) = 1 + (y : Int) by omega]
      exact upd_same
    rintro σ H2 ⟨rfl, rfl⟩
    refine ⟨_, rfl, rfl, _, rfl, ite_both (fun c1 => ?_) fun c1 => ?_⟩
    · refine ⟨_, rfl, _, rfl, p, rfl, st2, fun H4 ww k4 st4 => ⟨by show 3 ≤ sizeLine; decide, fun l nl => ?_⟩⟩
      have k5 := k2.trans k4
      have nl0 := k5.free st4 nl
      exact q _ l .void (k5.at_ nl0) nl0 ⟨nl0, d, ww, M, upd_same, fill ((bu2.keep st2 k4 aw1).same' (same_new nl))⟩ trivial (fun k z => nomatch z)
    · refine ⟨_, rfl, _, rfl, _, rfl, _, rfl, a, _, rfl, .inl (sl_map a2), p, _, rfl, st2, by rw [List.length_map]; omega, by rw [List.length_map]; omega, fun H3 x o3 st3 x0 x1 => ?_⟩
      rw [List.length_map] at x1
      obtain ⟨key, hkey, akey⟩ := at_inS x0 x1
      have k3 := k2.oth o3
      refine ⟨a, _, x, .str key, rfl, rfl, sl_map ((o3 a ap).trans a2), akey, _, rfl, p, rfl, st3, fun H4 c k4 st4 ce => ⟨by show 4 ≤ sizeLine; decide, fun l nl => ?_⟩⟩
      have k25 : Keep p H2 H4 := ((Keep.refl p H2).oth o3).trans k4
      have k5 := k2.trans k25
      have nl0 := k5.free st4 nl
      exact q _ l (.rule key) (k5.at_ nl0) nl0 ⟨nl0, d, c, M, upd_same, fill ((bu2.keep st2 k25 aw1).same' (same_new nl)), (ce.imp (fun b o n _ => k3.free st3 n) fun _ _ _ e => e).same (same_new nl)⟩ trivial (fun k z => by cases z; exact hkey)
end
end K46

set_option Elab.async false
set_option linter.all false
set_option maxRecDepth 100000
set_option maxHeartbeats 4000000
namespace K46
open PySem PySem.Spec PyProof.Rows L2 Cs
theorem other {x y : Str} (h : x ≠ y) {A : Prop} : decide (V.str x = V.str y) = true → A := fun c => absurd (V.str.inj (of_decide_eq_true c)) h
theorem self_ {x : Str} {A : Prop} : decide (V.str x = V.str x) = false → A := fun c => absurd rfl (of_decide_eq_false c)
theorem twin_lists {F : Addr → Prop} {H : Hp} : ∀ {gs es : List (Addr × List Int)}, (∀ g ∈ gs, F g.1 ∧ H g.1 = some (.lst (g.2.map V.int))) → (∀ g ∈ es, F g.1 ∧ H g.1 = some (.lst (g.2.map V.int))) → gs.map (·.2) = es.map (·.2) → Paired (Twn F H 2) (gs.map fun e => V.ref e.1) (es.map fun e => V.ref e.1)
  | [], [], _, _, _ => .nil
  | [], _ :: _, _, _, h => nomatch h
  | _ :: _, [], _, _, h => nomatch h
  | g :: gs, e :: es, a, b, h => by
    obtain ⟨h1, h2⟩ := List.cons.inj h
    have ha := (a g List.mem_cons_self).2
    rw [show g.2 = e.2 from h1] at ha
    exact .cons (Twn.list (a g List.mem_cons_self).1 (b e List.mem_cons_self).1 ha (b e List.mem_cons_self).2 (Twn.flats fun x hx => by obtain ⟨k, _, rfl⟩ := List.mem_map.mp hx; rfl)) (twin_lists (fun y hy => a y (List.mem_cons_of_mem _ hy)) (fun y hy => b y (List.mem_cons_of_mem _ hy)) h2)
section
variable {P : Program} {w : World} {K : PySem.W.Frag} {mg : Str → Option Value} {base : Heap}
abbrev sCcc : Stmt := topS 18
abbrev nCcc : List Str := ["_law_certificate", "_law_layer"]
theorem scCcc : FnScope nCcc ["_law_certificate"] (defScope sCcc) := ⟨rfl, rfl, rfl, by decide +kernel, rfl, by decide +kernel, by decide +kernel⟩
def spCcc : Sp := fun vs H Q _ => ∃ (F : Addr → Prop) (c : Addr), vs = [.ref c] ∧ Cert F H c ∧ (∀ b, H b = none → F b) ∧ ∀ (H' : Hp) (u : Addr), Same H H' → H u = none → Cert F H' u → Twn F H' 4 (.ref u) (.ref c) → Q (.ref u) H'
theorem ok_Ccc {f  : Addr} {fd  : FuncData} (F : Fun K "_law_certificate_copy" "_law_certificate_copy" sCcc f fd) (B : Bt mg) :
    FnOk P w K mg base CX0 1 f fd ["_law_certificate"] spCcc := by
  refine F.ok scCcc (fun vs H Q E h => ?_) (fun cdv A outer s H vs Q E hr h => ?_)
  · obtain ⟨F, c, rfl, _⟩ := h
    rfl
  · obtain ⟨Fa, c, rfl, ce, new, q⟩ := h
    have nd := scCcc.nd
    refine ⟨_, pss_cons (ps_if (pt_cmpR op_eq (pe_ix ix_tup (pv 0) pe_int (fun _ _ => rfl)) pe_str rfl)
        (pss_one (ps_ret (pe_tup (pa_cons (pe_ix ix_tup (pv 0) pe_int (fun _ _ => rfl)) (pa_cons (pe_ix ix_tup (pv 0) pe_int (fun _ _ => rfl)) pa_nil)))))
        pss_nil)
      (pss_cons (ps_if (pt_cmpR op_eq (pe_ix ix_tup (pv 0) pe_int (fun _ _ => rfl)) pe_str rfl)
        (pss_one (ps_ret (pe_tup (pa_cons (pe_ix ix_tup (pv 0) pe_int (fun _ _ => rfl)) (pa_cons (pe_lc (own := [("_law_layer", 1)]) (g := gName 1) (tt := tYes)  rfl nd (pi_list (pe_ix ix_tup (pv 0) pe_int (fun _ _ => rfl))) (blkOk_by (N := nCcc) (sc := defScope sCcc) (by decide +kernel)) (fun _ _ _ _ _ => pg_name (i := 1) nd rfl (.inl rfl)) (fun _ _ _ _ _ => pts_nil)
        (fun _ _ _ _ _ => (pe_callTy (r := rLst K) call_list_of (by rfl) B.list PyProof.Rows.boot_list (pa_cons (pv 1) pa_nil)))) pa_nil)))))
        pss_nil)
      (pss_one (ps_ret (pe_tup (pa_cons (pe_ix ix_tup (pv 0) pe_int (fun _ _ => rfl)) (pa_cons (pe_callTy call_list_of (by rfl) B.list PyProof.Rows.boot_list (pa_cons (pe_ix ix_tup (pv 0) pe_int (fun _ _ => rfl)) pa_nil)) pa_nil)))))), ?_⟩
    rcases ce with ⟨fc, ⟨x, e⟩ | ⟨kd, L, xs, fL, e, n1, n2, eL, f, l⟩ | ⟨L, es, fL, e, eL, f, l⟩⟩
    · have tt : SqT K H c [.str "empty", .str x] := .inl (.inl e)
      refine ⟨_, rfl, c, _, _, .str "empty", rfl, rfl, tt, atI_nat (j := 0) rfl, rfl, _, rfl, ite_both (fun _ => ?_) self_⟩
      refine ⟨_, rfl, c, _, _, .str "empty", rfl, rfl, tt, atI_nat (j := 0) rfl, _, rfl, c, _, _, .str x, rfl, rfl, tt, atI_nat (j := 1) rfl, by show 2 ≤ sizeLine; decide, fun u nu => ?_⟩
      exact q _ u (same_new nu) nu ⟨new u nu, .inl ⟨x, upd_same⟩⟩ (Twn.tup (new u nu) fc upd_same ((same_new nu) _ _ e) (.cons (.flat rfl) (.cons (.flat rfl) .nil)))
    · have tt : SqT K H c [.str kd, .ref L] := .inl (.inl e)
      refine ⟨_, rfl, c, _, _, .str kd, rfl, rfl, tt, atI_nat (j := 0) rfl, rfl, _, rfl, ite_both (other n1) fun _ => ?_⟩
      refine ⟨_, rfl, c, _, _, .str kd, rfl, rfl, tt, atI_nat (j := 0) rfl, rfl, _, rfl, ite_both (other n2) fun _ => ?_⟩
      refine ⟨_, rfl, c, _, _, .str kd, rfl, rfl, tt, atI_nat (j := 0) rfl, _, rfl, c, _, _, .ref L, rfl, rfl, tt, atI_nat (j := 1) rfl, L, xs, rfl, .inl (sl_map eL), fun l' nl => ⟨by show 2 ≤ sizeLine; decide, fun u nu => ?_⟩⟩
      have s1 := same_new (o := HO.lst xs) nl
      have s2 := same_new (o := HO.tup [.str kd, .ref l']) nu
      have el := s2 _ _ (upd_same (H := H) (a := l') (o := HO.lst xs))
      exact q _ u (s1.trans s2) (s1.free nu) ⟨new u (s1.free nu), .inr (.inl ⟨kd, l', xs, new l' nl, upd_same, n1, n2, el, f, l⟩)⟩ (Twn.tup (new u (s1.free nu)) fc upd_same ((s1.trans s2) _ _ e) (.cons (.flat rfl) (.cons (Twn.list (new l' nl) fL el ((s1.trans s2) _ _ eL) (Twn.flats f)) .nil)))
    · have tt : SqT K H c [.str "layers", .ref L] := .inl (.inl e)
      refine ⟨_, rfl, c, _, _, .str "layers", rfl, rfl, tt, atI_nat (j := 0) rfl, rfl, _, rfl, ite_both (other (by decide)) fun _ => ?_⟩
      refine ⟨_, rfl, c, _, _, .str "layers", rfl, rfl, tt, atI_nat (j := 0) rfl, rfl, _, rfl, ite_both (fun _ => ?_) self_⟩
      refine ⟨_, rfl, c, _, _, .str "layers", rfl, rfl, tt, atI_nat (j := 0) rfl, _, rfl, c, _, _, .ref L, rfl, rfl, tt, atI_nat (j := 1) rfl, L, rfl, ⟨_, sl_map eL⟩, fun R nR => ?_⟩
      refine lc_list (xs := es.map fun e => V.ref e.1) (fun i H' => ∃ gs : List (Addr × List Int), Same H H' ∧ H' R = some (.lst (gs.map fun e => V.ref e.1)) ∧ (∀ g ∈ gs, H' g.1 = some (.lst (g.2.map V.int)) ∧ g.1 ≠ R ∧ H g.1 = none) ∧ gs.map (·.2) = (es.take i).map (·.2)) ⟨[], same_new nR, upd_same, (fun _ h => nomatch h), rfl⟩ (fun i H' _ h => by obtain ⟨_, s, _⟩ := h; exact sl_map (s _ _ eL)) ?_ ?_
      · rintro i x H1 hx ⟨gs, s1, eR, fg, sh⟩
        rw [List.getElem?_map] at hx
        obtain ⟨g, hg, rfl⟩ := Option.map_eq_some_iff.mp hx
        have gm := List.mem_of_getElem? hg
        have hi := (List.getElem?_eq_some_iff.mp hg).1
        have gl : gs.length = i := by
          have := congrArg List.length sh
          rw [List.length_map, List.length_map, List.length_take] at this
          omega
        refine ⟨rfl, _, rfl, g.1, _, rfl, .inl (sl_map (s1 _ _ (f g gm).2)), fun a na => ?_⟩
        have s2 := same_new (o := HO.lst (g.2.map V.int)) na
        have aR : a ≠ R := (ne_of_none eR na).symm
        refine ⟨_, s2 _ _ eR, by rw [List.length_map]; exact small1000 (by omega), gs ++ [(a, g.2)], same_at (s1.trans s2) nR, ?_, fun y hy => ?_, ?_⟩
        · rw [upd_same, List.map_append] <;> rfl
        · rcases List.mem_append.mp hy with z | z
          · exact ⟨by rw [upd_ne (fg y z).2.1]; exact s2 _ _ (fg y z).1, (fg y z).2⟩
          · rw [List.mem_singleton.mp z]
            exact ⟨by rw [upd_ne aR]; exact upd_same, aR, s1.free na⟩
        · rw [List.map_append, sh, List.take_add_one, hg, List.map_append] <;> rfl
      · rintro H1 ⟨gs, s1, eR, fg, sh⟩
        rw [List.length_map, List.take_length] at sh
        refine ⟨by show 2 ≤ sizeLine; decide, fun u nu => ?_⟩
        have s2 := same_new (o := HO.tup [.str "layers", .ref R]) nu
        have gl : gs.length = es.length := by
          have := congrArg List.length sh
          rw [List.length_map, List.length_map] at this
          exact this
        refine q _ u (s1.trans s2) (s1.free nu) ⟨new u (s1.free nu), .inr (.inr ⟨R, gs, new R nR, upd_same, s2 _ _ eR, fun g hg => ⟨new _ (fg g hg).2.2, s2 _ _ (fg g hg).1⟩, by omega⟩)⟩ (Twn.tup (new u (s1.free nu)) fc upd_same ((s1.trans s2) _ _ e) (.cons (.flat rfl) (.cons (Twn.list (new R nR) fL (s2 _ _ eR) ((s1.trans s2) _ _ eL) ?_) .nil)))
        exact twin_lists (fun g hg => ⟨new _ (fg g hg).2.2, s2 _ _ (fg g hg).1⟩) (fun g hg => ⟨(f g hg).1, (s1.trans s2) _ _ (f g hg).2⟩) sh
abbrev sLcp : Stmt := topS 20
abbrev nLcp : List Str := ["_law_line"]
theorem scLcp : FnScope nLcp ["_law_line"] (defScope sLcp) := ⟨rfl, rfl, rfl, by decide +kernel, rfl, by decide +kernel, by decide +kernel⟩
def spLcp : Sp := fun vs H Q _ => ∃ (F : Addr → Prop) (a : Addr) (ln : Ln), vs = [.ref a] ∧ Full F H a ln ∧ (∀ b, H b = none → F b) ∧ ∀ (H' : Hp) (u : Addr), Same H H' → H u = none → Full F H' u ln → Twn F H' 5 (.ref u) (.ref a) → Q (.ref u) H'
theorem ok_Lcp {f f0 f1 : Addr} {fd fd0 fd1 : FuncData} (F : Fun K "_law_line_copy" "_law_line_copy" sLcp f fd) (B : Bt mg) (Ccp : Call P w K mg base 1 "_law_copied" f0 fd0 ["_law_sides"] spCopy) (CCcc : Call P w K mg base 1 "_law_certificate_copy" f1 fd1 ["_law_certificate"] spCcc) :
    FnOk P w K mg base CX0 2 f fd ["_law_line"] spLcp := by
  refine F.ok scLcp (fun vs H Q E h => ?_) (fun cdv A outer s H vs Q E hr h => ?_)
  · obtain ⟨F, a, ln, rfl, _⟩ := h
    rfl
  · obtain ⟨Fa, a, ln, rfl, ⟨fa, fu⟩, new, q⟩ := h
    have nd := scLcp.nd
    refine ⟨_, pss_cons (ps_if (pt_cmpR op_eq (pe_ix ix_tup (pv 0) pe_int (fun _ _ => rfl)) pe_str rfl)
        (pss_one (ps_ret (pe_tup (pa_cons pe_str (pa_cons (pe_callTy call_dictD (by rfl) B.dict PyProof.Rows.boot_dict (pa_cons (pe_ix ix_tup (pv 0) pe_int (fun _ _ => rfl)) pa_nil)) pa_nil)))))
        pss_nil)
      (pss_cons (ps_if (pt_cmpR op_eq (pe_ix ix_tup (pv 0) pe_int (fun _ _ => rfl)) pe_str rfl)
        (pss_one (ps_ret (pe_tup (pa_cons pe_str (pa_cons (pe_call Ccp.ok (hr.mono (by decide)) (by rfl) Ccp.at_ Ccp.kp Ccp.bd .nil pass0 (pa_cons (pe_ix ix_tup (pv 0) pe_int (fun _ _ => rfl)) pa_nil)) (pa_cons (pe_ix ix_tup (pv 0) pe_int (fun _ _ => rfl)) (pa_cons (pe_call CCcc.ok (hr.mono (by decide)) (by rfl) CCcc.at_ CCcc.kp CCcc.bd .nil pass0 (pa_cons (pe_ix ix_tup (pv 0) pe_int (fun _ _ => rfl)) pa_nil)) pa_nil)))))))
        pss_nil)
      (pss_cons (ps_if (pt_cmpR op_eq (pe_ix ix_tup (pv 0) pe_int (fun _ _ => rfl)) pe_str rfl)
        (pss_one (ps_ret (pe_tup (pa_cons pe_str (pa_cons (pe_call Ccp.ok (hr.mono (by decide)) (by rfl) Ccp.at_ Ccp.kp Ccp.bd .nil pass0 (pa_cons (pe_ix ix_tup (pv 0) pe_int (fun _ _ => rfl)) pa_nil)) (pa_cons (pe_ix ix_tup (pv 0) pe_int (fun _ _ => rfl)) (pa_cons (pe_ix ix_tup (pv 0) pe_int (fun _ _ => rfl)) (pa_cons (pe_ix ix_tup (pv 0) pe_int (fun _ _ => rfl)) pa_nil))))))))
        pss_nil)
      (pss_cons (ps_if (pt_cmpR op_eq (pe_ix ix_tup (pv 0) pe_int (fun _ _ => rfl)) pe_str rfl)
        (pss_one (ps_ret (pe_tup (pa_cons pe_str (pa_cons (pe_call Ccp.ok (hr.mono (by decide)) (by rfl) Ccp.at_ Ccp.kp Ccp.bd .nil pass0 (pa_cons (pe_ix ix_tup (pv 0) pe_int (fun _ _ => rfl)) pa_nil)) pa_nil)))))
        pss_nil)
      (pss_one (ps_ret (pe_tup (pa_cons (pe_ix ix_tup (pv 0) pe_int (fun _ _ => rfl)) (pa_cons (pe_call Ccp.ok (hr.mono (by decide)) (by rfl) Ccp.at_ Ccp.kp Ccp.bd .nil pass0 (pa_cons (pe_ix ix_tup (pv 0) pe_int (fun _ _ => rfl)) pa_nil)) (pa_cons (pe_ix ix_tup (pv 0) pe_int (fun _ _ => rfl)) pa_nil))))))))), ?_⟩
    cases ln with
    | void =>
      obtain ⟨d, x, M, e, bu⟩ := fu
      have tt : SqT K H a [.str "void", .ref d, .str x] := .inl (.inl e)
      refine ⟨_, rfl, a, _, _, .str "void", rfl, rfl, tt, atI_nat (j := 0) rfl, rfl, _, rfl, ite_both (other (by decide)) fun _ => ?_⟩
      refine ⟨_, rfl, a, _, _, .str "void", rfl, rfl, tt, atI_nat (j := 0) rfl, rfl, _, rfl, ite_both (other (by decide)) fun _ => ?_⟩
      refine ⟨_, rfl, a, _, _, .str "void", rfl, rfl, tt, atI_nat (j := 0) rfl, rfl, _, rfl, ite_both (other (by decide)) fun _ => ?_⟩
      refine ⟨_, rfl, a, _, _, .str "void", rfl, rfl, tt, atI_nat (j := 0) rfl, rfl, _, rfl, ite_both (other (by decide)) fun _ => ?_⟩
      refine ⟨_, rfl, a, _, _, .str "void", rfl, rfl, tt, atI_nat (j := 0) rfl, _, rfl, a, _, _, .ref d, rfl, rfl, tt, atI_nat (j := 1) rfl, d, M, rfl, bu.toBu, fun H1 d1 M1 s1 nb sh => ?_⟩
      have nbF : ∀ {H' : Hp}, Bu H' d1 M1 → BuF Fa H' d1 M1 := fun b => ⟨b, new _ nb.fresh, fun g hg => new _ (nb.freshS g hg)⟩
      refine ⟨_, rfl, a, _, _, .str x, rfl, rfl, .inl (.inl (s1 _ _ e)), atI_nat (j := 2) rfl, by show 3 ≤ sizeLine; decide, fun u nu => ?_⟩
      have s2 := same_new (o := HO.tup [.str "void", .ref d1, .str x]) nu
      exact q _ u (s1.trans s2) (s1.free nu) ⟨new u (s1.free nu), d1, x, M1, upd_same, nbF (nb.toBu.same' s2)⟩ (Twn.tup (new u (s1.free nu)) fa upd_same ((s1.trans s2) _ _ e) (.cons (.flat rfl) (.cons ((twn_box (nb.toBu.same' s2) (bu.toBu.same' (s1.trans s2)) (new _ nb.fresh) bu.fd (fun g hg => new _ (nb.freshS g hg)) bu.fM (shape_same sh)).up (by decide)) (.cons (.flat rfl) .nil))))
    | rule key =>
      obtain ⟨d, c, M, e, bu, ce⟩ := fu
      have tt : SqT K H a [.str "rule", .ref d, .str key, .ref c] := .inl (.inl e)
      refine ⟨_, rfl, a, _, _, .str "rule", rfl, rfl, tt, atI_nat (j := 0) rfl, rfl, _, rfl, ite_both (other (by decide)) fun _ => ?_⟩
      refine ⟨_, rfl, a, _, _, .str "rule", rfl, rfl, tt, atI_nat (j := 0) rfl, rfl, _, rfl, ite_both (fun _ => ?_) self_⟩
      refine ⟨_, rfl, a, _, _, .ref d, rfl, rfl, tt, atI_nat (j := 1) rfl, d, M, rfl, bu.toBu, fun H1 d1 M1 s1 nb sh => ?_⟩
      have nbF : ∀ {H' : Hp}, Bu H' d1 M1 → BuF Fa H' d1 M1 := fun b => ⟨b, new _ nb.fresh, fun g hg => new _ (nb.freshS g hg)⟩
      have tt1 : SqT K H1 a [.str "rule", .ref d, .str key, .ref c] := .inl (.inl (s1 _ _ e))
      refine ⟨_, rfl, a, _, _, .str key, rfl, rfl, tt1, atI_nat (j := 2) rfl, _, rfl, a, _, _, .ref c, rfl, rfl, tt1, atI_nat (j := 3) rfl, Fa, c, rfl, ce.same s1, (fun b n => new b (s1.free n)), fun H2 c1 s2 nc ce1 tw => ⟨by show 4 ≤ sizeLine; decide, fun u nu => ?_⟩⟩
      have s3 := same_new (o := HO.tup [.str "rule", .ref d1, .str key, .ref c1]) nu
      have s23 := s2.trans s3
      exact q _ u (s1.trans s23) (s1.free (s2.free nu)) ⟨new u (s1.free (s2.free nu)), d1, c1, M1, upd_same, nbF (nb.toBu.same' s23), ce1.same s3⟩ (Twn.tup (new u (s1.free (s2.free nu))) fa upd_same ((s1.trans s23) _ _ e) (.cons (.flat rfl) (.cons ((twn_box (nb.toBu.same' s23) (bu.toBu.same' (s1.trans s23)) (new _ nb.fresh) bu.fd (fun g hg => new _ (nb.freshS g hg)) bu.fM (shape_same sh)).up (by decide)) (.cons (.flat rfl) (.cons (tw.same s3) .nil)))))
    | join i j =>
      obtain ⟨d, x, M, e, bu⟩ := fu
      have tt : SqT K H a [.str "join", .ref d, .str x, .int (i : Int), .int (j : Int)] := .inl (.inl e)
      refine ⟨_, rfl, a, _, _, .str "join", rfl, rfl, tt, atI_nat (j := 0) rfl, rfl, _, rfl, ite_both (other (by decide)) fun _ => ?_⟩
      refine ⟨_, rfl, a, _, _, .str "join", rfl, rfl, tt, atI_nat (j := 0) rfl, rfl, _, rfl, ite_both (other (by decide)) fun _ => ?_⟩
      refine ⟨_, rfl, a, _, _, .str "join", rfl, rfl, tt, atI_nat (j := 0) rfl, rfl, _, rfl, ite_both (fun _ => ?_) self_⟩
      refine ⟨_, rfl, a, _, _, .ref d, rfl, rfl, tt, atI_nat (j := 1) rfl, d, M, rfl, bu.toBu, fun H1 d1 M1 s1 nb sh => ?_⟩
      have nbF : ∀ {H' : Hp}, Bu H' d1 M1 → BuF Fa H' d1 M1 := fun b => ⟨b, new _ nb.fresh, fun g hg => new _ (nb.freshS g hg)⟩
      have tt1 : SqT K H1 a [.str "join", .ref d, .str x, .int (i : Int), .int (j : Int)] := .inl (.inl (s1 _ _ e))
      refine ⟨_, rfl, a, _, _, .str x, rfl, rfl, tt1, atI_nat (j := 2) rfl, _, rfl, a, _, _, .int (i : Int), rfl, rfl, tt1, atI_nat (j := 3) rfl, _, rfl, a, _, _, .int (j : Int), rfl, rfl, tt1, atI_nat (j := 4) rfl, by show 5 ≤ sizeLine; decide, fun u nu => ?_⟩
      have s2 := same_new (o := HO.tup [.str "join", .ref d1, .str x, .int (i : Int), .int (j : Int)]) nu
      exact q _ u (s1.trans s2) (s1.free nu) ⟨new u (s1.free nu), d1, x, M1, upd_same, nbF (nb.toBu.same' s2)⟩ (Twn.tup (new u (s1.free nu)) fa upd_same ((s1.trans s2) _ _ e) (.cons (.flat rfl) (.cons ((twn_box (nb.toBu.same' s2) (bu.toBu.same' (s1.trans s2)) (new _ nb.fresh) bu.fd (fun g hg => new _ (nb.freshS g hg)) bu.fM (shape_same sh)).up (by decide)) (.cons (.flat rfl) (.cons (.flat rfl) (.cons (.flat rfl) .nil))))))
abbrev sAsc : Stmt := topS 21
abbrev nAsc : List Str := ["_law_names", "_law_found", "_law_name", "_law_at", "_law_other"]
theorem scAsc : FnScope nAsc ["_law_names"] (defScope sAsc) := ⟨rfl, rfl, rfl, by decide +kernel, rfl, by decide +kernel, by decide +kernel⟩
def spAsc : Sp := fun vs H Q _ => ∃ (a : Addr) (xs : List Str), vs = [.ref a] ∧ H a = some (.lst (xs.map V.str)) ∧ xs.Nodup ∧ xs.length ≤ 100 ∧ ∀ (H' : Hp) (l : Addr) (ws : List Str), Same H H' → H l = none → H' l = some (.lst (ws.map V.str)) → Asc ws → (∀ x, x ∈ ws ↔ x ∈ xs) → Q (.ref l) H'
theorem ok_Asc {f  : Addr} {fd  : FuncData} (F : Fun K "_law_ascending" "_law_ascending" sAsc f fd) (B : Bt mg) :
    FnOk P w K mg base CX0 1 f fd ["_law_names"] spAsc := by
  refine F.ok scAsc (fun vs H Q E h => ?_) (fun cdv A outer s H vs Q E hr h => ?_)
  · obtain ⟨a, xs, rfl, _⟩ := h
    rfl
  · obtain ⟨a, xs, rfl, ea, nd0, l100, q⟩ := h
    have nd := scAsc.nd
    refine ⟨_, pss_cons (ps_set (i := 1) nd rfl (.inl rfl) (pe_lst pa_nil))
      (pss_cons (ps_for PassesOwn.never rfl (pi_list (pv 0)) (pg_name (i := 2) nd rfl (.inl rfl))
        (pss_cons (ps_set (i := 3) nd rfl (.inl rfl) pe_int)
          (pss_cons (ps_for PassesOwn.never rfl (pi_list (pv 1)) (pg_name (i := 4) nd rfl (.inl rfl))
            (pss_one (ps_if (pt_cmpR op_lt_str (pv 4) (pv 2) rfl)
                (pss_one (ps_set (i := 3) nd rfl (.inl rfl) (pe_op op_add (pv 3) pe_int)))
                pss_nil)))
          (pss_one (ps_set (i := 1) nd rfl (.inl rfl) (pe_op op_cat (pe_op op_cat (pe_slice sl_list (pv 1) po_none (po_some (pv 3))) (pe_lst (pa_cons (pv 2) pa_nil))) (pe_slice sl_list (pv 1) (po_some (pv 3)) po_none)))))))
      (pss_one (ps_ret (pv 1)))), ?_⟩
    refine ⟨by show 0 ≤ sizeLine; decide, fun L nL => ?_⟩
    have s0 := same_new (o := HO.lst []) nL
    refine ⟨_, rfl, a, rfl, ⟨_, sl_map (s0 _ _ ea)⟩, for_list (xs := xs.map V.str) (fun i σ H' => ∃ (L : Addr) (fs : List Str) (y2 y3 y4 : Option V), σ = [some (.ref a), some (.ref L), y2, y3, y4] ∧ Same H H' ∧ H L = none ∧ H' L = some (.lst (fs.map V.str)) ∧ Asc fs ∧ fs.length = i ∧ ∀ x, x ∈ fs ↔ x ∈ xs.take i)
      ⟨L, [], none, none, none, rfl, s0, nL, upd_same, .nil, rfl, fun x => Iff.rfl⟩ (fun i σ H' _ h => by obtain ⟨_, _, _, _, _, _, h, _⟩ := h; exact sl_map (h _ _ ea)) ?_ ?_⟩
    · rintro i x σ H1 hx ⟨L, fs, y2, y3, y4, rfl, s1, nL, eL, asc, fl, mem⟩
      rw [List.getElem?_map] at hx
      obtain ⟨x, hv, rfl⟩ := Option.map_eq_some_iff.mp hx
      have hi := (List.getElem?_eq_some_iff.mp hv).1
      have out : x ∉ fs := fun z => not_take nd0 hv ((mem x).mp z)
      refine ⟨_, rfl, L, rfl, ⟨_, sl_map eL⟩, for_list (xs := fs.map V.str) (fun j σ H' => ∃ y4 : Option V, σ = [some (.ref a), some (.ref L), some (.str x), some (.int (((fs.take j).filter (belB x)).length : Int)), y4] ∧ H' = H1)
        ⟨_, rfl, rfl⟩ (fun j σ H' _ h => by obtain ⟨_, _, rfl⟩ := h; exact sl_map eL) ?_ ?_⟩
      · rintro j y σ H2 hy ⟨y4, rfl, rfl⟩
        rw [List.getElem?_map] at hy
        obtain ⟨y, hw, rfl⟩ := Option.map_eq_some_iff.mp hy
        refine ⟨_, rfl, _, rfl, y, x, rfl, rfl, _, rfl, ite_both (fun c => ⟨_, rfl, _, 1, rfl, rfl, some (.str y), ?_, rfl⟩) fun c => ⟨some (.str y), ?_, rfl⟩⟩
        · rw [filter_snoc hw, if_pos c, List.length_append]
          rfl
        · rw [filter_snoc hw, if_neg (by rw [show belB x y = false from c]; decide), List.append_nil]
          rfl
      · rintro σ H2 ⟨y4, rfl, rfl⟩
        rw [List.length_map, List.take_length]
        obtain ⟨c, hc⟩ : ∃ c, c = (fs.filter (belB x)).length := ⟨_, rfl⟩
        rw [← hc]
        refine ⟨_, rfl, _, rfl, _, rfl, L, _, rfl, sl_map eL, fun p1 n1 => ?_⟩
        have t1 := same_new (o := HO.lst (cutV (fs.map V.str) none (some (c : Int)))) n1
        refine ⟨_, rfl, by show 1 ≤ sizeLine; decide, fun p2 n2 => ?_⟩
        have t2 := same_new (o := HO.lst [V.str x]) n2
        have cl : c ≤ fs.length := by rw [hc]; exact List.length_filter_le _ _
        have e1 : cutV (fs.map V.str) none (some (c : Int)) = (fs.take c).map V.str := by rw [cutV_to, List.map_take]
        have e2 : cutV (fs.map V.str) (some (c : Int)) none = (fs.drop c).map V.str := by rw [cutV_from, List.map_drop]
        refine ⟨p1, p2, _, _, rfl, rfl, t2 _ _ upd_same, upd_same, ?_, fun p3 n3 => ?_⟩
        · rw [e1, List.length_map, List.length_take]
          exact Nat.le_of_lt (small1000 (by show min c fs.length + 1 ≤ 1000; omega))
        have t3 := same_new (o := HO.lst (cutV (fs.map V.str) none (some (c : Int)) ++ [V.str x])) n3
        have t13 := (t1.trans t2).trans t3
        refine ⟨_, rfl, _, rfl, _, rfl, L, _, rfl, sl_map (t13 _ _ eL), fun p4 n4 => ?_⟩
        have t4 := same_new (o := HO.lst (cutV (fs.map V.str) (some (c : Int)) none)) n4
        refine ⟨p3, p4, _, _, rfl, rfl, t4 _ _ upd_same, upd_same, ?_, fun p5 n5 => ?_⟩
        · rw [e1, e2, List.length_append, List.length_map, List.length_map, List.length_take, List.length_drop]
          exact Nat.le_of_lt (small1000 (by show min c fs.length + 1 + (fs.length - c) ≤ 1000; omega))
        have t5 := same_new (o := HO.lst (cutV (fs.map V.str) none (some (c : Int)) ++ [V.str x] ++ cutV (fs.map V.str) (some (c : Int)) none)) n5
        have t15 := (t13.trans t4).trans t5
        refine ⟨p5, fs.take c ++ [x] ++ fs.drop c, _, _, _, rfl, s1.trans t15, s1.free ((t13.trans t4).free n5), ?_, ?_, ?_, fun y => ?_⟩
        · rw [upd_same, e1, e2, List.map_append, List.map_append] <;> rfl
        · rw [hc]
          exact asc_put asc out
        · rw [List.length_append, List.length_append, List.length_take, List.length_drop]
          show min c fs.length + 1 + (fs.length - c) = i + 1
          omega
        · rw [mem_put, List.take_add_one, hv, List.mem_append, mem y]
          show y = x ∨ _ ↔ _ ∨ y ∈ [x]
          rw [List.mem_singleton]
          exact or_comm
    · rintro σ H1 ⟨L, fs, y2, y3, y4, rfl, s1, nL, eL, asc, fl, mem⟩
      rw [List.length_map, List.take_length] at mem
      exact ⟨_, rfl, q H1 L fs s1 nL eL asc mem⟩
end
end K46

set_option Elab.async false
set_option linter.all false
set_option maxRecDepth 100000
set_option maxHeartbeats 4000000
namespace K46
open PySem PySem.Spec PyProof.Rows L2 Cs
section
variable {P : Program} {w : World} {K : PySem.W.Frag} {mg : Str → Option Value} {base : Heap}
abbrev sSwd : Stmt := topS 22
abbrev nSwd : List Str := ["_law_actual", "_law_expected", "_law_k"]
theorem scSwd : FnScope nSwd ["_law_actual", "_law_expected"] (defScope sSwd) := ⟨rfl, rfl, rfl, by decide +kernel, rfl, by decide +kernel, by decide +kernel⟩
def spSwd : Sp := fun vs H Q _ => ∃ (a e : Addr) (xs : List Str), vs = [.ref a, .ref e] ∧ H a = some (.lst (xs.map V.str)) ∧ H e = some (.lst (xs.map V.str)) ∧ xs.length ≤ 1000 ∧ Q (.bl true) H
theorem ok_Swd {f  : Addr} {fd  : FuncData} (F : Fun K "_law_same_words" "_law_same_words" sSwd f fd) (B : Bt mg) (zstr : mg "str" = none) :
    FnOk P w K mg base CX0 1 f fd ["_law_actual", "_law_expected"] spSwd := by
  refine F.ok scSwd (fun vs H Q E h => ?_) (fun cdv A outer s H vs Q E hr h => ?_)
  · obtain ⟨a, e, xs, rfl, _⟩ := h
    rfl
  · obtain ⟨a, e, xs, rfl, ea, ee, l1000, q⟩ := h
    have nd := scSwd.nd
    refine ⟨_, pss_cons (ps_if (PW.pt (pw_or (pt_not (pt_val (pe_callB call_isi (by rfl) B.isi PyProof.Rows.boot_isinstance (pa_cons (pv 0) (pa_cons (pe_bltn (by rfl) B.list PyProof.Rows.boot_list (v := .ty "list") rfl) pa_nil))))) (pw_or1 (pt_cmpR op_ne (pe_callB call_len_seq (by rfl) B.len PySem.boot_len (pa_cons (pv 0) pa_nil)) (pe_callB call_len_seq (by rfl) B.len PySem.boot_len (pa_cons (pv 1) pa_nil)) rfl))))
        (pss_one (ps_ret pe_bl))
        pss_nil)
      (pss_cons (ps_for PassesOwn.never rfl (pi_range1 (by rfl) B.range (pa_cons (pe_callB call_len_seq (by rfl) B.len PySem.boot_len (pa_cons (pv 1) pa_nil)) pa_nil)) (pg_name (i := 2) nd rfl (.inl rfl))
        (pss_one (ps_if (PW.pt (pw_or (pt_not (pt_val (pe_callB call_isi (by rfl) B.isi PyProof.Rows.boot_isinstance (pa_cons (pe_ix ix_list (pv 0) (pv 2) (fun _ _ => rfl)) (pa_cons (pe_bltn (by rfl) zstr PyProof.Rows.boot_str (v := .ty "str") rfl) pa_nil))))) (pw_or1 (pt_cmpR op_ne (pe_ix ix_list (pv 0) (pv 2) (fun _ _ => rfl)) (pe_ix ix_list (pv 1) (pv 2) (fun _ _ => rfl)) rfl))))
            (pss_one (ps_ret pe_bl))
            pss_nil)))
      (pss_one (ps_ret pe_bl))), ?_⟩
    refine ⟨.ref a, rfl, .ref a, .ty "list", .type "list", .type "list", true, rfl, .ty _, .base (.lst ea), kit_ty (by decide +kernel), true, rfl, iteF ?_⟩
    refine ⟨_, rfl, a, _, rfl, .inl (sl_map ea), _, rfl, e, _, rfl, .inl (sl_map ee), rfl, _, rfl, ite_both (fun c => by simp at c) fun _ => ?_⟩
    refine ⟨_, rfl, e, _, rfl, .inl (sl_map ee), _, rfl, by omega, ?_, ?_⟩
    · rw [List.length_map]; omega
    rw [List.length_map, Int.toNat_natCast]
    refine for_range (lo := 0) (fun i σ H' => ∃ y2, σ = [some (.ref a), some (.ref e), y2] ∧ H' = H) ⟨none, rfl, rfl⟩ ?_ ?_
    · rintro i σ H1 hi ⟨y2, rfl, rfl⟩
      obtain ⟨x, hx⟩ : ∃ x, xs[i]? = some x := ⟨xs[i], List.getElem?_eq_getElem (by omega)⟩
      have ax : atI (xs.map V.str) (0 + (i : Int)) = some (.str x) := by rw [Int.zero_add]; exact atI_nat (j := i) (by rw [List.getElem?_map, hx] <;> rfl)
      refine ⟨_, rfl, _, rfl, a, _, _, .str x, rfl, rfl, sl_map ea, ax, .str x, .ty "str", .type "str", .type "str", true, rfl, .ty _, .base (.str _), kit_ty (by decide +kernel), true, rfl, iteF ?_⟩
      exact ⟨_, rfl, _, rfl, a, _, _, .str x, rfl, rfl, sl_map ea, ax, _, rfl, _, rfl, e, _, _, .str x, rfl, rfl, sl_map ee, ax, rfl, _, rfl, ite_both (fun c => by simp at c) fun _ => ⟨_, rfl, rfl⟩⟩
    · rintro σ H1 ⟨y2, rfl, rfl⟩
      exact q
abbrev sRst : Stmt := topS 23
abbrev nRst : List Str := ["_law_line", "_law_rests_here", "_law_found", "_law_key"]
theorem scRst : FnScope nRst ["_law_line", "_law_rests_here"] (defScope sRst) := ⟨rfl, rfl, rfl, by decide +kernel, rfl, by decide +kernel, by decide +kernel⟩
def spRst : Sp := fun vs H Q _ => ∃ (a R : Addr) (ln : Ln) (gs : List (Addr × List Str)) (ks : List Str), vs = [.ref a, .ref R] ∧ LnAt H a ln ∧ H R = some (.lst (gs.map fun g => V.ref g.1)) ∧ (∀ g ∈ gs, H g.1 = some (.lst (g.2.map V.str)) ∧ Asc g.2 ∧ ∀ x ∈ g.2, x ∈ ks) ∧ ks.length ≤ 40 ∧ Back gs.length ln ∧
  ∀ (H' : Hp) (l : Addr) (ws : List Str), Same H H' → H l = none → H' l = some (.lst (ws.map V.str)) → Asc ws → (∀ x, x ∈ ws ↔ From (gs.map (·.2)) ln x) → Q (.ref l) H'
theorem ok_Rst {f f0 : Addr} {fd fd0 : FuncData} (F : Fun K "_law_rests" "_law_rests" sRst f fd) (B : Bt mg) (CAsc : Call P w K mg base 1 "_law_ascending" f0 fd0 ["_law_names"] spAsc) :
    FnOk P w K mg base CX0 2 f fd ["_law_line", "_law_rests_here"] spRst := by
  refine F.ok scRst (fun vs H Q E h => ?_) (fun cdv A outer s H vs Q E hr h => ?_)
  · obtain ⟨a, R, ln, gs, ks, rfl, _⟩ := h
    rfl
  · obtain ⟨a, R, ln, gs, ks, rfl, at_, eR, eg, k40, back, q⟩ := h
    have nd := scRst.nd
    refine ⟨_, pss_cons (ps_if (pt_cmpR op_eq (pe_ix ix_tup (pv 0) pe_int (fun _ _ => rfl)) pe_str rfl)
        (pss_one (ps_ret (pe_lst (pa_cons (pe_ix ix_tup (pv 0) pe_int (fun _ _ => rfl)) pa_nil))))
        pss_nil)
      (pss_cons (ps_set (i := 2) nd rfl (.inl rfl) (pe_lst pa_nil))
      (pss_cons (ps_if (pt_cmpR op_eq (pe_ix ix_tup (pv 0) pe_int (fun _ _ => rfl)) pe_str rfl)
        (pss_one (ps_for PassesOwn.never rfl (pi_list (pe_op op_cat (pe_ix ix_list (pv 1) (pe_op op_sub (pe_ix ix_tup (pv 0) pe_int (fun _ _ => rfl)) pe_int) (fun _ _ => rfl)) (pe_ix ix_list (pv 1) (pe_op op_sub (pe_ix ix_tup (pv 0) pe_int (fun _ _ => rfl)) pe_int) (fun _ _ => rfl)))) (pg_name (i := 3) nd rfl (.inl rfl))
            (pss_one (ps_if (pt_cmpR (r := rIn K true) op_notIn_seq (pv 3) (pv 2) rfl)
                (pss_one (ps_expr (pe_bm PySem.F.plainAttrs_list PySem.F.slot_list_append PySem.F.type_list_append mt_append (pv 2) (pa_cons (pv 3) pa_nil))))
                pss_nil))))
        pss_nil)
      (pss_one (ps_ret (pe_call CAsc.ok (hr.mono (by decide)) (by rfl) CAsc.at_ CAsc.kp CAsc.bd .nil pass0 (pa_cons (pv 2) pa_nil)))))), ?_⟩
    cases ln with
    | rule key =>
      obtain ⟨d, c, e⟩ := at_
      have tt : SqT K H a [.str "rule", .ref d, .str key, .ref c] := .inl (.inl e)
      refine ⟨_, rfl, a, _, _, .str "rule", rfl, rfl, tt, atI_nat (j := 0) rfl, rfl, _, rfl, ite_both (fun _ => ?_) self_⟩
      refine ⟨_, rfl, a, _, _, .str key, rfl, rfl, tt, atI_nat (j := 2) rfl, by show 1 ≤ sizeLine; decide, fun l nl => ?_⟩
      exact q _ l [key] (same_new nl) nl upd_same (List.pairwise_singleton _ _) fun x => List.mem_singleton
    | void =>
      obtain ⟨d, x, e⟩ := at_
      have tt : SqT K H a [.str "void", .ref d, .str x] := .inl (.inl e)
      refine ⟨_, rfl, a, _, _, .str "void", rfl, rfl, tt, atI_nat (j := 0) rfl, rfl, _, rfl, ite_both (other (by decide)) fun _ => ?_⟩
      refine ⟨by show 0 ≤ sizeLine; decide, fun L nL => ?_⟩
      have s0 := same_new (o := HO.lst []) nL
      refine ⟨_, rfl, a, _, _, .str "void", rfl, rfl, .inl (.inl (s0 _ _ e)), atI_nat (j := 0) rfl, rfl, _, rfl, ite_both (other (by decide)) fun _ => ?_⟩
      refine ⟨_, rfl, L, [], rfl, upd_same, List.nodup_nil, Nat.zero_le _, fun H' l ws s nl el asc mem => q H' l ws (s0.trans s) (s0.free nl) el asc fun x => (mem x).trans ⟨fun z => (nomatch z), fun z => z.elim⟩⟩
    | join i j =>
      obtain ⟨d, x, e⟩ := at_
      have tt : SqT K H a [.str "join", .ref d, .str x, .int (i : Int), .int (j : Int)] := .inl (.inl e)
      obtain ⟨i1, i2, j1, j2⟩ : 1 ≤ i ∧ i ≤ gs.length ∧ 1 ≤ j ∧ j ≤ gs.length := back
      obtain ⟨g1, hg1⟩ : ∃ g, gs[i - 1]? = some g := ⟨gs[i - 1], List.getElem?_eq_getElem (by omega)⟩
      obtain ⟨g2, hg2⟩ : ∃ g, gs[j - 1]? = some g := ⟨gs[j - 1], List.getElem?_eq_getElem (by omega)⟩
      obtain ⟨e1, as1, m1⟩ := eg g1 (List.mem_of_getElem? hg1)
      obtain ⟨e2, as2, m2⟩ := eg g2 (List.mem_of_getElem? hg2)
      have l1 := len_le as1.nd m1
      have l2 := len_le as2.nd m2
      refine ⟨_, rfl, a, _, _, .str "join", rfl, rfl, tt, atI_nat (j := 0) rfl, rfl, _, rfl, ite_both (other (by decide)) fun _ => ?_⟩
      refine ⟨by show 0 ≤ sizeLine; decide, fun L nL => ?_⟩
      have s0 := same_new (o := HO.lst []) nL
      have tt0 : SqT K (upd H L (.lst [])) a [.str "join", .ref d, .str x, .int (i : Int), .int (j : Int)] := .inl (.inl (s0 _ _ e))
      refine ⟨_, rfl, a, _, _, .str "join", rfl, rfl, tt0, atI_nat (j := 0) rfl, rfl, _, rfl, ?_⟩
      refine' with_restS (fun σ H' => ∃ (fs : List Str) (y3 : Option V), σ = [some (.ref a), some (.ref R), some (.ref L), y3] ∧ Same H H' ∧ H' L = some (.lst (fs.map V.str)) ∧ fs.Nodup ∧ fs.length ≤ 80 ∧ ∀ x, x ∈ fs ↔ x ∈ g1.2 ++ g2.2) ?r (fun rest => ite_both (fun _ => ?loop) self_)
      case' loop =>
        have eR0 := s0 _ _ eR
        refine ⟨_, rfl, _, rfl, a, _, _, .int (i : Int), rfl, rfl, tt0, atI_nat (j := 3) rfl, (i : Int), 1, rfl, rfl, R, _, _, .ref g1.1, rfl, rfl, sl_map eR0, at_eq (j := i - 1) (by omega) (by rw [List.getElem?_map, hg1] <;> rfl), ?_⟩
        refine ⟨_, rfl, _, rfl, a, _, _, .int (j : Int), rfl, rfl, tt0, atI_nat (j := 4) rfl, (j : Int), 1, rfl, rfl, R, _, _, .ref g2.1, rfl, rfl, sl_map eR0, at_eq (j := j - 1) (by omega) (by rw [List.getElem?_map, hg2] <;> rfl), ?_⟩
        refine ⟨g1.1, g2.1, _, _, rfl, rfl, s0 _ _ e1, s0 _ _ e2, ?_, fun p np => ?_⟩
        · rw [List.length_map, List.length_map]
          exact Nat.le_of_lt (small1000 (by omega))
        rw [← List.map_append]
        have s1 := s0.trans (same_new (o := HO.lst ((g1.2 ++ g2.2).map V.str)) np)
        have pL : p ≠ L := fun z => by rw [z, upd_same] at np; cases np
        refine ⟨p, rfl, ⟨_, sl_map upd_same⟩, for_list (xs := (g1.2 ++ g2.2).map V.str) (fun i σ H' => ∃ (fs : List Str) (y3 : Option V), σ = [some (.ref a), some (.ref R), some (.ref L), y3] ∧ Same H H' ∧ H' p = some (.lst ((g1.2 ++ g2.2).map V.str)) ∧ H' L = some (.lst (fs.map V.str)) ∧ fs.Nodup ∧ fs.length ≤ i ∧ ∀ x, x ∈ fs ↔ x ∈ (g1.2 ++ g2.2).take i)
          ⟨[], none, rfl, s1, upd_same, by rw [upd_ne pL.symm]; exact upd_same, List.nodup_nil, Nat.le_refl _, fun x => Iff.rfl⟩ (fun i σ H' _ h => by obtain ⟨_, _, _, _, h, _⟩ := h; exact sl_map h) ?_ ?_⟩
        · rintro n z σ H1 hz ⟨fs, y3, rfl, s1, ep, eL, ndf, fl, mem⟩
          rw [List.getElem?_map] at hz
          obtain ⟨z, hv, rfl⟩ := Option.map_eq_some_iff.mp hz
          have hn := (List.getElem?_eq_some_iff.mp hv).1
          rw [List.length_append] at hn
          refine ⟨_, rfl, _, rfl, L, _, rfl, .inl (sl_map eL), rfl, flats_str _, _, rfl, ite_both (fun c => ?_) fun c => ?_⟩
          · have out : z ∉ fs := by
              rw [in_strs] at c
              simpa using c
            refine ⟨_, rfl, .inl ⟨rfl, _, sl_map eL⟩, _, rfl, L, _, _, rfl, rfl, eL, by rw [List.length_map]; exact small1000 (by omega), fs ++ [z], _, rfl, same_at s1 nL, by rw [upd_ne pL]; exact ep, ?_, nd_snoc ndf out, by rw [List.length_append]; show fs.length + 1 ≤ n + 1; omega, fun y => ?_⟩
            · rw [upd_same, List.map_append] <;> rfl
            · rw [List.mem_append, List.take_add_one, hv, List.mem_append, mem y]
              exact Iff.rfl
          · have inn : z ∈ fs := by
              rw [in_strs] at c
              simpa using c
            refine ⟨fs, _, rfl, s1, ep, eL, ndf, by omega, fun y => ?_⟩
            rw [List.take_add_one, hv, List.mem_append, mem y]
            constructor
            · exact .inl
            · rintro (t | t)
              · exact t
              · rw [show y = z by simpa using t]
                exact (mem z).mp inn
        · rintro σ H1 ⟨fs, y3, rfl, s1, ep, eL, ndf, fl, mem⟩
          rw [List.length_map, List.length_append] at fl
          rw [List.length_map, List.take_length] at mem
          exact rest _ _ ⟨fs, y3, rfl, s1, eL, ndf, by omega, mem⟩
      case r =>
        rintro σ H2 ⟨fs, y3, rfl, s2, eL, ndf, fl, mem⟩
        refine ⟨_, rfl, L, fs, rfl, eL, ndf, by omega, fun H' l ws s nl el asc mw => q H' l ws (s2.trans s) (s2.free nl) el asc fun x => ?_⟩
        rw [mw x, mem x, List.mem_append]
        show _ ↔ x ∈ (gs.map (·.2)).getD (i - 1) [] ∨ x ∈ (gs.map (·.2)).getD (j - 1) []
        rw [List.getD_eq_getElem?_getD, List.getD_eq_getElem?_getD, List.getElem?_map, List.getElem?_map, hg1, hg2]
        exact Iff.rfl
end
end K46

set_option Elab.async false
set_option linter.all false
set_option maxRecDepth 100000
set_option maxHeartbeats 4000000
namespace K46
open PySem PySem.Spec PyProof.Rows L2 Cs CsX
section
variable {P : Program} {w : World} {K : PySem.W.Frag} {mg : Str → Option Value} {base : Heap}
abbrev sUsd : Stmt := topS 7
abbrev nUsd : List Str := ["lines", "number", "used", "each", "line"]
theorem scUsd : FnScope nUsd ["lines", "number"] (defScope sUsd) := ⟨rfl, rfl, rfl, by decide +kernel, rfl, by decide +kernel, by decide +kernel⟩
def spUsd : Sp := fun vs H Q _ => ∃ (L : Addr) (as : List (Addr × Ln)) (rs : List (List Str)) (n : Nat), vs = [.ref L, .int (n : Int)] ∧ Lns H L as ∧ Rests (as.map (·.2)) rs ∧ 1 ≤ n ∧ n ≤ as.length ∧ as.length ≤ 1600 ∧
  ∀ (H' : Hp) (l : Addr) (us : List Int), Same H H' → H l = none → H' l = some (.lst (us.map V.int)) → (∀ u ∈ us, 1 ≤ u ∧ u ≤ n) → us.length ≤ 4000 → (∀ x, x ∈ rs.getD (n - 1) [] ↔ ∃ m : Nat, (m : Int) ∈ us ∧ 1 ≤ m ∧ (as.map (·.2))[m - 1]? = some (.rule x)) → Q (.ref l) H'
theorem ok_Usd {f : Addr} {fd : FuncData} (F : Fun K "_used_by" "_used_by" sUsd f fd) (B : Bt mg) (zrev : mg "reversed" = none) : FnOk P w K mg base CX0 1 f fd ["lines", "number"] spUsd := by
  refine okC F scUsd (fun vs H Q E h => ?_) (fun cdv A outer s H vs Q E hcd hr h => ?_)
  · obtain ⟨L, as, rs, n, rfl, _⟩ := h
    rfl
  · obtain ⟨L, as, rs, n, rfl, hL, R, n1, n2, few, q⟩ := h
    have nd := scUsd.nd
    refine ⟨_, pss_cons (ps_if (PW.pt (pw_or (pt_cmpR op_lt (pv 1) pe_int rfl) (pw_or1 (pt_cmpR op_gt (pv 1) (pe_callB call_len_seq (by rfl) B.len PySem.boot_len (pa_cons (pv 0) pa_nil)) rfl))))
        pss_any
        pss_nil)
      (pss_cons (ps_set (i := 2) nd rfl (.inl rfl) (pe_setOne (pv 1) hcd))
      (pss_cons (ps_for PassesOwn.never rfl (pi_revR (by rfl) zrev (prg_2 (by rfl) B.range pe_int (pe_op op_add (pv 1) pe_int))) (pg_name (i := 3) nd rfl (.inl rfl))
        (pss_cons (ps_set (i := 4) nd rfl (.inl rfl) (pe_ix ix_list (pv 0) (pe_op op_sub (pv 3) pe_int) (fun _ _ => rfl)))
          (pss_one (ps_if (PW.pt (pw_and (pt_cmpR or_sin (pv 3) (pv 2) rfl) (pw_and1 (pt_cmpR op_eq (pe_ix ix_tup (pv 4) pe_int (fun _ _ => rfl)) pe_str rfl))))
            (pss_cons (ps_expr (pe_sadd (pv 2) (pa_cons (pe_ix ix_tup (pv 4) pe_int (fun _ _ => rfl)) pa_nil)))
              (pss_one (ps_expr (pe_sadd (pv 2) (pa_cons (pe_ix ix_tup (pv 4) pe_int (fun _ _ => rfl)) pa_nil)))))
            pss_nil))))
      (pss_one (ps_ret (pe_callB (cr_sortedN rfl) (by rfl) B.sorted PyProof.Rows.boot_sorted (pa_cons (pv 2) pa_nil)))))), ?_⟩
    have sb : scanBound = 4096 := rfl
    refine ⟨_, rfl, _, _, rfl, rfl, _, rfl, ite_both (fun c => by have := of_decide_eq_true c; omega) fun _ => ?_⟩
    refine ⟨_, rfl, _, rfl, L, _, rfl, .inl (sl_map hL.1), _, _, rfl, rfl, _, rfl, ite_both (fun c => by have := of_decide_eq_true c; rw [List.length_map] at this; omega) fun _ => ?_⟩
    intro D nD
    have s0 := same_new (o := SetO w D noI 0) nD
    refine ⟨_, rfl, (n : Int), rfl, upd_same, ?_⟩
    refine ⟨_, rfl, (n : Int), 1, rfl, rfl, 1, (n : Int) + 1, rfl, rfl, by decide, by decide, by omega, by omega, ?_⟩
    have e0 : ((n : Int) + 1 - 1).toNat = n := by omega
    rw [e0]
    have s00 : Same H (upd (upd H D (SetO w D noI 0)) D (SetO w D (fun j => decide (j = (n : Int))) 1)) := same_at s0 nD
    refine for_it walk_rangeC (fun i σ H' => ∃ (U : Int → Bool) (c : Nat) (y3 y4 : Option V), i ≤ n ∧ σ = [some (.ref L), some (.int (n : Int)), some (.ref D), y3, y4] ∧ Same H H' ∧ H' D = some (SetO w D U c) ∧ c ≤ 1 + 2 * i ∧ Seen (as.map (·.2)) rs n (n - i) U)
      ⟨_, 1, none, none, Nat.zero_le _, rfl, s00, upd_same, Nat.le_refl _, Seen.start n1⟩ (fun _ _ _ _ _ => trivial) ?_ ?_
    · rintro i x σ H3 H4 hlt ⟨U, c, y3, y4, _, rfl, s3, eD, cl, seen⟩ ⟨rfl, ex⟩
      obtain ⟨k, hk⟩ : ∃ k, n = k + 1 + i := ⟨n - 1 - i, by omega⟩
      obtain rfl : x = V.int ((k + 1 : Nat) : Int) := ex.trans (by show V.int (1 + ((n : Nat) : Int) - 1 + ((i : Nat) : Int) * -1) = V.int ((k + 1 : Nat) : Int); congr 1; omega)
      obtain ⟨a, ha⟩ : ∃ a, as[k]? = some a := ⟨as[k], List.getElem?_eq_getElem (by omega)⟩
      have am := List.mem_of_getElem? ha
      have aL := s3 _ _ hL.1
      have la : (as.map (·.2))[k]? = some a.2 := by rw [List.getElem?_map, ha] <;> rfl
      have at_ := (hL.2 a am).same s3
      have seen' : Seen (as.map (·.2)) rs n (k + 1) U := by rw [show n - i = k + 1 by omega] at seen; exact seen
      have nk : n - (i + 1) = k := by omega
      refine ⟨_, rfl, _, rfl, ((k + 1 : Nat) : Int), 1, rfl, rfl, L, _, _, .ref a.1, rfl, rfl, sl_map aL, at_eq (j := k) (by omega) (by rw [List.getElem?_map, ha] <;> rfl), ?_⟩
      refine ⟨_, rfl, _, rfl, ((k + 1 : Nat) : Int), D, U, c, rfl, rfl, eD, _, rfl, ite_both (fun c1 => ?_) fun c1 => iteF ⟨U, c, _, _, by omega, rfl, s3, eD, by omega, by rw [nk]; exact seen'.skip c1⟩⟩
      have stay : (∀ p q, a.2 ≠ .join p q) → Seen (as.map (·.2)) rs n k U := fun nj => seen'.plain R la nj c1
      obtain ⟨a, ln⟩ := a
      cases ln with
      | void =>
        obtain ⟨d, x, e⟩ := at_
        refine ⟨_, rfl, a, _, _, .str "void", rfl, rfl, .inl (.inl e), atI_nat (j := 0) rfl, rfl, _, rfl, ite_both (other (by decide)) fun _ => ?_⟩
        exact ⟨U, c, _, _, by omega, rfl, s3, eD, by omega, by rw [nk]; exact stay fun _ _ z => nomatch z⟩
      | rule key =>
        obtain ⟨d, x, e⟩ := at_
        refine ⟨_, rfl, a, _, _, .str "rule", rfl, rfl, .inl (.inl e), atI_nat (j := 0) rfl, rfl, _, rfl, ite_both (other (by decide)) fun _ => ?_⟩
        exact ⟨U, c, _, _, by omega, rfl, s3, eD, by omega, by rw [nk]; exact stay fun _ _ z => nomatch z⟩
      | join p q' =>
        obtain ⟨d, x, e⟩ := at_
        have tt : SqT K H4 a [.str "join", .ref d, .str x, .int (p : Int), .int (q' : Int)] := .inl (.inl e)
        have aD : a ≠ D := fun z => by rw [z, eD] at e; cases e
        refine ⟨_, rfl, a, _, _, .str "join", rfl, rfl, tt, atI_nat (j := 0) rfl, rfl, _, rfl, ite_both (fun _ => ?_) self_⟩
        refine ⟨_, rfl, ⟨D, U, c, rfl, eD⟩, _, rfl, a, _, _, .int (p : Int), rfl, rfl, tt, atI_nat (j := 3) rfl, D, (p : Int), U, c, rfl, rfl, eD, by omega, ?_⟩
        have e2 : (upd H4 D (SetO w D (fun j => U j || decide (j = (p : Int))) (if U (p : Int) = true then c else c + 1))) a = some (.tup [.str "join", .ref d, .str x, .int (p : Int), .int (q' : Int)]) := by rw [upd_ne aD]; exact e
        refine ⟨_, rfl, ⟨D, _, _, rfl, upd_same⟩, _, rfl, a, _, _, .int (q' : Int), rfl, rfl, .inl (.inl e2), atI_nat (j := 4) rfl, D, (q' : Int), _, _, rfl, rfl, upd_same, ?_, ?_⟩
        · split <;> omega
        refine ⟨_, _, _, _, by omega, rfl, same_at (same_at s3 nD) nD, upd_same, ?_, by rw [nk]; exact seen'.join R la c1 (by omega)⟩
        split <;> split <;> omega
    · rintro σ H3 ⟨U, c, y3, y4, _, rfl, s3, eD, cl, seen⟩
      rw [Nat.sub_self] at seen
      refine ⟨_, rfl, D, U, c, rfl, eD, by omega, fun us p asc mem len np => ?_⟩
      refine q _ p us (s3.trans (same_new np)) (s3.free np) upd_same (fun u hu => seen.low u ((mem u).mp hu)) (by omega) fun x => (seen.done x).trans ?_
      constructor
      · rintro ⟨m, h1, h2, h3⟩
        exact ⟨m, (mem _).mpr h2, h1, h3⟩
      · rintro ⟨m, h1, h2, h3⟩
        exact ⟨m, h2, (mem _).mp h1, h3⟩
end
end K46

set_option Elab.async false
set_option linter.all false
set_option maxRecDepth 100000
set_option maxHeartbeats 4000000
namespace K46
open PySem PySem.Spec PyProof.Rows L2 Cs CsX
/-- a walk over a list that stands -/
theorem walkL {K : PySem.W.Frag} {a : Addr} {xs : List V} {B : V → Hp → (Hp → Prop) → Prop} {Qd : Hp → Prop} {H0 : Hp} (Pv : Nat → Hp → Prop) (h0 : Pv 0 H0) (hl : ∀ i H, i ≤ xs.length → Pv i H → SqL K H a xs)
    (hs : ∀ i x H, xs[i]? = some x → Pv i H → B x H (Pv (i + 1))) (hd : ∀ H, Pv xs.length H → Qd H) :
    ∃ W : Nat → Nat → Hp → Prop, (∃ m, W 0 m H0) ∧ ∀ i m H, W i m H → ((Itl K a).stop i H ∧ Qd H) ∨ ((Itl K a).go i H ∧ ∃ Nx : Hp → Prop, (∀ H', Nx H' → ∃ m', m' < m ∧ W (i + 1) m' H') ∧ ∀ x H', (Itl K a).yld i H x H' → B x H' Nx) := by
  refine ⟨fun i m H => m + i = xs.length ∧ Pv i H, ⟨xs.length, rfl, h0⟩, ?_⟩
  rintro i m H ⟨e, p⟩
  have q := hl i H (by omega) p
  cases m with
  | zero =>
    rw [Nat.zero_add] at e
    subst e
    exact .inl ⟨⟨xs, q, Nat.le_refl _⟩, hd H p⟩
  | succ m =>
    have lt : i < xs.length := by omega
    refine .inr ⟨⟨xs, xs[i], q, List.getElem?_eq_getElem lt⟩, Pv (i + 1), fun H' p' => ⟨m, Nat.lt_succ_self m, by omega, p'⟩, ?_⟩
    rintro x H' ⟨rfl, y⟩
    exact hs i x _ (y xs q) p
abbrev lineAt (as : List (Addr × Ln)) (u : Int) : Addr × Ln := as.getD (u.toNat - 1) (0, .void)
section
variable {P : Program} {w : World} {K : PySem.W.Frag} {mg : Str → Option Value} {base : Heap}
abbrev sRon : Stmt := topS 6
abbrev nRon : List Str := ["lines", "number", "used", "each", "line"]
theorem scRon : FnScope nRon ["lines", "number"] (defScope sRon) := ⟨rfl, rfl, rfl, by decide +kernel, rfl, by decide +kernel, by decide +kernel⟩
def spRon : Sp := fun vs H Q _ => ∃ (L : Addr) (as : List (Addr × Ln)) (rs : List (List Str)) (n : Nat), vs = [.ref L, .int (n : Int)] ∧ Lns H L as ∧ Rests (as.map (·.2)) rs ∧ 1 ≤ n ∧ n ≤ as.length ∧ as.length ≤ 1600 ∧
  ∀ (H' : Hp) (l : Addr), Same H H' → H l = none → H' l = some (.lst ((rs.getD (n - 1) []).map V.str)) → Q (.ref l) H'
theorem ok_Ron {f f0 : Addr} {fd fd0 : FuncData} (F : Fun K "rests_on" "rests_on" sRon f fd) (B : Bt mg) (Cus : Call P w K mg base 1 "_used_by" f0 fd0 ["lines", "number"] spUsd) :
    FnOk P w K mg base CX0 2 f fd ["lines", "number"] spRon := by
  refine F.ok scRon (fun vs H Q E h => ?_) (fun cdv A outer s H vs Q E hr h => ?_)
  · obtain ⟨L, as, rs, n, rfl, _⟩ := h
    rfl
  · obtain ⟨L, as, rs, n, rfl, hL, R, n1, n2, few, q⟩ := h
    have nd := scRon.nd
    refine ⟨_, pss_cons (ps_setLc (i := 2) (own := [("each", 3)]) (g := gName 3) (tt := tYes)  rfl nd rfl rfl (by rfl) (pi_list (pe_call Cus.ok (hr.mono (by decide)) (by rfl) Cus.at_ Cus.kp Cus.bd .nil pass0 (pa_cons (pv 0) (pa_cons (pv 1) pa_nil)))) (blkOk_by (N := nRon) (sc := defScope sRon) (by decide +kernel)) (fun _ _ _ _ _ => pg_name (i := 3) nd rfl (.inl rfl)) (fun _ _ _ _ _ => pts_nil)
          (fun _ _ _ _ _ => (pe_ix (r := rIxL K) ix_list (pv 0) (pe_op op_sub (pv 3) pe_int) (fun _ _ => rfl))))
      (pss_one (ps_ret (pe_callB (cr_sortedW rfl) (by rfl) B.sorted PyProof.Rows.boot_sorted (pa_cons (pe_scW (own := [("line", 4)]) (g := gName 4) (tt := _) (te := tOp (rIxT K) (tVar 4) (tC (.int 2))) rfl nd (pi_list (pv 2)) (blkOk_by (N := nRon) (sc := defScope sRon) (by decide +kernel)) (fun _ _ _ _ _ => pg_name (i := 4) nd rfl (.inl rfl)) (fun _ _ _ _ _ => pts_one (pt_cmpR op_eq (pe_ix (r := rIxT K) ix_tup (pv 4) pe_int (fun _ _ => rfl)) pe_str rfl)) (fun _ _ _ _ _ => pe_ix (r := rIxT K) ix_tup (pv 4) pe_int (fun _ _ => rfl))) pa_nil)))), ?_⟩
    have sb : scanBound = 4096 := rfl
    refine ⟨_, rfl, _, rfl, L, as, rs, n, rfl, hL, R, n1, n2, few, fun H1 u us s1 nu eu ub ul mem => ⟨u, rfl, ⟨_, sl_map eu⟩, fun T nT => ?_⟩⟩
    have at_ : ∀ v ∈ us, as[v.toNat - 1]? = some (lineAt as v) := fun v hv => by
      obtain ⟨b1, b2⟩ := ub v hv
      have : v.toNat - 1 < as.length := by omega
      show _ = some (as.getD _ _)
      rw [List.getD_eq_getElem?_getD, List.getElem?_eq_getElem this] <;> rfl
    have lm : ∀ v ∈ us, lineAt as v ∈ as := fun v hv => List.mem_of_getElem? (at_ v hv)
    refine lc_list (xs := us.map V.int) (fun i H' => Same H1 H' ∧ H' T = some (.lst ((us.take i).map fun v => V.ref (lineAt as v).1))) ⟨same_new nT, upd_same⟩ (fun i H' _ h => sl_map (h.1 _ _ eu)) ?_ ?_
    · rintro i x H2 hx ⟨s2, eT⟩
      rw [List.getElem?_map] at hx
      obtain ⟨v, hv, rfl⟩ := Option.map_eq_some_iff.mp hx
      have vm := List.mem_of_getElem? hv
      have hi := (List.getElem?_eq_some_iff.mp hv).1
      obtain ⟨b1, b2⟩ := ub v vm
      refine ⟨rfl, _, rfl, _, rfl, v, 1, rfl, rfl, L, _, v - 1, .ref (lineAt as v).1, rfl, rfl, sl_map ((s1.trans s2) _ _ hL.1), at_eq (j := v.toNat - 1) (by omega) (by rw [List.getElem?_map, at_ v vm] <;> rfl), _, eT, ?_, same_at s2 nT, ?_⟩
      · rw [List.length_map, List.length_take]
        exact small10k (by omega)
      · rw [upd_same, List.take_add_one, hv, List.map_append] <;> rfl
    rintro H2 ⟨s2, eT⟩
    rw [List.length_map, List.take_length] at eT
    have s12 := s1.trans s2
    refine ⟨_, rfl, T, rfl, ⟨_, sl_map eT⟩, fun D nD => ?_⟩
    have s3 := same_new (o := SetW P w D noK 0) nD
    refine walkL (xs := us.map fun v => V.ref (lineAt as v).1) (fun i H' => ∃ (S : Key → Bool) (c : Nat), Same H2 H' ∧ H' D = some (SetW P w D S c) ∧ c ≤ i ∧ (∀ k : Int, S (.inl k) = false) ∧ ∀ x, S (.inr x) = true ↔ ∃ v ∈ us.take i, (lineAt as v).2 = .rule x)
      ⟨noK, 0, s3, upd_same, Nat.le_refl _, fun _ => rfl, fun x => ⟨fun z => (nomatch z), fun ⟨v, hv, _⟩ => (nomatch hv)⟩⟩ (fun i H' _ h => by obtain ⟨_, _, h, _⟩ := h; exact sl_map (h _ _ eT)) ?_ ?_
    · rintro i x H3 hx ⟨S, c, s3, eD, cl, noi, txt⟩
      rw [List.getElem?_map] at hx
      obtain ⟨v, hv, rfl⟩ := Option.map_eq_some_iff.mp hx
      have vm := List.mem_of_getElem? hv
      have hi := (List.getElem?_eq_some_iff.mp hv).1
      have la := (hL.2 _ (lm v vm)).same (s12.trans s3)
      have skip : (∀ x, (lineAt as v).2 ≠ .rule x) → ∀ x, S (.inr x) = true ↔ ∃ v ∈ us.take (i + 1), (lineAt as v).2 = .rule x := fun nr x => by
        rw [txt x, List.take_add_one, hv]
        constructor
        · rintro ⟨z, hz, e⟩
          exact ⟨z, List.mem_append_left _ hz, e⟩
        · rintro ⟨z, hz, e⟩
          rcases List.mem_append.mp hz with t | t
          · exact ⟨z, t, e⟩
          · rw [show z = v by simpa using t] at e
            exact absurd e (nr x)
      have e0 := la
      generalize hz : lineAt as v = z at la skip
      obtain ⟨a, ln⟩ := z
      cases ln with
      | void =>
        obtain ⟨d, x, e⟩ := la
        refine ⟨rfl, _, rfl, a, _, _, .str "void", rfl, rfl, .inl (.inl e), atI_nat (j := 0) rfl, rfl, _, rfl, ite_both (other (by decide)) fun _ => ?_⟩
        exact ⟨S, c, s3, eD, by omega, noi, skip fun _ z => nomatch z⟩
      | join p q' =>
        obtain ⟨d, x, e⟩ := la
        refine ⟨rfl, _, rfl, a, _, _, .str "join", rfl, rfl, .inl (.inl e), atI_nat (j := 0) rfl, rfl, _, rfl, ite_both (other (by decide)) fun _ => ?_⟩
        exact ⟨S, c, s3, eD, by omega, noi, skip fun _ z => nomatch z⟩
      | rule key =>
        obtain ⟨d, x, e⟩ := la
        have tt : SqT K H3 a [.str "rule", .ref d, .str key, .ref x] := .inl (.inl e)
        refine ⟨rfl, _, rfl, a, _, _, .str "rule", rfl, rfl, tt, atI_nat (j := 0) rfl, rfl, _, rfl, ite_both (fun _ => ?_) self_⟩
        refine ⟨_, rfl, a, _, _, .str key, rfl, rfl, tt, atI_nat (j := 2) rfl, .inr key, S, c, rfl, eD, by omega, ?_⟩
        refine ⟨_, _, same_at s3 nD, upd_same, ?_, fun k => ?_, fun y => ?_⟩
        · split <;> omega
        · show (S (.inl k) || decide ((Sum.inl k : Key) = .inr key)) = false
          rw [noi k, decide_eq_false (fun z => nomatch z)] <;> rfl
        · show (S (.inr y) || decide ((Sum.inr y : Key) = .inr key)) = true ↔ _
          rw [Bool.or_eq_true, decide_eq_true_eq, txt y, List.take_add_one, hv]
          constructor
          · rintro (⟨z, hz, e⟩ | e)
            · exact ⟨z, List.mem_append_left _ hz, e⟩
            · refine ⟨v, List.mem_append_right _ (by simp), ?_⟩
              rw [hz, Sum.inr.inj e]
          · rintro ⟨z, hz', e⟩
            rcases List.mem_append.mp hz' with t | t
            · exact .inl ⟨z, t, e⟩
            · rw [show z = v by simpa using t, hz] at e
              cases e
              exact .inr rfl
    · rintro H3 ⟨S, c, s3, eD, cl, noi, txt⟩
      rw [List.length_map, List.take_length] at txt
      refine ⟨D, S, c, rfl, eD, noi, fun ns p asc mem2 len np => ?_⟩
      obtain ⟨ln, hln⟩ : ∃ ln, (as.map (·.2))[n - 1]? = some ln := ⟨_, List.getElem?_eq_getElem (by rw [List.length_map]; omega)⟩
      have e : ns = rs.getD (n - 1) [] := asc_ext asc (R.asc _ _ hln) fun x => by
        rw [mem2 x, txt x, mem x]
        constructor
        · rintro ⟨v, hv, e⟩
          obtain ⟨b1, b2⟩ := ub v hv
          refine ⟨v.toNat, by rw [show ((v.toNat : Nat) : Int) = v by omega]; exact hv, by omega, ?_⟩
          rw [List.getElem?_map, at_ v hv]
          show some (lineAt as v).2 = _
          rw [e]
        · rintro ⟨m, hm, m1, e⟩
          refine ⟨m, hm, ?_⟩
          have := at_ m hm
          rw [Int.toNat_natCast] at this
          rw [List.getElem?_map, this] at e
          exact Option.some.inj e
      have s4 := s3.trans (same_new (o := HO.lst (ns.map V.str)) np)
      refine q _ p (s12.trans s4) ((s12.trans s3).free np) ?_
      rw [upd_same, e]
end
end K46

set_option Elab.async false
set_option linter.all false
set_option maxRecDepth 100000
set_option maxHeartbeats 4000000
namespace K46
open PySem PySem.Spec PyProof.Rows L2 Cs CsX
theorem flat_s (ws : List Str) : ∀ x ∈ ws.map V.str, flatB x = true := fun x hx => by
  obtain ⟨y, _, rfl⟩ := List.mem_map.mp hx
  rfl
/-- a log of one rule, joined with itself again and again -/
def longL (n : Nat) : List Ln := [.void, .rule "key_1"] ++ (List.range n).map fun k => .join (k + 2) (k + 2)
def longR (n : Nat) : List (List Str) := [] :: List.replicate (n + 1) ["key_1"]
theorem longR_at {n k : Nat} (h : k < n + 2) : (longR n).getD k [] = if k = 0 then [] else [("key_1" : Str)] := by
  unfold longR
  cases k with
  | zero => rfl
  | succ k =>
    rw [if_neg (Nat.succ_ne_zero k), List.getD_eq_getElem?_getD, List.getElem?_cons_succ, List.getElem?_replicate, if_pos (by omega)] <;> rfl
theorem longL_len (n : Nat) : (longL n).length = n + 2 := by
  unfold longL
  rw [List.length_append, List.length_map, List.length_range]
  show 2 + n = n + 2
  omega
theorem longL_at {n k : Nat} (h : k < n) : (longL n)[k + 2]? = some (.join (k + 2) (k + 2)) := by
  unfold longL
  rw [List.getElem?_append_right (by show 2 ≤ k + 2; omega)]
  show ((List.range n).map fun k => Ln.join (k + 2) (k + 2))[k + 2 - 2]? = _
  rw [Nat.add_sub_cancel, List.getElem?_map, List.getElem?_range h] <;> rfl
theorem long_ok (n : Nat) : Rests (longL n) (longR n) := by
  have low : ∀ k ln, (longL n)[k]? = some ln → k < n + 2 := fun k ln h => by
    have := (List.getElem?_eq_some_iff.mp h).1
    rw [longL_len] at this
    exact this
  refine ⟨fun k ln h => ?_, fun k ln h x => ?_, fun k ln h => ?_⟩
  · rw [longR_at (low k ln h)]
    split
    · exact .nil
    · exact List.pairwise_singleton _ _
  · have lk := low k ln h
    match k, h, lk with
    | 0, h, lk =>
      cases Option.some.inj h
      exact ⟨fun z => (nomatch z), fun z => z.elim⟩
    | 1, h, lk =>
      cases Option.some.inj h
      rw [longR_at lk, if_neg (by decide), List.mem_singleton]
      exact Iff.rfl
    | k + 2, h, lk =>
      rw [longL_at (by omega)] at h
      cases Option.some.inj h
      rw [longR_at lk, if_neg (by omega)]
      show _ ↔ x ∈ (longR n).getD (k + 2 - 1) [] ∨ x ∈ (longR n).getD (k + 2 - 1) []
      rw [longR_at (by omega), if_neg (by omega), or_self]
  · have lk := low k ln h
    match k, h, lk with
    | 0, h, lk => cases Option.some.inj h; trivial
    | 1, h, lk => cases Option.some.inj h; trivial
    | k + 2, h, lk =>
      rw [longL_at (by omega)] at h
      cases Option.some.inj h
      exact ⟨by omega, by omega, by omega, by omega⟩
section
variable {P : Program} {w : World} {K : PySem.W.Frag} {mg : Str → Option Value} {base : Heap}
abbrev sKhd : Stmt := topS 25
abbrev nKhd : List Str := ["_law_lines", "_law_number_here", "_law_expected", "_law_told"]
theorem scKhd : FnScope nKhd ["_law_lines", "_law_number_here", "_law_expected"] (defScope sKhd) := ⟨rfl, rfl, rfl, by decide +kernel, rfl, by decide +kernel, by decide +kernel⟩
def spKhd : Sp := fun vs H Q _ => ∃ (L E : Addr) (as : List (Addr × Ln)) (rs : List (List Str)) (n : Nat), vs = [.ref L, .int (n : Int), .ref E] ∧ Lns H L as ∧ Rests (as.map (·.2)) rs ∧ 1 ≤ n ∧ n ≤ as.length ∧ as.length ≤ 1600 ∧ H E = some (.lst ((rs.getD (n - 1) []).map V.str)) ∧ (rs.getD (n - 1) []).length ≤ 900 ∧
  ∀ H', Same H H' → Q (.bl true) H'
theorem ok_Khd {f f0 f1 : Addr} {fd fd0 fd1 : FuncData} (F : Fun K "_law_keys_hold" "_law_keys_hold" sKhd f fd) (B : Bt mg) (CRon : Call P w K mg base 2 "rests_on" f0 fd0 ["lines", "number"] spRon) (CSwd : Call P w K mg base 1 "_law_same_words" f1 fd1 ["_law_actual", "_law_expected"] spSwd) :
    FnOk P w K mg base CX0 3 f fd ["_law_lines", "_law_number_here", "_law_expected"] spKhd := by
  refine F.ok scKhd (fun vs H Q E h => ?_) (fun cdv A outer s H vs Q E hr h => ?_)
  · obtain ⟨L, E, as, rs, n, rfl, _⟩ := h
    rfl
  · obtain ⟨L, E', as, rs, n, rfl, hL, R, n1, n2, few, eE, l900, q⟩ := h
    have nd := scKhd.nd
    refine ⟨_, pss_cons (ps_set (i := 3) nd rfl (.inl rfl) (pe_call CRon.ok (hr.mono (by decide)) (by rfl) CRon.at_ CRon.kp CRon.bd .nil pass0 (pa_cons (pv 0) (pa_cons (pv 1) pa_nil))))
      (pss_cons (ps_if (pt_not (pt_val (pe_call CSwd.ok (hr.mono (by decide)) (by rfl) CSwd.at_ CSwd.kp CSwd.bd .nil pass0 (pa_cons (pv 3) (pa_cons (pv 2) pa_nil)))))
        (pss_one (ps_ret pe_bl))
        pss_nil)
      (pss_cons (ps_expr (pe_bm PySem.F.plainAttrs_list PySem.F.slot_list_append PySem.F.type_list_append mt_append (pv 3) (pa_cons pe_str pa_nil)))
      (pss_one (ps_ret (pe_call CSwd.ok (hr.mono (by decide)) (by rfl) CSwd.at_ CSwd.kp CSwd.bd .nil pass0 (pa_cons (pe_call CRon.ok (hr.mono (by decide)) (by rfl) CRon.at_ CRon.kp CRon.bd .nil pass0 (pa_cons (pv 0) (pa_cons (pv 1) pa_nil))) (pa_cons (pv 2) pa_nil))))))), ?_⟩
    refine ⟨_, rfl, _, rfl, L, as, rs, n, rfl, hL, R, n1, n2, few, fun H1 l s1 nl el => ?_⟩
    refine ⟨_, rfl, _, rfl, l, E', _, rfl, el, s1 _ _ eE, by omega, _, rfl, ite_both (fun c => absurd c (by decide)) fun _ => ?_⟩
    refine ⟨_, rfl, .inl ⟨rfl, _, sl_map el⟩, l, _, _, rfl, rfl, el, by rw [List.length_map]; exact small1000 (by omega), ?_⟩
    have s2 := same_at (o := HO.lst ((rs.getD (n - 1) []).map V.str ++ [V.str "zz"])) s1 nl
    refine ⟨_, rfl, _, rfl, L, as, rs, n, rfl, hL.same s2, R, n1, n2, few, fun H3 l3 s3 n3 e3 => ?_⟩
    exact ⟨_, rfl, l3, E', _, rfl, e3, (s2.trans s3) _ _ eE, by omega, q H3 (s2.trans s3)⟩
abbrev sLhd : Stmt := topS 26
abbrev nLhd : List Str := ["_law_size", "_law_lines", "_law_k"]
theorem scLhd : FnScope nLhd ["_law_size"] (defScope sLhd) := ⟨rfl, rfl, rfl, by decide +kernel, rfl, by decide +kernel, by decide +kernel⟩
def spLhd : Sp := fun vs H Q _ => ∃ n : Nat, vs = [.int (n : Int)] ∧ n ≤ 1500 ∧ ∀ H', Q (.bl true) H'
theorem ok_Lhd {f f0 : Addr} {fd fd0 : FuncData} (F : Fun K "_law_long_holds" "_law_long_holds" sLhd f fd) (B : Bt mg) (CRon : Call P w K mg base 2 "rests_on" f0 fd0 ["lines", "number"] spRon) :
    FnOk P w K mg base CX0 3 f fd ["_law_size"] spLhd := by
  refine F.ok scLhd (fun vs H Q E h => ?_) (fun cdv A outer s H vs Q E hr h => ?_)
  · obtain ⟨n, rfl, _⟩ := h
    rfl
  · obtain ⟨n, rfl, n1500, q⟩ := h
    have nd := scLhd.nd
    refine ⟨_, pss_cons (ps_set (i := 1) nd rfl (.inl rfl) (pe_lst (pa_cons (pe_tup (pa_cons pe_str (pa_cons pe_dnewK (pa_cons pe_str pa_nil)))) (pa_cons (pe_tup (pa_cons pe_str (pa_cons pe_dnewK (pa_cons pe_str (pa_cons (pe_tup (pa_cons pe_str (pa_cons (pe_lst pa_nil) pa_nil))) pa_nil))))) pa_nil))))
      (pss_cons (ps_for PassesOwn.never rfl (pi_range1 (by rfl) B.range (pa_cons (pv 0) pa_nil)) (pg_name (i := 2) nd rfl (.inl rfl))
        (pss_one (ps_expr (pe_bm PySem.F.plainAttrs_list PySem.F.slot_list_append PySem.F.type_list_append mt_append (pv 1) (pa_cons (pe_tup (pa_cons pe_str (pa_cons pe_dnewK (pa_cons pe_str (pa_cons (pe_op op_add (pv 2) pe_int) (pa_cons (pe_op op_add (pv 2) pe_int) pa_nil)))))) pa_nil)))))
      (pss_one (ps_ret (pe_and (pe_cmpR (op_eqV hr.units) (pe_call CRon.ok (hr.mono (by decide)) (by rfl) CRon.at_ CRon.kp CRon.bd .nil pass0 (pa_cons (pv 1) (pa_cons (pe_op op_add (pv 0) pe_int) pa_nil))) (pe_lst (pa_cons pe_str pa_nil)) rfl) (pe_one (pe_cmpR (op_eqV hr.units) (pe_call CRon.ok (hr.mono (by decide)) (by rfl) CRon.at_ CRon.kp CRon.bd .nil pass0 (pa_cons (pv 1) (pa_cons pe_int pa_nil))) (pe_lst pa_nil) rfl)))))), ?_⟩
    intro d nd1
    refine ⟨by show 3 ≤ sizeLine; decide, fun t nt => ?_⟩
    intro d2 nd2
    refine ⟨by show 0 ≤ sizeLine; decide, fun l nl => ⟨by show 2 ≤ sizeLine; decide, fun c nc => ⟨by show 4 ≤ sizeLine; decide, fun t2 nt2 => ⟨by show 2 ≤ sizeLine; decide, fun L nL => ?_⟩⟩⟩⟩
    have x1 := same_new (o := HO.tup [.str "void", .ref d, .str "x"]) nt
    have x2 := same_new (o := HO.dK []) nd2
    have x3 := same_new (o := HO.lst []) nl
    have x4 := same_new (o := HO.tup [.str "blame", .ref l]) nc
    have x5 := same_new (o := HO.tup [.str "rule", .ref d2, .str "key_1", .ref c]) nt2
    have x6 := same_new (o := HO.lst [.ref t, .ref t2]) nL
    refine ⟨_, rfl, _, rfl, by omega, by omega, ?_⟩
    rw [Int.toNat_natCast]
    refine for_range (lo := 0) (fun i σ H' => ∃ (as : List (Addr × Ln)) (y2 : Option V), σ = [some (.int (n : Int)), some (.ref L), y2] ∧ Lns H' L as ∧ as.map (·.2) = longL i)
      ⟨[(t, .void), (t2, .rule "key_1")], none, rfl, ⟨upd_same, fun a ha => ?_⟩, rfl⟩ ?_ ?_
    · rcases List.mem_cons.mp ha with z | ha
      · rw [z]
        exact ⟨d, "x", x6 _ _ (x5 _ _ (x4 _ _ (x3 _ _ (x2 _ _ upd_same))))⟩
      · rw [List.mem_singleton.mp ha]
        exact ⟨d2, c, x6 _ _ upd_same⟩
    · rintro i σ H1 hi ⟨as, y2, rfl, hL, sh⟩
      have al : as.length = i + 2 := by
        have := congrArg List.length sh
        rw [List.length_map, longL_len] at this
        exact this
      refine ⟨_, rfl, .inl ⟨rfl, _, sl_map hL.1⟩, ?_⟩
      intro dd nd3
      refine ⟨_, rfl, 0 + (i : Int), 2, rfl, rfl, _, rfl, 0 + (i : Int), 2, rfl, rfl, by show 5 ≤ sizeLine; decide, fun u nu => ?_⟩
      have y1 := same_new (o := HO.dK []) nd3
      have y2' := y1.trans (same_new (o := HO.tup [.str "join", .ref dd, .str "x", .int (0 + (i : Int) + 2), .int (0 + (i : Int) + 2)]) nu)
      have eL := y2' _ _ hL.1
      have uL : u ≠ L := (ne_of_none (y1 _ _ hL.1) nu).symm
      refine ⟨L, _, _, rfl, rfl, eL, by rw [List.length_map]; exact small10k (by omega), as ++ [(u, .join (i + 2) (i + 2))], _, rfl, ⟨?_, fun a ha => ?_⟩, ?_⟩
      · rw [upd_same, List.map_append] <;> rfl
      · rcases List.mem_append.mp ha with z | z
        · have h1 := (hL.2 a z).same y2'
          have aL : a.1 ≠ L := fun q => by
            obtain ⟨xs, e, _⟩ := h1.head
            rw [q, eL] at e
            cases e
          obtain ⟨a, ln⟩ := a
          cases ln with
          | void => obtain ⟨d, x, e⟩ := h1; exact ⟨d, x, by rw [upd_ne aL]; exact e⟩
          | rule key => obtain ⟨d, x, e⟩ := h1; exact ⟨d, x, by rw [upd_ne aL]; exact e⟩
          | join p q => obtain ⟨d, x, e⟩ := h1; exact ⟨d, x, by rw [upd_ne aL]; exact e⟩
        · rw [List.mem_singleton.mp z]
          refine ⟨dd, "x", ?_⟩
          rw [upd_ne uL, upd_same, show ((i + 2 : Nat) : Int) = 0 + (i : Int) + 2 by omega]
      · rw [List.map_append, sh]
        unfold longL
        rw [List.range_succ, List.map_append, List.append_assoc] <;> rfl
    · rintro σ H1 ⟨as, y2, rfl, hL, sh⟩
      have al : as.length = n + 2 := by
        have := congrArg List.length sh
        rw [List.length_map, longL_len] at this
        exact this
      have R : Rests (as.map (·.2)) (longR n) := by rw [sh]; exact long_ok n
      refine ⟨_, rfl, _, rfl, (n : Int), 2, rfl, rfl, L, as, longR n, n + 2, ?_, hL, R, by omega, by omega, by omega, fun H2 l s2 nl el => ⟨by show 1 ≤ sizeLine; decide, fun l2 nl2 => ?_⟩⟩
      · rw [show ((n + 2 : Nat) : Int) = (n : Int) + 2 by omega] <;> rfl
      have z1 := same_new (o := HO.lst [V.str "key_1"]) nl2
      rw [longR_at (by omega), if_neg (by omega)] at el
      refine ⟨1, by decide, .inl ⟨l, l2, _, _, rfl, rfl, sl_map (z1 _ _ el), sl_map upd_same, paired_flat _ (flat_s ["key_1"])⟩, _, rfl, iteT ?_⟩
      refine ⟨_, rfl, L, as, longR n, 1, rfl, hL.same (s2.trans z1), R, by omega, by omega, by omega, fun H3 l3 s3 nl3 el3 => ⟨by show 0 ≤ sizeLine; decide, fun l4 nl4 => ?_⟩⟩
      have z3 := same_new (o := HO.lst []) nl4
      exact ⟨1, by decide, .inl ⟨l3, l4, _, _, rfl, rfl, sl_map (z3 _ _ el3), sl_map upd_same, .nil⟩, q _⟩
end
end K46

set_option Elab.async false
set_option linter.all false
set_option maxRecDepth 100000
set_option maxHeartbeats 4000000
namespace K46
open PySem PySem.Spec PyProof.Rows L2 Cs CsX L2H HotX
def initOf : Stmt → Stmt
  | .ClassDef (body := b) .. => b.getD 0 (.Pass ⟨0, 0, 0, 0⟩)
  | s => s
/-- a def that stands, with its promise: it raises -/
structure CallX (P : Program) (w : World) (K : PySem.W.Frag) (mg : Str → Option Value) (base : Heap) (k : Nat) (x : Str) (f : Addr) (fd : FuncData) (ps : List Str) (sp : Sp) : Prop where
  ok : FnOk P w K mg base (L2.CX P w) k f fd ps sp
  at_ : mg x = some (.ref f)
  kp : PySem.W.keepIn K (.ref f) = true
  bd : Binds K fd ps []
/-- an __init__ -/
structure CallI (P : Program) (w : World) (K : PySem.W.Frag) (mg : Str → Option Value) (base : Heap) (f : Addr) (fd : FuncData) (ps : List Str) (sp : Sp) : Prop where
  ok : FnOk P w K mg base CX0 1 f fd ps sp
  bd : Binds K fd ps []
/-- the other errors os, none a class of the error at C; the base class at cd -/
structure Errs (os : List Str) (K : PySem.W.Frag) (mg : Str → Option Value) (C cd : Addr) (cs : List Addr) : Prop where
  len : ∃ c0 c1 c2 c3 c4 c5 c6 c7 c8 c9 c10 c11 c12 c13 c14 c15 c16 c17 c18 c19 c20 c21 c22 : Addr, cs = [c0, c1, c2, c3, c4, c5, c6, c7, c8, c9, c10, c11, c12, c13, c14, c15, c16, c17, c18, c19, c20, c21, c22]
  at_ : ∀ (i : Nat) (x : Str), os[i]? = some x → mg x = some (.ref (cs.getD i 0))
  any : PySem.W.kitAny K (.ref C) (cs.map Value.ref) = some false
  gd : mg "DeskError" = some (.ref cd)
  kd : PySem.W.kitOne K (.ref C) (.ref cd) = some true
  kv : PySem.W.kitOne K (.ref C) (.type "ValueError") = some true
  ve : mg "ValueError" = none
/-- what is known of an error that is caught -/
structure OwnX (K : PySem.W.Frag) (mg : Str → Option Value) (C cd : Addr) : Prop where
  ex : ExcC K C
  te : PySem.W.exmOne K (.ref C) (.ref C) = some true
  gd : mg "DeskError" = some (.ref cd)
  kd : PySem.W.kitOne K (.ref C) (.ref cd) = some true
  kv : PySem.W.kitOne K (.ref C) (.type "ValueError") = some true
  ve : mg "ValueError" = none
/-- the error at C is none of these two -/
structure Not2 (K : PySem.W.Frag) (mg : Str → Option Value) (C cu cb : Addr) : Prop where
  gu : mg "UnknownKey" = some (.ref cu)
  gb : mg "BadLine" = some (.ref cb)
  nu : PySem.W.kitOne K (.ref C) (.ref cu) = some false
  nb : PySem.W.kitOne K (.ref C) (.ref cb) = some false
theorem hot_suite {X : Cx} {a : Addr} {oe : Obj} {cls : Value} {d : Option Addr} {pn : List (Addr × Obj)} (hz : L2N.Zn cls d oe) (hf : ∃ vs, oe.data = .fields vs) : HotC (X.suite a ((a, oe) :: pn)) :=
  ⟨(a, oe), ⟨rfl, hf.elim fun vs e => ⟨vs, e, hz.2.2 vs e⟩⟩, List.mem_cons_self⟩
section
variable {P : Program} {w : World} {K : PySem.W.Frag} {mg : Str → Option Value} {base : Heap}
abbrev sUle : Stmt := initOf (topS 4)
abbrev nUle : List Str := ["self", "number"]
theorem scUle : FnScope nUle nUle (defScope sUle) := ⟨rfl, rfl, rfl, by decide +kernel, rfl, by decide +kernel, by decide +kernel⟩
theorem ok_Ule {f C : Addr} {fd : FuncData} (F : Fun K "__init__" "UnknownLine.__init__" sUle f fd) (U : Own K mg "UnknownLine" C f ["number"]) : FnOk P w K mg base CX0 1 f fd ["self", "number"] (spIni C "number") := by
  refine F.ok scUle (fun vs H Q E h => ?_) (fun cdv A outer s H vs Q E hr h => ?_)
  · obtain ⟨a, v, rfl, _⟩ := h
    rfl
  · obtain ⟨a, v, rfl, e, q⟩ := h
    refine ⟨_, pss_one (ps_ost (pv 0) (pv 1)), ?_⟩
    exact ⟨v, rfl, .ref a, rfl, a, C, rfl, U.oex, U.no _ (by simp), .inl ⟨e, fun dx n ne => q dx n ne⟩⟩
/-- _law_is_integer, called within an except suite -/
theorem ok_isIntH {f : Addr} {fd : FuncData} (F : Fun K "_law_is_integer" "_law_is_integer" sIsInt f fd) (B : Bt mg) : FnH P w K mg base CX0 1 f fd ["_law_actual"] spIsInt := by
  refine okH F scIsInt (fun vs H Q E h => ?_) (fun cdv A outer s H vs Q E p h => ?_)
  · obtain ⟨a, rfl, _⟩ := h
    rfl
  · obtain ⟨a, rfl, q⟩ := h
    refine ⟨_, pss_one (ps_ret (pe_and (pe_callB call_isi (by rfl) B.isi PyProof.Rows.boot_isinstance (pa_cons (pv 0) (pa_cons (pe_bltn (by rfl) B.int PyProof.Rows.boot_int (v := .ty "int") rfl) pa_nil)))
      (pe_one (pe_not (pe_callB call_isi (by rfl) B.isi PyProof.Rows.boot_isinstance (pa_cons (pv 0) (pa_cons (pe_bltn (by rfl) B.bool PyProof.Rows.boot_bool (v := .ty "bool") rfl) pa_nil))))))), ?_⟩
    refine ⟨.int a, rfl, .int a, .ty "int", .type "int", .type "int", true, rfl, .ty _, .base (.int a), kit_ty (by decide +kernel), true, rfl, iteT ?_⟩
    exact ⟨.int a, rfl, .int a, .ty "bool", .type "int", .type "bool", false, rfl, .ty _, .base (.int a), kit_ty (by decide +kernel), false, rfl, q⟩
/-- no line of that number -/
def spUsdX (C : Addr) : Sp := fun vs H _ E => ∃ (L : Addr) (xs : List V) (n : Int), vs = [.ref L, .int n] ∧ H L = some (.lst xs) ∧ (n < 1 ∨ (xs.length : Int) < n) ∧
  ∀ d H', H d = none → Same H H' → H' d = some (.xd [("number", .int n)]) → E (.ref C) (some d) H'
theorem ok_UsdX {f CE fI : Addr} {fd fdI : FuncData} (F : Fun K "_used_by" "_used_by" sUsd f fd) (B : Bt mg) (U : Own K mg "UnknownLine" CE fI ["number"]) (Io : FnOk P w K mg base CX0 1 fI fdI ["self", "number"] (spIni CE "number")) (Ib : Binds K fdI ["self", "number"] []) :
    FnOk P w K mg base (L2N.CX P w) 3 f fd ["lines", "number"] (spUsdX CE) := by
  refine okN F scUsd (fun vs H Q E h => ?_) (fun cdv A outer s H vs Q E hr h => ?_)
  · obtain ⟨L, xs, n, rfl, _⟩ := h
    rfl
  · obtain ⟨L, xs, n, rfl, eL, out, k⟩ := h
    refine ⟨_, pss_cons (ps_if (PW.pt (pw_or (pt_cmpR op_lt (pv 1) pe_int rfl) (pw_or1 (pt_cmpR op_gt (pv 1) (pe_callB call_len_seq (by rfl) B.len PySem.boot_len (pa_cons (pv 0) pa_nil)) rfl))))
      (pss_one (L2N.ps_raise rfl (L2N.takes_of rfl rfl rfl rfl) (pmk_oexN U.oex U.iC U.tI Io (hr.mono (by decide)) Ib pass0 (by rfl) U.gC (pa_cons (pv 1) pa_nil)))) pss_nil) pss_any, ?_⟩
    have rs := mk_one (C := CE) (f := "number") (H1 := H) (v := .int n) (Q := E) k
    refine ⟨_, rfl, _, _, rfl, rfl, _, rfl, ite_both (fun _ => ⟨.int n, rfl, rs⟩) fun c1 => ?_⟩
    refine ⟨_, rfl, _, rfl, L, _, rfl, .inl (sl_map eL), _, _, rfl, rfl, _, rfl, ite_both (fun _ => ⟨.int n, rfl, rs⟩) fun c2 => ?_⟩
    have d1 := of_decide_eq_false c1
    have d2 := of_decide_eq_false c2
    rcases out with o | o
    · exact absurd o d1
    · exact absurd (show n > ((xs.length : Nat) : Int) from o) d2
theorem ok_RonX {f f0 CE : Addr} {fd fd0 : FuncData} (F : Fun K "rests_on" "rests_on" sRon f fd) (B : Bt mg) (Cx : FnOk P w K mg base (L2N.CX P w) 3 f0 fd0 ["lines", "number"] (spUsdX CE)) (Cus : Call P w K mg base 1 "_used_by" f0 fd0 ["lines", "number"] spUsd) :
    FnOk P w K mg base (L2N.CX P w) 4 f fd ["lines", "number"] (spUsdX CE) := by
  refine okN F scRon (fun vs H Q E h => ?_) (fun cdv A outer s H vs Q E hr h => ?_)
  · obtain ⟨L, xs, n, rfl, _⟩ := h
    rfl
  · obtain ⟨L, xs, n, rfl, eL, out, k⟩ := h
    have nd := scRon.nd
    refine ⟨_, pss_cons (ps_setLc (i := 2) (own := [("each", 3)]) (g := gName 3) (tt := tYes) (te := tOp (rIxL K) (tVar 0) (tOp (rI0 fun i j => .int (i - j)) (tVar 3) (tC (.int 1)))) rfl nd rfl rfl (by rfl) (pi_list (pe_call (E := E) Cx (hr.mono (by decide)) (by rfl) Cus.at_ Cus.kp Cus.bd .nil (L2N.passes_call (L2N.takes_of rfl rfl rfl rfl) fun _ _ _ _ h => h) (pa_cons (pv 0) (pa_cons (pv 1) pa_nil)))) (blkOk_by (N := nRon) (sc := defScope sRon) (by decide +kernel)) (fun _ _ _ _ _ => pg_name (i := 3) nd rfl (.inl rfl)) (fun _ _ _ _ _ => pts_nil)
          (fun _ _ _ _ _ => (pe_ix (r := rIxL K) ix_list (pv 0) (pe_op op_sub (pv 3) pe_int) (fun _ _ => rfl)))) pss_any, ?_⟩
    exact ⟨_, rfl, _, rfl, L, xs, n, rfl, eL, out, k⟩
abbrev sUnk : Stmt := topS 24
abbrev nUnk : List Str := ["_law_lines", "_law_number_here", "e"]
theorem scUnk : FnScope nUnk ["_law_lines", "_law_number_here"] (defScope sUnk) := ⟨rfl, rfl, rfl, by decide +kernel, rfl, by decide +kernel, by decide +kernel⟩
def spUnk : Sp := fun vs H Q _ => ∃ (L : Addr) (xs : List V) (n : Int), vs = [.ref L, .int n] ∧ H L = some (.lst xs) ∧ (n < 1 ∨ (xs.length : Int) < n) ∧ ∀ H', Same H H' → Q (.bl true) H'
theorem ok_Unk {f f0 f1 CE cd cu cb fI : Addr} {fd fd0 fd1 : FuncData} (F : Fun K "_law_unknown" "_law_unknown" sUnk f fd) (B : Bt mg) (U : Own K mg "UnknownLine" CE fI ["number"]) (X0 : OwnX K mg CE cd) (N : Not2 K mg CE cu cb)
    (Cii : Call P w K mg base 1 "_law_is_integer" f1 fd1 ["_law_actual"] spIsInt) (CiH : FnH P w K mg base CX0 1 f1 fd1 ["_law_actual"] spIsInt)
    (Rx : FnOk P w K mg base (L2N.CX P w) 4 f0 fd0 ["lines", "number"] (spUsdX CE)) (Cro : Call P w K mg base 2 "rests_on" f0 fd0 ["lines", "number"] spRon) :
    FnOk P w K mg base CX0 5 f fd ["_law_lines", "_law_number_here"] spUnk := by
  refine F.ok scUnk (fun vs H Q E h => ?_) (fun cdv A outer s H vs Q E hr h => ?_)
  · obtain ⟨L, xs, n, rfl, _⟩ := h
    rfl
  · obtain ⟨L, xs, n, rfl, eL, out, k⟩ := h
    have nd := scUnk.nd
    refine ⟨_, pss_cons (L2N.ps_try_as (i := 2) (c := .ref CE) (Wout := fun _ _ _ _ => False)
        (tb := fun W => tDrop (tCallS (spUsdX CE) (WE W) (tCons (tVar 0) (tCons (tVar 1) tNil))))
        rfl rfl nd rfl rfl ⟨rfl, by decide, Or.inl U.gC⟩ (fun _ _ ⟨_, _, _, _, _, _, _, _, _, _, _, _, _, _, _, _, w⟩ => w.elim)
        (fun W pn xe tk _ => pss_one (ps_expr (pe_callS Rx (hr.mono (by decide)) (by rfl) Cro.at_ Cro.kp Cro.bd (fun σ => L2N.passAt tk σ) (pa_cons (pv 0) (pa_cons (pv 1) pa_nil)))))
        (fun a oe cls d pn hzn hf => pss_cons (ps_if (PW.pt (pw_or (pt_val (pe_callB (r := rIsED K a cls d) (call_isED hzn.zc hf) (by rfl) B.isi PyProof.Rows.boot_isinstance (pa_cons (pv 2) (pa_cons (pe_glob (by rfl) N.gu (v := .ref cu) rfl) pa_nil)))) (pw_or (pt_val (pe_callB (r := rIsED K a cls d) (call_isED hzn.zc hf) (by rfl) B.isi PyProof.Rows.boot_isinstance (pa_cons (pv 2) (pa_cons (pe_glob (by rfl) N.gb (v := .ref cb) rfl) pa_nil)))) (pw_or1 (pt_not (pt_val (pe_callB (r := rIsED K a cls d) (call_isED hzn.zc hf) (by rfl) B.isi PyProof.Rows.boot_isinstance (pa_cons (pv 2) (pa_cons (pe_glob (by rfl) X0.gd (v := .ref cd) rfl) pa_nil))))))))) (pss_one (ps_ret pe_bl)) pss_nil) (pss_one (ps_ret (pe_and (pe_callB (r := rIsED K a cls d) (call_isED hzn.zc hf) (by rfl) B.isi PyProof.Rows.boot_isinstance (pa_cons (pv 2) (pa_cons (pe_bltn (by rfl) X0.ve PyProof.Rows.Boot.«ValueError» (v := .ty "ValueError") rfl) pa_nil))) (pe_and (pe_callH (E := fun _ _ _ _ => False) CiH (roomH_mark (hr.mono (show 1 ≤ 4 by decide)) _) (hot_suite hzn hf) (by rfl) Cii.at_ Cii.kp Cii.bd (fun _ _ _ _ _ _ _ h => h.elim) (pa_cons (pe_xf U.xf (U.no _ (by simp)) hzn.zc hf (pv 2)) pa_nil)) (pe_one (pe_cmpR op_eq (pe_xf U.xf (U.no _ (by simp)) hzn.zc hf (pv 2)) (pv 1) rfl))))))))
      (pss_one (ps_ret pe_bl)), ?_⟩
    refine ⟨_, rfl, _, rfl, L, xs, n, rfl, eL, out, fun d H1 ndd sm ed => ⟨true, X0.te, fun _ e ne => ?_, fun z => nomatch z⟩⟩
    have lk : ([("number", V.int n)] : List (Str × V)).lookup ("number" : Str) = some (.int n) := by simp [List.lookup]
    refine ⟨_, rfl, CE, d, _, .ref cu, false, rfl, rfl, rfl, ed, X0.ex, .inl ⟨.ref cu, fun u r => by cases r; rfl, N.nu⟩, false, rfl, iteF ?_⟩
    refine ⟨_, rfl, CE, d, _, .ref cb, false, rfl, rfl, rfl, ed, X0.ex, .inl ⟨.ref cb, fun u r => by cases r; rfl, N.nb⟩, false, rfl, iteF ?_⟩
    refine ⟨_, rfl, CE, d, _, .ref cd, true, rfl, rfl, rfl, ed, X0.ex, .inl ⟨.ref cd, fun u r => by cases r; rfl, X0.kd⟩, true, rfl, iteF ?_⟩
    refine ⟨_, rfl, CE, d, _, .ty "ValueError", true, rfl, rfl, rfl, ed, X0.ex, .inl ⟨.type "ValueError", fun u r => by cases r; rfl, X0.kv⟩, true, rfl, iteT ?_⟩
    refine ⟨_, rfl, rfl, rfl, d, _, .int n, rfl, ed, lk, n, rfl, _, rfl, iteT ?_⟩
    refine ⟨_, rfl, rfl, rfl, d, _, .int n, rfl, ed, lk, _, rfl, rfl, ?_⟩
    rw [decide_eq_true rfl]
    exact k _ sm
end
end K46

set_option Elab.async false
set_option linter.all false
set_option maxRecDepth 100000
set_option maxHeartbeats 4000000
namespace K46
open PySem PySem.Spec PyProof.Rows L2 Cs CsX
theorem keep_same {H Hc Hn : Hp} {p : Addr} (s : Same H Hc) (k : Keep p Hc Hn) (n : H p = none) : Same H Hn := fun b o e => k b o (ne_of_none e n) (s b o e)
theorem sq_same {K : PySem.W.Frag} {H H' : Hp} {a : Addr} {xs : List V} (h : SqL K H a xs) (s : Same H H') : SqL K H' a xs := s.seq h
theorem strm_same {H H' : Hp} {p : Addr} (h : Strm H p) (s : Same H H') : Strm H' p := by
  obtain ⟨b1, b2, b3, b4⟩ := h
  exact ⟨b1, b2, b3, s _ _ b4⟩
theorem paired_snoc {α β : Type} {F : α → β → Prop} {xs : List α} {ys : List β} {x : α} {y : β} (p : Paired F xs ys) (h : F x y) : Paired F (xs ++ [x]) (ys ++ [y]) := by
  induction p with
  | nil => exact .cons h .nil
  | cons a _ ih => exact .cons a ih
section
variable {P : Program} {w : World} {K : PySem.W.Frag} {mg : Str → Option Value} {base : Heap}
def spLaw (K : PySem.W.Frag) : Sp := fun vs H Q _ => ∃ (a : Addr) (ns : List Int), vs = [.ref a] ∧ SqL K H a (ns.map V.int) ∧ ns.length ≤ 63 ∧ ∀ H', Q (.bl true) H'
abbrev sLaw : Stmt := topS 27
abbrev nLaw : List Str := ["_law_script", "_law_stream_here", "_law_k", "_law_keys", "_law_most", "_law_lines", "_law_rests_here", "_law_line", "_law_handed", "_law_half", "_law_number_here"]
theorem scLaw : FnScope nLaw ["_law_script"] (defScope sLaw) := ⟨rfl, rfl, rfl, by decide +kernel, rfl, by decide +kernel, by decide +kernel⟩
theorem ok_Law {f f0 f1 f2 f3 f4 f5 f6 f7 f8 : Addr} {fd fd0 fd1 fd2 fd3 fd4 fd5 fd6 fd7 fd8 : FuncData} (F : Fun K "law" "law" sLaw f fd) (B : Bt mg) (zmin : mg "min" = none) (zmax : mg "max" = none) (Cst : Call P w K mg base 1 "_law_stream" f0 fd0 ["_law_script", "_law_k"] (spStream K)) (CWrd : Call P w K mg base 2 "_law_word" f1 fd1 ["_law_stream_here"] spWrd) (D : Call P w K mg base 1 "_law_next" f2 fd2 ["_law_stream_here", "_law_size"] spDraw) (CLgl : Call P w K mg base 4 "_law_log_line" f3 fd3 ["_law_stream_here", "_law_keys", "_law_size"] (spLgl K)) (CLcp : Call P w K mg base 2 "_law_line_copy" f4 fd4 ["_law_line"] spLcp) (CLhd : Call P w K mg base 3 "_law_long_holds" f5 fd5 ["_law_size"] spLhd) (CRst : Call P w K mg base 2 "_law_rests" f6 fd6 ["_law_line", "_law_rests_here"] spRst) (CKhd : Call P w K mg base 3 "_law_keys_hold" f7 fd7 ["_law_lines", "_law_number_here", "_law_expected"] spKhd) (CUnk : Call P w K mg base 5 "_law_unknown" f8 fd8 ["_law_lines", "_law_number_here"] spUnk) :
    FnOk P w K mg base CX0 6 f fd ["_law_script"] (spLaw K) := by
  refine F.ok scLaw (fun vs H Q E h => ?_) (fun cdv A outer s H vs Q E hr h => ?_)
  · obtain ⟨a, ns, rfl, _⟩ := h
    rfl
  · obtain ⟨scr, n0, rfl, hS, few, k⟩ := h
    have nd := scLaw.nd
    refine ⟨_, pss_cons (ps_set (i := 1) nd rfl (.inr rfl) (pe_call Cst.ok (hr.mono (by decide)) (by rfl) Cst.at_ Cst.kp Cst.bd .nil pass0 (pa_cons (pv 0) (pa_cons pe_int pa_nil))))
      (pss_cons (ps_setLc (i := 3) (own := [("_law_k", 2)]) (g := gName 2) (tt := tYes)  rfl nd rfl rfl (by rfl) (pi_range1 (by rfl) B.range (pa_cons (pe_op op_add pe_int (pe_call D.ok (hr.mono (by decide)) (by rfl) D.at_ D.kp D.bd .nil pass0 (pa_cons (pv 1) (pa_cons pe_int pa_nil)))) pa_nil)) (blkOk_by (N := nLaw) (sc := defScope sLaw) (by decide +kernel)) (fun _ _ _ _ _ => pg_name (i := 2) nd rfl (.inl rfl)) (fun _ _ _ _ _ => pts_nil)
          (fun _ _ _ _ _ => (pe_call CWrd.ok (hr.mono (by decide)) (by rfl) CWrd.at_ CWrd.kp CWrd.bd .nil pass0 (pa_cons (pv 1) pa_nil))))
      (pss_cons (ps_set (i := 4) nd rfl (.inl rfl) (pe_ix ix_list (pe_lst (pa_cons pe_int (pa_cons pe_int (pa_cons pe_int (pa_cons pe_int (pa_cons pe_int (pa_cons pe_int pa_nil))))))) (pe_call D.ok (hr.mono (by decide)) (by rfl) D.at_ D.kp D.bd .nil pass0 (pa_cons (pv 1) (pa_cons pe_int pa_nil))) (fun _ _ => rfl)))
      (pss_cons (ps_set (i := 5) nd rfl (.inl rfl) (pe_lst pa_nil))
      (pss_cons (ps_set (i := 6) nd rfl (.inl rfl) (pe_lst pa_nil))
      (pss_cons (ps_for PassesOwn.never rfl (pi_range1 (by rfl) B.range (pa_cons (pe_callB (call_min2 rfl) (by rfl) zmin PyProof.Rows.boot_min (pa_cons (pe_callB (call_max2 rfl) (by rfl) zmax PyProof.Rows.boot_max (pa_cons pe_int (pa_cons (pe_op op_sub (pe_callB call_len_seq (by rfl) B.len PySem.boot_len (pa_cons (pv 0) pa_nil)) pe_int) pa_nil))) (pa_cons (pv 4) pa_nil))) pa_nil)) (pg_name (i := 2) nd rfl (.inl rfl))
        (pss_cons (ps_set (i := 7) nd rfl (.inl rfl) (pe_call CLgl.ok (hr.mono (by decide)) (by rfl) CLgl.at_ CLgl.kp CLgl.bd .nil pass0 (pa_cons (pe_call Cst.ok (hr.mono (by decide)) (by rfl) Cst.at_ Cst.kp Cst.bd .nil pass0 (pa_cons (pv 0) (pa_cons (pe_op op_add pe_int (pv 2)) pa_nil))) (pa_cons (pv 3) (pa_cons (pv 2) pa_nil)))))
          (pss_cons (ps_expr (pe_bm PySem.F.plainAttrs_list PySem.F.slot_list_append PySem.F.type_list_append mt_append (pv 5) (pa_cons (pv 7) pa_nil)))
          (pss_one (ps_expr (pe_bm PySem.F.plainAttrs_list PySem.F.slot_list_append PySem.F.type_list_append mt_append (pv 6) (pa_cons (pe_call CRst.ok (hr.mono (by decide)) (by rfl) CRst.at_ CRst.kp CRst.bd .nil pass0 (pa_cons (pv 7) (pa_cons (pv 6) pa_nil))) pa_nil)))))))
      (pss_cons (ps_setLc (i := 8) (own := [("_law_line", 7)]) (g := gName 7) (tt := tYes)  rfl nd rfl rfl (by rfl) (pi_list (pv 5)) (blkOk_by (N := nLaw) (sc := defScope sLaw) (by decide +kernel)) (fun _ _ _ _ _ => pg_name (i := 7) nd rfl (.inl rfl)) (fun _ _ _ _ _ => pts_nil)
          (fun _ _ _ _ _ => (pe_call CLcp.ok (hr.mono (by decide)) (by rfl) CLcp.at_ CLcp.kp CLcp.bd .nil pass0 (pa_cons (pv 7) pa_nil))))
      (pss_cons (ps_set (i := 9) nd rfl (.inl rfl) (pe_slice sl_list (pv 8) po_none (po_some (pe_op op_fdiv (pe_callB call_len_seq (by rfl) B.len PySem.boot_len (pa_cons (pv 8) pa_nil)) pe_int))))
      (pss_cons (ps_for PassesOwn.never rfl (pi_range1 (by rfl) B.range (pa_cons (pe_callB call_len_seq (by rfl) B.len PySem.boot_len (pa_cons (pv 5) pa_nil)) pa_nil)) (pg_name (i := 2) nd rfl (.inl rfl))
        (pss_cons (ps_if (pt_not (pt_val (pe_call CKhd.ok (hr.mono (by decide)) (by rfl) CKhd.at_ CKhd.kp CKhd.bd .nil pass0 (pa_cons (pv 8) (pa_cons (pe_op op_add (pv 2) pe_int) (pa_cons (pe_ix ix_list (pv 6) (pv 2) (fun _ _ => rfl)) pa_nil))))))
            (pss_one (ps_ret pe_bl))
            pss_nil)
          (pss_one (ps_if (PW.pt (pw_and (pt_cmpR op_lt (pv 2) (pe_callB call_len_seq (by rfl) B.len PySem.boot_len (pa_cons (pv 9) pa_nil)) rfl) (pw_and1 (pt_not (pt_val (pe_call CKhd.ok (hr.mono (by decide)) (by rfl) CKhd.at_ CKhd.kp CKhd.bd .nil pass0 (pa_cons (pv 9) (pa_cons (pe_op op_add (pv 2) pe_int) (pa_cons (pe_ix ix_list (pv 6) (pv 2) (fun _ _ => rfl)) pa_nil)))))))))
            (pss_one (ps_ret pe_bl))
            pss_nil))))
      (pss_cons (ps_for PassesOwn.never rfl (pi_list (pe_lst (pa_cons pe_int (pa_cons (pe_un un_neg pe_int) (pa_cons (pe_op op_add (pe_callB call_len_seq (by rfl) B.len PySem.boot_len (pa_cons (pv 5) pa_nil)) pe_int) (pa_cons (pe_op op_pow pe_int pe_int) pa_nil)))))) (pg_name (i := 10) nd rfl (.inl rfl))
        (pss_one (ps_if (PW.pt (pw_or (pt_not (pt_val (pe_call CUnk.ok (hr.mono (by decide)) (by rfl) CUnk.at_ CUnk.kp CUnk.bd .nil pass0 (pa_cons (pv 8) (pa_cons (pv 10) pa_nil))))) (pw_or1 (pt_not (pt_val (pe_call CUnk.ok (hr.mono (by decide)) (by rfl) CUnk.at_ CUnk.kp CUnk.bd .nil pass0 (pa_cons (pe_lst pa_nil) (pa_cons (pv 10) pa_nil))))))))
            (pss_one (ps_ret pe_bl))
            pss_nil)))
      (pss_cons (ps_if (PW.pt (pw_or (pt_not (pt_val (pe_call CUnk.ok (hr.mono (by decide)) (by rfl) CUnk.at_ CUnk.kp CUnk.bd .nil pass0 (pa_cons (pv 9) (pa_cons (pe_op op_add (pe_callB call_len_seq (by rfl) B.len PySem.boot_len (pa_cons (pv 9) pa_nil)) pe_int) pa_nil))))) (pw_or1 (pt_cmpR (op_neW hr.units) (pv 8) (pv 5) rfl))))
        (pss_one (ps_ret pe_bl))
        pss_nil)
      (pss_one (ps_ret (L2.pe_or (pe_cmpR op_lt (pe_call D.ok (hr.mono (by decide)) (by rfl) D.at_ D.kp D.bd .nil pass0 (pa_cons (pv 1) (pa_cons pe_int pa_nil))) pe_int rfl) (pe_one (pe_call CLhd.ok (hr.mono (by decide)) (by rfl) CLhd.at_ CLhd.kp CLhd.bd .nil pass0 (pa_cons (pe_op op_add pe_int (pe_call D.ok (hr.mono (by decide)) (by rfl) D.at_ D.kp D.bd .nil pass0 (pa_cons (pv 1) (pa_cons pe_int pa_nil)))) pa_nil)))))))))))))))), ?_⟩
    refine ⟨_, rfl, scr, n0, 0, rfl, hS, fun H1 p sm1 np1 st1 => ?_⟩
    refine ⟨_, rfl, p, 4, rfl, st1, by decide, by decide, fun H2 d2 o2 st2 d20 d24 => ⟨1, d2, rfl, rfl, 1 + d2, rfl, by omega, by omega, fun A nA => ?_⟩⟩
    have Ap : A ≠ p := fun z => st2.some (z ▸ nA)
    have k2 : Keep p H1 H2 := (Keep.refl p H1).oth o2
    refine lc_range (lo := 0) (fun i H' => ∃ ks : List Str, Keep p H1 H' ∧ Strm H' p ∧ H' A = some (.lst (ks.map V.str)) ∧ ks.length = i) ⟨[], k2.at_ (k2.free st2 nA), st2.upd Ap.symm, upd_same, rfl⟩ ?_ ?_
    · rintro i H3 hi ⟨ks, k3, st3, eA, kl⟩
      refine ⟨rfl, _, rfl, p, rfl, st3, fun H4 x k4 st4 => ⟨_, k4 _ _ Ap eA, by rw [List.length_map]; exact small1000 (by omega), ks ++ [x], (k3.trans k4).at_ (k2.free st2 nA), st4.upd Ap.symm, ?_, by rw [List.length_append, kl] <;> rfl⟩⟩
      rw [upd_same, List.map_append] <;> rfl
    rintro H5 ⟨ks, k5, st5, eA5, kl⟩
    refine ⟨by show 6 ≤ sizeLine; decide, fun t nt => ?_⟩
    have pt : p ≠ t := fun z => st5.some (z ▸ nt)
    refine ⟨_, rfl, p, 6, rfl, st5.upd pt, by decide, by decide, fun H6 e o6 st6 e0 e1 => ?_⟩
    obtain ⟨v, hv, av⟩ : ∃ v ∈ [12, 12, 12, 12, 12, 40], atI (([12, 12, 12, 12, 12, 40] : List Int).map V.int) e = some (.int v) := at_in e0 (by simpa using e1)
    have v40 : 12 ≤ v ∧ v ≤ 40 := by
      simp only [List.mem_cons, List.not_mem_nil, or_false] at hv
      omega
    refine ⟨t, _, e, .int v, rfl, rfl, sl_map ((o6 t pt.symm).trans upd_same), av, ?_⟩
    have k6 : Keep p H1 H6 := (k5.at_ (k5.free st5 nt)).oth o6
    have s6 : Same H H6 := keep_same sm1 k6 np1
    have eA6 : H6 A = some (.lst (ks.map V.str)) := (o6 _ Ap).trans (by rw [upd_ne (ne_of_none eA5 nt)]; exact eA5)
    clear k6 o6 eA5 k5 st5 k2 o2 st2 st1
    refine ⟨by show 0 ≤ sizeLine; decide, fun L nL => ⟨by show 0 ≤ sizeLine; decide, fun R nR => ?_⟩⟩
    have z1 := same_new (o := HO.lst []) nL
    have z2 := same_new (o := HO.lst []) nR
    have nR6 : H6 R = none := z1.free nR
    have LR : L ≠ R := fun z => by rw [← z, upd_same] at nR; cases nR
    have eL0 : (upd (upd H6 L (.lst [])) R (.lst [])) L = some (.lst []) := z2 _ _ upd_same
    refine ⟨_, rfl, scr, _, rfl, .inl (sq_same hS (s6.trans (z1.trans z2))), _, 1, rfl, rfl, 1, _, rfl, _, rfl, _, _, rfl, ?_⟩
    obtain ⟨n, hn, n1, n40⟩ : ∃ n : Nat, (if v < (if (((n0.map V.int).length : Nat) : Int) - 1 > 1 then (((n0.map V.int).length : Nat) : Int) - 1 else 1) then v else (if (((n0.map V.int).length : Nat) : Int) - 1 > 1 then (((n0.map V.int).length : Nat) : Int) - 1 else 1)) = (n : Int) ∧ 1 ≤ n ∧ n ≤ 40 := by
      refine ⟨(if v < (if (((n0.map V.int).length : Nat) : Int) - 1 > 1 then (((n0.map V.int).length : Nat) : Int) - 1 else 1) then v else (if (((n0.map V.int).length : Nat) : Int) - 1 > 1 then (((n0.map V.int).length : Nat) : Int) - 1 else 1)).toNat, ?_, ?_, ?_⟩ <;> split <;> split <;> omega
    rw [hn]
    refine ⟨_, rfl, by omega, by omega, ?_⟩
    rw [Int.toNat_natCast]
    have fresh : ∀ {H' : Hp}, Same H6 H' → (∀ b, H' b = none → H6 b = none) → True := fun _ _ => trivial
    refine for_range (lo := 0) (fun i σ H' => ∃ (as : List (Addr × Ln)) (gs : List (Addr × List Str)) (y2 y7 : Option V), σ = [some (.ref scr), some (.ref p), y2, some (.ref A), some (.int v), some (.ref L), some (.ref R), y7, none, none, none] ∧ Same H6 H' ∧ H' L = some (.lst (as.map fun a => V.ref a.1)) ∧ H' R = some (.lst (gs.map fun g => V.ref g.1)) ∧
        (∀ a ∈ as, Full (fun b => b ≠ L ∧ b ≠ R) H' a.1 a.2) ∧ (∀ g ∈ gs, H' g.1 = some (.lst (g.2.map V.str)) ∧ Asc g.2 ∧ (∀ x ∈ g.2, x ∈ ks) ∧ g.1 ≠ L ∧ g.1 ≠ R) ∧ as.length = i ∧ gs.length = i ∧ Rests (as.map (·.2)) (gs.map (·.2)))
      ⟨[], [], none, none, rfl, z1.trans z2, eL0, upd_same, (fun _ h => nomatch h), (fun _ h => nomatch h), rfl, rfl, ⟨(fun _ _ h => nomatch h), (fun _ _ h => nomatch h), fun _ _ h => nomatch h⟩⟩ ?_ ?_
    · rintro i σ H7 hi ⟨as, gs, y2, y7, rfl, s7, eL, eR, fu, eg, al, gl, rest⟩
      refine ⟨_, rfl, _, rfl, 1, 0 + (i : Int), rfl, rfl, scr, n0, 1 + i, ?_, sq_same hS (s6.trans s7), fun H8 p8 s8 np8 st8 => ?_⟩
      · rw [show ((1 + i : Nat) : Int) = 1 + (0 + (i : Int)) by omega] <;> rfl
      refine ⟨_, rfl, _, rfl, p8, A, ks, i, ?_, st8, s8 _ _ (s7 _ _ eA6), (ne_of_none (s7 _ _ eA6) np8), by omega, by omega, by omega, fun H9 l ln k9 nl fl bk rk => ?_⟩
      · show [V.ref p8, V.ref A, V.int (0 + (i : Int))] ++ [] = _
        rw [Int.zero_add] <;> rfl
      have s79 : Same H7 H9 := keep_same s8 k9 np8
      have eL9 := s79 _ _ eL
      have eR9 := s79 _ _ eR
      have liv : ∀ b, H8 b = none → b ≠ L ∧ b ≠ R := fun b n => ⟨fun z => (by rw [z, s8 _ _ eL] at n; cases n), fun z => (by rw [z, s8 _ _ eR] at n; cases n)⟩
      have fl' : Full (fun b => b ≠ L ∧ b ≠ R) H9 l ln := fl.imp (fun b _ n _ => liv b n) fun _ _ _ e => e
      refine ⟨_, rfl, .inl ⟨rfl, _, sl_map eL9⟩, _, rfl, L, _, _, rfl, rfl, eL9, by rw [List.length_map]; exact small1000 (by omega), ?_⟩
      rw [show (as.map fun a => V.ref a.1) ++ [V.ref l] = (as ++ [(l, ln)]).map fun a => V.ref a.1 by rw [List.map_append] <;> rfl]
      have eR10 : (upd H9 L (.lst ((as ++ [(l, ln)]).map fun a => V.ref a.1))) R = some (.lst (gs.map fun g => V.ref g.1)) := by rw [upd_ne LR.symm]; exact eR9
      have fu10 : ∀ a ∈ as ++ [(l, ln)], Full (fun b => b ≠ L ∧ b ≠ R) (upd H9 L (.lst ((as ++ [(l, ln)]).map fun a => V.ref a.1))) a.1 a.2 := fun a ha => by
        rcases List.mem_append.mp ha with z | z
        · exact ((fu a z).same s79).upd fun q => q.1 rfl
        · rw [List.mem_singleton.mp z]
          exact fl'.upd fun q => q.1 rfl
      have eg10 : ∀ g ∈ gs, (upd H9 L (.lst ((as ++ [(l, ln)]).map fun a => V.ref a.1))) g.1 = some (.lst (g.2.map V.str)) := fun g hg => by
        rw [upd_ne (eg g hg).2.2.2.1]
        exact s79 _ _ (eg g hg).1
      refine ⟨_, rfl, .inl ⟨rfl, _, sl_map eR10⟩, _, rfl, _, rfl, l, R, ln, gs, ks, rfl, (fu10 (l, ln) (List.mem_append_right _ (by simp))).at, eR10, fun g hg => ⟨eg10 g hg, (eg g hg).2.1, (eg g hg).2.2.1⟩, by omega, by rw [gl]; exact bk, fun H11 ww ws s11 nw ew asc mem => ?_⟩
      have eR11 := s11 _ _ eR10
      have wR : ww ≠ R := (ne_of_none eR10 nw).symm
      have wL : ww ≠ L := fun z => by rw [z, upd_same] at nw; cases nw
      refine ⟨R, _, _, rfl, rfl, eR11, by rw [List.length_map]; exact small1000 (by omega), as ++ [(l, ln)], gs ++ [(ww, ws)], _, _, rfl, ?_, ?_, ?_, fun a ha => ((fu10 a ha).same s11).upd fun q => q.2 rfl, fun g hg => ?_, by rw [List.length_append, al] <;> rfl, by rw [List.length_append, gl] <;> rfl, ?_⟩
      · exact same_at ((same_at (s7.trans s79) nL).trans s11) nR6
      · rw [upd_ne LR]
        exact s11 _ _ upd_same
      · rw [upd_same, List.map_append] <;> rfl
      · rcases List.mem_append.mp hg with z | z
        · obtain ⟨g1, g2, g3, g4, g5⟩ := eg g z
          exact ⟨by rw [upd_ne g5]; exact s11 _ _ (eg10 g z), g2, g3, g4, g5⟩
        · rw [List.mem_singleton.mp z]
          refine ⟨by rw [upd_ne wR]; exact ew, asc, fun x hx => ?_, wL, wR⟩
          have hx2 := (mem x).mp hx
          cases ln with
          | void => exact hx2.elim
          | rule key => rw [show x = key from hx2]; exact rk key rfl
          | join a b =>
            have sub : ∀ q, x ∈ (gs.map (·.2)).getD q [] → x ∈ ks := fun q hq => by
              rw [List.getD_eq_getElem?_getD, List.getElem?_map] at hq
              cases c : gs[q]? with
              | none => rw [c] at hq; cases hq
              | some g => rw [c] at hq; exact (eg g (List.mem_of_getElem? c)).2.2.1 x hq
            exact (show x ∈ (gs.map (·.2)).getD (a - 1) [] ∨ x ∈ (gs.map (·.2)).getD (b - 1) [] from hx2).elim (sub _) (sub _)
      · rw [List.map_append, List.map_append]
        exact rest.snoc (by rw [List.length_map, List.length_map]; omega) asc mem (by rw [List.length_map, al]; exact bk)
    rintro σ H7 ⟨as, gs, y2, y7, rfl, s7, eL, eR, fu, eg, al, gl, rests⟩
    have hS7 := sq_same hS (s6.trans s7)
    have st7 := strm_same st6 s7
    clear eL0 z1 z2 eA6 st6 hn
    -- what is handed
    refine ⟨_, rfl, L, rfl, ⟨_, sl_map eL⟩, fun D nD => ?_⟩
    refine lc_list (xs := as.map fun a => V.ref a.1) (fun i H' => ∃ cs : List (Addr × Ln), Same H7 H' ∧ H' D = some (.lst (cs.map fun c => V.ref c.1)) ∧ cs.map (·.2) = (as.take i).map (·.2) ∧ (∀ c ∈ cs, Full (fun b => b ≠ D) H' c.1 c.2) ∧ Paired (Twn (fun b => b ≠ D) H' 5) (cs.map fun c => V.ref c.1) ((as.take i).map fun c => V.ref c.1))
      ⟨[], same_new nD, upd_same, rfl, (fun _ h => nomatch h), .nil⟩ (fun i H' _ h => by obtain ⟨_, h, _⟩ := h; exact sl_map (h _ _ eL)) ?_ ?_
    · rintro i x H8 hx ⟨cs, s8, eD, sh, fc, tw⟩
      rw [List.getElem?_map] at hx
      obtain ⟨a, ha, rfl⟩ := Option.map_eq_some_iff.mp hx
      have am := List.mem_of_getElem? ha
      have hi := (List.getElem?_eq_some_iff.mp ha).1
      have cl : cs.length = i := by
        have := congrArg List.length sh
        rw [List.length_map, List.length_map, List.length_take] at this
        omega
      have old : Full (fun b => b ≠ D) H8 a.1 a.2 := ((fu a am).live.imp (fun b _ n _ => fun z : b = D => n.2 (by rw [z]; exact nD)) fun _ _ _ e => e).same s8
      refine ⟨rfl, _, rfl, _, a.1, a.2, rfl, old, (fun b n z => by rw [show b = D from z, eD] at n; cases n), fun H9 u s9 nu fu9 t9 => ?_⟩
      refine ⟨_, s9 _ _ eD, by rw [List.length_map]; exact small1000 (by omega), cs ++ [(u, a.2)], same_at (s8.trans s9) nD, ?_, ?_, fun c hc => ?_, ?_⟩
      · rw [upd_same, List.map_append] <;> rfl
      · rw [List.map_append, sh, List.take_add_one, ha, List.map_append] <;> rfl
      · rcases List.mem_append.mp hc with z | z
        · exact ((fc c z).same s9).upd fun q => q rfl
        · rw [List.mem_singleton.mp z]
          exact fu9.upd fun q => q rfl
      · rw [List.map_append, List.take_add_one, ha, List.map_append]
        exact paired_snoc (paired_imp (fun _ _ h => (Twn.same h s9).upd fun q => q rfl) tw) (t9.upd fun q => q rfl)
    rintro H8 ⟨cs, s8, eD, sh, fc, tw⟩
    rw [List.length_map, List.take_length] at sh tw
    have cl : cs.length = n := by
      have := congrArg List.length sh
      rw [List.length_map, List.length_map] at this
      omega
    have restD : Rests (cs.map (·.2)) (gs.map (·.2)) := by rw [sh]; exact rests
    have lnsD : Lns H8 D cs := ⟨eD, fun c hc => (fc c hc).at⟩
    have eg8 : ∀ g ∈ gs, H8 g.1 = some (.lst (g.2.map V.str)) := fun g hg => s8 _ _ (eg g hg).1
    have eR8 := s8 _ _ eR
    have eL8 := s8 _ _ eL
    have st8 := strm_same st7 s8
    have gl4 : ∀ g ∈ gs, g.2.length ≤ 900 := fun g hg => by
      have := len_le (eg g hg).2.1.nd (eg g hg).2.2.1
      omega
    obtain ⟨m, hm⟩ : ∃ m, m = cs.length / 2 := ⟨_, rfl⟩
    refine ⟨_, rfl, _, rfl, D, _, rfl, .inl (sl_map eD), _, 2, rfl, rfl, ⟨by decide, by decide⟩, _, rfl, D, _, rfl, sl_map eD, fun hf nh => ?_⟩
    rw [List.length_map, show ((cs.length : Nat) : Int) / 2 = ((m : Nat) : Int) by omega, cutV_to, ← List.map_take]
    have s9 := same_new (o := HO.lst ((cs.take m).map fun c => V.ref c.1)) nh
    have lnsH : Lns (upd H8 hf (.lst ((cs.take m).map fun c => V.ref c.1))) hf (cs.take m) := ⟨upd_same, fun c hc => ((fc c (List.mem_of_mem_take hc)).at).same s9⟩
    have restH : Rests ((cs.take m).map (·.2)) (gs.map (·.2)) := by rw [List.map_take]; exact restD.take m
    have hl : (cs.take m).length = m := by rw [List.length_take]; omega
    replace lnsD := lnsD.same s9
    replace eR8 := s9 _ _ eR8
    replace eL8 := s9 _ _ eL8
    replace st8 := strm_same st8 s9
    replace eD := s9 _ _ eD
    replace eg8 : ∀ g ∈ gs, (upd H8 hf (.lst ((cs.take m).map fun c => V.ref c.1))) g.1 = some (.lst (g.2.map V.str)) := fun g hg => s9 _ _ (eg8 g hg)
    replace tw := paired_imp (fun _ _ h => Twn.same h s9) tw
    generalize upd H8 hf (.lst ((cs.take m).map fun c => V.ref c.1)) = H9 at lnsD lnsH eR8 eL8 st8 eD eg8 tw s9 ⊢
    refine ⟨_, rfl, L, _, rfl, .inl (sl_map eL8), _, rfl, by omega, ?_, ?_⟩
    · rw [List.length_map]; omega
    rw [List.length_map, Int.toNat_natCast]
    refine for_range (lo := 0) (fun i σ H' => ∃ y2 : Option V, σ = [some (.ref scr), some (.ref p), y2, some (.ref A), some (.int v), some (.ref L), some (.ref R), y7, some (.ref D), some (.ref hf), none] ∧ Same H9 H') ⟨_, rfl, fun _ _ e => e⟩ ?_ ?_
    · rintro i σ H10 hi ⟨y2, rfl, s10⟩
      obtain ⟨g, hg⟩ : ∃ g, gs[i]? = some g := ⟨gs[i], List.getElem?_eq_getElem (by omega)⟩
      have gm := List.mem_of_getElem? hg
      have gd : (gs.map (·.2)).getD (i + 1 - 1) [] = g.2 := by rw [Nat.add_sub_cancel, List.getD_eq_getElem?_getD, List.getElem?_map, hg] <;> rfl
      have aR : atI (gs.map fun g => V.ref g.1) (0 + (i : Int)) = some (.ref g.1) := at_eq (j := i) (by omega) (by rw [List.getElem?_map, hg] <;> rfl)
      have num : ∀ b : Addr, [V.ref b, V.int (0 + (i : Int) + 1), V.ref g.1] = [.ref b, .int ((i + 1 : Nat) : Int), .ref g.1] := fun b => by rw [show ((i + 1 : Nat) : Int) = 0 + (i : Int) + 1 by omega]
      refine ⟨_, rfl, _, rfl, 0 + (i : Int), 1, rfl, rfl, _, rfl, _, rfl, R, _, _, .ref g.1, rfl, rfl, sl_map (s10 _ _ eR8), aR, D, g.1, cs, gs.map (·.2), i + 1, num D, lnsD.same s10, restD, by omega, by omega, by omega, by rw [gd]; exact s10 _ _ (eg8 g gm), by rw [gd]; exact gl4 g gm, fun H11 s11 => ⟨_, rfl, ite_both (fun c => absurd c (by decide)) fun _ => ?_⟩⟩
      have t11 := s10.trans s11
      refine ⟨_, rfl, _, rfl, hf, _, rfl, .inl (sl_map (t11 _ _ lnsH.1)), _, _, rfl, rfl, _, rfl, ite_both (fun c => ?_) fun _ => iteF ⟨_, rfl, t11⟩⟩
      have im : i < m := by
        have := of_decide_eq_true c
        rw [List.length_map, hl] at this
        omega
      refine ⟨_, rfl, _, rfl, 0 + (i : Int), 1, rfl, rfl, _, rfl, _, rfl, R, _, _, .ref g.1, rfl, rfl, sl_map (t11 _ _ eR8), aR, hf, g.1, cs.take m, gs.map (·.2), i + 1, num hf, lnsH.same t11, restH, by omega, by omega, by omega, by rw [gd]; exact t11 _ _ (eg8 g gm), by rw [gd]; exact gl4 g gm, fun H12 s12 => ⟨_, rfl, ite_both (fun c => absurd c (by decide)) fun _ => ⟨_, rfl, t11.trans s12⟩⟩⟩
    rintro σ H10 ⟨y2, rfl, s10⟩
    have eL10 := s10 _ _ eL8
    have eD10 := s10 _ _ eD
    have st10 := strm_same st8 s10
    have eH10 := s10 _ _ lnsH.1
    replace tw := paired_imp (fun _ _ h => Twn.same h s10) tw
    -- numbers of no line
    refine ⟨_, rfl, _, rfl, L, _, rfl, .inl (sl_map eL10), _, 1, rfl, rfl, 10, 30, rfl, rfl, ⟨by decide, by decide, by decide⟩, by show 4 ≤ sizeLine; decide, fun q nq => ?_⟩
    obtain ⟨big, hbig, b40⟩ : ∃ big : Int, big = 10 ^ (30 : Int).toNat ∧ 100 < big := ⟨_, rfl, by decide⟩
    rw [show (fun (i j : Int) => V.int (i ^ j.toNat)) 10 30 = V.int big by rw [hbig]]
    have s11 := same_new (o := HO.lst [V.int 0, (fun i => V.int (-i)) 1, (fun (i j : Int) => V.int (i + j)) (((as.map fun a => V.ref a.1).length : Nat) : Int) 1, V.int big]) nq
    refine ⟨q, rfl, ⟨_, sl_map upd_same⟩, ?_⟩
    refine for_list (xs := [V.int 0, V.int (-1), V.int (((as.map fun a => V.ref a.1).length : Int) + 1), V.int big]) (fun i σ H' => ∃ y10 : Option V, σ = [some (.ref scr), some (.ref p), y2, some (.ref A), some (.int v), some (.ref L), some (.ref R), y7, some (.ref D), some (.ref hf), y10] ∧ Same H10 H' ∧ H' q = some (.lst [V.int 0, V.int (-1), V.int (((as.map fun a => V.ref a.1).length : Int) + 1), V.int big]))
      ⟨none, rfl, s11, upd_same⟩ (fun i σ H' _ h => by obtain ⟨_, _, _, h⟩ := h; exact sl_map h) ?_ ?_
    · rintro i x σ H11 hx ⟨y10, rfl, s11, eq⟩
      obtain ⟨z, rfl, zo⟩ : ∃ z : Int, x = .int z ∧ (z < 1 ∨ (40 : Int) < z ∨ z = (as.length : Int) + 1) := by
        rw [List.length_map] at hx
        match i, hx with
        | 0, hx => exact ⟨0, (Option.some.inj hx).symm, .inl (by decide)⟩
        | 1, hx => exact ⟨-1, (Option.some.inj hx).symm, .inl (by decide)⟩
        | 2, hx => exact ⟨_, (Option.some.inj hx).symm, .inr (.inr rfl)⟩
        | 3, hx => exact ⟨big, (Option.some.inj hx).symm, .inr (.inl (by omega))⟩
        | i + 4, hx => cases hx
      refine ⟨_, rfl, _, rfl, D, _, z, rfl, s11 _ _ eD10, by rw [List.length_map]; omega, fun H12 s12 => ⟨_, rfl, ite_both (fun c => absurd c (by decide)) fun _ => ?_⟩⟩
      refine ⟨by show 0 ≤ sizeLine; decide, fun u nu => ?_⟩
      have s13 := same_new (o := HO.lst []) nu
      exact ⟨_, rfl, u, [], z, rfl, upd_same, (by show z < 1 ∨ (0 : Int) < z; omega), fun H14 s14 => ⟨_, rfl, ite_both (fun c => absurd c (by decide)) fun _ => ⟨_, rfl, ((s11.trans s12).trans s13).trans s14, ((s12.trans s13).trans s14) _ _ eq⟩⟩⟩
    rintro σ H11 ⟨y10, rfl, s11, _⟩
    refine ⟨_, rfl, _, rfl, hf, _, rfl, .inl (sl_map (s11 _ _ eH10)), _, 1, rfl, rfl, hf, _, _, rfl, s11 _ _ eH10, .inr (by omega), fun H12 s12 => ⟨_, rfl, ite_both (fun c => absurd c (by decide)) fun _ => ?_⟩⟩
    have t12 := s11.trans s12
    refine ⟨_, rfl, _, rfl, D, L, _, _, rfl, rfl, t12 _ _ eD10, t12 _ _ eL10, ⟨_, 5, by decide, paired_imp (fun _ _ h => Twn.same h t12) tw⟩, _, rfl, ite_both (fun c => nomatch c) fun _ => ?_⟩
    refine ⟨_, rfl, p, 16, rfl, strm_same st10 t12, by decide, by decide, fun H13 e o13 st13 e0 e1 => ⟨_, _, rfl, rfl, _, rfl, ite_both (fun _ => k _) fun _ => ?_⟩⟩
    refine ⟨_, rfl, p, 1500, rfl, st13, by decide, by decide, fun H14 z o14 st14 z0 z1 => ?_⟩
    obtain ⟨z, rfl⟩ := Int.eq_ofNat_of_zero_le z0
    refine ⟨1, (z : Int), rfl, rfl, 1 + z, ?_, by omega, fun H' => k H'⟩
    rw [show ((1 + z : Nat) : Int) = 1 + (z : Int) by omega] <;> rfl
end
end K46

set_option Elab.async false
set_option linter.all false
set_option maxRecDepth 100000
set_option maxHeartbeats 4000000
namespace K46
open PySem PySem.Spec PyProof.Rows L2 Cs CsX
/-! ### what the top has written -/
theorem all_mk {l : PySem.W.OpenLaw} {w : World} {K : PySem.W.Frag} {h : Heap} {mg : Str → Option Value} {fa f1 f2 f3 f4 f5 f6 f7 f8 f9 f10 f11 f12 f13 f14 f15 f16 f17 f18 f19 f20 f21 e0 e1 e2 e3 i0 : Addr} (X : K.In h) (G : h.Ns mainGlobals mg) (hfa : mg "law" = some (.ref fa))
    {od1 an1 od2 an2 od3 an3 od4 an4 od5 an5 od6 an6 od7 an7 od8 an8 od9 an9 od10 an10 od11 an11 od12 an12 od13 an13 od14 an14 od15 an15 od16 an16 od17 an17 od18 an18 od19 an19 od20 an20 od21 an21 : Option Addr} {sl1 sl2 sl3 sl4 sl5 sl6 sl7 sl8 sl9 sl10 sl11 sl12 sl13 sl14 sl15 sl16 sl17 sl18 sl19 sl20 sl21 : Array (Option Value)}
    {oc1 kV1 dc1 pm1 cd1 ct1 oc2 kV2 dc2 pm2 cd2 ct2 oc3 kV3 dc3 pm3 cd3 ct3 oc4 kV4 dc4 pm4 cd4 ct4 oc5 kV5 dc5 pm5 cd5 ct5 oc6 kV6 dc6 pm6 cd6 ct6 oc7 kV7 dc7 pm7 cd7 ct7 oc8 kV8 dc8 pm8 cd8 ct8 oc9 kV9 dc9 pm9 cd9 ct9 oc10 kV10 dc10 pm10 cd10 ct10 oc11 kV11 dc11 pm11 cd11 ct11 oc12 kV12 dc12 pm12 cd12 ct12 oc13 kV13 dc13 pm13 cd13 ct13 oc14 kV14 dc14 pm14 cd14 ct14 oc15 kV15 dc15 pm15 cd15 ct15 oc16 kV16 dc16 pm16 cd16 ct16 oc17 kV17 dc17 pm17 cd17 ct17 oc18 kV18 dc18 pm18 cd18 ct18 oc19 kV19 dc19 pm19 cd19 ct19 oc20 kV20 dc20 pm20 cd20 ct20 oc21 kV21 dc21 pm21 cd21 ct21 : Value}
    {iod0 ian0 : Option Addr} {isl0 : Array (Option Value)} {ioc0 ikV0 idc0 ipm0 icd0 ict0 : Value} {nm0 q0 : Str} {N0 : Addr} {bs0 : List Value} {sn0 : List Str} {sub0 : List Value} {ab0 : Bool} {col0 : Option Bool} {dd0 : Option Addr} {m00 m10 m20 m30 m50 : Option Value}
    (a1 : PySem.W.nsIn K mainGlobals "_law_is_integer" = some (some (.ref f1))) (l1 : K.lookup f1 = some ⟨oc1, od1, .func (PySem.W.fnOf "_law_is_integer" "_law_is_integer" (defArgs sIsInt) (defBody sIsInt) (defScope sIsInt) .none kV1 dc1 pm1 an1 cd1 ct1), sl1⟩) (c1 : PySem.W.codeIn K cd1 "_law_is_integer" = true) (k1 : PySem.W.keepIn K (.ref f1) = true)
    (a2 : PySem.W.nsIn K mainGlobals "_law_stream" = some (some (.ref f2))) (l2 : K.lookup f2 = some ⟨oc2, od2, .func (PySem.W.fnOf "_law_stream" "_law_stream" (defArgs sStream) (defBody sStream) (defScope sStream) .none kV2 dc2 pm2 an2 cd2 ct2), sl2⟩) (c2 : PySem.W.codeIn K cd2 "_law_stream" = true) (k2 : PySem.W.keepIn K (.ref f2) = true)
    (a3 : PySem.W.nsIn K mainGlobals "_law_next" = some (some (.ref f3))) (l3 : K.lookup f3 = some ⟨oc3, od3, .func (PySem.W.fnOf "_law_next" "_law_next" (defArgs sDraw) (defBody sDraw) (defScope sDraw) .none kV3 dc3 pm3 an3 cd3 ct3), sl3⟩) (c3 : PySem.W.codeIn K cd3 "_law_next" = true) (k3 : PySem.W.keepIn K (.ref f3) = true)
    (a4 : PySem.W.nsIn K mainGlobals "_law_copied" = some (some (.ref f4))) (l4 : K.lookup f4 = some ⟨oc4, od4, .func (PySem.W.fnOf "_law_copied" "_law_copied" (defArgs sCopied) (defBody sCopied) (defScope sCopied) .none kV4 dc4 pm4 an4 cd4 ct4), sl4⟩) (c4 : PySem.W.codeIn K cd4 "_law_copied" = true) (k4 : PySem.W.keepIn K (.ref f4) = true)
    (a5 : PySem.W.nsIn K mainGlobals "_law_word" = some (some (.ref f5))) (l5 : K.lookup f5 = some ⟨oc5, od5, .func (PySem.W.fnOf "_law_word" "_law_word" (defArgs sWrd) (defBody sWrd) (defScope sWrd) .none kV5 dc5 pm5 an5 cd5 ct5), sl5⟩) (c5 : PySem.W.codeIn K cd5 "_law_word" = true) (k5 : PySem.W.keepIn K (.ref f5) = true)
    (a6 : PySem.W.nsIn K mainGlobals "_law_number" = some (some (.ref f6))) (l6 : K.lookup f6 = some ⟨oc6, od6, .func (PySem.W.fnOf "_law_number" "_law_number" (defArgs sNum) (defBody sNum) (defScope sNum) .none kV6 dc6 pm6 an6 cd6 ct6), sl6⟩) (c6 : PySem.W.codeIn K cd6 "_law_number" = true) (k6 : PySem.W.keepIn K (.ref f6) = true)
    (a7 : PySem.W.nsIn K mainGlobals "_law_drawn_side" = some (some (.ref f7))) (l7 : K.lookup f7 = some ⟨oc7, od7, .func (PySem.W.fnOf "_law_drawn_side" "_law_drawn_side" (defArgs sDsd) (defBody sDsd) (defScope sDsd) .none kV7 dc7 pm7 an7 cd7 ct7), sl7⟩) (c7 : PySem.W.codeIn K cd7 "_law_drawn_side" = true) (k7 : PySem.W.keepIn K (.ref f7) = true)
    (a8 : PySem.W.nsIn K mainGlobals "_law_drawn_sides" = some (some (.ref f8))) (l8 : K.lookup f8 = some ⟨oc8, od8, .func (PySem.W.fnOf "_law_drawn_sides" "_law_drawn_sides" (defArgs sDss) (defBody sDss) (defScope sDss) .none kV8 dc8 pm8 an8 cd8 ct8), sl8⟩) (c8 : PySem.W.codeIn K cd8 "_law_drawn_sides" = true) (k8 : PySem.W.keepIn K (.ref f8) = true)
    (a9 : PySem.W.nsIn K mainGlobals "_law_drawn_certificate" = some (some (.ref f9))) (l9 : K.lookup f9 = some ⟨oc9, od9, .func (PySem.W.fnOf "_law_drawn_certificate" "_law_drawn_certificate" (defArgs sDct) (defBody sDct) (defScope sDct) .none kV9 dc9 pm9 an9 cd9 ct9), sl9⟩) (c9 : PySem.W.codeIn K cd9 "_law_drawn_certificate" = true) (k9 : PySem.W.keepIn K (.ref f9) = true)
    (a10 : PySem.W.nsIn K mainGlobals "_law_log_line" = some (some (.ref f10))) (l10 : K.lookup f10 = some ⟨oc10, od10, .func (PySem.W.fnOf "_law_log_line" "_law_log_line" (defArgs sLgl) (defBody sLgl) (defScope sLgl) .none kV10 dc10 pm10 an10 cd10 ct10), sl10⟩) (c10 : PySem.W.codeIn K cd10 "_law_log_line" = true) (k10 : PySem.W.keepIn K (.ref f10) = true)
    (a11 : PySem.W.nsIn K mainGlobals "_law_certificate_copy" = some (some (.ref f11))) (l11 : K.lookup f11 = some ⟨oc11, od11, .func (PySem.W.fnOf "_law_certificate_copy" "_law_certificate_copy" (defArgs sCcc) (defBody sCcc) (defScope sCcc) .none kV11 dc11 pm11 an11 cd11 ct11), sl11⟩) (c11 : PySem.W.codeIn K cd11 "_law_certificate_copy" = true) (k11 : PySem.W.keepIn K (.ref f11) = true)
    (a12 : PySem.W.nsIn K mainGlobals "_law_line_copy" = some (some (.ref f12))) (l12 : K.lookup f12 = some ⟨oc12, od12, .func (PySem.W.fnOf "_law_line_copy" "_law_line_copy" (defArgs sLcp) (defBody sLcp) (defScope sLcp) .none kV12 dc12 pm12 an12 cd12 ct12), sl12⟩) (c12 : PySem.W.codeIn K cd12 "_law_line_copy" = true) (k12 : PySem.W.keepIn K (.ref f12) = true)
    (a13 : PySem.W.nsIn K mainGlobals "_law_ascending" = some (some (.ref f13))) (l13 : K.lookup f13 = some ⟨oc13, od13, .func (PySem.W.fnOf "_law_ascending" "_law_ascending" (defArgs sAsc) (defBody sAsc) (defScope sAsc) .none kV13 dc13 pm13 an13 cd13 ct13), sl13⟩) (c13 : PySem.W.codeIn K cd13 "_law_ascending" = true) (k13 : PySem.W.keepIn K (.ref f13) = true)
    (a14 : PySem.W.nsIn K mainGlobals "_law_same_words" = some (some (.ref f14))) (l14 : K.lookup f14 = some ⟨oc14, od14, .func (PySem.W.fnOf "_law_same_words" "_law_same_words" (defArgs sSwd) (defBody sSwd) (defScope sSwd) .none kV14 dc14 pm14 an14 cd14 ct14), sl14⟩) (c14 : PySem.W.codeIn K cd14 "_law_same_words" = true) (k14 : PySem.W.keepIn K (.ref f14) = true)
    (a15 : PySem.W.nsIn K mainGlobals "_law_rests" = some (some (.ref f15))) (l15 : K.lookup f15 = some ⟨oc15, od15, .func (PySem.W.fnOf "_law_rests" "_law_rests" (defArgs sRst) (defBody sRst) (defScope sRst) .none kV15 dc15 pm15 an15 cd15 ct15), sl15⟩) (c15 : PySem.W.codeIn K cd15 "_law_rests" = true) (k15 : PySem.W.keepIn K (.ref f15) = true)
    (a16 : PySem.W.nsIn K mainGlobals "_used_by" = some (some (.ref f16))) (l16 : K.lookup f16 = some ⟨oc16, od16, .func (PySem.W.fnOf "_used_by" "_used_by" (defArgs sUsd) (defBody sUsd) (defScope sUsd) .none kV16 dc16 pm16 an16 cd16 ct16), sl16⟩) (c16 : PySem.W.codeIn K cd16 "_used_by" = true) (k16 : PySem.W.keepIn K (.ref f16) = true)
    (a17 : PySem.W.nsIn K mainGlobals "rests_on" = some (some (.ref f17))) (l17 : K.lookup f17 = some ⟨oc17, od17, .func (PySem.W.fnOf "rests_on" "rests_on" (defArgs sRon) (defBody sRon) (defScope sRon) .none kV17 dc17 pm17 an17 cd17 ct17), sl17⟩) (c17 : PySem.W.codeIn K cd17 "rests_on" = true) (k17 : PySem.W.keepIn K (.ref f17) = true)
    (a18 : PySem.W.nsIn K mainGlobals "_law_keys_hold" = some (some (.ref f18))) (l18 : K.lookup f18 = some ⟨oc18, od18, .func (PySem.W.fnOf "_law_keys_hold" "_law_keys_hold" (defArgs sKhd) (defBody sKhd) (defScope sKhd) .none kV18 dc18 pm18 an18 cd18 ct18), sl18⟩) (c18 : PySem.W.codeIn K cd18 "_law_keys_hold" = true) (k18 : PySem.W.keepIn K (.ref f18) = true)
    (a19 : PySem.W.nsIn K mainGlobals "_law_long_holds" = some (some (.ref f19))) (l19 : K.lookup f19 = some ⟨oc19, od19, .func (PySem.W.fnOf "_law_long_holds" "_law_long_holds" (defArgs sLhd) (defBody sLhd) (defScope sLhd) .none kV19 dc19 pm19 an19 cd19 ct19), sl19⟩) (c19 : PySem.W.codeIn K cd19 "_law_long_holds" = true) (k19 : PySem.W.keepIn K (.ref f19) = true)
    (a20 : PySem.W.nsIn K mainGlobals "_law_unknown" = some (some (.ref f20))) (l20 : K.lookup f20 = some ⟨oc20, od20, .func (PySem.W.fnOf "_law_unknown" "_law_unknown" (defArgs sUnk) (defBody sUnk) (defScope sUnk) .none kV20 dc20 pm20 an20 cd20 ct20), sl20⟩) (c20 : PySem.W.codeIn K cd20 "_law_unknown" = true) (k20 : PySem.W.keepIn K (.ref f20) = true)
    (a21 : PySem.W.nsIn K mainGlobals "law" = some (some (.ref f21))) (l21 : K.lookup f21 = some ⟨oc21, od21, .func (PySem.W.fnOf "law" "law" (defArgs sLaw) (defBody sLaw) (defScope sLaw) .none kV21 dc21 pm21 an21 cd21 ct21), sl21⟩) (c21 : PySem.W.codeIn K cd21 "law" = true) (k21 : PySem.W.keepIn K (.ref f21) = true)
    (cg0 : PySem.W.nsIn K mainGlobals "UnknownLine" = some (some (.ref e0)))
    (cg1 : PySem.W.nsIn K mainGlobals "UnknownKey" = some (some (.ref e1)))
    (cg2 : PySem.W.nsIn K mainGlobals "BadLine" = some (some (.ref e2)))
    (cg3 : PySem.W.nsIn K mainGlobals "DeskError" = some (some (.ref e3)))
    (x0 : K.lookup e0 = some (excClassObj nm0 q0 e0 N0 bs0 [.ref e3, .type "ValueError", .type "Exception", .type "BaseException", .type "object"] true sn0 sub0 ab0 col0 dd0 m00 m10 m20 m30 m50 "ValueError.__new__"))
    (xsa0 : PySem.W.findIn K (.ref e0) "__setattr__" = some (some (.builtin "object.__setattr__")))
    (xga0 : PySem.W.findIn K (.ref e0) "__getattribute__" = some (some (.builtin "BaseException.__getattribute__")))
    (xgg0 : PySem.W.findIn K (.ref e0) "__getattr__" = some none)
    (xf0_0 : PySem.W.findIn K (.ref e0) "number" = some none)
    (xin0 : PySem.W.findIn K (.ref e0) "__init__" = some (some (.ref i0)))
    (xti0 : PySem.W.typeIn K (.ref i0) = some (.type "function"))
    (xli0 : K.lookup i0 = some ⟨ioc0, iod0, .func (PySem.W.fnOf "__init__" "UnknownLine.__init__" (defArgs sUle) (defBody sUle) (defScope sUle) .none ikV0 idc0 ipm0 ian0 icd0 ict0), isl0⟩)
    (xci0 : PySem.W.codeIn K icd0 "UnknownLine.__init__" = true)
    (xki0 : PySem.W.keepIn K (.ref i0) = true)
    (xkc0 : PySem.W.keepIn K (.ref e0) = true)
    (xec0 : PySem.W.subIn K (.ref e0) (.type "BaseException") = some true)
    (xtc0 : PySem.W.typeIn K (.ref e0) = some (.type "type"))
    (xhc0 : PySem.W.hasDictIn K e0 = true)
    (xsc0 : PySem.W.subIn K (.ref e0) (.ref e0) = some true)
    (xha0 : PySem.W.findIn K (.ref e0) "__class__" = some (some (.builtin "object.__class__")))
    (xhn0 : PySem.W.specialIn K (.builtin "object.__class__") "__get__" = some (some (.builtin "getset_descriptor.__get__")))
    (xht0 : PySem.W.takesIn K (.builtin "object.__class__") = some true)
    (xhm0 : PySem.W.mroIn K e0 (.type "object") = some true)
    (rwg0 : PySem.W.findIn K (.ref e0) "__getattribute__" = some (some (.builtin "BaseException.__getattribute__")))
    (rwk0 : PySem.W.findIn K (.ref e0) "__getattr__" = some none)
    (rws0 : PySem.W.subIn K (.ref e0) (.type "BaseException") = some true)
    (rwd0 : PySem.W.hasDictIn K e0 = true)
    (rwa0 : PySem.W.findIn K (.ref e0) "__class__" = some (some (.builtin "object.__class__")))
    (rwn0 : PySem.W.specialIn K (.builtin "object.__class__") "__get__" = some (some (.builtin "getset_descriptor.__get__")))
    (rwt0 : PySem.W.takesIn K (.builtin "object.__class__") = some true)
    (rwm0 : PySem.W.mroIn K e0 (.type "object") = some true)
    (rwy0 : PySem.W.typeIn K (.ref e0) = some (.type "type"))
    (rwc0 : PySem.W.subIn K (.ref e0) (.ref e0) = some true)
    (rwb0 : PySem.W.kitOne K (.ref e0) (.ref e3) = some true)
    (rwv0 : PySem.W.kitOne K (.ref e0) (.type "ValueError") = some true)
    (rq0_0 : PySem.W.kitOne K (.ref e0) (.ref e1) = some false)
    (rq0_1 : PySem.W.kitOne K (.ref e0) (.ref e2) = some false)
    (z1 : PySem.W.nsIn K mainGlobals "sorted" = some none) (z2 : PySem.W.nsIn K mainGlobals "set" = some none) (z3 : PySem.W.nsIn K mainGlobals "len" = some none) (z4 : PySem.W.nsIn K mainGlobals "isinstance" = some none) (z5 : PySem.W.nsIn K mainGlobals "int" = some none) (z6 : PySem.W.nsIn K mainGlobals "bool" = some none) (z7 : PySem.W.nsIn K mainGlobals "list" = some none) (z8 : PySem.W.nsIn K mainGlobals "all" = some none) (z9 : PySem.W.nsIn K mainGlobals "range" = some none) (z10 : PySem.W.nsIn K mainGlobals "dict" = some none) (z11 : PySem.W.nsIn K mainGlobals "str" = some none) (z12 : PySem.W.nsIn K mainGlobals "reversed" = some none) (z13 : PySem.W.nsIn K mainGlobals "min" = some none) (z14 : PySem.W.nsIn K mainGlobals "max" = some none) (z15 : PySem.W.nsIn K mainGlobals "ValueError" = some none) :
    ∃ fd : FuncData, (∀ (s : Shared) (v : Value), BindsTo s fd ⟨[v], []⟩ [("_law_script", v)]) ∧ ∀ base : Heap, K.In base → base.Ns mainGlobals mg → FnOk l.prog w K mg base CX0 6 fa fd ["_law_script"] (spLaw K) := by
  have e := hfa.symm.trans (PySem.W.mg_of X G a21)
  cases e
  have B : Bt mg := ⟨PySem.W.mg_none_of X G z1, PySem.W.mg_none_of X G z2, PySem.W.mg_none_of X G z3, PySem.W.mg_none_of X G z4, PySem.W.mg_none_of X G z5, PySem.W.mg_none_of X G z6, PySem.W.mg_none_of X G z7, PySem.W.mg_none_of X G z8, PySem.W.mg_none_of X G z9, PySem.W.mg_none_of X G z10⟩
  have F1 := fun_mk (st := sIsInt) l1 c1 k1
  have b1 := F1.binds (ps := ["_law_actual"]) fun _ _ _ _ _ _ us hl => match us, hl with | [_], _ => rfl
  have F2 := fun_mk (st := sStream) l2 c2 k2
  have b2 := F2.binds (ps := ["_law_script", "_law_k"]) fun _ _ _ _ _ _ us hl => match us, hl with | [_, _], _ => rfl
  have F3 := fun_mk (st := sDraw) l3 c3 k3
  have b3 := F3.binds (ps := ["_law_stream_here", "_law_size"]) fun _ _ _ _ _ _ us hl => match us, hl with | [_, _], _ => rfl
  have F4 := fun_mk (st := sCopied) l4 c4 k4
  have b4 := F4.binds (ps := ["_law_sides"]) fun _ _ _ _ _ _ us hl => match us, hl with | [_], _ => rfl
  have F5 := fun_mk (st := sWrd) l5 c5 k5
  have b5 := F5.binds (ps := ["_law_stream_here"]) fun _ _ _ _ _ _ us hl => match us, hl with | [_], _ => rfl
  have F6 := fun_mk (st := sNum) l6 c6 k6
  have b6 := F6.binds (ps := ["_law_stream_here", "_law_scale"]) fun _ _ _ _ _ _ us hl => match us, hl with | [_, _], _ => rfl
  have F7 := fun_mk (st := sDsd) l7 c7 k7
  have b7 := F7.binds (ps := ["_law_stream_here"]) fun _ _ _ _ _ _ us hl => match us, hl with | [_], _ => rfl
  have F8 := fun_mk (st := sDss) l8 c8 k8
  have b8 := F8.binds (ps := ["_law_stream_here"]) fun _ _ _ _ _ _ us hl => match us, hl with | [_], _ => rfl
  have F9 := fun_mk (st := sDct) l9 c9 k9
  have b9 := F9.binds (ps := ["_law_stream_here"]) fun _ _ _ _ _ _ us hl => match us, hl with | [_], _ => rfl
  have F10 := fun_mk (st := sLgl) l10 c10 k10
  have b10 := F10.binds (ps := ["_law_stream_here", "_law_keys", "_law_size"]) fun _ _ _ _ _ _ us hl => match us, hl with | [_, _, _], _ => rfl
  have F11 := fun_mk (st := sCcc) l11 c11 k11
  have b11 := F11.binds (ps := ["_law_certificate"]) fun _ _ _ _ _ _ us hl => match us, hl with | [_], _ => rfl
  have F12 := fun_mk (st := sLcp) l12 c12 k12
  have b12 := F12.binds (ps := ["_law_line"]) fun _ _ _ _ _ _ us hl => match us, hl with | [_], _ => rfl
  have F13 := fun_mk (st := sAsc) l13 c13 k13
  have b13 := F13.binds (ps := ["_law_names"]) fun _ _ _ _ _ _ us hl => match us, hl with | [_], _ => rfl
  have F14 := fun_mk (st := sSwd) l14 c14 k14
  have b14 := F14.binds (ps := ["_law_actual", "_law_expected"]) fun _ _ _ _ _ _ us hl => match us, hl with | [_, _], _ => rfl
  have F15 := fun_mk (st := sRst) l15 c15 k15
  have b15 := F15.binds (ps := ["_law_line", "_law_rests_here"]) fun _ _ _ _ _ _ us hl => match us, hl with | [_, _], _ => rfl
  have F16 := fun_mk (st := sUsd) l16 c16 k16
  have b16 := F16.binds (ps := ["lines", "number"]) fun _ _ _ _ _ _ us hl => match us, hl with | [_, _], _ => rfl
  have F17 := fun_mk (st := sRon) l17 c17 k17
  have b17 := F17.binds (ps := ["lines", "number"]) fun _ _ _ _ _ _ us hl => match us, hl with | [_, _], _ => rfl
  have F18 := fun_mk (st := sKhd) l18 c18 k18
  have b18 := F18.binds (ps := ["_law_lines", "_law_number_here", "_law_expected"]) fun _ _ _ _ _ _ us hl => match us, hl with | [_, _, _], _ => rfl
  have F19 := fun_mk (st := sLhd) l19 c19 k19
  have b19 := F19.binds (ps := ["_law_size"]) fun _ _ _ _ _ _ us hl => match us, hl with | [_], _ => rfl
  have F20 := fun_mk (st := sUnk) l20 c20 k20
  have b20 := F20.binds (ps := ["_law_lines", "_law_number_here"]) fun _ _ _ _ _ _ us hl => match us, hl with | [_, _], _ => rfl
  have F21 := fun_mk (st := sLaw) l21 c21 k21
  have U0 : Own K mg "UnknownLine" e0 i0 ["number"] := { gC := PySem.W.mg_of X G cg0, oex := ⟨⟨nm0, q0, N0, bs0, _, sn0, sub0, ab0, col0, dd0, m00, m10, m20, m30, m50, x0, rfl⟩, xsa0, xec0, xtc0, xkc0⟩, xf := ⟨xga0, xgg0, xec0, xhc0⟩, iC := xin0, tI := xti0, ex := ⟨xga0, xgg0, xec0, xhc0, xha0, xhn0, xht0, xhm0⟩, te := PySem.W.exm_ref xec0 xhc0 xtc0 xsc0, no := (fun f hf => (List.mem_singleton.mp hf) ▸ xf0_0) }
  have I0 := fun_mk (st := sUle) xli0 xci0 xki0
  have ib0 := I0.binds (ps := ["self", "number"]) fun _ _ _ _ _ _ us hl => match us, hl with | [_, _], _ => rfl
  have W0 : OwnX K mg e0 e3 := ⟨⟨rwg0, rwk0, rws0, rwd0, rwa0, rwn0, rwt0, rwm0⟩, PySem.W.exm_ref rws0 rwd0 rwy0 rwc0, PySem.W.mg_of X G cg3, rwb0, rwv0, PySem.W.mg_none_of X G z15⟩
  have N0 : Not2 K mg e0 e1 e2 := ⟨PySem.W.mg_of X G cg1, PySem.W.mg_of X G cg2, rq0_0, rq0_1⟩
  refine ⟨PySem.W.fnOf "law" "law" (defArgs sLaw) (defBody sLaw) (defScope sLaw) .none kV21 dc21 pm21 an21 cd21 ct21, fun s v => .of_eq rfl, fun base _ _ => ?_⟩
  have Cii : Call l.prog w K mg base 1 "_law_is_integer" f1 _ ["_law_actual"] spIsInt := ⟨ok_isInt F1 B, PySem.W.mg_of X G a1, k1, b1⟩
  have Cst : Call l.prog w K mg base 1 "_law_stream" f2 _ ["_law_script", "_law_k"] (spStream K) := ⟨ok_stream F2 B, PySem.W.mg_of X G a2, k2, b2⟩
  have D : Call l.prog w K mg base 1 "_law_next" f3 _ ["_law_stream_here", "_law_size"] spDraw := ⟨ok_draw F3 B, PySem.W.mg_of X G a3, k3, b3⟩
  have Ccp : Call l.prog w K mg base 1 "_law_copied" f4 _ ["_law_sides"] spCopy := ⟨ok_copied F4 B, PySem.W.mg_of X G a4, k4, b4⟩
  have CWrd : Call l.prog w K mg base 2 "_law_word" f5 _ ["_law_stream_here"] spWrd := ⟨ok_Wrd F5 B  D, PySem.W.mg_of X G a5, k5, b5⟩
  have CNum : Call l.prog w K mg base 2 "_law_number" f6 _ ["_law_stream_here", "_law_scale"] spNum := ⟨ok_Num F6 B  D, PySem.W.mg_of X G a6, k6, b6⟩
  have CDsd : Call l.prog w K mg base 2 "_law_drawn_side" f7 _ ["_law_stream_here"] spDsd := ⟨ok_Dsd F7 B  D, PySem.W.mg_of X G a7, k7, b7⟩
  have CDss : Call l.prog w K mg base 3 "_law_drawn_sides" f8 _ ["_law_stream_here"] spDss := ⟨ok_Dss F8 B  D CWrd CDsd, PySem.W.mg_of X G a8, k8, b8⟩
  have CDct : Call l.prog w K mg base 3 "_law_drawn_certificate" f9 _ ["_law_stream_here"] spDct := ⟨ok_Dct F9 B  D CWrd CNum CDsd, PySem.W.mg_of X G a9, k9, b9⟩
  have CLgl : Call l.prog w K mg base 4 "_law_log_line" f10 _ ["_law_stream_here", "_law_keys", "_law_size"] (spLgl K) := ⟨ok_Lgl F10 B  CDss D CDct CWrd, PySem.W.mg_of X G a10, k10, b10⟩
  have CCcc : Call l.prog w K mg base 1 "_law_certificate_copy" f11 _ ["_law_certificate"] spCcc := ⟨ok_Ccc F11 B  , PySem.W.mg_of X G a11, k11, b11⟩
  have CLcp : Call l.prog w K mg base 2 "_law_line_copy" f12 _ ["_law_line"] spLcp := ⟨ok_Lcp F12 B  Ccp CCcc, PySem.W.mg_of X G a12, k12, b12⟩
  have CAsc : Call l.prog w K mg base 1 "_law_ascending" f13 _ ["_law_names"] spAsc := ⟨ok_Asc F13 B  , PySem.W.mg_of X G a13, k13, b13⟩
  have CSwd : Call l.prog w K mg base 1 "_law_same_words" f14 _ ["_law_actual", "_law_expected"] spSwd := ⟨ok_Swd F14 B (PySem.W.mg_none_of X G z11) , PySem.W.mg_of X G a14, k14, b14⟩
  have CRst : Call l.prog w K mg base 2 "_law_rests" f15 _ ["_law_line", "_law_rests_here"] spRst := ⟨ok_Rst F15 B  CAsc, PySem.W.mg_of X G a15, k15, b15⟩
  have Cus : Call l.prog w K mg base 1 "_used_by" f16 _ ["lines", "number"] spUsd := ⟨ok_Usd F16 B (PySem.W.mg_none_of X G z12), PySem.W.mg_of X G a16, k16, b16⟩
  have CRon : Call l.prog w K mg base 2 "rests_on" f17 _ ["lines", "number"] spRon := ⟨ok_Ron F17 B  Cus, PySem.W.mg_of X G a17, k17, b17⟩
  have CKhd : Call l.prog w K mg base 3 "_law_keys_hold" f18 _ ["_law_lines", "_law_number_here", "_law_expected"] spKhd := ⟨ok_Khd F18 B  CRon CSwd, PySem.W.mg_of X G a18, k18, b18⟩
  have CLhd : Call l.prog w K mg base 3 "_law_long_holds" f19 _ ["_law_size"] spLhd := ⟨ok_Lhd F19 B  CRon, PySem.W.mg_of X G a19, k19, b19⟩
  have CUnk : Call l.prog w K mg base 5 "_law_unknown" f20 _ ["_law_lines", "_law_number_here"] spUnk := ⟨ok_Unk F20 B U0 W0 N0 Cii (ok_isIntH F1 B) (ok_RonX F17 B (ok_UsdX F16 B U0 (ok_Ule I0 U0) ib0) Cus) CRon, PySem.W.mg_of X G a20, k20, b20⟩
  exact ok_Law F21 B (PySem.W.mg_none_of X G z13) (PySem.W.mg_none_of X G z14) Cst CWrd D CLgl CLcp CLhd CRst CKhd CUnk
theorem walk {l : PySem.W.OpenLaw} {q : Program} {loose : List Str} {XP : (Str → Option Value) → Heap → Prop} {YP : World → Heap → Prop} {d : DefRec} {K : Params → PySem.W.Frag} (hn : l.most = some 63) (hdf : d.params.defaults = [])
    (hY : ∀ (w : World) (h : Heap), YP w h → (K w.params).In h)
    (F : ∀ (w : World) (mg : Str → Option Value) (fa : Addr) (h : Heap), (K w.params).In h → h.Ns mainGlobals mg → mg d.name = some (.ref fa) →
      ∃ fd : FuncData, (∀ (s : Shared) (u : Value), BindsTo s fd ⟨[u], []⟩ [("_law_script", u)]) ∧ ∀ base : Heap, (K w.params).In base → base.Ns mainGlobals mg → FnOk l.prog w (K w.params) mg base CX0 6 fa fd ["_law_script"] (spLaw (K w.params))) :
    PySem.W.WalkO q loose XP YP l.row.toRowW d [] (fun f vs => PySem.call f vs) :=
  L2.walk_of (n := 63) (k := 6) (x := "_law_script") (CX := fun _ => CX0) (sp := fun w => spLaw (K w.params)) hn (by decide) hdf ⟨rfl, by decide, by decide⟩ hY F (fun _ _ a ns hl _ hS => ⟨a, ns, rfl, hS, hl, fun _ => rfl⟩) fun _ _ _ _ _ z => z
end K46

set_option Elab.async false
set_option linter.all false
open PySem PySem.W PyProof.Rows
set_option maxRecDepth 100000 in
set_option maxHeartbeats 0 in
theorem PySem.Challenge.cw_curbdesk_k46_rests_on_holds : PySem.Challenge.rw_curbdesk_k46_rests_on.Holds := by
  w_on; o_law; k_head; (case hw => w_witness2)
  k_fill
  refine K46.walk (l := PySem.Challenge.rw_curbdesk_k46_rests_on) rfl rfl (fun w h Y => PySem.W.kIn_of Y) ?F
  case F =>
    intro w mg fa h KX G hmg
    refine' K46.all_mk KX G hmg ?a1 ?l1 ?c1 ?k1 ?a2 ?l2 ?c2 ?k2 ?a3 ?l3 ?c3 ?k3 ?a4 ?l4 ?c4 ?k4 ?a5 ?l5 ?c5 ?k5 ?a6 ?l6 ?c6 ?k6 ?a7 ?l7 ?c7 ?k7 ?a8 ?l8 ?c8 ?k8 ?a9 ?l9 ?c9 ?k9 ?a10 ?l10 ?c10 ?k10 ?a11 ?l11 ?c11 ?k11 ?a12 ?l12 ?c12 ?k12 ?a13 ?l13 ?c13 ?k13 ?a14 ?l14 ?c14 ?k14 ?a15 ?l15 ?c15 ?k15 ?a16 ?l16 ?c16 ?k16 ?a17 ?l17 ?c17 ?k17 ?a18 ?l18 ?c18 ?k18 ?a19 ?l19 ?c19 ?k19 ?a20 ?l20 ?c20 ?k20 ?a21 ?l21 ?c21 ?k21 ?cg0 ?cg1 ?cg2 ?cg3 ?x0 ?xsa0 ?xga0 ?xgg0 ?xf0_0 ?xin0 ?xti0 ?xli0 ?xci0 ?xki0 ?xkc0 ?xec0 ?xtc0 ?xhc0 ?xsc0 ?xha0 ?xhn0 ?xht0 ?xhm0 ?rwg0 ?rwk0 ?rws0 ?rwd0 ?rwa0 ?rwn0 ?rwt0 ?rwm0 ?rwy0 ?rwc0 ?rwb0 ?rwv0 ?rq0_0 ?rq0_1 ?z1 ?z2 ?z3 ?z4 ?z5 ?z6 ?z7 ?z8 ?z9 ?z10 ?z11 ?z12 ?z13 ?z14 ?z15
    (case a1 => k_is)
    (case l1 => k_is)
    (case c1 => k_is)
    (case k1 => k_is)
    (case a2 => k_is)
    (case l2 => k_is)
    (case c2 => k_is)
    (case k2 => k_is)
    (case a3 => k_is)
    (case l3 => k_is)
    (case c3 => k_is)
    (case k3 => k_is)
    (case a4 => k_is)
    (case l4 => k_is)
    (case c4 => k_is)
    (case k4 => k_is)
    (case a5 => k_is)
    (case l5 => k_is)
    (case c5 => k_is)
    (case k5 => k_is)
    (case a6 => k_is)
    (case l6 => k_is)
    (case c6 => k_is)
    (case k6 => k_is)
    (case a7 => k_is)
    (case l7 => k_is)
    (case c7 => k_is)
    (case k7 => k_is)
    (case a8 => k_is)
    (case l8 => k_is)
    (case c8 => k_is)
    (case k8 => k_is)
    (case a9 => k_is)
    (case l9 => k_is)
    (case c9 => k_is)
    (case k9 => k_is)
    (case a10 => k_is)
    (case l10 => k_is)
    (case c10 => k_is)
    (case k10 => k_is)
    (case a11 => k_is)
    (case l11 => k_is)
    (case c11 => k_is)
    (case k11 => k_is)
    (case a12 => k_is)
    (case l12 => k_is)
    (case c12 => k_is)
    (case k12 => k_is)
    (case a13 => k_is)
    (case l13 => k_is)
    (case c13 => k_is)
    (case k13 => k_is)
    (case a14 => k_is)
    (case l14 => k_is)
    (case c14 => k_is)
    (case k14 => k_is)
    (case a15 => k_is)
    (case l15 => k_is)
    (case c15 => k_is)
    (case k15 => k_is)
    (case a16 => k_is)
    (case l16 => k_is)
    (case c16 => k_is)
    (case k16 => k_is)
    (case a17 => k_is)
    (case l17 => k_is)
    (case c17 => k_is)
    (case k17 => k_is)
    (case a18 => k_is)
    (case l18 => k_is)
    (case c18 => k_is)
    (case k18 => k_is)
    (case a19 => k_is)
    (case l19 => k_is)
    (case c19 => k_is)
    (case k19 => k_is)
    (case a20 => k_is)
    (case l20 => k_is)
    (case c20 => k_is)
    (case k20 => k_is)
    (case a21 => k_is)
    (case l21 => k_is)
    (case c21 => k_is)
    (case k21 => k_is)
    (case cg0 => k_is)
    (case cg1 => k_is)
    (case cg2 => k_is)
    (case cg3 => k_is)
    (case x0 => first | k_is | rfl)
    (case xsa0 => first | k_is | rfl)
    (case xga0 => first | k_is | rfl)
    (case xgg0 => first | k_is | rfl)
    (case xf0_0 => first | k_is | rfl)
    (case xin0 => first | k_is | rfl)
    (case xti0 => first | k_is | rfl)
    (case xli0 => first | k_is | rfl)
    (case xci0 => first | k_is | rfl)
    (case xki0 => first | k_is | rfl)
    (case xkc0 => first | k_is | rfl)
    (case xec0 => first | k_is | rfl)
    (case xtc0 => first | k_is | rfl)
    (case xhc0 => first | k_is | rfl)
    (case xsc0 => first | k_is | rfl)
    (case xha0 => first | k_is | rfl)
    (case xhn0 => first | k_is | rfl)
    (case xht0 => first | k_is | rfl)
    (case xhm0 => first | k_is | rfl)
    (case rwg0 => first | k_is | rfl)
    (case rwk0 => first | k_is | rfl)
    (case rws0 => first | k_is | rfl)
    (case rwd0 => first | k_is | rfl)
    (case rwa0 => first | k_is | rfl)
    (case rwn0 => first | k_is | rfl)
    (case rwt0 => first | k_is | rfl)
    (case rwm0 => first | k_is | rfl)
    (case rwy0 => first | k_is | rfl)
    (case rwc0 => first | k_is | rfl)
    (case rwb0 => first | k_is | rfl)
    (case rwv0 => first | k_is | rfl)
    (case rq0_0 => first | k_is | rfl)
    (case rq0_1 => first | k_is | rfl)
    (case z1 => k_is)
    (case z2 => k_is)
    (case z3 => k_is)
    (case z4 => k_is)
    (case z5 => k_is)
    (case z6 => k_is)
    (case z7 => k_is)
    (case z8 => k_is)
    (case z9 => k_is)
    (case z10 => k_is)
    (case z11 => k_is)
    (case z12 => k_is)
    (case z13 => k_is)
    (case z14 => k_is)
    (case z15 => k_is)
