import PyProof.Rows.All
import Wide.All
import OpenK.AllK
import Wide.FinOn
import HandS.ForMost
import HandS.Strs
import HandS.Set
import HandS.SetFor
import HandS.TupSets
import HandS.IsInst
import HandS.Flow
import HandS.Style
import HandS.Zip
import HandS.SortInts
import PySem.Challenge.RW_curbdesk_k01_sides
set_option Elab.async false
set_option linter.all false
set_option maxRecDepth 100000
/-! Tables of sets that are laid anew, for the masks that merging asks for. -/
namespace Cs
open PySem PySem.Spec PyProof.Rows

def hop (m : Nat) (q : Nat × Nat) : Nat × Nat := SetTable.leap m q.1 q.2
def hops (m : Nat) : Nat → Nat × Nat → Nat × Nat
  | 0, q => q
  | n + 1, q => hops m n (hop m q)
abbrev own (ow : Array (Option Nat)) (j : Nat) : Option Nat := ow.getD j (some 0)

theorem free_step (m : Nat) (ow : Array (Option Nat)) (f : Nat) (q : Nat × Nat) : SetTable.layClean.free m ow (f + 1) q.1 q.2 =
    (match (List.range (SetTable.runEnd m q.1 + 1 - q.1)).find? (fun k => (own ow (q.1 + k)).isNone) with
      | some k => some (q.1 + k)
      | none => SetTable.layClean.free m ow f (hop m q).1 (hop m q).2) := rfl
theorem run_ge (m i : Nat) : i ≤ SetTable.runEnd m i := by
  unfold SetTable.runEnd
  split <;> omega
theorem run_le {m i : Nat} (h : i ≤ m) : SetTable.runEnd m i ≤ m := by
  unfold SetTable.runEnd
  split <;> omega
theorem hop_le (m : Nat) (q : Nat × Nat) : (hop m q).1 ≤ m := Nat.le_of_lt_succ (Nat.mod_lt _ (Nat.succ_pos m))

theorem free_none (m : Nat) (ow : Array (Option Nat)) : ∀ (f : Nat) (q : Nat × Nat), SetTable.layClean.free m ow f q.1 q.2 = none → ∀ n, n < f → (own ow (hops m n q).1).isNone = false
  | 0, _, _, n, h => absurd h (Nat.not_lt_zero n)
  | f + 1, q, e, n, h => by
    rw [free_step] at e
    cases c : (List.range (SetTable.runEnd m q.1 + 1 - q.1)).find? (fun k => (own ow (q.1 + k)).isNone) with
    | some k => rw [c] at e; exact nomatch e
    | none =>
      rw [c] at e
      cases n with
      | zero =>
        have z := List.find?_eq_none.mp c 0 (List.mem_range.mpr (by have := run_ge m q.1; omega))
        have z2 : ¬ ((own ow q.1).isNone = true) := z
        exact Bool.eq_false_iff.mpr z2
      | succ n => exact free_none m ow f (hop m q) e n (by omega)

theorem free_some (m : Nat) (ow : Array (Option Nat)) : ∀ (f : Nat) (q : Nat × Nat) (j : Nat), SetTable.layClean.free m ow f q.1 q.2 = some j → q.1 ≤ m → j ≤ m ∧ (own ow j).isNone = true
  | 0, _, _, e, _ => nomatch e
  | f + 1, q, j, e, hq => by
    rw [free_step] at e
    cases c : (List.range (SetTable.runEnd m q.1 + 1 - q.1)).find? (fun k => (own ow (q.1 + k)).isNone) with
    | some k =>
      rw [c] at e
      have ej : q.1 + k = j := Option.some.inj e
      have h1 := List.mem_of_find?_eq_some c
      have h2 := List.find?_some c
      have h3 := List.mem_range.mp h1
      have h4 := run_le hq
      rw [← ej]
      exact ⟨by omega, h2⟩
    | none =>
      rw [c] at e
      exact free_some m ow f (hop m q) j e (hop_le m q)

theorem hops_back (m : Nat) : ∀ (n : Nat) (q : Nat × Nat), hops m (n + 1) q = hop m (hops m n q)
  | 0, _ => rfl
  | n + 1, q => hops_back m n (hop m q)
theorem hops_add (m : Nat) (a : Nat) : ∀ (k : Nat) (q : Nat × Nat), hops m (a + k) q = hops m k (hops m a q)
  | 0, _ => rfl
  | k + 1, q => by
    rw [show a + (k + 1) = (a + k) + 1 from rfl, hops_back, hops_back, hops_add m a k q]
theorem hops_snd (m : Nat) : ∀ (n : Nat) (q : Nat × Nat), (hops m n q).2 = q.2 / 32 ^ n
  | 0, q => (Nat.div_one q.2).symm
  | n + 1, q => by
    rw [hops_back]
    show (hops m n q).2 / 32 = _
    rw [hops_snd m n q, Nat.div_div_eq_div_mul, Nat.pow_succ]
theorem hops_fst_le (m : Nat) {q : Nat × Nat} (hq : q.1 ≤ m) : ∀ n, (hops m n q).1 ≤ m
  | 0 => hq
  | n + 1 => by rw [hops_back]; exact hop_le m _
theorem hops_zero (m i : Nat) : ∀ k, hops m k (i, 0) = (L2.lcgI m i k, 0)
  | 0 => rfl
  | k + 1 => by
    rw [hops_back, hops_zero m i k]
    show ((L2.lcgI m i k * 5 + 1 + 0 / 32) % (m + 1), 0 / 32) = _
    rw [Nat.zero_div, Nat.add_zero] <;> rfl

def Msk (m : Nat) : Prop := m = 7 ∨ m = 15 ∨ m = 31 ∨ m = 63 ∨ m = 127
def meetsAll (m : Nat) : Bool := (List.range (m + 1)).all fun i => (List.range (m + 1)).all fun j => (List.range (m + 1)).any fun k => L2.lcgI m i k == j
theorem lcg_of {m : Nat} (h : meetsAll m = true) {i j : Nat} (hi : i ≤ m) (hj : j ≤ m) : ∃ k, k ≤ m ∧ L2.lcgI m i k = j := by
  have h1 := List.all_eq_true.mp (List.all_eq_true.mp h i (List.mem_range.mpr (by omega))) j (List.mem_range.mpr (by omega))
  obtain ⟨k, hk, e⟩ := List.any_eq_true.mp h1
  exact ⟨k, Nat.le_of_lt_succ (List.mem_range.mp hk), eq_of_beq e⟩
/- one round from 0, then the shift -/
theorem all15 : ((List.range 16).all fun j => (List.range 16).any fun b => L2.lcgN 15 b == j) = true := by decide +kernel
theorem all63 : ((List.range 64).all fun j => (List.range 64).any fun b => L2.lcgN 63 b == j) = true := by decide +kernel
theorem round15 : L2.lcgN 15 16 = 0 := by decide +kernel
theorem round63 : L2.lcgN 63 64 = 0 := by decide +kernel
theorem turn_mod {m : Nat} (h : L2.lcgN m (m + 1) = 0) : ∀ k, L2.lcgN m (m + 1 + k) = L2.lcgN m k
  | 0 => h
  | k + 1 => by
    show (L2.lcgN m (m + 1 + k) * 5 + 1) % (m + 1) = (L2.lcgN m k * 5 + 1) % (m + 1)
    rw [turn_mod h k]
theorem lcg_by {m : Nat} (hr : L2.lcgN m (m + 1) = 0) (ha : ((List.range (m + 1)).all fun j => (List.range (m + 1)).any fun b => L2.lcgN m b == j) = true) {i j : Nat} (hi : i ≤ m) (hj : j ≤ m) :
    ∃ k, k ≤ m ∧ L2.lcgI m i k = j := by
  have at0 : ∀ x, x ≤ m → ∃ b, b ≤ m ∧ L2.lcgN m b = x := fun x hx => by
    obtain ⟨b, hb, e⟩ := List.any_eq_true.mp (List.all_eq_true.mp ha x (List.mem_range.mpr (by omega)))
    exact ⟨b, Nat.le_of_lt_succ (List.mem_range.mp hb), eq_of_beq e⟩
  obtain ⟨a, la, ea⟩ := at0 i hi
  obtain ⟨b, lb, eb⟩ := at0 j hj
  subst ea
  by_cases c : a ≤ b
  · exact ⟨b - a, by omega, by rw [L2.lcgN_add, Nat.add_sub_cancel' c]; exact eb⟩
  · refine ⟨m + 1 + b - a, by omega, ?_⟩
    rw [L2.lcgN_add, Nat.add_sub_cancel' (by omega), turn_mod hr]
    exact eb
theorem lcg_meets {m : Nat} (hm : Msk m) {i j : Nat} (hi : i ≤ m) (hj : j ≤ m) : ∃ k, k ≤ m ∧ L2.lcgI m i k = j := by
  rcases hm with e | e | e | e | e
  · exact L2.lcgI_all (.inl e) hi hj
  · subst e; exact lcg_by round15 all15 hi hj
  · exact L2.lcgI_all (.inr (.inl e)) hi hj
  · subst e; exact lcg_by round63 all63 hi hj
  · exact L2.lcgI_all (.inr (.inr e)) hi hj

theorem free_there {m : Nat} (hm : Msk m) (ow : Array (Option Nat)) (h : Int) {j0 : Nat} (hj : j0 ≤ m) (hf : (own ow j0).isNone = true) :
    ∃ j, SetTable.layClean.free m ow (SetTable.turns m) (SetTable.bits h % (m + 1)) (SetTable.bits h) = some j ∧ j ≤ m ∧ (own ow j).isNone = true := by
  have hq : SetTable.bits h % (m + 1) ≤ m := Nat.le_of_lt_succ (Nat.mod_lt _ (Nat.succ_pos m))
  cases e : SetTable.layClean.free m ow (SetTable.turns m) (SetTable.bits h % (m + 1)) (SetTable.bits h) with
  | some j => exact ⟨j, rfl, free_some m ow _ (SetTable.bits h % (m + 1), SetTable.bits h) j e hq⟩
  | none =>
    exfalso
    have all := free_none m ow _ (SetTable.bits h % (m + 1), SetTable.bits h) e
    have z : (hops m 13 (SetTable.bits h % (m + 1), SetTable.bits h)).2 = 0 := by
      rw [hops_snd]
      refine Nat.div_eq_of_lt (Nat.lt_trans (L2.bits_lt h) ?_)
      decide
    have le := hops_fst_le m (q := (SetTable.bits h % (m + 1), SetTable.bits h)) hq 13
    obtain ⟨k, hk, ek⟩ := lcg_meets hm le hj
    have q := all (13 + k) (by show 13 + k < m + 15; omega)
    have e2 : hops m 13 (SetTable.bits h % (m + 1), SetTable.bits h) = ((hops m 13 (SetTable.bits h % (m + 1), SetTable.bits h)).1, 0) := by
      rw [← z]
    rw [hops_add, e2, hops_zero] at q
    rw [ek] at q
    rw [hf] at q
    cases q

/-! ### who sits where -/
theorem put_perm : ∀ (l : List (Option Nat)) (j k : Nat), l[j]? = some none → ((l.set j (some k)).filterMap id).Perm (k :: l.filterMap id)
  | [], j, k, h => by simp at h
  | x :: l, 0, k, h => by
    have e : x = none := by simpa using h
    subst e
    simp
  | x :: l, j + 1, k, h => by
    have ih := put_perm l j k (by simpa using h)
    cases x with
    | none => simpa using ih
    | some y =>
      simp only [List.set_cons_succ, List.filterMap_cons, id]
      exact (ih.cons y).trans (List.Perm.swap k y _)
theorem gap : ∀ l : List (Option Nat), (l.filterMap id).length < l.length → ∃ j : Nat, j < l.length ∧ l[j]? = some none
  | [], h => by simp at h
  | none :: l, h => ⟨0, by simp, rfl⟩
  | some y :: l, h => by
    obtain ⟨j, hj, e⟩ := gap l (by simpa using h)
    exact ⟨j + 1, by simpa using hj, by simpa using e⟩
structure Sit (m k : Nat) (ow : Array (Option Nat)) : Prop where
  sz : ow.size = m + 1
  pm : (ow.toList.filterMap id).Perm (List.range k)
theorem Sit.start (m : Nat) : Sit m 0 (Array.replicate (m + 1) none) := ⟨by simp, by simp⟩
theorem Sit.next {m k : Nat} {ow : Array (Option Nat)} (S : Sit m k ow) (hm : Msk m) (hk : k ≤ m) (h : Int) :
    ∃ j, SetTable.layClean.free m ow (SetTable.turns m) (SetTable.bits h % (m + 1)) (SetTable.bits h) = some j ∧ Sit m (k + 1) (ow.setIfInBounds j (some k)) := by
  have l1 := S.pm.length_eq
  rw [List.length_range] at l1
  obtain ⟨j0, h0, e0⟩ := gap ow.toList (by rw [l1, Array.length_toList, S.sz]; omega)
  rw [Array.length_toList, S.sz] at h0
  have f0 : (own ow j0).isNone = true := by
    have : ow[j0]? = some none := by rw [← Array.getElem?_toList]; exact e0
    simp [own, Array.getD_eq_getD_getElem?, this]
  obtain ⟨j, ej, hj, hn⟩ := free_there hm ow h (by omega) f0
  have hjs : j < ow.size := by rw [S.sz]; omega
  have en : ow.toList[j]? = some none := by
    have : own ow j = none := by simpa using hn
    rw [Array.getElem?_toList]
    simp only [own, Array.getD_eq_getD_getElem?, Array.getElem?_eq_getElem hjs, Option.getD_some] at this
    rw [Array.getElem?_eq_getElem hjs, this]
  refine ⟨j, ej, by rw [Array.size_setIfInBounds]; exact S.sz, ?_⟩
  rw [Array.toList_setIfInBounds]
  refine (put_perm ow.toList j k en).trans ?_
  rw [List.range_succ]
  exact (S.pm.cons k).trans (List.perm_append_singleton k _).symm
theorem sit_all {m : Nat} (hm : Msk m) : ∀ (hs : List Int) (k : Nat) (ow : Array (Option Nat)), Sit m k ow → k + hs.length ≤ m →
    ∃ ow', hs.foldl (L2.stepF m) (some (ow, k)) = some (ow', k + hs.length) ∧ Sit m (k + hs.length) ow'
  | [], k, ow, S, _ => ⟨ow, rfl, S⟩
  | h :: hs, k, ow, S, hl => by
    rw [List.length_cons] at hl
    obtain ⟨j, ej, S2⟩ := S.next hm (by omega) h
    obtain ⟨ow', e, S3⟩ := sit_all hm hs (k + 1) _ S2 (by omega)
    refine ⟨ow', ?_, ?_⟩
    · rw [List.foldl_cons, L2.stepF_some ej, e, List.length_cons]
      exact congrArg (fun n => some (ow', n)) (by omega)
    · rw [List.length_cons, show k + (hs.length + 1) = k + 1 + hs.length by omega]
      exact S3
theorem lay_ok {m : Nat} (hm : Msk m) {hs : Array Int} (hn : hs.size ≤ m) : ∃ ow, SetTable.layClean m hs = some ow ∧ Sit m hs.size ow := by
  obtain ⟨ow, e, S⟩ := sit_all hm hs.toList 0 _ (Sit.start m) (by rw [Array.length_toList]; omega)
  rw [Nat.zero_add, Array.length_toList] at S
  refine ⟨ow, ?_, S⟩
  rw [L2.layClean_eq, e] <;> rfl

def liveAt (m : Nat) (ow : Array (Option Nat)) : List (Nat × Nat) := (List.range (m + 1)).filterMap fun j => (ow.getD j none).map (j, ·)
theorem live_snd {m : Nat} {ow : Array (Option Nat)} (hz : ow.size = m + 1) : (liveAt m ow).map (·.2) = ow.toList.filterMap id := by
  unfold liveAt
  rw [List.map_filterMap, ← hz]
  have e1 : (fun j => ((ow.getD j none).map (j, ·)).map (·.2)) = fun j => (ow[j]?).bind id := by
    funext j
    rw [Array.getD_eq_getD_getElem?]
    cases ow[j]? with
    | none => rfl
    | some y => cases y <;> rfl
  have e2 := filterMap_getElem?_range ow
  rw [e1, ← e2, List.filterMap_filterMap]
theorem laid_ok {m : Nat} (hm : Msk m) {hs : Array Int} (hn : hs.size ≤ m) (fi mv : Nat) (ld pl : Bool) :
    ∃ t order, SetTable.laid m fi mv ld pl hs = some (t, order) ∧ order.toList.Perm (List.range hs.size) ∧ t.mask = m ∧ t.dummies = #[] ∧ t.led = ld ∧ L2.Ris t.place.toList ∧ t.place.size = hs.size := by
  obtain ⟨ow, e, S⟩ := lay_ok hm hn
  have p : ((liveAt m ow).map (·.2)).Perm (List.range hs.size) := by
    rw [live_snd S.sz]
    exact S.pm
  refine ⟨_, _, by unfold SetTable.laid; rw [e]; rfl, p, rfl, rfl, rfl, ?_, ?_⟩
  · refine (L2.ris_live (fun j => ow.getD j none) (List.range (m + 1)) ?_).1
    unfold L2.Ris
    first | exact List.pairwise_lt_range | exact List.pairwise_lt_range _
  · have l := p.length_eq
    rw [List.length_map, List.length_range] at l
    show ((liveAt m ow).map (·.1)).toArray.size = hs.size
    rw [List.size_toArray, List.length_map]
    exact l
theorem above_msk : ((List.range 128).all fun n => (SetTable.sizeAbove n == 8 || SetTable.sizeAbove n == 16 || SetTable.sizeAbove n == 32 || SetTable.sizeAbove n == 64 || SetTable.sizeAbove n == 128) && decide (n < SetTable.sizeAbove n)) = true := by
  decide +kernel
theorem above_ok {n : Nat} (h : n < 128) : Msk (SetTable.sizeAbove n - 1) ∧ n ≤ SetTable.sizeAbove n - 1 ∧ SetTable.sizeAbove n ≤ 128 := by
  have q := List.all_eq_true.mp above_msk n (List.mem_range.mpr h)
  simp only [Bool.and_eq_true, Bool.or_eq_true, beq_iff_eq, decide_eq_true_eq] at q
  obtain ⟨q1, q2⟩ := q
  refine ⟨?_, by omega, by omega⟩
  unfold Msk
  omega
end Cs

set_option Elab.async false
set_option linter.all false
set_option maxRecDepth 100000
set_option maxHeartbeats 1000000
namespace Cs
open PySem PySem.Spec PyProof.Rows L2

/-- a set of ints, written out -/
structure SetX (w : World) (h : Heap) (a : Addr) (es : Array (Int × Value)) (ep : Nat) (t : SetTable) : Prop where
  obj : h.get? a = some { cls := .type "set", dict := none, data := .set es ep t, slots := #[] }
  good : ∀ e ∈ es.toList, GoodE e
  nd : (es.toList.map keyOf).Nodup
  few : es.size < scanBound
  fits : t.fits es.size = true
  ris : Ris t.place.toList
  led : w.params.followText "set-order" = true ∨ t.led = true
section
variable {w : World} {h h' : Heap} {a : Addr} {S : Int → Bool} {n : Nat} {es : Array (Int × Value)} {ep : Nat} {t : SetTable}
theorem SetX.toR (R : SetX w h a es ep t) (hS : ∀ k, S k = true ↔ k ∈ es.toList.map keyOf) (hn : es.size = n) : SetR w h a S n :=
  ⟨_, es, ep, t, R.obj, ⟨rfl, rfl, rfl⟩, rfl, R.good, R.nd, hS, R.few, R.fits, hn, R.ris, R.led⟩
theorem xOf (R : SetR w h a S n) : ∃ es ep t, SetX w h a es ep t ∧ (∀ k, S k = true ↔ k ∈ es.toList.map keyOf) ∧ es.size = n := by
  obtain ⟨⟨c, d, dt, sl⟩, es, ep, t, ho, ⟨e1, e2, e3⟩, hd, g, nd, m, fw, ft, hn, r, l⟩ := R
  simp only at e1 e2 e3 hd
  subst e1 e2 e3 hd
  exact ⟨es, ep, t, ⟨ho, g, nd, fw, ft, r, l⟩, m, hn⟩
theorem SetX.move (R : SetX w h a es ep t) (k : ∀ o, h.get? a = some o → h'.get? a = some o) : SetX w h' a es ep t :=
  ⟨k _ R.obj, R.good, R.nd, R.few, R.fits, R.ris, R.led⟩
theorem SetX.perm {es' : Array (Int × Value)} {t' : SetTable} {ep' : Nat} (R : SetX w h a es ep t) (p : es'.toList.Perm es.toList)
    (o : h'.get? a = some { cls := .type "set", dict := none, data := .set es' ep' t', slots := #[] }) (f : t'.fits es'.size = true) (r : Ris t'.place.toList) (l : w.params.followText "set-order" = true ∨ t'.led = true) : SetX w h' a es' ep' t' :=
  ⟨o, fun e he => R.good e (p.mem_iff.mp he), (p.map keyOf).nodup_iff.mpr R.nd, by
    have q := p.length_eq
    rw [Array.length_toList, Array.length_toList] at q
    rw [q]; exact R.few, f, r, l⟩
end
theorem order_perm {es : Array (Int × Value)} {order : Array Nat} (p : order.toList.Perm (List.range es.size)) : (order.filterMap (es[·]?)).toList.Perm es.toList := by
  have q := p.filterMap (fun i => es[i]?)
  rw [filterMap_getElem?_range] at q
  rw [Array.toList_filterMap]
  exact q
theorem perm_size {α : Type} {x y : Array α} (p : x.toList.Perm y.toList) : x.size = y.size := by
  have q := p.length_eq
  rw [Array.length_toList, Array.length_toList] at q
  exact q
section
variable {P : Program} {w : World} {A : Around} {E : Value → Shared → Prop} {s : Shared} {a : Addr} {es : Array (Int × Value)} {ep : Nat} {t : SetTable}

theorem relay_x {wanted : Nat} {Q : Unit → Shared → Prop} (R : SetX w s.heap a es ep t) (hw : wanted < 128) (hn : es.size ≤ wanted)
    (hQ : ∀ h' es' t', Heap.SameBut a s.heap h' → SetX w h' a es' (ep + 1) t' → es'.toList.Perm es.toList → t'.mask = SetTable.sizeAbove wanted - 1 → t'.dummies = #[] → t'.place.size = es.size → Q () { s with heap := h' }) :
    wpAny (model P w) A (setRelay a wanted) Q E s := by
  obtain ⟨hM, hMn, h128⟩ := above_ok hw
  obtain ⟨t', order, e, hp, em, ed, el, er, ez⟩ := laid_ok hM (hs := es.map (·.1)) (by rw [Array.size_map]; omega) t.finger (t.movedTo (SetTable.sizeAbove wanted - 1)) t.led t.plain
  rw [Array.size_map] at hp ez
  have p2 := order_perm hp
  have z2 := perm_size p2
  have fit : t'.fits (order.filterMap (es[·]?)).size = true := by
    unfold SetTable.fits SetTable.fill
    rw [ed, z2, ez, em, Bool.and_eq_true, beq_iff_eq, decide_eq_true_eq]
    exact ⟨rfl, by show es.size + 0 ≤ _; omega⟩
  have e' : t.relaid (es.map (·.1)) wanted = some (t', order) := e
  unfold setRelay
  refine wpAny_bind (wpAny_setState_of R.obj rfl R.fits ?_)
  dsimp only
  refine wp_if_neg (by rw [sizeLine_eq]; omega) ?_
  try refine wpAny_bind (wpAny_pure ?_)
  rw [e']
  refine wpAny_bind ?_
  refine wp_if_neg (c := ((order.filterMap (es[·]?)).size != es.size) = true) (by rw [z2]; simp) ?_
  try refine wpAny_bind (wpAny_pure ?_)
  refine wpAny_pure ?_
  dsimp only
  refine wpAny_storeSet_of R.obj rfl ?_ (fits_of_scanBound (by rw [z2]; exact R.few))
  have sb : Heap.SameBut a s.heap (s.heap.update a (Obj.putSet (order.filterMap (es[·]?)) t')) := Heap.SameBut.update ..
  exact hQ _ _ t' sb (R.perm p2 (store_at R.obj rfl) fit er (R.led.imp id fun z => el.trans z)) p2 em ed ez

/-! ### walking -/
theorem walk_x {Q : Array (Int × Value) → Shared → Prop} (R : SetX w s.heap a es ep t) (hQ : ∀ ys d, ys.toList.Perm es.toList → Q ys { s with drawn := d }) : wpAny (model P w) A (setWalk a) Q E s := by
  have rf : Q es s := hQ es s.drawn (List.Perm.refl _)
  unfold setWalk
  refine wpAny_bind (wpAny_setState_of R.obj rfl R.fits ?_)
  dsimp only
  refine wpAny_bind (wpAny_byText ?_)
  by_cases hb : w.params.followText "set-order" = true
  · refine wp_if_pos hb ?_
    refine wpAny_bind (wpAny_askSetting ?_)
    exact wpAny_pure (hQ _ s.drawn (pick_perm _ es))
  · refine wp_if_neg hb ?_
    by_cases hd : (!t.plain && decide (es.size > 1)) = true
    · refine wp_if_pos (c := (!t.plain && decide (es.size > 1)) = true) hd ?_
      refine wpAny_bind (drawOrder_at _ _ _ _ (Nat.le_of_eq Array.length_toList) fun ys d p => wpAny_pure (hQ _ d ?_))
      simpa using p
    · refine wp_if_neg (c := (!t.plain && decide (es.size > 1)) = true) hd ?_
      have hl : t.led = true := R.led.resolve_left hb
      refine wpAny_bind (m := (_ : Sem Unit)) ?_
      refine wp_if_neg (c := (!t.led && decide (es.size > 1)) = true) (by rw [hl]; simp) ?_
      exact wpAny_pure (wpAny_pure rf)
end
end Cs

set_option Elab.async false
set_option linter.all false
set_option maxRecDepth 100000
set_option maxHeartbeats 1000000
namespace Cs
open PySem PySem.Spec PyProof.Rows L2
section
variable {P : Program} {w : World} {A : Around} {E : Value → Shared → Prop} {s : Shared} {a : Addr} {es : Array (Int × Value)} {ep : Nat} {t : SetTable}

theorem quiet_x {Q : Bool → Shared → Prop} : ∀ (l : List Addr), (∀ b ∈ l, ∃ es ep t, SetX w s.heap b es ep t) → Q true s → wpAny (model P w) A (setsQuiet l) Q E s := by
  intro l hl hq
  unfold setsQuiet
  refine wpAny_bind (wpAny_forIn_list _ (fun rest b s' => b.1 = none ∧ s' = s ∧ ∀ x ∈ rest, ∃ es ep t, SetX w s.heap x es ep t) _ ?turn ?fin l _ ⟨rfl, rfl, hl⟩)
  case fin =>
    rintro ⟨b1, b2⟩ s' ⟨h1, rfl, _⟩
    cases h1
    exact wpAny_pure hq
  case turn =>
    rintro x rest ⟨b1, b2⟩ s' ⟨h1, rfl, h2⟩
    cases h1
    obtain ⟨es, ep, t, R⟩ := h2 x List.mem_cons_self
    unfold setEntries
    refine wpAny_bind (wpAny_bind (wpAny_setState_of R.obj rfl R.fits (wpAny_pure ?_)))
    refine wpAny_bind (MeetsSeq2.wpAny_forIn_array _ (fun rest' b s'' => b.1 = none ∧ s'' = s' ∧ ∀ e ∈ rest', GoodE e) _ ?t2 ?f2 es _ ⟨rfl, rfl, R.good⟩)
    case f2 =>
      rintro ⟨b1, b2⟩ s' ⟨h1, rfl, _⟩
      cases h1
      exact wpAny_pure ⟨rfl, rfl, fun y hy => h2 y (List.mem_cons_of_mem _ hy)⟩
    case t2 =>
      rintro ⟨hh, v⟩ rest' ⟨b1, b2⟩ s' ⟨h1, rfl, hg⟩
      cases h1
      obtain ⟨k, tk, e1, _⟩ := hg _ List.mem_cons_self
      have e2 : v = .int k tk := e1
      subst e2
      dsimp only
      refine wpAny_pure ⟨rfl, rfl, fun y hy => hg y (List.mem_cons_of_mem _ hy)⟩
end
end Cs

set_option Elab.async false
set_option linter.all false
set_option maxRecDepth 100000
set_option maxHeartbeats 1000000
namespace Cs
open PySem PySem.Spec PyProof.Rows L2
section
variable {P : Program} {w : World} {A : Around} {E : Value → Shared → Prop} {s : Shared} {a : Addr} {es : Array (Int × Value)} {ep : Nat} {t : SetTable}
theorem unseen_x {others : List Addr} {f : Addr} {ef : Array (Int × Value)} {pf : Nat} {tf : SetTable} {Q : Array (Int × Value) → Shared → Prop} (R : SetX w s.heap a es ep t)
    (ho : ∀ b ∈ others, ∃ es ep t, SetX w s.heap b es ep t) (F : SetX w s.heap f ef pf tf)
    (hQ : ∀ ys d h' pf' tf', ys.toList.Perm es.toList → Heap.SameBut f s.heap h' → SetX w h' f ef pf' tf' → Q ys { s with heap := h', drawn := d }) :
    wpAny (model P w) A (setWalkUnseen a others (some f)) Q E s := by
  have rf : ∀ ys d, ys.toList.Perm es.toList → Q ys { s with drawn := d } := fun ys d p => hQ ys d s.heap pf tf p (Heap.SameBut.refl f s.heap) F
  unfold setWalkUnseen
  refine wpAny_bind (wpAny_setState_of R.obj rfl R.fits ?_)
  dsimp only
  refine wpAny_bind (wpAny_byText ?_)
  by_cases hb : (w.params.followText "set-order" || (t.led && t.plain) || decide (es.size ≤ 1)) = true
  · refine wp_if_pos (c := (w.params.followText "set-order" || (t.led && t.plain) || decide (es.size ≤ 1)) = true) hb ?_
    exact walk_x R rf
  · refine wp_if_neg (c := (w.params.followText "set-order" || (t.led && t.plain) || decide (es.size ≤ 1)) = true) hb ?_
    have hnt : ¬ w.params.followText "set-order" = true := fun z => hb (by rw [z] <;> rfl)
    have hl : t.led = true := R.led.resolve_left hnt
    try refine wpAny_bind (wpAny_pure ?_)
    refine wpAny_bind (quiet_x _ (fun b hb' => (List.mem_cons.mp hb').elim (fun z => ⟨es, ep, t, z ▸ R⟩) (ho b)) ?_)
    refine wp_if_neg (c := (!true) = true) (by simp) ?_
    try refine wpAny_bind (wpAny_pure ?_)
    refine wpAny_bind (wpAny_rule ?_)
    try dsimp only
    refine wpAny_bind (wpAny_setState_of F.obj rfl F.fits ?_)
    dsimp only
    split
    · refine wpAny_bind (wpAny_storeSet_of F.obj rfl ?_ (fits_of_scanBound F.few))
      refine wpAny_pure ?_
      refine hQ es s.drawn _ _ _ (List.Perm.refl _) (Heap.SameBut.update s.heap f _) (F.perm (List.Perm.refl _) (store_at F.obj rfl) ?_ F.ris ?_)
      · exact F.fits
      · refine F.led.imp id fun z => ?_
        show (tf.led && t.led) = true
        rw [z, hl] <;> rfl
    · try refine wpAny_bind (wpAny_pure ?_)
      exact wpAny_pure (rf es s.drawn (List.Perm.refl _))
theorem unseen_n {others : List Addr} {Q : Array (Int × Value) → Shared → Prop} (R : SetX w s.heap a es ep t)
    (ho : ∀ b ∈ others, ∃ es ep t, SetX w s.heap b es ep t)
    (rf : ∀ ys d, ys.toList.Perm es.toList → Q ys { s with drawn := d }) :
    wpAny (model P w) A (setWalkUnseen a others none) Q E s := by
  unfold setWalkUnseen
  refine wpAny_bind (wpAny_setState_of R.obj rfl R.fits ?_)
  dsimp only
  refine wpAny_bind (wpAny_byText ?_)
  by_cases hb : (w.params.followText "set-order" || (t.led && t.plain) || decide (es.size ≤ 1)) = true
  · refine wp_if_pos (c := (w.params.followText "set-order" || (t.led && t.plain) || decide (es.size ≤ 1)) = true) hb ?_
    exact walk_x R rf
  · refine wp_if_neg (c := (w.params.followText "set-order" || (t.led && t.plain) || decide (es.size ≤ 1)) = true) hb ?_
    try refine wpAny_bind (wpAny_pure ?_)
    refine wpAny_bind (quiet_x _ (fun b hb' => (List.mem_cons.mp hb').elim (fun z => ⟨es, ep, t, z ▸ R⟩) (ho b)) ?_)
    refine wp_if_neg (c := (!true) = true) (by simp) ?_
    try refine wpAny_bind (wpAny_pure ?_)
    refine wpAny_bind (wpAny_rule ?_)
    try dsimp only
    try refine wpAny_bind (wpAny_pure ?_)
    exact wpAny_pure (rf es s.drawn (List.Perm.refl _))

theorem room_x {more : Nat} {Q : Unit → Shared → Prop} (R : SetX w s.heap a es ep t) (hm : (es.size + more) * 2 < 128)
    (hQ : ∀ h' es' ep' t', Heap.SameBut a s.heap h' → SetX w h' a es' ep' t' → es'.toList.Perm es.toList →
      ((t' = t ∧ (t.fill + more) * 5 < t.mask * 3) ∨ (t'.mask = SetTable.sizeAbove ((es.size + more) * 2) - 1 ∧ t'.dummies = #[])) → Q () { s with heap := h' }) :
    wpAny (model P w) A (setRoomFor a more) Q E s := by
  have hz : t.place.size = es.size := by
    have f := R.fits
    unfold SetTable.fits at f
    rw [Bool.and_eq_true, beq_iff_eq] at f
    exact f.1
  unfold setRoomFor
  refine wpAny_bind (wpAny_setState_of R.obj rfl R.fits ?_)
  dsimp only
  by_cases c : (t.fill + more) * 5 ≥ t.mask * 3
  · have e : t.roomFor more = some ((t.place.size + more) * 2) := if_pos c
    rw [e]
    dsimp only
    rw [hz]
    refine relay_x R hm (by omega) fun h' es' t' sb X p em ed _ => hQ h' es' _ t' sb X p (.inr ⟨em, ed⟩)
  · have e : t.roomFor more = none := if_neg c
    rw [e]
    dsimp only
    exact wpAny_pure (hQ s.heap es ep t (Heap.SameBut.refl a s.heap) R (List.Perm.refl _) (.inl ⟨rfl, by omega⟩))
end
end Cs

set_option Elab.async false
set_option linter.all false
set_option maxRecDepth 100000
set_option maxHeartbeats 1000000
namespace Cs
open PySem PySem.Spec PyProof.Rows L2
section
variable {P : Program} {w : World} {A : Around} {E : Value → Shared → Prop} {s : Shared}
abbrev keys (es : Array (Int × Value)) : List Int := es.toList.map keyOf
theorem keys_perm {x y : Array (Int × Value)} (p : x.toList.Perm y.toList) (k : Int) : k ∈ keys x ↔ k ∈ keys y := (p.map keyOf).mem_iff
theorem sb_trans {a : Addr} {h1 h2 h3 : Heap} (x : Heap.SameBut a h1 h2) (y : Heap.SameBut a h2 h3) : Heap.SameBut a h1 h3 := x.trans y
theorem sx_other {h h' : Heap} {a b : Addr} {es : Array (Int × Value)} {ep : Nat} {t : SetTable} (R : SetX w h b es ep t) (sb : Heap.SameBut a h h') (hne : b ≠ a) : SetX w h' b es ep t :=
  R.move fun o e => (sb.2 b hne).trans e
theorem sr_other {h h' : Heap} {a b : Addr} {S : Int → Bool} {n : Nat} (R : SetR w h b S n) (sb : Heap.SameBut a h h') (hne : b ≠ a) : SetR w h' b S n :=
  R.at fun o e => (sb.2 b hne).trans e

/-- adding the members of a walk, one by one -/
theorem add_all {r : Addr} (f : (Int × Value) → PUnit → Sem (ForInStep PUnit)) (K : Shared → Prop) (hK : ∀ s1 h', Heap.SameBut r s1.heap h' → K s1 → K { s1 with heap := h' })
    (hf : ∀ e k tk s1 Q', e = (hashInt k, Value.int k tk) → K s1 → (wpAny (model P w) A (setAddHashed r (.int k tk) (hashInt k)) (fun _ s2 => K s2 ∧ Q' (.yield ⟨⟩) s2) E s1) → wpAny (model P w) A (f e ⟨⟩) Q' E s1)
    (ys : Array (Int × Value)) (g : ∀ e ∈ ys.toList, GoodE e) {S : Int → Bool} {n : Nat} (R : SetR w s.heap r S n) (hn : n + ys.size + 1 < scanBound) (hs : K s) {Q : PUnit → Shared → Prop}
    (hQ : ∀ h' S' n', SetR w h' r S' n' → (∀ k, S' k = true ↔ S k = true ∨ k ∈ keys ys) → n' ≤ n + ys.size → Heap.SameBut r s.heap h' → K { s with heap := h' } → Q ⟨⟩ { s with heap := h' }) :
    wpAny (model P w) A (forIn ys ⟨⟩ f) Q E s := by
  refine MeetsSeq2.wpAny_forIn_array f (fun rest _ s' => ∃ h' S' n', s' = { s with heap := h' } ∧ SetR w h' r S' n' ∧ (∀ k, (S' k = true ∨ k ∈ rest.map keyOf) ↔ (S k = true ∨ k ∈ keys ys)) ∧ n' + rest.length ≤ n + ys.size ∧
    Heap.SameBut r s.heap h' ∧ K { s with heap := h' } ∧ ∀ e ∈ rest, GoodE e) Q ?turn ?fin ys ⟨⟩ ⟨s.heap, S, n, rfl, R, fun k => Iff.rfl, by rw [Array.length_toList]; exact Nat.le_refl _, Heap.SameBut.refl r s.heap, hs, g⟩
  case fin =>
    rintro ⟨⟩ s' ⟨h', S', n', rfl, R', m, l, sb, k, _⟩
    exact hQ h' S' n' R' (fun k => by simpa using m k) (by simpa using l) sb k
  case turn =>
    rintro e rest ⟨⟩ s' ⟨h', S', n', rfl, R', m, l, sb, kk, g'⟩
    obtain ⟨k, tk, e1, e2⟩ := g' e List.mem_cons_self
    obtain ⟨eh, ev⟩ := e
    simp only at e1 e2
    subst e1 e2
    rw [List.length_cons] at l
    refine hf _ k tk _ _ rfl kk ?_
    refine setR_add_hashed (s := { s with heap := h' }) R' (by omega) fun h2 sb2 R2 => ?_
    have k2 : K { s with heap := h2 } := hK { s with heap := h' } h2 sb2 kk
    refine ⟨k2, h2, _, _, rfl, R2, fun j => ?_, ?_, sb_trans sb sb2, k2, fun e he => g' e (List.mem_cons_of_mem _ he)⟩
    · rw [← m j, List.map_cons, List.mem_cons, Bool.or_eq_true, decide_eq_true_eq]
      show ((S' j = true ∨ j = k) ∨ _) ↔ (S' j = true ∨ (j = k ∨ _))
      exact or_assoc
    · have : (if S' k = true then n' else n' + 1) ≤ n' + 1 := by split <;> omega
      omega

/-- what is merged into a set with members -/
theorem merge_more {r o : Addr} {each : Sem Unit} {er eo : Array (Int × Value)} {pr po : Nat} {tr to : SetTable} {Q : Unit → Shared → Prop} (hro : o ≠ r) (R : SetX w s.heap r er pr tr) (O : SetX w s.heap o eo po to)
    (hne : er.size ≠ 0) (hroom : (er.size + eo.size) * 2 < 128)
    (heach : ∀ s' Q', SetX w s'.heap o eo po to → Q' () s' → wpAny (model P w) A each Q' E s')
    (hQ : ∀ h' d' S' n', SetR w h' r S' n' → (∀ k, S' k = true ↔ k ∈ keys er ∨ k ∈ keys eo) → n' ≤ er.size + eo.size → Heap.SameBut r s.heap h' → Q () { s with heap := h', drawn := d' }) :
    wpAny (model P w) A (setMerge r o each) Q E s := by
  unfold setMerge
  refine wp_if_neg (c := (r == o) = true) (by simpa using Ne.symm hro) ?_
  try refine wpAny_bind (wpAny_pure ?_)
  refine wpAny_bind (wpAny_setState_of O.obj rfl O.fits ?_)
  dsimp only
  by_cases he : eo.isEmpty = true
  · refine wp_if_pos (c := eo.isEmpty = true) he ?_
    refine wpAny_pure (hQ s.heap s.drawn _ _ (R.toR (S := fun k => decide (k ∈ keys er)) (fun k => decide_eq_true_iff) rfl) (fun k => ?_) (by omega) (Heap.SameBut.refl r s.heap))
    have : eo = #[] := by simpa using he
    subst this
    simp
  · refine wp_if_neg (c := eo.isEmpty = true) he ?_
    try refine wpAny_bind (wpAny_pure ?_)
    refine wpAny_bind (room_x R hroom fun h1 er1 pr1 tr1 sb1 R1 p1 _ => ?_)
    have O1 := sx_other O sb1 hro
    refine wpAny_bind (wpAny_setState_of R1.obj rfl R1.fits ?_)
    dsimp only
    have z1 := perm_size p1
    have hfill : (tr1.fill != 0) = true := by
      have f := R1.fits
      unfold SetTable.fits at f
      rw [Bool.and_eq_true, beq_iff_eq] at f
      have : tr1.fill ≠ 0 := by
        unfold SetTable.fill
        omega
      simpa using this
    have er' : tr1.road to = .oneByOne := if_pos hfill
    rw [er']
    dsimp only
    refine wpAny_bind (unseen_x (s := { s with heap := h1 }) O1 (fun b hb => by rw [List.mem_singleton.mp hb]; exact ⟨_, _, _, R1⟩) R1 fun ys d h2 pf tf py sb2 R2 => ?_)
    have O2 := sx_other O1 sb2 hro
    have zy := perm_size py
    refine wpAny_bind (add_all (s := { s with heap := h2, drawn := d }) (P := P) (A := A) (E := E) _ (fun s1 => SetX w s1.heap o eo po to) (fun s1 h' sb k => sx_other k sb hro) ?hf ys (fun e he => O.good e (py.mem_iff.mp he))
      (R2.toR (S := fun k => decide (k ∈ keys er1)) (fun k => decide_eq_true_iff) rfl) (by have : scanBound = 4096 := rfl; omega) O2 ?hQ)
    case hQ =>
      intro h3 S' n' R3 m3 l3 sb3 _
      refine wpAny_pure (hQ h3 d S' n' R3 (fun k => ?_) (by omega) (sb_trans sb1 (sb_trans sb2 sb3)))
      rw [m3 k, decide_eq_true_iff, keys_perm p1 k, keys_perm py k]
    case hf =>
      intro e k tk s1 Q' ee kk hwp
      subst ee
      dsimp only
      refine wpAny_bind (wpAny_holding (wpAny_mono hwp (fun b s2 hs2 => ?_) fun _ _ z => z))
      obtain ⟨k2, q2⟩ := hs2
      refine wpAny_bind (heach s2 _ k2 ?_)
      refine wpAny_bind (wpAny_setState_of k2.obj rfl k2.fits ?_)
      refine wp_if_neg (c := (po != po) = true) (by simp) ?_
      exact wpAny_pure q2
end
end Cs

set_option Elab.async false
set_option linter.all false
set_option maxRecDepth 100000
set_option maxHeartbeats 1000000
namespace Cs
open PySem PySem.Spec PyProof.Rows L2
section
variable {P : Program} {w : World} {A : Around} {E : Value → Shared → Prop} {s : Shared}
theorem SetX.permTo {h h' : Heap} {a b : Addr} {es es' : Array (Int × Value)} {t t' : SetTable} {ep ep' : Nat} (R : SetX w h a es ep t) (p : es'.toList.Perm es.toList)
    (o : h'.get? b = some { cls := .type "set", dict := none, data := .set es' ep' t', slots := #[] }) (f : t'.fits es'.size = true) (r : Ris t'.place.toList) (l : w.params.followText "set-order" = true ∨ t'.led = true) : SetX w h' b es' ep' t' :=
  ⟨o, fun e he => R.good e (p.mem_iff.mp he), (p.map keyOf).nodup_iff.mpr R.nd, by rw [perm_size p]; exact R.few, f, r, l⟩
theorem nil_of_perm {es : Array (Int × Value)} (p : es.toList.Perm (#[] : Array (Int × Value)).toList) : es = #[] := by
  have q := List.perm_nil.mp p
  simpa using q
theorem merge_fresh {r o : Addr} {each : Sem Unit} {eo : Array (Int × Value)} {pr po : Nat} {tr to : SetTable} {Q : Unit → Shared → Prop} (hro : o ≠ r) (R : SetX w s.heap r #[] pr tr)
    (hm : tr.mask = 7) (hdm : tr.dummies = #[]) (O : SetX w s.heap o eo po to) (h63 : eo.size ≤ 63)
    (hQ : ∀ h' es' ep' t', SetX w h' r es' ep' t' → es'.toList.Perm eo.toList → Heap.SameBut r s.heap h' → Q () { s with heap := h' }) :
    wpAny (model P w) A (setMerge r o each) Q E s := by
  unfold setMerge
  refine wp_if_neg (c := (r == o) = true) (by simpa using Ne.symm hro) ?_
  try refine wpAny_bind (wpAny_pure ?_)
  refine wpAny_bind (wpAny_setState_of O.obj rfl O.fits ?_)
  dsimp only
  by_cases he : eo.isEmpty = true
  · refine wp_if_pos (c := eo.isEmpty = true) he ?_
    have e0 : eo = #[] := by simpa using he
    subst e0
    exact wpAny_pure (hQ s.heap _ _ _ R (List.Perm.refl _) (Heap.SameBut.refl r s.heap))
  · refine wp_if_neg (c := eo.isEmpty = true) he ?_
    try refine wpAny_bind (wpAny_pure ?_)
    have fr : tr.fill = 0 := by
      have f := R.fits
      unfold SetTable.fits at f
      rw [Bool.and_eq_true, beq_iff_eq] at f
      have f1 : tr.place.size = 0 := f.1
      unfold SetTable.fill
      rw [hdm, f1]
      rfl
    refine wpAny_bind (room_x R (by show (0 + eo.size) * 2 < 128; omega) fun h1 er1 pr1 tr1 sb1 R1 p1 alt => ?_)
    have e1 := nil_of_perm p1
    subst e1
    have O1 := sx_other O sb1 hro
    have hM : Msk tr1.mask ∧ eo.size ≤ tr1.mask ∧ tr1.dummies = #[] := by
      rcases alt with ⟨et, hlt⟩ | ⟨em, ed⟩
      · subst et
        rw [fr, hm] at hlt
        exact ⟨.inl hm, by rw [hm]; omega, hdm⟩
      · have z : (#[] : Array (Int × Value)).size = 0 := rfl
        rw [z] at em
        obtain ⟨a1, a2, a3⟩ := above_ok (n := (0 + eo.size) * 2) (by omega)
        exact ⟨em ▸ a1, by omega, ed⟩
    obtain ⟨hM1, hM2, hM3⟩ := hM
    have fr1 : tr1.fill = 0 := by
      have f := R1.fits
      unfold SetTable.fits at f
      rw [Bool.and_eq_true, beq_iff_eq] at f
      have f1 : tr1.place.size = 0 := f.1
      unfold SetTable.fill
      rw [hM3, f1]
      rfl
    refine wpAny_bind (wpAny_setState_of R1.obj rfl R1.fits ?_)
    dsimp only
    have led : w.params.followText "set-order" = true ∨ (tr1.led && to.led) = true := by
      rcases R1.led with z | z
      · exact .inl z
      · rcases O1.led with y | y
        · exact .inl y
        · exact .inr (by rw [z, y] <;> rfl)
    have er : tr1.road to = if (tr1.mask == to.mask && to.dummies.isEmpty) = true then .slotForSlot else .clean := if_neg (by rw [fr1]; simp)
    by_cases c : (tr1.mask == to.mask && to.dummies.isEmpty) = true
    · rw [er, if_pos c]
      dsimp only
      refine wpAny_storeSet_of R1.obj rfl ?_ (fits_of_scanBound O.few)
      refine hQ _ _ _ _ (O1.permTo (List.Perm.refl _) (store_at R1.obj rfl) ?_ O1.ris led) (List.Perm.refl _) (sb_trans sb1 (Heap.SameBut.update h1 r _))
      exact O1.fits
    · rw [er, if_neg c]
      dsimp only
      obtain ⟨t', order, e, hp, em, ed, el, eR, ez⟩ := laid_ok hM1 (hs := eo.map (·.1)) (by rw [Array.size_map]; exact hM2) tr1.finger tr1.moves (tr1.led && to.led) (tr1.plain && to.plain)
      rw [Array.size_map] at hp ez
      have p2 := order_perm hp
      have z2 := perm_size p2
      rw [e]
      refine wpAny_bind ?_
      refine wp_if_neg (c := ((order.filterMap (eo[·]?)).size != eo.size) = true) (by rw [z2]; simp) ?_
      try refine wpAny_bind (wpAny_pure ?_)
      refine wpAny_pure ?_
      dsimp only
      refine wpAny_storeSet_of R1.obj rfl ?_ (fits_of_scanBound (by rw [z2]; exact O.few))
      refine hQ _ _ _ _ (O1.permTo p2 (store_at R1.obj rfl) ?_ eR (by rw [el]; exact led)) p2 (sb_trans sb1 (Heap.SameBut.update h1 r _))
      unfold SetTable.fits SetTable.fill
      rw [ed, z2, ez, em, Bool.and_eq_true, beq_iff_eq, decide_eq_true_eq]
      exact ⟨rfl, by show eo.size + 0 ≤ _; omega⟩

/-! ### the words of the class -/
abbrev newObjOf (w : World) : Obj := { cls := .type "set", dict := none, data := .set #[] 0 (.fresh 0 0 (!w.params.followText "set-order")) }
theorem fresh_x (h : Heap) : SetX w (h.push (newObjOf w)) h.objs.size #[] 0 (.fresh 0 0 (!w.params.followText "set-order")) :=
  ⟨Heap.get?_push_size _ rfl, fun e he => by simp at he, by simp, by decide, rfl, List.Pairwise.nil, by
    show _ ∨ (!w.params.followText "set-order") = true
    cases w.params.followText "set-order" <;> simp⟩
theorem SetX.ty {h : Heap} {a : Addr} {es : Array (Int × Value)} {ep : Nat} {t : SetTable} (R : SetX w h a es ep t) {s : Shared} (e : s.heap = h) : s.TypeIs (.ref a) "set" :=
  ⟨_, by rw [e]; exact R.obj, rfl⟩
theorem base_x {a : Addr} {Q : Value → Shared → Prop} (hT : s.TypeIs (.ref a) "set") (q : Q (.type "set") s) : wpAny (model P w) A (Builtin.Frozenset.baseOf a) Q E s := by
  unfold Builtin.Frozenset.baseOf
  refine wpAny_bind (wpAny_isInstance (b := true) hT sub_set_self ?_)
  exact wpAny_pure q
theorem any_x {a : Addr} {Q : Bool → Shared → Prop} (hT : s.TypeIs (.ref a) "set") (q : Q true s) : wpAny (model P w) A (Builtin.Frozenset.isAnySet (.ref a)) Q E s := by
  unfold Builtin.Frozenset.isAnySet
  refine wpAny_bind (wpAny_isInstance (b := true) hT sub_set_self ?_)
  exact wpAny_pure q
theorem new_x {Q : Value → Shared → Prop} (q : Q (.ref s.heap.objs.size) { s with heap := s.heap.push (newObjOf w) }) : wpAny (model P w) A (newSet (.type "set")) Q E s := by
  unfold newSet
  refine wpAny_bind (wpAny_byText ?_)
  dsimp only
  simp only [newObj]
  exact wpAny_bind (wpAny_alloc (wpAny_pure q))
theorem size_x {a : Addr} {es : Array (Int × Value)} {ep : Nat} {t : SetTable} {Q : Nat → Shared → Prop} (R : SetX w s.heap a es ep t) (q : Q es.size s) : wpAny (model P w) A (Builtin.Frozenset.sizeOf a) Q E s := by
  unfold Builtin.Frozenset.sizeOf setEntries
  exact wpAny_bind (wpAny_bind (wpAny_setState_of R.obj rfl R.fits (wpAny_pure (wpAny_pure q))))
theorem unchanged_x {id : String} {a : Addr} {es : Array (Int × Value)} {ep : Nat} {t : SetTable} {Q : Unit → Shared → Prop} (R : SetX w s.heap a es ep t) (q : Q () s) : wpAny (model P w) A (Builtin.Frozenset.unchanged id a ep) Q E s := by
  unfold Builtin.Frozenset.unchanged
  refine wpAny_bind (wpAny_setEpoch_of R.obj rfl R.fits ?_)
  exact wp_if_neg (c := (ep != ep) = true) (by simp) (wpAny_pure q)

/-- heaps in which all is as it was but what is new -/
def Old (h h' : Heap) : Prop := ∀ b o, h.get? b = some o → h'.get? b = some o
theorem old_push (h : Heap) (o : Obj) : Old h (h.push o) := fun _ _ e => Heap.get?_push_of_some o e
theorem old_but {h h' : Heap} {o : Obj} (sb : Heap.SameBut h.objs.size (h.push o) h') : Old h h' := fun b u e => by
  rw [sb.2 b (Nat.ne_of_lt (Heap.lt_size e))]
  exact Heap.get?_push_of_some o e
theorem copy_x {a : Addr} {es : Array (Int × Value)} {ep : Nat} {t : SetTable} {Q : Value → Shared → Prop} (R : SetX w s.heap a es ep t) (h63 : es.size ≤ 63)
    (hQ : ∀ h' es' ep' t', SetX w h' s.heap.objs.size es' ep' t' → es'.toList.Perm es.toList → Heap.SameBut s.heap.objs.size (s.heap.push (newObjOf w)) h' → Q (.ref s.heap.objs.size) { s with heap := h' }) :
    wpAny (model P w) A (Builtin.Frozenset.copyOf a) Q E s := by
  unfold Builtin.Frozenset.copyOf
  refine wpAny_bind (base_x (R.ty rfl) ?_)
  refine wpAny_bind (new_x ?_)
  refine wpAny_bind (wpAny_pure ?_)
  have hne : a ≠ s.heap.objs.size := Nat.ne_of_lt (Heap.lt_size R.obj)
  refine wpAny_bind (merge_fresh (s := { s with heap := s.heap.push (newObjOf w) }) hne (fresh_x s.heap) rfl rfl (R.move fun o e => old_push _ _ _ _ e) h63 fun h' es' ep' t' X p sb => ?_)
  exact wpAny_pure (hQ h' es' ep' t' X p sb)
end
end Cs

set_option Elab.async false
set_option linter.all false
set_option maxRecDepth 100000
set_option maxHeartbeats 1000000
namespace Cs
open PySem PySem.Spec PyProof.Rows L2
section
variable {P : Program} {w : World} {A : Around} {E : Value → Shared → Prop} {s : Shared}
/-- adding those of a walk that a test lets in -/
theorem add_some {r : Addr} (C : Int → Bool) (f : (Int × Value) → PUnit → Sem (ForInStep PUnit)) (K : Shared → Prop) (hK : ∀ s1 h', Heap.SameBut r s1.heap h' → K s1 → K { s1 with heap := h' })
    (hf : ∀ e k tk s1 Q', e = (hashInt k, Value.int k tk) → K s1 → (C k = true → wpAny (model P w) A (setAddHashed r (.int k tk) (hashInt k)) (fun _ s2 => K s2 ∧ Q' (.yield ⟨⟩) s2) E s1) → (C k = false → Q' (.yield ⟨⟩) s1) →
      wpAny (model P w) A (f e ⟨⟩) Q' E s1)
    (ys : Array (Int × Value)) (g : ∀ e ∈ ys.toList, GoodE e) {S : Int → Bool} {n : Nat} (R : SetR w s.heap r S n) (hn : n + ys.size + 1 < scanBound) (hs : K s) {Q : PUnit → Shared → Prop}
    (hQ : ∀ h' S' n', SetR w h' r S' n' → (∀ k, S' k = true ↔ S k = true ∨ (k ∈ keys ys ∧ C k = true)) → n' ≤ n + ys.size → Heap.SameBut r s.heap h' → K { s with heap := h' } → Q ⟨⟩ { s with heap := h' }) :
    wpAny (model P w) A (forIn ys ⟨⟩ f) Q E s := by
  refine MeetsSeq2.wpAny_forIn_array f (fun rest _ s' => ∃ h' S' n', s' = { s with heap := h' } ∧ SetR w h' r S' n' ∧ (∀ k, (S' k = true ∨ (k ∈ rest.map keyOf ∧ C k = true)) ↔ (S k = true ∨ (k ∈ keys ys ∧ C k = true))) ∧ n' + rest.length ≤ n + ys.size ∧
    Heap.SameBut r s.heap h' ∧ K { s with heap := h' } ∧ ∀ e ∈ rest, GoodE e) Q ?turn ?fin ys ⟨⟩ ⟨s.heap, S, n, rfl, R, fun k => Iff.rfl, by rw [Array.length_toList]; exact Nat.le_refl _, Heap.SameBut.refl r s.heap, hs, g⟩
  case fin =>
    rintro ⟨⟩ s' ⟨h', S', n', rfl, R', m, l, sb, k, _⟩
    exact hQ h' S' n' R' (fun k => by simpa using m k) (by simpa using l) sb k
  case turn =>
    rintro e rest ⟨⟩ s' ⟨h', S', n', rfl, R', m, l, sb, kk, g'⟩
    obtain ⟨k, tk, e1, e2⟩ := g' e List.mem_cons_self
    obtain ⟨eh, ev⟩ := e
    simp only at e1 e2
    subst e1 e2
    rw [List.length_cons] at l
    refine hf _ k tk _ _ rfl kk (fun hc => ?_) (fun hc => ?_)
    · refine setR_add_hashed (s := { s with heap := h' }) R' (by omega) fun h2 sb2 R2 => ?_
      have k2 : K { s with heap := h2 } := hK { s with heap := h' } h2 sb2 kk
      refine ⟨k2, h2, _, _, rfl, R2, fun j => ?_, ?_, sb_trans sb sb2, k2, fun e he => g' e (List.mem_cons_of_mem _ he)⟩
      · rw [← m j, List.map_cons, List.mem_cons, Bool.or_eq_true, decide_eq_true_eq]
        show ((S' j = true ∨ j = k) ∨ _) ↔ (S' j = true ∨ ((j = k ∨ _) ∧ _))
        constructor
        · rintro ((z | z) | ⟨z, z2⟩)
          · exact .inl z
          · exact .inr ⟨.inl z, z ▸ hc⟩
          · exact .inr ⟨.inr z, z2⟩
        · rintro (z | ⟨z | z, z2⟩)
          · exact .inl (.inl z)
          · exact .inl (.inr z)
          · exact .inr ⟨z, z2⟩
      · have : (if S' k = true then n' else n' + 1) ≤ n' + 1 := by split <;> omega
        omega
    · refine ⟨h', S', n', rfl, R', fun j => ?_, by omega, sb, kk, fun e he => g' e (List.mem_cons_of_mem _ he)⟩
      rw [← m j, List.map_cons, List.mem_cons]
      show (S' j = true ∨ _) ↔ (S' j = true ∨ ((j = k ∨ _) ∧ _))
      constructor
      · rintro (z | ⟨z, z2⟩)
        · exact .inl z
        · exact .inr ⟨.inr z, z2⟩
      · rintro (z | ⟨z | z, z2⟩)
        · exact .inl z
        · rw [z, hc] at z2
          cases z2
        · exact .inr ⟨z, z2⟩

theorem find_x {a : Addr} {es : Array (Int × Value)} {ep : Nat} {t : SetTable} {k : Int} {tk : Tok} {Q : Option Nat → Shared → Prop} (R : SetX w s.heap a es ep t)
    (h : ∀ i : Option Nat, (i = none ∧ k ∉ keys es ∨ ∃ j, i = some j ∧ (keys es)[j]? = some k) → Q i s) : wpAny (model P w) A (setFind a (.int k tk) (hashInt k)) Q E s := by
  have hkey : (intKind P w).is k (.int k tk) = true := intKind_is P w k tk
  have hel : ElemsOf (intKind P w) es.toList := good_elems R.good
  unfold setFind setFindIn
  refine wpAny_bind (wpAny_setState_of R.obj rfl R.fits ?_)
  dsimp only
  rw [byScan_of (x := .int k tk) rfl R.few hel]
  simp only [↓reduceIte]
  refine wpAny_bind (wpAny_rule ?_)
  refine wpAny_bind (wpAny_setScan_of (knd := intKind P w) hkey R.obj rfl R.fits hel ?_)
  cases hr : List.findIdx? (fun e => (intKind P w).is k e.2) es.toList with
  | none =>
    dsimp only
    refine wpAny_pure (h none (.inl ⟨rfl, fun z => ?_⟩))
    obtain ⟨e, he, q⟩ := (good_mem (P := P) (w := w) R.good k).1 z
    have c := List.findIdx?_eq_none_iff.mp hr e he
    rw [q] at c
    cases c
  | some j =>
    dsimp only
    obtain ⟨hj, pj, _⟩ := List.findIdx?_eq_some_iff_getElem.mp hr
    refine wpAny_pure (h (some (0 + j)) (.inr ⟨0 + j, rfl, ?_⟩))
    rw [Nat.zero_add, List.getElem?_map, List.getElem?_eq_getElem hj]
    have := (good_is (P := P) (w := w) (R.good _ (List.getElem_mem hj)) k).1 pj
    exact congrArg some this
theorem found_x {a : Addr} {es : Array (Int × Value)} {ep : Nat} {t : SetTable} {k : Int} {tk : Tok} {Q : Option Nat → Shared → Prop} (R : SetX w s.heap a es ep t)
    (h : ∀ i : Option Nat, i.isSome = decide (k ∈ keys es) → Q i s) : wpAny (model P w) A (setFind a (.int k tk) (hashInt k)) Q E s := by
  refine find_x R fun i hi => h i ?_
  rcases hi with ⟨rfl, z⟩ | ⟨j, rfl, z⟩
  · simp [z]
  · have : k ∈ keys es := List.mem_of_getElem? z
    simp [this]

/-- a & b -/
theorem and_x {id : String} {a b : Addr} {ea eb : Array (Int × Value)} {pa pb : Nat} {ta tb : SetTable} {Q : Value → Shared → Prop} (hne : b ≠ a) (RA : SetX w s.heap a ea pa ta) (RB : SetX w s.heap b eb pb tb)
    (hl : ea.size ≤ 63) (hl2 : eb.size ≤ 63)
    (hQ : ∀ h' d' S n, SetR w h' s.heap.objs.size S n → (∀ k, S k = true ↔ k ∈ keys ea ∧ k ∈ keys eb) → n ≤ 63 → Old s.heap h' → Q (.ref s.heap.objs.size) { s with heap := h', drawn := d' }) :
    wpAny (model P w) A (Builtin.Frozenset.intersection id a (.ref b)) Q E s := by
  have hsb : scanBound = 4096 := rfl
  have na : a ≠ s.heap.objs.size := Nat.ne_of_lt (Heap.lt_size RA.obj)
  have nb : b ≠ s.heap.objs.size := Nat.ne_of_lt (Heap.lt_size RB.obj)
  unfold Builtin.Frozenset.intersection
  refine wp_if_neg (c := ((Value.ref b == Value.ref a) = true)) (by simpa using hne) ?_
  try refine wpAny_bind (wpAny_pure ?_)
  refine wpAny_bind (base_x (RA.ty rfl) ?_)
  refine wpAny_bind (new_x ?_)
  refine wpAny_bind (wpAny_pure ?_)
  have RA1 : SetX w (s.heap.push (newObjOf w)) a ea pa ta := RA.move fun o e => old_push _ _ _ _ e
  have RB1 : SetX w (s.heap.push (newObjOf w)) b eb pb tb := RB.move fun o e => old_push _ _ _ _ e
  have R1 := fresh_x (w := w) s.heap
  refine wpAny_bind (wpAny_holding ?_)
  refine wpAny_bind (any_x (RB1.ty rfl) ?_)
  refine wp_if_pos (c := (true = true)) rfl ?_
  refine wpAny_bind (wpAny_pure ?_)
  refine wpAny_bind (size_x (s := { s with heap := s.heap.push (newObjOf w) }) RB1 ?_)
  refine wpAny_bind (size_x (s := { s with heap := s.heap.push (newObjOf w) }) RA1 ?_)
  have key : ∀ (q v : Addr) (eq ev : Array (Int × Value)) (pq pv : Nat) (tq tv : SetTable), SetX w (s.heap.push (newObjOf w)) q eq pq tq → SetX w (s.heap.push (newObjOf w)) v ev pv tv → ev.size ≤ 63 → q ≠ s.heap.objs.size → v ≠ s.heap.objs.size →
      (∀ k, k ∈ keys ev ∧ k ∈ keys eq ↔ k ∈ keys ea ∧ k ∈ keys eb) → wpAny (model P w) A (do
        let was ← setEpoch v
        for (h, x) in ← setWalkUnseen v [q, s.heap.objs.size] (some s.heap.objs.size) do
          holding [x] do
            if (← setFind q x h).isSome then
              let _ ← setAddHashed s.heap.objs.size x h
          Builtin.Frozenset.unchanged id v was) (fun _ s' => wpAny (model P w) A (pure (Value.ref s.heap.objs.size)) Q E s') E { s with heap := s.heap.push (newObjOf w) } := by
    intro q v eq ev pq pv tq tv RQ RV hv nq nv hk
    refine wpAny_bind (wpAny_setEpoch_of RV.obj rfl RV.fits ?_)
    refine wpAny_bind (unseen_x (s := { s with heap := s.heap.push (newObjOf w) }) RV (fun c hc => ?_) R1 fun ys d h2 pf tf py sb2 R2 => ?_)
    · rcases List.mem_cons.mp hc with z | z
      · exact ⟨_, _, _, z ▸ RQ⟩
      · rw [List.mem_singleton.mp z]
        exact ⟨_, _, _, R1⟩
    have RQ2 := sx_other RQ sb2 nq
    have RV2 := sx_other RV sb2 nv
    have zy := perm_size py
    refine wpAny_bind (add_some (P := P) (A := A) (E := E) (s := { s with heap := h2, drawn := d }) (r := s.heap.objs.size) (fun k => decide (k ∈ keys eq)) _ (fun s1 => SetX w s1.heap q eq pq tq ∧ SetX w s1.heap v ev pv tv) (fun s1 h' sb k => ⟨sx_other k.1 sb nq, sx_other k.2 sb nv⟩) ?hf ys
      (fun e he => RV.good e (py.mem_iff.mp he)) (R2.toR (S := fun _ => false) (fun k => by simp) rfl) (by show 0 + ys.size + 1 < scanBound; omega) ⟨RQ2, RV2⟩ ?hQ)
    case hQ =>
      intro h3 S' n' R3 m3 l3 sb3 _
      refine wpAny_pure (wpAny_pure (hQ h3 d S' n' R3 (fun k => ?_) ?_ ?_))
      · rw [m3 k, keys_perm py k, decide_eq_true_iff, ← hk k]
        simp
      · have : n' ≤ 0 + ys.size := l3
        omega
      · exact old_but (sb_trans sb2 sb3)
    case hf =>
      intro e k tk s1 Q' ee kk h1 h0
      subst ee
      dsimp only
      refine wpAny_bind (wpAny_holding ?_)
      refine wpAny_bind (found_x kk.1 fun i hi => ?_)
      by_cases c : k ∈ keys eq
      · refine wp_if_pos (by rw [hi]; exact decide_eq_true c) ?_
        refine wpAny_bind (wpAny_mono (h1 (decide_eq_true c)) (fun b s2 hs2 => ?_) fun _ _ z => z)
        refine wpAny_pure ?_
        refine wpAny_bind (unchanged_x hs2.1.2 ?_)
        exact wpAny_pure hs2.2
      · refine wp_if_neg (by rw [hi]; simpa using c) ?_
        refine wpAny_pure ?_
        refine wpAny_bind (unchanged_x kk.2 ?_)
        exact wpAny_pure (h0 (decide_eq_false c))
  by_cases c : eb.size > ea.size
  · rw [if_pos c]
    exact key b a eb ea pb pa tb ta RB1 RA1 hl nb na (fun k => Iff.rfl)
  · rw [if_neg c]
    exact key a b ea eb pa pb ta tb RA1 RB1 hl2 na nb (fun k => And.comm)
end
end Cs

set_option Elab.async false
set_option linter.all false
set_option maxRecDepth 100000
set_option maxHeartbeats 1000000
namespace Cs
open PySem PySem.Spec PyProof.Rows L2
section
variable {P : Program} {w : World} {A : Around} {E : Value → Shared → Prop} {s : Shared}
theorem map_out {α β : Type} (f : α → β) : ∀ (l : List α) (i : Nat), (l.map f).eraseIdx i = (l.eraseIdx i).map f
  | [], i => by simp
  | x :: l, 0 => by simp
  | x :: l, i + 1 => by simp [map_out f l i]
/-- a | b -/
theorem union_x {id : String} {a b : Addr} {ea eb : Array (Int × Value)} {pa pb : Nat} {ta tb : SetTable} {Q : Unit → Shared → Prop} (hne : b ≠ a) (RA : SetX w s.heap a ea pa ta) (RB : SetX w s.heap b eb pb tb)
    (ha : ea.size ≠ 0 ∨ (ea = #[] ∧ ta.mask = 7 ∧ ta.dummies = #[])) (hl : (ea.size + eb.size) * 2 < 128)
    (hQ : ∀ h' d' S n, SetR w h' a S n → (∀ k, S k = true ↔ k ∈ keys ea ∨ k ∈ keys eb) → n ≤ ea.size + eb.size → Heap.SameBut a s.heap h' → Q () { s with heap := h', drawn := d' }) :
    wpAny (model P w) A (Builtin.Frozenset.updateFrom id a (.ref b)) Q E s := by
  unfold Builtin.Frozenset.updateFrom
  refine wpAny_bind (any_x (RB.ty rfl) ?_)
  refine wp_if_pos (c := (true = true)) rfl ?_
  refine wpAny_bind (wpAny_pure ?_)
  refine wpAny_bind (wpAny_setEpoch_of RB.obj rfl RB.fits ?_)
  rcases ha with ha | ⟨e0, em, ed⟩
  · refine merge_more hne RA RB ha hl (fun s' Q' k q => unchanged_x k q) fun h' d' S' n' R m l sb => ?_
    exact hQ h' d' S' n' R m l sb
  · subst e0
    have z0 : (#[] : Array (Int × Value)).size = 0 := rfl
    refine merge_fresh hne RA em ed RB (by omega) fun h' es' ep' t' X p sb => ?_
    have z := perm_size p
    exact hQ h' s.drawn _ _ (X.toR (S := fun k => decide (k ∈ keys es')) (fun k => decide_eq_true_iff) rfl) (fun k => by rw [decide_eq_true_iff, keys_perm p k]; simp) (by omega) sb

/-- what is struck out -/
theorem discard_x {a : Addr} {es : Array (Int × Value)} {ep : Nat} {t : SetTable} {k : Int} {tk : Tok} {Q : Bool → Shared → Prop} (R : SetX w s.heap a es ep t)
    (hQ : ∀ b h' es' ep' t', SetX w h' a es' ep' t' → (∀ j, j ∈ keys es' ↔ j ∈ keys es ∧ j ≠ k) → es'.size ≤ es.size → Heap.SameBut a s.heap h' → Q b { s with heap := h' }) :
    wpAny (model P w) A (setDiscardHashed a (.int k tk) (hashInt k)) Q E s := by
  unfold setDiscardHashed
  refine wpAny_bind (find_x R fun i hi => ?_)
  rcases hi with ⟨rfl, z⟩ | ⟨i, rfl, z⟩
  · exact wpAny_pure (hQ false s.heap es ep t R (fun j => ⟨fun q => ⟨q, fun e => z (e ▸ q)⟩, fun q => q.1⟩) (Nat.le_refl _) (Heap.SameBut.refl a s.heap))
  · dsimp only
    refine wpAny_bind (wpAny_setState_of R.obj rfl R.fits ?_)
    dsimp only
    have hf := R.fits
    unfold SetTable.fits SetTable.fill at hf
    rw [Bool.and_eq_true, beq_iff_eq, decide_eq_true_eq] at hf
    have hi : i < es.toList.length := by
      have := (List.getElem?_eq_some_iff.mp z).1
      rw [List.length_map] at this
      exact this
    have hi2 : i < t.place.size := by rw [hf.1, ← Array.length_toList]; exact hi
    have er : ∀ {α : Type} (xs : Array α), (SetTable.eraseAt xs i).toList = xs.toList.eraseIdx i := fun xs => by
      unfold SetTable.eraseAt
      rw [List.eraseIdx_eq_take_drop_succ]
      simp [List.extract_eq_take_drop, List.take_of_length_le]
    have ed : t.drop i = { t with place := SetTable.eraseAt t.place i, dummies := SetTable.insertAt t.dummies (SetTable.below t.dummies t.place[i]) t.place[i] } := by
      unfold SetTable.drop
      rw [Array.getElem?_eq_getElem hi2]
    have l1 : (SetTable.eraseAt es i).size + 1 = es.size := by
      rw [← Array.length_toList, er, List.length_eraseIdx, if_pos hi, Array.length_toList]
      rw [Array.length_toList] at hi
      omega
    have l2 : (SetTable.eraseAt t.place i).size + 1 = t.place.size := by
      rw [← Array.length_toList, er, List.length_eraseIdx, Array.length_toList, if_pos hi2]
      omega
    have l3 : ∀ p x, (SetTable.insertAt t.dummies p x).size = t.dummies.size + 1 := fun p x => by
      have := (SetTable.insertAt_perm t.dummies p x).length_eq
      rw [Array.length_toList, Array.length_toList, Array.size_push] at this
      exact this
    refine wpAny_bind (wpAny_storeSet_of R.obj rfl ?_ (fits_of_scanBound (by have := R.few; omega)))
    refine wpAny_bind (wpAny_point ?_)
    have ek : keys (SetTable.eraseAt es i) = (keys es).eraseIdx i := by
      show (SetTable.eraseAt es i).toList.map keyOf = _
      rw [er]
      exact (map_out keyOf es.toList i).symm
    have pk : (k :: (keys es).eraseIdx i).Perm (keys es) := erase_perm (keys es) i k z
    have nd : (k :: (keys es).eraseIdx i).Nodup := pk.nodup_iff.mpr R.nd
    refine wpAny_pure (hQ true _ _ _ _ ⟨store_at R.obj rfl, fun e he => R.good e ?_, ?_, ?_, ?_, ?_, ?_⟩ (fun j => ?_) (by omega) (Heap.SameBut.update s.heap a _))
    · rw [er] at he
      exact List.mem_of_mem_eraseIdx he
    · show (keys (SetTable.eraseAt es i)).Nodup
      rw [ek]
      exact (List.nodup_cons.mp nd).2
    · have := R.few
      omega
    · rw [ed]
      unfold SetTable.fits SetTable.fill
      rw [Bool.and_eq_true, beq_iff_eq, decide_eq_true_eq]
      simp only
      rw [l3]
      exact ⟨by omega, by omega⟩
    · rw [ed]
      show Ris (SetTable.eraseAt t.place i).toList
      rw [er]
      exact List.Pairwise.sublist (List.eraseIdx_sublist _ _) R.ris
    · rw [ed]
      exact R.led
    · rw [ek, ← (pk.mem_iff (a := j)), List.mem_cons]
      constructor
      · intro q
        exact ⟨.inr q, fun e => (List.nodup_cons.mp nd).1 (e ▸ q)⟩
      · rintro ⟨q | q, q2⟩
        · exact absurd q q2
        · exact q

theorem strike_all {r : Addr} (f : (Int × Value) → PUnit → Sem (ForInStep PUnit)) (K : Shared → Prop) (hK : ∀ s1 h', Heap.SameBut r s1.heap h' → K s1 → K { s1 with heap := h' })
    (hf : ∀ e k tk s1 Q', e = (hashInt k, Value.int k tk) → K s1 → (wpAny (model P w) A (setDiscardHashed r (.int k tk) (hashInt k)) (fun _ s2 => K s2 ∧ Q' (.yield ⟨⟩) s2) E s1) → wpAny (model P w) A (f e ⟨⟩) Q' E s1)
    (ys : Array (Int × Value)) (g : ∀ e ∈ ys.toList, GoodE e) {es : Array (Int × Value)} {ep : Nat} {t : SetTable} (R : SetX w s.heap r es ep t) (hs : K s) {Q : PUnit → Shared → Prop}
    (hQ : ∀ h' es' ep' t', SetX w h' r es' ep' t' → (∀ k, k ∈ keys es' ↔ k ∈ keys es ∧ k ∉ keys ys) → es'.size ≤ es.size → Heap.SameBut r s.heap h' → K { s with heap := h' } → Q ⟨⟩ { s with heap := h' }) :
    wpAny (model P w) A (forIn ys ⟨⟩ f) Q E s := by
  refine MeetsSeq2.wpAny_forIn_array f (fun rest _ s' => ∃ h' es' ep' t', s' = { s with heap := h' } ∧ SetX w h' r es' ep' t' ∧ (∀ k, (k ∈ keys es' ∧ k ∉ rest.map keyOf) ↔ (k ∈ keys es ∧ k ∉ keys ys)) ∧ es'.size ≤ es.size ∧
    Heap.SameBut r s.heap h' ∧ K { s with heap := h' } ∧ ∀ e ∈ rest, GoodE e) Q ?turn ?fin ys ⟨⟩ ⟨s.heap, es, ep, t, rfl, R, fun k => Iff.rfl, Nat.le_refl _, Heap.SameBut.refl r s.heap, hs, g⟩
  case fin =>
    rintro ⟨⟩ s' ⟨h', es', ep', t', rfl, R', m, l, sb, k, _⟩
    exact hQ h' es' ep' t' R' (fun k => by simpa using m k) l sb k
  case turn =>
    rintro e rest ⟨⟩ s' ⟨h', es', ep', t', rfl, R', m, l, sb, kk, g'⟩
    obtain ⟨k, tk, e1, e2⟩ := g' e List.mem_cons_self
    obtain ⟨eh, ev⟩ := e
    simp only at e1 e2
    subst e1 e2
    refine hf _ k tk _ _ rfl kk ?_
    refine discard_x (s := { s with heap := h' }) R' fun b h2 es2 ep2 t2 R2 m2 l2 sb2 => ?_
    have k2 : K { s with heap := h2 } := hK { s with heap := h' } h2 sb2 kk
    refine ⟨k2, h2, _, _, _, rfl, R2, fun j => ?_, by omega, sb_trans sb sb2, k2, fun e he => g' e (List.mem_cons_of_mem _ he)⟩
    rw [← m j, List.map_cons, List.mem_cons, m2 j]
    show ((j ∈ keys es' ∧ j ≠ k) ∧ _) ↔ (j ∈ keys es' ∧ ¬ (j = k ∨ _))
    constructor
    · rintro ⟨⟨z1, z2⟩, z3⟩
      exact ⟨z1, fun z => z.elim z2 z3⟩
    · rintro ⟨z1, z2⟩
      exact ⟨⟨z1, fun z => z2 (.inl z)⟩, fun z => z2 (.inr z)⟩

theorem tidy_x {a : Addr} {es : Array (Int × Value)} {ep : Nat} {t : SetTable} {Q : Unit → Shared → Prop} (R : SetX w s.heap a es ep t) (hl : es.size ≤ 31)
    (hQ : ∀ h' es' ep' t', SetX w h' a es' ep' t' → es'.toList.Perm es.toList → Heap.SameBut a s.heap h' → Q () { s with heap := h' }) :
    wpAny (model P w) A (setTidy a) Q E s := by
  unfold setTidy
  refine wpAny_bind (wpAny_setState_of R.obj rfl R.fits ?_)
  dsimp only
  have eg : SetTable.grown es.size = es.size * 4 := if_neg (by omega)
  split
  · rw [eg]
    exact relay_x R (by omega) (by omega) fun h' es' t' sb X p _ _ _ => hQ h' es' _ t' X p sb
  · exact wpAny_pure (hQ s.heap es ep t R (List.Perm.refl _) (Heap.SameBut.refl a s.heap))
end
end Cs

set_option Elab.async false
set_option linter.all false
set_option maxRecDepth 100000
set_option maxHeartbeats 2000000
namespace Cs
open PySem PySem.Spec PyProof.Rows L2
section
variable {P : Program} {w : World} {A : Around} {E : Value → Shared → Prop} {s : Shared}
/-- a - b -/
theorem sub_x {id : String} {a b : Addr} {ea eb : Array (Int × Value)} {pa pb : Nat} {ta tb : SetTable} {Q : Value → Shared → Prop} (hne : b ≠ a) (RA : SetX w s.heap a ea pa ta) (RB : SetX w s.heap b eb pb tb)
    (hl : ea.size ≤ 31) (hl2 : eb.size ≤ 63)
    (hQ : ∀ h' d' S n, SetR w h' s.heap.objs.size S n → (∀ k, S k = true ↔ k ∈ keys ea ∧ k ∉ keys eb) → n ≤ 31 → Old s.heap h' → Q (.ref s.heap.objs.size) { s with heap := h', drawn := d' }) :
    wpAny (model P w) A (Builtin.Frozenset.difference id a (.ref b)) Q E s := by
  have hsb : scanBound = 4096 := rfl
  have na : a ≠ s.heap.objs.size := Nat.ne_of_lt (Heap.lt_size RA.obj)
  have nb : b ≠ s.heap.objs.size := Nat.ne_of_lt (Heap.lt_size RB.obj)
  unfold Builtin.Frozenset.difference
  dsimp only
  refine wpAny_bind (any_x (RB.ty rfl) ?_)
  refine wp_if_neg (c := ((!true) = true)) (by simp) ?_
  try refine wpAny_bind (wpAny_pure ?_)
  try refine wpAny_bind (wpAny_pure ?_)
  refine wp_if_neg (c := ((!true && b == sysModules) = true)) (by simp) ?_
  try refine wpAny_bind (wpAny_pure ?_)
  refine wp_if_pos (c := (true = true)) rfl ?_
  refine wpAny_bind (size_x RB ?_)
  refine wpAny_bind (size_x RA ?_)
  by_cases c : ea.size / 4 > eb.size
  · refine wp_if_pos c ?_
    refine wpAny_bind (wpAny_rule ?_)
    refine wpAny_bind (copy_x RA (by omega) fun h1 es1 ep1 t1 X1 p1 sb1 => ?_)
    have z1 := perm_size p1
    have RB1 : SetX w h1 b eb pb tb := RB.move fun o e => old_but sb1 _ _ e
    refine wpAny_bind (wpAny_pure ?_)
    refine wpAny_bind (wpAny_holding ?_)
    unfold Builtin.Frozenset.differenceUpdate
    refine wp_if_neg (c := ((Value.ref b == Value.ref s.heap.objs.size) = true)) (by simpa using nb) ?_
    try refine wpAny_bind (wpAny_pure ?_)
    refine wpAny_bind (any_x (RB1.ty rfl) ?_)
    refine wp_if_pos (c := (true = true)) rfl ?_
    refine wpAny_bind (wpAny_pure ?_)
    dsimp only
    refine wpAny_bind (size_x (s := { s with heap := h1 }) RB1 ?_)
    refine wpAny_bind (size_x (s := { s with heap := h1 }) X1 ?_)
    refine wp_if_neg (by omega) ?_
    try refine wpAny_bind (wpAny_pure ?_)
    refine wpAny_bind (wpAny_setEpoch_of RB1.obj rfl RB1.fits ?_)
    refine wpAny_bind (wpAny_holding ?_)
    refine wpAny_bind (unseen_n (s := { s with heap := h1 }) RB1 (fun x hx => by rw [List.mem_singleton.mp hx]; exact ⟨_, _, _, X1⟩) fun ys d py => ?_)
    refine wpAny_bind (strike_all (P := P) (A := A) (E := E) (s := { s with heap := h1, drawn := d }) (r := s.heap.objs.size) _ (fun s1 => SetX w s1.heap b eb pb tb) (fun s1 h' sb k => sx_other k sb nb) ?hf ys
      (fun e he => RB.good e (py.mem_iff.mp he)) X1 RB1 ?hQ)
    case hf =>
      intro e k tk s1 Q' ee kk hwp
      subst ee
      dsimp only
      refine wpAny_bind (wpAny_holding (wpAny_mono hwp (fun b s2 hs2 => ?_) fun _ _ z => z))
      obtain ⟨k2, q2⟩ := hs2
      refine wpAny_bind (unchanged_x k2 ?_)
      exact wpAny_pure q2
    case hQ =>
      intro h2 es2 ep2 t2 X2 m2 l2 sb2 _
      refine wpAny_pure ?_
      refine tidy_x (s := { s with heap := h2, drawn := d }) X2 (by omega) fun h3 es3 ep3 t3 X3 p3 sb3 => ?_
      have z3 := perm_size p3
      refine wpAny_pure (hQ h3 d _ _ (X3.toR (S := fun k => decide (k ∈ keys es3)) (fun k => decide_eq_true_iff) rfl) (fun k => ?_) (by omega) ?_)
      · rw [decide_eq_true_iff, keys_perm p3 k, m2 k, keys_perm p1 k, keys_perm py k]
      · exact old_but (sb_trans sb1 (sb_trans sb2 sb3))
  · refine wp_if_neg c ?_
    try refine wpAny_bind (wpAny_pure ?_)
    refine wpAny_bind (base_x (RA.ty rfl) ?_)
    refine wpAny_bind (new_x ?_)
    refine wpAny_bind (wpAny_pure ?_)
    have RA1 : SetX w (s.heap.push (newObjOf w)) a ea pa ta := RA.move fun o e => old_push _ _ _ _ e
    have RB1 : SetX w (s.heap.push (newObjOf w)) b eb pb tb := RB.move fun o e => old_push _ _ _ _ e
    have R1 := fresh_x (w := w) s.heap
    refine wpAny_bind (wpAny_setEpoch_of RA1.obj rfl RA1.fits ?_)
    refine wpAny_bind (wpAny_holding ?_)
    refine wpAny_bind (wp_if_pos (c := (true = true)) rfl ?_)
    refine unseen_x (s := { s with heap := s.heap.push (newObjOf w) }) RA1 (fun x hx => ?_) R1 fun ys d h2 pf tf py sb2 R2 => ?_
    · rcases List.mem_cons.mp hx with z | z
      · exact ⟨_, _, _, z ▸ RB1⟩
      · rw [List.mem_singleton.mp z]
        exact ⟨_, _, _, R1⟩
    have RA2 := sx_other RA1 sb2 na
    have RB2 := sx_other RB1 sb2 nb
    have zy := perm_size py
    refine wpAny_bind (add_some (P := P) (A := A) (E := E) (s := { s with heap := h2, drawn := d }) (r := s.heap.objs.size) (fun k => decide (k ∉ keys eb)) _ (fun s1 => SetX w s1.heap b eb pb tb ∧ SetX w s1.heap a ea pa ta)
      (fun s1 h' sb k => ⟨sx_other k.1 sb nb, sx_other k.2 sb na⟩) ?hf ys
      (fun e he => RA.good e (py.mem_iff.mp he)) (R2.toR (S := fun _ => false) (fun k => by simp) rfl) (by show 0 + ys.size + 1 < scanBound; omega) ⟨RB2, RA2⟩ ?hQ)
    case hQ =>
      intro h3 S' n' R3 m3 l3 sb3 _
      refine wpAny_pure (wpAny_pure (hQ h3 d S' n' R3 (fun k => ?_) ?_ ?_))
      · rw [m3 k, keys_perm py k, decide_eq_true_iff]
        simp
      · have : n' ≤ 0 + ys.size := l3
        omega
      · exact old_but (sb_trans sb2 sb3)
    case hf =>
      intro e k tk s1 Q' ee kk h1 h0
      subst ee
      dsimp only
      refine wpAny_bind (wpAny_holding ?_)
      refine wp_if_pos (c := (true = true)) rfl ?_
      refine wpAny_bind (found_x kk.1 fun i hi => ?_)
      refine wpAny_bind (wpAny_pure ?_)
      try refine wpAny_bind (wpAny_pure ?_)
      by_cases c : k ∈ keys eb
      · refine wp_if_neg (by rw [hi]; simp [c]) ?_
        refine wpAny_pure ?_
        refine wpAny_bind (unchanged_x kk.2 ?_)
        exact wpAny_pure (h0 (by simp [c]))
      · refine wp_if_pos (by rw [hi]; simp [c]) ?_
        refine wpAny_bind (wpAny_mono (h1 (decide_eq_true c)) (fun b s2 hs2 => ?_) fun _ _ z => z)
        refine wpAny_pure ?_
        refine wpAny_bind (unchanged_x hs2.1.2 ?_)
        exact wpAny_pure hs2.2
end
end Cs

set_option Elab.async false
set_option linter.all false
set_option maxRecDepth 100000
set_option maxHeartbeats 2000000
namespace Cs
open PySem PySem.Spec PyProof.Rows L2
theorem entry_and : entryFor table "set.__and__" = some Builtin.«frozenset.__and__» := entryFor_alias (id' := "frozenset.__and__") (by kernel_rfl) rfl (by decide +kernel) (by kernel_rfl)
theorem entry_or : entryFor table "set.__or__" = some Builtin.«frozenset.__or__» := entryFor_alias (id' := "frozenset.__or__") (by kernel_rfl) rfl (by decide +kernel) (by kernel_rfl)
theorem entry_sub : entryFor table "set.__sub__" = some Builtin.«frozenset.__sub__» := entryFor_alias (id' := "frozenset.__sub__") (by kernel_rfl) rfl (by decide +kernel) (by kernel_rfl)
end Cs

set_option Elab.async false
set_option linter.all false
set_option maxRecDepth 100000
set_option maxHeartbeats 2000000
namespace Cs
open PySem PySem.Spec PyProof.Rows L2
section
variable {P : Program} {w : World} {A : Around} {E : Value → Shared → Prop} {s : Shared}
theorem slot1_x {name : String} {v u : Value} {Q : Value × Value → Shared → Prop} (q : Q (v, u) s) : wpAny (model P w) A (Builtin.Frozenset.slot1 name ⟨[v, u], []⟩) Q E s := by
  unfold Builtin.Frozenset.slot1 slotArgs
  exact wpAny_pure q
theorem op_and_x {a b : Addr} {SA SB : Int → Bool} {na nb : Nat} {Q : Value → Shared → Prop} (hne : b ≠ a) (RA : SetR w s.heap a SA na) (RB : SetR w s.heap b SB nb) (hl : na ≤ 63) (hl2 : nb ≤ 63)
    (hQ : ∀ h' d' S n, SetR w h' s.heap.objs.size S n → (∀ k, S k = true ↔ SA k = true ∧ SB k = true) → n ≤ 63 → Old s.heap h' → Q (.ref s.heap.objs.size) { s with heap := h', drawn := d' }) :
    wpAny (model P w) A (binaryOp .BitAnd (.ref a) (.ref b)) Q E s := by
  obtain ⟨ea, pa, ta, XA, mA, zA⟩ := xOf RA
  obtain ⟨eb, pb, tb, XB, mB, zB⟩ := xOf RB
  have TA : s.TypeIs (.ref a) "set" := XA.ty rfl
  have TB : s.TypeIs (.ref b) "set" := XB.ty rfl
  refine wpAny_binaryOp_same (op := .BitAnd) TA TB F.fills_set_and F.slot_set_and ?_
  refine wpAny_call_entry F.slot_set_and TA entry_and ?_ (F.args_set_and_2 _ _)
  refine wpAny_bind (slot1_x ?_)
  dsimp only
  refine wpAny_bind (wpAny_bind (any_x TA ?_))
  show wpAny _ _ (Builtin.Frozenset.isAnySet (.ref b)) _ _ _
  refine any_x TB ?_
  refine wp_if_neg (c := ((!true) = true)) (by simp) ?_
  refine wpAny_bind (wpAny_pure ?_)
  refine wpAny_bind (and_x hne XA XB (by omega) (by omega) fun h' d' S n R m l o => ?_)
  refine wpAny_pure ⟨_, rfl, (fun z => nomatch z), hQ h' d' S n R (fun k => ?_) l o⟩
  rw [m k, mA k, mB k]
theorem op_or_x {a b : Addr} {SA SB : Int → Bool} {na nb : Nat} {Q : Value → Shared → Prop} (hne : b ≠ a) (RA : SetR w s.heap a SA na) (RB : SetR w s.heap b SB nb) (hl : na + nb ≤ 63)
    (hQ : ∀ h' d' S n, SetR w h' s.heap.objs.size S n → (∀ k, S k = true ↔ SA k = true ∨ SB k = true) → n ≤ na + nb → Old s.heap h' → Q (.ref s.heap.objs.size) { s with heap := h', drawn := d' }) :
    wpAny (model P w) A (binaryOp .BitOr (.ref a) (.ref b)) Q E s := by
  obtain ⟨ea, pa, ta, XA, mA, zA⟩ := xOf RA
  obtain ⟨eb, pb, tb, XB, mB, zB⟩ := xOf RB
  have TA : s.TypeIs (.ref a) "set" := XA.ty rfl
  have TB : s.TypeIs (.ref b) "set" := XB.ty rfl
  have hbs : b ≠ s.heap.objs.size := Nat.ne_of_lt (Heap.lt_size XB.obj)
  refine wpAny_binaryOp_same (op := .BitOr) TA TB F.fills_set_or F.slot_set_or ?_
  refine wpAny_call_entry F.slot_set_or TA entry_or ?_ (F.args_set_or_2 _ _)
  refine wpAny_bind (slot1_x ?_)
  dsimp only
  refine wpAny_bind (wpAny_bind (any_x TA ?_))
  show wpAny _ _ (Builtin.Frozenset.isAnySet (.ref b)) _ _ _
  refine any_x TB ?_
  refine wp_if_neg (c := ((!true) = true)) (by simp) ?_
  refine wpAny_bind (wpAny_pure ?_)
  refine wpAny_bind ?_
  by_cases he : ea = #[]
  · subst he
    refine wpAny_bind (m := Builtin.Frozenset.copyOf a) ?_
    unfold Builtin.Frozenset.copyOf
    refine wpAny_bind (base_x TA ?_)
    refine wpAny_bind (new_x ?_)
    refine wpAny_bind (wpAny_pure ?_)
    have hae : a ≠ s.heap.objs.size := Nat.ne_of_lt (Heap.lt_size XA.obj)
    have XA1 : SetX w (s.heap.push (newObjOf w)) a #[] pa ta := XA.move fun o e => old_push _ _ _ _ e
    have XB1 : SetX w (s.heap.push (newObjOf w)) b eb pb tb := XB.move fun o e => old_push _ _ _ _ e
    refine wpAny_bind ?_
    unfold setMerge
    refine wp_if_neg (c := (s.heap.objs.size == a) = true) (by simpa using hae.symm) ?_
    try refine wpAny_bind (wpAny_pure ?_)
    refine wpAny_bind (wpAny_setState_of XA1.obj rfl XA1.fits ?_)
    dsimp only
    refine wp_if_pos (c := (#[] : Array (Int × Value)).isEmpty = true) rfl ?_
    refine wpAny_pure (wpAny_pure ?_)
    refine wp_if_pos (c := ((Value.ref b != Value.ref a) = true)) (by simpa using hne) ?_
    refine wpAny_bind (wpAny_pure ?_)
    have z0 : (#[] : Array (Int × Value)).size = 0 := rfl
    refine wpAny_bind (wpAny_holding (union_x (s := { s with heap := s.heap.push (newObjOf w) }) hbs (fresh_x s.heap) XB1 (.inr ⟨rfl, rfl, rfl⟩) (by omega) fun h' d' S n R m l sb => ?_))
    refine wpAny_pure (wpAny_pure ⟨_, rfl, (fun z => nomatch z), hQ h' d' S n R (fun k => ?_) (by omega) (old_but sb)⟩)
    rw [m k, mA k, mB k]
  · have hz : ea.size ≠ 0 := fun z => he (by simpa using z)
    refine wpAny_bind (m := Builtin.Frozenset.copyOf a) (copy_x XA (by omega) fun h1 es1 ep1 t1 X1 p1 sb1 => ?_)
    have z1 := perm_size p1
    have XB1 : SetX w h1 b eb pb tb := XB.move fun o e => old_but sb1 _ _ e
    refine wp_if_pos (c := ((Value.ref b != Value.ref a) = true)) (by simpa using hne) ?_
    refine wpAny_bind (wpAny_pure ?_)
    refine wpAny_bind (wpAny_holding (union_x (s := { s with heap := h1 }) hbs X1 XB1 (.inl (by omega)) (by omega) fun h' d' S n R m l sb => ?_))
    refine wpAny_pure (wpAny_pure ⟨_, rfl, (fun z => nomatch z), hQ h' d' S n R (fun k => ?_) (by omega) (old_but (sb_trans sb1 sb))⟩)
    rw [m k, keys_perm p1 k, mA k, mB k]
theorem op_sub_x {a b : Addr} {SA SB : Int → Bool} {na nb : Nat} {Q : Value → Shared → Prop} (hne : b ≠ a) (RA : SetR w s.heap a SA na) (RB : SetR w s.heap b SB nb) (hl : na ≤ 31) (hl2 : nb ≤ 63)
    (hQ : ∀ h' d' S n, SetR w h' s.heap.objs.size S n → (∀ k, S k = true ↔ SA k = true ∧ SB k = false) → n ≤ 31 → Old s.heap h' → Q (.ref s.heap.objs.size) { s with heap := h', drawn := d' }) :
    wpAny (model P w) A (binaryOp .Sub (.ref a) (.ref b)) Q E s := by
  obtain ⟨ea, pa, ta, XA, mA, zA⟩ := xOf RA
  obtain ⟨eb, pb, tb, XB, mB, zB⟩ := xOf RB
  have TA : s.TypeIs (.ref a) "set" := XA.ty rfl
  have TB : s.TypeIs (.ref b) "set" := XB.ty rfl
  refine wpAny_binaryOp_same (op := .Sub) TA TB F.fills_set_sub F.slot_set_sub ?_
  refine wpAny_call_entry F.slot_set_sub TA entry_sub ?_ (F.args_set_sub_2 _ _)
  refine wpAny_bind (slot1_x ?_)
  dsimp only
  refine wpAny_bind (wpAny_bind (any_x TA ?_))
  show wpAny _ _ (Builtin.Frozenset.isAnySet (.ref b)) _ _ _
  refine any_x TB ?_
  refine wp_if_neg (c := ((!true) = true)) (by simp) ?_
  refine wpAny_bind (wpAny_pure ?_)
  refine wpAny_bind (sub_x hne XA XB (by omega) (by omega) fun h' d' S n R m l o => ?_)
  refine wpAny_pure ⟨_, rfl, (fun z => nomatch z), hQ h' d' S n R (fun k => ?_) l o⟩
  rw [m k, mA k, ← mB k]
  simp
end
end Cs

set_option Elab.async false
set_option linter.all false
set_option maxRecDepth 100000
set_option maxHeartbeats 3200000
namespace Cs
open PySem PySem.Spec PyProof.Rows L2
section
variable {P : Program} {w : World} {A : Around} {E : Value → Shared → Prop} {s : Shared}
/-- set(l), l a list of ints: made empty, then its items one by one -/
theorem set_of_list {l : Addr} {items : Array Value} (ns : List Int) {Q : Value → Shared → Prop} (quiet : A.handled = none) (isl : s.heap.IsList l items) (hints : IntsAre items.toList ns) (room : ns.length + 1 < scanBound)
    (fin : ∀ (h' : Heap) (tk c : Nat), SetR w h' s.heap.objs.size (fun j => decide (j ∈ ns)) c → c ≤ ns.length → Old s.heap h' → Q (.ref s.heap.objs.size) { s with heap := h', toks := tk }) :
    wpAny (model P w) A (call (.type "set") [.ref l]) Q E s := by
  have many : items.size = ns.length := (Array.length_toList (xs := items)).symm.trans (IntsAre.length hints)
  have cs := F.called_set
  obtain ⟨mc, mt, mro⟩ := cs.mro
  have made := cs.made
  have under := cs.sub
  refine wpAny_call (codeAny_of_tree ?_)
  show wpAny _ _ (callAny (.type "set") ⟨[.ref l], []⟩) _ _ _
  refine wpAny_pure ⟨Code.quiet_builtin _ (by decide +kernel), ?_⟩
  refine codeAny_builtin F.entry_type_call ?_
  rw [Around.under_plain (weight_type_call_type "set" [Value.ref l] []) rfl]
  have k1 := cs.notType
  have k2 := cs.canCreate
  have k3 := F.typeCall_set_1 (.ref l)
  repeat (any_goals (first | assumption | wp_step))
  refine codeAny_mono (code_set_led1 (.ref l) (E := E) (Q₁ := fun o z => o = .ref s.heap.objs.size ∧ z = { s with heap := s.heap.push (newObjOf w) }) ⟨rfl, rfl⟩) fun r z hz => ?_
  cases r with
  | error e => exact hz
  | ok fl =>
    cases fl with
    | ret o =>
      obtain ⟨rfl, rfl⟩ := hz
      have here : (s.heap.push (newObjOf w)).get? s.heap.objs.size = some (newObjOf w) := Heap.get?_push_size _ rfl
      have ty : Shared.TypeIs { s with heap := s.heap.push (newObjOf w) } (.ref s.heap.objs.size) "set" := ⟨_, here, rfl⟩
      have k4 := cs.init.lookup
      have k5 := cs.init.bind (.ref s.heap.objs.size)
      repeat (any_goals (first | assumption | wp_step))
      refine codeAny_mono (codeAny_call_builtin (R := wants (fun r y => r = .none ∧ ∃ h' tk c, y = { s with heap := h', toks := tk } ∧ SetR w h' s.heap.objs.size (fun j => decide (j ∈ ns)) c ∧ c ≤ ns.length ∧ Old s.heap h') E)
        cs.init.plain F.entry_set_init (check_set_init_1 ty ?_)) fun r2 y hy => ?_
      · obtain ⟨⟨oc, od, oda, osl⟩, lo, lc, ln, ld⟩ := isl
        simp only at lc ld
        subst lc ld
        have isl2 : (s.heap.push (newObjOf w)).IsList l items := ⟨_, Heap.get?_push_of_some _ lo, rfl, ln, rfl⟩
        have ll : l < s.heap.objs.size := Heap.lt_size lo
        have isl3 := Heap.get?_push_of_some (newObjOf w) lo
        have n1 := PySem.F.sub_list_set
        have n2 := PySem.F.sub_list_frozenset
        have n3 : (Value.type "list" == Value.type "dict") = false := by decide
        unfold Builtin.«set.__init__» noKeywords Builtin.Frozenset.updateFrom
        generalize hp : pyIter = iterOf
        wp_walk
        subst hp
        refine wpAny_pyIter_list isl2 ?_
        refine wpAny_bind (wpAny_runValue ?_)
        have q3 : A.in1.in1.in1.handled = none := by simp [quiet]
        have sz : (s.heap.push (newObjOf w)).objs.size = s.heap.objs.size + 1 := Heap.size_push ..
        have apart : l ≠ (s.heap.push (newObjOf w)).objs.size := by
          rw [sz]
          exact Nat.ne_of_lt (Nat.lt_succ_of_lt ll)
        have away : s.heap.objs.size ∉ [(s.heap.push (newObjOf w)).objs.size, l] := by
          rw [sz]
          simp only [List.mem_cons, List.not_mem_nil, or_false, not_or]
          exact ⟨Nat.ne_of_lt (Nat.lt_succ_self _), Nat.ne_of_gt ll⟩
        have val : ∀ (i : Nat) (v : Value), items[i]? = some v → ∃ k t, ns[i]? = some k ∧ v = .int k t := fun i v hv => by
          have hi : i < ns.length := by rw [← many]; exact (Array.getElem?_eq_some_iff.mp hv).1
          obtain ⟨t, e⟩ := IntsAre.int_at hints i v (by rw [Array.getElem?_toList]; exact hv)
          exact ⟨ns[i], t, List.getElem?_eq_getElem hi, by rw [e, List.getD_eq_getElem?_getD, List.getElem?_eq_getElem hi] <;> rfl⟩
        refine set_update_ints ((Walks.list q3 _ l apart items).toS) s.heap.objs.size away ns many room val (items.size - 0) 0 _ (by omega) (Nat.zero_le _) ⟨⟨_, Heap.get?_push_size _ rfl, rfl, rfl⟩, (isl2.push _)⟩ ?start ?stop
        case start => exact ⟨0, Nat.le_refl 0, setR_new_at (Heap.get?_push_of_some _ here)⟩
        case stop =>
          intro s2 c2 hm hc hS
          obtain ⟨h2, g2, d2, t2, o2⟩ := s2
          have eg : g2 = s.gens := hm.gens
          have ed : d2 = s.drawn := hm.drawn
          have eo : o2 = s.os := hm.os
          subst eg ed eo
          show wpAny _ _ _ _ _ _
          refine wpAny_pure ?_
          show wpAny _ _ (ret Value.none) _ _ _
          refine wpAny_pure ⟨rfl, h2, t2, c2, rfl, hS, by omega, fun b u e => ?_⟩
          have hb := Heap.lt_size e
          refine hm.heap b u ?_ (Heap.get?_push_of_some _ (Heap.get?_push_of_some _ e))
          rw [sz]
          simp only [List.mem_cons, List.not_mem_nil, or_false, not_or]
          exact ⟨Nat.ne_of_lt hb, Nat.ne_of_lt (Nat.lt_succ_of_lt hb)⟩
      · cases r2 with
        | error e => exact hy
        | ok f2 =>
          cases f2 with
          | ret r =>
            obtain ⟨rfl, h', tk, c, rfl, hS, hc, old⟩ := hy
            repeat (any_goals (first | assumption | wp_step))
            exact fin h' tk c hS hc old
          | _ => exact hy.elim
    | _ => exact hz.elim
end
end Cs

set_option Elab.async false
set_option linter.all false
set_option maxRecDepth 100000
set_option maxHeartbeats 2000000
namespace Cs
open PySem PySem.Spec PyProof.Rows L2
section
variable {X : Cx}
/-- set(l) -/
def rSetI (K : PySem.W.Frag) (w : World) : List V → Hp → VK → Prop := fun xs H Q => ∃ (l : Addr) (ns : List Int), xs = [V.ref l] ∧ SqL K H l (ns.map V.int) ∧ ns.length ≤ 4000 ∧
  ∀ (p : Addr) (c : Nat), H p = none → c ≤ ns.length → Q (.ref p) (upd H p (SetO w p (fun j => decide (j ∈ ns)) c))
theorem cr_setI (hc : X.calm = true) : CallR X (.type "set") (rSetI X.K X.w) := by
  intro pins s σ H xs us Q I r h
  obtain ⟨l, ns, rfl, hq, hl, q⟩ := h
  rw [Vals.ref1 r]
  obtain ⟨its, rv, pl, hz⟩ := I.list hq
  refine set_of_list ns (I.ok.hd hc) pl.isList (by simpa using ints_of_vals rv) (by have : scanBound = 4096 := rfl; omega) fun h' tk c hS hcn old => ?_
  exact ⟨.ref _, upd H s.heap.objs.size (SetO X.w s.heap.objs.size (fun j => decide (j ∈ ns)) c), I.laid (t' := tk) old (Nat.le_refl _) (setO_new hS), rfl, q _ c (I.hok.fresh (Nat.le_refl _)) hcn⟩
theorem laidD {pins : List (Addr × Obj)} {σ : L2.St} {H : Hp} {s : Shared} {h' : Heap} {d' : Drawn} {S : Int → Bool} {n : Nat} (I : Inv X pins σ H s) (old : Old s.heap h') (R : SetR X.w h' s.heap.objs.size S n) :
    Inv X pins σ (upd H s.heap.objs.size (SetO X.w s.heap.objs.size S n)) { s with heap := h', drawn := d' } :=
  I.call (ch := []) (g' := s.gens) (t' := s.toks) (Un.laid old (Nat.le_refl _) (I.hok.fresh (Nat.le_refl _))) (I.hok.laid old (Nat.le_refl _) (setO_new R)) I.bare (fun _ z => nomatch z)
/-- a & b, a | b, a - b of two sets of ints -/
def rSetOp (w : World) (most : Nat → Nat → Prop) (mem : (Int → Bool) → (Int → Bool) → Int → Prop) : V → V → Hp → VK → Prop := fun x y H Q => ∃ (a b : Addr) (SA SB : Int → Bool) (na nb : Nat), x = V.ref a ∧ y = V.ref b ∧ b ≠ a ∧
  H a = some (SetO w a SA na) ∧ H b = some (SetO w b SB nb) ∧ most na nb ∧
  ∀ (p : Addr) (S : Int → Bool) (n : Nat), H p = none → (∀ k, S k = true ↔ mem SA SB k) → n ≤ 63 → Q (.ref p) (upd H p (SetO w p S n))
abbrev mAnd : Nat → Nat → Prop := fun na nb => na ≤ 63 ∧ nb ≤ 63
abbrev mOr : Nat → Nat → Prop := fun na nb => na + nb ≤ 63
abbrev mSub : Nat → Nat → Prop := fun na nb => na ≤ 31 ∧ nb ≤ 63
abbrev eAnd : (Int → Bool) → (Int → Bool) → Int → Prop := fun A B k => A k = true ∧ B k = true
abbrev eOr : (Int → Bool) → (Int → Bool) → Int → Prop := fun A B k => A k = true ∨ B k = true
abbrev eSub : (Int → Bool) → (Int → Bool) → Int → Prop := fun A B k => A k = true ∧ B k = false
theorem op_sand : OpR X (binaryOp .BitAnd) (rSetOp X.w mAnd eAnd) := by
  intro pins s σ H x y v u Q I rx ry h
  obtain ⟨a, b, SA, SB, na, nb, rfl, rfl, hne, ha, hb, hm, q⟩ := h
  cases rx
  cases ry
  exact op_and_x hne (setO_get I ha) (setO_get I hb) hm.1 hm.2 fun h' d' S n R m l old => ⟨.ref _, _, laidD I old R, rfl, q _ S n (I.hok.fresh (Nat.le_refl _)) m l⟩
theorem op_sor : OpR X (binaryOp .BitOr) (rSetOp X.w mOr eOr) := by
  intro pins s σ H x y v u Q I rx ry h
  obtain ⟨a, b, SA, SB, na, nb, rfl, rfl, hne, ha, hb, hm, q⟩ := h
  cases rx
  cases ry
  have hm' : na + nb ≤ 63 := hm
  exact op_or_x hne (setO_get I ha) (setO_get I hb) hm fun h' d' S n R m l old => ⟨.ref _, _, laidD I old R, rfl, q _ S n (I.hok.fresh (Nat.le_refl _)) m (by omega)⟩
theorem op_ssub : OpR X (binaryOp .Sub) (rSetOp X.w mSub eSub) := by
  intro pins s σ H x y v u Q I rx ry h
  obtain ⟨a, b, SA, SB, na, nb, rfl, rfl, hne, ha, hb, hm, q⟩ := h
  cases rx
  cases ry
  exact op_sub_x hne (setO_get I ha) (setO_get I hb) hm.1 hm.2 fun h' d' S n R m l old => ⟨.ref _, _, laidD I old R, rfl, q _ S n (I.hok.fresh (Nat.le_refl _)) m (by omega)⟩
/-- len(s) of a set of ints: none where it has no members -/
def rLenSet (w : World) : List V → Hp → VK → Prop := fun xs H Q => ∃ (a : Addr) (S : Int → Bool) (n : Nat), xs = [V.ref a] ∧ H a = some (SetO w a S n) ∧ (∀ c : Nat, (c = 0 ↔ ∀ k, S k = false) → Q (.int (c : Int)) H)
theorem call_len_sI : CallR X (.builtin "len") (rLenSet X.w) := by
  intro pins s σ H xs us Q I r h
  obtain ⟨a, S, n, rfl, ha, q⟩ := h
  rw [Vals.ref1 r]
  obtain ⟨es, ep, t, R, m, hn⟩ := xOf (setO_get I ha)
  refine call_len_set R.obj ⟨rfl, rfl, rfl⟩ rfl R.fits (by have := R.few; have : scanBound = 4096 := rfl; omega) ⟨.int (es.size : Nat), H, I.tok _, ⟨_, rfl⟩, q _ ?_⟩
  constructor
  · intro z k
    have e : es = #[] := by simpa using z
    subst e
    cases c : S k with
    | false => rfl
    | true => exact absurd ((m k).1 c) (by simp)
  · intro z
    cases c : es.toList with
    | nil =>
      rw [← Array.length_toList, c]
      rfl
    | cons e r =>
      have : S (keyOf e) = true := (m _).2 (by rw [c]; simp)
      rw [z] at this
      cases this
end
end Cs

set_option Elab.async false
set_option linter.all false
set_option maxRecDepth 100000
set_option maxHeartbeats 2000000
namespace K1
open PySem PySem.Spec PyProof.Rows L2 Cs
def topS (i : Nat) : Stmt := PySem.Challenge.pw_curbdesk_k01_sides.main.body.getD i (.Pass ⟨0, 0, 0, 0⟩)
structure Bt (mg : Str → Option Value) : Prop where
  sorted : mg "sorted" = none
  set : mg "set" = none
  len : mg "len" = none
  isi : mg "isinstance" = none
  int : mg "int" = none
  bool : mg "bool" = none
  list : mg "list" = none
  all : mg "all" = none
  range : mg "range" = none
abbrev Srt (ms : List Int) : Prop := ms.Pairwise (· < ·)
theorem same_new {H : Hp} {p : Addr} {o : HO} (h : H p = none) : Same H (upd H p o) := fun b x e => by
  rw [upd_ne (ne_of_none e h)]
  exact e
theorem same_at {H H' : Hp} {p : Addr} {o : HO} (s : Same H H') (h : H p = none) : Same H (upd H' p o) := fun b x e => by
  rw [upd_ne (ne_of_none e h)]
  exact s _ _ e
theorem sl_map {K : PySem.W.Frag} {H : Hp} {a : Addr} {xs : List V} (h : H a = some (.lst xs)) : SqL K H a xs := .inl (.inl h)
theorem and_iff (ns ks : List Int) (k : Int) : eAnd (fun j => decide (j ∈ ns)) (fun j => decide (j ∈ ks)) k ↔ k ∈ ns ∧ k ∈ ks := by
  show (decide (k ∈ ns) = true ∧ decide (k ∈ ks) = true) ↔ _
  simp
theorem or_iff' (ns ks : List Int) (k : Int) : eOr (fun j => decide (j ∈ ns)) (fun j => decide (j ∈ ks)) k ↔ k ∈ ns ∨ k ∈ ks := by
  show (decide (k ∈ ns) = true ∨ decide (k ∈ ks) = true) ↔ _
  simp
theorem sub_iff (ns ks : List Int) (k : Int) : eSub (fun j => decide (j ∈ ns)) (fun j => decide (j ∈ ks)) k ↔ k ∈ ns ∧ k ∉ ks := by
  show (decide (k ∈ ns) = true ∧ decide (k ∈ ks) = false) ↔ _
  simp
section
variable {P : Program} {w : World} {K : PySem.W.Frag} {mg : Str → Option Value} {base : Heap}
/-! ### the program: sides -/
abbrev sSideOf : Stmt := topS 1
abbrev sCommon : Stmt := topS 2
abbrev sUnited : Stmt := topS 3
abbrev sWithout : Stmt := topS 4
abbrev sWithin : Stmt := topS 5
abbrev sNext : Stmt := topS 6
theorem scSideOf : FnScope ["values"] ["values"] (defScope sSideOf) := ⟨rfl, rfl, rfl, by decide +kernel, rfl, by decide +kernel, by decide +kernel⟩
theorem scCommon : FnScope ["first", "second"] ["first", "second"] (defScope sCommon) := ⟨rfl, rfl, rfl, by decide +kernel, rfl, by decide +kernel, by decide +kernel⟩
theorem scUnited : FnScope ["first", "second"] ["first", "second"] (defScope sUnited) := ⟨rfl, rfl, rfl, by decide +kernel, rfl, by decide +kernel, by decide +kernel⟩
theorem scWithout : FnScope ["first", "second"] ["first", "second"] (defScope sWithout) := ⟨rfl, rfl, rfl, by decide +kernel, rfl, by decide +kernel, by decide +kernel⟩
theorem scWithin : FnScope ["first", "second"] ["first", "second"] (defScope sWithin) := ⟨rfl, rfl, rfl, by decide +kernel, rfl, by decide +kernel, by decide +kernel⟩
theorem scNext : FnScope ["side", "least", "value"] ["side", "least"] (defScope sNext) := ⟨rfl, rfl, rfl, by decide +kernel, rfl, by decide +kernel, by decide +kernel⟩
def spSideOf (K : PySem.W.Frag) : Sp := fun vs H Q _ => ∃ (a : Addr) (ns : List Int), vs = [.ref a] ∧ SqL K H a (ns.map V.int) ∧ ns.length ≤ 63 ∧
  ∀ H' p ms, Same H H' → H p = none → H' p = some (.lst (ms.map V.int)) → Srt ms → (∀ k, k ∈ ms ↔ k ∈ ns) → ms.length ≤ 63 → Q (.ref p) H'
/-- two lists, and what is said of the members -/
def spTwo (K : PySem.W.Frag) (mem : List Int → List Int → Int → Prop) : Sp := fun vs H Q _ => ∃ (a b : Addr) (ns ks : List Int), vs = [.ref a, .ref b] ∧ SqL K H a (ns.map V.int) ∧ SqL K H b (ks.map V.int) ∧ ns.length ≤ 31 ∧ ks.length ≤ 31 ∧
  ∀ H' p ms, Same H H' → H p = none → H' p = some (.lst (ms.map V.int)) → Srt ms → (∀ k, k ∈ ms ↔ mem ns ks k) → ms.length ≤ 63 → Q (.ref p) H'
def spWithin (K : PySem.W.Frag) : Sp := fun vs H Q _ => ∃ (a b : Addr) (ns ks : List Int), vs = [.ref a, .ref b] ∧ SqL K H a (ns.map V.int) ∧ SqL K H b (ks.map V.int) ∧ ns.length ≤ 31 ∧ ks.length ≤ 31 ∧
  ∀ H' c, Same H H' → (c = true ↔ ∀ k ∈ ns, k ∈ ks) → Q (.bl c) H'
def spNext (K : PySem.W.Frag) : Sp := fun vs H Q _ => ∃ (a : Addr) (ns : List Int) (z : Int), vs = [.ref a, .int z] ∧ SqL K H a (ns.map V.int) ∧
  Q (match ns.find? (fun v => decide (z ≤ v)) with | some v => .int v | none => .non) H

theorem ok_sideOf {f : Addr} {fd : FuncData} {k : Nat} (F : Fun K "side_of" "side_of" sSideOf f fd) (B : Bt mg) : FnOk P w K mg base CX0 (k + 1) f fd ["values"] (spSideOf K) := by
  refine F.ok scSideOf (fun vs H Q E h => ?_) (fun cdv A outer s H vs Q E hr h => ?_)
  · obtain ⟨a, ns, rfl, _⟩ := h
    rfl
  · obtain ⟨a, ns, rfl, hS, hl, q⟩ := h
    refine ⟨_, pss_one (ps_ret (pe_callB (cr_sortedSet rfl) (by rfl) B.sorted boot_sorted (pa_cons (pe_callTy (cr_setI rfl) (by rfl) B.set PyProof.Rows.boot_set (pa_cons (pv 0) pa_nil)) pa_nil))), ?_⟩
    refine ⟨.ref a, rfl, a, ns, rfl, hS, by omega, fun p c np hc => ?_⟩
    refine ⟨p, _, c, rfl, upd_same, by omega, fun ms r hs hm hn nr => ?_⟩
    exact q _ r ms (same_at (same_new np) ((same_new np).free nr)) ((same_new np).free nr) upd_same hs (fun k => by rw [hm k, decide_eq_true_iff]) (by omega)

theorem ok_common {f : Addr} {fd : FuncData} {k : Nat} (F : Fun K "common" "common" sCommon f fd) (B : Bt mg) : FnOk P w K mg base CX0 (k + 1) f fd ["first", "second"] (spTwo K fun ns ks k => k ∈ ns ∧ k ∈ ks) := by
  refine F.ok scCommon (fun vs H Q E h => ?_) (fun cdv A outer s H vs Q E hr h => ?_)
  · obtain ⟨a, b, ns, ks, rfl, _⟩ := h
    rfl
  · obtain ⟨a, b, ns, ks, rfl, hA, hB, la, lb, q⟩ := h
    refine ⟨_, pss_one (ps_ret (pe_callB (cr_sortedSet rfl) (by rfl) B.sorted boot_sorted (pa_cons (pe_op op_sand (pe_callTy (cr_setI rfl) (by rfl) B.set PyProof.Rows.boot_set (pa_cons (pv 0) pa_nil)) (pe_callTy (cr_setI rfl) (by rfl) B.set PyProof.Rows.boot_set (pa_cons (pv 1) pa_nil))) pa_nil))), ?_⟩
    refine ⟨.ref a, rfl, a, ns, rfl, hA, by omega, fun p c np hc => ?_⟩
    have s1 := same_new (o := SetO w p (fun j => decide (j ∈ ns)) c) np
    refine ⟨.ref b, rfl, b, ks, rfl, s1.seq hB, by omega, fun p2 c2 np2 hc2 => ?_⟩
    have ne : p2 ≠ p := fun e => by rw [e, upd_same] at np2; cases np2
    have s2 := s1.trans (same_new (o := SetO w p2 (fun j => decide (j ∈ ks)) c2) np2)
    refine ⟨p, p2, _, _, c, c2, rfl, rfl, ne, by rw [upd_ne ne.symm, upd_same], upd_same, ⟨by omega, by omega⟩, fun r S n nr hm hn => ?_⟩
    have s3 := s2.trans (same_new (o := SetO w r S n) nr)
    refine ⟨r, S, n, rfl, upd_same, by omega, fun ms z hs hk hl nz => ?_⟩
    exact q _ z ms (same_at s3 (s3.free nz)) (s3.free nz) upd_same hs (fun k => (hk k).trans ((hm k).trans (and_iff ns ks k))) (by omega)
theorem ok_united {f : Addr} {fd : FuncData} {k : Nat} (F : Fun K "united" "united" sUnited f fd) (B : Bt mg) : FnOk P w K mg base CX0 (k + 1) f fd ["first", "second"] (spTwo K fun ns ks k => k ∈ ns ∨ k ∈ ks) := by
  refine F.ok scUnited (fun vs H Q E h => ?_) (fun cdv A outer s H vs Q E hr h => ?_)
  · obtain ⟨a, b, ns, ks, rfl, _⟩ := h
    rfl
  · obtain ⟨a, b, ns, ks, rfl, hA, hB, la, lb, q⟩ := h
    refine ⟨_, pss_one (ps_ret (pe_callB (cr_sortedSet rfl) (by rfl) B.sorted boot_sorted (pa_cons (pe_op op_sor (pe_callTy (cr_setI rfl) (by rfl) B.set PyProof.Rows.boot_set (pa_cons (pv 0) pa_nil)) (pe_callTy (cr_setI rfl) (by rfl) B.set PyProof.Rows.boot_set (pa_cons (pv 1) pa_nil))) pa_nil))), ?_⟩
    refine ⟨.ref a, rfl, a, ns, rfl, hA, by omega, fun p c np hc => ?_⟩
    have s1 := same_new (o := SetO w p (fun j => decide (j ∈ ns)) c) np
    refine ⟨.ref b, rfl, b, ks, rfl, s1.seq hB, by omega, fun p2 c2 np2 hc2 => ?_⟩
    have ne : p2 ≠ p := fun e => by rw [e, upd_same] at np2; cases np2
    have s2 := s1.trans (same_new (o := SetO w p2 (fun j => decide (j ∈ ks)) c2) np2)
    refine ⟨p, p2, _, _, c, c2, rfl, rfl, ne, by rw [upd_ne ne.symm, upd_same], upd_same, by show c + c2 ≤ 63; omega, fun r S n nr hm hn => ?_⟩
    have s3 := s2.trans (same_new (o := SetO w r S n) nr)
    refine ⟨r, S, n, rfl, upd_same, by omega, fun ms z hs hk hl nz => ?_⟩
    exact q _ z ms (same_at s3 (s3.free nz)) (s3.free nz) upd_same hs (fun k => (hk k).trans ((hm k).trans (or_iff' ns ks k))) (by omega)
theorem ok_without {f : Addr} {fd : FuncData} {k : Nat} (F : Fun K "without" "without" sWithout f fd) (B : Bt mg) : FnOk P w K mg base CX0 (k + 1) f fd ["first", "second"] (spTwo K fun ns ks k => k ∈ ns ∧ k ∉ ks) := by
  refine F.ok scWithout (fun vs H Q E h => ?_) (fun cdv A outer s H vs Q E hr h => ?_)
  · obtain ⟨a, b, ns, ks, rfl, _⟩ := h
    rfl
  · obtain ⟨a, b, ns, ks, rfl, hA, hB, la, lb, q⟩ := h
    refine ⟨_, pss_one (ps_ret (pe_callB (cr_sortedSet rfl) (by rfl) B.sorted boot_sorted (pa_cons (pe_op op_ssub (pe_callTy (cr_setI rfl) (by rfl) B.set PyProof.Rows.boot_set (pa_cons (pv 0) pa_nil)) (pe_callTy (cr_setI rfl) (by rfl) B.set PyProof.Rows.boot_set (pa_cons (pv 1) pa_nil))) pa_nil))), ?_⟩
    refine ⟨.ref a, rfl, a, ns, rfl, hA, by omega, fun p c np hc => ?_⟩
    have s1 := same_new (o := SetO w p (fun j => decide (j ∈ ns)) c) np
    refine ⟨.ref b, rfl, b, ks, rfl, s1.seq hB, by omega, fun p2 c2 np2 hc2 => ?_⟩
    have ne : p2 ≠ p := fun e => by rw [e, upd_same] at np2; cases np2
    have s2 := s1.trans (same_new (o := SetO w p2 (fun j => decide (j ∈ ks)) c2) np2)
    refine ⟨p, p2, _, _, c, c2, rfl, rfl, ne, by rw [upd_ne ne.symm, upd_same], upd_same, ⟨by omega, by omega⟩, fun r S n nr hm hn => ?_⟩
    have s3 := s2.trans (same_new (o := SetO w r S n) nr)
    refine ⟨r, S, n, rfl, upd_same, by omega, fun ms z hs hk hl nz => ?_⟩
    exact q _ z ms (same_at s3 (s3.free nz)) (s3.free nz) upd_same hs (fun k => (hk k).trans ((hm k).trans (sub_iff ns ks k))) (by omega)
theorem ok_within {f : Addr} {fd : FuncData} {k : Nat} (F : Fun K "is_within" "is_within" sWithin f fd) (B : Bt mg) : FnOk P w K mg base CX0 (k + 1) f fd ["first", "second"] (spWithin K) := by
  refine F.ok scWithin (fun vs H Q E h => ?_) (fun cdv A outer s H vs Q E hr h => ?_)
  · obtain ⟨a, b, ns, ks, rfl, _⟩ := h
    rfl
  · obtain ⟨a, b, ns, ks, rfl, hA, hB, la, lb, q⟩ := h
    refine ⟨_, pss_one (ps_ret (pe_cmpR op_eq (pe_callB call_len_sI (by rfl) B.len PySem.boot_len (pa_cons (pe_op op_ssub (pe_callTy (cr_setI rfl) (by rfl) B.set PyProof.Rows.boot_set (pa_cons (pv 0) pa_nil)) (pe_callTy (cr_setI rfl) (by rfl) B.set PyProof.Rows.boot_set (pa_cons (pv 1) pa_nil))) pa_nil)) pe_int (nomark _))), ?_⟩
    refine ⟨.ref a, rfl, a, ns, rfl, hA, by omega, fun p c np hc => ?_⟩
    have s1 := same_new (o := SetO w p (fun j => decide (j ∈ ns)) c) np
    refine ⟨.ref b, rfl, b, ks, rfl, s1.seq hB, by omega, fun p2 c2 np2 hc2 => ?_⟩
    have ne : p2 ≠ p := fun e => by rw [e, upd_same] at np2; cases np2
    have s2 := s1.trans (same_new (o := SetO w p2 (fun j => decide (j ∈ ks)) c2) np2)
    refine ⟨p, p2, _, _, c, c2, rfl, rfl, ne, by rw [upd_ne ne.symm, upd_same], upd_same, ⟨by omega, by omega⟩, fun r S n nr hm hn => ?_⟩
    have s3 := s2.trans (same_new (o := SetO w r S n) nr)
    refine ⟨r, S, n, rfl, upd_same, fun m hz => ?_⟩
    refine ⟨rfl, q _ _ s3 ?_⟩
    have e1 : (decide (V.int (m : Int) = V.int 0) = true) ↔ m = 0 := by
      rw [decide_eq_true_iff]
      constructor
      · intro e
        have := V.int.inj e
        omega
      · intro e
        rw [e]
        rfl
    rw [e1, hz]
    constructor
    · intro a0 k hk
      by_cases hks : k ∈ ks
      · exact hks
      · exfalso
        have := (hm k).2 ⟨decide_eq_true hk, decide_eq_false hks⟩
        rw [a0 k] at this
        cases this
    · intro a0 k
      cases c : S k with
      | false => rfl
      | true =>
        obtain ⟨h1, h2⟩ := (hm k).1 c
        exact absurd (a0 k (of_decide_eq_true h1)) (of_decide_eq_false h2)
theorem ok_next {f : Addr} {fd : FuncData} {k : Nat} (F : Fun K "next_value" "next_value" sNext f fd) (B : Bt mg) : FnOk P w K mg base CX0 (k + 1) f fd ["side", "least"] (spNext K) := by
  refine F.ok scNext (fun vs H Q E h => ?_) (fun cdv A outer s H vs Q E hr h => ?_)
  · obtain ⟨a, ns, z, rfl, _⟩ := h
    rfl
  · obtain ⟨a, ns, z, rfl, hS, q⟩ := h
    refine ⟨_, pss_cons (ps_for PassesOwn.never rfl (pi_list (pv 0)) (pg_name (i := 2) scNext.nd rfl (.inl rfl)) (pss_one (ps_if (pt_cmpR op_ge (pv 2) (pv 1) (nomark _)) (pss_one (ps_ret (pv 2))) pss_nil)))
      (pss_one (ps_ret pe_non)), ?_⟩
    refine ⟨.ref a, rfl, a, rfl, ⟨_, hS⟩, for_list (xs := ns.map V.int) (fun i σ H' => H' = H ∧ (∃ y, σ = [some (.ref a), some (.int z), y]) ∧ (ns.take i).find? (fun v => decide (z ≤ v)) = none) ⟨rfl, ⟨none, rfl⟩, rfl⟩ (fun i σ H' _ h => h.1 ▸ hS) ?_ ?_⟩
    · rintro i x σ H' hx ⟨rfl, ⟨y, rfl⟩, hn⟩
      rw [List.getElem?_map] at hx
      obtain ⟨v, hv, rfl⟩ := Option.map_eq_some_iff.mp hx
      refine ⟨_, rfl, _, rfl, v, z, rfl, rfl, _, rfl, ite2 (fun c => ?_) (fun c => ?_)⟩
      · have e : ns.find? (fun v => decide (z ≤ v)) = some v := by
          have h2 : ns = ns.take i ++ v :: ns.drop (i + 1) := by
            have h3 := List.getElem?_eq_some_iff.mp hv
            obtain ⟨h4, h5⟩ := h3
            rw [← h5, List.getElem_cons_drop, List.take_append_drop]
          rw [h2, List.find?_append, hn, List.find?_cons, c]
          rfl
        rw [e] at q
        exact ⟨_, rfl, q⟩
      · refine ⟨rfl, ⟨_, rfl⟩, ?_⟩
        rw [List.take_add_one, hv, List.find?_append, hn]
        have c' : decide (z ≤ v) = false := Bool.eq_false_iff.mpr c
        simp [c']
    · rintro σ H' ⟨rfl, _, hn⟩
      rw [List.length_map, List.take_length] at hn
      rw [hn] at q
      exact q
end
end K1

set_option Elab.async false
set_option linter.all false
set_option maxRecDepth 100000
set_option maxHeartbeats 2000000
namespace K1
open PySem PySem.Spec PyProof.Rows L2 Cs
section
variable {P : Program} {w : World} {K : PySem.W.Frag} {mg : Str → Option Value} {base : Heap}
abbrev sIsInt : Stmt := topS 8
abbrev sStream : Stmt := topS 9
abbrev sDraw : Stmt := topS 10
theorem scIsInt : FnScope ["_law_actual"] ["_law_actual"] (defScope sIsInt) := ⟨rfl, rfl, rfl, by decide +kernel, rfl, by decide +kernel, by decide +kernel⟩
theorem scStream : FnScope ["_law_script", "_law_k", "_law_cell"] ["_law_script", "_law_k"] (defScope sStream) := ⟨rfl, rfl, rfl, by decide +kernel, rfl, by decide +kernel, by decide +kernel⟩
theorem scDraw : FnScope ["_law_stream_here", "_law_size", "_law_digit", "_law_mixed"] ["_law_stream_here", "_law_size"] (defScope sDraw) := ⟨rfl, rfl, rfl, by decide +kernel, rfl, by decide +kernel, by decide +kernel⟩
def spIsInt : Sp := fun vs H Q _ => ∃ k : Int, vs = [.int k] ∧ Q (.bl true) H
theorem ok_isInt {f : Addr} {fd : FuncData} {k : Nat} (F : Fun K "_law_is_integer" "_law_is_integer" sIsInt f fd) (B : Bt mg) : FnOk P w K mg base CX0 (k + 1) f fd ["_law_actual"] spIsInt := by
  refine F.ok scIsInt (fun vs H Q E h => ?_) (fun cdv A outer s H vs Q E hr h => ?_)
  · obtain ⟨a, rfl, _⟩ := h
    rfl
  · obtain ⟨a, rfl, q⟩ := h
    refine ⟨_, pss_one (ps_ret (pe_and (pe_callB call_isi (by rfl) B.isi PyProof.Rows.boot_isinstance (pa_cons (pv 0) (pa_cons (pe_bltn (by rfl) B.int PyProof.Rows.boot_int (v := .ty "int") rfl) pa_nil)))
      (pe_one (pe_not (pe_callB call_isi (by rfl) B.isi PyProof.Rows.boot_isinstance (pa_cons (pv 0) (pa_cons (pe_bltn (by rfl) B.bool PyProof.Rows.boot_bool (v := .ty "bool") rfl) pa_nil))))))), ?_⟩
    refine ⟨.int a, rfl, .int a, .ty "int", .type "int", .type "int", true, rfl, .ty _, .base (.int a), kit_ty (by decide +kernel), true, rfl, iteT ?_⟩
    exact ⟨.int a, rfl, .int a, .ty "bool", .type "int", .type "bool", false, rfl, .ty _, .base (.int a), kit_ty (by decide +kernel), false, rfl, q⟩

/-- a stream: three ints -/
def Strm (H : Hp) (p : Addr) : Prop := ∃ x y z : Int, H p = some (.lst [.int x, .int y, .int z])
def spStream (K : PySem.W.Frag) : Sp := fun vs H Q _ => ∃ (a : Addr) (ns : List Int) (k : Nat), vs = [.ref a, .int (k : Int)] ∧ SqL K H a (ns.map V.int) ∧
  ∀ H' p, Same H H' → H p = none → Strm H' p → Q (.ref p) H'
theorem ok_stream {f : Addr} {fd : FuncData} {k : Nat} (F : Fun K "_law_stream" "_law_stream" sStream f fd) (B : Bt mg) : FnOk P w K mg base CX0 (k + 1) f fd ["_law_script", "_law_k"] (spStream K) := by
  refine F.ok scStream (fun vs H Q E h => ?_) (fun cdv A outer s H vs Q E hr h => ?_)
  · obtain ⟨a, ns, k, rfl, _⟩ := h
    rfl
  · obtain ⟨a, ns, k, rfl, hS, q⟩ := h
    refine ⟨_, pss_cons (ps_set (i := 2) scStream.nd rfl (.inl rfl) pe_int)
      (pss_cons (ps_if (pt_cmpR op_lt (pv 1) (pe_callB call_len_seq (by rfl) B.len PySem.boot_len (pa_cons (pv 0) pa_nil)) (nomark _))
        (pss_one (ps_set (i := 2) scStream.nd rfl (.inl rfl) (pe_ix ix_list (pv 0) (pv 1) (fun _ _ => rfl)))) pss_nil)
      (pss_one (ps_ret (pe_lst (pa_cons (pe_op op_mul (pv 2) (pe_callTy call_int1 (by rfl) B.int PyProof.Rows.boot_int (pa_cons (pe_cmpR op_ge (pv 2) (pe_op op_pow pe_int pe_int) (nomark _)) pa_nil))) (pa_cons pe_int (pa_cons (pv 2) pa_nil))))))), ?_⟩
    have tail : ∀ (c : Int) (b : Bool), -(2 ^ 64) < (if b = true then (1 : Int) else 0) ∧ (if b = true then (1 : Int) else 0) < 2 ^ 64 := fun c b => by cases b <;> decide
    refine ⟨.int k, rfl, .ref a, rfl, a, _, rfl, .inl hS, (k : Int), _, rfl, rfl, _, rfl, ite2 (fun c => ?_) (fun c => ?_)⟩
    · have hk : k < ns.length := by
        have := of_decide_eq_true c
        rw [List.length_map] at this
        omega
      have g : (ns.map V.int)[k]? = some (.int ns[k]) := by
        rw [List.getElem?_map, List.getElem?_eq_getElem hk]
        rfl
      refine ⟨.ref a, rfl, .int k, rfl, a, _, (k : Int), _, rfl, rfl, hS, atI_nat g, ?_⟩
      refine ⟨.int ns[k], rfl, .int ns[k], rfl, 10, 18, rfl, rfl, ⟨by decide, by decide, by decide⟩, ns[k], _, rfl, rfl, .inr ⟨_, rfl, ns[k], _, rfl, rfl, .inr (tail 0 _), .int ns[k], rfl, by show 3 ≤ sizeLine; decide, fun l hl => ?_⟩⟩
      exact q _ l (same_new hl) hl ⟨_, _, _, upd_same⟩
    · refine ⟨.int 0, rfl, .int 0, rfl, 10, 18, rfl, rfl, ⟨by decide, by decide, by decide⟩, 0, _, rfl, rfl, .inr ⟨_, rfl, 0, _, rfl, rfl, .inr (tail 0 _), .int 0, rfl, by show 3 ≤ sizeLine; decide, fun l hl => ?_⟩⟩
      exact q _ l (same_new hl) hl ⟨_, _, _, upd_same⟩
end
end K1

set_option Elab.async false
set_option linter.all false
set_option maxRecDepth 100000
set_option maxHeartbeats 2000000
namespace K1
open PySem PySem.Spec PyProof.Rows L2 Cs
section
variable {P : Program} {w : World} {K : PySem.W.Frag} {mg : Str → Option Value} {base : Heap}
/-- all but the one at p is as it was -/
def Oth (p : Addr) (H H' : Hp) : Prop := ∀ b, b ≠ p → H' b = H b
def spDraw : Sp := fun vs H Q _ => ∃ (p : Addr) (m : Int), vs = [.ref p, .int m] ∧ Strm H p ∧ 0 < m ∧ m < 1073741824 ∧
  ∀ H' d, Oth p H H' → Strm H' p → 0 ≤ d → d < m → Q (.int d) H'
theorem at0 {x y z : V} : atI [x, y, z] (0 : Int) = some x := atI_nat (j := 0) rfl
theorem at1 {x y z : V} : atI [x, y, z] (1 : Int) = some y := atI_nat (j := 1) rfl
theorem at2 {x y z : V} : atI [x, y, z] (2 : Int) = some z := atI_nat (j := 2) rfl
theorem ok_draw {f : Addr} {fd : FuncData} {k : Nat} (F : Fun K "_law_next" "_law_next" sDraw f fd) (B : Bt mg) : FnOk P w K mg base CX0 (k + 1) f fd ["_law_stream_here", "_law_size"] spDraw := by
  refine F.ok scDraw (fun vs H Q E h => ?_) (fun cdv A outer s H vs Q E hr h => ?_)
  · obtain ⟨p, m, rfl, _⟩ := h
    rfl
  · obtain ⟨p, m, rfl, ⟨x, y, z, hp⟩, m0, m1, q⟩ := h
    refine ⟨_, pss_cons (ps_asg (pe_op op_add (pe_ix ix_list (pv 0) pe_int (fun _ _ => rfl)) pe_int) (pg_sub (pv 0) pe_int set_list))
      (pss_cons (ps_if (pt_cmpR op_gt (pe_ix ix_list (pv 0) pe_int (fun _ _ => rfl)) pe_int (nomark _))
        (pss_cons (ps_set (i := 2) scDraw.nd rfl (.inl rfl) (pe_op op_mod (pe_callTy call_int1 (by rfl) B.int PyProof.Rows.boot_int (pa_cons (pe_ix ix_list (pv 0) pe_int (fun _ _ => rfl)) pa_nil)) (pv 1)))
          (pss_cons (ps_asg (pe_op op_fdiv (pe_ix ix_list (pv 0) pe_int (fun _ _ => rfl)) (pv 1)) (pg_sub (pv 0) pe_int set_list))
          (pss_one (ps_ret (pv 2))))) pss_nil)
      (pss_cons (ps_set (i := 3) scDraw.nd rfl (.inl rfl) (pe_op op_mod (pe_callTy call_int1 (by rfl) B.int PyProof.Rows.boot_int (pa_cons
          (pe_op op_add (pe_op op_add (pe_ix ix_list (pv 0) pe_int (fun _ _ => rfl)) (pe_op op_mul pe_int (pe_ix ix_list (pv 0) pe_int (fun _ _ => rfl)))) pe_int) pa_nil)) pe_int))
      (pss_cons (ps_set (i := 3) scDraw.nd rfl (.inl rfl) (pe_op op_mod (pe_callTy call_int1 (by rfl) B.int PyProof.Rows.boot_int (pa_cons
          (pe_op op_mul (pv 3) (pe_op op_add (pv 3) pe_int)) pa_nil)) pe_int))
      (pss_cons (ps_set (i := 3) scDraw.nd rfl (.inl rfl) (pe_op op_mod (pe_callTy call_int1 (by rfl) B.int PyProof.Rows.boot_int (pa_cons
          (pe_op op_add (pe_op op_mul (pv 3) (pe_op op_add (pv 3) pe_int)) (pe_op op_mul pe_int (pe_ix ix_list (pv 0) pe_int (fun _ _ => rfl)))) pa_nil)) pe_int))
      (pss_one (ps_ret (pe_op op_mod (pe_callTy call_int1 (by rfl) B.int PyProof.Rows.boot_int (pa_cons (pe_op op_fdiv (pv 3) pe_int) pa_nil)) (pv 1)))))))), ?_⟩
    have pos1 : (0 : Int) < 2147483647 := by decide
    have pos2 : (0 : Int) < 2147483629 := by decide
    -- stream[1] = stream[1] + 1
    refine ⟨.ref p, rfl, p, _, 1, .int y, rfl, rfl, sl_map hp, at1, y, 1, rfl, rfl, .ref p, rfl, p, _, 1, 1, rfl, rfl, hp, rfl, ?_⟩
    have h1 : ∀ o, (upd H p o) p = some o := fun o => upd_same
    -- if stream[0] > 0
    refine ⟨.ref p, rfl, p, _, 0, .int x, rfl, rfl, sl_map upd_same, at0, x, 0, rfl, rfl, _, rfl, ite2 (fun c => ?_) (fun c => ?_)⟩
    · refine ⟨.ref p, rfl, p, _, 0, .int x, rfl, rfl, sl_map upd_same, at0, .inl ⟨x, rfl, .int m, rfl, x, m, rfl, rfl, m0, ?_⟩⟩
      refine ⟨.ref p, rfl, p, _, 0, .int x, rfl, rfl, sl_map upd_same, at0, .int m, rfl, x, m, rfl, rfl, ⟨m0, m1⟩, .ref p, rfl, p, _, 0, 0, rfl, rfl, upd_same, rfl, ?_⟩
      refine ⟨.int (x % m), rfl, q _ _ (fun b hb => by rw [upd_ne hb, upd_ne hb]) ⟨_, _, _, upd_same⟩ (Int.emod_nonneg _ (by omega)) (Int.emod_lt_of_pos _ m0)⟩
    · refine ⟨.ref p, rfl, p, _, 2, .int z, rfl, rfl, sl_map upd_same, at2, .ref p, rfl, p, _, 1, .int (y + 1), rfl, rfl, sl_map upd_same, at1, 7919, y + 1, rfl, rfl, .inl ⟨by decide, by decide⟩, z, _, rfl, rfl, _, 13, rfl, rfl,
        .inl ⟨_, rfl, _, 2147483647, rfl, rfl, pos1, ?_⟩⟩
      have r1 : ∀ u : Int, 0 ≤ u % 2147483647 ∧ u % 2147483647 < 2147483647 := fun u => ⟨Int.emod_nonneg _ (by decide), Int.emod_lt_of_pos _ (by decide)⟩
      have r2 : ∀ u : Int, 0 ≤ u % 2147483629 ∧ u % 2147483629 < 2147483629 := fun u => ⟨Int.emod_nonneg _ (by decide), Int.emod_lt_of_pos _ (by decide)⟩
      have big : (2147483647 : Int) < 2 ^ 64 := by decide
      have big2 : (-(2 ^ 64) : Int) < 0 := by decide
      have b1 := r1 (z + 7919 * (y + 1) + 13)
      refine ⟨_, rfl, _, rfl, (z + 7919 * (y + 1) + 13) % 2147483647, 48271, rfl, rfl, (z + 7919 * (y + 1) + 13) % 2147483647, _, rfl, rfl, .inl ⟨by omega, by omega⟩, .inl ⟨_, rfl, _, 2147483629, rfl, rfl, pos2, ?_⟩⟩
      have b2 := r2 ((z + 7919 * (y + 1) + 13) % 2147483647 * ((z + 7919 * (y + 1) + 13) % 2147483647 + 48271))
      refine ⟨_, rfl, _, rfl, _, 69621, rfl, rfl, (z + 7919 * (y + 1) + 13) % 2147483647 * ((z + 7919 * (y + 1) + 13) % 2147483647 + 48271) % 2147483629, _, rfl, rfl, .inl ⟨?_, ?_⟩, .ref p, rfl, p, _, 1, .int (y + 1), rfl, rfl, sl_map upd_same, at1, 31, y + 1, rfl, rfl, .inl ⟨by decide, by decide⟩, _, _, rfl, rfl,
        .inl ⟨_, rfl, _, 2147483647, rfl, rfl, pos1, ?_⟩⟩
      · generalize (z + 7919 * (y + 1) + 13) % 2147483647 * ((z + 7919 * (y + 1) + 13) % 2147483647 + 48271) % 2147483629 = v at b2
        omega
      · generalize (z + 7919 * (y + 1) + 13) % 2147483647 * ((z + 7919 * (y + 1) + 13) % 2147483647 + 48271) % 2147483629 = v at b2
        omega
      refine ⟨_, rfl, _, 9, rfl, rfl, ⟨by decide, by decide⟩, .inl ⟨_, rfl, .int m, rfl, _, m, rfl, rfl, m0, ?_⟩⟩
      exact q _ _ (fun b hb => by rw [upd_ne hb]) ⟨_, _, _, upd_same⟩ (Int.emod_nonneg _ (by omega)) (Int.emod_lt_of_pos _ m0)
end
end K1

set_option Elab.async false
set_option linter.all false
set_option maxRecDepth 100000
set_option maxHeartbeats 2000000
namespace K1
open PySem PySem.Spec PyProof.Rows L2 Cs
section
variable {P : Program} {w : World} {K : PySem.W.Frag} {mg : Str → Option Value} {base : Heap}
/-- a def that stands, with its promise -/
structure Call (P : Program) (w : World) (K : PySem.W.Frag) (mg : Str → Option Value) (base : Heap) (k : Nat) (x : Str) (f : Addr) (fd : FuncData) (ps : List Str) (sp : Sp) : Prop where
  ok : FnOk P w K mg base CX0 k f fd ps sp
  at_ : mg x = some (.ref f)
  kp : PySem.W.keepIn K (.ref f) = true
  bd : Binds K fd ps []
abbrev sIsSide : Stmt := topS 11
abbrev nIsSide : List Str := ["_law_actual", "_law_value", "_law_k"]
theorem scIsSide : FnScope nIsSide ["_law_actual"] (defScope sIsSide) := ⟨rfl, rfl, rfl, by decide +kernel, rfl, by decide +kernel, by decide +kernel⟩
def spIsSide : Sp := fun vs H Q _ => ∃ (a : Addr) (ns : List Int), vs = [.ref a] ∧ H a = some (.lst (ns.map V.int)) ∧ Srt ns ∧ ns.length ≤ 1000 ∧ ∀ H', Same H H' → Q (.bl true) H'
theorem all_rep (n : Nat) : (List.replicate n true).all id = true := by simp
theorem ok_isSide {f fI : Addr} {fd fdI : FuncData} (F : Fun K "_law_is_side" "_law_is_side" sIsSide f fd) (B : Bt mg) (I : Call P w K mg base 1 "_law_is_integer" fI fdI ["_law_actual"] spIsInt) :
    FnOk P w K mg base CX0 2 f fd ["_law_actual"] spIsSide := by
  refine F.ok scIsSide (fun vs H Q E h => ?_) (fun cdv A outer s H vs Q E hr h => ?_)
  · obtain ⟨a, ns, rfl, _⟩ := h
    rfl
  · obtain ⟨a, ns, rfl, ha, hs, hl, q⟩ := h
    refine ⟨_, pss_cons (ps_if (PW.pt (pw_or (pt_not (pt_val (pe_callB call_isi (by rfl) B.isi PyProof.Rows.boot_isinstance (pa_cons (pv 0) (pa_cons (pe_bltn (by rfl) B.list PyProof.Rows.boot_list (v := .ty "list") rfl) pa_nil)))))
        (pw_or1 (pt_not (pt_val (pe_callB (cr_all rfl) (by rfl) B.all PyProof.Rows.boot_all (pa_cons
          (pe_lc (own := [("_law_value", 1)]) (g := gName 1) (tt := tYes) rfl scIsSide.nd (pi_list (pv 0)) (blkOk_by (N := nIsSide) (sc := defScope sIsSide) (by decide +kernel)) (fun _ _ _ _ _ => pg_name (i := 1) scIsSide.nd rfl (Or.inl rfl)) (fun _ _ _ _ _ => pts_nil)
            (fun _ _ _ _ _ => pe_call I.ok hr (by rfl) I.at_ I.kp I.bd .nil pass0 (pa_cons (pv 1) pa_nil))) pa_nil)))))))
        (pss_one (ps_ret pe_bl)) pss_nil)
      (pss_one (ps_ret (pe_callB (cr_all rfl) (by rfl) B.all PyProof.Rows.boot_all (pa_cons
          (pe_lc (own := [("_law_k", 2)]) (g := gName 2) (tt := tYes) rfl scIsSide.nd (pi_range1 (by rfl) B.range (pa_cons (pe_op op_sub (pe_callB call_len_seq (by rfl) B.len PySem.boot_len (pa_cons (pv 0) pa_nil)) pe_int) pa_nil))
            (blkOk_by (N := nIsSide) (sc := defScope sIsSide) (by decide +kernel)) (fun _ _ _ _ _ => pg_name (i := 2) scIsSide.nd rfl (Or.inl rfl)) (fun _ _ _ _ _ => pts_nil)
            (fun _ _ _ _ _ => pe_cmpR op_lt (pe_ix (r := rIxL K) ix_list (pv 0) (pv 2) (fun _ _ => rfl)) (pe_ix (r := rIxL K) ix_list (pv 0) (pe_op op_add (pv 2) pe_int) (fun _ _ => rfl)) (nomark _))) pa_nil)))), ?_⟩
    refine ⟨.ref a, rfl, .ref a, .ty "list", .type "list", .type "list", true, rfl, .ty _, .base (.lst ha), kit_ty (by decide +kernel), true, rfl, iteF ?_⟩
    refine ⟨.ref a, rfl, a, rfl, ⟨_, sl_map ha⟩, fun D hD => lc_list (xs := ns.map V.int) (fun i H' => Same H H' ∧ H' D = some (.lst ((List.replicate i true).map V.bl))) ⟨same_new hD, upd_same⟩ (fun i H' _ h => h.1.seq (sl_map ha)) ?_ ?_⟩
    · rintro i x H' hx ⟨sm, hd⟩
      rw [List.getElem?_map] at hx
      obtain ⟨v, hv, rfl⟩ := Option.map_eq_some_iff.mp hx
      have hi : i < ns.length := (List.getElem?_eq_some_iff.mp hv).1
      refine ⟨rfl, ?_⟩
      refine ⟨_, rfl, v, rfl, _, hd, ?_, same_at sm hD, ?_⟩
      · rw [List.length_map, List.length_replicate]
        exact small1000 (by omega)
      · rw [upd_same, List.replicate_succ', List.map_append]
        rfl
    · rintro H' ⟨sm, hd⟩
      rw [List.length_map] at hd
      refine ⟨D, _, rfl, sl_map hd, _, rfl, ?_⟩
      rw [all_rep]
      refine iteF ?_
      -- all([.. < ..])
      refine ⟨.ref a, rfl, a, _, rfl, .inl (sm.seq (sl_map ha)), ((ns.map V.int).length : Int), 1, rfl, rfl, _, rfl, ?_, ?_, fun D2 hD2 => lc_range (lo := 0) (fun i H2 => Same H H2 ∧ H2 D2 = some (.lst ((List.replicate i true).map V.bl))) ⟨same_at sm (sm.free hD2), upd_same⟩ ?_ ?_⟩
      · rw [List.length_map]; omega
      · rw [List.length_map]; omega
      · rintro i H2 hi ⟨sm2, hd2⟩
        rw [List.length_map] at hi
        have h1 : i < ns.length := by omega
        have h2 : i + 1 < ns.length := by omega
        have g1 : (ns.map V.int)[i]? = some (.int ns[i]) := by
          rw [List.getElem?_map, List.getElem?_eq_getElem h1]
          rfl
        have g2 : (ns.map V.int)[i + 1]? = some (.int ns[i + 1]) := by
          rw [List.getElem?_map, List.getElem?_eq_getElem h2]
          rfl
        refine ⟨rfl, ?_⟩
        refine ⟨.ref a, rfl, _, rfl, a, _, _, _, rfl, rfl, sm2.seq (sl_map ha), at_of (by omega) g1, .ref a, rfl, _, rfl, _, 1, rfl, rfl, a, _, _, _, rfl, rfl, sm2.seq (sl_map ha), at_of (j := i + 1) (by omega) g2, _, _, rfl, rfl, _, hd2, ?_, same_at sm2 (sm.free hD2), ?_⟩
        · rw [List.length_map, List.length_replicate]
          exact small1000 (by omega)
        · have lt : ns[i] < ns[i + 1] := List.pairwise_iff_getElem.mp hs i (i + 1) h1 h2 (Nat.lt_succ_self i)
          have e : (fun i j : Int => V.bl (decide (i < j))) ns[i] ns[i + 1] = V.bl true := congrArg V.bl (decide_eq_true lt)
          rw [upd_same, e, List.replicate_succ', List.map_append]
          rfl
      · rintro H2 ⟨sm2, hd2⟩
        refine ⟨D2, _, rfl, sl_map hd2, ?_⟩
        rw [all_rep]
        exact q _ sm2
end
end K1

set_option Elab.async false
set_option linter.all false
set_option maxRecDepth 100000
set_option maxHeartbeats 2000000
namespace K1
open PySem PySem.Spec PyProof.Rows L2 Cs
section
variable {P : Program} {w : World} {K : PySem.W.Frag} {mg : Str → Option Value} {base : Heap}
/-- what was tracked, but for the one at p, is as it was -/
def Keep (p : Addr) (H H' : Hp) : Prop := ∀ b o, b ≠ p → H b = some o → H' b = some o
theorem Keep.refl (p : Addr) (H : Hp) : Keep p H H := fun _ _ _ e => e
theorem Keep.oth {p : Addr} {H H1 H2 : Hp} (k : Keep p H H1) (o : Oth p H1 H2) : Keep p H H2 := fun b u hb e => (o b hb).trans (k b u hb e)
theorem Keep.trans {p : Addr} {H H1 H2 : Hp} (k : Keep p H H1) (k2 : Keep p H1 H2) : Keep p H H2 := fun b u hb e => k2 b u hb (k b u hb e)
theorem Keep.at_ {p q : Addr} {o : HO} {H H1 : Hp} (k : Keep p H H1) (n : H q = none) : Keep p H (upd H1 q o) := fun b u hb e => by
  rw [upd_ne (ne_of_none e n)]
  exact k b u hb e
theorem Keep.same {p : Addr} {H H1 : Hp} (s : Same H H1) : Keep p H H1 := fun b u _ e => s b u e
theorem Strm.some {H : Hp} {p : Addr} (s : Strm H p) : H p ≠ none := fun z => by
  obtain ⟨x, y, z', e⟩ := s
  rw [z] at e
  cases e
theorem Strm.keep {H H' : Hp} {p q : Addr} (s : Strm H p) (k : Keep q H H') (h : p ≠ q) : Strm H' p := by
  obtain ⟨x, y, z, e⟩ := s
  exact ⟨x, y, z, k _ _ h e⟩
theorem Strm.upd {H : Hp} {p q : Addr} {o : HO} (s : Strm H p) (h : p ≠ q) : Strm (upd H q o) p := by
  obtain ⟨x, y, z, e⟩ := s
  exact ⟨x, y, z, by rw [upd_ne h]; exact e⟩
theorem Keep.free {p q : Addr} {H H1 : Hp} (k : Keep p H H1) (s : Strm H1 p) (n : H1 q = none) : H q = none := by
  have hp : q ≠ p := fun z => s.some (z ▸ n)
  cases c : H q with
  | none => rfl
  | some o =>
    rw [k q o hp c] at n
    cases n
abbrev sVals : Stmt := topS 12
abbrev nVals : List Str := ["_law_stream_here", "_law_size", "_law_scale", "_law_values_here", "_law_k"]
theorem scVals : FnScope nVals ["_law_stream_here", "_law_size", "_law_scale"] (defScope sVals) := ⟨rfl, rfl, rfl, by decide +kernel, rfl, by decide +kernel, by decide +kernel⟩
def spVals : Sp := fun vs H Q _ => ∃ (p : Addr) (m c : Int), vs = [.ref p, .int m, .int c] ∧ Strm H p ∧ 0 < m ∧ m < 1000 ∧
  ∀ (H' : Hp) (l : Addr) (ns : List Int), Keep p H H' → H l = none → Strm H' p → H' l = some (.lst (ns.map V.int)) → (ns.length : Int) < m → Q (.ref l) H'
theorem ok_vals {f fD : Addr} {fd fdD : FuncData} (F : Fun K "_law_values" "_law_values" sVals f fd) (B : Bt mg) (D : Call P w K mg base 1 "_law_next" fD fdD ["_law_stream_here", "_law_size"] spDraw) :
    FnOk P w K mg base CX0 2 f fd ["_law_stream_here", "_law_size", "_law_scale"] spVals := by
  refine F.ok scVals (fun vs H Q E h => ?_) (fun cdv A outer s H vs Q E hr h => ?_)
  · obtain ⟨p, m, c, rfl, _⟩ := h
    rfl
  · obtain ⟨p, m, c, rfl, hp, m0, m1, q⟩ := h
    refine ⟨_, pss_cons (ps_set (i := 3) scVals.nd rfl (.inl rfl) (pe_lst pa_nil))
      (pss_cons (ps_for PassesOwn.never rfl (pi_range1 (by rfl) B.range (pa_cons (pe_call D.ok hr (by rfl) D.at_ D.kp D.bd .nil pass0 (pa_cons (pv 0) (pa_cons (pv 1) pa_nil))) pa_nil)) (pg_name (i := 4) scVals.nd rfl (.inl rfl))
        (pss_one (ps_expr (pe_bm PySem.F.plainAttrs_list PySem.F.slot_list_append PySem.F.type_list_append mt_append (pv 3) (pa_cons (pe_op op_mul (pe_op op_sub (pe_call D.ok hr (by rfl) D.at_ D.kp D.bd .nil pass0 (pa_cons (pv 0) (pa_cons pe_int pa_nil))) pe_int) (pv 2)) pa_nil)))))
      (pss_one (ps_ret (pv 3)))), ?_⟩
    refine ⟨Nat.zero_le _, fun l nl => ?_⟩
    have hlp : p ≠ l := fun z => hp.some (z ▸ nl)
    refine ⟨.ref p, rfl, .int m, rfl, p, m, rfl, hp.upd hlp, m0, by omega, fun H1 d o1 st1 d0 d1 => ?_⟩
    refine ⟨d, rfl, by omega, by omega, for_range (lo := 0) (n := d.toNat) (fun i σ H' => ∃ (y : Option V) (ns : List Int), σ = [some (.ref p), some (.int m), some (.int c), some (.ref l), y] ∧ Keep p H H' ∧ Strm H' p ∧ H' l = some (.lst (ns.map V.int)) ∧ ns.length = i) ?_ ?_ ?_⟩
    · exact ⟨none, [], rfl, ((Keep.refl p H).at_ nl).oth o1, st1, (o1 l hlp.symm).trans upd_same, rfl⟩
    · rintro i σ H' hi ⟨y, ns, rfl, kp, st, el, hn⟩
      refine ⟨.ref l, rfl, .inl ⟨rfl, _, sl_map el⟩, .ref p, rfl, p, 19, rfl, st, by decide, by decide, fun H2 e o2 st2 e0 e1 => ?_⟩
      refine ⟨e, 9, rfl, rfl, .int c, rfl, e - 9, c, rfl, rfl, .inl ⟨by omega, by omega⟩, l, _, _, rfl, rfl, (o2 l hlp.symm).trans el, ?_, ?_⟩
      · rw [List.length_map]
        exact small1000 (by omega)
      · refine ⟨_, ns ++ [(e - 9) * c], rfl, (kp.oth o2).at_ nl, st2.upd hlp, ?_, ?_⟩
        · rw [upd_same, List.map_append]
          rfl
        · rw [List.length_append, hn]
          rfl
    · rintro σ H' ⟨y, ns, rfl, kp, st, el, hn⟩
      exact ⟨.ref l, rfl, q H' l ns kp nl st el (by omega)⟩
end
end K1

set_option Elab.async false
set_option linter.all false
set_option maxRecDepth 100000
set_option maxHeartbeats 2000000
namespace K1
open PySem PySem.Spec PyProof.Rows L2 Cs
section
variable {P : Program} {w : World} {K : PySem.W.Frag} {mg : Str → Option Value} {base : Heap}
abbrev sSide : Stmt := topS 14
abbrev nSide : List Str := ["_law_values_here", "_law_side_here", "_law_value"]
theorem scSide : FnScope nSide ["_law_values_here"] (defScope sSide) := ⟨rfl, rfl, rfl, by decide +kernel, rfl, by decide +kernel, by decide +kernel⟩
def spSide (K : PySem.W.Frag) : Sp := fun vs H Q _ => ∃ (a : Addr) (ns : List Int), vs = [.ref a] ∧ SqL K H a (ns.map V.int) ∧ ns.length ≤ 1000 ∧
  ∀ (H' : Hp) (l : Addr) (ms : List Int), Same H H' → H l = none → H' l = some (.lst (ms.map V.int)) → Srt ms → (∀ k, k ∈ ms ↔ k ∈ ns) → ms.length ≤ ns.length → Q (.ref l) H'
theorem srt_snoc {ss : List Int} {v : Int} (s : Srt ss) (h : ∀ k ∈ ss, k < v) : Srt (ss ++ [v]) :=
  List.pairwise_append.mpr ⟨s, List.pairwise_singleton _ _, fun a ha b hb => by rw [List.mem_singleton.mp hb]; exact h a ha⟩
theorem srt_last {ss : List Int} {z : Int} (s : Srt (ss ++ [z])) : ∀ k ∈ ss ++ [z], k ≤ z := fun k hk => by
  rcases List.mem_append.mp hk with h | h
  · exact Int.le_of_lt ((List.pairwise_append.mp s).2.2 k h z (List.mem_singleton.mpr rfl))
  · rw [List.mem_singleton.mp h]
    exact Int.le_refl z
theorem snoc_of {α : Type} {l : List α} (h : l ≠ []) : ∃ r z, l = r ++ [z] := ⟨l.dropLast, l.getLast h, (List.dropLast_concat_getLast h).symm⟩
theorem ok_side {f : Addr} {fd : FuncData} {k : Nat} (F : Fun K "_law_side" "_law_side" sSide f fd) (B : Bt mg) : FnOk P w K mg base CX0 (k + 1) f fd ["_law_values_here"] (spSide K) := by
  refine F.ok scSide (fun vs H Q E h => ?_) (fun cdv A outer s H vs Q E hr h => ?_)
  · obtain ⟨a, ns, rfl, _⟩ := h
    rfl
  · obtain ⟨a, ns, rfl, ha, hl, q⟩ := h
    refine ⟨_, pss_cons (ps_set (i := 1) scSide.nd rfl (.inl rfl) (pe_lst pa_nil))
      (pss_cons (ps_for PassesOwn.never rfl (pi_list (pe_callB cr_sortedI (by rfl) B.sorted PyProof.Rows.boot_sorted (pa_cons (pv 0) pa_nil))) (pg_name (i := 2) scSide.nd rfl (.inl rfl))
        (pss_one (ps_if (PW.pt (pw_or (pt_cmpR op_eq (pe_callB call_len_seq (by rfl) B.len PySem.boot_len (pa_cons (pv 1) pa_nil)) pe_int (nomark _))
            (pw_or1 (pt_cmpR op_ne (pe_ix ix_list (pv 1) (pe_un un_neg pe_int) (fun _ _ => rfl)) (pv 2) (nomark _)))))
          (pss_one (ps_expr (pe_bm PySem.F.plainAttrs_list PySem.F.slot_list_append PySem.F.type_list_append mt_append (pv 1) (pa_cons (pv 2) pa_nil)))) pss_nil)))
      (pss_one (ps_ret (pv 1)))), ?_⟩
    refine ⟨Nat.zero_le _, fun l nl => ?_⟩
    have s1 : Same H (upd H l (.lst [])) := same_new nl
    refine ⟨.ref a, rfl, a, ns, rfl, s1.seq ha, fun ss r hp hs nr => ?_⟩
    have nlr : l ≠ r := fun e => by rw [← e, upd_same] at nr; cases nr
    have s2 := same_at (o := .lst (ss.map V.int)) s1 (s1.free nr)
    refine ⟨r, rfl, ⟨_, sl_map upd_same⟩, for_list (xs := ss.map V.int) (fun i σ H' => ∃ (y : Option V) (ms : List Int), σ = [some (.ref a), some (.ref l), y] ∧ Same H H' ∧ H' r = some (.lst (ss.map V.int)) ∧ H' l = some (.lst (ms.map V.int)) ∧ Srt ms ∧ (∀ k, k ∈ ms ↔ k ∈ ss.take i) ∧ ms.length ≤ i) ?_ ?_ ?_ ?_⟩
    · exact ⟨none, [], rfl, s2, upd_same, by rw [upd_ne nlr, upd_same]; rfl, List.Pairwise.nil, fun k => by simp, Nat.le_refl _⟩
    · rintro i σ H' _ ⟨y, ms, rfl, sm, er, el, _⟩
      exact sl_map er
    · rintro i x σ H' hx ⟨y, ms, rfl, sm, er, el, so, mem, len⟩
      rw [List.getElem?_map] at hx
      obtain ⟨v, hv, rfl⟩ := Option.map_eq_some_iff.mp hx
      have hi := (List.getElem?_eq_some_iff.mp hv).1
      have tk : ss.take (i + 1) = ss.take i ++ [v] := by
        rw [List.take_add_one, hv]
        rfl
      have le : ∀ k ∈ ms, k ≤ v := fun k hk => by
        have h1 := (mem k).1 hk
        obtain ⟨j, hj⟩ := List.mem_iff_getElem?.mp h1
        rw [List.getElem?_take] at hj
        split at hj
        · rename_i hji
          obtain ⟨a1, a2⟩ := List.getElem?_eq_some_iff.mp hj
          obtain ⟨b1, b2⟩ := List.getElem?_eq_some_iff.mp hv
          rw [← a2, ← b2]
          exact List.pairwise_iff_getElem.mp hs j i a1 b1 hji
        · cases hj
      have put : (∀ k ∈ ms, k < v) → ∃ (y : Option V) (ms' : List Int), [some (V.ref a), some (V.ref l), some (V.int v)] = [some (.ref a), some (.ref l), y] ∧ Same H (upd H' l (.lst (ms.map V.int ++ [V.int v]))) ∧ (upd H' l (.lst (ms.map V.int ++ [V.int v]))) r = some (.lst (ss.map V.int)) ∧
          (upd H' l (.lst (ms.map V.int ++ [V.int v]))) l = some (.lst (ms'.map V.int)) ∧ Srt ms' ∧ (∀ k, k ∈ ms' ↔ k ∈ ss.take (i + 1)) ∧ ms'.length ≤ i + 1 := fun lt => by
        refine ⟨_, ms ++ [v], rfl, same_at sm nl, by rw [upd_ne nlr.symm]; exact er, by rw [upd_same, List.map_append]; rfl, srt_snoc so lt, fun k => ?_, by rw [List.length_append]; show ms.length + 1 ≤ i + 1; omega⟩
        rw [tk, List.mem_append, List.mem_append, mem k]
      have add : (∀ k ∈ ms, k < v) → _ := put
      refine ⟨.ref l, rfl, l, _, rfl, .inl (sl_map el), rfl, _, rfl, ite2 (fun c => ?_) (fun c => ?_)⟩
      · have e0 : ms = [] := by
          have z := V.int.inj (of_decide_eq_true c)
          rw [List.length_map] at z
          exact List.length_eq_zero_iff.mp (by omega)
        refine ⟨.ref l, rfl, .inl ⟨rfl, _, sl_map el⟩, .int v, rfl, l, _, _, rfl, rfl, el, ?_, ?_⟩
        · rw [List.length_map]
          have hle : i < 2 ^ 20 ∨ True := .inr trivial
          exact small1000 (by have := hp.length_eq; omega)
        · exact put (fun k hk => by rw [e0] at hk; cases hk)
      · have ne : ms ≠ [] := fun z => c (by rw [z]; rfl)
        obtain ⟨rs, z, e0⟩ := snoc_of ne
        have gz : atI (ms.map V.int) (-1) = some (.int z) := by
          rw [e0, List.map_append]
          exact atI_last _ _
        refine ⟨.ref l, rfl, 1, rfl, l, _, -1, .int z, rfl, rfl, sl_map el, gz, .int v, rfl, rfl, _, rfl, ?_⟩
        by_cases hz : z = v
        · have e1 : (!decide (V.int z = V.int v)) = false := by rw [hz]; simp
          rw [e1]
          refine iteF ?_
          refine ⟨_, ms, rfl, sm, er, el, so, fun k => ?_, by omega⟩
          rw [tk, List.mem_append, mem k, List.mem_singleton]
          constructor
          · exact .inl
          · rintro (h1 | h1)
            · exact h1
            · rw [h1, ← hz, ← mem z, e0]
              simp
        · have e1 : (!decide (V.int z = V.int v)) = true := by
            have : V.int z ≠ V.int v := fun e => hz (V.int.inj e)
            simp [this]
          rw [e1]
          refine iteT ?_
          refine ⟨.ref l, rfl, .inl ⟨rfl, _, sl_map el⟩, .int v, rfl, l, _, _, rfl, rfl, el, ?_, ?_⟩
          · rw [List.length_map]
            exact small1000 (by have := hp.length_eq; omega)
          · refine put fun k hk => ?_
            rw [e0] at so hk
            have h1 := srt_last so k hk
            have h2 := le z (by rw [e0]; simp)
            omega
    · rintro σ H' ⟨y, ms, rfl, sm, er, el, so, mem, len⟩
      rw [List.length_map, List.take_length] at mem
      rw [List.length_map] at len
      exact ⟨.ref l, rfl, q H' l ms sm nl el so (fun k => (mem k).trans hp.mem_iff) (by rw [← hp.length_eq]; exact len)⟩
end
end K1

set_option Elab.async false
set_option linter.all false
set_option maxRecDepth 100000
set_option maxHeartbeats 2000000
namespace K1
open PySem PySem.Spec PyProof.Rows L2 Cs
section
variable {P : Program} {w : World} {K : PySem.W.Frag} {mg : Str → Option Value} {base : Heap}
abbrev sSecond : Stmt := topS 13
abbrev nSecond : List Str := ["_law_stream_here", "_law_first", "_law_scale", "_law_way", "_law_gone", "_law_value"]
theorem scSecond : FnScope nSecond ["_law_stream_here", "_law_first", "_law_scale"] (defScope sSecond) := ⟨rfl, rfl, rfl, by decide +kernel, rfl, by decide +kernel, by decide +kernel⟩
def spSecond : Sp := fun vs H Q _ => ∃ (p a : Addr) (ns : List Int) (c : Int), vs = [.ref p, .ref a, .int c] ∧ Strm H p ∧ p ≠ a ∧ H a = some (.lst (ns.map V.int)) ∧ ns.length ≤ 14 ∧
  ∀ (H' : Hp) (l : Addr) (ms : List Int), Keep p H H' → H l = none → Strm H' p → H' l = some (.lst (ms.map V.int)) → ms.length ≤ 28 → Q (.ref l) H'
theorem with_rest {R G : Prop} (r : R) (g : R → G) : G := g r
theorem cut_map (ns : List Int) (lo hi : Option Int) : ∃ ms : List Int, cutV (ns.map V.int) lo hi = ms.map V.int ∧ ms.length ≤ ns.length := by
  unfold cutV
  refine ⟨(ns.drop (HT.sIx (ns.map V.int).length 0 lo)).take (HT.sIx (ns.map V.int).length (ns.map V.int).length hi - HT.sIx (ns.map V.int).length 0 lo), ?_, ?_⟩
  · rw [List.map_take, List.map_drop]
  · rw [List.length_take, List.length_drop]
    omega
theorem ok_second {f fD fV : Addr} {fd fdD fdV : FuncData} (F : Fun K "_law_second" "_law_second" sSecond f fd) (B : Bt mg) (D : Call P w K mg base 1 "_law_next" fD fdD ["_law_stream_here", "_law_size"] spDraw)
    (L : Call P w K mg base 2 "_law_values" fV fdV ["_law_stream_here", "_law_size", "_law_scale"] spVals) :
    FnOk P w K mg base CX0 3 f fd ["_law_stream_here", "_law_first", "_law_scale"] spSecond := by
  refine F.ok scSecond (fun vs H Q E h => ?_) (fun cdv A outer s H vs Q E hr h => ?_)
  · obtain ⟨p, a, ns, c, rfl, _⟩ := h
    rfl
  · obtain ⟨p, a, ns, c, rfl, hp, pa, ha, hl, q⟩ := h
    have hr1 : Room 1 (A.deeper (envOfC "_law_second" (defScope sSecond) s.heap.objs.size f cdv)) := hr.mono (by decide)
    refine ⟨_, pss_cons (ps_set (i := 3) scSecond.nd rfl (.inl rfl) (pe_call D.ok hr1 (by rfl) D.at_ D.kp D.bd .nil pass0 (pa_cons (pv 0) (pa_cons pe_int pa_nil))))
      (pss_cons (ps_if (pt_cmpR op_lt (pv 3) pe_int (nomark _)) (pss_one (ps_ret (pe_call L.ok hr (by rfl) L.at_ L.kp L.bd .nil pass0 (pa_cons (pv 0) (pa_cons pe_int (pa_cons (pv 2) pa_nil)))))) pss_nil)
      (pss_cons (ps_if (pt_cmpR op_eq (pv 3) pe_int (nomark _)) (pss_one (ps_ret
          (pe_lc (own := [("_law_value", 5)]) (g := gName 5) (te := tVar 5) rfl scSecond.nd (pi_list (pe_revL (pv 1))) (blkOk_by (N := nSecond) (sc := defScope sSecond) (by decide +kernel)) (fun _ _ _ _ _ => pg_name (i := 5) scSecond.nd rfl (Or.inl rfl))
            (fun _ _ _ _ _ => pts_one (pt_cmpR op_gt (pe_call D.ok hr1 (by rfl) D.at_ D.kp D.bd .nil pass0 (pa_cons (pv 0) (pa_cons pe_int pa_nil))) pe_int (nomark _))) (fun _ _ _ _ _ => pv 5)))) pss_nil)
      (pss_cons (ps_if (pt_cmpR op_eq (pv 3) pe_int (nomark _)) (pss_one (ps_ret (pe_op op_cat (pe_call L.ok hr (by rfl) L.at_ L.kp L.bd .nil pass0 (pa_cons (pv 0) (pa_cons pe_int (pa_cons (pv 2) pa_nil)))) (pe_revL (pv 1))))) pss_nil)
      (pss_cons (ps_if (PW.pt (pw_and (pt_cmpR op_eq (pv 3) pe_int (nomark _)) (pw_and1 (pt_cmpR op_gt (pe_callB call_len_seq (by rfl) B.len PySem.boot_len (pa_cons (pv 1) pa_nil)) pe_int (nomark _)))))
          (pss_cons (ps_set (i := 4) scSecond.nd rfl (.inr rfl) (pe_ix ix_list (pv 1) (pe_call D.ok hr1 (by rfl) D.at_ D.kp D.bd .nil pass0 (pa_cons (pv 0) (pa_cons (pe_callB call_len_seq (by rfl) B.len PySem.boot_len (pa_cons (pv 1) pa_nil)) pa_nil))) (fun _ _ => rfl)))
          (pss_one (ps_ret (pe_lc (own := [("_law_value", 5)]) (g := gName 5) (te := tVar 5) rfl scSecond.nd (pi_list (pv 1)) (blkOk_by (N := nSecond) (sc := defScope sSecond) (by decide +kernel)) (fun _ _ _ _ _ => pg_name (i := 5) scSecond.nd rfl (Or.inl rfl))
            (fun _ _ _ _ _ => pts_one (pt_cmpR op_ne (pv 5) (pv 4) (nomark _))) (fun _ _ _ _ _ => pv 5))))) pss_nil)
      (pss_one (ps_ret (pe_op op_cat (pe_slice sl_list (pv 1) (po_some pe_int) po_none) (pe_slice sl_list (pv 1) po_none (po_some pe_int))))))))), ?_⟩
    refine ⟨.ref p, rfl, p, 6, rfl, hp, by decide, by decide, fun H1 d o1 st1 d0 d1 => ?_⟩
    have k1 : Keep p H H1 := (Keep.refl p H).oth o1
    have ea : H1 a = some (.lst (ns.map V.int)) := k1 _ _ pa.symm ha
    refine ⟨_, rfl, d, 2, rfl, rfl, _, rfl, ite2 (fun c => ?_) (fun c => ?_)⟩
    · -- values(stream, 15, scale)
      refine ⟨.ref p, rfl, _, rfl, p, 15, _, rfl, st1, by decide, by decide, fun H2 l ms k2 nl st2 el len => ?_⟩
      exact q H2 l ms (k1.trans k2) (k1.free st1 nl) st2 el (by omega)
    refine ⟨_, rfl, rfl, _, rfl, ite2 (fun c2 => ?_) (fun c2 => ?_)⟩
    · -- those of first[::-1] that are drawn
      refine ⟨.ref a, rfl, a, _, rfl, sl_map ea, fun r nr => ⟨r, rfl, ⟨_, sl_map upd_same⟩, fun D' nD => ?_⟩⟩
      have npr : p ≠ r := fun e => st1.some (e ▸ nr)
      have nDr : D' ≠ r := fun e => by rw [e, upd_same] at nD; cases nD
      have nD1 : H1 D' = none := by rw [upd_ne nDr] at nD; exact nD
      have npD : p ≠ D' := fun e => st1.some (e ▸ nD1)
      refine lc_list (xs := (ns.map V.int).reverse) (fun i H' => Keep p H1 H' ∧ Strm H' p ∧ H' r = some (.lst (ns.map V.int).reverse) ∧ ∃ ms : List Int, H' D' = some (.lst (ms.map V.int)) ∧ ms.length ≤ i) ?_ ?_ ?_ ?_
      · exact ⟨((Keep.refl p H1).at_ nr).at_ nD1, (st1.upd npr).upd npD, by rw [upd_ne nDr.symm, upd_same], [], upd_same, Nat.le_refl _⟩
      · rintro i H' _ ⟨_, _, er, _⟩
        exact sl_map er
      · rintro i x H' hx ⟨kp, st, er, ms, eD, len⟩
        rw [← List.map_reverse, List.getElem?_map] at hx
        obtain ⟨v, hv, rfl⟩ := Option.map_eq_some_iff.mp hx
        have hi := (List.getElem?_eq_some_iff.mp hv).1
        rw [List.length_reverse] at hi
        refine ⟨rfl, .ref p, rfl, p, 3, rfl, st, by decide, by decide, fun H2 e o2 st2 e0 e1 => ?_⟩
        refine ⟨e, 0, rfl, rfl, _, rfl, ?_⟩
        have eD2 : H2 D' = some (.lst (ms.map V.int)) := (o2 D' npD.symm).trans eD
        have er2 : H2 r = some (.lst (ns.map V.int).reverse) := (o2 r npr.symm).trans er
        refine ite2 (fun _ => ?_) (fun _ => ?_)
        · refine ⟨.int v, rfl, _, eD2, ?_, (kp.oth o2).at_ nD1, st2.upd npD, by rw [upd_ne nDr.symm]; exact er2, ms ++ [v], by rw [upd_same, List.map_append]; rfl, by rw [List.length_append]; show ms.length + 1 ≤ i + 1; omega⟩
          rw [List.length_map]
          exact small1000 (by omega)
        · exact ⟨kp.oth o2, st2, er2, ms, eD2, by omega⟩
      · rintro H' ⟨kp, st, er, ms, eD, len⟩
        rw [List.length_reverse, List.length_map] at len
        exact q H' D' ms (k1.trans kp) (k1.free st1 nD1) st eD (by omega)
    refine ⟨_, rfl, rfl, _, rfl, ite2 (fun c3 => ?_) (fun c3 => ?_)⟩
    · -- values(stream, 6, scale) + first[::-1]
      refine ⟨.ref p, rfl, _, rfl, p, 6, _, rfl, st1, by decide, by decide, fun H2 l ms k2 nl st2 el len => ?_⟩
      have ea2 : H2 a = some (.lst (ns.map V.int)) := k2 _ _ pa.symm ea
      refine ⟨.ref a, rfl, a, _, rfl, sl_map ea2, fun r nr => ?_⟩
      have nlr : l ≠ r := fun e => by rw [e] at el; rw [nr] at el; cases el
      have nr1 : H1 r = none := k2.free st2 nr
      refine ⟨l, r, _, _, rfl, rfl, by rw [upd_ne nlr]; exact el, upd_same, ?_, fun z nz => ?_⟩
      · rw [List.length_reverse, List.length_map, List.length_map]
        exact Nat.le_of_lt (small1000 (by omega))
      · have nzr : z ≠ r := fun e => by rw [e, upd_same] at nz; cases nz
        rw [upd_ne nzr] at nz
        have nz1 : H1 z = none := k2.free st2 nz
        have npr : p ≠ r := fun e => st2.some (e ▸ nr)
        have npz : p ≠ z := fun e => st2.some (e ▸ nz)
        refine q _ z (ms ++ ns.reverse) (((k1.trans k2).at_ (k1.free st1 nr1)).at_ (k1.free st1 nz1)) (k1.free st1 nz1) ((st2.upd npr).upd npz) ?_ ?_
        · rw [upd_same, List.map_append, List.map_reverse]
        · rw [List.length_append, List.length_reverse]
          omega
    refine' with_rest ?r (fun rest => ⟨_, rfl, rfl, _, rfl, ite2 (fun c4 => ?g) (fun c4 => iteF rest)⟩)
    case g =>
      · refine ⟨.ref a, rfl, a, _, rfl, .inl (sl_map ea), _, 0, rfl, rfl, _, rfl, ite2 (fun c5 => ?_) (fun c5 => ?_)⟩
        · -- all but one
          have ln : 0 < ns.length := by
            have z := of_decide_eq_true c5
            rw [List.length_map] at z
            omega
          refine ⟨.ref a, rfl, .ref p, rfl, .ref a, rfl, a, _, rfl, .inl (sl_map ea), p, _, rfl, st1, ?_, ?_, fun H2 e o2 st2 e0 e1 => ?_⟩
          · rw [List.length_map]; omega
          · rw [List.length_map]; omega
          rw [List.length_map] at e1
          have ea2 : H2 a = some (.lst (ns.map V.int)) := (o2 a pa.symm).trans ea
          have he : e.toNat < ns.length := by omega
          have ge : (ns.map V.int)[e.toNat]? = some (.int ns[e.toNat]) := by
            rw [List.getElem?_map, List.getElem?_eq_getElem he]
            rfl
          refine ⟨a, _, e, .int ns[e.toNat], rfl, rfl, sl_map ea2, at_of (by omega) ge, ?_⟩
          refine ⟨.ref a, rfl, a, rfl, ⟨_, sl_map ea2⟩, fun D' nD => ?_⟩
          have npD : p ≠ D' := fun z => st2.some (z ▸ nD)
          have naD : a ≠ D' := fun z => by rw [z, nD] at ea2; cases ea2
          have k2 : Keep p H H2 := k1.oth o2
          refine lc_list (xs := ns.map V.int) (fun i H' => Keep p H2 H' ∧ Strm H' p ∧ H' a = some (.lst (ns.map V.int)) ∧ ∃ ms : List Int, H' D' = some (.lst (ms.map V.int)) ∧ ms.length ≤ i) ?_ ?_ ?_ ?_
          · exact ⟨(Keep.refl p H2).at_ nD, st2.upd npD, by rw [upd_ne naD]; exact ea2, [], upd_same, Nat.le_refl _⟩
          · rintro i H' _ ⟨_, _, er, _⟩
            exact sl_map er
          · rintro i x H' hx ⟨kp, st, er, ms, eD, len⟩
            rw [List.getElem?_map] at hx
            obtain ⟨v, hv, rfl⟩ := Option.map_eq_some_iff.mp hx
            have hi := (List.getElem?_eq_some_iff.mp hv).1
            refine ⟨rfl, .int v, rfl, .int ns[e.toNat], rfl, rfl, _, rfl, ?_⟩
            refine ite2 (fun _ => ?_) (fun _ => ?_)
            · refine ⟨.int v, rfl, _, eD, ?_, kp.at_ nD, st.upd npD, by rw [upd_ne naD]; exact er, ms ++ [v], by rw [upd_same, List.map_append]; rfl, by rw [List.length_append]; show ms.length + 1 ≤ i + 1; omega⟩
              rw [List.length_map]
              exact small1000 (by omega)
            · exact ⟨kp, st, er, ms, eD, by omega⟩
          · rintro H' ⟨kp, st, er, ms, eD, len⟩
            rw [List.length_map] at len
            exact q H' D' ms (k2.trans kp) (k2.free st2 nD) st eD (by omega)
        · exact rest
    case r =>
      -- first[1:] + first[:1]
      refine ⟨.ref a, rfl, 1, rfl, a, _, rfl, sl_map ea, fun r1 n1 => ?_⟩
      have na1 : a ≠ r1 := fun z => by rw [z, n1] at ea; cases ea
      refine ⟨.ref a, rfl, 1, rfl, a, _, rfl, sl_map (by rw [upd_ne na1]; exact ea), fun r2 n2 => ?_⟩
      have n21 : r2 ≠ r1 := fun z => by rw [z, upd_same] at n2; cases n2
      have n2' : H1 r2 = none := by rw [upd_ne n21] at n2; exact n2
      obtain ⟨m1, c1, l1⟩ := cut_map ns (some 1) none
      obtain ⟨m2, c2', l2⟩ := cut_map ns none (some 1)
      refine ⟨r1, r2, m1.map V.int, m2.map V.int, rfl, rfl, by rw [upd_ne n21.symm, upd_same, c1], by rw [upd_same, c2'], ?_, fun z nz => ?_⟩
      · rw [List.length_map, List.length_map]
        exact Nat.le_of_lt (small1000 (by omega))
      · have nz2 : z ≠ r2 := fun e => by rw [e, upd_same] at nz; cases nz
        rw [upd_ne nz2] at nz
        have nz1 : z ≠ r1 := fun e => by rw [e, upd_same] at nz; cases nz
        rw [upd_ne nz1] at nz
        have np1 : p ≠ r1 := fun e => st1.some (e ▸ n1)
        have np2 : p ≠ r2 := fun e => st1.some (e ▸ n2')
        have npz : p ≠ z := fun e => st1.some (e ▸ nz)
        refine q _ z (m1 ++ m2) (((k1.at_ (k1.free st1 n1)).at_ (k1.free st1 n2')).at_ (k1.free st1 nz)) (k1.free st1 nz) (((st1.upd np1).upd np2).upd npz) ?_ ?_
        · rw [upd_same, List.map_append]
        · rw [List.length_append]
          omega
end
end K1

set_option Elab.async false
set_option linter.all false
set_option maxRecDepth 100000
set_option maxHeartbeats 2000000
namespace K1
open PySem PySem.Spec PyProof.Rows L2 Cs
theorem srt_ext : ∀ {xs ys : List Int}, Srt xs → Srt ys → (∀ k, k ∈ xs ↔ k ∈ ys) → xs = ys
  | [], [], _, _, _ => rfl
  | [], y :: ys, _, _, h => absurd ((h y).2 List.mem_cons_self) (by simp)
  | x :: xs, [], _, _, h => absurd ((h x).1 List.mem_cons_self) (by simp)
  | x :: xs, y :: ys, sx, sy, h => by
    obtain ⟨x1, x2⟩ := List.pairwise_cons.mp sx
    obtain ⟨y1, y2⟩ := List.pairwise_cons.mp sy
    have e : x = y := by
      rcases List.mem_cons.mp ((h x).1 List.mem_cons_self) with a | a
      · exact a
      · rcases List.mem_cons.mp ((h y).2 List.mem_cons_self) with b | b
        · exact b.symm
        · have := x1 y b
          have := y1 x a
          omega
    subst e
    have t : ∀ k, k ∈ xs ↔ k ∈ ys := fun k => by
      constructor
      · intro hk
        rcases List.mem_cons.mp ((h k).1 (List.mem_cons_of_mem _ hk)) with a | a
        · have := x1 k hk
          omega
        · exact a
      · intro hk
        rcases List.mem_cons.mp ((h k).2 (List.mem_cons_of_mem _ hk)) with a | a
        · have := y1 k hk
          omega
        · exact a
    rw [srt_ext x2 y2 t]
/-! ### lists of ints as data -/
abbrev dI (ns : List Int) : PyData := .list (ns.map PyData.int)
theorem dp_all {K : PySem.W.Frag} {H : Hp} : ∀ ns : List Int, DpAll K H (ns.map V.int) (ns.map PyData.int)
  | [] => .nil
  | n :: ns => .cons (.int n) (dp_all ns)
theorem dpI {K : PySem.W.Frag} {H : Hp} {a : Addr} {ns : List Int} (h : SqL K H a (ns.map V.int)) : Dp K H (.ref a) (dI ns) := .lst h (dp_all ns)
theorem lay_all : ∀ ns : List Int, PyData.canLayAll0 (ns.map PyData.int) = true
  | [] => rfl
  | n :: ns => by
    show (PyData.canLay0 (.int n) && PyData.canLayAll0 (ns.map PyData.int)) = true
    rw [lay_all ns] <;> rfl
theorem layI (ns : List Int) : (dI ns).canLay0 = true := lay_all ns
theorem deep_all : ∀ ns : List Int, PyData.depthAll (ns.map PyData.int) ≤ 1
  | [] => by simp [PyData.depthAll]
  | n :: ns => by
    have := deep_all ns
    simp only [List.map_cons, PyData.depthAll, PyData.depth]
    omega
theorem deepI (ns : List Int) : (dI ns).depth ≤ 2 := by
  have := deep_all ns
  simp only [dI, PyData.depth]
  omega
theorem shI (ns : List Int) : SeqAt.shaped (dI ns) = true := by
  unfold SeqAt.shaped
  rw [layI]
  have := deepI ns
  simp
  omega
theorem eqI (ns : List Int) : PyData.eqv (dI ns) (dI ns) = true := SeqAt.eqv_refl _ (layI ns)
theorem lay2 (ns ks : List Int) : (PyData.list [dI ns, dI ks]).canLay0 = true := by
  show (PyData.canLay0 (dI ns) && (PyData.canLay0 (dI ks) && true)) = true
  rw [layI, layI]
  rfl
theorem sh2 (ns ks : List Int) : SeqAt.shaped (.list [dI ns, dI ks]) = true := by
  unfold SeqAt.shaped
  rw [lay2]
  have h1 := deepI ns
  have h2 := deepI ks
  have : (PyData.list [dI ns, dI ks]).depth ≤ 3 := by
    simp only [PyData.depth, PyData.depthAll] at *
    omega
  simp
  omega
theorem eq2 (ns ks : List Int) : PyData.eqv (.list [dI ns, dI ks]) (.list [dI ns, dI ks]) = true := SeqAt.eqv_refl _ (lay2 ns ks)
section
variable {P : Program} {w : World} {K : PySem.W.Frag} {mg : Str → Option Value} {base : Heap}
abbrev sMade : Stmt := topS 15
abbrev nMade : List Str := ["_law_values_here", "_law_passed", "_law_turn", "_law_told"]
theorem scMade : FnScope nMade ["_law_values_here"] (defScope sMade) := ⟨rfl, rfl, rfl, by decide +kernel, rfl, by decide +kernel, by decide +kernel⟩
def spMade (K : PySem.W.Frag) : Sp := fun vs H Q _ => ∃ (a : Addr) (ns : List Int), vs = [.ref a] ∧ SqL K H a (ns.map V.int) ∧ ns.length ≤ 63 ∧ ∀ H', Same H H' → Q (.bl true) H'
theorem ok_made {f fS fI fL : Addr} {fd fdS fdI fdL : FuncData} (F : Fun K "_law_made" "_law_made" sMade f fd) (B : Bt mg) (S : Call P w K mg base 1 "side_of" fS fdS ["values"] (spSideOf K))
    (I : Call P w K mg base 2 "_law_is_side" fI fdI ["_law_actual"] spIsSide) (L : Call P w K mg base 1 "_law_side" fL fdL ["_law_values_here"] (spSide K)) :
    FnOk P w K mg base CX0 3 f fd ["_law_values_here"] (spMade K) := by
  refine F.ok scMade (fun vs H Q E h => ?_) (fun cdv A outer s H vs Q E hr h => ?_)
  · obtain ⟨a, ns, rfl, _⟩ := h
    rfl
  · obtain ⟨a, ns, rfl, ha, hl, q⟩ := h
    have hr1 : Room 1 (A.deeper (envOfC "_law_made" (defScope sMade) s.heap.objs.size f cdv)) := hr.mono (by decide)
    have hu : (A.deeper (envOfC "_law_made" (defScope sMade) s.heap.objs.size f cdv)).units + 64 < cLine := by have := hr.un; omega
    refine ⟨_, pss_cons (ps_set (i := 1) scMade.nd rfl (.inl rfl) (pe_callTy call_list_of (by rfl) B.list PyProof.Rows.boot_list (pa_cons (pv 0) pa_nil)))
      (pss_cons (ps_for PassesOwn.never rfl (pi_range1 (by rfl) B.range (pa_cons pe_int pa_nil)) (pg_name (i := 2) scMade.nd rfl (.inl rfl))
        (pss_cons (ps_set (i := 3) scMade.nd rfl (.inl rfl) (pe_call S.ok hr1 (by rfl) S.at_ S.kp S.bd .nil pass0 (pa_cons (pv 1) pa_nil)))
        (pss_cons (ps_if (PW.pt (pw_or (pt_not (pt_val (pe_call I.ok hr (by rfl) I.at_ I.kp I.bd .nil pass0 (pa_cons (pv 3) pa_nil))))
            (pw_or (pt_cmpR (op_neD hu) (pv 3) (pe_call L.ok hr1 (by rfl) L.at_ L.kp L.bd .nil pass0 (pa_cons (pv 0) pa_nil)) (nomark _)) (pw_or1 (pt_cmpR (op_neD hu) (pv 1) (pv 0) (nomark _))))))
          (pss_one (ps_ret pe_bl)) pss_nil)
        (pss_cons (ps_expr (pe_bm PySem.F.plainAttrs_list PySem.F.slot_list_append PySem.F.type_list_append mt_append (pv 3) (pa_cons (pe_op op_pow pe_int pe_int) pa_nil)))
        (pss_one (ps_if (pt_cmpR (op_neD hu) (pv 1) (pv 0) (nomark _)) (pss_one (ps_ret pe_bl)) pss_nil))))))
      (pss_one (ps_ret pe_bl))), ?_⟩
    refine ⟨.ref a, rfl, a, _, rfl, .inl ha, fun l nl => ?_⟩
    have s0 : Same H (upd H l (.lst (ns.map V.int))) := same_new nl
    refine ⟨2, rfl, by decide, by decide, for_range (lo := 0) (n := 2) (fun i σ H' => ∃ y2 y3, σ = [some (.ref a), some (.ref l), y2, y3] ∧ Same (upd H l (.lst (ns.map V.int))) H') ⟨none, none, rfl, Same.refl _⟩ ?_ ?_⟩
    · rintro i σ H' _ ⟨y2, y3, rfl, s1⟩
      have el : SqL K H' l (ns.map V.int) := s1.seq (sl_map upd_same)
      refine ⟨.ref l, rfl, l, ns, rfl, el, by omega, fun H2 t ms s2 nt et so mem len => ?_⟩
      refine ⟨.ref t, rfl, t, ms, rfl, et, so, by omega, fun H3 s3 => ⟨true, rfl, iteF ?_⟩⟩
      have a3 : SqL K H3 a (ns.map V.int) := ((s0.trans s1).trans (s2.trans s3)).seq ha
      refine ⟨.ref t, rfl, .ref a, rfl, a, ns, rfl, a3, by omega, fun H4 r ks s4 nr er so2 mem2 len2 => ?_⟩
      have e : ks = ms := srt_ext so2 so fun k => (mem2 k).trans (mem k).symm
      subst e
      have s24 : Same H2 H4 := s3.trans s4
      refine ⟨_, _, dpI (sl_map (s24 _ _ et)), dpI (sl_map er), shI _, shI _, _, rfl, ?_⟩
      rw [eqI]
      refine iteF ?_
      have l4 : SqL K H4 l (ns.map V.int) := (s2.trans s24).seq el
      have a4 : SqL K H4 a (ns.map V.int) := s4.seq a3
      refine ⟨.ref l, rfl, .ref a, rfl, _, _, dpI l4, dpI a4, shI _, shI _, _, rfl, ?_⟩
      rw [eqI]
      refine iteF ?_
      have t4 := s24 _ _ et
      have ntl : H' t = none := nt
      refine ⟨.ref t, rfl, .inl ⟨rfl, _, sl_map t4⟩, 10, 13, rfl, rfl, ⟨by decide, by decide, by decide⟩, t, _, _, rfl, rfl, t4, ?_, ?_⟩
      · rw [List.length_map]
        exact small1000 (by omega)
      · have s5 : Same H' (upd H4 t (.lst (ks.map V.int ++ [.int (10 ^ (13 : Int).toNat)]))) := same_at (s2.trans s24) nt
        refine ⟨.ref l, rfl, .ref a, rfl, _, _, dpI (s5.seq el), dpI (((s0.trans s1).trans s5).seq ha), shI _, shI _, _, rfl, ?_⟩
        rw [eqI]
        exact iteF ⟨_, _, rfl, s1.trans s5⟩
    · rintro σ H' ⟨y2, y3, rfl, s1⟩
      exact q _ (s0.trans s1)
end
end K1

set_option Elab.async false
set_option linter.all false
set_option maxRecDepth 100000
set_option maxHeartbeats 2000000
namespace K1
open PySem PySem.Spec PyProof.Rows L2 Cs
/-- v in ks, as the model asks it -/
theorem in_ints (ks : List Int) (v : Int) : inV (.int v) (ks.map V.int) = decide (v ∈ ks) := by
  unfold inV
  induction ks with
  | nil => simp
  | cons k ks ih =>
    rw [List.map_cons, List.any_cons, ih]
    have e : eqV (.int k) (.int v) = decide (k = v) := by
      by_cases c : k = v
      · subst c; simp [eqV]
      · simp [eqV, c]
    rw [e]
    by_cases c : k = v
    · subst c; simp
    · have c2 : ¬ v = k := fun z => c z.symm
      simp [c, c2]
theorem flat_ints (ks : List Int) : (ks.map V.int).all flatV = true := by
  rw [List.all_map]
  exact List.all_eq_true.mpr fun _ _ => rfl
section
variable {P : Program} {w : World} {K : PySem.W.Frag} {mg : Str → Option Value} {base : Heap}
abbrev sBoth : Stmt := topS 16
abbrev nBoth : List Str := ["_law_one", "_law_other", "_law_passed", "_law_lacking", "_law_due", "_law_turn", "_law_told", "_law_k", "_law_within", "_law_value"]
theorem scBoth : FnScope nBoth ["_law_one", "_law_other"] (defScope sBoth) := ⟨rfl, rfl, rfl, by decide +kernel, rfl, by decide +kernel, by decide +kernel⟩
def spBoth (K : PySem.W.Frag) : Sp := fun vs H Q _ => ∃ (a b : Addr) (ns ks : List Int), vs = [.ref a, .ref b] ∧ H a = some (.lst (ns.map V.int)) ∧ H b = some (.lst (ks.map V.int)) ∧ Srt ns ∧ Srt ks ∧ ns.length ≤ 28 ∧ ks.length ≤ 28 ∧ ∀ H', Same H H' → Q (.bl true) H'
/-- heaps that differ at some new places alone -/
def But (ts : List Addr) (H H' : Hp) : Prop := ∀ b o, b ∉ ts → H b = some o → H' b = some o
theorem But.same {ts : List Addr} {H H1 H2 : Hp} (s : Same H H1) (n : ∀ t ∈ ts, H t = none) (b : But ts H1 H2) : Same H H2 := fun x o e => b x o (fun z => by rw [n x z] at e; cases e) (s x o e)
theorem srt_filter {ns : List Int} (p : Int → Bool) (s : Srt ns) : Srt (ns.filter p) := List.Pairwise.filter p s
theorem filt_len {ns : List Int} (p : Int → Bool) : (ns.filter p).length ≤ ns.length := List.length_filter_le p ns
/-- one turn of a comprehension over ints that keeps some -/
theorem filt_snoc {ns : List Int} {p : Int → Bool} {i : Nat} {v : Int} (hv : ns[i]? = some v) : (ns.take (i + 1)).filter p = (ns.take i).filter p ++ (if p v = true then [v] else []) := by
  rw [List.take_add_one, hv, List.filter_append]
  congr 1
  by_cases c : p v = true
  · simp [c]
  · simp [c]
end
end K1

set_option Elab.async false
set_option linter.all false
set_option maxRecDepth 100000
set_option maxHeartbeats 4000000
namespace K1
open PySem PySem.Spec PyProof.Rows L2 Cs
section
variable {P : Program} {w : World} {K : PySem.W.Frag} {mg : Str → Option Value} {base : Heap}
theorem ne_some {H : Hp} {p q : Addr} {o : HO} (h : H p = some o) (n : H q = none) : p ≠ q := fun e => by rw [e, n] at h; cases h
theorem ok_both {f fC fU fW fN fI fL : Addr} {fd fdC fdU fdW fdN fdI fdL : FuncData} (F : Fun K "_law_both" "_law_both" sBoth f fd) (B : Bt mg)
    (C : Call P w K mg base 1 "common" fC fdC ["first", "second"] (spTwo K fun ns ks k => k ∈ ns ∧ k ∈ ks)) (U : Call P w K mg base 1 "united" fU fdU ["first", "second"] (spTwo K fun ns ks k => k ∈ ns ∨ k ∈ ks))
    (W : Call P w K mg base 1 "without" fW fdW ["first", "second"] (spTwo K fun ns ks k => k ∈ ns ∧ k ∉ ks)) (N : Call P w K mg base 1 "is_within" fN fdN ["first", "second"] (spWithin K))
    (I : Call P w K mg base 2 "_law_is_side" fI fdI ["_law_actual"] spIsSide) (L : Call P w K mg base 1 "_law_side" fL fdL ["_law_values_here"] (spSide K)) :
    FnOk P w K mg base CX0 3 f fd ["_law_one", "_law_other"] (spBoth K) := by
  refine F.ok scBoth (fun vs H Q E h => ?_) (fun cdv A outer s H vs Q E hr h => ?_)
  · obtain ⟨a, b, ns, ks, rfl, _⟩ := h
    rfl
  · obtain ⟨a, b, ns, ks, rfl, ha, hb, sn, sk, ln, lk, q⟩ := h
    have hr1 : Room 1 (A.deeper (envOfC "_law_both" (defScope sBoth) s.heap.objs.size f cdv)) := hr.mono (by decide)
    have hu : (A.deeper (envOfC "_law_both" (defScope sBoth) s.heap.objs.size f cdv)).units + 64 < cLine := by have := hr.un; omega
    have nd := scBoth.nd
    refine ⟨_, pss_cons (ps_set (i := 2) nd rfl (.inl rfl) (pe_lst (pa_cons (pe_callTy call_list_of (by rfl) B.list PyProof.Rows.boot_list (pa_cons (pv 0) pa_nil)) (pa_cons (pe_callTy call_list_of (by rfl) B.list PyProof.Rows.boot_list (pa_cons (pv 1) pa_nil)) pa_nil))))
      (pss_cons (ps_setLc (i := 3) (own := [("_law_value", 9)]) (g := gName 9) (te := tVar 9) rfl nd rfl rfl (sw_true rfl rfl rfl (by decide +kernel)) (pi_list (pv 0)) (blkOk_by (N := nBoth) (sc := defScope sBoth) (by decide +kernel)) (fun _ _ _ _ _ => pg_name (i := 9) nd rfl (Or.inl rfl))
          (fun _ _ _ _ _ => pts_one (pt_cmpR (r := rIn K true) op_notIn_seq (pv 9) (pv 1) rfl)) (fun _ _ _ _ _ => pv 9))
      (pss_cons (ps_set (i := 4) nd rfl (.inl rfl) (pe_lst (pa_cons
          (pe_lc (own := [("_law_value", 9)]) (g := gName 9) (te := tVar 9) rfl nd (pi_list (pv 0)) (blkOk_by (N := nBoth) (sc := defScope sBoth) (by decide +kernel)) (fun _ _ _ _ _ => pg_name (i := 9) nd rfl (Or.inl rfl))
            (fun _ _ _ _ _ => pts_one (pt_cmpR (r := rIn K false) op_in_seq (pv 9) (pv 1) rfl)) (fun _ _ _ _ _ => pv 9))
          (pa_cons (pe_call L.ok hr1 (by rfl) L.at_ L.kp L.bd .nil pass0 (pa_cons (pe_op op_cat (pv 0) (pv 1)) pa_nil)) (pa_cons (pv 3) pa_nil)))))
      (pss_cons (ps_for PassesOwn.never rfl (pi_range1 (by rfl) B.range (pa_cons pe_int pa_nil)) (pg_name (i := 5) nd rfl (.inl rfl))
        (pss_cons (ps_set (i := 6) nd rfl (.inl rfl) (pe_lst (pa_cons
            (pe_call C.ok hr1 (by rfl) C.at_ C.kp C.bd .nil pass0 (pa_cons (pe_ix ix_list (pv 2) pe_int (fun _ _ => rfl)) (pa_cons (pe_ix ix_list (pv 2) pe_int (fun _ _ => rfl)) pa_nil))) (pa_cons
            (pe_call U.ok hr1 (by rfl) U.at_ U.kp U.bd .nil pass0 (pa_cons (pe_ix ix_list (pv 2) pe_int (fun _ _ => rfl)) (pa_cons (pe_ix ix_list (pv 2) pe_int (fun _ _ => rfl)) pa_nil))) (pa_cons
            (pe_call W.ok hr1 (by rfl) W.at_ W.kp W.bd .nil pass0 (pa_cons (pe_ix ix_list (pv 2) pe_int (fun _ _ => rfl)) (pa_cons (pe_ix ix_list (pv 2) pe_int (fun _ _ => rfl)) pa_nil))) pa_nil)))))
        (pss_cons (ps_for PassesOwn.never rfl (pi_range1 (by rfl) B.range (pa_cons pe_int pa_nil)) (pg_name (i := 7) nd rfl (.inl rfl))
          (pss_cons (ps_if (PW.pt (pw_or (pt_not (pt_val (pe_call I.ok hr (by rfl) I.at_ I.kp I.bd .nil pass0 (pa_cons (pe_ix ix_list (pv 6) (pv 7) (fun _ _ => rfl)) pa_nil))))
              (pw_or1 (pt_cmpR (op_neD hu) (pe_ix ix_list (pv 6) (pv 7) (fun _ _ => rfl)) (pe_ix ix_list (pv 4) (pv 7) (fun _ _ => rfl)) (nomark _))))) (pss_one (ps_ret pe_bl)) pss_nil)
          (pss_one (ps_expr (pe_bm PySem.F.plainAttrs_list PySem.F.slot_list_append PySem.F.type_list_append mt_append (pe_ix ix_list (pv 6) (pv 7) (fun _ _ => rfl)) (pa_cons (pe_op op_pow pe_int pe_int) pa_nil))))))
        (pss_cons (ps_set (i := 8) nd rfl (.inl rfl) (pe_call N.ok hr1 (by rfl) N.at_ N.kp N.bd .nil pass0 (pa_cons (pe_ix ix_list (pv 2) pe_int (fun _ _ => rfl)) (pa_cons (pe_ix ix_list (pv 2) pe_int (fun _ _ => rfl)) pa_nil))))
        (pss_one (ps_if (PW.pt (pw_or (pt_not (pt_val (pe_callB call_isi (by rfl) B.isi PyProof.Rows.boot_isinstance (pa_cons (pv 8) (pa_cons (pe_bltn (by rfl) B.bool PyProof.Rows.boot_bool (v := .ty "bool") rfl) pa_nil)))))
            (pw_or (pt_cmpR op_ne (pv 8) (pe_cmpR op_eq (pe_callB call_len_seq (by rfl) B.len PySem.boot_len (pa_cons (pv 3) pa_nil)) pe_int (nomark _)) (nomark _))
            (pw_or1 (pt_cmpR (op_neD hu) (pv 2) (pe_lst (pa_cons (pv 0) (pa_cons (pv 1) pa_nil))) (nomark _))))))
          (pss_one (ps_ret pe_bl)) pss_nil))))))
      (pss_one (ps_ret pe_bl))))), ?_⟩
    -- passed
    refine ⟨.ref a, rfl, a, _, rfl, .inl (sl_map ha), fun l1 n1 => ?_⟩
    have s1 : Same H (upd H l1 (.lst (ns.map V.int))) := same_new n1
    refine ⟨.ref b, rfl, b, _, rfl, .inl (sl_map (s1 _ _ hb)), fun l2 n2 => ⟨by show 2 ≤ sizeLine; decide, fun ps n3 => ?_⟩⟩
    have s2 := same_new (o := HO.lst (ks.map V.int)) n2
    have s3 := same_new (o := HO.lst [V.ref l1, V.ref l2]) n3
    have e1 := (s2.trans s3) _ _ (upd_same (H := H) (a := l1) (o := HO.lst (ns.map V.int)))
    have e2 := s3 _ _ (upd_same (H := upd H l1 (.lst (ns.map V.int))) (a := l2) (o := HO.lst (ks.map V.int)))
    have e3 := upd_same (H := upd (upd H l1 (.lst (ns.map V.int))) l2 (.lst (ks.map V.int))) (a := ps) (o := HO.lst [V.ref l1, V.ref l2])
    have s13 := s1.trans (s2.trans s3)
    revert e1 e2 e3 s13
    generalize upd (upd (upd H l1 (.lst (ns.map V.int))) l2 (.lst (ks.map V.int))) ps (.lst [V.ref l1, V.ref l2]) = H1
    intro e1 e2 e3 s13
    have a1 := s13 _ _ ha
    have b1 := s13 _ _ hb
    -- lacking
    refine ⟨.ref a, rfl, a, rfl, ⟨_, sl_map a1⟩, fun D nD => lc_list (xs := ns.map V.int) (fun i H' => Same H1 H' ∧ H' D = some (.lst (((ns.take i).filter (fun v => decide (v ∉ ks))).map V.int))) ⟨same_new nD, upd_same⟩ (fun i H' _ h => h.1.seq (sl_map a1)) ?_ ?_⟩
    · rintro i x H' hx ⟨sm, eD⟩
      rw [List.getElem?_map] at hx
      obtain ⟨v, hv, rfl⟩ := Option.map_eq_some_iff.mp hx
      have hi := (List.getElem?_eq_some_iff.mp hv).1
      refine ⟨rfl, .int v, rfl, .ref b, rfl, b, _, rfl, .inl (sl_map (sm _ _ b1)), rfl, flat_ints ks, _, rfl, ?_⟩
      rw [in_ints, filt_snoc hv]
      by_cases c : v ∈ ks
      · rw [decide_eq_true c]
        refine iteF ⟨sm, ?_⟩
        rw [eD]
        simp [c]
      · rw [decide_eq_false c]
        refine iteT ⟨.int v, rfl, _, eD, ?_, same_at sm nD, ?_⟩
        · rw [List.length_map]
          have := filt_len (ns := ns.take i) (fun v => decide (v ∉ ks))
          rw [List.length_take] at this
          exact small1000 (by omega)
        · rw [upd_same, List.map_append]
          simp [c]
    rintro H2 ⟨s12, eD⟩
    rw [List.length_map, List.take_length] at eD
    have a2 := s12 _ _ a1
    have b2 := s12 _ _ b1
    -- due
    refine ⟨.ref a, rfl, a, rfl, ⟨_, sl_map a2⟩, fun D2 nD2 => lc_list (xs := ns.map V.int) (fun i H' => Same H2 H' ∧ H' D2 = some (.lst (((ns.take i).filter (fun v => decide (v ∈ ks))).map V.int))) ⟨same_new nD2, upd_same⟩ (fun i H' _ h => h.1.seq (sl_map a2)) ?_ ?_⟩
    · rintro i x H' hx ⟨sm, eD'⟩
      rw [List.getElem?_map] at hx
      obtain ⟨v, hv, rfl⟩ := Option.map_eq_some_iff.mp hx
      have hi := (List.getElem?_eq_some_iff.mp hv).1
      refine ⟨rfl, .int v, rfl, .ref b, rfl, b, _, rfl, .inl (sl_map (sm _ _ b2)), rfl, flat_ints ks, _, rfl, ?_⟩
      rw [in_ints, filt_snoc hv]
      by_cases c : v ∈ ks
      · rw [decide_eq_true c]
        refine iteT ⟨.int v, rfl, _, eD', ?_, same_at sm nD2, ?_⟩
        · rw [List.length_map]
          have := filt_len (ns := ns.take i) (fun v => decide (v ∈ ks))
          rw [List.length_take] at this
          exact small1000 (by omega)
        · rw [upd_same, List.map_append]
          simp [c]
      · rw [decide_eq_false c]
        refine iteF ⟨sm, ?_⟩
        rw [eD']
        simp [c]
    rintro H3 ⟨s23, eD2⟩
    rw [List.length_map, List.take_length] at eD2
    have a3 := s23 _ _ a2
    have b3 := s23 _ _ b2
    refine ⟨.ref a, rfl, .ref b, rfl, a, b, _, _, rfl, rfl, a3, b3, ?_, fun c nc => ?_⟩
    · rw [List.length_map, List.length_map]
      exact Nat.le_of_lt (small1000 (by omega))
    refine ⟨c, ns ++ ks, rfl, sl_map (by rw [upd_same, List.map_append]), by rw [List.length_append]; omega, fun H5 d1 us s5 nd1 ed1 sou memu lenu => ?_⟩
    have s35 : Same H3 H5 := (same_new nc).trans s5
    refine ⟨.ref D, rfl, by show 3 ≤ sizeLine; decide, fun due ndue => ?_⟩
    have s56 := same_new (o := HO.lst [V.ref D2, V.ref d1, V.ref D]) ndue
    have g1 : ∀ {x : Addr} {o : HO}, H1 x = some o → (upd H5 due (.lst [V.ref D2, V.ref d1, V.ref D])) x = some o := fun e => s56 _ _ (s35 _ _ (s23 _ _ (s12 _ _ e)))
    have f1 := g1 e1
    have f2 := g1 e2
    have f3 := g1 e3
    have fa := g1 a1
    have fb := g1 b1
    have fD := s56 _ _ (s35 _ _ (s23 _ _ eD))
    have fD2 := s56 _ _ (s35 _ _ eD2)
    have fd1 := s56 _ _ ed1
    have fdue := upd_same (H := H5) (a := due) (o := HO.lst [V.ref D2, V.ref d1, V.ref D])
    have sH : Same H (upd H5 due (.lst [V.ref D2, V.ref d1, V.ref D])) := s13.trans (s12.trans (s23.trans (s35.trans s56)))
    revert f1 f2 f3 fa fb fD fD2 fd1 fdue sH
    clear g1 s56
    generalize upd H5 due (.lst [V.ref D2, V.ref d1, V.ref D]) = G
    intro f1 f2 f3 fa fb fD fD2 fd1 fdue sH
    have q0 : ∀ {H' : Hp}, Same G H' → SqL K H' ps [V.ref l1, V.ref l2] := fun z => sl_map (z _ _ f3)
    have p0 : atI [V.ref l1, V.ref l2] (0 : Int) = some (V.ref l1) := atI_nat (j := 0) rfl
    have p1 : atI [V.ref l1, V.ref l2] (1 : Int) = some (V.ref l2) := atI_nat (j := 1) rfl
    have kD2 : Srt (ns.filter (fun v => decide (v ∈ ks))) := srt_filter _ sn
    have kD : Srt (ns.filter (fun v => decide (v ∉ ks))) := srt_filter _ sn
    refine ⟨2, rfl, by decide, by decide, for_range (lo := 0) (n := 2) (fun i σ H' => ∃ y5 y6 y7 y8 y9, σ = [some (.ref a), some (.ref b), some (.ref ps), some (.ref D), some (.ref due), y5, y6, y7, y8, y9] ∧ Same G H') ⟨none, none, none, none, none, rfl, Same.refl _⟩ ?_ ?_⟩
    · rintro i σ H' _ ⟨y5, y6, y7, y8, y9, rfl, sm⟩
      refine ⟨.ref ps, rfl, ps, _, 0, _, rfl, rfl, q0 sm, p0, .ref ps, rfl, ps, _, 1, _, rfl, rfl, q0 sm, p1, l1, l2, ns, ks, rfl, sl_map (sm _ _ f1), sl_map (sm _ _ f2), by omega, by omega, fun G1 t0 m0 h1 nt0 et0 so0 me0 le0 => ?_⟩
      have sm1 := sm.trans h1
      refine ⟨.ref ps, rfl, ps, _, 0, _, rfl, rfl, q0 sm1, p0, .ref ps, rfl, ps, _, 1, _, rfl, rfl, q0 sm1, p1, l1, l2, ns, ks, rfl, sl_map (sm1 _ _ f1), sl_map (sm1 _ _ f2), by omega, by omega, fun G2 t1 m1 h2 nt1 et1 so1 me1 le1 => ?_⟩
      have sm2 := sm1.trans h2
      refine ⟨.ref ps, rfl, ps, _, 0, _, rfl, rfl, q0 sm2, p0, .ref ps, rfl, ps, _, 1, _, rfl, rfl, q0 sm2, p1, l1, l2, ns, ks, rfl, sl_map (sm2 _ _ f1), sl_map (sm2 _ _ f2), by omega, by omega, fun G3 t2 m2 h3 nt2 et2 so2 me2 le2 => ?_⟩
      have sm3 := sm2.trans h3
      refine ⟨by show 3 ≤ sizeLine; decide, fun told ntd => ?_⟩
      have h4 := same_new (o := HO.lst [V.ref t0, V.ref t1, V.ref t2]) ntd
      have sm4 := sm3.trans h4
      -- which stand apart
      have x10 : t1 ≠ t0 := fun e => by rw [e, et0] at nt1; cases nt1
      have x20 : t2 ≠ t0 := fun e => by rw [e, h2 _ _ et0] at nt2; cases nt2
      have x21 : t2 ≠ t1 := fun e => by rw [e, et1] at nt2; cases nt2
      have xt0 : told ≠ t0 := fun e => by rw [e, h3 _ _ (h2 _ _ et0)] at ntd; cases ntd
      have xt1 : told ≠ t1 := fun e => by rw [e, h3 _ _ et1] at ntd; cases ntd
      have xt2 : told ≠ t2 := fun e => by rw [e, et2] at ntd; cases ntd
      have nt1' : H' t1 = none := h1.free nt1
      have nt2' : H' t2 = none := h1.free (h2.free nt2)
      have z0 := (h2.trans (h3.trans h4)) _ _ et0
      have z1 := (h3.trans h4) _ _ et1
      have z2 := h4 _ _ et2
      have ztd := upd_same (H := G3) (a := told) (o := HO.lst [V.ref t0, V.ref t1, V.ref t2])
      have i0 : m0 = ns.filter (fun v => decide (v ∈ ks)) := srt_ext so0 kD2 fun k => (me0 k).trans (by simp)
      have i1 : m1 = us := srt_ext so1 sou fun k => (me1 k).trans ((memu k).trans List.mem_append).symm
      have i2 : m2 = ns.filter (fun v => decide (v ∉ ks)) := srt_ext so2 kD fun k => (me2 k).trans (by simp)
      have sH' : Same H' (upd G3 told (.lst [V.ref t0, V.ref t1, V.ref t2])) := h1.trans (h2.trans (h3.trans h4))
      revert z0 z1 z2 ztd sm4 sH'
      clear h4
      generalize upd G3 told (.lst [V.ref t0, V.ref t1, V.ref t2]) = G4
      intro sm4 z0 z1 z2 ztd sH'
      subst i0 i1 i2
      have out : ∀ {x : Addr} {o : HO}, G x = some o → x ∉ [t0, t1, t2] := fun {x o} e => by
        have e' := sm _ _ e
        intro hx
        simp only [List.mem_cons, List.not_mem_nil, or_false] at hx
        rcases hx with z | z | z
        · rw [z, nt0] at e'; cases e'
        · rw [z, nt1'] at e'; cases e'
        · rw [z, nt2'] at e'; cases e'
      have xtd : told ∉ [t0, t1, t2] := by simp [xt0, xt1, xt2]
      have facts : ∀ k : Nat, k < 3 → ∃ (t d : Addr) (m : List Int), [V.ref t0, V.ref t1, V.ref t2][k]? = some (.ref t) ∧ [V.ref D2, V.ref d1, V.ref D][k]? = some (.ref d) ∧ [t0, t1, t2].take (k + 1) = [t0, t1, t2].take k ++ [t] ∧ t ∉ [t0, t1, t2].take k ∧
          G4 t = some (.lst (m.map V.int)) ∧ G d = some (.lst (m.map V.int)) ∧ Srt m ∧ m.length ≤ 63 := fun k hk => by
        match k, hk with
        | 0, _ => exact ⟨t0, D2, _, rfl, rfl, rfl, by simp, z0, fD2, so0, le0⟩
        | 1, _ => exact ⟨t1, d1, _, rfl, rfl, rfl, by simp [x10], z1, fd1, so1, le1⟩
        | 2, _ => exact ⟨t2, D, _, rfl, rfl, rfl, by simp [x20, x21], z2, fD, so2, le2⟩
      refine ⟨3, rfl, by decide, by decide, for_range (lo := 0) (n := 3) (fun k σ H'' => ∃ y7 y8 y9, σ = [some (.ref a), some (.ref b), some (.ref ps), some (.ref D), some (.ref due), some (.int (0 + (i : Int))), some (.ref told), y7, y8, y9] ∧ But ([t0, t1, t2].take k) G4 H'') ⟨y7, y8, y9, rfl, fun _ _ _ e => e⟩ ?_ ?_⟩
      · rintro k σ H'' hk ⟨y7, y8, y9, rfl, bt⟩
        obtain ⟨t, d, m, u1, u2, u3, u4, u5, u6, u7, u8⟩ := facts k hk
        have sub : ∀ x, x ∉ [t0, t1, t2] → x ∉ [t0, t1, t2].take k := fun x hx z => hx (List.mem_of_mem_take z)
        have v1 : H'' told = some (.lst [V.ref t0, V.ref t1, V.ref t2]) := bt _ _ (sub _ xtd) ztd
        have v2 : H'' t = some (.lst (m.map V.int)) := bt _ _ u4 u5
        have v3 : H'' due = some (.lst [V.ref D2, V.ref d1, V.ref D]) := bt _ _ (sub _ (out fdue)) (sm4 _ _ fdue)
        have v4 : H'' d = some (.lst (m.map V.int)) := bt _ _ (sub _ (out u6)) (sm4 _ _ u6)
        have w1 : atI [V.ref t0, V.ref t1, V.ref t2] (0 + (k : Int)) = some (.ref t) := at_of (by omega) u1
        have w2 : atI [V.ref D2, V.ref d1, V.ref D] (0 + (k : Int)) = some (.ref d) := at_of (by omega) u2
        refine ⟨.ref told, rfl, _, rfl, told, _, _, _, rfl, rfl, sl_map v1, w1, t, m, rfl, v2, u7, by omega, fun G5 s5 => ⟨true, rfl, iteF ?_⟩⟩
        refine ⟨.ref told, rfl, _, rfl, told, _, _, _, rfl, rfl, sl_map (s5 _ _ v1), w1, .ref due, rfl, _, rfl, due, _, _, _, rfl, rfl, sl_map (s5 _ _ v3), w2, _, _, dpI (sl_map (s5 _ _ v2)), dpI (sl_map (s5 _ _ v4)), shI _, shI _, _, rfl, ?_⟩
        rw [eqI]
        refine iteF ?_
        refine ⟨.ref told, rfl, _, rfl, told, _, _, _, rfl, rfl, sl_map (s5 _ _ v1), w1, .inl ⟨rfl, _, sl_map (s5 _ _ v2)⟩, 10, 13, rfl, rfl, ⟨by decide, by decide, by decide⟩, t, _, _, rfl, rfl, s5 _ _ v2, ?_, ?_⟩
        · rw [List.length_map]
          exact small1000 (by omega)
        · refine ⟨_, _, _, rfl, fun x o hx e => ?_⟩
          rw [u3, List.mem_append, List.mem_singleton, not_or] at hx
          rw [upd_ne hx.2]
          exact s5 _ _ (bt _ _ hx.1 e)
      · rintro σ H'' ⟨y7, y8, y9, rfl, bt⟩
        have sE : Same H' H'' := But.same (ts := [t0, t1, t2]) sH' (fun t ht => by
          simp only [List.mem_cons, List.not_mem_nil, or_false] at ht
          rcases ht with z | z | z
          · rw [z]; exact nt0
          · rw [z]; exact nt1'
          · rw [z]; exact nt2') bt
        have sG := sm.trans sE
        refine ⟨.ref ps, rfl, ps, _, 0, _, rfl, rfl, q0 sG, p0, .ref ps, rfl, ps, _, 1, _, rfl, rfl, q0 sG, p1, l1, l2, ns, ks, rfl, sl_map (sG _ _ f1), sl_map (sG _ _ f2), by omega, by omega, fun G6 cc s6 hcc => ?_⟩
        have sG6 := sG.trans s6
        refine ⟨.bl cc, rfl, .bl cc, .ty "bool", .type "bool", .type "bool", true, rfl, .ty _, .base (.bl cc), kit_ty (by decide +kernel), true, rfl, iteF ?_⟩
        refine ⟨.bl cc, rfl, .ref D, rfl, D, _, rfl, .inl (sl_map (sG6 _ _ fD)), rfl, rfl, _, rfl, ?_⟩
        have ec : decide (V.bl cc = V.bl (decide (V.int ((((ns.filter (fun v => decide (v ∉ ks))).map V.int).length : Nat) : Int) = V.int 0))) = true := by
          rw [decide_eq_true_iff]
          refine congrArg V.bl ?_
          rw [List.length_map]
          have e0 : (V.int (((ns.filter (fun v => decide (v ∉ ks))).length : Nat) : Int) = V.int 0) ↔ ∀ k ∈ ns, k ∈ ks := by
            constructor
            · intro e k hk
              have z := V.int.inj e
              have z2 : (ns.filter (fun v => decide (v ∉ ks))) = [] := List.length_eq_zero_iff.mp (by omega)
              by_cases c : k ∈ ks
              · exact c
              · have : k ∈ ns.filter (fun v => decide (v ∉ ks)) := List.mem_filter.mpr ⟨hk, by simpa using c⟩
                rw [z2] at this
                cases this
            · intro e
              have z2 : (ns.filter (fun v => decide (v ∉ ks))) = [] := by
                rw [List.filter_eq_nil_iff]
                intro k hk
                simpa using e k hk
              rw [z2]
              rfl
          cases cc with
          | true => exact (decide_eq_true (e0.2 (hcc.1 rfl))).symm
          | false =>
            refine (decide_eq_false fun z => ?_).symm
            exact absurd (hcc.2 (e0.1 z)) (by simp)
        rw [ec]
        refine iteF ?_
        refine ⟨.ref ps, rfl, .ref a, rfl, .ref b, rfl, by show 2 ≤ sizeLine; decide, fun z nz => ?_⟩
        have s7 := sG6.trans (same_new (o := HO.lst [V.ref a, V.ref b]) nz)
        refine ⟨.list [dI ns, dI ks], .list [dI ns, dI ks], .lst (q0 s7) (.cons (dpI (sl_map (s7 _ _ f1))) (.cons (dpI (sl_map (s7 _ _ f2))) .nil)), .lst (sl_map upd_same) (.cons (dpI (sl_map (s7 _ _ fa))) (.cons (dpI (sl_map (s7 _ _ fb))) .nil)), sh2 _ _, sh2 _ _, _, rfl, ?_⟩
        rw [eq2]
        exact iteF ⟨_, _, _, _, _, rfl, s7⟩
    · rintro σ H' ⟨y5, y6, y7, y8, y9, rfl, sm⟩
      exact q _ (sH.trans sm)
end
end K1

set_option Elab.async false
set_option linter.all false
set_option maxRecDepth 100000
set_option maxHeartbeats 4000000
namespace K1
open PySem PySem.Spec PyProof.Rows L2 Cs
section
variable {P : Program} {w : World} {K : PySem.W.Frag} {mg : Str → Option Value} {base : Heap}
abbrev sFoll : Stmt := topS 17
abbrev nFoll : List Str := ["_law_side_here", "_law_more", "_law_passed", "_law_probes", "_law_value", "_law_probe", "_law_told", "_law_due"]
theorem scFoll : FnScope nFoll ["_law_side_here", "_law_more"] (defScope sFoll) := ⟨rfl, rfl, rfl, by decide +kernel, rfl, by decide +kernel, by decide +kernel⟩
def spFoll (K : PySem.W.Frag) : Sp := fun vs H Q _ => ∃ (a : Addr) (ns : List Int) (z : Int), vs = [.ref a, .int z] ∧ H a = some (.lst (ns.map V.int)) ∧ ns.length ≤ 63 ∧ ∀ H', Same H H' → Q (.bl true) H'
theorem find_filter (ns : List Int) (p : Int → Bool) : ns.find? p = (ns.filter p).head? := by
  induction ns with
  | nil => rfl
  | cons n ns ih =>
    rw [List.find?_cons, List.filter_cons]
    cases p n with
    | true => rfl
    | false => exact ih
theorem ok_foll {f fN fI : Addr} {fd fdN fdI : FuncData} (F : Fun K "_law_followed" "_law_followed" sFoll f fd) (B : Bt mg) (N : Call P w K mg base 1 "next_value" fN fdN ["side", "least"] (spNext K))
    (I : Call P w K mg base 1 "_law_is_integer" fI fdI ["_law_actual"] spIsInt) : FnOk P w K mg base CX0 2 f fd ["_law_side_here", "_law_more"] (spFoll K) := by
  refine F.ok scFoll (fun vs H Q E h => ?_) (fun cdv A outer s H vs Q E hr h => ?_)
  · obtain ⟨a, ns, z, rfl, _⟩ := h
    rfl
  · obtain ⟨a, ns, z, rfl, ha, ln, q⟩ := h
    have hu : (A.deeper (envOfC "_law_followed" (defScope sFoll) s.heap.objs.size f cdv)).units + 64 < cLine := by have := hr.un; omega
    have nd := scFoll.nd
    refine ⟨_, pss_cons (ps_set (i := 2) nd rfl (.inl rfl) (pe_callTy call_list_of (by rfl) B.list PyProof.Rows.boot_list (pa_cons (pv 0) pa_nil)))
      (pss_cons (ps_set (i := 3) nd rfl (.inl rfl) (pe_lst (pa_cons (pv 1) (pa_cons pe_int (pa_cons (pe_un un_neg (pe_op op_pow pe_int pe_int)) (pa_cons (pe_op op_pow pe_int pe_int) pa_nil))))))
      (pss_cons (ps_for PassesOwn.never rfl (pi_list (pv 0)) (pg_name (i := 4) nd rfl (.inl rfl))
        (pss_one (ps_set (i := 3) nd rfl (.inl rfl) (pe_op op_cat (pv 3) (pe_lst (pa_cons (pe_op op_sub (pv 4) pe_int) (pa_cons (pv 4) (pa_cons (pe_op op_add (pv 4) pe_int) pa_nil))))))))
      (pss_cons (ps_for PassesOwn.never rfl (pi_list (pv 3)) (pg_name (i := 5) nd rfl (.inr rfl))
        (pss_cons (ps_set (i := 6) nd rfl (.inl rfl) (pe_call N.ok hr (by rfl) N.at_ N.kp N.bd .nil pass0 (pa_cons (pv 2) (pa_cons (pv 5) pa_nil))))
        (pss_cons (ps_setLc (i := 7) (own := [("_law_value", 4)]) (g := gName 4) (te := tVar 4) rfl nd rfl rfl (sw_true rfl rfl rfl (by decide +kernel)) (pi_list (pv 0)) (blkOk_by (N := nFoll) (sc := defScope sFoll) (by decide +kernel)) (fun _ _ _ _ _ => pg_name (i := 4) nd rfl (Or.inl rfl))
          (fun _ _ _ _ _ => pts_one (pt_cmpR op_ge (pv 4) (pv 5) (nomark _))) (fun _ _ _ _ _ => pv 4))
        (pss_cons (ps_if (PW.pt (pw_and (pt_cmpR op_eq (pe_callB call_len_seq (by rfl) B.len PySem.boot_len (pa_cons (pv 7) pa_nil)) pe_int (nomark _)) (pw_and1 (pt_cmpR op_notN (pv 6) pe_non rfl)))) (pss_one (ps_ret pe_bl)) pss_nil)
        (pss_one (ps_if (PW.pt (pw_and (pt_cmpR op_gt (pe_callB call_len_seq (by rfl) B.len PySem.boot_len (pa_cons (pv 7) pa_nil)) pe_int (nomark _))
            (pw_and1 (PW.pt (pw_or (pt_not (pt_val (pe_call I.ok hr (by rfl) I.at_ I.kp I.bd .nil pass0 (pa_cons (pv 6) pa_nil)))) (pw_or1 (pt_cmpR op_ne (pv 6) (pe_ix ix_list (pv 7) pe_int (fun _ _ => rfl)) (nomark _)))))))) (pss_one (ps_ret pe_bl)) pss_nil))))))
      (pss_one (ps_ret (pe_cmpR (op_eqD hu) (pv 2) (pv 0) (nomark _))))))), ?_⟩
    refine ⟨.ref a, rfl, a, _, rfl, .inl (sl_map ha), fun l nl => ?_⟩
    have s1 : Same H (upd H l (.lst (ns.map V.int))) := same_new nl
    refine ⟨.int z, rfl, 10, 12, rfl, rfl, ⟨by decide, by decide, by decide⟩, _, rfl, 10, 12, rfl, rfl, ⟨by decide, by decide, by decide⟩, by show 4 ≤ sizeLine; decide, fun r nr => ?_⟩
    have s2 := same_new (o := HO.lst [V.int z, V.int 0, V.int (-(10 ^ (12 : Int).toNat)), V.int (10 ^ (12 : Int).toNat)]) nr
    have s12 := s1.trans s2
    have e1 := s2 _ _ (upd_same (H := H) (a := l) (o := HO.lst (ns.map V.int)))
    have e2 := upd_same (H := upd H l (.lst (ns.map V.int))) (a := r) (o := HO.lst ([z, 0, -(10 ^ (12 : Int).toNat), 10 ^ (12 : Int).toNat].map V.int))
    -- the probes
    refine ⟨.ref a, rfl, a, rfl, ⟨_, sl_map (s12 _ _ ha)⟩, for_list (xs := ns.map V.int) (fun i σ H' => ∃ (r' : Addr) (ps : List Int) (y4 : Option V), σ = [some (.ref a), some (.int z), some (.ref l), some (.ref r'), y4, none, none, none] ∧ Same H H' ∧ H' l = some (.lst (ns.map V.int)) ∧ H' r' = some (.lst (ps.map V.int)) ∧ ps.length = 4 + 3 * i)
      ⟨r, _, none, rfl, s12, e1, e2, rfl⟩ ?_ ?_ ?_⟩
    · rintro i σ H' _ ⟨r', ps, y4, rfl, sm, _⟩
      exact sl_map (sm _ _ ha)
    · rintro i x σ H' hx ⟨r', ps, y4, rfl, sm, el, er, lp⟩
      rw [List.getElem?_map] at hx
      obtain ⟨v, hv, rfl⟩ := Option.map_eq_some_iff.mp hx
      have hi := (List.getElem?_eq_some_iff.mp hv).1
      refine ⟨.ref r', rfl, .int v, rfl, v, 1, rfl, rfl, .int v, rfl, .int v, rfl, v, 1, rfl, rfl, by show 3 ≤ sizeLine; decide, fun c nc => ?_⟩
      have ncr : r' ≠ c := ne_some er nc
      refine ⟨r', c, _, _, rfl, rfl, by rw [upd_ne ncr]; exact er, upd_same, ?_, fun d n_d => ?_⟩
      · rw [List.length_map]
        show ps.length + 3 ≤ sizeLine
        exact Nat.le_of_lt (small1000 (by omega))
      · have sc := same_new (o := HO.lst [V.int (v - 1), V.int v, V.int (v + 1)]) nc
        have sd := same_new (o := HO.lst (ps.map V.int ++ [V.int (v - 1), V.int v, V.int (v + 1)])) n_d
        refine ⟨d, ps ++ [v - 1, v, v + 1], _, rfl, sm.trans (sc.trans sd), sd _ _ (sc _ _ el), ?_, ?_⟩
        · rw [upd_same, List.map_append]
          rfl
        · rw [List.length_append, lp]
          show 4 + 3 * i + 3 = 4 + 3 * (i + 1)
          omega
    rintro σ H1 ⟨r', ps, y4, rfl, sm, el, er, lp⟩
    rw [List.length_map] at lp
    refine ⟨.ref r', rfl, r', rfl, ⟨_, sl_map er⟩, for_list (xs := ps.map V.int) (fun i σ H' => ∃ (y5 y6 y7 : Option V), σ = [some (.ref a), some (.int z), some (.ref l), some (.ref r'), y4, y5, y6, y7] ∧ Same H1 H') ⟨none, none, none, rfl, Same.refl _⟩ ?_ ?_ ?_⟩
    · rintro i σ H' _ ⟨y5, y6, y7, rfl, s⟩
      exact sl_map (s _ _ er)
    · rintro i x σ H' hx ⟨y5, y6, y7, rfl, s⟩
      rw [List.getElem?_map] at hx
      obtain ⟨t, ht, rfl⟩ := Option.map_eq_some_iff.mp hx
      have el' := s _ _ el
      have ea' := (sm.trans s) _ _ ha
      refine ⟨.ref l, rfl, .int t, rfl, l, ns, t, rfl, sl_map el', ?_⟩
      refine ⟨.ref a, rfl, a, rfl, ⟨_, sl_map ea'⟩, fun D nD => lc_list (xs := ns.map V.int) (fun j H2 => Same H' H2 ∧ H2 D = some (.lst (((ns.take j).filter (fun v => decide (t ≤ v))).map V.int))) ⟨same_new nD, upd_same⟩ (fun j H2 _ h => h.1.seq (sl_map ea')) ?_ ?_⟩
      · rintro j x H2 hx ⟨s2, eD⟩
        rw [List.getElem?_map] at hx
        obtain ⟨v, hv, rfl⟩ := Option.map_eq_some_iff.mp hx
        have hj := (List.getElem?_eq_some_iff.mp hv).1
        refine ⟨rfl, .int v, rfl, .int t, rfl, v, t, rfl, rfl, _, rfl, ?_⟩
        rw [filt_snoc hv]
        by_cases c : t ≤ v
        · rw [decide_eq_true c]
          refine iteT ⟨.int v, rfl, _, eD, ?_, same_at s2 nD, ?_⟩
          · rw [List.length_map]
            have := filt_len (ns := ns.take j) (fun v => decide (t ≤ v))
            rw [List.length_take] at this
            exact small1000 (by omega)
          · rw [upd_same, List.map_append]
            simp
        · rw [decide_eq_false c]
          refine iteF ⟨s2, ?_⟩
          rw [eD]
          simp
      rintro H2 ⟨s2, eD⟩
      rw [List.length_map, List.take_length] at eD
      rw [find_filter]
      generalize hd : ns.filter (fun v => decide (t ≤ v)) = ds at eD
      cases ds with
      | nil =>
        refine ⟨.ref D, rfl, D, _, rfl, .inl (sl_map eD), rfl, _, rfl, iteT ?_⟩
        refine ⟨.non, rfl, rfl, _, rfl, iteF ?_⟩
        refine ⟨.ref D, rfl, D, _, rfl, .inl (sl_map eD), _, 0, rfl, rfl, _, rfl, iteF (iteF ⟨_, _, _, rfl, s.trans s2⟩)⟩
      | cons v vs =>
        have e0 : decide (V.int ((((v :: vs).map V.int).length : Nat) : Int) = V.int 0) = false := by
          refine decide_eq_false fun e => ?_
          have := V.int.inj e
          rw [List.length_map, List.length_cons] at this
          omega
        have e3 : decide ((0 : Int) < ((((v :: vs).map V.int).length : Nat) : Int)) = true := by
          refine decide_eq_true ?_
          rw [List.length_map, List.length_cons]
          omega
        refine ⟨.ref D, rfl, D, _, rfl, .inl (sl_map eD), rfl, _, rfl, ?_⟩
        rw [e0]
        refine iteF (iteF ?_)
        refine ⟨.ref D, rfl, D, _, rfl, .inl (sl_map eD), _, 0, rfl, rfl, _, rfl, ?_⟩
        rw [e3]
        refine iteT ?_
        refine ⟨.int v, rfl, v, rfl, true, rfl, iteF ?_⟩
        refine ⟨.int v, rfl, .ref D, rfl, D, _, 0, .int v, rfl, rfl, sl_map eD, atI_nat (j := 0) rfl, rfl, _, rfl, ?_⟩
        refine iteNS rfl ?_
        exact ⟨_, _, _, rfl, s.trans s2⟩
    · rintro σ H' ⟨y5, y6, y7, rfl, s⟩
      refine ⟨.ref l, rfl, .ref a, rfl, _, _, dpI (sl_map (s _ _ el)), dpI (sl_map ((sm.trans s) _ _ ha)), shI _, shI _, ?_⟩
      rw [eqI]
      exact q _ (sm.trans s)
end
end K1

set_option Elab.async false
set_option linter.all false
set_option maxRecDepth 100000
set_option maxHeartbeats 4000000
namespace K1
open PySem PySem.Spec PyProof.Rows L2 Cs
section
variable {P : Program} {w : World} {K : PySem.W.Frag} {mg : Str → Option Value} {base : Heap}
abbrev sLaw : Stmt := topS 18
abbrev nLaw : List Str := ["_law_script", "_law_stream_here", "_law_scale", "_law_first", "_law_second_here", "_law_more", "_law_one", "_law_other", "_law_pair"]
theorem scLaw : FnScope nLaw ["_law_script"] (defScope sLaw) := ⟨rfl, rfl, rfl, by decide +kernel, rfl, by decide +kernel, by decide +kernel⟩
def spLaw (K : PySem.W.Frag) : Sp := fun vs H Q _ => ∃ (a : Addr) (ns : List Int), vs = [.ref a] ∧ SqL K H a (ns.map V.int) ∧ ns.length ≤ 63 ∧ ∀ H', Q (.bl true) H'
/-- the rest of the bounds that the streams need -/
theorem ok_law {f fT fD fV fX fM fL fB fF : Addr} {fd fdT fdD fdV fdX fdM fdL fdB fdF : FuncData} (F : Fun K "law" "law" sLaw f fd) (B : Bt mg)
    (T : Call P w K mg base 1 "_law_stream" fT fdT ["_law_script", "_law_k"] (spStream K)) (D : Call P w K mg base 1 "_law_next" fD fdD ["_law_stream_here", "_law_size"] spDraw)
    (V' : Call P w K mg base 2 "_law_values" fV fdV ["_law_stream_here", "_law_size", "_law_scale"] spVals) (X : Call P w K mg base 3 "_law_second" fX fdX ["_law_stream_here", "_law_first", "_law_scale"] spSecond)
    (M : Call P w K mg base 3 "_law_made" fM fdM ["_law_values_here"] (spMade K)) (L : Call P w K mg base 1 "_law_side" fL fdL ["_law_values_here"] (spSide K))
    (O : Call P w K mg base 3 "_law_both" fB fdB ["_law_one", "_law_other"] (spBoth K)) (W : Call P w K mg base 2 "_law_followed" fF fdF ["_law_side_here", "_law_more"] (spFoll K)) :
    FnOk P w K mg base CX0 4 f fd ["_law_script"] (spLaw K) := by
  refine F.ok scLaw (fun vs H Q E h => ?_) (fun cdv A outer s H vs Q E hr h => ?_)
  · obtain ⟨a, ns, rfl, _⟩ := h
    rfl
  · obtain ⟨a, ns, rfl, ha, ln, q⟩ := h
    have hr1 : Room 1 (A.deeper (envOfC "law" (defScope sLaw) s.heap.objs.size f cdv)) := hr.mono (by decide)
    have hr2 : Room 2 (A.deeper (envOfC "law" (defScope sLaw) s.heap.objs.size f cdv)) := hr.mono (by decide)
    have nd := scLaw.nd
    refine ⟨_, pss_cons (ps_set (i := 1) nd rfl (.inl rfl) (pe_call T.ok hr1 (by rfl) T.at_ T.kp T.bd .nil pass0 (pa_cons (pv 0) (pa_cons pe_int pa_nil))))
      (pss_cons (ps_set (i := 2) nd rfl (.inl rfl) (pe_ix ix_list (pe_lst (pa_cons pe_int (pa_cons pe_int (pa_cons pe_int (pa_cons (pe_op op_pow pe_int pe_int) pa_nil))))) (pe_call D.ok hr1 (by rfl) D.at_ D.kp D.bd .nil pass0 (pa_cons (pv 1) (pa_cons pe_int pa_nil))) (fun _ _ => rfl)))
      (pss_cons (ps_set (i := 3) nd rfl (.inl rfl) (pe_call V'.ok hr2 (by rfl) V'.at_ V'.kp V'.bd .nil pass0 (pa_cons (pv 1) (pa_cons pe_int (pa_cons (pv 2) pa_nil)))))
      (pss_cons (ps_set (i := 1) nd rfl (.inl rfl) (pe_call T.ok hr1 (by rfl) T.at_ T.kp T.bd .nil pass0 (pa_cons (pv 0) (pa_cons pe_int pa_nil))))
      (pss_cons (ps_set (i := 4) nd rfl (.inl rfl) (pe_call X.ok hr (by rfl) X.at_ X.kp X.bd .nil pass0 (pa_cons (pv 1) (pa_cons (pv 3) (pa_cons (pv 2) pa_nil)))))
      (pss_cons (ps_set (i := 5) nd rfl (.inl rfl) (pe_op op_mul (pe_op op_sub (pe_call D.ok hr1 (by rfl) D.at_ D.kp D.bd .nil pass0 (pa_cons (pv 1) (pa_cons pe_int pa_nil))) pe_int) (pv 2)))
      (pss_cons (ps_if (PW.pt (pw_or (pt_not (pt_val (pe_call M.ok hr (by rfl) M.at_ M.kp M.bd .nil pass0 (pa_cons (pv 3) pa_nil)))) (pw_or1 (pt_not (pt_val (pe_call M.ok hr (by rfl) M.at_ M.kp M.bd .nil pass0 (pa_cons (pv 4) pa_nil))))))) (pss_one (ps_ret pe_bl)) pss_nil)
      (pss_cons (ps_set (i := 6) nd rfl (.inl rfl) (pe_call L.ok hr1 (by rfl) L.at_ L.kp L.bd .nil pass0 (pa_cons (pv 3) pa_nil)))
      (pss_cons (ps_set (i := 7) nd rfl (.inl rfl) (pe_call L.ok hr1 (by rfl) L.at_ L.kp L.bd .nil pass0 (pa_cons (pv 4) pa_nil)))
      (pss_cons (ps_for PassesOwn.never rfl (pi_list (pe_lst (pa_cons (pe_tup (pa_cons (pv 6) (pa_cons (pv 7) pa_nil))) (pa_cons (pe_tup (pa_cons (pv 7) (pa_cons (pv 6) pa_nil))) (pa_cons (pe_tup (pa_cons (pv 6) (pa_cons (pv 6) pa_nil))) pa_nil))))) (pg_name (i := 8) nd rfl (.inl rfl))
        (pss_one (ps_if (pt_not (pt_val (pe_call O.ok hr (by rfl) O.at_ O.kp O.bd .nil pass0 (pa_cons (pe_ix ix_tup (pv 8) pe_int (fun _ _ => rfl)) (pa_cons (pe_ix ix_tup (pv 8) pe_int (fun _ _ => rfl)) pa_nil))))) (pss_one (ps_ret pe_bl)) pss_nil)))
      (pss_one (ps_ret (pe_and (pe_call W.ok hr2 (by rfl) W.at_ W.kp W.bd .nil pass0 (pa_cons (pv 6) (pa_cons (pv 5) pa_nil))) (pe_one (pe_call W.ok hr2 (by rfl) W.at_ W.kp W.bd .nil pass0 (pa_cons (pv 7) (pa_cons (pv 5) pa_nil)))))))))))))))), ?_⟩
    -- the first stream, the scale
    refine ⟨.ref a, rfl, a, ns, 0, rfl, ha, fun H1 p s1 np st1 => ?_⟩
    refine ⟨10, 9, rfl, rfl, ⟨by decide, by decide, by decide⟩, by show 4 ≤ sizeLine; decide, fun t nt => ?_⟩
    have npt : p ≠ t := fun e => st1.some (e ▸ nt)
    refine ⟨.ref p, rfl, p, 4, rfl, st1.upd npt, by decide, by decide, fun H2 d o2 st2 d0 d1 => ?_⟩
    have et : H2 t = some (.lst [V.int 1, V.int 1, V.int 1, V.int (10 ^ (9 : Int).toNat)]) := (o2 t npt.symm).trans upd_same
    obtain ⟨sc, hsc⟩ : ∃ sc : Int, atI [V.int 1, V.int 1, V.int 1, V.int (10 ^ (9 : Int).toNat)] d = some (.int sc) := by
      have : d = 0 ∨ d = 1 ∨ d = 2 ∨ d = 3 := by omega
      rcases this with e | e | e | e
      · exact ⟨_, by rw [e]; exact atI_nat (j := 0) rfl⟩
      · exact ⟨_, by rw [e]; exact atI_nat (j := 1) rfl⟩
      · exact ⟨_, by rw [e]; exact atI_nat (j := 2) rfl⟩
      · exact ⟨_, by rw [e]; exact atI_nat (j := 3) rfl⟩
    refine ⟨t, _, d, .int sc, rfl, rfl, sl_map et, hsc, ?_⟩
    -- first
    have k2 : Keep p H H2 := ((Keep.same s1).at_ (s1.free nt)).oth o2
    refine ⟨.ref p, rfl, .int sc, rfl, p, 15, sc, rfl, st2, by decide, by decide, fun H3 l1 fs k3 n1 st3 e1 len1 => ?_⟩
    have k03 : Keep p H H3 := k2.trans k3
    have a3 : SqL K H3 a (ns.map V.int) := by
      have ap : ∀ o, H a = some o → a ≠ p := fun o e z => by rw [z, np] at e; cases e
      rcases ha with (h | ⟨o, h⟩) | h
      · exact .inl (.inl (k03 _ _ (ap _ h) h))
      · exact .inl (.inr ⟨o, k03 _ _ (ap _ h) h⟩)
      · exact .inr h
    -- the second stream
    refine ⟨.ref a, rfl, a, ns, 1, rfl, a3, fun H4 p2 s4 np2 st4 => ?_⟩
    have e14 := s4 _ _ e1
    have x1 : p2 ≠ l1 := fun z => by rw [z, e1] at np2; cases np2
    refine ⟨.ref p2, rfl, .ref l1, rfl, .int sc, rfl, p2, l1, fs, sc, rfl, st4, x1, e14, by omega, fun H5 l2 gs k5 n2 st5 e2 len2 => ?_⟩
    have e15 := k5 _ _ x1.symm e14
    have x2 : p2 ≠ l2 := fun z => st4.some (z ▸ n2)
    refine ⟨.ref p2, rfl, p2, 41, rfl, st5, by decide, by decide, fun H6 m o6 st6 m0 m1 => ?_⟩
    have e16 : H6 l1 = some (.lst (fs.map V.int)) := (o6 l1 x1.symm).trans e15
    have e26 : H6 l2 = some (.lst (gs.map V.int)) := (o6 l2 x2.symm).trans e2
    refine ⟨m, 20, rfl, rfl, .int sc, rfl, m - 20, sc, rfl, rfl, .inl ⟨by omega, by omega⟩, ?_⟩
    -- made
    refine ⟨.ref l1, rfl, l1, fs, rfl, sl_map e16, by omega, fun H7 s7 => ⟨true, rfl, iteF ?_⟩⟩
    refine ⟨.ref l2, rfl, l2, gs, rfl, sl_map (s7 _ _ e26), by omega, fun H8 s8 => ⟨true, rfl, iteF ?_⟩⟩
    have e18 := s8 _ _ (s7 _ _ e16)
    have e28 := s8 _ _ (s7 _ _ e26)
    refine ⟨.ref l1, rfl, l1, fs, rfl, sl_map e18, by omega, fun H9 i1 os s9 _ f1 so1 _ lo1 => ?_⟩
    refine ⟨.ref l2, rfl, l2, gs, rfl, sl_map (s9 _ _ e28), by omega, fun H10 i2 ts s10 _ f2 so2 _ lo2 => ?_⟩
    have f1' := s10 _ _ f1
    -- the three pairs
    refine ⟨.ref i1, rfl, .ref i2, rfl, by show 2 ≤ sizeLine; decide, fun t1 nt1 => ?_⟩
    have g1 := same_new (o := HO.tup [V.ref i1, V.ref i2]) nt1
    refine ⟨.ref i2, rfl, .ref i1, rfl, by show 2 ≤ sizeLine; decide, fun t2 nt2 => ?_⟩
    have g2 := same_new (o := HO.tup [V.ref i2, V.ref i1]) nt2
    refine ⟨.ref i1, rfl, .ref i1, rfl, by show 2 ≤ sizeLine; decide, fun t3 nt3 => ?_⟩
    have g3 := same_new (o := HO.tup [V.ref i1, V.ref i1]) nt3
    refine ⟨by show 3 ≤ sizeLine; decide, fun pl npl => ?_⟩
    have g4 := same_new (o := HO.lst [V.ref t1, V.ref t2, V.ref t3]) npl
    have gAll := g1.trans (g2.trans (g3.trans g4))
    have j1 := (g2.trans (g3.trans g4)) _ _ (upd_same (H := H10) (a := t1) (o := HO.tup [V.ref i1, V.ref i2]))
    have j2 := (g3.trans g4) _ _ (upd_same (H := upd H10 t1 (HO.tup [V.ref i1, V.ref i2])) (a := t2) (o := HO.tup [V.ref i2, V.ref i1]))
    have j3 := g4 _ _ (upd_same (H := upd (upd H10 t1 (HO.tup [V.ref i1, V.ref i2])) t2 (HO.tup [V.ref i2, V.ref i1])) (a := t3) (o := HO.tup [V.ref i1, V.ref i1]))
    have j4 := upd_same (H := upd (upd (upd H10 t1 (HO.tup [V.ref i1, V.ref i2])) t2 (HO.tup [V.ref i2, V.ref i1])) t3 (HO.tup [V.ref i1, V.ref i1])) (a := pl) (o := HO.lst [V.ref t1, V.ref t2, V.ref t3])
    have h1 := gAll _ _ f1'
    have h2 := gAll _ _ f2
    revert j1 j2 j3 j4 h1 h2
    clear g4 gAll
    generalize upd (upd (upd (upd H10 t1 (HO.tup [V.ref i1, V.ref i2])) t2 (HO.tup [V.ref i2, V.ref i1])) t3 (HO.tup [V.ref i1, V.ref i1])) pl (HO.lst [V.ref t1, V.ref t2, V.ref t3]) = G
    intro j1 j2 j3 j4 h1 h2
    refine ⟨pl, rfl, ⟨_, sl_map j4⟩, for_list (xs := [V.ref t1, V.ref t2, V.ref t3]) (fun i σ H' => ∃ y8, σ = [some (.ref a), some (.ref p2), some (.int sc), some (.ref l1), some (.ref l2), some (.int ((m - 20) * sc)), some (.ref i1), some (.ref i2), y8] ∧ Same G H') ⟨none, rfl, Same.refl _⟩ ?_ ?_ ?_⟩
    · rintro i σ H' _ ⟨y8, rfl, sm⟩
      exact sl_map (sm _ _ j4)
    · rintro i x σ H' hx ⟨y8, rfl, sm⟩
      have key : ∃ (t u v : Addr) (us vs : List Int), x = .ref t ∧ G t = some (.tup [V.ref u, V.ref v]) ∧ G u = some (.lst (us.map V.int)) ∧ G v = some (.lst (vs.map V.int)) ∧ Srt us ∧ Srt vs ∧ us.length ≤ 28 ∧ vs.length ≤ 28 := by
        have hi := (List.getElem?_eq_some_iff.mp hx).1
        match i, hi with
        | 0, _ => exact ⟨t1, i1, i2, os, ts, (Option.some.inj hx).symm, j1, h1, h2, so1, so2, by omega, by omega⟩
        | 1, _ => exact ⟨t2, i2, i1, ts, os, (Option.some.inj hx).symm, j2, h2, h1, so2, so1, by omega, by omega⟩
        | 2, _ => exact ⟨t3, i1, i1, os, os, (Option.some.inj hx).symm, j3, h1, h1, so1, so1, by omega, by omega⟩
      obtain ⟨t, u, v, us, vs, rfl, et, eu, ev, su, sv, lu, lv⟩ := key
      have tt : SqT K H' t [V.ref u, V.ref v] := .inl (.inl (sm _ _ et))
      refine ⟨.ref t, rfl, t, _, 0, .ref u, rfl, rfl, tt, atI_nat (j := 0) rfl, .ref t, rfl, t, _, 1, .ref v, rfl, rfl, tt, atI_nat (j := 1) rfl, u, v, us, vs, rfl, sm _ _ eu, sm _ _ ev, su, sv, lu, lv, fun H'' s'' => ⟨true, rfl, iteF ?_⟩⟩
      exact ⟨_, rfl, sm.trans s''⟩
    · rintro σ H' ⟨y8, rfl, sm⟩
      refine ⟨.ref i1, rfl, .int ((m - 20) * sc), rfl, i1, os, _, rfl, sm _ _ h1, by omega, fun H'' s'' => ⟨true, rfl, iteT ?_⟩⟩
      exact ⟨.ref i2, rfl, .int ((m - 20) * sc), rfl, i2, ts, _, rfl, s'' _ _ (sm _ _ h2), by omega, fun H3 s3 => q H3⟩
end
end K1

set_option Elab.async false
set_option linter.all false
set_option maxRecDepth 100000
set_option maxHeartbeats 4000000
namespace K1
open PySem PySem.Spec PyProof.Rows L2 Cs
/-! ### what the top has written -/
theorem all_mk {l : PySem.W.OpenLaw} {w : World} {K : PySem.W.Frag} {h : Heap} {mg : Str → Option Value} {fa f1 f2 f3 f4 f5 f6 f7 f8 f9 f10 f11 f12 f13 f14 f15 f16 f17 : Addr} (X : K.In h) (G : h.Ns mainGlobals mg) (hfa : mg "law" = some (.ref fa))
    {od1 an1 od2 an2 od3 an3 od4 an4 od5 an5 od6 an6 od7 an7 od8 an8 od9 an9 od10 an10 od11 an11 od12 an12 od13 an13 od14 an14 od15 an15 od16 an16 od17 an17 : Option Addr} {sl1 sl2 sl3 sl4 sl5 sl6 sl7 sl8 sl9 sl10 sl11 sl12 sl13 sl14 sl15 sl16 sl17 : Array (Option Value)}
    {oc1 kV1 dc1 pm1 cd1 ct1 oc2 kV2 dc2 pm2 cd2 ct2 oc3 kV3 dc3 pm3 cd3 ct3 oc4 kV4 dc4 pm4 cd4 ct4 oc5 kV5 dc5 pm5 cd5 ct5 oc6 kV6 dc6 pm6 cd6 ct6 oc7 kV7 dc7 pm7 cd7 ct7 oc8 kV8 dc8 pm8 cd8 ct8 oc9 kV9 dc9 pm9 cd9 ct9 oc10 kV10 dc10 pm10 cd10 ct10 oc11 kV11 dc11 pm11 cd11 ct11 oc12 kV12 dc12 pm12 cd12 ct12 oc13 kV13 dc13 pm13 cd13 ct13 oc14 kV14 dc14 pm14 cd14 ct14 oc15 kV15 dc15 pm15 cd15 ct15 oc16 kV16 dc16 pm16 cd16 ct16 oc17 kV17 dc17 pm17 cd17 ct17 : Value}
    (a1 : PySem.W.nsIn K mainGlobals "side_of" = some (some (.ref f1))) (l1 : K.lookup f1 = some ⟨oc1, od1, .func (PySem.W.fnOf "side_of" "side_of" (defArgs sSideOf) (defBody sSideOf) (defScope sSideOf) .none kV1 dc1 pm1 an1 cd1 ct1), sl1⟩) (c1 : PySem.W.codeIn K cd1 "side_of" = true) (k1 : PySem.W.keepIn K (.ref f1) = true)
    (a2 : PySem.W.nsIn K mainGlobals "common" = some (some (.ref f2))) (l2 : K.lookup f2 = some ⟨oc2, od2, .func (PySem.W.fnOf "common" "common" (defArgs sCommon) (defBody sCommon) (defScope sCommon) .none kV2 dc2 pm2 an2 cd2 ct2), sl2⟩) (c2 : PySem.W.codeIn K cd2 "common" = true) (k2 : PySem.W.keepIn K (.ref f2) = true)
    (a3 : PySem.W.nsIn K mainGlobals "united" = some (some (.ref f3))) (l3 : K.lookup f3 = some ⟨oc3, od3, .func (PySem.W.fnOf "united" "united" (defArgs sUnited) (defBody sUnited) (defScope sUnited) .none kV3 dc3 pm3 an3 cd3 ct3), sl3⟩) (c3 : PySem.W.codeIn K cd3 "united" = true) (k3 : PySem.W.keepIn K (.ref f3) = true)
    (a4 : PySem.W.nsIn K mainGlobals "without" = some (some (.ref f4))) (l4 : K.lookup f4 = some ⟨oc4, od4, .func (PySem.W.fnOf "without" "without" (defArgs sWithout) (defBody sWithout) (defScope sWithout) .none kV4 dc4 pm4 an4 cd4 ct4), sl4⟩) (c4 : PySem.W.codeIn K cd4 "without" = true) (k4 : PySem.W.keepIn K (.ref f4) = true)
    (a5 : PySem.W.nsIn K mainGlobals "is_within" = some (some (.ref f5))) (l5 : K.lookup f5 = some ⟨oc5, od5, .func (PySem.W.fnOf "is_within" "is_within" (defArgs sWithin) (defBody sWithin) (defScope sWithin) .none kV5 dc5 pm5 an5 cd5 ct5), sl5⟩) (c5 : PySem.W.codeIn K cd5 "is_within" = true) (k5 : PySem.W.keepIn K (.ref f5) = true)
    (a6 : PySem.W.nsIn K mainGlobals "next_value" = some (some (.ref f6))) (l6 : K.lookup f6 = some ⟨oc6, od6, .func (PySem.W.fnOf "next_value" "next_value" (defArgs sNext) (defBody sNext) (defScope sNext) .none kV6 dc6 pm6 an6 cd6 ct6), sl6⟩) (c6 : PySem.W.codeIn K cd6 "next_value" = true) (k6 : PySem.W.keepIn K (.ref f6) = true)
    (a7 : PySem.W.nsIn K mainGlobals "_law_is_integer" = some (some (.ref f7))) (l7 : K.lookup f7 = some ⟨oc7, od7, .func (PySem.W.fnOf "_law_is_integer" "_law_is_integer" (defArgs sIsInt) (defBody sIsInt) (defScope sIsInt) .none kV7 dc7 pm7 an7 cd7 ct7), sl7⟩) (c7 : PySem.W.codeIn K cd7 "_law_is_integer" = true) (k7 : PySem.W.keepIn K (.ref f7) = true)
    (a8 : PySem.W.nsIn K mainGlobals "_law_stream" = some (some (.ref f8))) (l8 : K.lookup f8 = some ⟨oc8, od8, .func (PySem.W.fnOf "_law_stream" "_law_stream" (defArgs sStream) (defBody sStream) (defScope sStream) .none kV8 dc8 pm8 an8 cd8 ct8), sl8⟩) (c8 : PySem.W.codeIn K cd8 "_law_stream" = true) (k8 : PySem.W.keepIn K (.ref f8) = true)
    (a9 : PySem.W.nsIn K mainGlobals "_law_next" = some (some (.ref f9))) (l9 : K.lookup f9 = some ⟨oc9, od9, .func (PySem.W.fnOf "_law_next" "_law_next" (defArgs sDraw) (defBody sDraw) (defScope sDraw) .none kV9 dc9 pm9 an9 cd9 ct9), sl9⟩) (c9 : PySem.W.codeIn K cd9 "_law_next" = true) (k9 : PySem.W.keepIn K (.ref f9) = true)
    (a10 : PySem.W.nsIn K mainGlobals "_law_is_side" = some (some (.ref f10))) (l10 : K.lookup f10 = some ⟨oc10, od10, .func (PySem.W.fnOf "_law_is_side" "_law_is_side" (defArgs sIsSide) (defBody sIsSide) (defScope sIsSide) .none kV10 dc10 pm10 an10 cd10 ct10), sl10⟩) (c10 : PySem.W.codeIn K cd10 "_law_is_side" = true) (k10 : PySem.W.keepIn K (.ref f10) = true)
    (a11 : PySem.W.nsIn K mainGlobals "_law_values" = some (some (.ref f11))) (l11 : K.lookup f11 = some ⟨oc11, od11, .func (PySem.W.fnOf "_law_values" "_law_values" (defArgs sVals) (defBody sVals) (defScope sVals) .none kV11 dc11 pm11 an11 cd11 ct11), sl11⟩) (c11 : PySem.W.codeIn K cd11 "_law_values" = true) (k11 : PySem.W.keepIn K (.ref f11) = true)
    (a12 : PySem.W.nsIn K mainGlobals "_law_second" = some (some (.ref f12))) (l12 : K.lookup f12 = some ⟨oc12, od12, .func (PySem.W.fnOf "_law_second" "_law_second" (defArgs sSecond) (defBody sSecond) (defScope sSecond) .none kV12 dc12 pm12 an12 cd12 ct12), sl12⟩) (c12 : PySem.W.codeIn K cd12 "_law_second" = true) (k12 : PySem.W.keepIn K (.ref f12) = true)
    (a13 : PySem.W.nsIn K mainGlobals "_law_side" = some (some (.ref f13))) (l13 : K.lookup f13 = some ⟨oc13, od13, .func (PySem.W.fnOf "_law_side" "_law_side" (defArgs sSide) (defBody sSide) (defScope sSide) .none kV13 dc13 pm13 an13 cd13 ct13), sl13⟩) (c13 : PySem.W.codeIn K cd13 "_law_side" = true) (k13 : PySem.W.keepIn K (.ref f13) = true)
    (a14 : PySem.W.nsIn K mainGlobals "_law_made" = some (some (.ref f14))) (l14 : K.lookup f14 = some ⟨oc14, od14, .func (PySem.W.fnOf "_law_made" "_law_made" (defArgs sMade) (defBody sMade) (defScope sMade) .none kV14 dc14 pm14 an14 cd14 ct14), sl14⟩) (c14 : PySem.W.codeIn K cd14 "_law_made" = true) (k14 : PySem.W.keepIn K (.ref f14) = true)
    (a15 : PySem.W.nsIn K mainGlobals "_law_both" = some (some (.ref f15))) (l15 : K.lookup f15 = some ⟨oc15, od15, .func (PySem.W.fnOf "_law_both" "_law_both" (defArgs sBoth) (defBody sBoth) (defScope sBoth) .none kV15 dc15 pm15 an15 cd15 ct15), sl15⟩) (c15 : PySem.W.codeIn K cd15 "_law_both" = true) (k15 : PySem.W.keepIn K (.ref f15) = true)
    (a16 : PySem.W.nsIn K mainGlobals "_law_followed" = some (some (.ref f16))) (l16 : K.lookup f16 = some ⟨oc16, od16, .func (PySem.W.fnOf "_law_followed" "_law_followed" (defArgs sFoll) (defBody sFoll) (defScope sFoll) .none kV16 dc16 pm16 an16 cd16 ct16), sl16⟩) (c16 : PySem.W.codeIn K cd16 "_law_followed" = true) (k16 : PySem.W.keepIn K (.ref f16) = true)
    (a17 : PySem.W.nsIn K mainGlobals "law" = some (some (.ref f17))) (l17 : K.lookup f17 = some ⟨oc17, od17, .func (PySem.W.fnOf "law" "law" (defArgs sLaw) (defBody sLaw) (defScope sLaw) .none kV17 dc17 pm17 an17 cd17 ct17), sl17⟩) (c17 : PySem.W.codeIn K cd17 "law" = true) (k17 : PySem.W.keepIn K (.ref f17) = true)
    (z1 : PySem.W.nsIn K mainGlobals "sorted" = some none) (z2 : PySem.W.nsIn K mainGlobals "set" = some none) (z3 : PySem.W.nsIn K mainGlobals "len" = some none) (z4 : PySem.W.nsIn K mainGlobals "isinstance" = some none) (z5 : PySem.W.nsIn K mainGlobals "int" = some none) (z6 : PySem.W.nsIn K mainGlobals "bool" = some none) (z7 : PySem.W.nsIn K mainGlobals "list" = some none) (z8 : PySem.W.nsIn K mainGlobals "all" = some none) (z9 : PySem.W.nsIn K mainGlobals "range" = some none) :
    ∃ fd : FuncData, (∀ (s : Shared) (v : Value), BindsTo s fd ⟨[v], []⟩ [("_law_script", v)]) ∧ ∀ base : Heap, K.In base → base.Ns mainGlobals mg → FnOk l.prog w K mg base CX0 4 fa fd ["_law_script"] (spLaw K) := by
  have e := hfa.symm.trans (PySem.W.mg_of X G a17)
  cases e
  have B : Bt mg := ⟨PySem.W.mg_none_of X G z1, PySem.W.mg_none_of X G z2, PySem.W.mg_none_of X G z3, PySem.W.mg_none_of X G z4, PySem.W.mg_none_of X G z5, PySem.W.mg_none_of X G z6, PySem.W.mg_none_of X G z7, PySem.W.mg_none_of X G z8, PySem.W.mg_none_of X G z9⟩
  have F1 := fun_mk (st := sSideOf) l1 c1 k1
  have b1 := F1.binds (ps := ["values"]) fun _ _ _ _ _ _ us hl => match us, hl with | [_], _ => rfl
  have F2 := fun_mk (st := sCommon) l2 c2 k2
  have b2 := F2.binds (ps := ["first", "second"]) fun _ _ _ _ _ _ us hl => match us, hl with | [_, _], _ => rfl
  have F3 := fun_mk (st := sUnited) l3 c3 k3
  have b3 := F3.binds (ps := ["first", "second"]) fun _ _ _ _ _ _ us hl => match us, hl with | [_, _], _ => rfl
  have F4 := fun_mk (st := sWithout) l4 c4 k4
  have b4 := F4.binds (ps := ["first", "second"]) fun _ _ _ _ _ _ us hl => match us, hl with | [_, _], _ => rfl
  have F5 := fun_mk (st := sWithin) l5 c5 k5
  have b5 := F5.binds (ps := ["first", "second"]) fun _ _ _ _ _ _ us hl => match us, hl with | [_, _], _ => rfl
  have F6 := fun_mk (st := sNext) l6 c6 k6
  have b6 := F6.binds (ps := ["side", "least"]) fun _ _ _ _ _ _ us hl => match us, hl with | [_, _], _ => rfl
  have F7 := fun_mk (st := sIsInt) l7 c7 k7
  have b7 := F7.binds (ps := ["_law_actual"]) fun _ _ _ _ _ _ us hl => match us, hl with | [_], _ => rfl
  have F8 := fun_mk (st := sStream) l8 c8 k8
  have b8 := F8.binds (ps := ["_law_script", "_law_k"]) fun _ _ _ _ _ _ us hl => match us, hl with | [_, _], _ => rfl
  have F9 := fun_mk (st := sDraw) l9 c9 k9
  have b9 := F9.binds (ps := ["_law_stream_here", "_law_size"]) fun _ _ _ _ _ _ us hl => match us, hl with | [_, _], _ => rfl
  have F10 := fun_mk (st := sIsSide) l10 c10 k10
  have b10 := F10.binds (ps := ["_law_actual"]) fun _ _ _ _ _ _ us hl => match us, hl with | [_], _ => rfl
  have F11 := fun_mk (st := sVals) l11 c11 k11
  have b11 := F11.binds (ps := ["_law_stream_here", "_law_size", "_law_scale"]) fun _ _ _ _ _ _ us hl => match us, hl with | [_, _, _], _ => rfl
  have F12 := fun_mk (st := sSecond) l12 c12 k12
  have b12 := F12.binds (ps := ["_law_stream_here", "_law_first", "_law_scale"]) fun _ _ _ _ _ _ us hl => match us, hl with | [_, _, _], _ => rfl
  have F13 := fun_mk (st := sSide) l13 c13 k13
  have b13 := F13.binds (ps := ["_law_values_here"]) fun _ _ _ _ _ _ us hl => match us, hl with | [_], _ => rfl
  have F14 := fun_mk (st := sMade) l14 c14 k14
  have b14 := F14.binds (ps := ["_law_values_here"]) fun _ _ _ _ _ _ us hl => match us, hl with | [_], _ => rfl
  have F15 := fun_mk (st := sBoth) l15 c15 k15
  have b15 := F15.binds (ps := ["_law_one", "_law_other"]) fun _ _ _ _ _ _ us hl => match us, hl with | [_, _], _ => rfl
  have F16 := fun_mk (st := sFoll) l16 c16 k16
  have b16 := F16.binds (ps := ["_law_side_here", "_law_more"]) fun _ _ _ _ _ _ us hl => match us, hl with | [_, _], _ => rfl
  have F17 := fun_mk (st := sLaw) l17 c17 k17
  refine ⟨PySem.W.fnOf "law" "law" (defArgs sLaw) (defBody sLaw) (defScope sLaw) .none kV17 dc17 pm17 an17 cd17 ct17, fun s v => .of_eq rfl, fun base _ _ => ?_⟩
  have C1 : Call l.prog w K mg base 1 "side_of" f1 _ ["values"] (spSideOf K) := ⟨ok_sideOf F1 B, PySem.W.mg_of X G a1, k1, b1⟩
  have C2 : Call l.prog w K mg base 1 "common" f2 _ ["first", "second"] (spTwo K fun ns ks k => k ∈ ns ∧ k ∈ ks) := ⟨ok_common F2 B, PySem.W.mg_of X G a2, k2, b2⟩
  have C3 : Call l.prog w K mg base 1 "united" f3 _ ["first", "second"] (spTwo K fun ns ks k => k ∈ ns ∨ k ∈ ks) := ⟨ok_united F3 B, PySem.W.mg_of X G a3, k3, b3⟩
  have C4 : Call l.prog w K mg base 1 "without" f4 _ ["first", "second"] (spTwo K fun ns ks k => k ∈ ns ∧ k ∉ ks) := ⟨ok_without F4 B, PySem.W.mg_of X G a4, k4, b4⟩
  have C5 : Call l.prog w K mg base 1 "is_within" f5 _ ["first", "second"] (spWithin K) := ⟨ok_within F5 B, PySem.W.mg_of X G a5, k5, b5⟩
  have C6 : Call l.prog w K mg base 1 "next_value" f6 _ ["side", "least"] (spNext K) := ⟨ok_next F6 B, PySem.W.mg_of X G a6, k6, b6⟩
  have C7 : Call l.prog w K mg base 1 "_law_is_integer" f7 _ ["_law_actual"] spIsInt := ⟨ok_isInt F7 B, PySem.W.mg_of X G a7, k7, b7⟩
  have C8 : Call l.prog w K mg base 1 "_law_stream" f8 _ ["_law_script", "_law_k"] (spStream K) := ⟨ok_stream F8 B, PySem.W.mg_of X G a8, k8, b8⟩
  have C9 : Call l.prog w K mg base 1 "_law_next" f9 _ ["_law_stream_here", "_law_size"] spDraw := ⟨ok_draw F9 B, PySem.W.mg_of X G a9, k9, b9⟩
  have C10 : Call l.prog w K mg base 2 "_law_is_side" f10 _ ["_law_actual"] spIsSide := ⟨ok_isSide F10 B C7, PySem.W.mg_of X G a10, k10, b10⟩
  have C11 : Call l.prog w K mg base 2 "_law_values" f11 _ ["_law_stream_here", "_law_size", "_law_scale"] spVals := ⟨ok_vals F11 B C9, PySem.W.mg_of X G a11, k11, b11⟩
  have C12 : Call l.prog w K mg base 3 "_law_second" f12 _ ["_law_stream_here", "_law_first", "_law_scale"] spSecond := ⟨ok_second F12 B C9 C11, PySem.W.mg_of X G a12, k12, b12⟩
  have C13 : Call l.prog w K mg base 1 "_law_side" f13 _ ["_law_values_here"] (spSide K) := ⟨ok_side F13 B, PySem.W.mg_of X G a13, k13, b13⟩
  have C14 : Call l.prog w K mg base 3 "_law_made" f14 _ ["_law_values_here"] (spMade K) := ⟨ok_made F14 B C1 C10 C13, PySem.W.mg_of X G a14, k14, b14⟩
  have C15 : Call l.prog w K mg base 3 "_law_both" f15 _ ["_law_one", "_law_other"] (spBoth K) := ⟨ok_both F15 B C2 C3 C4 C5 C10 C13, PySem.W.mg_of X G a15, k15, b15⟩
  have C16 : Call l.prog w K mg base 2 "_law_followed" f16 _ ["_law_side_here", "_law_more"] (spFoll K) := ⟨ok_foll F16 B C6 C7, PySem.W.mg_of X G a16, k16, b16⟩
  exact ok_law F17 B C8 C9 C11 C12 C14 C13 C15 C16
theorem walk {l : PySem.W.OpenLaw} {q : Program} {loose : List Str} {XP : (Str → Option Value) → Heap → Prop} {YP : World → Heap → Prop} {d : DefRec} {K : Params → PySem.W.Frag} (hn : l.most = some 63) (hdf : d.params.defaults = [])
    (hY : ∀ (w : World) (h : Heap), YP w h → (K w.params).In h)
    (F : ∀ (w : World) (mg : Str → Option Value) (fa : Addr) (h : Heap), (K w.params).In h → h.Ns mainGlobals mg → mg d.name = some (.ref fa) →
      ∃ fd : FuncData, (∀ (s : Shared) (u : Value), BindsTo s fd ⟨[u], []⟩ [("_law_script", u)]) ∧ ∀ base : Heap, (K w.params).In base → base.Ns mainGlobals mg → FnOk l.prog w (K w.params) mg base CX0 4 fa fd ["_law_script"] (spLaw (K w.params))) :
    PySem.W.WalkO q loose XP YP l.row.toRowW d [] (fun f vs => PySem.call f vs) :=
  L2.walk_of (n := 63) (k := 4) (x := "_law_script") (CX := fun _ => CX0) (sp := fun w => spLaw (K w.params)) hn (by decide) hdf ⟨rfl, by decide, by decide⟩ hY F (fun _ _ a ns hl _ hS => ⟨a, ns, rfl, hS, hl, fun _ => rfl⟩) fun _ _ _ _ _ z => z
end K1
open PySem PySem.W PyProof.Rows
set_option maxRecDepth 100000 in
set_option maxHeartbeats 0 in
theorem PySem.Challenge.cw_curbdesk_k01_sides_holds : PySem.Challenge.rw_curbdesk_k01_sides.Holds := by
  w_on; o_law; k_head; (case hw => w_witness2)
  k_fill
  refine K1.walk (l := PySem.Challenge.rw_curbdesk_k01_sides) rfl rfl (fun w h Y => PySem.W.kIn_of Y) ?F
  case F =>
    intro w mg fa h KX G hmg
    refine' K1.all_mk KX G hmg ?a1 ?l1 ?c1 ?k1 ?a2 ?l2 ?c2 ?k2 ?a3 ?l3 ?c3 ?k3 ?a4 ?l4 ?c4 ?k4 ?a5 ?l5 ?c5 ?k5 ?a6 ?l6 ?c6 ?k6 ?a7 ?l7 ?c7 ?k7 ?a8 ?l8 ?c8 ?k8 ?a9 ?l9 ?c9 ?k9 ?a10 ?l10 ?c10 ?k10 ?a11 ?l11 ?c11 ?k11 ?a12 ?l12 ?c12 ?k12 ?a13 ?l13 ?c13 ?k13 ?a14 ?l14 ?c14 ?k14 ?a15 ?l15 ?c15 ?k15 ?a16 ?l16 ?c16 ?k16 ?a17 ?l17 ?c17 ?k17 ?z1 ?z2 ?z3 ?z4 ?z5 ?z6 ?z7 ?z8 ?z9
    (case a1 => k_is)
    (case l1 => k_is)
    (case c1 => k_is)
    (case k1 => k_is)
    (case a2 => k_is)
    (case l2 => k_is)
    (case c2 => k_is)
    (case k2 => k_is)
    (case a3 => k_is)
    (case l3 => k_is)
    (case c3 => k_is)
    (case k3 => k_is)
    (case a4 => k_is)
    (case l4 => k_is)
    (case c4 => k_is)
    (case k4 => k_is)
    (case a5 => k_is)
    (case l5 => k_is)
    (case c5 => k_is)
    (case k5 => k_is)
    (case a6 => k_is)
    (case l6 => k_is)
    (case c6 => k_is)
    (case k6 => k_is)
    (case a7 => k_is)
    (case l7 => k_is)
    (case c7 => k_is)
    (case k7 => k_is)
    (case a8 => k_is)
    (case l8 => k_is)
    (case c8 => k_is)
    (case k8 => k_is)
    (case a9 => k_is)
    (case l9 => k_is)
    (case c9 => k_is)
    (case k9 => k_is)
    (case a10 => k_is)
    (case l10 => k_is)
    (case c10 => k_is)
    (case k10 => k_is)
    (case a11 => k_is)
    (case l11 => k_is)
    (case c11 => k_is)
    (case k11 => k_is)
    (case a12 => k_is)
    (case l12 => k_is)
    (case c12 => k_is)
    (case k12 => k_is)
    (case a13 => k_is)
    (case l13 => k_is)
    (case c13 => k_is)
    (case k13 => k_is)
    (case a14 => k_is)
    (case l14 => k_is)
    (case c14 => k_is)
    (case k14 => k_is)
    (case a15 => k_is)
    (case l15 => k_is)
    (case c15 => k_is)
    (case k15 => k_is)
    (case a16 => k_is)
    (case l16 => k_is)
    (case c16 => k_is)
    (case k16 => k_is)
    (case a17 => k_is)
    (case l17 => k_is)
    (case c17 => k_is)
    (case k17 => k_is)
    (case z1 => k_is)
    (case z2 => k_is)
    (case z3 => k_is)
    (case z4 => k_is)
    (case z5 => k_is)
    (case z6 => k_is)
    (case z7 => k_is)
    (case z8 => k_is)
    (case z9 => k_is)
