import PyProof.Rows.All
import Wide.All
import OpenK.AllK
import Wide.FinOn
import HandS.ForMost
import HandS.Strs
import HandS.Set
import HandS.SetFor
import HandS.TupSets
import HandS.IsInst
import HandS.Flow
import HandS.Style
import HandS.Zip
import HandS.SortInts
import HandS.DeepEq
import HandS.SetBool
import HandS.SetKeys
import HandS.Walk
import HandS.DictComp
import HandS.ExcInit
import HandS.ExcField
import HandS.ExcOwn
import HandS.WordsExc
import HandS.ExcIs
import KE.KExcIs
import HandS.OwnEq
import KE.DatumOrd
import PyProof.EqAt
import HandS.Small
import HandS.Property
import HandS.ExcInitHot
import PyProof.NeKinds
import PyProof.EqKinds
import HandS.TryMany
import HandS.Conv
import HandS.FStr
import HandS.Finally
import PySem.Challenge.RW_curbdesk_k23_counts_refusals
set_option Elab.async false
set_option linter.all false
set_option maxRecDepth 100000
/-! Tables of sets that are laid anew, for the masks that merging asks for. -/
namespace Cs
open PySem PySem.Spec PyProof.Rows
def hop (m : Nat) (q : Nat × Nat) : Nat × Nat := SetTable.leap m q.1 q.2
def hops (m : Nat) : Nat → Nat × Nat → Nat × Nat
  | 0, q => q
  | n + 1, q => hops m n (hop m q)
abbrev own (ow : Array (Option Nat)) (j : Nat) : Option Nat := ow.getD j (some 0)
theorem free_step (m : Nat) (ow : Array (Option Nat)) (f : Nat) (q : Nat × Nat) : SetTable.layClean.free m ow (f + 1) q.1 q.2 =
    (match (List.range (SetTable.runEnd m q.1 + 1 - q.1)).find? (fun k => (own ow (q.1 + k)).isNone) with
      | some k => some (q.1 + k)
      | none => SetTable.layClean.free m ow f (hop m q).1 (hop m q).2) := rfl
theorem run_ge (m i : Nat) : i ≤ SetTable.runEnd m i := by
  unfold SetTable.runEnd
  split <;> omega
theorem run_le {m i : Nat} (h : i ≤ m) : SetTable.runEnd m i ≤ m := by
  unfold SetTable.runEnd
  split <;> omega
theorem hop_le (m : Nat) (q : Nat × Nat) : (hop m q).1 ≤ m := Nat.le_of_lt_succ (Nat.mod_lt _ (Nat.succ_pos m))
theorem free_none (m : Nat) (ow : Array (Option Nat)) : ∀ (f : Nat) (q : Nat × Nat), SetTable.layClean.free m ow f q.1 q.2 = none → ∀ n, n < f → (own ow (hops m n q).1).isNone = false
  | 0, _, _, n, h => absurd h (Nat.not_lt_zero n)
  | f + 1, q, e, n, h => by
    rw [free_step] at e
    cases c : (List.range (SetTable.runEnd m q.1 + 1 - q.1)).find? (fun k => (own ow (q.1 + k)).isNone) with
    | some k => rw [c] at e; exact nomatch e
    | none =>
      rw [c] at e
      cases n with
      | zero =>
        have z := List.find?_eq_none.mp c 0 (List.mem_range.mpr (by have := run_ge m q.1; omega))
        have z2 : ¬ ((own ow q.1).isNone = true) := z
        exact Bool.eq_false_iff.mpr z2
      | succ n => exact free_none m ow f (hop m q) e n (by omega)
theorem free_some (m : Nat) (ow : Array (Option Nat)) : ∀ (f : Nat) (q : Nat × Nat) (j : Nat), SetTable.layClean.free m ow f q.1 q.2 = some j → q.1 ≤ m → j ≤ m ∧ (own ow j).isNone = true
  | 0, _, _, e, _ => nomatch e
  | f + 1, q, j, e, hq => by
    rw [free_step] at e
    cases c : (List.range (SetTable.runEnd m q.1 + 1 - q.1)).find? (fun k => (own ow (q.1 + k)).isNone) with
    | some k =>
      rw [c] at e
      have ej : q.1 + k = j := Option.some.inj e
      have h1 := List.mem_of_find?_eq_some c
      have h2 := List.find?_some c
      have h3 := List.mem_range.mp h1
      have h4 := run_le hq
      rw [← ej]
      exact ⟨by omega, h2⟩
    | none =>
      rw [c] at e
      exact free_some m ow f (hop m q) j e (hop_le m q)
theorem hops_back (m : Nat) : ∀ (n : Nat) (q : Nat × Nat), hops m (n + 1) q = hop m (hops m n q)
  | 0, _ => rfl
  | n + 1, q => hops_back m n (hop m q)
theorem hops_add (m : Nat) (a : Nat) : ∀ (k : Nat) (q : Nat × Nat), hops m (a + k) q = hops m k (hops m a q)
  | 0, _ => rfl
  | k + 1, q => by
    rw [show a + (k + 1) = (a + k) + 1 from rfl, hops_back, hops_back, hops_add m a k q]
theorem hops_snd (m : Nat) : ∀ (n : Nat) (q : Nat × Nat), (hops m n q).2 = q.2 / 32 ^ n
  | 0, q => (Nat.div_one q.2).symm
  | n + 1, q => by
    rw [hops_back]
    show (hops m n q).2 / 32 = _
    rw [hops_snd m n q, Nat.div_div_eq_div_mul, Nat.pow_succ]
theorem hops_fst_le (m : Nat) {q : Nat × Nat} (hq : q.1 ≤ m) : ∀ n, (hops m n q).1 ≤ m
  | 0 => hq
  | n + 1 => by rw [hops_back]; exact hop_le m _
theorem hops_zero (m i : Nat) : ∀ k, hops m k (i, 0) = (L2.lcgI m i k, 0)
  | 0 => rfl
  | k + 1 => by
    rw [hops_back, hops_zero m i k]
    show ((L2.lcgI m i k * 5 + 1 + 0 / 32) % (m + 1), 0 / 32) = _
    rw [Nat.zero_div, Nat.add_zero] <;> rfl
def Msk (m : Nat) : Prop := m = 7 ∨ m = 15 ∨ m = 31 ∨ m = 63 ∨ m = 127
/- one round from 0, then the shift -/
theorem all15 : ((List.range 16).all fun j => (List.range 16).any fun b => L2.lcgN 15 b == j) = true := by decide +kernel
theorem all63 : ((List.range 64).all fun j => (List.range 64).any fun b => L2.lcgN 63 b == j) = true := by decide +kernel
theorem round15 : L2.lcgN 15 16 = 0 := by decide +kernel
theorem round63 : L2.lcgN 63 64 = 0 := by decide +kernel
theorem turn_mod {m : Nat} (h : L2.lcgN m (m + 1) = 0) : ∀ k, L2.lcgN m (m + 1 + k) = L2.lcgN m k
  | 0 => h
  | k + 1 => by
    show (L2.lcgN m (m + 1 + k) * 5 + 1) % (m + 1) = (L2.lcgN m k * 5 + 1) % (m + 1)
    rw [turn_mod h k]
theorem lcg_by {m : Nat} (hr : L2.lcgN m (m + 1) = 0) (ha : ((List.range (m + 1)).all fun j => (List.range (m + 1)).any fun b => L2.lcgN m b == j) = true) {i j : Nat} (hi : i ≤ m) (hj : j ≤ m) :
    ∃ k, k ≤ m ∧ L2.lcgI m i k = j := by
  have at0 : ∀ x, x ≤ m → ∃ b, b ≤ m ∧ L2.lcgN m b = x := fun x hx => by
    obtain ⟨b, hb, e⟩ := List.any_eq_true.mp (List.all_eq_true.mp ha x (List.mem_range.mpr (by omega)))
    exact ⟨b, Nat.le_of_lt_succ (List.mem_range.mp hb), eq_of_beq e⟩
  obtain ⟨a, la, ea⟩ := at0 i hi
  obtain ⟨b, lb, eb⟩ := at0 j hj
  subst ea
  by_cases c : a ≤ b
  · exact ⟨b - a, by omega, by rw [L2.lcgN_add, Nat.add_sub_cancel' c]; exact eb⟩
  · refine ⟨m + 1 + b - a, by omega, ?_⟩
    rw [L2.lcgN_add, Nat.add_sub_cancel' (by omega), turn_mod hr]
    exact eb
theorem lcg_meets {m : Nat} (hm : Msk m) {i j : Nat} (hi : i ≤ m) (hj : j ≤ m) : ∃ k, k ≤ m ∧ L2.lcgI m i k = j := by
  rcases hm with e | e | e | e | e
  · exact L2.lcgI_all (.inl e) hi hj
  · subst e; exact lcg_by round15 all15 hi hj
  · exact L2.lcgI_all (.inr (.inl e)) hi hj
  · subst e; exact lcg_by round63 all63 hi hj
  · exact L2.lcgI_all (.inr (.inr e)) hi hj
theorem free_there {m : Nat} (hm : Msk m) (ow : Array (Option Nat)) (h : Int) {j0 : Nat} (hj : j0 ≤ m) (hf : (own ow j0).isNone = true) :
    ∃ j, SetTable.layClean.free m ow (SetTable.turns m) (SetTable.bits h % (m + 1)) (SetTable.bits h) = some j ∧ j ≤ m ∧ (own ow j).isNone = true := by
  have hq : SetTable.bits h % (m + 1) ≤ m := Nat.le_of_lt_succ (Nat.mod_lt _ (Nat.succ_pos m))
  cases e : SetTable.layClean.free m ow (SetTable.turns m) (SetTable.bits h % (m + 1)) (SetTable.bits h) with
  | some j => exact ⟨j, rfl, free_some m ow _ (SetTable.bits h % (m + 1), SetTable.bits h) j e hq⟩
  | none =>
    exfalso
    have all := free_none m ow _ (SetTable.bits h % (m + 1), SetTable.bits h) e
    have z : (hops m 13 (SetTable.bits h % (m + 1), SetTable.bits h)).2 = 0 := by
      rw [hops_snd]
      refine Nat.div_eq_of_lt (Nat.lt_trans (L2.bits_lt h) ?_)
      decide
    have le := hops_fst_le m (q := (SetTable.bits h % (m + 1), SetTable.bits h)) hq 13
    obtain ⟨k, hk, ek⟩ := lcg_meets hm le hj
    have q := all (13 + k) (by show 13 + k < m + 15; omega)
    have e2 : hops m 13 (SetTable.bits h % (m + 1), SetTable.bits h) = ((hops m 13 (SetTable.bits h % (m + 1), SetTable.bits h)).1, 0) := by
      rw [← z]
    rw [hops_add, e2, hops_zero] at q
    rw [ek] at q
    rw [hf] at q
    cases q
/-! ### who sits where -/
theorem put_perm : ∀ (l : List (Option Nat)) (j k : Nat), l[j]? = some none → ((l.set j (some k)).filterMap id).Perm (k :: l.filterMap id)
  | [], j, k, h => by simp at h
  | x :: l, 0, k, h => by
    have e : x = none := by simpa using h
    subst e
    simp
  | x :: l, j + 1, k, h => by
    have ih := put_perm l j k (by simpa using h)
    cases x with
    | none => simpa using ih
    | some y =>
      simp only [List.set_cons_succ, List.filterMap_cons, id]
      exact (ih.cons y).trans (List.Perm.swap k y _)
theorem gap : ∀ l : List (Option Nat), (l.filterMap id).length < l.length → ∃ j : Nat, j < l.length ∧ l[j]? = some none
  | [], h => by simp at h
  | none :: l, h => ⟨0, by simp, rfl⟩
  | some y :: l, h => by
    obtain ⟨j, hj, e⟩ := gap l (by simpa using h)
    exact ⟨j + 1, by simpa using hj, by simpa using e⟩
structure Sit (m k : Nat) (ow : Array (Option Nat)) : Prop where
  sz : ow.size = m + 1
  pm : (ow.toList.filterMap id).Perm (List.range k)
theorem Sit.next {m k : Nat} {ow : Array (Option Nat)} (S : Sit m k ow) (hm : Msk m) (hk : k ≤ m) (h : Int) :
    ∃ j, SetTable.layClean.free m ow (SetTable.turns m) (SetTable.bits h % (m + 1)) (SetTable.bits h) = some j ∧ Sit m (k + 1) (ow.setIfInBounds j (some k)) := by
  have l1 := S.pm.length_eq
  rw [List.length_range] at l1
  obtain ⟨j0, h0, e0⟩ := gap ow.toList (by rw [l1, Array.length_toList, S.sz]; omega)
  rw [Array.length_toList, S.sz] at h0
  have f0 : (own ow j0).isNone = true := by
    have : ow[j0]? = some none := by rw [← Array.getElem?_toList]; exact e0
    simp [own, Array.getD_eq_getD_getElem?, this]
  obtain ⟨j, ej, hj, hn⟩ := free_there hm ow h (by omega) f0
  have hjs : j < ow.size := by rw [S.sz]; omega
  have en : ow.toList[j]? = some none := by
    have : own ow j = none := by simpa using hn
    rw [Array.getElem?_toList]
    simp only [own, Array.getD_eq_getD_getElem?, Array.getElem?_eq_getElem hjs, Option.getD_some] at this
    rw [Array.getElem?_eq_getElem hjs, this]
  refine ⟨j, ej, by rw [Array.size_setIfInBounds]; exact S.sz, ?_⟩
  rw [Array.toList_setIfInBounds]
  refine (put_perm ow.toList j k en).trans ?_
  rw [List.range_succ]
  exact (S.pm.cons k).trans (List.perm_append_singleton k _).symm
end Cs
set_option Elab.async false
set_option linter.all false
set_option maxRecDepth 100000
set_option maxHeartbeats 1000000
namespace Cs
open PySem PySem.Spec PyProof.Rows L2
/-- a set of ints, written out -/
structure SetX (w : World) (h : Heap) (a : Addr) (es : Array (Int × Value)) (ep : Nat) (t : SetTable) : Prop where
  obj : h.get? a = some { cls := .type "set", dict := none, data := .set es ep t, slots := #[] }
  good : ∀ e ∈ es.toList, GoodE e
  nd : (es.toList.map keyOf).Nodup
  few : es.size < scanBound
  fits : t.fits es.size = true
  ris : Ris t.place.toList
  led : w.params.followText "set-order" = true ∨ t.led = true
section
variable {w : World} {h h' : Heap} {a : Addr} {S : Int → Bool} {n : Nat} {es : Array (Int × Value)} {ep : Nat} {t : SetTable}
theorem xOf (R : SetR w h a S n) : ∃ es ep t, SetX w h a es ep t ∧ (∀ k, S k = true ↔ k ∈ es.toList.map keyOf) ∧ es.size = n := by
  obtain ⟨⟨c, d, dt, sl⟩, es, ep, t, ho, ⟨e1, e2, e3⟩, hd, g, nd, m, fw, ft, hn, r, l⟩ := R
  simp only at e1 e2 e3 hd
  subst e1 e2 e3 hd
  exact ⟨es, ep, t, ⟨ho, g, nd, fw, ft, r, l⟩, m, hn⟩
end
end Cs
set_option Elab.async false
set_option linter.all false
set_option maxRecDepth 100000
set_option maxHeartbeats 1000000
namespace Cs
open PySem PySem.Spec PyProof.Rows L2
end Cs
set_option Elab.async false
set_option linter.all false
set_option maxRecDepth 100000
set_option maxHeartbeats 1000000
namespace Cs
open PySem PySem.Spec PyProof.Rows L2
end Cs
set_option Elab.async false
set_option linter.all false
set_option maxRecDepth 100000
set_option maxHeartbeats 1000000
namespace Cs
open PySem PySem.Spec PyProof.Rows L2
section
variable {P : Program} {w : World} {A : Around} {E : Value → Shared → Prop} {s : Shared}
abbrev keys (es : Array (Int × Value)) : List Int := es.toList.map keyOf
end
end Cs
set_option Elab.async false
set_option linter.all false
set_option maxRecDepth 100000
set_option maxHeartbeats 1000000
namespace Cs
open PySem PySem.Spec PyProof.Rows L2
section
variable {P : Program} {w : World} {A : Around} {E : Value → Shared → Prop} {s : Shared}
/-! ### the words of the class -/
abbrev newObjOf (w : World) : Obj := { cls := .type "set", dict := none, data := .set #[] 0 (.fresh 0 0 (!w.params.followText "set-order")) }
theorem SetX.ty {h : Heap} {a : Addr} {es : Array (Int × Value)} {ep : Nat} {t : SetTable} (R : SetX w h a es ep t) {s : Shared} (e : s.heap = h) : s.TypeIs (.ref a) "set" :=
  ⟨_, by rw [e]; exact R.obj, rfl⟩
/-- heaps in which all is as it was but what is new -/
def Old (h h' : Heap) : Prop := ∀ b o, h.get? b = some o → h'.get? b = some o
end
end Cs
set_option Elab.async false
set_option linter.all false
set_option maxRecDepth 100000
set_option maxHeartbeats 1000000
namespace Cs
open PySem PySem.Spec PyProof.Rows L2
end Cs
set_option Elab.async false
set_option linter.all false
set_option maxRecDepth 100000
set_option maxHeartbeats 1000000
namespace Cs
open PySem PySem.Spec PyProof.Rows L2
end Cs
set_option Elab.async false
set_option linter.all false
set_option maxRecDepth 100000
set_option maxHeartbeats 2000000
namespace Cs
open PySem PySem.Spec PyProof.Rows L2
end Cs
set_option Elab.async false
set_option linter.all false
set_option maxRecDepth 100000
set_option maxHeartbeats 2000000
namespace Cs
open PySem PySem.Spec PyProof.Rows L2
end Cs
set_option Elab.async false
set_option linter.all false
set_option maxRecDepth 100000
set_option maxHeartbeats 2000000
namespace Cs
open PySem PySem.Spec PyProof.Rows L2
end Cs
set_option Elab.async false
set_option linter.all false
set_option maxRecDepth 100000
set_option maxHeartbeats 3200000
namespace Cs
open PySem PySem.Spec PyProof.Rows L2
section
variable {P : Program} {w : World} {A : Around} {E : Value → Shared → Prop} {s : Shared}
/-- set(l), l a list of ints: made empty, then its items one by one -/
theorem set_of_list {l : Addr} {items : Array Value} (ns : List Int) {Q : Value → Shared → Prop} (quiet : A.handled = none) (isl : s.heap.IsList l items) (hints : IntsAre items.toList ns) (room : ns.length + 1 < scanBound)
    (fin : ∀ (h' : Heap) (tk c : Nat), SetR w h' s.heap.objs.size (fun j => decide (j ∈ ns)) c → c ≤ ns.length → Old s.heap h' → Q (.ref s.heap.objs.size) { s with heap := h', toks := tk }) :
    wpAny (model P w) A (call (.type "set") [.ref l]) Q E s := by
  have many : items.size = ns.length := (Array.length_toList (xs := items)).symm.trans (IntsAre.length hints)
  have cs := F.called_set
  obtain ⟨mc, mt, mro⟩ := cs.mro
  have made := cs.made
  have under := cs.sub
  refine wpAny_call (codeAny_of_tree ?_)
  show wpAny _ _ (callAny (.type "set") ⟨[.ref l], []⟩) _ _ _
  refine wpAny_pure ⟨Code.quiet_builtin _ (by decide +kernel), ?_⟩
  refine codeAny_builtin F.entry_type_call ?_
  rw [Around.under_plain (weight_type_call_type "set" [Value.ref l] []) rfl]
  have k1 := cs.notType
  have k2 := cs.canCreate
  have k3 := F.typeCall_set_1 (.ref l)
  repeat (any_goals (first | assumption | wp_step))
  refine codeAny_mono (code_set_led1 (.ref l) (E := E) (Q₁ := fun o z => o = .ref s.heap.objs.size ∧ z = { s with heap := s.heap.push (newObjOf w) }) ⟨rfl, rfl⟩) fun r z hz => ?_
  cases r with
  | error e => exact hz
  | ok fl =>
    cases fl with
    | ret o =>
      obtain ⟨rfl, rfl⟩ := hz
      have here : (s.heap.push (newObjOf w)).get? s.heap.objs.size = some (newObjOf w) := Heap.get?_push_size _ rfl
      have ty : Shared.TypeIs { s with heap := s.heap.push (newObjOf w) } (.ref s.heap.objs.size) "set" := ⟨_, here, rfl⟩
      have k4 := cs.init.lookup
      have k5 := cs.init.bind (.ref s.heap.objs.size)
      repeat (any_goals (first | assumption | wp_step))
      refine codeAny_mono (codeAny_call_builtin (R := wants (fun r y => r = .none ∧ ∃ h' tk c, y = { s with heap := h', toks := tk } ∧ SetR w h' s.heap.objs.size (fun j => decide (j ∈ ns)) c ∧ c ≤ ns.length ∧ Old s.heap h') E)
        cs.init.plain F.entry_set_init (check_set_init_1 ty ?_)) fun r2 y hy => ?_
      · obtain ⟨⟨oc, od, oda, osl⟩, lo, lc, ln, ld⟩ := isl
        simp only at lc ld
        subst lc ld
        have isl2 : (s.heap.push (newObjOf w)).IsList l items := ⟨_, Heap.get?_push_of_some _ lo, rfl, ln, rfl⟩
        have ll : l < s.heap.objs.size := Heap.lt_size lo
        have isl3 := Heap.get?_push_of_some (newObjOf w) lo
        have n1 := PySem.F.sub_list_set
        have n2 := PySem.F.sub_list_frozenset
        have n3 : (Value.type "list" == Value.type "dict") = false := by decide
        unfold Builtin.«set.__init__» noKeywords Builtin.Frozenset.updateFrom
        generalize hp : pyIter = iterOf
        wp_walk
        subst hp
        refine wpAny_pyIter_list isl2 ?_
        refine wpAny_bind (wpAny_runValue ?_)
        have q3 : A.in1.in1.in1.handled = none := by simp [quiet]
        have sz : (s.heap.push (newObjOf w)).objs.size = s.heap.objs.size + 1 := Heap.size_push ..
        have apart : l ≠ (s.heap.push (newObjOf w)).objs.size := by
          rw [sz]
          exact Nat.ne_of_lt (Nat.lt_succ_of_lt ll)
        have away : s.heap.objs.size ∉ [(s.heap.push (newObjOf w)).objs.size, l] := by
          rw [sz]
          simp only [List.mem_cons, List.not_mem_nil, or_false, not_or]
          exact ⟨Nat.ne_of_lt (Nat.lt_succ_self _), Nat.ne_of_gt ll⟩
        have val : ∀ (i : Nat) (v : Value), items[i]? = some v → ∃ k t, ns[i]? = some k ∧ v = .int k t := fun i v hv => by
          have hi : i < ns.length := by rw [← many]; exact (Array.getElem?_eq_some_iff.mp hv).1
          obtain ⟨t, e⟩ := IntsAre.int_at hints i v (by rw [Array.getElem?_toList]; exact hv)
          exact ⟨ns[i], t, List.getElem?_eq_getElem hi, by rw [e, List.getD_eq_getElem?_getD, List.getElem?_eq_getElem hi] <;> rfl⟩
        refine set_update_ints ((Walks.list q3 _ l apart items).toS) s.heap.objs.size away ns many room val (items.size - 0) 0 _ (by omega) (Nat.zero_le _) ⟨⟨_, Heap.get?_push_size _ rfl, rfl, rfl⟩, (isl2.push _)⟩ ?start ?stop
        case start => exact ⟨0, Nat.le_refl 0, setR_new_at (Heap.get?_push_of_some _ here)⟩
        case stop =>
          intro s2 c2 hm hc hS
          obtain ⟨h2, g2, d2, t2, o2⟩ := s2
          have eg : g2 = s.gens := hm.gens
          have ed : d2 = s.drawn := hm.drawn
          have eo : o2 = s.os := hm.os
          subst eg ed eo
          show wpAny _ _ _ _ _ _
          refine wpAny_pure ?_
          show wpAny _ _ (ret Value.none) _ _ _
          refine wpAny_pure ⟨rfl, h2, t2, c2, rfl, hS, by omega, fun b u e => ?_⟩
          have hb := Heap.lt_size e
          refine hm.heap b u ?_ (Heap.get?_push_of_some _ (Heap.get?_push_of_some _ e))
          rw [sz]
          simp only [List.mem_cons, List.not_mem_nil, or_false, not_or]
          exact ⟨Nat.ne_of_lt hb, Nat.ne_of_lt (Nat.lt_succ_of_lt hb)⟩
      · cases r2 with
        | error e => exact hy
        | ok f2 =>
          cases f2 with
          | ret r =>
            obtain ⟨rfl, h', tk, c, rfl, hS, hc, old⟩ := hy
            repeat (any_goals (first | assumption | wp_step))
            exact fin h' tk c hS hc old
          | _ => exact hy.elim
    | _ => exact hz.elim
end
end Cs
set_option Elab.async false
set_option linter.all false
set_option maxRecDepth 100000
set_option maxHeartbeats 2000000
namespace Cs
open PySem PySem.Spec PyProof.Rows L2
section
variable {X : Cx}
/-- set(l) -/
def rSetI (K : PySem.W.Frag) (w : World) : List V → Hp → VK → Prop := fun xs H Q => ∃ (l : Addr) (ns : List Int), xs = [V.ref l] ∧ SqL K H l (ns.map V.int) ∧ ns.length ≤ 4000 ∧
  ∀ (p : Addr) (c : Nat), H p = none → c ≤ ns.length → Q (.ref p) (upd H p (SetO w p (fun j => decide (j ∈ ns)) c))
theorem cr_setI (hc : X.calm = true) : CallR X (.type "set") (rSetI X.K X.w) := by
  intro pins s σ H xs us Q I r h
  obtain ⟨l, ns, rfl, hq, hl, q⟩ := h
  rw [Vals.ref1 r]
  obtain ⟨its, rv, pl, hz⟩ := I.list hq
  refine set_of_list ns (I.ok.hd hc) pl.isList (by simpa using ints_of_vals rv) (by have : scanBound = 4096 := rfl; omega) fun h' tk c hS hcn old => ?_
  exact ⟨.ref _, upd H s.heap.objs.size (SetO X.w s.heap.objs.size (fun j => decide (j ∈ ns)) c), I.laid (t' := tk) old (Nat.le_refl _) (setO_new hS), rfl, q _ c (I.hok.fresh (Nat.le_refl _)) hcn⟩
end
end Cs
set_option Elab.async false
set_option linter.all false
set_option maxRecDepth 100000
set_option maxHeartbeats 2000000
/-! != of two lists whose items are equal, deep -/
namespace Cs
open PySem PySem.Spec PyProof.Rows L2
open AutoSeq1 (wpAny_loadPart')
open MeetsSeq MeetsSeq2 MeetsSeq3 SeqRoads2 SeqAt
section
variable {prog : Program} {w : World}
abbrev seqO (us : Array Value) (n : Nat) (dd : Option Addr) (sl : Array (Option Value)) : Obj := { cls := .type "list", dict := dd, data := .seq us n, slots := sl }
abbrev AllP (prog : Program) (w : World) (A : Around) (s : Shared) (us ws : Array Value) : Prop := ∀ j (h1 : j < us.size) (h2 : j < ws.size), EqP prog w A s us[j] ws[j] true
theorem ne_stepP (a c : Addr) (us ws : Array Value) (n m : Nat) (d1 d2 : Option Addr) (s1 s2 : Array (Option Value)) (eq : us.size = ws.size) :
    ∀ (k i : Nat), us.size - i = k → MeetsIn prog w (Builtin.«list.__eq__.loop» ⟨[.ref a, .ref c, rawInt i, rawInt 3], []⟩)
      (fun A R s => s.heap.get? a = some (seqO us n d1 s1) ∧ s.heap.get? c = some (seqO ws m d2 s2) ∧ AllP prog w A.in1 s us ws ∧ R (.ok (.ret (.bool false))) s) := by
  intro k
  induction k with
  | zero =>
    intro i le A R s h
    obtain ⟨hp, g, d, tk, os⟩ := s
    obtain ⟨ha, hc, _, q⟩ := h
    wp_walk using wpAny_loadPart' ha, wpAny_loadPart' hc
    rw [show us[((i : Nat) : Int).toNat]? = none by simp; omega, show ws[((i : Nat) : Int).toNat]? = none by simp; omega]
    wp_walk using wpAny_loadPart' ha, wpAny_loadPart' hc
    show R (.ok (.ret (.bool (us.size != ws.size)))) _
    rw [eq]
    simpa using q
  | succ k ih =>
    intro i le A R s h
    obtain ⟨hp, g, d, tk, os⟩ := s
    obtain ⟨ha, hc, al, q⟩ := h
    have i1 : i < us.size := by omega
    have i2 : i < ws.size := by omega
    wp_walk using wpAny_loadPart' ha, wpAny_loadPart' hc
    rw [show us[((i : Nat) : Int).toNat]? = some us[i] by simp [i1], show ws[((i : Nat) : Int).toNat]? = some ws[i] by simp [i2]]
    refine wpAny_bind (al i i1 i2 _ _ ?_)
    wp_walk
    rw [show ((i : Int) + 1) = ((i + 1 : Nat) : Int) by push_cast; rfl]
    refine ⟨plainId_quiet plain_eq_loop _, codeAny_builtin entry_eq_loop ?_⟩
    rw [Around.under_plainId plain_eq_loop _]
    exact ih (i + 1) (by omega) A R _ ⟨ha, hc, al, q⟩
theorem ne_listP (a c : Addr) (us ws : Array Value) (n m : Nat) (d1 d2 : Option Addr) (s1 s2 : Array (Option Value)) (eq : us.size = ws.size) :
    MeetsIn prog w (Builtin.«list.__ne__» ⟨[.ref a, .ref c], []⟩)
      (fun A R s => s.heap.get? a = some (seqO us n d1 s1) ∧ s.heap.get? c = some (seqO ws m d2 s2) ∧ AllP prog w A.in1 s us ws ∧ R (.ok (.ret (.bool false))) s) := by
  intro A R s h
  obtain ⟨hp, g, d, tk, os⟩ := s
  obtain ⟨ha, hc, al, q⟩ := h
  have sub := AutoSeq1.sub_list_list
  have same : ¬ (us.size != ws.size) = true := by simp [eq]
  wp_walk using wpAny_loadPart' ha, wpAny_loadPart' hc
  refine ⟨plainId_quiet plain_eq_loop _, codeAny_builtin entry_eq_loop ?_⟩
  rw [Around.under_plainId plain_eq_loop _]
  exact ne_stepP a c us ws n m d1 d2 s1 s2 eq _ 0 rfl A R _ ⟨ha, hc, al, q⟩
theorem rc_neP {A : Around} {s : Shared} {a c : Addr} {us ws : Array Value} (ha : s.heap.IsList a us) (hc : s.heap.IsList c ws) (eq : us.size = ws.size) (hu : A.units < cLine)
    (al : AllP prog w A.in1 s us ws) (E Q : Value → Shared → Prop) (q : Q (.bool false) s) : wpAny (model prog w) A (richCompare .NotEq (.ref a) (.ref c)) Q E s := by
  obtain ⟨⟨c1, d1, x1, s1⟩, o1, e1, n, f1⟩ := id ha
  obtain ⟨⟨c2, d2, x2, s2⟩, o2, e2, m, f2⟩ := id hc
  simp only at e1 f1 e2 f2
  subst e1 f1 e2 f2
  have ta : s.TypeIs (.ref a) "list" := ⟨_, o1, rfl⟩
  have tc : s.TypeIs (.ref c) "list" := ⟨_, o2, rfl⟩
  exact wpAny_richCompare_same_room (op := .NotEq) ta tc F.slot_list_ne (call_meetsIn F.slot_list_ne ta F.entry_list_ne (F.args_list_ne_2 _ _) (ne_listP a c us ws n m d1 d2 s1 s2 eq)
    ⟨o1, o2, al, show Value.bool false ≠ Value.notImplemented ∧ Q (.bool false) s from ⟨(fun x => nomatch x), q⟩⟩) hu
end
section
variable {X : Cx}
/-- a != b, two lists that are equal -/
def rNeV (K : PySem.W.Frag) : R2 := fun x y H Q => ∃ a b xs ys, x = .ref a ∧ y = .ref b ∧ SqL K H a xs ∧ SqL K H b ys ∧ (∃ n, n ≤ 60 ∧ Paired (EqV K H n) xs ys) ∧ Q (.bl false) H
theorem op_neV (hu : X.A.units + 64 < cLine) : OpR X (compareOp .NotEq) (rNeV X.K) := by
  intro pins s σ H x y v u Q I rx ry h
  obtain ⟨a, b, xs, ys, rfl, rfl, ha, hb, ⟨n, hn, hp⟩, q⟩ := h
  cases (show v = Value.ref a from rx)
  cases (show u = Value.ref b from ry)
  obtain ⟨us, r1, p1, _⟩ := I.list ha
  obtain ⟨ws, r2, p2, _⟩ := I.list hb
  have hsz : us.toArray.size = ws.toArray.size := by
    rw [List.size_toArray, List.size_toArray, ← r1.length, ← r2.length]
    exact Paired.length hp
  refine rc_neP p1.isList p2.isList hsz (by omega) (fun j h1 h2 => ?_) _ _ ⟨.bl false, H, I, rfl, q⟩
  have k := items_run (eqV_run I n X.A.in1 (by show X.A.units + 1 + n < cLine; omega)) hp r1 r2 j (by simpa using h1) (by simpa using h2)
  simpa using k
end
end Cs
set_option Elab.async false
set_option linter.all false
set_option maxRecDepth 100000
set_option maxHeartbeats 4000000
/-! Sets of keys by a comprehension: {x for .. in ..}, the members ints or texts. -/
namespace Cs
open PySem PySem.Spec PyProof.Rows L2 PpSet
end Cs
set_option Elab.async false
set_option linter.all false
set_option maxRecDepth 100000
set_option maxHeartbeats 4000000
namespace K23
open PySem PySem.Spec PyProof.Rows L2 Cs
def topS (i : Nat) : Stmt := PySem.Challenge.pw_curbdesk_k23_counts_refusals.main.body.getD i (.Pass ⟨0, 0, 0, 0⟩)
structure Bt (mg : Str → Option Value) : Prop where
  sorted : mg "sorted" = none
  set : mg "set" = none
  len : mg "len" = none
  isi : mg "isinstance" = none
  int : mg "int" = none
  bool : mg "bool" = none
  list : mg "list" = none
  all : mg "all" = none
  range : mg "range" = none
  dict : mg "dict" = none
abbrev Srt (ms : List Int) : Prop := ms.Pairwise (· < ·)
theorem same_new {H : Hp} {p : Addr} {o : HO} (h : H p = none) : Same H (upd H p o) := fun b x e => by
  rw [upd_ne (ne_of_none e h)]
  exact e
theorem same_at {H H' : Hp} {p : Addr} {o : HO} (s : Same H H') (h : H p = none) : Same H (upd H' p o) := fun b x e => by
  rw [upd_ne (ne_of_none e h)]
  exact s _ _ e
theorem sl_map {K : PySem.W.Frag} {H : Hp} {a : Addr} {xs : List V} (h : H a = some (.lst xs)) : SqL K H a xs := .inl (.inl h)
section
variable {P : Program} {w : World} {K : PySem.W.Frag} {mg : Str → Option Value} {base : Heap}
abbrev sIsInt : Stmt := topS 38
abbrev sStream : Stmt := topS 39
abbrev sDraw : Stmt := topS 40
theorem scIsInt : FnScope ["_law_actual"] ["_law_actual"] (defScope sIsInt) := ⟨rfl, rfl, rfl, by decide +kernel, rfl, by decide +kernel, by decide +kernel⟩
theorem scStream : FnScope ["_law_script", "_law_k", "_law_cell"] ["_law_script", "_law_k"] (defScope sStream) := ⟨rfl, rfl, rfl, by decide +kernel, rfl, by decide +kernel, by decide +kernel⟩
theorem scDraw : FnScope ["_law_stream_here", "_law_size", "_law_digit", "_law_mixed"] ["_law_stream_here", "_law_size"] (defScope sDraw) := ⟨rfl, rfl, rfl, by decide +kernel, rfl, by decide +kernel, by decide +kernel⟩
def spIsInt : Sp := fun vs H Q _ => ∃ k : Int, vs = [.int k] ∧ Q (.bl true) H
theorem ok_isInt {f : Addr} {fd : FuncData} {k : Nat} (F : Fun K "_law_is_integer" "_law_is_integer" sIsInt f fd) (B : Bt mg) : FnOk P w K mg base CX0 (k + 1) f fd ["_law_actual"] spIsInt := by
  refine F.ok scIsInt (fun vs H Q E h => ?_) (fun cdv A outer s H vs Q E hr h => ?_)
  · obtain ⟨a, rfl, _⟩ := h
    rfl
  · obtain ⟨a, rfl, q⟩ := h
    refine ⟨_, pss_one (ps_ret (pe_and (pe_callB call_isi (by rfl) B.isi PyProof.Rows.boot_isinstance (pa_cons (pv 0) (pa_cons (pe_bltn (by rfl) B.int PyProof.Rows.boot_int (v := .ty "int") rfl) pa_nil)))
      (pe_one (pe_not (pe_callB call_isi (by rfl) B.isi PyProof.Rows.boot_isinstance (pa_cons (pv 0) (pa_cons (pe_bltn (by rfl) B.bool PyProof.Rows.boot_bool (v := .ty "bool") rfl) pa_nil))))))), ?_⟩
    refine ⟨.int a, rfl, .int a, .ty "int", .type "int", .type "int", true, rfl, .ty _, .base (.int a), kit_ty (by decide +kernel), true, rfl, iteT ?_⟩
    exact ⟨.int a, rfl, .int a, .ty "bool", .type "int", .type "bool", false, rfl, .ty _, .base (.int a), kit_ty (by decide +kernel), false, rfl, q⟩
/-- a stream: three ints -/
def Strm (H : Hp) (p : Addr) : Prop := ∃ x y z : Int, H p = some (.lst [.int x, .int y, .int z])
def spStream (K : PySem.W.Frag) : Sp := fun vs H Q _ => ∃ (a : Addr) (ns : List Int) (k : Nat), vs = [.ref a, .int (k : Int)] ∧ SqL K H a (ns.map V.int) ∧
  ∀ H' p, Same H H' → H p = none → Strm H' p → Q (.ref p) H'
theorem ok_stream {f : Addr} {fd : FuncData} {k : Nat} (F : Fun K "_law_stream" "_law_stream" sStream f fd) (B : Bt mg) : FnOk P w K mg base CX0 (k + 1) f fd ["_law_script", "_law_k"] (spStream K) := by
  refine F.ok scStream (fun vs H Q E h => ?_) (fun cdv A outer s H vs Q E hr h => ?_)
  · obtain ⟨a, ns, k, rfl, _⟩ := h
    rfl
  · obtain ⟨a, ns, k, rfl, hS, q⟩ := h
    refine ⟨_, pss_cons (ps_set (i := 2) scStream.nd rfl (.inl rfl) pe_int)
      (pss_cons (ps_if (pt_cmpR op_lt (pv 1) (pe_callB call_len_seq (by rfl) B.len PySem.boot_len (pa_cons (pv 0) pa_nil)) (nomark _))
        (pss_one (ps_set (i := 2) scStream.nd rfl (.inl rfl) (pe_ix ix_list (pv 0) (pv 1) (fun _ _ => rfl)))) pss_nil)
      (pss_one (ps_ret (pe_lst (pa_cons (pe_op op_mul (pv 2) (pe_callTy call_int1 (by rfl) B.int PyProof.Rows.boot_int (pa_cons (pe_cmpR op_ge (pv 2) (pe_op op_pow pe_int pe_int) (nomark _)) pa_nil))) (pa_cons pe_int (pa_cons (pv 2) pa_nil))))))), ?_⟩
    have tail : ∀ (c : Int) (b : Bool), -(2 ^ 64) < (if b = true then (1 : Int) else 0) ∧ (if b = true then (1 : Int) else 0) < 2 ^ 64 := fun c b => by cases b <;> decide
    refine ⟨.int k, rfl, .ref a, rfl, a, _, rfl, .inl hS, (k : Int), _, rfl, rfl, _, rfl, ite2 (fun c => ?_) (fun c => ?_)⟩
    · have hk : k < ns.length := by
        have := of_decide_eq_true c
        rw [List.length_map] at this
        omega
      have g : (ns.map V.int)[k]? = some (.int ns[k]) := by
        rw [List.getElem?_map, List.getElem?_eq_getElem hk]
        rfl
      refine ⟨.ref a, rfl, .int k, rfl, a, _, (k : Int), _, rfl, rfl, hS, atI_nat g, ?_⟩
      refine ⟨.int ns[k], rfl, .int ns[k], rfl, 10, 18, rfl, rfl, ⟨by decide, by decide, by decide⟩, ns[k], _, rfl, rfl, .inr ⟨_, rfl, ns[k], _, rfl, rfl, .inr (tail 0 _), .int ns[k], rfl, by show 3 ≤ sizeLine; decide, fun l hl => ?_⟩⟩
      exact q _ l (same_new hl) hl ⟨_, _, _, upd_same⟩
    · refine ⟨.int 0, rfl, .int 0, rfl, 10, 18, rfl, rfl, ⟨by decide, by decide, by decide⟩, 0, _, rfl, rfl, .inr ⟨_, rfl, 0, _, rfl, rfl, .inr (tail 0 _), .int 0, rfl, by show 3 ≤ sizeLine; decide, fun l hl => ?_⟩⟩
      exact q _ l (same_new hl) hl ⟨_, _, _, upd_same⟩
/-- all but the one at p is as it was -/
def Oth (p : Addr) (H H' : Hp) : Prop := ∀ b, b ≠ p → H' b = H b
def spDraw : Sp := fun vs H Q _ => ∃ (p : Addr) (m : Int), vs = [.ref p, .int m] ∧ Strm H p ∧ 0 < m ∧ m < 1073741824 ∧
  ∀ H' d, Oth p H H' → Strm H' p → 0 ≤ d → d < m → Q (.int d) H'
theorem at0 {x y z : V} : atI [x, y, z] (0 : Int) = some x := atI_nat (j := 0) rfl
theorem at1 {x y z : V} : atI [x, y, z] (1 : Int) = some y := atI_nat (j := 1) rfl
theorem at2 {x y z : V} : atI [x, y, z] (2 : Int) = some z := atI_nat (j := 2) rfl
theorem ok_draw {f : Addr} {fd : FuncData} {k : Nat} (F : Fun K "_law_next" "_law_next" sDraw f fd) (B : Bt mg) : FnOk P w K mg base CX0 (k + 1) f fd ["_law_stream_here", "_law_size"] spDraw := by
  refine F.ok scDraw (fun vs H Q E h => ?_) (fun cdv A outer s H vs Q E hr h => ?_)
  · obtain ⟨p, m, rfl, _⟩ := h
    rfl
  · obtain ⟨p, m, rfl, ⟨x, y, z, hp⟩, m0, m1, q⟩ := h
    refine ⟨_, pss_cons (ps_asg (pe_op op_add (pe_ix ix_list (pv 0) pe_int (fun _ _ => rfl)) pe_int) (pg_sub (pv 0) pe_int set_list))
      (pss_cons (ps_if (pt_cmpR op_gt (pe_ix ix_list (pv 0) pe_int (fun _ _ => rfl)) pe_int (nomark _))
        (pss_cons (ps_set (i := 2) scDraw.nd rfl (.inl rfl) (pe_op op_mod (pe_callTy call_int1 (by rfl) B.int PyProof.Rows.boot_int (pa_cons (pe_ix ix_list (pv 0) pe_int (fun _ _ => rfl)) pa_nil)) (pv 1)))
          (pss_cons (ps_asg (pe_op op_fdiv (pe_ix ix_list (pv 0) pe_int (fun _ _ => rfl)) (pv 1)) (pg_sub (pv 0) pe_int set_list))
          (pss_one (ps_ret (pv 2))))) pss_nil)
      (pss_cons (ps_set (i := 3) scDraw.nd rfl (.inl rfl) (pe_op op_mod (pe_callTy call_int1 (by rfl) B.int PyProof.Rows.boot_int (pa_cons
          (pe_op op_add (pe_op op_add (pe_ix ix_list (pv 0) pe_int (fun _ _ => rfl)) (pe_op op_mul pe_int (pe_ix ix_list (pv 0) pe_int (fun _ _ => rfl)))) pe_int) pa_nil)) pe_int))
      (pss_cons (ps_set (i := 3) scDraw.nd rfl (.inl rfl) (pe_op op_mod (pe_callTy call_int1 (by rfl) B.int PyProof.Rows.boot_int (pa_cons
          (pe_op op_mul (pv 3) (pe_op op_add (pv 3) pe_int)) pa_nil)) pe_int))
      (pss_cons (ps_set (i := 3) scDraw.nd rfl (.inl rfl) (pe_op op_mod (pe_callTy call_int1 (by rfl) B.int PyProof.Rows.boot_int (pa_cons
          (pe_op op_add (pe_op op_mul (pv 3) (pe_op op_add (pv 3) pe_int)) (pe_op op_mul pe_int (pe_ix ix_list (pv 0) pe_int (fun _ _ => rfl)))) pa_nil)) pe_int))
      (pss_one (ps_ret (pe_op op_mod (pe_callTy call_int1 (by rfl) B.int PyProof.Rows.boot_int (pa_cons (pe_op op_fdiv (pv 3) pe_int) pa_nil)) (pv 1)))))))), ?_⟩
    have pos1 : (0 : Int) < 2147483647 := by decide
    have pos2 : (0 : Int) < 2147483629 := by decide
    -- stream[1] = stream[1] + 1
    refine ⟨.ref p, rfl, p, _, 1, .int y, rfl, rfl, sl_map hp, at1, y, 1, rfl, rfl, .ref p, rfl, p, _, 1, 1, rfl, rfl, hp, rfl, ?_⟩
    have h1 : ∀ o, (upd H p o) p = some o := fun o => upd_same
    -- if stream[0] > 0
    refine ⟨.ref p, rfl, p, _, 0, .int x, rfl, rfl, sl_map upd_same, at0, x, 0, rfl, rfl, _, rfl, ite2 (fun c => ?_) (fun c => ?_)⟩
    · refine ⟨.ref p, rfl, p, _, 0, .int x, rfl, rfl, sl_map upd_same, at0, .inl ⟨x, rfl, .int m, rfl, x, m, rfl, rfl, m0, ?_⟩⟩
      refine ⟨.ref p, rfl, p, _, 0, .int x, rfl, rfl, sl_map upd_same, at0, .int m, rfl, x, m, rfl, rfl, ⟨m0, m1⟩, .ref p, rfl, p, _, 0, 0, rfl, rfl, upd_same, rfl, ?_⟩
      refine ⟨.int (x % m), rfl, q _ _ (fun b hb => by rw [upd_ne hb, upd_ne hb]) ⟨_, _, _, upd_same⟩ (Int.emod_nonneg _ (by omega)) (Int.emod_lt_of_pos _ m0)⟩
    · refine ⟨.ref p, rfl, p, _, 2, .int z, rfl, rfl, sl_map upd_same, at2, .ref p, rfl, p, _, 1, .int (y + 1), rfl, rfl, sl_map upd_same, at1, 7919, y + 1, rfl, rfl, .inl ⟨by decide, by decide⟩, z, _, rfl, rfl, _, 13, rfl, rfl,
        .inl ⟨_, rfl, _, 2147483647, rfl, rfl, pos1, ?_⟩⟩
      have r1 : ∀ u : Int, 0 ≤ u % 2147483647 ∧ u % 2147483647 < 2147483647 := fun u => ⟨Int.emod_nonneg _ (by decide), Int.emod_lt_of_pos _ (by decide)⟩
      have r2 : ∀ u : Int, 0 ≤ u % 2147483629 ∧ u % 2147483629 < 2147483629 := fun u => ⟨Int.emod_nonneg _ (by decide), Int.emod_lt_of_pos _ (by decide)⟩
      have big : (2147483647 : Int) < 2 ^ 64 := by decide
      have big2 : (-(2 ^ 64) : Int) < 0 := by decide
      have b1 := r1 (z + 7919 * (y + 1) + 13)
      refine ⟨_, rfl, _, rfl, (z + 7919 * (y + 1) + 13) % 2147483647, 48271, rfl, rfl, (z + 7919 * (y + 1) + 13) % 2147483647, _, rfl, rfl, .inl ⟨by omega, by omega⟩, .inl ⟨_, rfl, _, 2147483629, rfl, rfl, pos2, ?_⟩⟩
      have b2 := r2 ((z + 7919 * (y + 1) + 13) % 2147483647 * ((z + 7919 * (y + 1) + 13) % 2147483647 + 48271))
      refine ⟨_, rfl, _, rfl, _, 69621, rfl, rfl, (z + 7919 * (y + 1) + 13) % 2147483647 * ((z + 7919 * (y + 1) + 13) % 2147483647 + 48271) % 2147483629, _, rfl, rfl, .inl ⟨?_, ?_⟩, .ref p, rfl, p, _, 1, .int (y + 1), rfl, rfl, sl_map upd_same, at1, 31, y + 1, rfl, rfl, .inl ⟨by decide, by decide⟩, _, _, rfl, rfl,
        .inl ⟨_, rfl, _, 2147483647, rfl, rfl, pos1, ?_⟩⟩
      · generalize (z + 7919 * (y + 1) + 13) % 2147483647 * ((z + 7919 * (y + 1) + 13) % 2147483647 + 48271) % 2147483629 = v at b2
        omega
      · generalize (z + 7919 * (y + 1) + 13) % 2147483647 * ((z + 7919 * (y + 1) + 13) % 2147483647 + 48271) % 2147483629 = v at b2
        omega
      refine ⟨_, rfl, _, 9, rfl, rfl, ⟨by decide, by decide⟩, .inl ⟨_, rfl, .int m, rfl, _, m, rfl, rfl, m0, ?_⟩⟩
      exact q _ _ (fun b hb => by rw [upd_ne hb]) ⟨_, _, _, upd_same⟩ (Int.emod_nonneg _ (by omega)) (Int.emod_lt_of_pos _ m0)
/-- a def that stands, with its promise -/
structure Call (P : Program) (w : World) (K : PySem.W.Frag) (mg : Str → Option Value) (base : Heap) (k : Nat) (x : Str) (f : Addr) (fd : FuncData) (ps : List Str) (sp : Sp) : Prop where
  ok : FnOk P w K mg base CX0 k f fd ps sp
  at_ : mg x = some (.ref f)
  kp : PySem.W.keepIn K (.ref f) = true
  bd : Binds K fd ps []
/-- what was tracked, but for the one at p, is as it was -/
def Keep (p : Addr) (H H' : Hp) : Prop := ∀ b o, b ≠ p → H b = some o → H' b = some o
theorem Keep.refl (p : Addr) (H : Hp) : Keep p H H := fun _ _ _ e => e
theorem Keep.oth {p : Addr} {H H1 H2 : Hp} (k : Keep p H H1) (o : Oth p H1 H2) : Keep p H H2 := fun b u hb e => (o b hb).trans (k b u hb e)
theorem Keep.trans {p : Addr} {H H1 H2 : Hp} (k : Keep p H H1) (k2 : Keep p H1 H2) : Keep p H H2 := fun b u hb e => k2 b u hb (k b u hb e)
theorem Keep.at_ {p q : Addr} {o : HO} {H H1 : Hp} (k : Keep p H H1) (n : H q = none) : Keep p H (upd H1 q o) := fun b u hb e => by
  rw [upd_ne (ne_of_none e n)]
  exact k b u hb e
theorem Keep.same {p : Addr} {H H1 : Hp} (s : Same H H1) : Keep p H H1 := fun b u _ e => s b u e
theorem Strm.some {H : Hp} {p : Addr} (s : Strm H p) : H p ≠ none := fun z => by
  obtain ⟨x, y, z', e⟩ := s
  rw [z] at e
  cases e
theorem Strm.keep {H H' : Hp} {p q : Addr} (s : Strm H p) (k : Keep q H H') (h : p ≠ q) : Strm H' p := by
  obtain ⟨x, y, z, e⟩ := s
  exact ⟨x, y, z, k _ _ h e⟩
theorem Strm.upd {H : Hp} {p q : Addr} {o : HO} (s : Strm H p) (h : p ≠ q) : Strm (upd H q o) p := by
  obtain ⟨x, y, z, e⟩ := s
  exact ⟨x, y, z, by rw [upd_ne h]; exact e⟩
theorem Keep.free {p q : Addr} {H H1 : Hp} (k : Keep p H H1) (s : Strm H1 p) (n : H1 q = none) : H q = none := by
  have hp : q ≠ p := fun z => s.some (z ▸ n)
  cases c : H q with
  | none => rfl
  | some o =>
    rw [k q o hp c] at n
    cases n
end
/-! ### lists of ints as data -/
/-! ### boxes: dicts from texts to lists of ints -/
abbrev Ent := Str × Addr × List Int
def entK (L : List Ent) : List (Key × V) := L.map fun e => (Sum.inr e.1, V.ref e.2.1)
def getE (L : List Ent) (x : Str) : Option Ent := L.find? fun e => decide (e.1 = x)
def look (L : List Ent) (x : Str) : Option (List Int) := (getE L x).map (·.2.2)
theorem getE_pos {e : Ent} {L : List Ent} {x : Str} (h : e.1 = x) : getE (e :: L) x = some e := by simp [getE, List.find?_cons, h]
theorem getE_neg {e : Ent} {L : List Ent} {x : Str} (h : ¬ e.1 = x) : getE (e :: L) x = getE L x := by simp [getE, List.find?_cons, h]
theorem getE_mem {L : List Ent} {x : Str} {e : Ent} (h : getE L x = some e) : e ∈ L ∧ e.1 = x :=
  ⟨List.mem_of_find?_eq_some h, of_decide_eq_true (List.find?_some (p := fun e : Ent => decide (e.1 = x)) h)⟩
theorem getE_of : ∀ {L : List Ent} {e : Ent}, (L.map (·.1)).Nodup → e ∈ L → getE L e.1 = some e
  | [], _, _, h => by cases h
  | a :: L, e, nd, h => by
    rw [List.map_cons, List.nodup_cons] at nd
    rcases List.mem_cons.mp h with z | z
    · rw [z]; exact getE_pos rfl
    · have ne : ¬ a.1 = e.1 := fun q => nd.1 (q ▸ List.mem_map_of_mem z)
      rw [getE_neg ne]
      exact getE_of nd.2 z
theorem getE_none {L : List Ent} {x : Str} : getE L x = none ↔ x ∉ L.map (·.1) := by
  unfold getE
  rw [List.find?_eq_none]
  constructor
  · intro h hx
    obtain ⟨e, he, q⟩ := List.mem_map.mp hx
    exact h e he (decide_eq_true q)
  · intro h e he q
    exact h (of_decide_eq_true q ▸ List.mem_map_of_mem he)
theorem look_mem {L : List Ent} {e : Ent} (nd : (L.map (·.1)).Nodup) (h : e ∈ L) : look L e.1 = some e.2.2 := by
  unfold look
  rw [getE_of nd h]
  rfl
theorem valV_ent (x : Str) : ∀ L : List Ent, valV (entK L) (.inr x) = (getE L x).map fun e => V.ref e.2.1
  | [] => rfl
  | e :: L => by
    by_cases h : e.1 = x
    · rw [getE_pos h]
      exact valV_pos (congrArg Sum.inr h)
    · rw [getE_neg h]
      have : valV (entK (e :: L)) (.inr x) = valV (entK L) (.inr x) := valV_neg (fun z => h (Sum.inr.inj z))
      rw [this]
      exact valV_ent x L
structure Bx (H : Hp) (d : Addr) (L : List Ent) : Prop where
  rd : Rd H d (.dK (entK L))
  sides : ∀ e ∈ L, H e.2.1 = some (.lst (e.2.2.map V.int))
  nd : (L.map (·.1)).Nodup
  few : L.length ≤ 40
theorem Rd.same {H H' : Hp} {a : Addr} {u : HO} (s : Same H H') (r : Rd H a u) : Rd H' a u := r.elim (fun h => .inl (s _ _ h)) fun ⟨o, h⟩ => .inr ⟨o, s _ _ h⟩
theorem Bx.same {H H' : Hp} {d : Addr} {L : List Ent} (B : Bx H d L) (s : Same H H') : Bx H' d L := ⟨Rd.same s B.rd, fun e he => s _ _ (B.sides e he), B.nd, B.few⟩
theorem Bx.get {H : Hp} {d : Addr} {L : List Ent} (B : Bx H d L) (x : Str) : DGet H d (.str x) ((getE L x).map fun e => V.ref e.2.1) := .inl ⟨entK L, .inr x, B.rd, rfl, (valV_ent x L).symm⟩
/-- two boxes that say the same -/
def SameB (L M : List Ent) : Prop := ∀ x, look L x = look M x
theorem look_isSome {L : List Ent} {x : Str} : (look L x).isSome = true ↔ x ∈ L.map (·.1) := by
  unfold look
  rw [Option.isSome_map]
  cases h : getE L x with
  | none => simp [getE_none.mp h]
  | some e => simp only [Option.isSome_some, true_iff]; obtain ⟨a, b⟩ := getE_mem h; exact b ▸ List.mem_map_of_mem a
theorem len_le {α : Type} [DecidableEq α] : ∀ {l m : List α}, l.Nodup → (∀ x ∈ l, x ∈ m) → l.length ≤ m.length
  | [], _, _, _ => Nat.zero_le _
  | x :: l, m, nd, h => by
    rw [List.nodup_cons] at nd
    have hx := h x List.mem_cons_self
    have ih := len_le (m := m.erase x) nd.2 (fun y hy => (List.mem_erase_of_ne (fun (e : y = x) => nd.1 (by rw [← e]; exact hy))).2 (h y (List.mem_cons_of_mem _ hy)))
    rw [List.length_erase_of_mem hx] at ih
    have : 0 < m.length := List.length_pos_of_mem hx
    rw [List.length_cons]
    omega
theorem SameB.len {L M : List Ent} (s : SameB L M) (n1 : (L.map (·.1)).Nodup) (n2 : (M.map (·.1)).Nodup) : L.length = M.length := by
  have h1 := len_le n1 (fun x hx => look_isSome.mp (by rw [← s x]; exact look_isSome.mpr hx))
  have h2 := len_le n2 (fun x hx => look_isSome.mp (by rw [s x]; exact look_isSome.mpr hx))
  rw [List.length_map, List.length_map] at h1 h2
  omega
/-- v in ks, as the model asks it -/
theorem in_ints (ks : List Int) (v : Int) : inV (.int v) (ks.map V.int) = decide (v ∈ ks) := by
  unfold inV
  induction ks with
  | nil => simp
  | cons k ks ih =>
    rw [List.map_cons, List.any_cons, ih]
    have e : eqV (.int k) (.int v) = decide (k = v) := by
      by_cases c : k = v
      · subst c; simp [eqV]
      · simp [eqV, c]
    rw [e]
    by_cases c : k = v
    · subst c; simp
    · have c2 : ¬ v = k := fun z => c z.symm
      simp [c, c2]
theorem flat_ints (ks : List Int) : (ks.map V.int).all flatV = true := by
  rw [List.all_map]
  exact List.all_eq_true.mpr fun _ _ => rfl
section
variable {P : Program} {w : World} {K : PySem.W.Frag} {mg : Str → Option Value} {base : Heap}
/-! ### the program: boxes -/
/-- a box that no walk has locked -/
structure Bu (H : Hp) (d : Addr) (L : List Ent) : Prop extends Bx H d L where
  un : H d = some (.dK (entK L))
theorem Bu.same' {H H' : Hp} {d : Addr} {L : List Ent} (B : Bu H d L) (s : Same H H') : Bu H' d L := ⟨B.toBx.same s, s _ _ B.un⟩
/-! ### holds -/
def intK (A : List (Str × Int)) : List (Key × V) := A.map fun e => (Sum.inr e.1, V.int e.2)
def aget (A : List (Str × Int)) (x : Str) : Option Int := (A.find? fun e => decide (e.1 = x)).map (·.2)
theorem valV_int (x : Str) : ∀ A : List (Str × Int), valV (intK A) (.inr x) = (aget A x).map V.int
  | [] => rfl
  | e :: A => by
    by_cases h : e.1 = x
    · have : aget (e :: A) x = some e.2 := by simp [aget, List.find?_cons, h]
      rw [this]
      exact valV_pos (congrArg Sum.inr h)
    · have : aget (e :: A) x = aget A x := by simp [aget, List.find?_cons, h]
      rw [this]
      have : valV (intK (e :: A)) (.inr x) = valV (intK A) (.inr x) := valV_neg (fun z => h (Sum.inr.inj z))
      rw [this]
      exact valV_int x A
/-- an assignment: a dict from texts to ints -/
structure Ax (H : Hp) (d : Addr) (A : List (Str × Int)) : Prop where
  rd : Rd H d (.dK (intK A))
theorem Ax.same {H H' : Hp} {d : Addr} {A : List (Str × Int)} (B : Ax H d A) (s : Same H H') : Ax H' d A := ⟨Rd.same s B.rd⟩
theorem Ax.get {H : Hp} {d : Addr} {A : List (Str × Int)} (B : Ax H d A) (x : Str) : DGet H d (.str x) ((aget A x).map V.int) := .inl ⟨intK A, .inr x, B.rd, rfl, (valV_int x A).symm⟩
theorem Ax.frz {H : Hp} {v d : Addr} {A : List (Str × Int)} {u : HO} (B : Ax H v A) (h : v ≠ d) : Ax (upd H d u) v A := ⟨B.rd.elim (fun q => .inl (by rw [upd_ne h]; exact q)) fun ⟨o, q⟩ => .inr ⟨o, by rw [upd_ne h]; exact q⟩⟩
/-! ### box_within -/
end
/-- a new box with sides of its own -/
structure Nb (H0 H : Hp) (d : Addr) (L : List Ent) : Prop extends Bu H d L where
  fresh : H0 d = none
  freshS : ∀ e ∈ L, H0 e.2.1 = none
  inj : (L.map (·.2.1)).Nodup
theorem Nb.push {H0 H1 H2 : Hp} {d : Addr} {L : List Ent} (N : Nb H0 H1 d L) (s : Same H1 H2) : Nb H0 H2 d L := ⟨N.toBu.same' s, N.fresh, N.freshS, N.inj⟩
/-! ### what two sorted lists have together -/
def ins (k : Int) : List Int → List Int
  | [] => [k]
  | x :: l => if k < x then k :: x :: l else if k = x then x :: l else x :: ins k l
structure Sz (L : List Ent) (n : Nat) : Prop where
  srt : ∀ e ∈ L, Srt e.2.2
  len : ∀ e ∈ L, e.2.2.length ≤ n
theorem ne_some' {H : Hp} {p q : Addr} {o : HO} (h : H p = some o) (n : H q = none) : p ≠ q := fun e => by rw [e, n] at h; cases h
section
variable {P : Program} {w : World} {K : PySem.W.Frag} {mg : Str → Option Value} {base : Heap}
/-! ### the pool, a part of it -/
abbrev sPool : Stmt := topS 42
abbrev nPool : List Str := ["_law_stream_here", "_law_count", "_law_pool_here", "_law_k", "_law_scale", "_law_value"]
theorem scPool : FnScope nPool ["_law_stream_here", "_law_count"] (defScope sPool) := ⟨rfl, rfl, rfl, by decide +kernel, rfl, by decide +kernel, by decide +kernel⟩
theorem srt_snoc {ss : List Int} {v : Int} (s : Srt ss) (h : ∀ k ∈ ss, k < v) : Srt (ss ++ [v]) :=
  List.pairwise_append.mpr ⟨s, List.pairwise_singleton _ _, fun a ha b hb => by rw [List.mem_singleton.mp hb]; exact h a ha⟩
def spPool : Sp := fun vs H Q _ => ∃ (p : Addr) (m : Nat), vs = [.ref p, .int (m : Int)] ∧ Strm H p ∧ 1 ≤ m ∧ m ≤ 100 ∧
  ∀ (H' : Hp) (l : Addr) (ns : List Int), Keep p H H' → H l = none → Strm H' p → H' l = some (.lst (ns.map V.int)) → Srt ns → ns.length = m → Q (.ref l) H'
theorem ok_pool {f fD : Addr} {fd fdD : FuncData} (F : Fun K "_law_pool" "_law_pool" sPool f fd) (B : Bt mg) (D : Call P w K mg base 1 "_law_next" fD fdD ["_law_stream_here", "_law_size"] spDraw) :
    FnOk P w K mg base CX0 2 f fd ["_law_stream_here", "_law_count"] spPool := by
  refine F.ok scPool (fun vs H Q E h => ?_) (fun cdv A outer s H vs Q E hr h => ?_)
  · obtain ⟨p, m, rfl, _⟩ := h
    rfl
  · obtain ⟨p, m, rfl, hp, m0, m1, q⟩ := h
    have nd := scPool.nd
    refine ⟨_, pss_cons (ps_set (i := 2) nd rfl (.inl rfl) (pe_lst (pa_cons (pe_op op_sub (pe_call D.ok hr (by rfl) D.at_ D.kp D.bd .nil pass0 (pa_cons (pv 0) (pa_cons pe_int pa_nil))) pe_int) pa_nil)))
      (pss_cons (ps_for PassesOwn.never rfl (pi_range1 (by rfl) B.range (pa_cons (pe_op op_sub (pv 1) pe_int) pa_nil)) (pg_name (i := 3) nd rfl (.inl rfl))
        (pss_one (ps_expr (pe_bm PySem.F.plainAttrs_list PySem.F.slot_list_append PySem.F.type_list_append mt_append (pv 2) (pa_cons
          (pe_op op_add (pe_op op_add (pe_ix ix_list (pv 2) (pv 3) (fun _ _ => rfl)) pe_int) (pe_op op_mul pe_int (pe_op op_fdiv (pe_call D.ok hr (by rfl) D.at_ D.kp D.bd .nil pass0 (pa_cons (pv 0) (pa_cons pe_int pa_nil))) pe_int))) pa_nil)))))
      (pss_cons (ps_set (i := 4) nd rfl (.inr rfl) (pe_ix ix_list (pe_lst (pa_cons pe_int (pa_cons pe_int (pa_cons pe_int (pa_cons pe_int (pa_cons pe_int (pa_cons pe_int (pa_cons pe_int (pa_cons (pe_op op_pow pe_int pe_int) pa_nil)))))))))
          (pe_call D.ok hr (by rfl) D.at_ D.kp D.bd .nil pass0 (pa_cons (pv 0) (pa_cons pe_int pa_nil))) (fun _ _ => rfl)))
      (pss_one (ps_ret (pe_lc (own := [("_law_value", 5)]) (g := gName 5) (tt := tYes) rfl nd (pi_list (pv 2)) (blkOk_by (N := nPool) (sc := defScope sPool) (by decide +kernel)) (fun _ _ _ _ _ => pg_name (i := 5) nd rfl (Or.inl rfl)) (fun _ _ _ _ _ => pts_nil)
        (fun _ _ _ _ _ => pe_op op_mul (pv 5) (pv 4))))))), ?_⟩
    refine ⟨.ref p, rfl, p, 9, rfl, hp, by decide, by decide, fun H1 d o1 st1 d0 d1 => ⟨d, 4, rfl, rfl, by show 1 ≤ sizeLine; decide, fun l nl1 => ?_⟩⟩
    have npl : p ≠ l := fun z => st1.some (z ▸ nl1)
    have nl : H l = none := by rw [← o1 l npl.symm]; exact nl1
    refine ⟨.int (m : Int), rfl, (m : Int), 1, rfl, rfl, (m : Int) - 1, rfl, by omega, by omega, for_range (lo := 0) (n := ((m : Int) - 1).toNat) (fun i σ H' => ∃ (y3 : Option V) (ns : List Int), σ = [some (.ref p), some (.int (m : Int)), some (.ref l), y3, none, none] ∧ Keep p H H' ∧ Strm H' p ∧ H' l = some (.lst (ns.map V.int)) ∧ Srt ns ∧ ns.length = i + 1 ∧ ∃ z, ns = ns.take i ++ [z])
      ⟨none, [d - 4], rfl, ((Keep.refl p H).oth o1).at_ nl, st1.upd npl, upd_same, List.pairwise_singleton _ _, rfl, d - 4, rfl⟩ ?_ ?_⟩
    · rintro i σ H' hi ⟨y3, ns, rfl, kp, st, el, so, len, z, ez⟩
      have gz : (ns.map V.int)[i]? = some (.int z) := by
        rw [ez, List.map_append, List.getElem?_append_right (by rw [List.length_map, List.length_take]; omega)]
        rw [List.length_map, List.length_take, show i - min i ns.length = 0 by omega]
        rfl
      refine ⟨.ref l, rfl, .inl ⟨rfl, _, sl_map el⟩, .ref l, rfl, .int (0 + (i : Int)), rfl, l, _, _, _, rfl, rfl, sl_map el, at_of (by omega) gz, z, 1, rfl, rfl, .ref p, rfl, p, 4, rfl, st, by decide, by decide, fun H2 e o2 st2 e0 e1 => ?_⟩
      refine ⟨e, 3, rfl, rfl, ⟨by decide, by decide⟩, 2, e / 3, rfl, rfl, .inl ⟨by decide, by decide⟩, z + 1, 2 * (e / 3), rfl, rfl, l, _, _, rfl, rfl, (o2 l npl.symm).trans el, ?_, ?_⟩
      · rw [List.length_map]
        exact small1000 (by omega)
      · have e3 : 0 ≤ e / 3 := Int.ediv_nonneg e0 (by decide)
        refine ⟨_, ns ++ [z + 1 + 2 * (e / 3)], rfl, (kp.oth o2).at_ nl, st2.upd npl, by rw [upd_same, List.map_append]; rfl, srt_snoc so fun k hk => ?_, by rw [List.length_append, len]; rfl, z + 1 + 2 * (e / 3), ?_⟩
        · rw [ez] at hk so
          rcases List.mem_append.mp hk with h | h
          · have := (List.pairwise_append.mp so).2.2 k h z (List.mem_singleton.mpr rfl)
            omega
          · have := List.mem_singleton.mp h
            omega
        · rw [List.take_append_of_le_length (by omega), List.take_of_length_le (by omega)]
    · rintro σ H' ⟨y3, ns, rfl, kp, st, el, so, len, z, ez⟩
      refine ⟨10, 9, rfl, rfl, ⟨by decide, by decide, by decide⟩, by show 8 ≤ sizeLine; decide, fun t nt => ?_⟩
      have npt : p ≠ t := fun e => st.some (e ▸ nt)
      have nlt : l ≠ t := ne_some' el nt
      refine ⟨.ref p, rfl, p, 8, rfl, st.upd npt, by decide, by decide, fun H2 e o2 st2 e0 e1 => ?_⟩
      have et : H2 t = some (.lst [V.int 1, V.int 1, V.int 1, V.int 1, V.int 1, V.int 1, V.int 7, V.int (10 ^ (9 : Int).toNat)]) := (o2 t npt.symm).trans upd_same
      obtain ⟨sc, hsc, sc0, sc1⟩ : ∃ sc : Int, atI [V.int 1, V.int 1, V.int 1, V.int 1, V.int 1, V.int 1, V.int 7, V.int (10 ^ (9 : Int).toNat)] e = some (.int sc) ∧ 0 < sc ∧ sc < 2 ^ 64 := by
        have : e = 0 ∨ e = 1 ∨ e = 2 ∨ e = 3 ∨ e = 4 ∨ e = 5 ∨ e = 6 ∨ e = 7 := by omega
        rcases this with h | h | h | h | h | h | h | h
        · exact ⟨_, by rw [h]; exact atI_nat (j := 0) rfl, by decide, by decide⟩
        · exact ⟨_, by rw [h]; exact atI_nat (j := 1) rfl, by decide, by decide⟩
        · exact ⟨_, by rw [h]; exact atI_nat (j := 2) rfl, by decide, by decide⟩
        · exact ⟨_, by rw [h]; exact atI_nat (j := 3) rfl, by decide, by decide⟩
        · exact ⟨_, by rw [h]; exact atI_nat (j := 4) rfl, by decide, by decide⟩
        · exact ⟨_, by rw [h]; exact atI_nat (j := 5) rfl, by decide, by decide⟩
        · exact ⟨_, by rw [h]; exact atI_nat (j := 6) rfl, by decide, by decide⟩
        · exact ⟨_, by rw [h]; exact atI_nat (j := 7) rfl, by decide, by decide⟩
      refine ⟨t, _, e, .int sc, rfl, rfl, sl_map et, hsc, ?_⟩
      have el2 : H2 l = some (.lst (ns.map V.int)) := by rw [o2 l npl.symm, upd_ne nlt]; exact el
      have kp2 : Keep p H H2 := (kp.at_ (kp.free st nt)).oth o2
      refine ⟨.ref l, rfl, l, rfl, ⟨_, sl_map el2⟩, fun R nR => lc_list (xs := ns.map V.int) (fun i H3 => Same H2 H3 ∧ H3 R = some (.lst (((ns.take i).map (· * sc)).map V.int))) ⟨same_new nR, upd_same⟩ (fun i H3 _ h => h.1.seq (sl_map el2)) ?_ ?_⟩
      · rintro i x H3 hx ⟨sm, eR⟩
        rw [List.getElem?_map] at hx
        obtain ⟨v, hv, rfl⟩ := Option.map_eq_some_iff.mp hx
        have hi := (List.getElem?_eq_some_iff.mp hv).1
        refine ⟨rfl, .int v, rfl, .int sc, rfl, v, sc, rfl, rfl, .inr ⟨by omega, by omega⟩, _, eR, ?_, same_at sm nR, ?_⟩
        · rw [List.length_map, List.length_map, List.length_take]
          exact small1000 (by omega)
        · rw [upd_same, List.take_add_one, hv, List.map_append, List.map_append]
          rfl
      · rintro H3 ⟨sm, eR⟩
        rw [List.length_map, List.take_length] at eR
        refine q H3 R _ (fun b u hb e => sm _ _ (kp2 b u hb e)) (kp2.free st2 nR) (st2.keep (Keep.same (p := R) sm) (fun z => st2.some (z ▸ nR))) eR ?_ ?_
        · unfold Srt
          rw [List.pairwise_map]
          exact so.imp fun h => Int.mul_lt_mul_of_pos_right h sc0
        · rw [List.length_map]
          omega
end
/-! ### names -/
def plainN : List Str := ["x", "yard", "z", "u", "wide_one", "q", "pp", "t"]
def lettersN : Str := "qwertyuiopasdfghjklzxcvbnm_zyx"
def digitsN : Str := "7305186429"
theorem plain_nodup : ((List.range 8).all fun s => decide (((List.range 8).map fun k => plainN.getD ((k * 3 + s) % 8) "x").Nodup)) = true := by decide +kernel
def isDig (c : Nat) : Bool := decide (48 ≤ c) && decide (c ≤ 57)
def mark (z : Str) : Option Nat := z.cps.toList.find? isDig
theorem letters_none : (lettersN.cps.toList.all fun c => !isDig c) = true := by decide +kernel
theorem digits_are : (digitsN.cps.toList.all isDig) = true := by decide +kernel
theorem digits_nodup : digitsN.cps.toList.Nodup := by decide +kernel
theorem digits_len : digitsN.cps.toList.length = 10 := by decide +kernel
theorem letters_len : lettersN.length = 30 := by decide +kernel
theorem cut_letters (lo hi : Option Int) : ∀ c ∈ (cutS lettersN lo hi).cps.toList, isDig c = false := fun c hc => by
  have h1 : c ∈ lettersN.cps.toList := by
    have : (cutS lettersN lo hi).cps.toList = (lettersN.cps.toList.drop (HT.sIx lettersN.length 0 lo)).take (HT.sIx lettersN.length lettersN.length hi - HT.sIx lettersN.length 0 lo) := by
      unfold cutS
      simp
    rw [this] at hc
    exact List.mem_of_mem_drop (List.mem_of_mem_take hc)
  have := List.all_eq_true.mp letters_none c h1
  simpa using this
theorem cut_len (lo hi : Option Int) : (cutS lettersN lo hi).length ≤ 30 := by
  have h : (cutS lettersN lo hi).cps.toList.length ≤ 30 := by
    unfold cutS
    simp only [List.toList_toArray]
    have l : lettersN.cps.toList.length = 30 := letters_len
    rw [List.length_take, List.length_drop]
    omega
  exact h
theorem mark_of (x t : Str) (c : Nat) (hx : ∀ d ∈ x.cps.toList, isDig d = false) (hc : isDig c = true) : mark (x ++ ⟨#[c]⟩ ++ t) = some c := by
  unfold mark
  have e : (x ++ ⟨#[c]⟩ ++ t).cps.toList = x.cps.toList ++ [c] ++ t.cps.toList := by
    show ((x.cps ++ #[c]) ++ t.cps).toList = _
    simp
  rw [e, List.append_assoc, List.find?_append]
  have : x.cps.toList.find? isDig = none := List.find?_eq_none.mpr fun d hd => by rw [hx d hd]; simp
  rw [this]
  show (([c] ++ t.cps.toList).find? isDig) = some c
  simp [hc]
theorem ok_of {x : Str} (h : ∀ c ∈ x.cps.toList, c < 0x110000) : PyData.strOk x = true := by
  unfold PyData.strOk
  rw [← Array.all_toList]
  exact List.all_eq_true.mpr fun c hc => decide_eq_true (h c hc)
theorem plain_ok : (plainN.all fun x => PyData.strOk x) = true := by decide +kernel
theorem letters_low : (lettersN.cps.toList.all fun c => decide (c < 0x110000)) = true := by decide +kernel
theorem digits_low : (digitsN.cps.toList.all fun c => decide (c < 0x110000)) = true := by decide +kernel
theorem cut_low (lo hi : Option Int) : ∀ c ∈ (cutS lettersN lo hi).cps.toList, c < 0x110000 := fun c hc => by
  have h1 : c ∈ lettersN.cps.toList := by
    have : (cutS lettersN lo hi).cps.toList = (lettersN.cps.toList.drop (HT.sIx lettersN.length 0 lo)).take (HT.sIx lettersN.length lettersN.length hi - HT.sIx lettersN.length 0 lo) := by
      unfold cutS
      simp
    rw [this] at hc
    exact List.mem_of_mem_drop (List.mem_of_mem_take hc)
  exact of_decide_eq_true (List.all_eq_true.mp letters_low c h1)
theorem name_ok (lo hi lo2 hi2 : Option Int) (c : Nat) (hc : c ∈ digitsN.cps.toList) : PyData.strOk (cutS lettersN lo hi ++ ⟨#[c]⟩ ++ cutS lettersN lo2 hi2) = true := ok_of fun d hd => by
  have e : (cutS lettersN lo hi ++ ⟨#[c]⟩ ++ cutS lettersN lo2 hi2).cps.toList = (cutS lettersN lo hi).cps.toList ++ [c] ++ (cutS lettersN lo2 hi2).cps.toList := by
    show (((cutS lettersN lo hi).cps ++ #[c]) ++ (cutS lettersN lo2 hi2).cps).toList = _
    simp
  rw [e] at hd
  rcases List.mem_append.mp hd with h | h
  · rcases List.mem_append.mp h with h | h
    · exact cut_low lo hi d h
    · rw [List.mem_singleton.mp h]
      exact of_decide_eq_true (List.all_eq_true.mp digits_low c hc)
  · exact cut_low lo2 hi2 d h
theorem str_one (c : Nat) : (⟨#[c]⟩ : Str).length = 1 := rfl
theorem len_app (x y : Str) : (x ++ y).length = x.length + y.length := by
  show (x.cps ++ y.cps).size = _
  exact Array.size_append
section
variable {P : Program} {w : World} {K : PySem.W.Frag} {mg : Str → Option Value} {base : Heap}
abbrev sNames : Stmt := topS 41
abbrev nNames : List Str := ["_law_stream_here", "_law_count", "_law_shift", "_law_plain", "_law_k", "_law_letters", "_law_names_here", "_law_at", "_law_size", "_law_tail"]
theorem scNames : FnScope nNames ["_law_stream_here", "_law_count"] (defScope sNames) := ⟨rfl, rfl, rfl, by decide +kernel, rfl, by decide +kernel, by decide +kernel⟩
def spNames : Sp := fun vs H Q _ => ∃ (p : Addr) (m : Nat), vs = [.ref p, .int (m : Int)] ∧ Strm H p ∧ m ≤ 8 ∧
  ∀ (H' : Hp) (l : Addr) (xs : List Str), Keep p H H' → H l = none → Strm H' p → H' l = some (.lst (xs.map V.str)) → xs.Nodup → xs.length = m → (∀ x ∈ xs, PyData.strOk x = true) → Q (.ref l) H'
theorem ok_names {f fD : Addr} {fd fdD : FuncData} (F : Fun K "_law_names" "_law_names" sNames f fd) (B : Bt mg) (D : Call P w K mg base 1 "_law_next" fD fdD ["_law_stream_here", "_law_size"] spDraw) :
    FnOk P w K mg base CX0 2 f fd ["_law_stream_here", "_law_count"] spNames := by
  refine F.ok scNames (fun vs H Q E h => ?_) (fun cdv A outer s H vs Q E hr h => ?_)
  · obtain ⟨p, m, rfl, _⟩ := h
    rfl
  · obtain ⟨p, m, rfl, hp, m8, q⟩ := h
    have nd := scNames.nd
    refine ⟨_, pss_cons (ps_if (pt_cmpR op_eq (pe_call D.ok hr (by rfl) D.at_ D.kp D.bd .nil pass0 (pa_cons (pv 0) (pa_cons pe_int pa_nil))) pe_int (nomark _))
        (pss_cons (ps_set (i := 2) nd rfl (.inr rfl) (pe_call D.ok hr (by rfl) D.at_ D.kp D.bd .nil pass0 (pa_cons (pv 0) (pa_cons pe_int pa_nil))))
        (pss_cons (ps_set (i := 3) nd rfl (.inr rfl) (pe_lst (pa_cons pe_str (pa_cons pe_str (pa_cons pe_str (pa_cons pe_str (pa_cons pe_str (pa_cons pe_str (pa_cons pe_str (pa_cons pe_str pa_nil))))))))))
        (pss_one (ps_ret (pe_lc (own := [("_law_k", 4)]) (g := gName 4) (tt := tYes) rfl nd (pi_range1 (by rfl) B.range (pa_cons (pv 1) pa_nil)) (blkOk_by (N := nNames) (sc := defScope sNames) (by decide +kernel)) (fun _ _ _ _ _ => pg_name (i := 4) nd rfl (Or.inl rfl)) (fun _ _ _ _ _ => pts_nil)
          (fun _ _ _ _ _ => pe_ix (r := rIxL K) ix_list (pv 3) (pe_op op_mod (pe_callTy call_int1 (by rfl) B.int PyProof.Rows.boot_int (pa_cons (pe_op op_add (pe_op op_mul (pv 4) pe_int) (pv 2)) pa_nil)) pe_int) (fun _ _ => rfl))))))) pss_nil)
      (pss_cons (ps_set (i := 5) nd rfl (.inl rfl) pe_str)
      (pss_cons (ps_set (i := 6) nd rfl (.inl rfl) (pe_lst pa_nil))
      (pss_cons (ps_for PassesOwn.never rfl (pi_range1 (by rfl) B.range (pa_cons (pv 1) pa_nil)) (pg_name (i := 4) nd rfl (.inl rfl))
        (pss_cons (ps_set (i := 7) nd rfl (.inl rfl) (pe_call D.ok hr (by rfl) D.at_ D.kp D.bd .nil pass0 (pa_cons (pv 0) (pa_cons pe_int pa_nil))))
        (pss_cons (ps_set (i := 8) nd rfl (.inl rfl) (pe_op op_add pe_int (pe_call D.ok hr (by rfl) D.at_ D.kp D.bd .nil pass0 (pa_cons (pv 0) (pa_cons pe_int pa_nil)))))
        (pss_cons (ps_set (i := 9) nd rfl (.inl rfl) (pe_slice sl_str (pv 5) (po_some (pe_op op_sub pe_int (pe_call D.ok hr (by rfl) D.at_ D.kp D.bd .nil pass0 (pa_cons (pv 0) (pa_cons pe_int pa_nil))))) (po_some pe_int)))
        (pss_one (ps_expr (pe_bm PySem.F.plainAttrs_list PySem.F.slot_list_append PySem.F.type_list_append mt_append (pv 6) (pa_cons
          (pe_op op_add_str (pe_op op_add_str (pe_slice sl_str (pv 5) (po_some (pv 7)) (po_some (pe_op op_add (pv 7) (pv 8)))) (pe_ix ix_str pe_str (pv 4) (fun _ _ => rfl))) (pv 9)) pa_nil))))))))
      (pss_one (ps_ret (pv 6)))))), ?_⟩
    refine ⟨.ref p, rfl, p, 3, rfl, hp, by decide, by decide, fun H1 d o1 st1 d0 d1 => ⟨rfl, _, rfl, ite2 (fun c => ?_) (fun c => ?_)⟩⟩
    · -- the plain names
      refine ⟨.ref p, rfl, p, 8, rfl, st1, by decide, by decide, fun H2 s o2 st2 s0 s1 => ?_⟩
      refine ⟨by show 8 ≤ sizeLine; decide, fun pl npl => ?_⟩
      have npp : p ≠ pl := fun z => st2.some (z ▸ npl)
      have epl : (upd H2 pl (.lst (plainN.map V.str))) pl = some (.lst (plainN.map V.str)) := upd_same
      refine ⟨.int (m : Int), rfl, (m : Int), rfl, by omega, by omega, fun R nR => ?_⟩
      have fin : ∀ k : Nat, k < m → (plainN.map V.str)[(k * 3 + s.toNat) % 8]? = some (.str (plainN.getD ((k * 3 + s.toNat) % 8) "x")) := fun k hk => by
        have : (k * 3 + s.toNat) % 8 < plainN.length := Nat.mod_lt _ (by decide)
        rw [List.getElem?_map, List.getD_eq_getElem?_getD, List.getElem?_eq_getElem this]
        rfl
      refine lc_range (lo := 0) (fun i H' => Same (upd H2 pl (.lst (plainN.map V.str))) H' ∧ H' R = some (.lst (((List.range i).map fun k => plainN.getD ((k * 3 + s.toNat) % 8) "x").map V.str))) ⟨same_new nR, upd_same⟩ ?_ ?_
      · rintro i H' hi ⟨sm, eR⟩
        have hi' : i < m := by omega
        refine ⟨rfl, .ref pl, rfl, .int (0 + (i : Int)), rfl, 0 + (i : Int), 3, rfl, rfl, .inr ⟨by decide, by decide⟩, .int s, rfl, (0 + (i : Int)) * 3, s, rfl, rfl, .inl ⟨_, rfl, (0 + (i : Int)) * 3 + s, 8, rfl, rfl, ?_, ?_⟩⟩
        · show (0 : Int) < 8
          decide
        · refine ⟨pl, _, _, _, rfl, rfl, sl_map (sm _ _ epl), at_of (j := (i * 3 + s.toNat) % 8) (by omega) (fin i hi'), _, eR, ?_, same_at sm nR, ?_⟩
          · rw [List.length_map, List.length_map, List.length_range]
            exact small1000 (by omega)
          · rw [upd_same, List.range_succ, List.map_append, List.map_append]
            rfl
      · rintro H' ⟨sm, eR⟩
        have smH : Keep p H2 H' := fun b u hb e => sm _ _ (by rw [upd_ne (ne_of_none e npl)]; exact e)
        have nR2 : H2 R = none := (same_new npl).free nR
        have st' : Strm H' p := by
          obtain ⟨x, y, z, e⟩ := st2
          exact ⟨x, y, z, sm _ _ (by rw [upd_ne npp]; exact e)⟩
        refine q H' R _ ((((Keep.refl p H).oth o1).oth o2).trans smH) ((((Keep.refl p H).oth o1).oth o2).free st2 nR2) st' eR ?_ ?_ ?_
        · have h8 := List.all_eq_true.mp plain_nodup s.toNat (List.mem_range.mpr (by omega))
          have h9 := of_decide_eq_true h8
          have e8 : (List.range (m : Int).toNat) = (List.range 8).take m := by
            rw [List.take_range, show min m 8 = (m : Int).toNat by omega]
          rw [e8, List.map_take]
          exact List.Pairwise.sublist (List.take_sublist _ _) h9
        · rw [List.length_map, List.length_range]
          omega
        · intro x hx
          obtain ⟨k, _, rfl⟩ := List.mem_map.mp hx
          have lt : (k * 3 + s.toNat) % 8 < plainN.length := Nat.mod_lt _ (by decide)
          rw [List.getD_eq_getElem?_getD, List.getElem?_eq_getElem lt]
          exact List.all_eq_true.mp plain_ok _ (List.getElem_mem lt)
    · -- letters, a digit, letters
      refine ⟨Nat.zero_le _, fun l nl1 => ?_⟩
      have npl : p ≠ l := fun z => st1.some (z ▸ nl1)
      have nl : H l = none := by rw [← o1 l npl.symm]; exact nl1
      refine ⟨.int (m : Int), rfl, (m : Int), rfl, by omega, by omega, for_range (lo := 0) (n := ((m : Int)).toNat) (fun i σ H' => ∃ (y4 y7 y8 y9 : Option V) (xs : List Str), σ = [some (.ref p), some (.int (m : Int)), none, none, y4, some (.str lettersN), some (.ref l), y7, y8, y9] ∧ Keep p H H' ∧ Strm H' p ∧ H' l = some (.lst (xs.map V.str)) ∧ xs.length = i ∧ (∀ x ∈ xs, PyData.strOk x = true) ∧ ∀ j x, xs[j]? = some x → mark x = digitsN.cps.toList[j]?)
        ⟨none, none, none, none, [], rfl, ((Keep.refl p H).oth o1).at_ nl, st1.upd npl, upd_same, rfl, (fun _ h => nomatch h), fun j x h => absurd ((List.getElem?_nil (α := Str) (i := j)).symm.trans h) (by simp)⟩ ?_ ?_⟩
      · rintro i σ H' hi ⟨y4, y7, y8, y9, xs, rfl, kp, st, el, len, sok, mk⟩
        have hi' : i < m := by omega
        refine ⟨.ref p, rfl, p, 26, rfl, st, by decide, by decide, fun H2 a o2 st2 a0 a1 => ?_⟩
        refine ⟨.ref p, rfl, p, 3, rfl, st2, by decide, by decide, fun H3 b o3 st3 b0 b1 => ⟨1, b, rfl, rfl, ?_⟩⟩
        refine ⟨_, rfl, .ref p, rfl, p, 3, rfl, st3, by decide, by decide, fun H4 t o4 st4 t0 t1 => ⟨26, t, rfl, rfl, _, rfl, 26, rfl, lettersN, rfl, by decide +kernel, ?_⟩⟩
        have el4 : H4 l = some (.lst (xs.map V.str)) := by rw [o4 l npl.symm, o3 l npl.symm, o2 l npl.symm]; exact el
        have hd : i < digitsN.cps.toList.length := by rw [digits_len]; omega
        have gd : digitsN.cps.toList[i]? = some digitsN.cps.toList[i] := List.getElem?_eq_getElem hd
        refine ⟨.ref l, rfl, .inl ⟨rfl, _, sl_map el4⟩, _, rfl, .int a, rfl, a, rfl, .int a, rfl, _, rfl, a, _, rfl, rfl, _, rfl, lettersN, rfl, by decide +kernel, .int (0 + (i : Int)), rfl, digitsN, _, digitsN.cps.toList[i], rfl, rfl, by decide +kernel, (by rw [show (0 : Int) + (i : Int) = ((i : Nat) : Int) by omega]; exact atI_nat gd), _, _, rfl, rfl, ?_, _, rfl, _, _, rfl, rfl, ?_, l, _, _, rfl, rfl, el4, ?_, ?_⟩
        · exact by have := cut_len (some a) (some (a + (1 + b))); rw [str_one]; exact Nat.le_trans (Nat.add_le_add_right this 1) (by decide)
        · exact by have := cut_len (some a) (some (a + (1 + b))); have h2 := cut_len (some (26 - t)) (some 26); rw [len_app, str_one]; exact Nat.le_trans (Nat.add_le_add (Nat.add_le_add_right this 1) h2) (by decide)
        · rw [List.length_map]
          exact small1000 (by omega)
        · have dg : isDig digitsN.cps.toList[i] = true := List.all_eq_true.mp digits_are _ (List.getElem_mem hd)
          refine ⟨_, _, _, _, xs ++ [cutS lettersN (some a) (some (a + (1 + b))) ++ ⟨#[digitsN.cps.toList[i]]⟩ ++ cutS lettersN (some (26 - t)) (some 26)], rfl, (((kp.oth o2).oth o3).oth o4).at_ nl, st4.upd npl, ?_, ?_, ?_, ?_⟩
          · rw [upd_same, List.map_append]
            rfl
          · rw [List.length_append, len]
            rfl
          · intro x hx
            rcases List.mem_append.mp hx with h | h
            · exact sok x h
            · rw [List.mem_singleton.mp h]
              exact name_ok _ _ _ _ _ (List.getElem_mem hd)
          · intro j x hj
            rcases Nat.lt_or_ge j i with c | c
            · rw [List.getElem?_append_left (by omega)] at hj
              exact mk j x hj
            · rw [List.getElem?_append_right (by omega)] at hj
              have ej : j = i := by
                have := (List.getElem?_eq_some_iff.mp hj).1
                rw [List.length_singleton] at this
                omega
              subst ej
              rw [show j - xs.length = 0 by omega] at hj
              have : _ = x := Option.some.inj hj
              rw [← this, gd]
              exact mark_of _ _ _ (cut_letters _ _) dg
      · rintro σ H' ⟨y4, y7, y8, y9, xs, rfl, kp, st, el, len, sok, mk⟩
        refine ⟨_, rfl, q H' l xs kp nl st el ?_ (by omega) sok⟩
        refine List.pairwise_iff_getElem.mpr fun j k hj hk hjk he => ?_
        have e1 := mk j _ (List.getElem?_eq_getElem hj)
        have e2 := mk k _ (List.getElem?_eq_getElem hk)
        rw [he] at e1
        have hk' : k < digitsN.cps.toList.length := by rw [digits_len]; omega
        have hj' : j < digitsN.cps.toList.length := by rw [digits_len]; omega
        have e3 := e1.symm.trans e2
        rw [List.getElem?_eq_getElem hj', List.getElem?_eq_getElem hk'] at e3
        exact List.pairwise_iff_getElem.mp digits_nodup j k hj' hk' hjk (Option.some.inj e3)
end
section
variable {P : Program} {w : World} {K : PySem.W.Frag} {mg : Str → Option Value} {base : Heap}
/-! ### a copy, by a loop -/
theorem Nb.nil {H H' : Hp} {D : Addr} (n : H D = none) (h : H' D = some (.dK [])) : Nb H H' D [] := ⟨⟨⟨.inl h, (fun _ he => nomatch he), .nil, Nat.zero_le _⟩, h⟩, n, (fun _ he => nomatch he), .nil⟩
/-! ### _law_holds, _law_within, _law_is -/
end
/-- all that was there, but what stands at one of these -/
def KeepL (as : List Addr) (H H' : Hp) : Prop := ∀ b o, b ∉ as → H b = some o → H' b = some o
theorem KeepL.refl (as : List Addr) (H : Hp) : KeepL as H H := fun _ _ _ e => e
theorem KeepL.same {as : List Addr} {H H1 H2 : Hp} (k : KeepL as H H1) (s : Same H1 H2) : KeepL as H H2 := fun b o h e => s _ _ (k b o h e)
theorem KeepL.trans {as : List Addr} {H H1 H2 : Hp} (k : KeepL as H H1) (s : KeepL as H1 H2) : KeepL as H H2 := fun b o h e => s b o h (k b o h e)
abbrev big : Int := 10 ^ (13 : Int).toNat
theorem SameB.get {L M : List Ent} (s : SameB L M) {e : Ent} (nd : (M.map (·.1)).Nodup) (h : e ∈ M) : ∃ t ∈ L, t.1 = e.1 ∧ t.2.2 = e.2.2 ∧ getE L e.1 = some t := by
  have q := s e.1
  rw [look_mem nd h] at q
  unfold look at q
  obtain ⟨t, ht, eq⟩ := Option.map_eq_some_iff.mp q
  obtain ⟨m1, m2⟩ := getE_mem ht
  exact ⟨t, m1, m2, eq, ht⟩
theorem cutV_to (xs : List V) (j : Nat) : cutV xs none (some (j : Int)) = xs.take j := by
  unfold cutV
  rw [HT.sIx_none, HT.sIx_nat, List.drop_zero, Nat.sub_zero]
  by_cases h : j ≤ xs.length
  · rw [Nat.min_eq_left h]
  · rw [Nat.min_eq_right (by omega), List.take_of_length_le (Nat.le_refl _), List.take_of_length_le (by omega)]
theorem cutV_from (xs : List V) (j : Nat) : cutV xs (some (j : Int)) none = xs.drop j := by
  unfold cutV
  rw [HT.sIx_none, HT.sIx_nat]
  by_cases h : j ≤ xs.length
  · rw [Nat.min_eq_left h, List.take_of_length_le (by rw [List.length_drop]; exact Nat.le_refl _)]
  · rw [Nat.min_eq_right (by omega), List.drop_length, List.drop_of_length_le (by omega)]
    simp
theorem Nb.keep {H0 H H' : Hp} {p d : Addr} {M : List Ent} (N : Nb H0 H d M) (hp : H0 p ≠ none) (k : Keep p H H') : Nb H0 H' d M := by
  have pd : d ≠ p := fun z => hp (z ▸ N.fresh)
  have away : ∀ g ∈ M, g.2.1 ≠ p := fun g hg z => hp (z ▸ N.freshS g hg)
  exact ⟨⟨⟨.inl (k _ _ pd N.un), fun g hg => k _ _ (away g hg) (N.sides g hg), N.nd, N.few⟩, k _ _ pd N.un⟩, N.fresh, N.freshS, N.inj⟩
theorem Bu.keep {H H' : Hp} {p d : Addr} {M : List Ent} (N : Bu H d M) (s : Strm H p) (k : Keep p H H') (away : ∀ g ∈ M, g.2.1 ≠ p) : Bu H' d M := by
  have pd : d ≠ p := fun z => by
    obtain ⟨x, y, w, e⟩ := s
    have := N.un
    rw [z, e] at this
    cases this
  exact ⟨⟨.inl (k _ _ pd N.un), fun g hg => k _ _ (away g hg) (N.sides g hg), N.nd, N.few⟩, k _ _ pd N.un⟩
/-! ### equal boxes, deep -/
/-! ### what the meet and the join hold -/
theorem Sz.mono {L : List Ent} {n m : Nat} (z : Sz L n) (h : n ≤ m) : Sz L m := ⟨z.srt, fun e he => Nat.le_trans (z.len e he) h⟩
/-! ### domains: a list of pairs of a name and a side -/
abbrev DomE := Addr × Ent
structure Doms (H : Hp) (l : Addr) (ds : List DomE) : Prop where
  lst : H l = some (.lst (ds.map fun d => V.ref d.1))
  tup : ∀ d ∈ ds, H d.1 = some (.tup [V.str d.2.1, V.ref d.2.2.1])
  side : ∀ d ∈ ds, H d.2.2.1 = some (.lst (d.2.2.2.map V.int))
theorem Doms.same {H H' : Hp} {l : Addr} {ds : List DomE} (D : Doms H l ds) (s : Same H H') : Doms H' l ds := ⟨s _ _ D.lst, fun d h => s _ _ (D.tup d h), fun d h => s _ _ (D.side d h)⟩
theorem Srt.sub {a b : List Int} (s : Srt b) (h : a.Sublist b) : Srt a := List.Pairwise.sublist h s
theorem Doms.keep {H H' : Hp} {p l : Addr} {ds : List DomE} (D : Doms H l ds) (k : Keep p H H') (hl : l ≠ p) (h : ∀ d ∈ ds, d.1 ≠ p ∧ d.2.2.1 ≠ p) : Doms H' l ds :=
  ⟨k _ _ hl D.lst, fun d hd => k _ _ (h d hd).1 (D.tup d hd), fun d hd => k _ _ (h d hd).2 (D.side d hd)⟩
end K23
set_option Elab.async false
set_option linter.all false
set_option maxRecDepth 100000
set_option maxHeartbeats 4000000
/-! Exceptions of own classes with fields: made, raised while a dict is walked, caught, asked for their class. -/
namespace CsX
open PySem PySem.Spec PyProof.Rows L2
/-- a block that is not reached -/
theorem pss_any {X : Cx} {l : List Stmt} : PSs X l (fun _ _ _ => False) := ⟨fun _ _ _ _ _ _ h => h.elim⟩
/-- __init__(self, f): self.f = f -/
def spIni (C : Addr) (f : Str) : Sp := fun vs H Q _ => ∃ (a : Addr) (v : V), vs = [.ref a, v] ∧ H a = some (exo a C none) ∧
  ∀ dx, H dx = none → dx ≠ a → Q .non (upd (upd H dx (exd dx [(f, v)])) a (exo a C (some dx)))
/-- __init__(self, f, g): self.f = f; self.g = g -/
def spIni2 (C : Addr) (f g : Str) : Sp := fun vs H Q _ => ∃ (a : Addr) (v u : V), vs = [.ref a, v, u] ∧ H a = some (exo a C none) ∧
  ∀ dx, H dx = none → dx ≠ a → Q .non (upd (upd (upd H dx (exd dx [(f, v)])) a (exo a C (some dx))) dx (exd dx [(g, u), (f, v)]))
/-- what the top has written of an own error with the fields fs, its __init__ at fI -/
structure Own (K : PySem.W.Frag) (mg : Str → Option Value) (x : Str) (C fI : Addr) (fs : List Str) : Prop where
  gC : mg x = some (.ref C)
  oex : OexC K C
  xf : XfC K C
  no : ∀ f ∈ fs, PySem.W.findIn K (.ref C) f = some none
  iC : PySem.W.findIn K (.ref C) "__init__" = some (some (.ref fI))
  tI : PySem.W.typeIn K (.ref fI) = some (.type "function")
  ex : ExcC K C
  te : PySem.W.exmOne K (.ref C) (.ref C) = some true
/-- what is asked of C(v) -/
theorem mk_one {C : Addr} {f : Str} {H1 : Hp} {v : V} {Q : XK} (h : ∀ d H2, H1 d = none → Same H1 H2 → H2 d = some (.xd [(f, v)]) → Q (.ref C) (some d) H2) :
    [v].length ≤ 1000 ∧ ∀ a, H1 a = none → spIni C f (V.ref a :: ([v] ++ [])) (upd H1 a (exo a C none)) (fun x H2 => x = .non ∧ ∃ (d : Addr) (fs : List (Str × V)), H2 a = some (exo a C (some d)) ∧ H2 d = some (exd d fs) ∧ H1 d = none ∧ Q (.ref C) (some d) (upd (del H2 a) d (.xd fs))) (fun _ _ _ => False) := by
  refine ⟨by show 1 ≤ 1000; decide, fun a na => ⟨a, v, rfl, upd_same, fun dx n ne => ?_⟩⟩
  have n1 : H1 dx = none := by rw [upd_ne ne] at n; exact n
  refine ⟨rfl, dx, _, upd_same, by rw [upd_ne ne, upd_same], n1, h dx _ n1 (fun b o e => ?_) upd_same⟩
  have hb : b ≠ dx := ne_of_none e n1
  have ha : b ≠ a := ne_of_none e na
  rw [upd_ne hb, del_ne ha, upd_ne ha, upd_ne hb, upd_ne ha]
  exact e
/-- what is asked of C(v, u) -/
theorem mk_two {C : Addr} {f g : Str} {H1 : Hp} {v u : V} {Q : XK} (h : ∀ d H2, H1 d = none → Same H1 H2 → H2 d = some (.xd [(g, u), (f, v)]) → Q (.ref C) (some d) H2) :
    [v, u].length ≤ 1000 ∧ ∀ a, H1 a = none → spIni2 C f g (V.ref a :: ([v, u] ++ [])) (upd H1 a (exo a C none)) (fun x H2 => x = .non ∧ ∃ (d : Addr) (fs : List (Str × V)), H2 a = some (exo a C (some d)) ∧ H2 d = some (exd d fs) ∧ H1 d = none ∧ Q (.ref C) (some d) (upd (del H2 a) d (.xd fs))) (fun _ _ _ => False) := by
  refine ⟨by show 2 ≤ 1000; decide, fun a na => ⟨a, v, u, rfl, upd_same, fun dx n ne => ?_⟩⟩
  have n1 : H1 dx = none := by rw [upd_ne ne] at n; exact n
  refine ⟨rfl, dx, _, by rw [upd_ne (Ne.symm ne), upd_same], upd_same, n1, h dx _ n1 (fun b o e => ?_) upd_same⟩
  have hb : b ≠ dx := ne_of_none e n1
  have ha : b ≠ a := ne_of_none e na
  rw [upd_ne hb, del_ne ha, upd_ne hb, upd_ne ha, upd_ne hb, upd_ne ha]
  exact e
/-- isinstance(e, c), isinstance(e, (c, ..)): e the exception that the suite holds, with fields -/
def rIsED (K : PySem.W.Frag) (a : Addr) (cls : Value) (d : Option Addr) : List V → Hp → VK → Prop := fun xs H Q => ∃ (C dd : Addr) (fs : List (Str × V)) (c : V) (b : Bool), xs = [.ref a, c] ∧ cls = .ref C ∧ d = some dd ∧ H dd = some (.xd fs) ∧ ExcC K C ∧
  ((∃ cv, (∀ u, RelV c u → u = cv) ∧ PySem.W.kitOne K (.ref C) cv = some b) ∨ ∃ (t : Addr) (cs : List Addr), c = .ref t ∧ H t = some (.tup (cs.map V.ref)) ∧ PySem.W.kitAny K (.ref C) (cs.map Value.ref) = some b) ∧ Q (.bl b) H
theorem vals_refs : ∀ {cs : List Addr} {us : List Value}, Vals (cs.map V.ref) us → us = cs.map Value.ref
  | [], _, h => by cases h; rfl
  | c :: cs, _, h => by
    cases h with
    | cons a b =>
      cases a
      exact congrArg (Value.ref c :: ·) (vals_refs b)
theorem call_isED {X : Cx} {a : Addr} {cls : Value} {d : Option Addr} {oe : Obj} {pn : List (Addr × Obj)} (hz : Zc cls d oe) (hf : ∃ vs, oe.data = .fields vs) : CallR (X.suite a ((a, oe) :: pn)) (.builtin "isinstance") (rIsED X.K a cls d) := by
  intro pins s σ H xs us Q I r h
  obtain ⟨D, dd, fs, c, b, rfl, rfl, rfl, hdd, C, hc, q⟩ := h
  cases r with
  | cons rx rr =>
    cases rr with
    | cons rt rr =>
      cases rr
      cases rx
      obtain ⟨hget, _⟩ := I.pin (a, oe) (List.mem_append.mpr (.inl List.mem_cons_self))
      obtain ⟨vs, hv⟩ := hf
      have hx : ObjOk X.prog X.w H s.heap dd (.xd fs) := I.hok dd _ hdd
      obtain ⟨mA, hns, hr⟩ := hx
      obtain ⟨od, ho, hl⟩ := lookIn_ns hns
      have J : PySem.W.InstAt s.heap a oe D (some od) := ⟨hget, hz.1, by unfold PySem.W.notCls; rw [hv] <;> rfl, by rw [hz.2]; exact ho⟩
      have cl : (PySem.W.clsIn X.K D).isSome = true := by
        obtain ⟨cd, e, _⟩ := PySem.W.any_some C.hd
        rw [e]; rfl
      have Z := fun (od : Option Obj) => PySem.W.kitx_exc (x := a) (ox := oe) (od := od) cl C.hg C.hk C.hs C.ha C.hn C.ht C.hm
      rcases hc with ⟨cv, hcv, e⟩ | ⟨t, cs, rfl, ht, e⟩
      · have ec := hcv _ rt
        subst ec
        exact PySem.W.kia_one (Z _) I.kIn J e (fun z => nomatch z) fun tk => ⟨.bl b, H, I.kept (t' := tk) fun _ _ z => z, rfl, q⟩
      · cases rt
        obtain ⟨_, its, rv, o, ho2, hcls, n, hdat⟩ := (show ObjOk X.prog X.w H s.heap t (.tup (cs.map V.ref)) from I.hok t _ ht)
        obtain ⟨oc, oda, odt, osl⟩ := o
        dsimp only at hcls hdat
        subst hcls hdat
        rw [← vals_refs rv] at e
        exact PySem.W.kia_tup (Z _) I.kIn J ho2 e (fun z => nomatch z) fun tk => ⟨.bl b, H, I.kept (t' := tk) fun _ _ z => z, rfl, q⟩
end CsX
set_option Elab.async false
set_option linter.all false
set_option maxRecDepth 100000
set_option maxHeartbeats 4000000
namespace K23
open PySem PySem.Spec PyProof.Rows L2 Cs CsX
/-! ### facts of the heap, for grind; small helpers -/
@[grind =] theorem g_upd (H : Hp) (a b : Addr) (o : HO) : upd H a o b = if b = a then some o else H b := rfl
@[grind =] theorem g_same (H H' : Hp) : Same H H' ↔ (∀ a o, H a = some o → H' a = some o) ∧ ∀ a, H' a = none → H a = none := ⟨fun s => ⟨s, fun a h => s.free h⟩, fun h => h.1⟩
@[grind =] theorem g_keep (p : Addr) (H H' : Hp) : Keep p H H' ↔ (∀ a o, a ≠ p → H a = some o → H' a = some o) ∧ ∀ a, a ≠ p → H' a = none → H a = none := ⟨fun s => ⟨s, fun a hp h => by
  cases c : H a with
  | none => rfl
  | some o => rw [s a o hp c] at h; cases h⟩, fun h => h.1⟩
@[grind =] theorem g_oth (p : Addr) (H H' : Hp) : Oth p H H' ↔ ∀ a, a ≠ p → H' a = H a := Iff.rfl
@[grind =] theorem g_strm (H : Hp) (p : Addr) : Strm H p ↔ ∃ x y z : Int, H p = some (.lst [.int x, .int y, .int z]) := Iff.rfl
theorem g_new {H : Hp} {q : Addr} {o : HO} (n : H q = none) : Same H (upd H q o) := same_new n
grind_pattern g_new => upd H q o
@[grind =] theorem g_keepL (as : List Addr) (H H' : Hp) : KeepL as H H' ↔ ∀ b o, b ∉ as → H b = some o → H' b = some o := Iff.rfl
theorem ite_both {A B : Prop} {c : Bool} (h1 : c = true → A) (h2 : c = false → B) : if c = true then A else B := by
  cases c with
  | true => rw [if_pos rfl]; exact h1 rfl
  | false => rw [if_neg (by decide)]; exact h2 rfl
theorem with_restS {R : L2.St → Hp → Prop} {G : Prop} (C : L2.St → Hp → Prop) (r : ∀ σ H, C σ H → R σ H) (g : (∀ σ H, C σ H → R σ H) → G) : G := g r
theorem nd_ix {α : Type} {l : List α} (nd : l.Nodup) {i j : Nat} {x : α} (hi : l[i]? = some x) (hj : l[j]? = some x) : i = j :=
  (List.getElem?_inj (List.getElem?_eq_some_iff.mp hi).1 nd).mp (hi.trans hj.symm)
theorem not_take {α : Type} {l : List α} (nd : l.Nodup) {i : Nat} {x : α} (hi : l[i]? = some x) : x ∉ l.take i := fun z => by
  obtain ⟨j, hj⟩ := List.mem_iff_getElem?.mp z
  rw [List.getElem?_take] at hj
  split at hj
  · next c => exact absurd (nd_ix nd hj hi) (by omega)
  · cases hj
theorem take_snoc {α : Type} {s : List α} {j : Nat} {v : α} (h : s[j]? = some v) : s.take (j + 1) = s.take j ++ [v] := by
  rw [List.take_add_one, h] <;> rfl
theorem in_strs (ks : List Str) (v : Str) : inV (.str v) (ks.map V.str) = decide (v ∈ ks) := by
  unfold inV
  induction ks with
  | nil => simp
  | cons k ks ih =>
    rw [List.map_cons, List.any_cons, ih]
    have e : eqV (.str k) (.str v) = decide (k = v) := by
      by_cases c : k = v
      · subst c; simp [eqV]
      · simp [eqV, c]
    rw [e]
    by_cases c : k = v
    · subst c; simp
    · have : ¬ v = k := fun z => c z.symm
      simp [c, this]
/-! ### dicts of values -/
def putA (A : List (Str × Int)) (x : Str) (v : Int) : List (Str × Int) := if (A.any fun e => decide (e.1 = x)) = true then A.map (fun e => if e.1 = x then (x, v) else e) else A ++ [(x, v)]
theorem any_int (A : List (Str × Int)) (x : Str) : ((intK A).any fun kv => decide (kv.1 = Sum.inr x)) = A.any fun e => decide (e.1 = x) := by
  unfold intK
  rw [List.any_map]
  congr 1
  funext e
  simp
theorem putK_int (A : List (Str × Int)) (x : Str) (v : Int) : putK (intK A) (.inr x) (V.int v) = intK (putA A x v) := by
  unfold putK putA
  rw [any_int]
  by_cases h : (A.any fun e => decide (e.1 = x)) = true
  · rw [if_pos h, if_pos h]
    unfold intK
    rw [List.map_map, List.map_map]
    congr 1
    funext e
    by_cases z : e.1 = x
    · simp [z]
    · simp [z]
  · rw [if_neg h, if_neg h]
    unfold intK
    rw [List.map_append]
    rfl
theorem anyA {A : List (Str × Int)} {x : Str} : (A.any fun e => decide (e.1 = x)) = true ↔ x ∈ A.map (·.1) := by
  rw [List.any_eq_true, List.mem_map]
  constructor
  · rintro ⟨e, he, h⟩; exact ⟨e, he, of_decide_eq_true h⟩
  · rintro ⟨e, he, h⟩; exact ⟨e, he, decide_eq_true h⟩
theorem putA_new {A : List (Str × Int)} {x : Str} {v : Int} (h : x ∉ A.map (·.1)) : putA A x v = A ++ [(x, v)] := if_neg fun z => h (anyA.mp z)
theorem aget_cons (e : Str × Int) (A : List (Str × Int)) (y : Str) : aget (e :: A) y = if e.1 = y then some e.2 else aget A y := by
  unfold aget
  rw [List.find?_cons]
  by_cases h : e.1 = y
  · simp [h]
  · simp [h]
theorem aget_app {A : List (Str × Int)} {x : Str} {v : Int} (h : x ∉ A.map (·.1)) (y : Str) : aget (A ++ [(x, v)]) y = if x = y then some v else aget A y := by
  induction A with
  | nil => rw [List.nil_append, aget_cons] <;> rfl
  | cons e A ih =>
    rw [List.cons_append, aget_cons, aget_cons, ih fun z => h (List.mem_cons_of_mem _ z)]
    by_cases c : e.1 = y
    · rw [if_pos c, if_pos c]
      by_cases d : x = y
      · exact absurd (by rw [d, ← c]; exact List.mem_cons_self) h
      · rw [if_neg d]
    · rw [if_neg c, if_neg c]
theorem aget_rep (x : Str) (v : Int) (y : Str) : ∀ A : List (Str × Int), aget (A.map fun e => if e.1 = x then (x, v) else e) y = if x = y then (if x ∈ A.map (·.1) then some v else none) else aget A y
  | [] => by split <;> rfl
  | e :: A => by
    rw [List.map_cons, aget_cons, aget_cons, aget_rep x v y A]
    by_cases c : e.1 = x
    · rw [if_pos c]
      by_cases d : x = y
      · rw [if_pos d, if_pos d, if_pos (by rw [List.map_cons, c]; exact List.mem_cons_self)]
      · have h1 : ¬ e.1 = y := fun z => d (c.symm.trans z)
        simp [d, h1]
    · rw [if_neg c]
      by_cases d : x = y
      · have h1 : ¬ e.1 = y := fun z => c (z.trans d.symm)
        rw [if_neg h1, if_pos d, if_pos d]
        have : x ∈ (e :: A).map (·.1) ↔ x ∈ A.map (·.1) := by
          rw [List.map_cons, List.mem_cons]
          exact ⟨fun h => h.elim (fun z => absurd z.symm c) id, .inr⟩
        by_cases m : x ∈ A.map (·.1)
        · rw [if_pos m, if_pos (this.mpr m)]
        · rw [if_neg m, if_neg fun z => m (this.mp z)]
      · rw [if_neg d, if_neg d]
theorem aget_put {A : List (Str × Int)} {x : Str} {v : Int} (y : Str) : aget (putA A x v) y = if x = y then some v else aget A y := by
  by_cases h : x ∈ A.map (·.1)
  · unfold putA
    rw [if_pos (anyA.mpr h), aget_rep, if_pos h]
  · rw [putA_new h, aget_app h]
theorem aget_mem {A : List (Str × Int)} {x : Str} : (aget A x).isSome = true ↔ x ∈ A.map (·.1) := by
  induction A with
  | nil => simp [aget]
  | cons e A ih =>
    rw [aget_cons, List.map_cons, List.mem_cons, ← ih]
    by_cases c : e.1 = x
    · rw [if_pos c]; simp [c]
    · rw [if_neg c]; simp [Ne.symm c]
/-- a dict of values -/
structure Vd (H : Hp) (d : Addr) (A : List (Str × Int)) : Prop where
  un : H d = some (.dK (intK A))
  nd : (A.map (·.1)).Nodup
  few : A.length ≤ 40
theorem Vd.same {H H' : Hp} {d : Addr} {A : List (Str × Int)} (B : Vd H d A) (s : Same H H') : Vd H' d A := ⟨s _ _ B.un, B.nd, B.few⟩
theorem intK_len (A : List (Str × Int)) : (intK A).length = A.length := by unfold intK; rw [List.length_map]
def SameA (L M : List (Str × Int)) : Prop := ∀ x, aget L x = aget M x
theorem SameA.keys {L M : List (Str × Int)} (s : SameA L M) {x : Str} (h : x ∈ L.map (·.1)) : x ∈ M.map (·.1) := by
  rw [← aget_mem] at h ⊢
  rw [← s x]
  exact h
theorem SameA.len {L M : List (Str × Int)} (s : SameA L M) (n1 : (L.map (·.1)).Nodup) (n2 : (M.map (·.1)).Nodup) : L.length = M.length := by
  have h1 := List.Nodup.length_le_of_subset n1 fun x hx => s.keys hx
  have h2 := List.Nodup.length_le_of_subset n2 fun x hx => SameA.keys (fun y => (s y).symm) hx
  rw [List.length_map, List.length_map] at h1 h2
  omega
theorem putA_len (A : List (Str × Int)) (x : Str) (v : Int) : (putA A x v).length ≤ A.length + 1 := by
  unfold putA
  split
  · rw [List.length_map]; omega
  · rw [List.length_append] <;> exact Nat.le_refl _
end K23
set_option Elab.async false
set_option linter.all false
set_option maxRecDepth 100000
set_option maxHeartbeats 2000000
/-! set(t) of a tuple of ints; how many members a set has -/
namespace Cs
open PySem PySem.Spec PyProof.Rows L2
section
variable {X : Cx}
/-- set(t), t a tuple of ints -/
def rSetT (K : PySem.W.Frag) (w : World) : List V → Hp → VK → Prop := fun xs H Q => ∃ (l : Addr) (ns : List Int), xs = [V.ref l] ∧ SqT K H l (ns.map V.int) ∧ ns.length ≤ 4000 ∧
  ∀ (p : Addr) (c : Nat), H p = none → c ≤ ns.length → Q (.ref p) (upd H p (SetO w p (fun j => decide (j ∈ ns)) c))
theorem cr_setT (hc : X.calm = true) : CallR X (.type "set") (rSetT X.K X.w) := by
  intro pins s σ H xs us Q I r h
  obtain ⟨l, ns, rfl, hq, hl, q⟩ := h
  rw [Vals.ref1 r]
  obtain ⟨its, rv, pl, hz⟩ := I.tuple hq
  obtain ⟨n, tp⟩ := pl
  refine call_set_tupI ns (I.ok.hd hc) ?_ (by simpa using ints_of_vals rv) (by have : scanBound = 4096 := rfl; omega) fun h' tk c hS hcn old => ?_
  · exact ⟨n, tp.1, tp.2⟩
  exact ⟨.ref _, upd H s.heap.objs.size (SetO X.w s.heap.objs.size (fun j => decide (j ∈ ns)) c), I.laid (t' := tk) old (Nat.le_refl _) (setO_new hS), rfl, q _ c (I.hok.fresh (Nat.le_refl _)) hcn⟩
/-- len(s): how many -/
def rLenN (w : World) : List V → Hp → VK → Prop := fun xs H Q => ∃ (a : Addr) (S : Int → Bool) (n : Nat), xs = [V.ref a] ∧ H a = some (SetO w a S n) ∧ ∀ c : Nat, (∀ ks : List Int, ks.Nodup → (∀ k, S k = true ↔ k ∈ ks) → c = ks.length) → Q (.int (c : Int)) H
theorem call_lenN : CallR X (.builtin "len") (rLenN X.w) := by
  intro pins s σ H xs us Q I r h
  obtain ⟨a, S, n, rfl, ha, q⟩ := h
  rw [Vals.ref1 r]
  obtain ⟨es, ep, t, R, m, hn⟩ := xOf (setO_get I ha)
  refine call_len_set R.obj ⟨rfl, rfl, rfl⟩ rfl R.fits (by have := R.few; have : scanBound = 4096 := rfl; omega) ⟨.int (es.size : Nat), H, I.tok _, ⟨_, rfl⟩, q _ fun ks nd hk => ?_⟩
  have p : (es.toList.map keyOf).Perm ks := (List.perm_ext_iff_of_nodup R.nd nd).mpr fun k => by rw [← m k, hk k]
  have := p.length_eq
  rw [List.length_map, Array.length_toList] at this
  exact this
end
end Cs
set_option Elab.async false
set_option linter.all false
set_option maxRecDepth 100000
set_option maxHeartbeats 2000000
/-! [e for a in xs for b in ys]: both walks -/
namespace Cs
open PySem PySem.Spec PyProof.Rows L2
end Cs
set_option Elab.async false
set_option linter.all false
set_option maxRecDepth 100000
set_option maxHeartbeats 4000000
/-! == of two tuples that are equal, deep. -/
namespace Cs
open PySem PySem.Spec PyProof.Rows L2
end Cs
set_option Elab.async false
set_option linter.all false
set_option maxRecDepth 100000
set_option maxHeartbeats 4000000
/-! min of a list of tuples of ints -/
namespace Cs
open PySem PySem.Spec PyProof.Rows L2
end Cs
set_option Elab.async false
set_option linter.all false
set_option maxRecDepth 100000
set_option maxHeartbeats 4000000
/-! in and == with tuples of tuples of ints, == of tuples of texts -/
namespace Cs
open PySem PySem.Spec PyProof.Rows L2
end Cs
set_option Elab.async false
set_option linter.all false
set_option maxRecDepth 100000
set_option maxHeartbeats 4000000
/-! tuples whose object is known (it has no dict): methods of theirs -/
namespace Cs
open PySem PySem.Spec PyProof.Rows L2
/-- a tuple's object, nothing else in it -/
def Pl (o : Obj) : Prop := o.cls = .type "tuple" ∧ o.dict = none
/-- a tuple, its object known -/
def TpK (H : Hp) (a : Addr) (xs : List V) : Prop := ∃ o, Pl o ∧ H a = some (.frz o (.tup xs))
theorem TpK.same {H H' : Hp} {a : Addr} {xs : List V} (h : TpK H a xs) (s : Same H H') : TpK H' a xs := by
  obtain ⟨o, p, e⟩ := h; exact ⟨o, p, s _ _ e⟩
theorem TpK.sq {K : PySem.W.Frag} {H : Hp} {a : Addr} {xs : List V} (h : TpK H a xs) : SqT K H a xs := by
  obtain ⟨o, p, e⟩ := h; exact .inl (.inr ⟨o, e⟩)
theorem TpK.some {H : Hp} {a : Addr} {xs : List V} (h : TpK H a xs) : H a ≠ none := by
  obtain ⟨o, p, e⟩ := h; rw [e]; exact fun z => by cases z
variable {X : Cx}
/-- tuple(xs), xs a list: its object is known -/
def rTupK (K : PySem.W.Frag) : List V → Hp → VK → Prop := fun xs H Q => ∃ p ys, xs = [.ref p] ∧ SqL K H p ys ∧ ∀ l o, H l = none → Pl o → Q (.ref l) (upd H l (.frz o (.tup ys)))
theorem call_tupK : CallR X (.type "tuple") (rTupK X.K) := by
  intro pins s σ H xs us Q I r h
  obtain ⟨p, ys, rfl, hq, q⟩ := h
  obtain ⟨u, rfl, rx⟩ := vals1 r
  cases rx
  obtain ⟨its, r', pl, hz⟩ := I.list hq
  have hlen := r'.length
  refine call_tuple_list pl.isList (fun h' kp => ?_) (by simp only [List.size_toArray] <;> omega)
  have I1 : L2.Inv X pins σ H { s with heap := h' } := I.kept (t' := s.toks) kp
  have new : ObjOk X.prog X.w (upd H h'.objs.size (.frz { cls := .type "tuple", data := .seq its.toArray } (.tup ys))) (h'.push { cls := .type "tuple", data := .seq its.toArray }) h'.objs.size (.frz { cls := .type "tuple", data := .seq its.toArray } (.tup ys)) :=
    ⟨Heap.get?_push_size _ rfl, hz, its, r', IsTup.new _ _⟩
  exact ⟨.ref h'.objs.size, _, I1.laid (t' := s.toks) (fun b o e => Heap.get?_push_of_some _ e) (Nat.le_refl _) new, rfl, q _ _ (I1.hok.fresh (Nat.le_refl _)) ⟨rfl, rfl⟩⟩
/-- a method of such a tuple -/
def tBMT (K : PySem.W.Frag) (r : V → List V → Hp → VK → Prop) (to : TE) (t : TA) : TE := fun σ H Q => to σ H fun x H1 => (∃ a xs, x = .ref a ∧ TpK H1 a xs) ∧ t σ H1 fun xs H2 => r x xs H2 Q
variable {o e : Expr} {es : List Expr} {to : TE} {t : TA} {name : Str} {apos cpos : Pos} {id : String} {r : V → List V → Hp → VK → Prop}
theorem pe_bmT (pa : PlainAttrs "tuple") (slot : Slot "tuple" name id) (hty : typeOf (.builtin id) = pure (.type "method_descriptor")) (hm : MtR X id r) (ho : PE X o to) (ha : PA X (e :: es) t) (hbase : attributeBase o name X.env (eval o X.env) = eval o X.env := by rfl) (hfew : ((backTo cpos (starEach (e :: es) X.env)).all (fun x => !x.1) && (backToKw cpos (keywordEach [] X.env)).all (fun x => x.1.isSome) && decide ((e :: es).length + ([] : List Keyword).length + (if ([] : List Keyword).isEmpty then 0 else 1) < 30)) = true := by rfl) (hline : (apos.endLine == cpos.line) = true := by rfl) (hs : starEach (e :: es) X.env = (false, eval e X.env) :: starEach es X.env := by rfl) (hplain : (backTo cpos (starEach es X.env)).any (·.1) = false := by rfl) : PE X (.Call (.Attribute o name apos) (e :: es) [] cpos) (tBMT X.K r to t) := by
  refine ⟨fun pins s σ H Q I h => wpAny_Call_method_late hbase hfew hline rfl (thn (ho.run pins s σ H _ I h) fun v s1 ⟨x, H1, I1, r1, ty, q1⟩ => ?_)⟩
  obtain ⟨a, xs, rfl, ob, ⟨c1, c2⟩, eH⟩ := ty
  cases r1
  obtain ⟨get, _⟩ := (show ObjOk X.prog X.w H1 s1.heap a (.frz ob (.tup xs)) from I1.hok a _ eH)
  refine ⟨"tuple", id, pa, slot, hty, ⟨ob, get, c1⟩, fun b e => by cases e; exact ⟨ob, get, c2⟩, ?_⟩
  have hA := ha.run cpos pins s1 σ H1 _ I1 q1
  rw [hs] at hA ⊢
  exact Calls.callWith_builtin (by show (false || (backTo cpos (starEach es X.env)).any (·.1)) = false; rw [hplain] <;> rfl) (Calls.evalArgs_plain (thn hA fun us s2 ⟨vs, H2, I2, r2, q2⟩ => hm pins s2 σ H2 (.ref a) vs (.ref a) us Q I2 rfl r2 q2))
end Cs
set_option Elab.async false
set_option linter.all false
set_option maxRecDepth 100000
set_option maxHeartbeats 2000000
/-! how often a number is in a tuple -/
namespace Cs
open PySem PySem.Spec PyProof.Rows L2
section
variable {X : Cx}
def rCntT (K : PySem.W.Frag) : V → List V → Hp → VK → Prop := fun x xs H Q => ∃ (p : Addr) (ns : List Int) (k : Int), x = .ref p ∧ xs = [.int k] ∧ SqT K H p (ns.map V.int) ∧ Q (.int (ns.count k : Nat)) H
theorem mt_tcount : MtR X "tuple.count" (rCntT X.K) := by
  intro pins s σ H x xs v us Q I rx rxs h
  obtain ⟨p, ns, k, rfl, rfl, hs, q⟩ := h
  cases rx
  obtain ⟨u, rfl, ru⟩ := rxs.one
  obtain ⟨t, rfl⟩ := ru
  obtain ⟨its, rv, pl, hlen⟩ := I.tuple hs
  obtain ⟨⟨cls, dd, data, sl⟩, ho, hc, n, hd⟩ := pl
  simp only at hc hd
  subst hc hd
  have hi := ints_of_vals rv
  refine call_meets PySem.F.slot_tuple_count ⟨_, ho, rfl⟩ PySem.F.entry_tuple_count (PySem.F.args_tuple_count_2 _ _)
    (SeqAt.tuple_countAt p its.toArray n dd sl (.int k t) (eqk k)) ⟨ho, fun y hy => (eqk_gives hi y (by simpa using hy)).at _ _, ?_⟩
  have ec : its.toArray.toList.countP (eqk k) = ns.count k := eqk_count hi
  refine ⟨.int (ns.count k : Nat), H, I.tok _, ⟨s.toks, ?_⟩, q⟩
  show Value.int ((its.toArray.toList.countP (eqk k) : Nat) : Int) s.toks = Value.int ((ns.count k : Nat) : Int) s.toks
  rw [ec]
end
end Cs
set_option Elab.async false
set_option linter.all false
set_option maxRecDepth 100000
set_option maxHeartbeats 4000000
namespace CsX
open PySem PySem.Spec PyProof.Rows L2
section
variable {X : Cx}
/-- X(), X an own exception class without own __init__ -/
theorem pmk_own0 {C : Addr} {bmB : List Value} {B newId initId : String} {x : Str} {p pos : Pos} (F : ExcBaseFacts B newId initId bmB) (q : PySem.W.excIn X.K C bmB newId = true) (gC : X.mg x = some (.ref C))
    (kC : PySem.W.keepIn X.K (.ref C) = true) (r : Raises X (.ref C)) (hg : Gl X x) (hdb : (x == ("__debug__" : Str)) = false := by decide) :
    PMk X (.Call (.Name x p) [] [] pos) (fun _ H Q => Q (.ref C) none H) := by
  intro pins s σ H Q I h
  refine wpAny_Call_Name_kw (ld_glob I hg gC ?_ hdb)
  refine PySem.W.callWith_K0 I.kIn kC ?_
  show wpAny _ _ (call (.ref C) []) _ _ _
  obtain ⟨bm, N, nm, qn, bs, hdct, sn, sub, ab, col, dd, k0, k1, k2, k3, k5, mN, hC, hN, hni, T⟩ := exc_obj I.kIn q
  refine wpAny_call_exc_subT F T hC hN hni (fun h' e hm => ?_) (by show 0 ≤ sizeLine; rw [sizeLine_eq]; omega)
  exact mk_of I hm r h (I.hok.gone hm.new)
end
end CsX
/-! ### an own error without fields; classes, methods, properties -/
namespace CsX
open PySem PySem.Spec PyProof.Rows L2
/-- an own error class without an own __init__ (facts of the head) -/
structure Own0 (K : PySem.W.Frag) (mg : Str → Option Value) (x : Str) (C : Addr) : Prop where
  gC : mg x = some (.ref C)
  ex : PySem.W.excIn K C [.type "ValueError", .type "Exception", .type "BaseException", .type "object"] "ValueError.__new__" = true
  kC : PySem.W.keepIn K (.ref C) = true
  sB : PySem.W.subIn K (.ref C) (.type "BaseException") = some true
  tC : PySem.W.typeIn K (.ref C) = some (.type "type")
theorem Own0.mk0 {X : Cx} {x : Str} {C : Addr} {p pos : Pos} (U : Own0 X.K X.mg x C) (hg : Gl X x) (hdb : (x == ("__debug__" : Str)) = false := by decide) : PMk X (.Call (.Name x p) [] [] pos) (fun _ H Q => Q (.ref C) none H) :=
  pmk_own0 PySem.F.excBase_ValueError U.ex U.gC U.kC (raises_own U.sB U.tC) hg hdb
/-- a class of the program: its text, its name, its attributes (no class attribute has the name) -/
structure Kls (K : PySem.W.Frag) (mg : Str → Option Value) (x : Str) (C : Addr) (fs : List Str) : Prop where
  cl : Cls K C
  gC : mg x = some (.ref C)
  no : ∀ f ∈ fs, NoAttr K C f
/-- its __init__ -/
structure CallN (P : Program) (w : World) (K : PySem.W.Frag) (mg : Str → Option Value) (base : Heap) (k : Nat) (C f : Addr) (fd : FuncData) (ps : List Str) (sp : Sp) : Prop where
  ok : FnOk P w K mg base CX0 k f fd ps sp
  mkr : Mk K C f
  bd : Binds K fd ps []
/-- a method -/
structure CallM (P : Program) (w : World) (K : PySem.W.Frag) (mg : Str → Option Value) (base : Heap) (k : Nat) (C : Addr) (m : Str) (f : Addr) (fd : FuncData) (ps : List Str) (sp : Sp) : Prop where
  ok : FnOk P w K mg base CX0 k f fd ps sp
  mt : Meth K C m f
  bd : Binds K fd ps []
end CsX
set_option Elab.async false
set_option linter.all false
set_option maxRecDepth 100000
set_option maxHeartbeats 4000000
namespace CsX
open PySem PySem.Spec PyProof.Rows L2
/-- isinstance(e, c), isinstance(e, (c, ..)): e the exception that the suite holds, without fields -/
def rIsEN (K : PySem.W.Frag) (a : Addr) (cls : Value) (d : Option Addr) : List V → Hp → VK → Prop := fun xs H Q => ∃ (C : Addr) (c : V) (b : Bool), xs = [.ref a, c] ∧ cls = .ref C ∧ d = none ∧ ExcC K C ∧
  ((∃ cv, (∀ u, RelV c u → u = cv) ∧ PySem.W.kitOne K (.ref C) cv = some b) ∨ ∃ (t : Addr) (cs : List Addr), c = .ref t ∧ H t = some (.tup (cs.map V.ref)) ∧ PySem.W.kitAny K (.ref C) (cs.map Value.ref) = some b) ∧ Q (.bl b) H
theorem call_isEN {X : Cx} {a : Addr} {cls : Value} {d : Option Addr} {oe : Obj} {pn : List (Addr × Obj)} (hz : Zc cls d oe) (hf : ∃ vs, oe.data = .fields vs) : CallR (X.suite a ((a, oe) :: pn)) (.builtin "isinstance") (rIsEN X.K a cls d) := by
  intro pins s σ H xs us Q I r h
  obtain ⟨D, c, b, rfl, rfl, rfl, C, hc, q⟩ := h
  cases r with
  | cons rx rr =>
    cases rr with
    | cons rt rr =>
      cases rr
      cases rx
      obtain ⟨hget, _⟩ := I.pin (a, oe) (List.mem_append.mpr (.inl List.mem_cons_self))
      obtain ⟨vs, hv⟩ := hf
      have J : PySem.W.InstAt s.heap a oe D none := ⟨hget, hz.1, by unfold PySem.W.notCls; rw [hv] <;> rfl, by rw [hz.2]; trivial⟩
      have Z := PySem.W.handS_kitx_exc (x := a) (ox := oe) C.hg C.hk C.hs C.hd C.ha C.hn C.ht C.hm
      rcases hc with ⟨cv, hcv, e⟩ | ⟨t, cs, rfl, ht, e⟩
      · have ec := hcv _ rt
        subst ec
        exact PySem.W.kia_one Z I.kIn J e (fun z => nomatch z) fun tk => ⟨.bl b, H, I.kept (t' := tk) fun _ _ z => z, rfl, q⟩
      · cases rt
        obtain ⟨_, its, rv, o, ho2, hcls, n, hdat⟩ := (show ObjOk X.prog X.w H s.heap t (.tup (cs.map V.ref)) from I.hok t _ ht)
        obtain ⟨oc, oda, odt, osl⟩ := o
        dsimp only at hcls hdat
        subst hcls hdat
        rw [← vals_refs rv] at e
        exact PySem.W.kia_tup Z I.kIn J ho2 e (fun z => nomatch z) fun tk => ⟨.bl b, H, I.kept (t' := tk) fun _ _ z => z, rfl, q⟩
end CsX
set_option Elab.async false
set_option linter.all false
set_option maxRecDepth 100000
set_option maxHeartbeats 4000000
/-! ### errors whose context is known to be None; calls within an except suite -/
namespace CsX
open PySem PySem.Spec PyProof.Rows L2 L2H HotX
/-! C(x): an own error with fields, its context None (after ExcInit's and ExcInitHot's own, for L2N) -/
end CsX
set_option Elab.async false
set_option linter.all false
set_option maxRecDepth 100000
set_option maxHeartbeats 4000000
/-! ### sorted(s), s a set of areI of any number of members -/
namespace Cs
open PySem PySem.Spec PyProof.Rows L2
section
variable {P : Program} {w : World} {A : Around} {E : Value → Shared → Prop} {s : Shared} {a : Addr}
/-- (after sorted_set of HandS.Set, with the sort of SortOrd) -/
theorem sorted_setN {S : Int → Bool} {n : Nat} {Q : Value → Shared → Prop} (R : SetR w s.heap a S n)
    (cool : A.handled = none) (small : n ≤ 16000000)
    (after : ∀ s' p (out : Array Value) (c : Nat) (ns : List Int),
      (∀ b o, s.heap.get? b = some o → s'.heap.get? b = some o) → s'.gens = s.gens → s'.os = s.os →
      s.heap.objs.size ≤ p → s'.heap.get? p = some (seqObj "list" out c) → IntsAre out.toList ns →
      ns.Pairwise (· < ·) → (∀ k, k ∈ ns ↔ S k = true) → ns.length = n → Q (.ref p) s') :
    wpAny (model P w) A (call (.builtin "sorted") [.ref a]) Q E s := by
  obtain ⟨o, es, ep, t, ho, hex, hd, good, nd, mem, bnd, fits, cnt, r1, r2⟩ := R
  refine Calls.call_function_entry kind_sorted plain_sorted entry_sorted (args_sorted1 _) ?_
  unfold Builtin.«sorted»
  refine wpAny_bind (m := checkCount "sorted" 1 1 _) (wpAny_pure ?_)
  refine wpAny_bind (collect_set (A := A.in1) cool ⟨o, ho, hex.1, hd⟩ fits bnd r1 r2
    fun s1 vs keep1 up1 g1 o1 perm => ?_)
  have many : vs.length = n := by
    rw [perm.length_eq, List.length_map, Array.length_toList]
    exact cnt
  have line : vs.length ≤ sizeLine := by rw [many, sizeLine_eq]; omega
  have areI : IntsAre vs (vs.map Builtin.Re.reRawOf) := ints_of vs fun v hv => by
    obtain ⟨e, he, q⟩ := List.mem_map.mp (perm.mem_iff.mp hv)
    obtain ⟨k, tk, h1, _⟩ := good e he
    exact ⟨k, tk, q ▸ h1⟩
  have keys : (vs.map Builtin.Re.reRawOf).Perm (es.toList.map keyOf) := by
    have := perm.map Builtin.Re.reRawOf
    rwa [List.map_map] at this
  refine wpAny_bind (wpAny_newList ?_ line)
  have new1 : (s1.heap.push (seqObj "list" vs.toArray 0)).get? s1.heap.objs.size =
    some (seqObj "list" vs.toArray 0) := Heap.get?_push_size _ rfl
  refine wpAny_bind (wpAny_holding (wpAny_call_entry slot_list_sort ⟨_, new1, rfl⟩ entry_list_sort
    (SrtO.list_sort_ord SrtO.swo_int new1 line (fun two => SrtO.ints_sortable areI two)
      fun out srt stb => ⟨_, rfl, ?_⟩) (args_list_sort _)))
  obtain ⟨k1, k2, k3⟩ := SrtO.ints_out areI srt stb
  obtain ⟨c, hc⟩ := sortedHeap_at (vs := vs) (out := out.toArray) new1
  have pn : (out.map SrtO.iv).Perm (es.toList.map keyOf) := k2.trans keys
  refine wpAny_pure ⟨_, rfl, after _ s1.heap.objs.size out.toArray c (out.map SrtO.iv) (fun b u e => ?_)
    g1 o1 up1 hc k1 (lt_of_le_nodup _ k3 (pn.nodup_iff.mpr nd)) (fun k => by rw [pn.mem_iff, ← mem k]) ?_⟩
  · have old := keep1 b u e
    have lt := Heap.lt_size old
    show (sortedHeap (s1.heap.push (seqObj "list" vs.toArray 0)) s1.heap.objs.size vs out.toArray).get? b = some u
    rw [sortedHeap_old (Nat.ne_of_lt lt) (by rw [size_push']; exact Nat.lt_succ_of_lt lt)]
    exact Heap.get?_push_of_some _ old
  · rw [pn.length_eq, List.length_map, Array.length_toList]
    exact cnt
end
def rSortedN (w : World) : List V → Hp → VK → Prop := fun vs H Q => ∃ (a : Addr) (S : Int → Bool) (n : Nat),
  vs = [V.ref a] ∧ H a = some (SetO w a S n) ∧ n ≤ 16000000 ∧ ∀ (ns : List Int) (p : Addr), ns.Pairwise (· < ·) →
    (∀ k : Int, k ∈ ns ↔ S k = true) → ns.length = n → H p = none → Q (.ref p) (upd H p (.lst (ns.map V.int)))
theorem cr_sortedN {X : Cx} (cool : X.calm = true) : CallR X (.builtin "sorted") (rSortedN X.w) := by
  intro pins s σ H vs us Q I rel h
  obtain ⟨a, S, n, rfl, ha, few, q⟩ := h
  rw [Vals.ref1 rel]
  refine sorted_setN (setO_get I ha) (I.ok.hd cool) few fun s2 p out c ns old g o up at_ areI asc mem cnt => ?_
  have free : H p = none := I.hok.fresh up
  have line : (ns.map V.int).length ≤ sizeLine := by rw [List.length_map, cnt, sizeLine_eq]; omega
  have J : Inv X pins σ (upd H p (.lst (ns.map V.int)))
      { s with heap := s2.heap, gens := s2.gens, drawn := s2.drawn, toks := s2.toks } :=
    I.call (ch := []) (Un.laid old up free) (I.hok.laid old up ⟨line, out.toList, c, vals_of_ints areI, at_⟩)
      (by rw [g]; exact I.bare) (fun _ z => nomatch z)
  have same : s2 = { s with heap := s2.heap, gens := s2.gens, drawn := s2.drawn, toks := s2.toks } := by
    cases s2; cases s; cases o; rfl
  rw [same]
  exact ⟨.ref p, _, J, rfl, q ns p asc mem cnt free⟩
end Cs
set_option Elab.async false
set_option linter.all false
set_option maxRecDepth 100000
set_option maxHeartbeats 4000000
/-! != of two tuples of the same ints and texts -/
namespace Cs
open PySem PySem.Spec PyProof.Rows L2
open AutoSeq1 (wpAny_loadPart')
open MeetsSeq MeetsSeq2 MeetsSeq3 SeqRoads2 SeqAt
def simpV : V → Prop
  | .int _ => True
  | .str _ => True
  | _ => False
def rNeTf (K : PySem.W.Frag) : R2 := fun x y H Q => ∃ a b xs, x = .ref a ∧ y = .ref b ∧ SqT K H a xs ∧ SqT K H b xs ∧ (∀ v ∈ xs, simpV v) ∧ Q (.bl false) H
theorem simp_at {A : Around} {s : Shared} : ∀ {xs : List V} {us ws : List Value}, Vals xs us → Vals xs ws → (∀ v ∈ xs, simpV v) → ∀ j (h1 : j < us.length) (h2 : j < ws.length), EqAt A s us[j] ws[j] true := by
  intro xs us ws r1 r2 hs j h1 h2
  have hx : xs[j]? = some (xs[j]'(by rw [r1.length]; exact h1)) := List.getElem?_eq_getElem _
  generalize xs[j]'(by rw [r1.length]; exact h1) = x at hx
  obtain ⟨u, hu, ru⟩ := r1.get hx
  obtain ⟨v, hv, rv⟩ := r2.get hx
  rw [List.getElem?_eq_getElem h1] at hu
  rw [List.getElem?_eq_getElem h2] at hv
  rw [Option.some.inj hu, Option.some.inj hv]
  have h0 := hs x (List.mem_of_getElem? hx)
  cases x with
  | int i =>
    obtain ⟨t, rfl⟩ := ru
    obtain ⟨u, rfl⟩ := rv
    have := EqAt.int_int (A := A) (s := s) i t i u
    simpa using this
  | str i =>
    obtain ⟨t, rfl⟩ := ru
    obtain ⟨u, rfl⟩ := rv
    have := EqAt.str_str (A := A) (s := s) i t i u
    simpa using this
  | _ => exact False.elim h0
theorem op_neTf {X : Cx} (hu : X.A.units + 64 < cLine) : OpR X (compareOp .NotEq) (rNeTf X.K) := by
  intro pins s σ H x y v u Q I rx ry h
  obtain ⟨a, b, xs, rfl, rfl, ha, hb, fl, q⟩ := h
  cases (show v = Value.ref a from rx)
  cases (show u = Value.ref b from ry)
  obtain ⟨its, r, e, z⟩ := I.tuple ha
  obtain ⟨its2, r2, e2, z2⟩ := I.tuple hb
  obtain ⟨⟨c1, d1, x1, s1⟩, o1, e1, n, f1⟩ := id e
  obtain ⟨⟨c2, d2, x2, s2⟩, o2, e2', m, f2⟩ := id e2
  simp only at e1 f1 e2' f2
  subst e1 f1 e2' f2
  have ta : s.TypeIs (.ref a) "tuple" := ⟨_, o1, rfl⟩
  have tc : s.TypeIs (.ref b) "tuple" := ⟨_, o2, rfl⟩
  have hsz : its.toArray.size = its2.toArray.size := by rw [List.size_toArray, List.size_toArray, ← r.length, ← r2.length]
  have M := tuple_neAt a b its.toArray its2.toArray n m d1 d2 s1 s2 fun _ => true
  refine wpAny_richCompare_same_room (op := .NotEq) ta tc F.slot_tuple_ne (call_meets F.slot_tuple_ne ta F.entry_tuple_ne (F.args_tuple_ne_2 _ _) M
    ⟨o1, o2, fun j h1 h2 => ?_, ?_⟩) (by omega)
  · have := simp_at (A := X.A.in1) (s := s) r r2 fl j (by simpa using h1) (by simpa using h2)
    simpa using this
  · have e : (!((List.range (min its.toArray.size its2.toArray.size)).all (fun _ => true) && its.toArray.size == its2.toArray.size)) = false := by rw [hsz]; simp
    rw [e]
    exact ⟨(fun x => nomatch x), ⟨.bl false, H, I, rfl, q⟩⟩
end Cs
set_option Elab.async false
set_option linter.all false
set_option maxRecDepth 100000
set_option maxHeartbeats 4000000
/-! an instance whose __init__ may raise, in a try: the ends of the raise know the slots -/
namespace CsX
open PySem PySem.Spec PyProof.Rows L2
def tMakeS (C : Addr) (sp : Sp) (E : L2.St → XK) (t : TA) : TE := fun σ H Q => t σ H fun vs H1 =>
  ∀ x dx, H1 x = none → H1 dx = none → dx ≠ x → sp (.ref x :: vs) (upd (upd H1 dx (.own x)) x (.ins C dx [])) (fun v H2 => v = .non ∧ Q (.ref x) H2) (E σ)
section
variable {X : Cx} {CX : CXT} {k : Nat} {fI C : Addr} {fd : FuncData} {ps : List Str} {sp : Sp} {E : L2.St → XK} {nm : Str} {p pos : Pos} {e : Expr} {es : List Expr} {t : TA}
theorem made_S {pins : List (Addr × Obj)} {τ : L2.St} {H : Hp} {st : Shared} {Q : VK} {ws : List Value} {vs : List V} (G : FnOk X.prog X.w X.K X.mg X.base CX k fI fd ps sp) (mk : Mk X.K C fI) (room : Room (k + 1) X.A) (bd : Binds X.K fd ps [])
    (out : PassesAt CX X τ (E τ)) (J : Inv X pins τ H st) (rel : Vals vs ws)
    (q : ∀ x dx, H x = none → H dx = none → dx ≠ x → sp (.ref x :: vs) (upd (upd H dx (.own x)) x (.ins C dx [])) (fun v H2 => v = .non ∧ Q (.ref x) H2) (E τ)) :
    wpAny (model X.prog X.w) X.A (call (.ref C) ws) (EP X pins τ Q) X.xe st := by
  obtain ⟨n, hn⟩ : ∃ n, n = st.heap.objs.size := ⟨_, rfl⟩
  have f1 := J.hok.fresh (show st.heap.objs.size ≤ n + 1 by omega)
  have f0 := J.hok.fresh (show st.heap.objs.size ≤ n by omega)
  have q1 := q (n + 1) n f1 f0 (Nat.ne_of_lt (Nat.lt_succ_self _))
  have J2 := Inv.made (C := C) J
  rw [← hn] at J2
  have rel2 : Vals (V.ref (n + 1) :: vs) (Value.ref (n + 1) :: ws) := .cons rfl rel
  have cnt : (Value.ref (n + 1) :: ws).length = ps.length := rel2.length ▸ G.len _ _ _ _ q1
  have bind := bd _ (Value.ref (n + 1) :: ws) J2.kIn (by rw [List.append_nil]; exact cnt)
  rw [List.append_nil] at bind
  have ran := G.run _ X.stack _ _ ⟨Value.ref (n + 1) :: ws, []⟩ (Value.ref (n + 1) :: ws) _ _ (E τ) (room.make C ws []) (J2.env0.make C ws []) bind rel2 q1
  subst hn
  refine wpAny_call (make_map (f := fI) J.kIn mk.makes mk.init (beq_iff_eq.mp mk.fn) (codeAny_mono ran fun res s2 fin => ?_))
  match res, fin with
  | .error er, fin => exact out pins _ _ er s2 J2 fin
  | .ok (.ret u), fin =>
    obtain ⟨v, H3, J3, rv, ev, q3⟩ := J2.after fin
    cases ev
    exact ⟨rv, V.ref (st.heap.objs.size + 1), H3, J3, rfl, q3⟩
  | .ok .next, fin => exact fin.elim
  | .ok .brk, fin => exact fin.elim
  | .ok .cont, fin => exact fin.elim
theorem pe_makeS (mk : Mk X.K C fI) (G : FnOk X.prog X.w X.K X.mg X.base CX k fI fd ps sp) (room : Room (k + 1) X.A) (gl : Gl X nm) (at_ : X.mg nm = some (.ref C)) (bd : Binds X.K fd ps []) (out : ∀ σ, PassesAt CX X σ (E σ))
    (ha : PA X (e :: es) t) (dbg : (nm == ("__debug__" : Str)) = false := by decide) (hs : starEach (e :: es) X.env = (false, eval e X.env) :: starEach es X.env := by rfl) (pl : (backTo pos (starEach es X.env)).any (·.1) = false := by rfl) :
    PE X (.Call (.Name nm p) (e :: es) [] pos) (tMakeS C sp E t) :=
  ⟨fun pins st τ H Q J h => wpAny_Call_Name_kw (ld_glob J gl at_ (PySem.W.callWith_K (h₀ := X.base) J.ok.mod.kin mk.kp
    (thn (ha.run pos pins st τ H _ J h) fun ws s1 ⟨vs, H1, J1, rel, q⟩ => ⟨J1.kIn, made_S G mk room bd (out τ) J1 rel q⟩) hs pl) dbg)⟩
end
end CsX
set_option Elab.async false
set_option linter.all false
set_option maxRecDepth 100000
set_option maxHeartbeats 4000000
namespace K23
open PySem PySem.Spec PyProof.Rows L2 Cs CsX
theorem digits2 : ∀ k ∈ List.range 16, (Str.ofString (toString ((k : Nat) : Int))).length ≤ 2 := by decide +kernel
theorem log16 : ∀ k ∈ List.range 16, ((k : Nat) : Int).natAbs.log2 < 1920 := by decide +kernel
theorem perm_at {α : Type} {ys : List α} {j : Nat} (h : j < ys.length) : (ys[j] :: ys.eraseIdx j).Perm ys := by
  have e : ys = ys.take j ++ ys[j] :: ys.drop (j + 1) := by rw [List.getElem_cons_drop, List.take_append_drop]
  rw [List.eraseIdx_eq_take_drop_succ]
  conv => rhs; rw [e]
  exact List.perm_middle.symm
def headsM : List Str := ["n", "item_", "q7", "x_y_z0"]
def tailsM : List Str := ["", "a", "_tail"]
def nam (hd tl : Str) (s i : Nat) : Str := hd ++ Str.ofString (toString (((i * 7 + s) % 16 : Nat) : Int)) ++ tl
theorem many_all : (headsM.all fun hd => tailsM.all fun tl => (List.range 16).all fun s => decide (((List.range 16).map (nam hd tl s)).Nodup) && ((List.range 16).map (nam hd tl s)).all fun x => decide (x ≠ "aside")) = true := by decide +kernel
theorem names_many {hd tl : Str} {s m : Nat} (h1 : hd ∈ headsM) (h2 : tl ∈ tailsM) (hs : s < 16) (hm : m ≤ 16) : ((List.range m).map (nam hd tl s)).Nodup ∧ ∀ x ∈ (List.range m).map (nam hd tl s), x ≠ "aside" := by
  have h := List.all_eq_true.mp (List.all_eq_true.mp (List.all_eq_true.mp many_all hd h1) tl h2) s (List.mem_range.mpr hs)
  obtain ⟨a, b⟩ := Bool.and_eq_true_iff.mp h
  have e : List.range m = (List.range 16).take m := by rw [List.take_range, Nat.min_eq_left hm]
  rw [e, List.map_take]
  exact ⟨List.Pairwise.sublist (List.take_sublist _ _) (of_decide_eq_true a), fun x hx => of_decide_eq_true (List.all_eq_true.mp b x (List.mem_of_mem_take hx))⟩
theorem dgetI {H : Hp} {d : Addr} {A : List (Str × Int)} {x : Str} {v : Int} (h : H d = some (.dK (intK A))) (hv : aget A x = some v) : DGet H d (.str x) (some (.int v)) := by
  have := Ax.get (H := H) (d := d) (A := A) ⟨.inl h⟩ x
  rwa [hv] at this
theorem at_eqS {xs : List V} {i : Int} {j : Nat} {v : V} (h : i = (j : Int)) (hx : xs[j]? = some v) : atI xs i = some v := by
  rw [h]; exact atI_nat hx
abbrev Lim3 := Int × Int × Int
abbrev LmE := Addr × Lim3
def LmT (H : Hp) (es : List LmE) : Prop := ∀ e ∈ es, H e.1 = some (.tup [.int e.2.1, .int e.2.2.1, .int e.2.2.2])
theorem LmT.same {H H' : Hp} {es : List LmE} (h : LmT H es) (s : Same H H') : LmT H' es := fun e he => s _ _ (h e he)
def Sound (ls : List Lim3) : Prop := (ls.map (·.1)).Nodup ∧ ∀ l ∈ ls, 0 ≤ l.2.1 ∧ l.2.1 ≤ l.2.2
theorem dup_short {α : Type} [DecidableEq α] : ∀ {l : List α}, ¬ l.Nodup → ∃ m : List α, m.length < l.length ∧ ∀ x ∈ l, x ∈ m
  | [], h => absurd List.Pairwise.nil h
  | a :: l, h => by
    by_cases c : a ∈ l
    · exact ⟨l, by rw [List.length_cons]; omega, fun x hx => (List.mem_cons.mp hx).elim (fun e => e ▸ c) id⟩
    · obtain ⟨m, h1, h2⟩ := dup_short (l := l) fun n => h (List.nodup_cons.mpr ⟨c, n⟩)
      exact ⟨a :: m, by rw [List.length_cons, List.length_cons]; omega, fun x hx => (List.mem_cons.mp hx).elim (fun e => e ▸ List.mem_cons_self) fun hx => List.mem_cons_of_mem _ (h2 x hx)⟩
theorem dedup_ex {α : Type} [DecidableEq α] : ∀ l : List α, ∃ ks : List α, ks.Nodup ∧ ∀ k, k ∈ ks ↔ k ∈ l
  | [] => ⟨[], List.Pairwise.nil, fun _ => Iff.rfl⟩
  | a :: l => by
    obtain ⟨ks, h1, h2⟩ := dedup_ex l
    by_cases c : a ∈ ks
    · exact ⟨ks, h1, fun k => ⟨fun h => List.mem_cons_of_mem _ ((h2 k).mp h), fun h => (List.mem_cons.mp h).elim (fun e => e ▸ c) (h2 k).mpr⟩⟩
    · exact ⟨a :: ks, List.nodup_cons.mpr ⟨c, h1⟩, fun k => by rw [List.mem_cons, List.mem_cons, h2 k]⟩
theorem len_nodup {α : Type} [DecidableEq α] {l ks : List α} (nd : ks.Nodup) (mem : ∀ k, k ∈ ks ↔ k ∈ l) : ks.length = l.length ↔ l.Nodup := by
  constructor
  · intro e
    refine Decidable.byContradiction fun n => ?_
    obtain ⟨m, h1, h2⟩ := dup_short n
    have := List.Nodup.length_le_of_subset nd (l₂ := m) fun k hk => h2 k ((mem k).mp hk)
    omega
  · exact fun n => ((List.perm_ext_iff_of_nodup nd n).mpr mem).length_eq
theorem dec_len {α : Type} [DecidableEq α] {l ks : List α} (nd : ks.Nodup) (mem : ∀ k, k ∈ ks ↔ k ∈ l) : decide (V.int ((ks.length : Nat) : Int) = V.int ((l.length : Nat) : Int)) = decide l.Nodup := by
  by_cases c : l.Nodup
  · rw [decide_eq_true c, (len_nodup nd mem).mpr c]; exact decide_eq_true rfl
  · rw [decide_eq_false c]
    refine decide_eq_false fun z => c ((len_nodup nd mem).mp ?_)
    have := V.int.inj z
    omega
theorem srt_ndI {l : List Int} (s : Srt l) : l.Nodup := s.imp fun {a b} (h : a < b) => (by omega : a ≠ b)
abbrev uF : List Str := ["names"]
def uflds (t : Addr) : List (Str × V) := [("names", V.ref t)]
theorem ulook (t : Addr) : (uflds t).lookup ("names" : Str) = some (.ref t) := by
  unfold uflds
  simp [List.lookup]
theorem ul_no {m : Str} (h1 : ("names" : Str) ≠ m) (t : Addr) : (uflds t).lookup m = none := by
  unfold uflds
  have h1' : (m == ("names" : Str)) = false := beq_eq_false_iff_ne.mpr fun z => h1 z.symm
  simp only [List.lookup, h1']
/-- an Unlike of these names stands at p -/
def Ul (C : Addr) (H : Hp) (p : Addr) (ns : List Str) : Prop := ∃ (dx t : Addr), H p = some (.ins C dx (uflds t)) ∧ TpK H t (ns.map V.str)
theorem Ul.same {C : Addr} {H H' : Hp} {p : Addr} {ns : List Str} (R : Ul C H p ns) (s : Same H H') : Ul C H' p ns := by
  obtain ⟨dx, t, h1, h2⟩ := R
  exact ⟨dx, t, s _ _ h1, h2.same s⟩
abbrev cF : List Str := ["names", "limits"]
def cflds (t r : Addr) : List (Str × V) := [("names", V.ref t), ("limits", V.ref r)]
theorem clook1 (t r : Addr) : (cflds t r).lookup ("names" : Str) = some (.ref t) := by
  unfold cflds
  simp [List.lookup]
theorem clook2 (t r : Addr) : (cflds t r).lookup ("limits" : Str) = some (.ref r) := by
  unfold cflds
  have h : (("limits" : Str) == ("names" : Str)) = false := by decide +kernel
  simp only [List.lookup, h]
  simp
theorem cput (t r : Addr) : putF "limits" (.ref r) (putF "names" (.ref t) []) = cflds t r := by
  show (if ("names" : Str) = "limits" then _ else (("names" : Str), V.ref t) :: [("limits", V.ref r)]) = _
  rw [if_neg (by decide +kernel)] <;> rfl
theorem ct_no {m : Str} (h1 : ("names" : Str) ≠ m) (h2 : ("limits" : Str) ≠ m) (t r : Addr) : (cflds t r).lookup m = none := by
  unfold cflds
  have h1' : (m == ("names" : Str)) = false := beq_eq_false_iff_ne.mpr fun z => h1 z.symm
  have h2' : (m == ("limits" : Str)) = false := beq_eq_false_iff_ne.mpr fun z => h2 z.symm
  simp only [List.lookup, h1', h2']
/-- a Counts of these names and limits stands at p -/
def Ct (C : Addr) (H : Hp) (p : Addr) (ns : List Str) (ls : List Lim3) : Prop := ∃ (dx t r : Addr) (fs : List LmE), H p = some (.ins C dx (cflds t r)) ∧ TpK H t (ns.map V.str) ∧ H r = some (.tup (fs.map fun e => V.ref e.1)) ∧ LmT H fs ∧ fs.map (·.2) = ls
theorem Ct.same {C : Addr} {H H' : Hp} {p : Addr} {ns : List Str} {ls : List Lim3} (R : Ct C H p ns ls) (s : Same H H') : Ct C H' p ns ls := by
  obtain ⟨dx, t, e, fs, h1, h2, h3, h4, h5⟩ := R
  exact ⟨dx, t, e, fs, s _ _ h1, h2.same s, s _ _ h3, h4.same s, h5⟩
/-- what the rule says of a row -/
def keepsL (ls : List Lim3) (r : List Int) : Bool := ls.all fun l => decide (l.2.1 ≤ (r.count l.1 : Int)) && decide ((r.count l.1 : Int) ≤ l.2.2)
section
variable {P : Program} {w : World} {K : PySem.W.Frag} {mg : Str → Option Value} {base : Heap}
abbrev sSf : Stmt := topS 43
abbrev nSf : List Str := ["_law_stream_here", "_law_things", "_law_rest", "_law_found", "_law_k", "_law_at"]
theorem scSf : FnScope nSf ["_law_stream_here", "_law_things"] (defScope sSf) := ⟨rfl, rfl, rfl, by decide +kernel, rfl, by decide +kernel, by decide +kernel⟩
def spSf : Sp := fun vs H Q _ => ∃ (α : Type) (g : α → V) (p nm : Addr) (xs : List α), vs = [.ref p, .ref nm] ∧ Strm H p ∧ H nm = some (.lst (xs.map g)) ∧ xs.length ≤ 30 ∧ p ≠ nm ∧
  ∀ (H' : Hp) (l : Addr) (zs : List α), Keep p H H' → H l = none → Strm H' p → H' l = some (.lst (zs.map g)) → zs.Perm xs → Q (.ref l) H'
theorem ok_Sf {f f0 : Addr} {fd fd0 : FuncData} (F : Fun K "_law_shuffled" "_law_shuffled" sSf f fd) (B : Bt mg) (D : Call P w K mg base 1 "_law_next" f0 fd0 ["_law_stream_here", "_law_size"] spDraw) :
    FnOk P w K mg base CX0 2 f fd ["_law_stream_here", "_law_things"] spSf := by
  refine F.ok scSf (fun vs H Q E h => ?_) (fun cdv A outer s H vs Q E hr h => ?_)
  · obtain ⟨α, g, p, nm, xs, rfl, _⟩ := h
    rfl
  · obtain ⟨α, g, p, nm, xs, rfl, hp, enm, xlen, pnm, q⟩ := h
    have nd := scSf.nd
    refine ⟨_, pss_cons (ps_set (i := 2) nd rfl (.inl rfl) (pe_callTy call_list_of (by rfl) B.list PyProof.Rows.boot_list (pa_cons (pv 1) pa_nil)))
      (pss_cons (ps_set (i := 3) nd rfl (.inl rfl) (pe_lst pa_nil))
      (pss_cons (ps_for PassesOwn.never rfl (pi_range1 (by rfl) B.range (pa_cons (pe_callB call_len_seq (by rfl) B.len PySem.boot_len (pa_cons (pv 1) pa_nil)) pa_nil)) (pg_name (i := 4) nd rfl (.inl rfl))
        (pss_cons (ps_set (i := 5) nd rfl (.inl rfl) (pe_call D.ok (hr.mono (by decide)) (by rfl) D.at_ D.kp D.bd .nil pass0 (pa_cons (pv 0) (pa_cons (pe_callB call_len_seq (by rfl) B.len PySem.boot_len (pa_cons (pv 2) pa_nil)) pa_nil))))
          (pss_cons (ps_expr (pe_bm PySem.F.plainAttrs_list PySem.F.slot_list_append PySem.F.type_list_append mt_append (pv 3) (pa_cons (pe_ix ix_list (pv 2) (pv 5) (fun _ _ => rfl)) pa_nil)))
          (pss_one (ps_set (i := 2) nd rfl (.inl rfl) (pe_op op_cat (pe_slice sl_list (pv 2) po_none (po_some (pv 5))) (pe_slice sl_list (pv 2) (po_some (pe_op op_add (pv 5) pe_int)) po_none)))))))
      (pss_one (ps_ret (pv 3))))), ?_⟩
    refine ⟨.ref nm, rfl, nm, _, rfl, .inl (sl_map enm), fun r nr => ⟨by show 0 ≤ sizeLine; decide, fun l nl0 => ?_⟩⟩
    have npr : p ≠ r := fun z => hp.some (z ▸ nr)
    have nlr : l ≠ r := fun z => by rw [z, upd_same] at nl0; cases nl0
    have nl1 : H l = none := by rw [upd_ne nlr] at nl0; exact nl0
    have npl : p ≠ l := fun z => hp.some (z ▸ nl1)
    have k0 : Keep p H (upd (upd H r (.lst (xs.map g))) l (.lst [])) := ((Keep.refl p H).at_ nr).at_ nl1
    refine ⟨.ref nm, rfl, nm, _, rfl, .inl (sl_map (k0 _ _ pnm.symm enm)), _, rfl, ?_, ?_, for_range (lo := 0) (n := ((xs.map g).length : Int).toNat) (fun i σ H' => ∃ (r' : Addr) (ys zs : List α) (y4 y5 : Option V), σ = [some (.ref p), some (.ref nm), some (.ref r'), some (.ref l), y4, y5] ∧ Keep p H H' ∧ Strm H' p ∧ H' r' = some (.lst (ys.map g)) ∧ H r' = none ∧ r' ≠ l ∧ ys.length + i = xs.length ∧ H' l = some (.lst (zs.map g)) ∧ zs.length = i ∧ (zs ++ ys).Perm xs)
      ⟨r, xs, [], none, none, rfl, k0, (hp.upd npr).upd npl, by rw [upd_ne nlr.symm, upd_same], nr, nlr.symm, rfl, upd_same, rfl, List.Perm.refl _⟩ ?_ ?_⟩
    · rw [List.length_map]; omega
    · rw [List.length_map]; omega
    · rintro i σ H' hi ⟨r', ys, zs, y4, y5, rfl, kp, st, er, nr', nrl, ylen, el, zl, pm⟩
      rw [List.length_map] at hi
      have hi' : i < xs.length := by omega
      have npr' : p ≠ r' := fun z => hp.some (z ▸ nr')
      refine ⟨.ref p, rfl, .ref r', rfl, r', _, rfl, .inl (sl_map er), p, _, rfl, st, ?_, ?_, fun H2 a o2 st2 a0 a1 => ?_⟩
      · rw [List.length_map]; omega
      · rw [List.length_map]; omega
      rw [List.length_map] at a1
      obtain ⟨j, rfl⟩ : ∃ j : Nat, a = (j : Int) := ⟨a.toNat, by omega⟩
      have hj : j < ys.length := by omega
      have gj : (ys.map g)[j]? = some (g ys[j]) := by rw [List.getElem?_map, List.getElem?_eq_getElem hj]; rfl
      have k2 := kp.oth o2
      have er2 : H2 r' = some (.lst (ys.map g)) := (o2 r' npr'.symm).trans er
      have el2 : H2 l = some (.lst (zs.map g)) := (o2 l npl.symm).trans el
      refine ⟨.ref l, rfl, .inl ⟨rfl, _, sl_map el2⟩, .ref r', rfl, .int j, rfl, r', _, j, g ys[j], rfl, rfl, sl_map er2, at_of (j := j) rfl gj, l, _, _, rfl, rfl, el2, ?_, ?_⟩
      · rw [List.length_map]
        exact small1000 (by omega)
      have el4 : (upd H2 l (.lst (zs.map g ++ [g ys[j]]))) l = some (.lst ((zs ++ [ys[j]]).map g)) := by rw [upd_same, List.map_append] <;> rfl
      have er4 : (upd H2 l (.lst (zs.map g ++ [g ys[j]]))) r' = some (.lst (ys.map g)) := by rw [upd_ne nrl]; exact er2
      have st4 : Strm (upd H2 l (.lst (zs.map g ++ [g ys[j]]))) p := st2.upd npl
      have k4 : Keep p H (upd H2 l (.lst (zs.map g ++ [g ys[j]]))) := k2.at_ nl1
      generalize upd H2 l (.lst (zs.map g ++ [g ys[j]])) = H4 at el4 er4 st4 k4 ⊢
      refine ⟨.ref r', rfl, _, rfl, _, rfl, r', _, rfl, sl_map er4, fun s1 ns1 => ?_⟩
      have t1 := same_new (o := HO.lst (cutV (ys.map g) none (some (j : Int)))) ns1
      refine ⟨.ref r', rfl, _, rfl, (j : Int), 1, rfl, rfl, _, rfl, r', _, rfl, sl_map (t1 _ _ er4), fun s2 ns2 => ?_⟩
      have n12 : s1 ≠ s2 := fun z => by rw [← z, upd_same] at ns2; cases ns2
      have c1 : cutV (ys.map g) none (some (j : Int)) = (ys.take j).map g := by rw [cutV_to, List.map_take]
      have c2 : cutV (ys.map g) (some ((j : Int) + 1)) none = (ys.drop (j + 1)).map g := by rw [show (j : Int) + 1 = ((j + 1 : Nat) : Int) by omega, cutV_from, List.map_drop]
      have t2 := t1.trans (same_new (o := HO.lst (cutV (ys.map g) (some ((j : Int) + 1)) none)) ns2)
      refine ⟨s1, s2, _, _, rfl, rfl, by rw [upd_ne n12]; exact upd_same, upd_same, ?_, fun r2 nr2 => ?_⟩
      · have a := cutV_length (ys.map g) none (some (j : Int))
        have b := cutV_length (ys.map g) (some ((j : Int) + 1)) none
        rw [List.length_map] at a b
        exact Nat.le_of_lt (small1000 (by show _ + (cutV (ys.map g) (some ((j : Int) + 1)) none).length ≤ 1000; omega))
      · have t3 := t2.trans (same_new (o := HO.lst (cutV (ys.map g) none (some (j : Int)) ++ cutV (ys.map g) (some ((j : Int) + 1)) none)) nr2)
        have nr4 : H4 r2 = none := t2.free nr2
        have st5 : Strm _ p := st4.keep (Keep.same (p := r2) t3) (fun z => st4.some (z ▸ nr4))
        have k5 : Keep p H _ := k4.trans (Keep.same t3)
        have r2l : r2 ≠ l := fun z => by rw [z, el4] at nr4; cases nr4
        refine ⟨r2, ys.eraseIdx j, zs ++ [ys[j]], _, _, rfl, k5, st5, ?_, k4.free st4 nr4, r2l, ?_, t3 _ _ el4, by rw [List.length_append, zl] <;> rfl, ?_⟩
        · have e5 : (ys.eraseIdx j).map g = cutV (ys.map g) none (some (j : Int)) ++ cutV (ys.map g) (some ((j : Int) + 1)) none := by
            rw [c1, c2, ← List.map_append, List.eraseIdx_eq_take_drop_succ]
          rw [e5]
          exact upd_same
        · rw [List.length_eraseIdx_of_lt hj]
          omega
        · rw [List.append_assoc]
          exact ((perm_at hj).append_left zs).trans pm
    · rintro σ H' ⟨r', ys, zs, y4, y5, rfl, kp, st, er, nr', nrl, ylen, el, zl, pm⟩
      have y0 : ys = [] := List.length_eq_zero_iff.mp (by rw [List.length_map] at ylen; omega)
      subst y0
      rw [List.append_nil] at pm
      exact ⟨_, rfl, q H' l zs kp nl1 st el pm⟩
abbrev sMn : Stmt := topS 44
abbrev nMn : List Str := ["_law_stream_here", "_law_count", "_law_head", "_law_tail", "_law_shift", "_law_k"]
theorem scMn : FnScope nMn ["_law_stream_here", "_law_count"] (defScope sMn) := ⟨rfl, rfl, rfl, by decide +kernel, rfl, by decide +kernel, by decide +kernel⟩
def spMn : Sp := fun vs H Q _ => ∃ (p : Addr) (m : Nat), vs = [.ref p, .int (m : Int)] ∧ Strm H p ∧ m ≤ 16 ∧
  ∀ (H' : Hp) (l : Addr) (xs : List Str), Keep p H H' → H l = none → Strm H' p → H' l = some (.lst (xs.map V.str)) → xs.length = m → xs.Nodup → (∀ x ∈ xs, x ≠ "aside") → Q (.ref l) H'
theorem ok_Mn {f f0 : Addr} {fd fd0 : FuncData} (F : Fun K "_law_many_names" "_law_many_names" sMn f fd) (B : Bt mg) (zstr : mg "str" = none) (D : Call P w K mg base 1 "_law_next" f0 fd0 ["_law_stream_here", "_law_size"] spDraw) :
    FnOk P w K mg base CX0 2 f fd ["_law_stream_here", "_law_count"] spMn := by
  refine F.ok scMn (fun vs H Q E h => ?_) (fun cdv A outer s H vs Q E hr h => ?_)
  · obtain ⟨p, m, rfl, _⟩ := h
    rfl
  · obtain ⟨p, m, rfl, hp, m16, q⟩ := h
    have nd := scMn.nd
    refine ⟨_, pss_cons (ps_set (i := 2) nd rfl (.inr rfl) (pe_ix ix_list (pe_lst (pa_cons pe_str (pa_cons pe_str (pa_cons pe_str (pa_cons pe_str pa_nil))))) (pe_call D.ok (hr.mono (by decide)) (by rfl) D.at_ D.kp D.bd .nil pass0 (pa_cons (pv 0) (pa_cons pe_int pa_nil))) (fun _ _ => rfl)))
      (pss_cons (ps_set (i := 3) nd rfl (.inr rfl) (pe_ix ix_list (pe_lst (pa_cons pe_str (pa_cons pe_str (pa_cons pe_str pa_nil)))) (pe_call D.ok (hr.mono (by decide)) (by rfl) D.at_ D.kp D.bd .nil pass0 (pa_cons (pv 0) (pa_cons pe_int pa_nil))) (fun _ _ => rfl)))
      (pss_cons (ps_set (i := 4) nd rfl (.inr rfl) (pe_call D.ok (hr.mono (by decide)) (by rfl) D.at_ D.kp D.bd .nil pass0 (pa_cons (pv 0) (pa_cons pe_int pa_nil))))
      (pss_one (ps_ret (pe_lc (own := [("_law_k", 5)]) (g := gName 5) (tt := tYes)  rfl nd (pi_range1 (by rfl) B.range (pa_cons (pv 1) pa_nil)) (blkOk_by (N := nMn) (sc := defScope sMn) (by decide +kernel)) (fun _ _ _ _ _ => pg_name (i := 5) nd rfl (.inl rfl)) (fun _ _ _ _ _ => pts_nil)
          (fun _ _ _ _ _ => (pe_op op_add_str (pe_op op_add_str (pv 2) (pe_callTy call_str_int (by rfl) zstr PyProof.Rows.boot_str (pa_cons (pe_op op_mod (pe_callTy call_int1 (by rfl) B.int PyProof.Rows.boot_int (pa_cons (pe_op op_add (pe_op op_mul (pv 5) pe_int) (pv 4)) pa_nil)) pe_int) pa_nil))) (pv 3)))))))), ?_⟩
    refine ⟨by show 4 ≤ sizeLine; decide, fun t nt => ?_⟩
    have npt : p ≠ t := fun z => hp.some (z ▸ nt)
    refine ⟨.ref p, rfl, p, 4, rfl, hp.upd npt, by decide, by decide, fun H2 e o2 st2 e0 e1 => ?_⟩
    have k2 : Keep p H H2 := ((Keep.refl p H).at_ nt).oth o2
    obtain ⟨hd, hhd, hdl, hdm⟩ : ∃ hd : Str, atI [V.str "n", V.str "item_", V.str "q7", V.str "x_y_z0"] e = some (.str hd) ∧ hd.length ≤ 6 ∧ hd ∈ headsM := by
      have : e = 0 ∨ e = 1 ∨ e = 2 ∨ e = 3 := by omega
      rcases this with rfl | rfl | rfl | rfl
      · exact ⟨_, atI_nat (j := 0) rfl, by decide +kernel, by decide +kernel⟩
      · exact ⟨_, atI_nat (j := 1) rfl, by decide +kernel, by decide +kernel⟩
      · exact ⟨_, atI_nat (j := 2) rfl, by decide +kernel, by decide +kernel⟩
      · exact ⟨_, atI_nat (j := 3) rfl, by decide +kernel, by decide +kernel⟩
    have et := (o2 t npt.symm).trans (upd_same (H := H) (a := t) (o := HO.lst [V.str "n", V.str "item_", V.str "q7", V.str "x_y_z0"]))
    refine ⟨t, _, e, .str hd, rfl, rfl, sl_map et, hhd, ?_⟩
    refine ⟨by show 3 ≤ sizeLine; decide, fun u nu => ?_⟩
    have npu : p ≠ u := fun z => st2.some (z ▸ nu)
    refine ⟨.ref p, rfl, p, 3, rfl, st2.upd npu, by decide, by decide, fun H3 g o3 st3 g0 g1 => ?_⟩
    have k3 : Keep p H H3 := (k2.at_ (k2.free st2 nu)).oth o3
    obtain ⟨tl, htl, tll, tlm⟩ : ∃ tl : Str, atI [V.str "", V.str "a", V.str "_tail"] g = some (.str tl) ∧ tl.length ≤ 6 ∧ tl ∈ tailsM := by
      have : g = 0 ∨ g = 1 ∨ g = 2 := by omega
      rcases this with rfl | rfl | rfl
      · exact ⟨_, atI_nat (j := 0) rfl, by decide +kernel, by decide +kernel⟩
      · exact ⟨_, atI_nat (j := 1) rfl, by decide +kernel, by decide +kernel⟩
      · exact ⟨_, atI_nat (j := 2) rfl, by decide +kernel, by decide +kernel⟩
    have eu := (o3 u npu.symm).trans (upd_same (H := H2) (a := u) (o := HO.lst [V.str "", V.str "a", V.str "_tail"]))
    refine ⟨u, _, g, .str tl, rfl, rfl, sl_map eu, htl, ?_⟩
    refine ⟨.ref p, rfl, p, 16, rfl, st3, by decide, by decide, fun H4 s o4 st4 s0 s1 => ?_⟩
    obtain ⟨s, rfl⟩ : ∃ m : Nat, s = (m : Int) := ⟨s.toNat, by omega⟩
    have k4 := k3.oth o4
    refine ⟨.int (m : Int), rfl, (m : Int), rfl, by omega, by omega, fun R nR => ?_⟩
    refine lc_range (lo := 0) (fun i H' => Same H4 H' ∧ H' R = some (.lst (((List.range i).map (nam hd tl s)).map V.str))) ⟨same_new nR, upd_same⟩ ?_ ?_
    · rintro i H' hi ⟨sm, eR⟩
      refine ⟨rfl, .str hd, rfl, .int (0 + (i : Int)), rfl, 0 + (i : Int), 7, rfl, rfl, .inr ⟨by decide, by decide⟩, .int s, rfl, (0 + (i : Int)) * 7, s, rfl, rfl, .inl ⟨_, rfl, (0 + (i : Int)) * 7 + s, 16, rfl, rfl, ?_, ?_⟩⟩
      · show (0 : Int) < 16
        decide
      · obtain ⟨k, hk, hk16, hkk⟩ : ∃ k : Nat, ((0 + (i : Int)) * 7 + s) % 16 = (k : Int) ∧ k < 16 ∧ k = (i * 7 + s) % 16 := ⟨(i * 7 + s) % 16, by omega, by omega, rfl⟩
        show ∃ j, [V.int (((0 + (i : Int)) * 7 + s) % 16)] = [V.int j] ∧ _
        rw [hk]
        refine ⟨(k : Int), rfl, log16 k (List.mem_range.mpr hk16), hd, _, rfl, rfl, ?_, .str tl, rfl, _, _, rfl, rfl, ?_, _, eR, ?_, same_at sm nR, ?_⟩
        · have := digits2 k (List.mem_range.mpr hk16)
          exact Nat.le_trans (Nat.add_le_add hdl this) (by decide)
        · have := digits2 k (List.mem_range.mpr hk16)
          rw [len_app]
          exact Nat.le_trans (Nat.add_le_add (Nat.add_le_add hdl this) tll) (by decide)
        · rw [List.length_map, List.length_map, List.length_range]
          exact small1000 (by omega)
        · rw [upd_same, List.range_succ, List.map_append, List.map_append]
          unfold nam
          rw [hkk] <;> rfl
    · rintro H' ⟨sm, eR⟩
      have nR0 : H R = none := k4.free st4 nR
      have npR : p ≠ R := fun z => hp.some (z ▸ nR0)
      obtain ⟨nn, na⟩ := names_many hdm tlm (show s < 16 by omega) (m := m) m16
      refine q H' R _ (k4.trans (Keep.same sm)) nR0 ?_ eR (by rw [List.length_map, List.length_range]; omega) nn na
      obtain ⟨x, y, z, ep⟩ := st4
      exact ⟨x, y, z, sm _ _ ep⟩
abbrev sDn : Stmt := topS 45
abbrev nDn : List Str := ["_law_stream_here", "_law_count"]
theorem scDn : FnScope nDn ["_law_stream_here", "_law_count"] (defScope sDn) := ⟨rfl, rfl, rfl, by decide +kernel, rfl, by decide +kernel, by decide +kernel⟩
def spDn : Sp := fun vs H Q _ => ∃ (p : Addr) (m : Nat), vs = [.ref p, .int (m : Int)] ∧ Strm H p ∧ m ≤ 16 ∧
  ∀ (H' : Hp) (l : Addr) (xs : List Str), Keep p H H' → H l = none → Strm H' p → H' l = some (.lst (xs.map V.str)) → xs.length = m → Q (.ref l) H'
theorem ok_Dn {f f0 f1 : Addr} {fd fd0 fd1 : FuncData} (F : Fun K "_law_drawn_names" "_law_drawn_names" sDn f fd) (B : Bt mg) (Cna : Call P w K mg base 2 "_law_names" f0 fd0 ["_law_stream_here", "_law_count"] spNames) (CMn : Call P w K mg base 2 "_law_many_names" f1 fd1 ["_law_stream_here", "_law_count"] spMn) :
    FnOk P w K mg base CX0 3 f fd ["_law_stream_here", "_law_count"] spDn := by
  refine F.ok scDn (fun vs H Q E h => ?_) (fun cdv A outer s H vs Q E hr h => ?_)
  · obtain ⟨p, m, rfl, _⟩ := h
    rfl
  · obtain ⟨p, m, rfl, hp, m16, q⟩ := h
    refine ⟨_, pss_cons (ps_if (pt_cmpR op_gt (pv 1) pe_int rfl)
        (pss_one (ps_ret (pe_call CMn.ok (hr.mono (by decide)) (by rfl) CMn.at_ CMn.kp CMn.bd .nil pass0 (pa_cons (pv 0) (pa_cons (pv 1) pa_nil)))))
        pss_nil)
      (pss_one (ps_ret (pe_call Cna.ok (hr.mono (by decide)) (by rfl) Cna.at_ Cna.kp Cna.bd .nil pass0 (pa_cons (pv 0) (pa_cons (pv 1) pa_nil))))), ?_⟩
    refine ⟨.int (m : Int), rfl, (m : Int), 8, rfl, rfl, _, rfl, ?_⟩
    by_cases c : (8 : Int) < (m : Int)
    · rw [decide_eq_true c]
      exact iteT ⟨.ref p, rfl, .int (m : Int), rfl, p, m, rfl, hp, m16, fun H' l xs k n st e len _ _ => q H' l xs k n st e len⟩
    · rw [decide_eq_false c]
      exact iteF ⟨.ref p, rfl, .int (m : Int), rfl, p, m, rfl, hp, by omega, fun H' l xs k n st e _ len _ => q H' l xs k n st e len⟩
end
end K23
set_option Elab.async false
set_option linter.all false
set_option maxRecDepth 100000
set_option maxHeartbeats 4000000
namespace K23
open PySem PySem.Spec PyProof.Rows L2 Cs CsX
section
variable {P : Program} {w : World} {K : PySem.W.Frag} {mg : Str → Option Value} {base : Heap}
abbrev sSof : Stmt := topS 28
abbrev nSof : List Str := ["values"]
theorem scSof : FnScope nSof ["values"] (defScope sSof) := ⟨rfl, rfl, rfl, by decide +kernel, rfl, by decide +kernel, by decide +kernel⟩
/-- of a tuple -/
def spSoT (K : PySem.W.Frag) : Sp := fun vs H Q _ => ∃ (l : Addr) (ks : List Int), vs = [.ref l] ∧ SqT K H l (ks.map V.int) ∧ ks.length ≤ 1000 ∧
  ∀ (H' : Hp) (r : Addr) (js : List Int), Same H H' → H r = none → H' r = some (.lst (js.map V.int)) → Srt js → (∀ v, v ∈ js ↔ v ∈ ks) → Q (.ref r) H'
theorem ok_SoT {f : Addr} {fd : FuncData} (F : Fun K "side_of" "side_of" sSof f fd) (B : Bt mg) : FnOk P w K mg base CX0 1 f fd ["values"] (spSoT K) := by
  refine F.ok scSof (fun vs H Q E h => ?_) (fun cdv A outer s H vs Q E hr h => ?_)
  · obtain ⟨l, ks, rfl, _⟩ := h
    rfl
  · obtain ⟨l, ks, rfl, el, few, q⟩ := h
    have hu := hu_of hr
    have nd := scSof.nd
    refine ⟨_, pss_one (ps_ret (pe_callB (r := rSortedN w) (cr_sortedN rfl) (by rfl) B.sorted PyProof.Rows.boot_sorted (pa_cons (pe_callTy (r := rSetT K w) (cr_setT rfl) (by rfl) B.set PyProof.Rows.boot_set (pa_cons (pv 0) pa_nil)) pa_nil))), ?_⟩
    refine ⟨_, rfl, l, ks, rfl, el, by omega, fun p c np hc => ⟨p, _, c, rfl, upd_same, by omega, fun ns r as mem len nr => ?_⟩⟩
    have s1 := same_new (o := SetO w p (fun j => decide (j ∈ ks)) c) np
    exact q _ r ns (s1.trans (same_new nr)) (s1.free nr) upd_same as fun v => (mem v).trans decide_eq_true_iff
abbrev sChk : Stmt := topS 30
abbrev nChk : List Str := ["names", "earlier", "name"]
theorem scChk : FnScope nChk ["names"] (defScope sChk) := ⟨rfl, rfl, rfl, by decide +kernel, rfl, by decide +kernel, by decide +kernel⟩
def spChk : Sp := fun vs H Q _ => ∃ (a : Addr) (xs : List Str), vs = [.ref a] ∧ H a = some (.lst (xs.map V.str)) ∧ xs ≠ [] ∧ xs.Nodup ∧ xs.length ≤ 1000 ∧
  ∀ (H' : Hp) (t : Addr), Same H H' → (∀ b, H' b = none → H b = none) → H t = none → TpK H' t (xs.map V.str) → Q (.ref t) H'
theorem ok_Chk {f : Addr} {fd : FuncData} (F : Fun K "checked_names" "checked_names" sChk f fd) (B : Bt mg) (ztuple : mg "tuple" = none) : FnOk P w K mg base CX0 1 f fd ["names"] spChk := by
  refine F.ok scChk (fun vs H Q E h => ?_) (fun cdv A outer s H vs Q E hr h => ?_)
  · obtain ⟨a, xs, rfl, _⟩ := h
    rfl
  · obtain ⟨a, xs, rfl, ha, ne, nd0, few, k⟩ := h
    have nd := scChk.nd
    refine ⟨_, pss_cons (ps_if (pt_cmpR op_eq (pe_callB call_len_seq (by rfl) B.len PySem.boot_len (pa_cons (pv 0) pa_nil)) pe_int rfl) pss_any pss_nil)
      (pss_cons (ps_set (i := 1) nd rfl (.inl rfl) (pe_callTy0 cr_set0K (by rfl) B.set PyProof.Rows.boot_set))
      (pss_cons (ps_for PassesOwn.never rfl (pi_list (pv 0)) (pg_name (i := 2) nd rfl (.inl rfl))
        (pss_cons (ps_if (pt_cmpR or_sinK (pv 2) (pv 1) rfl) pss_any pss_nil)
        (pss_one (ps_expr (pe_saddK (pv 1) (pa_cons (pv 2) pa_nil))))))
      (pss_one (ps_ret (pe_callTy call_tupK (by rfl) ztuple PyProof.Rows.boot_tuple (pa_cons (pv 0) pa_nil)))))), ?_⟩
    refine ⟨_, rfl, a, _, rfl, .inl (sl_map ha), rfl, _, rfl, ite_both (fun c => ?_) fun _ => ?_⟩
    · have := V.int.inj (of_decide_eq_true c)
      rw [List.length_map] at this
      cases xs with
      | nil => exact absurd rfl ne
      | cons x xs => rw [List.length_cons] at this; omega
    refine ⟨rfl, fun D nD => ?_⟩
    have s0 := same_new (o := SetK P w D (fun _ => false) 0) nD
    refine ⟨.ref a, rfl, a, rfl, ⟨_, sl_map (s0 _ _ ha)⟩, for_list (xs := xs.map V.str) (fun i σ H' => ∃ (S : Key → Bool) (n : Nat) (y2 : Option V), σ = [some (.ref a), some (.ref D), y2] ∧ Same H H' ∧ (∀ b, H' b = none → H b = none) ∧ H' D = some (SetK P w D S n) ∧ n ≤ i ∧ ∀ x, S (.inr x) = true → x ∈ xs.take i)
      ⟨_, 0, none, rfl, s0, (fun b e => by grind only [= g_upd]), upd_same, Nat.le_refl _, (fun _ h => nomatch h)⟩ (fun i σ H' _ h => by obtain ⟨_, _, _, _, h, _⟩ := h; exact sl_map (h _ _ ha)) ?_ ?_⟩
    · rintro i x σ H' hx ⟨S, n, y2, rfl, sm, fr, hD, ni, hS⟩
      rw [List.getElem?_map] at hx
      obtain ⟨x, hv, rfl⟩ := Option.map_eq_some_iff.mp hx
      obtain ⟨hi, ex⟩ := List.getElem?_eq_some_iff.mp hv
      have out : S (.inr x) = false := by
        cases e : S (.inr x) with
        | false => rfl
        | true =>
          obtain ⟨j, hj, ej⟩ := List.mem_iff_getElem.mp (hS x e)
          rw [List.length_take] at hj
          rw [List.getElem_take] at ej
          have := (List.getElem_inj nd0).mp (ej.trans ex.symm)
          omega
      refine ⟨_, rfl, _, rfl, .inr x, D, S, n, rfl, rfl, hD, _, rfl, ite_both (fun c => ?_) fun _ => ?_⟩
      · have c' : S (.inr x) = true := c
        rw [out] at c'; cases c'
      refine ⟨_, rfl, ⟨D, S, n, rfl, hD⟩, _, rfl, D, .inr x, S, n, rfl, rfl, hD, by show n + 1 < 4096; omega, ?_⟩
      refine ⟨_, _, _, rfl, fun b o e => ?_, fun b e => ?_, upd_same, ?_, fun z hz => ?_⟩
      · have : b ≠ D := fun q => by rw [q, nD] at e; cases e
        rw [upd_ne this]; exact sm b o e
      · by_cases q : b = D
        · rw [q, upd_same] at e; cases e
        · rw [upd_ne q] at e; exact fr b e
      · rw [out]; show n + 1 ≤ i + 1; omega
      · rw [take_snoc hv]
        rcases Bool.or_eq_true_iff.mp hz with q | q
        · exact List.mem_append_left _ (hS z q)
        · have := Sum.inr.inj (of_decide_eq_true q)
          rw [this]; exact List.mem_append_right _ (List.mem_singleton.mpr rfl)
    · rintro σ H' ⟨S, n, y2, rfl, sm, fr, hD, _, _⟩
      refine ⟨_, rfl, a, _, rfl, sl_map (sm _ _ ha), fun l od nl po => k _ l (fun b o e => ?_) (fun b e => ?_) (fr l nl) ⟨od, po, upd_same⟩⟩
      · have : b ≠ l := fun q => by rw [q, fr l nl] at e; cases e
        rw [upd_ne this]; exact sm b o e
      · by_cases q : b = l
        · rw [q, upd_same] at e; cases e
        · rw [upd_ne q] at e; exact fr b e
abbrev sRof : Stmt := topS 31
abbrev nRof : List Str := ["names", "values", "name"]
theorem scRof : FnScope nRof ["names", "values"] (defScope sRof) := ⟨rfl, rfl, rfl, by decide +kernel, rfl, by decide +kernel, by decide +kernel⟩
def spRof : Sp := fun vs H Q _ => ∃ (t d : Addr) (ns : List Str) (A : List (Str × Int)) (f : Str → Int), vs = [.ref t, .ref d] ∧ TpK H t (ns.map V.str) ∧ H d = some (.dK (intK A)) ∧ ns.length ≤ 1000 ∧ (∀ x ∈ ns, aget A x = some (f x)) ∧
  ∀ (H' : Hp) (r : Addr), Same H H' → H r = none → TpK H' r ((ns.map f).map V.int) → Q (.ref r) H'
theorem ok_Rof {f0 : Addr} {fd : FuncData} (F : Fun K "row_of" "row_of" sRof f0 fd) (B : Bt mg) (ztuple : mg "tuple" = none) : FnOk P w K mg base CX0 1 f0 fd ["names", "values"] spRof := by
  refine F.ok scRof (fun vs H Q E h => ?_) (fun cdv A outer s H vs Q E hr h => ?_)
  · obtain ⟨t, d, ns, A, f, rfl, _⟩ := h
    rfl
  · obtain ⟨t, d, ns, A, f, rfl, et, ed, few, av, q⟩ := h
    have hu := hu_of hr
    have nd := scRof.nd
    refine ⟨_, pss_one (ps_ret (pe_callTy call_tupK (by rfl) ztuple PyProof.Rows.boot_tuple (pa_cons (pe_lc (own := [("name", 2)]) (g := gName 2) (tt := tYes)  rfl nd (pi_tup (pv 0)) (blkOk_by (N := nRof) (sc := defScope sRof) (by decide +kernel)) (fun _ _ _ _ _ => pg_name (i := 2) nd rfl (.inl rfl)) (fun _ _ _ _ _ => pts_nil)
        (fun _ _ _ _ _ => (pe_dget hu (pv 1) (pv 2) (fun _ _ => rfl)))) pa_nil))), ?_⟩
    refine ⟨_, rfl, t, rfl, ⟨_, et.sq⟩, fun Z nZ => lc_tup (xs := ns.map V.str) (fun i H' => Same H H' ∧ H' Z = some (.lst (((ns.take i).map f).map V.int))) ⟨same_new nZ, upd_same⟩ (fun i H' _ h => (et.same h.1).sq) ?_ ?_⟩
    · rintro i x0 H1 hx0 ⟨s1, eZ⟩
      rw [List.getElem?_map] at hx0
      obtain ⟨x, hx, rfl⟩ := Option.map_eq_some_iff.mp hx0
      have hi := (List.getElem?_eq_some_iff.mp hx).1
      refine ⟨rfl, _, rfl, _, rfl, d, .int (f x), rfl, dgetI (s1 _ _ ed) (av x (List.mem_of_getElem? hx)), _, eZ, by rw [List.length_map, List.length_map, List.length_take]; exact small1000 (by omega), same_at s1 nZ, ?_⟩
      rw [upd_same, take_snoc hx, List.map_append, List.map_append] <;> rfl
    · rintro H1 ⟨s1, eZ⟩
      rw [List.length_map, List.take_length] at eZ
      exact ⟨Z, _, rfl, sl_map eZ, fun r o nr po => q _ r (s1.trans (same_new nr)) (s1.free nr) ⟨o, po, upd_same⟩⟩
abbrev sCl : Stmt := topS 34
abbrev nCl : List Str := ["limits", "earlier", "value", "low", "high"]
theorem scCl : FnScope nCl ["limits"] (defScope sCl) := ⟨rfl, rfl, rfl, by decide +kernel, rfl, by decide +kernel, by decide +kernel⟩
def spCl : Sp := fun vs H Q _ => ∃ (l : Addr) (es : List LmE), vs = [.ref l] ∧ H l = some (.lst (es.map fun e => V.ref e.1)) ∧ LmT H es ∧ Sound (es.map (·.2)) ∧ es.length ≤ 100 ∧
  ∀ (H' : Hp) (t : Addr) (fs : List LmE), Same H H' → H t = none → H' t = some (.tup (fs.map fun e => V.ref e.1)) → LmT H' fs → fs.map (·.2) = es.map (·.2) → Q (.ref t) H'
theorem ok_Cl {f : Addr} {fd : FuncData} (F : Fun K "_checked_limits" "_checked_limits" sCl f fd) (B : Bt mg) (ztuple : mg "tuple" = none) : FnOk P w K mg base CX0 1 f fd ["limits"] spCl := by
  refine F.ok scCl (fun vs H Q E h => ?_) (fun cdv A outer s H vs Q E hr h => ?_)
  · obtain ⟨l, es, rfl, _⟩ := h
    rfl
  · obtain ⟨l, es, rfl, el, lt, so, few, q⟩ := h
    have hu := hu_of hr
    have nd := scCl.nd
    refine ⟨_, pss_cons (ps_set (i := 1) nd rfl (.inl rfl) (pe_callTy0 cr_set0K (by rfl) B.set PyProof.Rows.boot_set))
      (pss_cons (ps_for PassesOwn.never rfl (pi_list (pv 0)) (pg_tup (by rfl) (pgs_cons (pg_name (i := 2) nd rfl (.inl rfl)) (pgs_cons (pg_name (i := 3) nd rfl (.inl rfl)) (pgs_cons (pg_name (i := 4) nd rfl (.inl rfl)) pgs_nil))))
        (pss_cons (ps_if (PW.pt (pw_or (pt_cmpR op_lt (pv 3) pe_int rfl) (pw_or1 (pt_cmpR op_gt (pv 3) (pv 4) rfl)))) pss_any pss_nil)
        (pss_cons (ps_if (pt_cmpR or_sinK (pv 2) (pv 1) rfl) pss_any pss_nil)
        (pss_one (ps_expr (pe_saddK (pv 1) (pa_cons (pv 2) pa_nil)))))))
      (pss_one (ps_ret (pe_callTy call_tuple_of (by rfl) ztuple PyProof.Rows.boot_tuple (pa_cons (pe_lc (own := [("value", 2), ("low", 3), ("high", 4)]) (g := gTup K 3 (gCons (gName 2) (gCons (gName 3) (gCons (gName 4) gNil)))) (tt := tYes) rfl nd (pi_list (pv 0)) (blkOk_by (N := nCl) (sc := defScope sCl) (by decide +kernel)) (fun _ _ _ _ _ => pg_tup (by rfl) (pgs_cons (pg_name (i := 2) nd rfl (.inl rfl)) (pgs_cons (pg_name (i := 3) nd rfl (.inl rfl)) (pgs_cons (pg_name (i := 4) nd rfl (.inl rfl)) pgs_nil)))) (fun _ _ _ _ _ => pts_nil)
          (fun _ _ _ _ _ => (pe_tup (pa_cons (pv 2) (pa_cons (pv 3) (pa_cons (pv 4) pa_nil)))))) pa_nil))))), ?_⟩
    refine ⟨rfl, fun D nD => ?_⟩
    have s0 := same_new (o := SetK P w D (fun _ => false) 0) nD
    refine ⟨.ref l, rfl, l, rfl, ⟨_, sl_map (s0 _ _ el)⟩, for_list (xs := es.map fun e => V.ref e.1) (fun i σ H' => ∃ (S : Key → Bool) (n : Nat) (y2 y3 y4 : Option V), σ = [some (.ref l), some (.ref D), y2, y3, y4] ∧ Same H H' ∧ H' D = some (SetK P w D S n) ∧ n ≤ i ∧ ∀ v, S (.inl v) = true → v ∈ (es.map (·.2.1)).take i)
      ⟨_, 0, none, none, none, rfl, s0, upd_same, Nat.le_refl _, (fun _ h => nomatch h)⟩ (fun i σ H' _ h => by obtain ⟨_, _, _, _, _, _, h, _⟩ := h; exact sl_map (h _ _ el)) ?_ ?_⟩
    · rintro i x0 σ H1 hx ⟨S, n, y2, y3, y4, rfl, sm, hD, ni, hS⟩
      rw [List.getElem?_map] at hx
      obtain ⟨e, he, rfl⟩ := Option.map_eq_some_iff.mp hx
      have em := List.mem_of_getElem? he
      have hi := (List.getElem?_eq_some_iff.mp he).1
      obtain ⟨o1, o2⟩ := so.2 e.2 (List.mem_map.mpr ⟨e, em, rfl⟩)
      have hv : (es.map (·.2.1))[i]? = some e.2.1 := by rw [List.getElem?_map, he] <;> rfl
      have ndv : (es.map (·.2.1)).Nodup := by have := so.1; rw [List.map_map] at this; exact this
      have out : S (.inl e.2.1) = false := by
        cases c : S (.inl e.2.1) with
        | false => rfl
        | true => exact absurd (hS _ c) (not_take ndv hv)
      refine ⟨e.1, _, rfl, .inl (.inl (sm _ _ (lt e em))), rfl, _, _, rfl, _, _, rfl, _, _, rfl, rfl, ?_⟩
      refine ⟨_, rfl, _, _, rfl, rfl, _, rfl, ite_both (fun c => ?_) fun _ => ⟨_, rfl, _, rfl, _, _, rfl, rfl, _, rfl, ite_both (fun c => ?_) fun _ => ?_⟩⟩
      · have := of_decide_eq_true c; omega
      · have := of_decide_eq_true c; omega
      refine ⟨_, rfl, _, rfl, .inl e.2.1, D, S, n, rfl, rfl, hD, _, rfl, ite_both (fun c => ?_) fun _ => ?_⟩
      · have c' : S (.inl e.2.1) = true := c
        rw [out] at c'; cases c'
      refine ⟨_, rfl, ⟨D, S, n, rfl, hD⟩, _, rfl, D, .inl e.2.1, S, n, rfl, rfl, hD, by show n + 1 < 4096; omega, ?_⟩
      refine ⟨_, _, _, _, _, rfl, same_at sm nD, upd_same, ?_, fun z hz => ?_⟩
      · rw [out]; show n + 1 ≤ i + 1; omega
      · rw [take_snoc hv]
        rcases Bool.or_eq_true_iff.mp hz with g | g
        · exact List.mem_append_left _ (hS z g)
        · have := Sum.inl.inj (of_decide_eq_true g)
          rw [this]; exact List.mem_append_right _ (List.mem_singleton.mpr rfl)
    · rintro σ H1 ⟨S, n, y2, y3, y4, rfl, sm, hD, _, _⟩
      refine ⟨_, rfl, l, rfl, ⟨_, sl_map (sm _ _ el)⟩, fun Z nZ => lc_list (xs := es.map fun e => V.ref e.1) (fun j H' => Same H1 H' ∧ ∃ fs : List LmE, H' Z = some (.lst (fs.map fun e => V.ref e.1)) ∧ LmT H' fs ∧ fs.map (·.2) = (es.take j).map (·.2)) ⟨same_new nZ, [], upd_same, (fun _ h => nomatch h), rfl⟩ (fun j H' _ h => sl_map (h.1 _ _ (sm _ _ el))) ?_ ?_⟩
      · rintro j x0 H2 hx ⟨s2, fs, eZ, lf, cf⟩
        rw [List.getElem?_map] at hx
        obtain ⟨e, he, rfl⟩ := Option.map_eq_some_iff.mp hx
        have em := List.mem_of_getElem? he
        have hj := (List.getElem?_eq_some_iff.mp he).1
        have lfs : fs.length = j := by have := congrArg List.length cf; rw [List.length_map, List.length_map, List.length_take] at this; omega
        refine ⟨e.1, _, rfl, .inl (.inl (s2 _ _ (sm _ _ (lt e em)))), rfl, _, _, rfl, _, _, rfl, _, _, rfl, rfl, rfl, ?_⟩
        refine ⟨_, rfl, _, rfl, _, rfl, by show 3 ≤ sizeLine; decide, fun T nT => ?_⟩
        have sT := same_new (o := HO.tup [V.int e.2.1, .int e.2.2.1, .int e.2.2.2]) nT
        have TZ : T ≠ Z := fun z => by rw [z, eZ] at nT; cases nT
        refine ⟨_, sT _ _ eZ, by rw [List.length_map]; exact small1000 (by omega), same_at (s2.trans sT) nZ, fs ++ [(T, e.2)], by rw [upd_same, List.map_append] <;> rfl, fun g hg => ?_, ?_⟩
        · rcases List.mem_append.mp hg with h | h
          · have h1 := sT _ _ (lf g h)
            have : g.1 ≠ Z := fun z => by have h2 := lf g h; rw [z, eZ] at h2; cases h2
            rw [upd_ne this]; exact h1
          · rw [List.mem_singleton.mp h, upd_ne TZ]; exact upd_same
        · rw [take_snoc he, List.map_append, List.map_append, cf] <;> rfl
      · rintro H2 ⟨s2, fs, eZ, lf, cf⟩
        rw [List.length_map, List.take_length] at cf
        have s12 := sm.trans s2
        exact ⟨Z, _, rfl, .inl ⟨sl_map eZ, fun t nt => q _ t fs (s12.trans (same_new nt)) (s12.free nt) upd_same (lf.same (same_new nt)) cf⟩⟩
abbrev sCin : Stmt := inClass (topS 33) 0
abbrev nCin : List Str := ["self", "names", "limits"]
theorem scCin : FnScope nCin ["self", "names", "limits"] (defScope sCin) := ⟨rfl, rfl, rfl, by decide +kernel, rfl, by decide +kernel, by decide +kernel⟩
def spCin (C : Addr) : Sp := fun vs H Q _ => ∃ (p dx nl l : Addr) (ns : List Str) (es : List LmE), vs = [.ref p, .ref nl, .ref l] ∧ H p = some (.ins C dx []) ∧ H nl = some (.lst (ns.map V.str)) ∧ ns ≠ [] ∧ ns.Nodup ∧ ns.length ≤ 1000 ∧ H l = some (.lst (es.map fun e => V.ref e.1)) ∧ LmT H es ∧ Sound (es.map (·.2)) ∧ es.length ≤ 100 ∧
  ∀ (H' : Hp), Ct C H' p ns (es.map (·.2)) → (∀ b o, b ≠ p → H b = some o → H' b = some o) → Q .non H'
theorem ok_Cin {f C fC fE : Addr} {fd fdC fdE : FuncData} (F : Fun K "__init__" "Counts.__init__" sCin f fd) (B : Bt mg) (T : Kls K mg "Counts" C cF) (Ck : Call P w K mg base 1 "checked_names" fC fdC ["names"] spChk)
    (CCl : Call P w K mg base 1 "_checked_limits" fE fdE ["limits"] spCl) : FnOk P w K mg base CX0 2 f fd ["self", "names", "limits"] (spCin C) := by
  refine F.ok scCin (fun vs H Q E h => ?_) (fun cdv A outer s H vs Q E hr h => ?_)
  · obtain ⟨p, dx, nl, l, ns, es, rfl, _⟩ := h
    rfl
  · obtain ⟨p, dx, nl, l, ns, es, rfl, hp, en, ne, nd0, n1000, el, lt, so, few, k⟩ := h
    have nd := scCin.nd
    refine ⟨_, pss_cons (ps_fld (pv 0) (pe_call Ck.ok (hr.mono (by decide)) (by rfl) Ck.at_ Ck.kp Ck.bd .nil pass0 (pa_cons (pv 1) pa_nil)) rfl)
      (pss_one (ps_fld (pv 0) (pe_call CCl.ok (hr.mono (by decide)) (by rfl) CCl.at_ CCl.kp CCl.bd .nil pass0 (pa_cons (pv 2) pa_nil)) rfl)), ?_⟩
    refine ⟨_, rfl, nl, ns, rfl, en, ne, nd0, n1000, fun H1 t s1 fr1 nt et => ?_⟩
    have tp : t ≠ p := fun q => by rw [q, hp] at nt; cases nt
    refine ⟨_, rfl, p, C, dx, _, rfl, s1 _ _ hp, T.cl, T.no _ (by simp), by show 0 < 1000; decide, ?_⟩
    obtain ⟨H2, k2, e2, r2⟩ : ∃ H2, (∀ b o, b ≠ p → H1 b = some o → H2 b = some o) ∧ H2 p = some (.ins C dx (putF "names" (.ref t) [])) ∧ upd H1 p (.ins C dx (putF "names" (.ref t) [])) = H2 := ⟨_, fun b o n e => by rw [upd_ne n]; exact e, upd_same, rfl⟩
    rw [r2]
    clear r2
    have lp : l ≠ p := fun z => by rw [z, hp] at el; cases el
    have up : ∀ u ∈ es, u.1 ≠ p := fun u hu z => by have e := lt u hu; rw [z, hp] at e; cases e
    have et2 : TpK H2 t (ns.map V.str) := by obtain ⟨o, po, e⟩ := et; exact ⟨o, po, k2 _ _ tp e⟩
    refine ⟨_, rfl, l, es, rfl, k2 _ _ lp (s1 _ _ el), fun u hu => k2 _ _ (up u hu) (s1 _ _ (lt u hu)), so, few, fun H3 r fs s3 nr er lf cf => ?_⟩
    have rp : r ≠ p := fun z => by rw [z, e2] at nr; cases nr
    refine ⟨_, rfl, p, C, dx, _, rfl, s3 _ _ e2, T.cl, T.no _ (by simp), by show 1 < 1000; decide, ?_⟩
    refine k _ ⟨dx, t, r, fs, by rw [upd_same, cput], by obtain ⟨o, po, e⟩ := et2.same s3; exact ⟨o, po, by rw [upd_ne tp]; exact e⟩, by rw [upd_ne rp]; exact er, fun v hv => ?_, cf⟩ fun b o h1 h2 => ?_
    · have h1 := lf v hv
      rw [upd_ne fun z => by rw [z, s3 _ _ e2] at h1; cases h1]; exact h1
    · rw [upd_ne h1]; exact s3 _ _ (k2 _ _ h1 (s1 _ _ h2))
abbrev sAlo : Stmt := inClass (topS 33) 1
abbrev nAlo : List Str := ["self", "values", "row", "value", "low", "high"]
theorem scAlo : FnScope nAlo ["self", "values"] (defScope sAlo) := ⟨rfl, rfl, rfl, by decide +kernel, rfl, by decide +kernel, by decide +kernel⟩
def spAlo (C : Addr) : Sp := fun vs H Q _ => ∃ (p d : Addr) (ns : List Str) (ls : List Lim3) (A : List (Str × Int)) (g : Str → Int), vs = [.ref p, .ref d] ∧ Ct C H p ns ls ∧ ls.length ≤ 100 ∧ H d = some (.dK (intK A)) ∧ ns.length ≤ 1000 ∧ (∀ x ∈ ns, aget A x = some (g x)) ∧
  ∀ H', Same H H' → Q (.bl (keepsL ls (ns.map g))) H'
theorem ok_Alo {f C f0 : Addr} {fd fd0 : FuncData} (F : Fun K "allows" "Counts.allows" sAlo f fd) (B : Bt mg) (T : Kls K mg "Counts" C cF) (CRof : Call P w K mg base 1 "row_of" f0 fd0 ["names", "values"] spRof) : FnOk P w K mg base CX0 2 f fd ["self", "values"] (spAlo C) := by
  refine F.ok scAlo (fun vs H Q E h => ?_) (fun cdv A outer s H vs Q E hr h => ?_)
  · obtain ⟨p, d, ns, ls, A0, g, rfl, _⟩ := h
    rfl
  · obtain ⟨p, d, ns, ls, A0, g, rfl, ⟨dx, t, u, fs, hp, et, eu, lf, cf⟩, few, ed, n1000, av, q⟩ := h
    have hu := hu_of hr
    have nd := scAlo.nd
    refine ⟨_, pss_cons (ps_set (i := 2) nd rfl (.inr rfl) (pe_call CRof.ok (hr.mono (by decide)) (by rfl) CRof.at_ CRof.kp CRof.bd .nil pass0 (pa_cons (pe_fld (pv 0) rfl) (pa_cons (pv 1) pa_nil))))
      (pss_one (ps_ret (pe_callB (cr_all rfl) (by rfl) B.all PyProof.Rows.boot_all (pa_cons (pe_lc (own := [("value", 3), ("low", 4), ("high", 5)]) (g := gTup K 3 (gCons (gName 3) (gCons (gName 4) (gCons (gName 5) gNil)))) (tt := tYes) rfl nd (pi_tup (pe_fld (pv 0) rfl)) (blkOk_by (N := nAlo) (sc := defScope sAlo) (by decide +kernel)) (fun _ _ _ _ _ => pg_tup (by rfl) (pgs_cons (pg_name (i := 3) nd rfl (.inl rfl)) (pgs_cons (pg_name (i := 4) nd rfl (.inl rfl)) (pgs_cons (pg_name (i := 5) nd rfl (.inl rfl)) pgs_nil)))) (fun _ _ _ _ _ => pts_nil)
          (te := tAndV (tOp (rI0 fun i j => V.bl (decide (i ≤ j))) (tVar 4) (tBMT K (rCntT K) (tVar 2) (tCons (tVar 3) tNil))) (tOp (rI0 fun i j => V.bl (decide (i ≤ j))) (tBMT K (rCntT K) (tVar 2) (tCons (tVar 3) tNil)) (tVar 5)))
          (fun _ _ _ _ _ => (L2.pe_and (pe_cmpR op_le (pv 4) (pe_bmT PySem.F.plainAttrs_tuple PySem.F.slot_tuple_count PySem.F.type_tuple_count mt_tcount (pv 2) (pa_cons (pv 3) pa_nil)) rfl) (pe_one (pe_cmpR op_le (pe_bmT PySem.F.plainAttrs_tuple PySem.F.slot_tuple_count PySem.F.type_tuple_count mt_tcount (pv 2) (pa_cons (pv 3) pa_nil)) (pv 5) rfl))))) pa_nil)))), ?_⟩
    refine ⟨_, rfl, p, C, dx, _, _, rfl, hp, T.cl, T.no _ (by simp), clook1 _ _, _, rfl, t, d, ns, A0, g, rfl, et, ed, n1000, av, fun H1 r1 s1 nr er => ?_⟩
    refine ⟨_, rfl, p, C, dx, _, _, rfl, s1 _ _ hp, T.cl, T.no _ (by simp), clook2 _ _, ?_⟩
    have lcf : fs.length = ls.length := by rw [← cf, List.length_map]
    have cs : TpK H1 r1 ((ns.map g).map V.int) := er
    refine ⟨u, rfl, ⟨_, .inl (.inl (s1 _ _ eu))⟩, fun Z nZ => lc_tup (xs := fs.map fun e => V.ref e.1) (fun j H' => Same H1 H' ∧ H' Z = some (.lst (((ls.take j).map fun l => decide (l.2.1 ≤ ((ns.map g).count l.1 : Int)) && decide (((ns.map g).count l.1 : Int) ≤ l.2.2)).map V.bl))) ⟨same_new nZ, upd_same⟩ (fun j H' _ h => .inl (.inl (h.1 _ _ (s1 _ _ eu)))) ?_ ?_⟩
    · rintro j x0 H2 hx ⟨s2, eZ⟩
      rw [List.getElem?_map] at hx
      obtain ⟨e, he, rfl⟩ := Option.map_eq_some_iff.mp hx
      have em := List.mem_of_getElem? he
      have hj := (List.getElem?_eq_some_iff.mp he).1
      have hl : ls[j]? = some e.2 := by rw [← cf, List.getElem?_map, he] <;> rfl
      have S2 := s1.trans s2
      have ec := (cs.same s2).sq (K := K)
      have fin : ∀ b : Bool, b = (decide (e.2.2.1 ≤ ((ns.map g).count e.2.1 : Int)) && decide (((ns.map g).count e.2.1 : Int) ≤ e.2.2.2)) → ∃ acc, H2 Z = some (.lst acc) ∧ acc.length < sizeLine ∧ Same H1 (upd H2 Z (.lst (acc ++ [V.bl b]))) ∧ (upd H2 Z (.lst (acc ++ [V.bl b]))) Z = some (.lst (((ls.take (j + 1)).map fun l => decide (l.2.1 ≤ ((ns.map g).count l.1 : Int)) && decide (((ns.map g).count l.1 : Int) ≤ l.2.2)).map V.bl)) := fun b hb => by
        refine ⟨_, eZ, by rw [List.length_map, List.length_map, List.length_take]; exact small1000 (by omega), same_at s2 nZ, ?_⟩
        rw [upd_same, take_snoc hl, List.map_append, List.map_append, hb] <;> rfl
      refine ⟨e.1, _, rfl, .inl (.inl (S2 _ _ (lf e em))), rfl, _, _, rfl, _, _, rfl, _, _, rfl, rfl, rfl, ?_⟩
      refine ⟨_, rfl, _, rfl, ⟨_, _, rfl, cs.same s2⟩, _, rfl, r1, ns.map g, e.2.1, rfl, rfl, ec, _, _, rfl, rfl, _, rfl, ite_both (fun c => ?_) fun c => fin _ (by rw [c] <;> rfl)⟩
      refine ⟨_, rfl, ⟨_, _, rfl, cs.same s2⟩, _, rfl, r1, ns.map g, e.2.1, rfl, rfl, ec, _, rfl, _, _, rfl, rfl, fin _ (by rw [c, Bool.true_and])⟩
    · rintro H2 ⟨s2, eZ⟩
      rw [List.length_map, lcf, List.take_length] at eZ
      refine ⟨Z, _, rfl, sl_map eZ, ?_⟩
      rw [List.all_map]
      exact q _ (s1.trans s2)
abbrev sUin : Stmt := inClass (topS 36) 0
abbrev nUin : List Str := ["self", "names"]
theorem scUin : FnScope nUin ["self", "names"] (defScope sUin) := ⟨rfl, rfl, rfl, by decide +kernel, rfl, by decide +kernel, by decide +kernel⟩
def spUin (C : Addr) : Sp := fun vs H Q _ => ∃ (p dx nl : Addr) (ns : List Str), vs = [.ref p, .ref nl] ∧ H p = some (.ins C dx []) ∧ H nl = some (.lst (ns.map V.str)) ∧ ns ≠ [] ∧ ns.Nodup ∧ ns.length ≤ 1000 ∧
  ∀ (H' : Hp), Ul C H' p ns → (∀ b o, b ≠ p → H b = some o → H' b = some o) → Q .non H'
theorem ok_Uin {f C fC : Addr} {fd fdC : FuncData} (F : Fun K "__init__" "Unlike.__init__" sUin f fd) (B : Bt mg) (T : Kls K mg "Unlike" C uF) (Ck : Call P w K mg base 1 "checked_names" fC fdC ["names"] spChk) : FnOk P w K mg base CX0 2 f fd ["self", "names"] (spUin C) := by
  refine F.ok scUin (fun vs H Q E h => ?_) (fun cdv A outer s H vs Q E hr h => ?_)
  · obtain ⟨p, dx, nl, ns, rfl, _⟩ := h
    rfl
  · obtain ⟨p, dx, nl, ns, rfl, hp, en, ne, nd0, n1000, k⟩ := h
    have nd := scUin.nd
    refine ⟨_, pss_one (ps_fld (pv 0) (pe_call Ck.ok (hr.mono (by decide)) (by rfl) Ck.at_ Ck.kp Ck.bd .nil pass0 (pa_cons (pv 1) pa_nil)) rfl), ?_⟩
    refine ⟨_, rfl, nl, ns, rfl, en, ne, nd0, n1000, fun H1 t s1 fr1 nt et => ?_⟩
    have tp : t ≠ p := fun q => by rw [q, hp] at nt; cases nt
    refine ⟨_, rfl, p, C, dx, _, rfl, s1 _ _ hp, T.cl, T.no _ (by simp), by show 0 < 1000; decide, ?_⟩
    refine k _ ⟨dx, t, upd_same, ?_⟩ fun b o h1 h2 => by rw [upd_ne h1]; exact s1 _ _ h2
    obtain ⟨o, po, e⟩ := et
    exact ⟨o, po, by rw [upd_ne tp]; exact e⟩
abbrev sUal : Stmt := inClass (topS 36) 1
abbrev nUal : List Str := ["self", "values"]
theorem scUal : FnScope nUal ["self", "values"] (defScope sUal) := ⟨rfl, rfl, rfl, by decide +kernel, rfl, by decide +kernel, by decide +kernel⟩
def spUal (C : Addr) : Sp := fun vs H Q _ => ∃ (p d : Addr) (ns : List Str) (A : List (Str × Int)) (g : Str → Int), vs = [.ref p, .ref d] ∧ Ul C H p ns ∧ H d = some (.dK (intK A)) ∧ ns.length ≤ 1000 ∧ (∀ x ∈ ns, aget A x = some (g x)) ∧
  ∀ H', Same H H' → Q (.bl (decide (ns.map g).Nodup)) H'
theorem ok_Ual {f C f0 f1 : Addr} {fd fd0 fd1 : FuncData} (F : Fun K "allows" "Unlike.allows" sUal f fd) (B : Bt mg) (T : Kls K mg "Unlike" C uF) (CRof : Call P w K mg base 1 "row_of" f0 fd0 ["names", "values"] spRof) (CSoT : Call P w K mg base 1 "side_of" f1 fd1 ["values"] (spSoT K)) : FnOk P w K mg base CX0 2 f fd ["self", "values"] (spUal C) := by
  refine F.ok scUal (fun vs H Q E h => ?_) (fun cdv A outer s H vs Q E hr h => ?_)
  · obtain ⟨p, d, ns, A0, g, rfl, _⟩ := h
    rfl
  · obtain ⟨p, d, ns, A0, g, rfl, ⟨dx, t, hp, et⟩, ed, n1000, av, q⟩ := h
    have hu := hu_of hr
    have nd := scUal.nd
    refine ⟨_, pss_one (ps_ret (pe_cmpR op_eq (pe_callB call_len_seq (by rfl) B.len PySem.boot_len (pa_cons (pe_call CSoT.ok (hr.mono (by decide)) (by rfl) CSoT.at_ CSoT.kp CSoT.bd .nil pass0 (pa_cons (pe_call CRof.ok (hr.mono (by decide)) (by rfl) CRof.at_ CRof.kp CRof.bd .nil pass0 (pa_cons (pe_fld (pv 0) rfl) (pa_cons (pv 1) pa_nil))) pa_nil)) pa_nil)) (pe_callB call_len_seq (by rfl) B.len PySem.boot_len (pa_cons (pe_fld (pv 0) rfl) pa_nil)) rfl)), ?_⟩
    refine ⟨_, rfl, p, C, dx, _, _, rfl, hp, T.cl, T.no _ (by simp), ulook _, _, rfl, t, d, ns, A0, g, rfl, et, ed, n1000, av, fun H1 r1 s1 nr er => ?_⟩
    refine ⟨r1, ns.map g, rfl, er.sq, by rw [List.length_map]; omega, fun H2 r2 js s2 nr2 er2 as mem => ?_⟩
    have S2 := s1.trans s2
    refine ⟨r2, _, rfl, .inl (sl_map er2), _, rfl, p, C, dx, _, _, rfl, S2 _ _ hp, T.cl, T.no _ (by simp), ulook _, t, _, rfl, .inr (et.same S2).sq, rfl, ?_⟩
    have e := dec_len (srt_ndI as) mem
    rw [List.length_map] at e
    rw [List.length_map, List.length_map, e]
    exact q _ S2
abbrev sKp : Stmt := topS 53
abbrev nKp : List Str := ["_law_entries_here", "_law_taken", "_law_entry"]
theorem scKp : FnScope nKp ["_law_entries_here", "_law_taken"] (defScope sKp) := ⟨rfl, rfl, rfl, by decide +kernel, rfl, by decide +kernel, by decide +kernel⟩
def spKp : Sp := fun vs H Q _ => ∃ (l t : Addr) (es : List LmE) (r : List Int), vs = [.ref l, .ref t] ∧ H l = some (.lst (es.map fun e => V.ref e.1)) ∧ LmT H es ∧ H t = some (.lst (r.map V.int)) ∧ Q (.bl (keepsL (es.map (·.2)) r)) H
theorem ok_Kp {f  : Addr} {fd  : FuncData} (F : Fun K "_law_keeps" "_law_keeps" sKp f fd) (B : Bt mg) :
    FnOk P w K mg base CX0 1 f fd ["_law_entries_here", "_law_taken"] spKp := by
  refine F.ok scKp (fun vs H Q E h => ?_) (fun cdv A outer s H vs Q E hr h => ?_)
  · obtain ⟨l, t, es, r, rfl, _⟩ := h
    rfl
  · obtain ⟨l, t, es, r, rfl, el, lt, et, q⟩ := h
    have hu := hu_of hr
    have nd := scKp.nd
    refine ⟨_, pss_cons (ps_for PassesOwn.never rfl (pi_list (pv 0)) (pg_name (i := 2) nd rfl (.inl rfl))
        (pss_one (ps_if (PW.pt (pw_or (pt_cmpR op_lt (pe_bm PySem.F.plainAttrs_list PySem.F.slot_list_count PySem.F.type_list_count mt_lcount (pv 1) (pa_cons (pe_ix ix_tup (pv 2) pe_int (fun _ _ => rfl)) pa_nil)) (pe_ix ix_tup (pv 2) pe_int (fun _ _ => rfl)) rfl) (pw_or1 (pt_cmpR op_gt (pe_bm PySem.F.plainAttrs_list PySem.F.slot_list_count PySem.F.type_list_count mt_lcount (pv 1) (pa_cons (pe_ix ix_tup (pv 2) pe_int (fun _ _ => rfl)) pa_nil)) (pe_ix ix_tup (pv 2) pe_int (fun _ _ => rfl)) rfl))))
            (pss_one (ps_ret pe_bl))
            pss_nil)))
      (pss_one (ps_ret pe_bl)), ?_⟩
    refine ⟨_, rfl, l, rfl, ⟨_, sl_map el⟩, for_list (xs := es.map fun e => V.ref e.1) (fun i σ H' => ∃ (y2 : Option V), σ = [some (.ref l), some (.ref t), y2] ∧ H' = H ∧ keepsL ((es.take i).map (·.2)) r = true) ⟨none, rfl, rfl, rfl⟩ (fun i σ H' _ h => by obtain ⟨_, _, h, _⟩ := h; rw [h]; exact sl_map el) ?_ ?_⟩
    · rintro i x0 σ H1 hx ⟨y2, rfl, rfl, kp⟩
      rw [List.getElem?_map] at hx
      obtain ⟨e, he, rfl⟩ := Option.map_eq_some_iff.mp hx
      have em := List.mem_of_getElem? he
      have tu := lt e em
      have no : (decide (e.2.2.1 ≤ (r.count e.2.1 : Int)) && decide ((r.count e.2.1 : Int) ≤ e.2.2.2)) = false → keepsL (es.map (·.2)) r = false := fun h => by
        unfold keepsL
        rw [List.all_eq_false]
        exact ⟨e.2, List.mem_map.mpr ⟨e, em, rfl⟩, by rw [h]; decide⟩
      refine ⟨_, rfl, .inl ⟨rfl, _, sl_map et⟩, _, rfl, e.1, _, _, .int e.2.1, rfl, rfl, .inl (.inl tu), atI_nat (j := 0) rfl, t, r, e.2.1, rfl, rfl, sl_map et, ?_⟩
      refine ⟨_, rfl, e.1, _, _, .int e.2.2.1, rfl, rfl, .inl (.inl tu), atI_nat (j := 1) rfl, _, _, rfl, rfl, _, rfl, ite_both (fun c => ?_) fun c => ?_⟩
      · rw [no (by rw [decide_eq_false (by have := of_decide_eq_true c; omega)] <;> rfl)] at q
        exact q
      refine ⟨_, rfl, .inl ⟨rfl, _, sl_map et⟩, _, rfl, e.1, _, _, .int e.2.1, rfl, rfl, .inl (.inl tu), atI_nat (j := 0) rfl, t, r, e.2.1, rfl, rfl, sl_map et, ?_⟩
      refine ⟨_, rfl, e.1, _, _, .int e.2.2.2, rfl, rfl, .inl (.inl tu), atI_nat (j := 2) rfl, _, _, rfl, rfl, _, rfl, ite_both (fun d => ?_) fun d => ?_⟩
      · rw [no (by rw [decide_eq_false (p := (r.count e.2.1 : Int) ≤ e.2.2.2) (by have := of_decide_eq_true d; omega), Bool.and_false])] at q
        exact q
      refine ⟨_, rfl, rfl, ?_⟩
      unfold keepsL at kp ⊢
      rw [take_snoc he, List.map_append, List.all_append, kp, List.map_cons, List.map_nil, List.all_cons, List.all_nil]
      have h1 := of_decide_eq_false c
      have h2 := of_decide_eq_false d
      rw [decide_eq_true (by omega : e.2.2.1 ≤ (r.count e.2.1 : Int)), decide_eq_true (by omega : (r.count e.2.1 : Int) ≤ e.2.2.2)] <;> rfl
    · rintro σ H1 ⟨y2, rfl, rfl, kp⟩
      rw [List.length_map, List.take_length] at kp
      rw [kp] at q
      exact q
abbrev sSl : Stmt := topS 52
abbrev nSl : List Str := ["_law_actual", "_law_entries_here", "_law_k", "_law_number"]
theorem scSl : FnScope nSl ["_law_actual", "_law_entries_here"] (defScope sSl) := ⟨rfl, rfl, rfl, by decide +kernel, rfl, by decide +kernel, by decide +kernel⟩
def spSl : Sp := fun vs H Q _ => ∃ (u l : Addr) (fs es : List LmE), vs = [.ref u, .ref l] ∧ H u = some (.tup (fs.map fun e => V.ref e.1)) ∧ LmT H fs ∧ H l = some (.lst (es.map fun e => V.ref e.1)) ∧ LmT H es ∧ fs.map (·.2) = es.map (·.2) ∧ es.length ≤ 100 ∧ Q (.bl true) H
theorem ok_Sl {f f0 : Addr} {fd fd0 : FuncData} (F : Fun K "_law_same_limits" "_law_same_limits" sSl f fd) (B : Bt mg) (ztuple : mg "tuple" = none) (Cii : Call P w K mg base 1 "_law_is_integer" f0 fd0 ["_law_actual"] spIsInt) :
    FnOk P w K mg base CX0 2 f fd ["_law_actual", "_law_entries_here"] spSl := by
  refine F.ok scSl (fun vs H Q E h => ?_) (fun cdv A outer s H vs Q E hr h => ?_)
  · obtain ⟨u, l, fs, es, rfl, _⟩ := h
    rfl
  · obtain ⟨u, l, fs, es, rfl, eu, lf, el, lt, cf, few, q⟩ := h
    have hu := hu_of hr
    have nd := scSl.nd
    refine ⟨_, pss_cons (ps_if (PW.pt (pw_or (pt_not (pt_val (pe_callB call_isi (by rfl) B.isi PyProof.Rows.boot_isinstance (pa_cons (pv 0) (pa_cons (pe_bltn (by rfl) ztuple PyProof.Rows.boot_tuple (v := .ty "tuple") rfl) pa_nil))))) (pw_or1 (pt_cmpR op_ne (pe_callB call_len_seq (by rfl) B.len PySem.boot_len (pa_cons (pv 0) pa_nil)) (pe_callB call_len_seq (by rfl) B.len PySem.boot_len (pa_cons (pv 1) pa_nil)) rfl))))
        (pss_one (ps_ret pe_bl))
        pss_nil)
      (pss_cons (ps_for PassesOwn.never rfl (pi_range1 (by rfl) B.range (pa_cons (pe_callB call_len_seq (by rfl) B.len PySem.boot_len (pa_cons (pv 1) pa_nil)) pa_nil)) (pg_name (i := 2) nd rfl (.inl rfl))
        (pss_cons (ps_if (PW.pt (pw_or (pt_not (pt_val (pe_callB call_isi (by rfl) B.isi PyProof.Rows.boot_isinstance (pa_cons (pe_ix ix_tup (pv 0) (pv 2) (fun _ _ => rfl)) (pa_cons (pe_bltn (by rfl) ztuple PyProof.Rows.boot_tuple (v := .ty "tuple") rfl) pa_nil))))) (pw_or1 (pt_cmpR op_ne (pe_callB call_len_seq (by rfl) B.len PySem.boot_len (pa_cons (pe_ix ix_tup (pv 0) (pv 2) (fun _ _ => rfl)) pa_nil)) pe_int rfl))))
            (pss_one (ps_ret pe_bl))
            pss_nil)
          (pss_cons (ps_for PassesOwn.never rfl (pi_tup (pe_ix ix_tup (pv 0) (pv 2) (fun _ _ => rfl))) (pg_name (i := 3) nd rfl (.inl rfl))
            (pss_one (ps_if (pt_not (pt_val (pe_call Cii.ok (hr.mono (by decide)) (by rfl) Cii.at_ Cii.kp Cii.bd .nil pass0 (pa_cons (pv 3) pa_nil))))
                (pss_one (ps_ret pe_bl))
                pss_nil)))
          (pss_one (ps_if (pt_cmpR (op_neTf hr.units) (pe_ix ix_tup (pv 0) (pv 2) (fun _ _ => rfl)) (pe_ix ix_list (pv 1) (pv 2) (fun _ _ => rfl)) rfl)
            (pss_one (ps_ret pe_bl))
            pss_nil)))))
      (pss_one (ps_ret pe_bl))), ?_⟩
    have lens : fs.length = es.length := by have := congrArg List.length cf; rwa [List.length_map, List.length_map] at this
    refine ⟨_, rfl, .ref u, .ty "tuple", .type "tuple", .type "tuple", true, rfl, .ty _, .base (.tup eu), kit_ty (by decide +kernel), true, rfl, iteF ?_⟩
    refine ⟨_, rfl, u, _, rfl, .inr (.inl (.inl eu)), _, rfl, l, _, rfl, .inl (sl_map el), rfl, ?_⟩
    rw [List.length_map, List.length_map, lens, decide_eq_true rfl]
    refine ⟨_, rfl, iteF ?_⟩
    refine ⟨_, rfl, l, _, rfl, .inl (sl_map el), _, rfl, by omega, by rw [List.length_map]; omega, for_range (lo := 0) (n := (es.map fun (e : LmE) => V.ref e.1).length) (fun i σ H' => ∃ (y2 y3 : Option V), σ = [some (.ref u), some (.ref l), y2, y3] ∧ H' = H) ⟨none, none, rfl, rfl⟩ ?_ ?_⟩
    · rintro i σ H1 hi ⟨y2, y3, rfl, rfl⟩
      rw [List.length_map] at hi
      obtain ⟨e, he⟩ : ∃ e, es[i]? = some e := ⟨_, List.getElem?_eq_getElem hi⟩
      obtain ⟨g, hg⟩ : ∃ g, fs[i]? = some g := ⟨_, List.getElem?_eq_getElem (by omega)⟩
      have eg : g.2 = e.2 := by
        have h1 : (fs.map (·.2))[i]? = some g.2 := by rw [List.getElem?_map, hg] <;> rfl
        rw [cf, List.getElem?_map, he] at h1
        exact (Option.some.inj h1).symm
      have te := lt e (List.mem_of_getElem? he)
      have tg := lf g (List.mem_of_getElem? hg)
      rw [eg] at tg
      have ag : (fs.map fun e => V.ref e.1)[i]? = some (.ref g.1) := by rw [List.getElem?_map, hg] <;> rfl
      have ae : (es.map fun e => V.ref e.1)[i]? = some (.ref e.1) := by rw [List.getElem?_map, he] <;> rfl
      refine ⟨_, rfl, _, rfl, u, _, _, .ref g.1, rfl, rfl, .inl (.inl eu), at_eqS (by omega) ag, .ref g.1, .ty "tuple", .type "tuple", .type "tuple", true, rfl, .ty _, .base (.tup tg), kit_ty (by decide +kernel), true, rfl, iteF ?_⟩
      refine ⟨_, rfl, _, rfl, u, _, _, .ref g.1, rfl, rfl, .inl (.inl eu), at_eqS (by omega) ag, g.1, _, rfl, .inr (.inl (.inl tg)), rfl, _, rfl, ite_both (fun c => absurd c (by simp)) fun _ => ?_⟩
      refine ⟨_, rfl, _, rfl, u, _, _, .ref g.1, rfl, rfl, .inl (.inl eu), at_eqS (by omega) ag, g.1, rfl, ⟨_, .inl (.inl tg)⟩, for_tup (xs := [V.int e.2.1, .int e.2.2.1, .int e.2.2.2]) (fun j σ H' => ∃ (y3 : Option V), σ = [some (.ref u), some (.ref l), some (.int (0 + (i : Int))), y3] ∧ H' = H1) ⟨_, rfl, rfl⟩ (fun j σ H' _ h => by obtain ⟨_, _, h⟩ := h; rw [h]; exact .inl (.inl tg)) ?_ ?_⟩
      · rintro j x0 σ H2 hx ⟨y3, rfl, rfl⟩
        obtain ⟨k, rfl⟩ : ∃ k : Int, x0 = .int k := by
          have := List.mem_of_getElem? hx
          simp at this
          rcases this with h | h | h
          · exact ⟨_, h⟩
          · exact ⟨_, h⟩
          · exact ⟨_, h⟩
        exact ⟨_, rfl, k, rfl, true, rfl, iteF ⟨_, rfl, rfl⟩⟩
      · rintro σ H2 ⟨y3, rfl, rfl⟩
        refine ⟨_, rfl, _, rfl, u, _, _, .ref g.1, rfl, rfl, .inl (.inl eu), at_eqS (by omega) ag, _, rfl, _, rfl, l, _, _, .ref e.1, rfl, rfl, sl_map el, at_eqS (by omega) ae, g.1, e.1, _, rfl, rfl, .inl (.inl tg), .inl (.inl te), fun v hv => ?_, false, rfl, iteF ⟨_, _, rfl, rfl⟩⟩
        simp at hv
        rcases hv with h | h | h <;> rw [h] <;> trivial
    · rintro σ H1 ⟨y2, y3, rfl, rfl⟩
      exact q
end
end K23
set_option Elab.async false
set_option linter.all false
set_option maxRecDepth 100000
set_option maxHeartbeats 4000000
namespace K23
open PySem PySem.Spec PyProof.Rows L2 Cs CsX
/-! ### what is refused, and how -/
inductive Rf where
  | ok
  | empty
  | rep (x : Str)
  | bounds (lo hi : Int)
  | repv (v : Int)
def repF (ea : List Str) : List Str → Rf
  | [] => .ok
  | x :: xs => if x ∈ ea then .rep x else repF (ea ++ [x]) xs
def namesOut (ns : List Str) : Rf := if ns.length = 0 then .empty else repF [] ns
def limF (ea : List Int) : List Lim3 → Rf
  | [] => .ok
  | l :: t => if l.2.1 < 0 ∨ l.2.2 < l.2.1 then .bounds l.2.1 l.2.2 else if l.1 ∈ ea then .repv l.1 else limF (ea ++ [l.1]) t
def thenF (a b : Rf) : Rf := match a with
  | .ok => b
  | .empty => .empty
  | .rep x => .rep x
  | .bounds lo hi => .bounds lo hi
  | .repv v => .repv v
theorem drop_at {α : Type} {xs : List α} {i : Nat} {x : α} (h : xs[i]? = some x) : xs.drop i = x :: xs.drop (i + 1) := by
  obtain ⟨hi, e⟩ := List.getElem?_eq_some_iff.mp h
  rw [← e]; exact List.drop_eq_getElem_cons hi
theorem repF_no {ea : List Str} {x : Str} {xs : List Str} (h : x ∉ ea) : repF ea (x :: xs) = repF (ea ++ [x]) xs := by
  show (if x ∈ ea then Rf.rep x else repF (ea ++ [x]) xs) = _
  rw [if_neg h]
theorem repF_yes {ea : List Str} {x : Str} {xs : List Str} (h : x ∈ ea) : repF ea (x :: xs) = .rep x := by
  show (if x ∈ ea then Rf.rep x else repF (ea ++ [x]) xs) = _
  rw [if_pos h]
theorem limF_bad {ea : List Int} {l : Lim3} {t : List Lim3} (h : l.2.1 < 0 ∨ l.2.2 < l.2.1) : limF ea (l :: t) = .bounds l.2.1 l.2.2 := by
  show (if l.2.1 < 0 ∨ l.2.2 < l.2.1 then Rf.bounds l.2.1 l.2.2 else _) = _
  rw [if_pos h]
theorem limF_rep {ea : List Int} {l : Lim3} {t : List Lim3} (h : ¬ (l.2.1 < 0 ∨ l.2.2 < l.2.1)) (h2 : l.1 ∈ ea) : limF ea (l :: t) = .repv l.1 := by
  show (if l.2.1 < 0 ∨ l.2.2 < l.2.1 then Rf.bounds l.2.1 l.2.2 else if l.1 ∈ ea then Rf.repv l.1 else limF (ea ++ [l.1]) t) = _
  rw [if_neg h, if_pos h2]
theorem limF_go {ea : List Int} {l : Lim3} {t : List Lim3} (h : ¬ (l.2.1 < 0 ∨ l.2.2 < l.2.1)) (h2 : l.1 ∉ ea) : limF ea (l :: t) = limF (ea ++ [l.1]) t := by
  show (if l.2.1 < 0 ∨ l.2.2 < l.2.1 then Rf.bounds l.2.1 l.2.2 else if l.1 ∈ ea then Rf.repv l.1 else limF (ea ++ [l.1]) t) = _
  rw [if_neg h, if_neg h2]
/-- one step of the look through the names -/
theorem rep_at {ns : List Str} {i : Nat} {x : Str} (inv : repF [] ns = repF (ns.take i) (ns.drop i)) (hx : ns[i]? = some x) (h : x ∈ ns.take i) : repF [] ns = .rep x := by
  rw [inv, drop_at hx, repF_yes h]
theorem rep_go {ns : List Str} {i : Nat} {x : Str} (inv : repF [] ns = repF (ns.take i) (ns.drop i)) (hx : ns[i]? = some x) (h : x ∉ ns.take i) : repF [] ns = repF (ns.take (i + 1)) (ns.drop (i + 1)) := by
  rw [inv, drop_at hx, repF_no h, take_snoc hx]
theorem rep_end {ns : List Str} (inv : repF [] ns = repF (ns.take ns.length) (ns.drop ns.length)) : repF [] ns = .ok := by
  rw [inv, List.drop_length] <;> rfl
theorem lim_bad {ls : List Lim3} {i : Nat} {l : Lim3} (inv : limF [] ls = limF ((ls.take i).map (·.1)) (ls.drop i)) (hx : ls[i]? = some l) (h : l.2.1 < 0 ∨ l.2.2 < l.2.1) : limF [] ls = .bounds l.2.1 l.2.2 := by
  rw [inv, drop_at hx, limF_bad h]
theorem lim_rep {ls : List Lim3} {i : Nat} {l : Lim3} (inv : limF [] ls = limF ((ls.take i).map (·.1)) (ls.drop i)) (hx : ls[i]? = some l) (h : ¬ (l.2.1 < 0 ∨ l.2.2 < l.2.1)) (h2 : l.1 ∈ (ls.take i).map (·.1)) : limF [] ls = .repv l.1 := by
  rw [inv, drop_at hx, limF_rep h h2]
theorem lim_go {ls : List Lim3} {i : Nat} {l : Lim3} (inv : limF [] ls = limF ((ls.take i).map (·.1)) (ls.drop i)) (hx : ls[i]? = some l) (h : ¬ (l.2.1 < 0 ∨ l.2.2 < l.2.1)) (h2 : l.1 ∉ (ls.take i).map (·.1)) : limF [] ls = limF ((ls.take (i + 1)).map (·.1)) (ls.drop (i + 1)) := by
  rw [inv, drop_at hx, limF_go h h2, take_snoc hx, List.map_append] <;> rfl
theorem lim_end {ls : List Lim3} (inv : limF [] ls = limF ((ls.take ls.length).map (·.1)) (ls.drop ls.length)) : limF [] ls = .ok := by
  rw [inv, List.drop_length] <;> rfl
/-- what is raised: the class, its fields -/
inductive Xst (CE CR CB CV : Addr) : Addr → Option Addr → Hp → Rf → Prop
  | empty {H : Hp} : Xst CE CR CB CV CE none H .empty
  | rep {H : Hp} {d : Addr} {x : Str} (h : H d = some (.xd [("name", .str x)])) : Xst CE CR CB CV CR (some d) H (.rep x)
  | bounds {H : Hp} {d : Addr} {lo hi : Int} (h : H d = some (.xd [("high", .int hi), ("low", .int lo)])) : Xst CE CR CB CV CB (some d) H (.bounds lo hi)
  | repv {H : Hp} {d : Addr} {v : Int} (h : H d = some (.xd [("value", .int v)])) : Xst CE CR CB CV CV (some d) H (.repv v)
theorem Xst.thenF {CE CR CB CV C : Addr} {d : Option Addr} {H : Hp} {r b : Rf} (x : Xst CE CR CB CV C d H r) : Xst CE CR CB CV C d H (K23.thenF r b) := by
  cases x with
  | empty => exact .empty
  | rep h => exact .rep h
  | bounds h => exact .bounds h
  | repv h => exact .repv h
def RfE (CE CR CB CV : Addr) (R : Hp → Prop) (E : XK) (r : Rf) : Prop := ∀ C d H', R H' → Xst CE CR CB CV C d H' r → E (.ref C) d H'
def initOf : Stmt → Stmt
  | .ClassDef (body := b) .. => b.getD 0 (.Pass ⟨0, 0, 0, 0⟩)
  | s => s
/-- a def that stands, with its promise: it raises -/
structure CallX (P : Program) (w : World) (K : PySem.W.Frag) (mg : Str → Option Value) (base : Heap) (k : Nat) (x : Str) (f : Addr) (fd : FuncData) (ps : List Str) (sp : Sp) : Prop where
  ok : FnOk P w K mg base (L2.CX P w) k f fd ps sp
  at_ : mg x = some (.ref f)
  kp : PySem.W.keepIn K (.ref f) = true
  bd : Binds K fd ps []
/-- an __init__ -/
structure CallI (P : Program) (w : World) (K : PySem.W.Frag) (mg : Str → Option Value) (base : Heap) (f : Addr) (fd : FuncData) (ps : List Str) (sp : Sp) : Prop where
  ok : FnOk P w K mg base CX0 1 f fd ps sp
  bd : Binds K fd ps []
section
variable {P : Program} {w : World} {K : PySem.W.Frag} {mg : Str → Option Value} {base : Heap}
abbrev sErn : Stmt := initOf (topS 4)
abbrev nErn : List Str := ["self", "name"]
theorem scErn : FnScope nErn nErn (defScope sErn) := ⟨rfl, rfl, rfl, by decide +kernel, rfl, by decide +kernel, by decide +kernel⟩
theorem ok_Ern {f C : Addr} {fd : FuncData} (F : Fun K "__init__" "RepeatedName.__init__" sErn f fd) (U : Own K mg "RepeatedName" C f ["name"]) : FnOk P w K mg base CX0 1 f fd ["self", "name"] (spIni C "name") := by
  refine F.ok scErn (fun vs H Q E h => ?_) (fun cdv A outer s H vs Q E hr h => ?_)
  · obtain ⟨a, v, rfl, _⟩ := h
    rfl
  · obtain ⟨a, v, rfl, e, q⟩ := h
    refine ⟨_, pss_one (ps_ost (pv 0) (pv 1)), ?_⟩
    exact ⟨v, rfl, .ref a, rfl, a, C, rfl, U.oex, U.no _ (by simp), .inl ⟨e, fun dx n ne => q dx n ne⟩⟩
abbrev sEbb : Stmt := initOf (topS 11)
abbrev nEbb : List Str := ["self", "low", "high"]
theorem scEbb : FnScope nEbb nEbb (defScope sEbb) := ⟨rfl, rfl, rfl, by decide +kernel, rfl, by decide +kernel, by decide +kernel⟩
theorem ok_Ebb {f C : Addr} {fd : FuncData} (F : Fun K "__init__" "BadBounds.__init__" sEbb f fd) (U : Own K mg "BadBounds" C f ["low", "high"]) : FnOk P w K mg base CX0 1 f fd ["self", "low", "high"] (spIni2 C "low" "high") := by
  refine F.ok scEbb (fun vs H Q E h => ?_) (fun cdv A outer s H vs Q E hr h => ?_)
  · obtain ⟨a, v, u, rfl, _⟩ := h
    rfl
  · obtain ⟨a, v, u, rfl, e, q⟩ := h
    refine ⟨_, pss_cons (ps_ost (pv 0) (pv 1)) (pss_one (ps_ost (pv 0) (pv 2))), ?_⟩
    refine ⟨v, rfl, .ref a, rfl, a, C, rfl, U.oex, U.no _ (by simp), .inl ⟨e, fun dx n ne => ?_⟩⟩
    exact ⟨u, rfl, .ref a, rfl, a, C, rfl, U.oex, U.no _ (by simp), .inr ⟨dx, _, upd_same, by rw [upd_ne ne]; exact upd_same, by show 1 ≤ 900; decide, q dx n ne⟩⟩
abbrev sErv : Stmt := initOf (topS 6)
abbrev nErv : List Str := ["self", "value"]
theorem scErv : FnScope nErv nErv (defScope sErv) := ⟨rfl, rfl, rfl, by decide +kernel, rfl, by decide +kernel, by decide +kernel⟩
theorem ok_Erv {f C : Addr} {fd : FuncData} (F : Fun K "__init__" "RepeatedValue.__init__" sErv f fd) (U : Own K mg "RepeatedValue" C f ["value"]) : FnOk P w K mg base CX0 1 f fd ["self", "value"] (spIni C "value") := by
  refine F.ok scErv (fun vs H Q E h => ?_) (fun cdv A outer s H vs Q E hr h => ?_)
  · obtain ⟨a, v, rfl, _⟩ := h
    rfl
  · obtain ⟨a, v, rfl, e, q⟩ := h
    refine ⟨_, pss_one (ps_ost (pv 0) (pv 1)), ?_⟩
    exact ⟨v, rfl, .ref a, rfl, a, C, rfl, U.oex, U.no _ (by simp), .inl ⟨e, fun dx n ne => q dx n ne⟩⟩
def spChkX (CE CR CB CV : Addr) : Sp := fun vs H Q E => ∃ (a : Addr) (ns : List Str), vs = [.ref a] ∧ H a = some (.lst (ns.map V.str)) ∧ ns.length ≤ 100 ∧ RfE CE CR CB CV (Same H) E (namesOut ns) ∧
  (namesOut ns = .ok → ∀ H' t, Same H H' → H t = none → TpK H' t (ns.map V.str) → Q (.ref t) H')
theorem ok_ChkX {f CE CR CB CV fI : Addr} {fd fdI : FuncData} (F : Fun K "checked_names" "checked_names" sChk f fd) (B : Bt mg) (ztuple : mg "tuple" = none) (O : Own0 K mg "EmptyRule" CE) (U : Own K mg "RepeatedName" CR fI ["name"]) (I : CallI P w K mg base fI fdI ["self", "name"] (spIni CR "name")) :
    FnOk P w K mg base (L2.CX P w) 3 f fd ["names"] (spChkX CE CR CB CV) := by
  refine F.okX scChk (fun vs H Q E h => ?_) (fun cdv A outer s H vs Q E hr h => ?_)
  · obtain ⟨a, xs, rfl, _⟩ := h
    rfl
  · obtain ⟨a, ns, rfl, ha, few, hE, k⟩ := h
    have nd := scChk.nd
    refine ⟨_, pss_cons (ps_if (pt_cmpR op_eq (pe_callB call_len_seq (by rfl) B.len PySem.boot_len (pa_cons (pv 0) pa_nil)) pe_int rfl)
        (pss_one (ps_raise rfl (takes_of rfl rfl rfl rfl) (O.mk0 (by rfl)))) pss_nil)
      (pss_cons (ps_set (i := 1) nd rfl (.inl rfl) (pe_callTy0 cr_set0K (by rfl) B.set PyProof.Rows.boot_set))
      (pss_cons (ps_for (passes_of rfl) rfl (pi_list (pv 0)) (pg_name (i := 2) nd rfl (.inl rfl))
        (pss_cons (ps_if (pt_cmpR or_sinK (pv 2) (pv 1) rfl) (pss_one (ps_raise rfl (takes_of rfl rfl rfl rfl) (pmk_oex U.oex U.iC U.tI I.ok (hr.mono (by decide)) I.bd .nil pass0 (by rfl) U.gC (pa_cons (pv 2) pa_nil)))) pss_nil)
        (pss_one (ps_expr (pe_saddK (pv 1) (pa_cons (pv 2) pa_nil))))))
      (pss_one (ps_ret (pe_callTy call_tupK (by rfl) ztuple PyProof.Rows.boot_tuple (pa_cons (pv 0) pa_nil)))))), ?_⟩
    refine ⟨_, rfl, a, _, rfl, .inl (sl_map ha), rfl, _, rfl, ite_both (fun c => ?_) fun c => ?_⟩
    · have z : namesOut ns = .empty := by
        have := V.int.inj (of_decide_eq_true c)
        rw [List.length_map] at this
        unfold namesOut
        rw [if_pos (by omega)]
      rw [z] at hE
      exact hE CE none H (fun _ _ e => e) .empty
    have nz : namesOut ns = repF [] ns := by
      unfold namesOut
      rw [if_neg fun z => of_decide_eq_false c (by rw [List.length_map, z] <;> rfl)]
    rw [nz] at hE k
    refine ⟨rfl, fun D nD => ?_⟩
    have s0 := same_new (o := SetK P w D (fun _ => false) 0) nD
    refine ⟨.ref a, rfl, a, rfl, ⟨_, sl_map (s0 _ _ ha)⟩, for_list (xs := ns.map V.str) (fun i σ H' => ∃ (S : Key → Bool) (n : Nat) (y2 : Option V), σ = [some (.ref a), some (.ref D), y2] ∧ Same H H' ∧ H' D = some (SetK P w D S n) ∧ n ≤ i ∧ (∀ x, S (.inr x) = true ↔ x ∈ ns.take i) ∧ repF [] ns = repF (ns.take i) (ns.drop i))
      ⟨_, 0, none, rfl, s0, upd_same, Nat.le_refl _, (fun _ => ⟨(fun h => nomatch h), (fun h => nomatch h)⟩), rfl⟩ (fun i σ H' _ h => by obtain ⟨_, _, _, _, h, _⟩ := h; exact sl_map (h _ _ ha)) ?_ ?_⟩
    · rintro i x σ H' hx ⟨S, n, y2, rfl, sm, hD, ni, hS, inv⟩
      rw [List.getElem?_map] at hx
      obtain ⟨x, hv, rfl⟩ := Option.map_eq_some_iff.mp hx
      have hi := (List.getElem?_eq_some_iff.mp hv).1
      refine ⟨_, rfl, _, rfl, .inr x, D, S, n, rfl, rfl, hD, _, rfl, ite_both (fun c => ?_) fun c => ?_⟩
      · rw [rep_at inv hv ((hS x).mp c)] at hE
        exact ⟨_, rfl, mk_one (C := CR) (f := "name") (v := .str x) (H1 := H') (Q := E) fun d H2 nd2 s2 ed => hE _ _ _ (sm.trans s2) (.rep ed)⟩
      have c' : x ∉ ns.take i := fun z => by have := (hS x).mpr z; rw [show S (.inr x) = false from c] at this; cases this
      refine ⟨_, rfl, ⟨D, S, n, rfl, hD⟩, _, rfl, D, .inr x, S, n, rfl, rfl, hD, by show n + 1 < 4096; omega, ?_⟩
      refine ⟨_, _, _, rfl, same_at sm nD, upd_same, ?_, fun z => ?_, rep_go inv hv c'⟩
      · rw [show S (.inr x) = false from c]; show n + 1 ≤ i + 1; omega
      · rw [take_snoc hv, List.mem_append, List.mem_singleton, ← hS z]
        constructor
        · intro h
          rcases Bool.or_eq_true_iff.mp h with q | q
          · exact .inl q
          · exact .inr (Sum.inr.inj (of_decide_eq_true q))
        · rintro (h | h)
          · exact Bool.or_eq_true_iff.mpr (.inl h)
          · exact Bool.or_eq_true_iff.mpr (.inr (decide_eq_true (by rw [h])))
    · rintro σ H' ⟨S, n, y2, rfl, sm, hD, _, _, inv⟩
      rw [List.length_map] at inv
      exact ⟨_, rfl, a, _, rfl, sl_map (sm _ _ ha), fun l od nl po => k (rep_end inv) _ l (sm.trans (same_new nl)) (sm.free nl) ⟨od, po, upd_same⟩⟩
def spClX (CE CR CB CV : Addr) : Sp := fun vs H Q E => ∃ (l : Addr) (es : List LmE), vs = [.ref l] ∧ H l = some (.lst (es.map fun e => V.ref e.1)) ∧ LmT H es ∧ es.length ≤ 100 ∧ RfE CE CR CB CV (Same H) E (limF [] (es.map (·.2))) ∧
  (limF [] (es.map (·.2)) = .ok → ∀ (H' : Hp) (t : Addr) (fs : List LmE), Same H H' → H t = none → H' t = some (.tup (fs.map fun e => V.ref e.1)) → LmT H' fs → fs.map (·.2) = es.map (·.2) → Q (.ref t) H')
theorem ok_ClX {f CE CR CB CV fI fJ : Addr} {fd fdI fdJ : FuncData} (F : Fun K "_checked_limits" "_checked_limits" sCl f fd) (B : Bt mg) (ztuple : mg "tuple" = none) (U : Own K mg "BadBounds" CB fI ["low", "high"]) (I : CallI P w K mg base fI fdI ["self", "low", "high"] (spIni2 CB "low" "high"))
    (U2 : Own K mg "RepeatedValue" CV fJ ["value"]) (I2 : CallI P w K mg base fJ fdJ ["self", "value"] (spIni CV "value")) : FnOk P w K mg base (L2.CX P w) 3 f fd ["limits"] (spClX CE CR CB CV) := by
  refine F.okX scCl (fun vs H Q E h => ?_) (fun cdv A outer s H vs Q E hr h => ?_)
  · obtain ⟨l, es, rfl, _⟩ := h
    rfl
  · obtain ⟨l, es, rfl, el, lt, few, hE, q⟩ := h
    have hu := hu_of hr
    have nd := scCl.nd
    refine ⟨_, pss_cons (ps_set (i := 1) nd rfl (.inl rfl) (pe_callTy0 cr_set0K (by rfl) B.set PyProof.Rows.boot_set))
      (pss_cons (ps_for (passes_of rfl) rfl (pi_list (pv 0)) (pg_tup (by rfl) (pgs_cons (pg_name (i := 2) nd rfl (.inl rfl)) (pgs_cons (pg_name (i := 3) nd rfl (.inl rfl)) (pgs_cons (pg_name (i := 4) nd rfl (.inl rfl)) pgs_nil))))
        (pss_cons (ps_if (PW.pt (pw_or (pt_cmpR op_lt (pv 3) pe_int rfl) (pw_or1 (pt_cmpR op_gt (pv 3) (pv 4) rfl)))) (pss_one (ps_raise rfl (takes_of rfl rfl rfl rfl) (pmk_oex U.oex U.iC U.tI I.ok (hr.mono (by decide)) I.bd .nil pass0 (by rfl) U.gC (pa_cons (pv 3) (pa_cons (pv 4) pa_nil))))) pss_nil)
        (pss_cons (ps_if (pt_cmpR or_sinK (pv 2) (pv 1) rfl) (pss_one (ps_raise rfl (takes_of rfl rfl rfl rfl) (pmk_oex U2.oex U2.iC U2.tI I2.ok (hr.mono (by decide)) I2.bd .nil pass0 (by rfl) U2.gC (pa_cons (pv 2) pa_nil)))) pss_nil)
        (pss_one (ps_expr (pe_saddK (pv 1) (pa_cons (pv 2) pa_nil)))))))
      (pss_one (ps_ret (pe_callTy call_tuple_of (by rfl) ztuple PyProof.Rows.boot_tuple (pa_cons (pe_lc (own := [("value", 2), ("low", 3), ("high", 4)]) (g := gTup K 3 (gCons (gName 2) (gCons (gName 3) (gCons (gName 4) gNil)))) (tt := tYes) rfl nd (pi_list (pv 0)) (blkOk_by (N := nCl) (sc := defScope sCl) (by decide +kernel)) (fun _ _ _ _ _ => pg_tup (by rfl) (pgs_cons (pg_name (i := 2) nd rfl (.inl rfl)) (pgs_cons (pg_name (i := 3) nd rfl (.inl rfl)) (pgs_cons (pg_name (i := 4) nd rfl (.inl rfl)) pgs_nil)))) (fun _ _ _ _ _ => pts_nil)
          (fun _ _ _ _ _ => (pe_tup (pa_cons (pv 2) (pa_cons (pv 3) (pa_cons (pv 4) pa_nil)))))) pa_nil))))), ?_⟩
    refine ⟨rfl, fun D nD => ?_⟩
    have s0 := same_new (o := SetK P w D (fun _ => false) 0) nD
    refine ⟨.ref l, rfl, l, rfl, ⟨_, sl_map (s0 _ _ el)⟩, for_list (xs := es.map fun e => V.ref e.1) (fun i σ H' => ∃ (S : Key → Bool) (n : Nat) (y2 y3 y4 : Option V), σ = [some (.ref l), some (.ref D), y2, y3, y4] ∧ Same H H' ∧ H' D = some (SetK P w D S n) ∧ n ≤ i ∧ (∀ v, S (.inl v) = true ↔ v ∈ ((es.map (·.2)).take i).map (·.1)) ∧ limF [] (es.map (·.2)) = limF (((es.map (·.2)).take i).map (·.1)) ((es.map (·.2)).drop i))
      ⟨_, 0, none, none, none, rfl, s0, upd_same, Nat.le_refl _, (fun _ => ⟨(fun h => nomatch h), (fun h => nomatch h)⟩), rfl⟩ (fun i σ H' _ h => by obtain ⟨_, _, _, _, _, _, h, _⟩ := h; exact sl_map (h _ _ el)) ?_ ?_⟩
    · rintro i x0 σ H1 hx ⟨S, n, y2, y3, y4, rfl, sm, hD, ni, hS, inv⟩
      rw [List.getElem?_map] at hx
      obtain ⟨e, he, rfl⟩ := Option.map_eq_some_iff.mp hx
      have em := List.mem_of_getElem? he
      have hi := (List.getElem?_eq_some_iff.mp he).1
      have hl : (es.map (·.2))[i]? = some e.2 := by rw [List.getElem?_map, he] <;> rfl
      refine ⟨e.1, _, rfl, .inl (.inl (sm _ _ (lt e em))), rfl, _, _, rfl, _, _, rfl, _, _, rfl, rfl, ?_⟩
      have bad : (e.2.2.1 < 0 ∨ e.2.2.2 < e.2.2.1) → RfE CE CR CB CV (Same H) E (.bounds e.2.2.1 e.2.2.2) := fun h => by
        rw [lim_bad inv hl h] at hE; exact hE
      refine ⟨_, rfl, _, _, rfl, rfl, _, rfl, ite_both (fun c => ?_) fun c => ⟨_, rfl, _, rfl, _, _, rfl, rfl, _, rfl, ite_both (fun c2 => ?_) fun c2 => ?_⟩⟩
      · have h := bad (.inl (of_decide_eq_true c))
        exact ⟨_, rfl, _, rfl, mk_two (C := CB) (f := "low") (g := "high") (v := .int e.2.2.1) (u := .int e.2.2.2) (H1 := H1) (Q := E) fun d H2 nd2 s2 ed => h _ _ _ (sm.trans s2) (.bounds ed)⟩
      · have h := bad (.inr (of_decide_eq_true c2))
        exact ⟨_, rfl, _, rfl, mk_two (C := CB) (f := "low") (g := "high") (v := .int e.2.2.1) (u := .int e.2.2.2) (H1 := H1) (Q := E) fun d H2 nd2 s2 ed => h _ _ _ (sm.trans s2) (.bounds ed)⟩
      have nb : ¬ (e.2.2.1 < 0 ∨ e.2.2.2 < e.2.2.1) := fun z => z.elim (of_decide_eq_false c) (of_decide_eq_false c2)
      refine ⟨_, rfl, _, rfl, .inl e.2.1, D, S, n, rfl, rfl, hD, _, rfl, ite_both (fun c => ?_) fun c => ?_⟩
      · rw [lim_rep inv hl nb ((hS e.2.1).mp c)] at hE
        exact ⟨_, rfl, mk_one (C := CV) (f := "value") (v := .int e.2.1) (H1 := H1) (Q := E) fun d H2 nd2 s2 ed => hE _ _ _ (sm.trans s2) (.repv ed)⟩
      have c' : e.2.1 ∉ ((es.map (·.2)).take i).map (·.1) := fun z => by have := (hS e.2.1).mpr z; rw [show S (.inl e.2.1) = false from c] at this; cases this
      refine ⟨_, rfl, ⟨D, S, n, rfl, hD⟩, _, rfl, D, .inl e.2.1, S, n, rfl, rfl, hD, by show n + 1 < 4096; omega, ?_⟩
      refine ⟨_, _, _, _, _, rfl, same_at sm nD, upd_same, ?_, fun z => ?_, lim_go inv hl nb c'⟩
      · rw [show S (.inl e.2.1) = false from c]; show n + 1 ≤ i + 1; omega
      · rw [take_snoc hl, List.map_append, List.mem_append, ← hS z]
        constructor
        · intro h
          rcases Bool.or_eq_true_iff.mp h with g | g
          · exact .inl g
          · exact .inr (List.mem_singleton.mpr (Sum.inl.inj (of_decide_eq_true g)))
        · rintro (h | h)
          · exact Bool.or_eq_true_iff.mpr (.inl h)
          · exact Bool.or_eq_true_iff.mpr (.inr (decide_eq_true (by rw [show z = e.2.1 from List.mem_singleton.mp h])))
    · rintro σ H1 ⟨S, n, y2, y3, y4, rfl, sm, hD, _, _, inv⟩
      have inv2 : limF [] (es.map (·.2)) = .ok := by
        refine lim_end ?_
        rw [List.length_map] at inv ⊢
        exact inv
      refine ⟨_, rfl, l, rfl, ⟨_, sl_map (sm _ _ el)⟩, fun Z nZ => lc_list (xs := es.map fun e => V.ref e.1) (fun j H' => Same H1 H' ∧ ∃ fs : List LmE, H' Z = some (.lst (fs.map fun e => V.ref e.1)) ∧ LmT H' fs ∧ fs.map (·.2) = (es.take j).map (·.2)) ⟨same_new nZ, [], upd_same, (fun _ h => nomatch h), rfl⟩ (fun j H' _ h => sl_map (h.1 _ _ (sm _ _ el))) ?_ ?_⟩
      · rintro j x0 H2 hx ⟨s2, fs, eZ, lf, cf⟩
        rw [List.getElem?_map] at hx
        obtain ⟨e, he, rfl⟩ := Option.map_eq_some_iff.mp hx
        have em := List.mem_of_getElem? he
        have hj := (List.getElem?_eq_some_iff.mp he).1
        have lfs : fs.length = j := by have := congrArg List.length cf; rw [List.length_map, List.length_map, List.length_take] at this; omega
        refine ⟨e.1, _, rfl, .inl (.inl (s2 _ _ (sm _ _ (lt e em)))), rfl, _, _, rfl, _, _, rfl, _, _, rfl, rfl, rfl, ?_⟩
        refine ⟨_, rfl, _, rfl, _, rfl, by show 3 ≤ sizeLine; decide, fun T nT => ?_⟩
        have sT := same_new (o := HO.tup [V.int e.2.1, .int e.2.2.1, .int e.2.2.2]) nT
        have TZ : T ≠ Z := fun z => by rw [z, eZ] at nT; cases nT
        refine ⟨_, sT _ _ eZ, by rw [List.length_map]; exact small1000 (by omega), same_at (s2.trans sT) nZ, fs ++ [(T, e.2)], by rw [upd_same, List.map_append] <;> rfl, fun g hg => ?_, ?_⟩
        · rcases List.mem_append.mp hg with h | h
          · have h1 := sT _ _ (lf g h)
            have : g.1 ≠ Z := fun z => by have h2 := lf g h; rw [z, eZ] at h2; cases h2
            rw [upd_ne this]; exact h1
          · rw [List.mem_singleton.mp h, upd_ne TZ]; exact upd_same
        · rw [take_snoc he, List.map_append, List.map_append, cf] <;> rfl
      · rintro H2 ⟨s2, fs, eZ, lf, cf⟩
        rw [List.length_map, List.take_length] at cf
        have s12 := sm.trans s2
        exact ⟨Z, _, rfl, .inl ⟨sl_map eZ, fun t nt => q inv2 _ t fs (s12.trans (same_new nt)) (s12.free nt) upd_same (lf.same (same_new nt)) cf⟩⟩
def Kp1 (H : Hp) (p : Addr) (H' : Hp) : Prop := ∀ b o, b ≠ p → H b = some o → H' b = some o
def spUinX (C CE CR CB CV : Addr) : Sp := fun vs H Q E => ∃ (p dx nl : Addr) (ns : List Str), vs = [.ref p, .ref nl] ∧ H p = some (.ins C dx []) ∧ H nl = some (.lst (ns.map V.str)) ∧ ns.length ≤ 100 ∧ RfE CE CR CB CV (Kp1 H p) E (namesOut ns) ∧ (namesOut ns = .ok → ∀ H', Kp1 H p H' → Q .non H')
theorem ok_UinX {f C CE CR CB CV fC : Addr} {fd fdC : FuncData} (F : Fun K "__init__" "Unlike.__init__" sUin f fd) (B : Bt mg) (T : Kls K mg "Unlike" C uF) (Ck : CallX P w K mg base 3 "checked_names" fC fdC ["names"] (spChkX CE CR CB CV)) : FnOk P w K mg base (L2.CX P w) 4 f fd ["self", "names"] (spUinX C CE CR CB CV) := by
  refine F.okX scUin (fun vs H Q E h => ?_) (fun cdv A outer s H vs Q E hr h => ?_)
  · obtain ⟨p, dx, nl, ns, rfl, _⟩ := h
    rfl
  · obtain ⟨p, dx, nl, ns, rfl, hp, en, few, hE, k⟩ := h
    have nd := scUin.nd
    refine ⟨_, pss_one (ps_fld (pv 0) (pe_call (E := E) Ck.ok (hr.mono (by decide)) (by rfl) Ck.at_ Ck.kp Ck.bd .nil (passes_call (takes_of rfl rfl rfl rfl) fun _ _ _ _ h => h) (pa_cons (pv 1) pa_nil)) rfl), ?_⟩
    refine ⟨_, rfl, nl, ns, rfl, en, few, fun C' d H' s x => hE _ _ _ (fun b o _ e => s b o e) x, fun ok H1 t s1 nt et => ?_⟩
    refine ⟨_, rfl, p, C, dx, _, rfl, s1 _ _ hp, T.cl, T.no _ (by simp), by show 0 < 1000; decide, ?_⟩
    exact k ok _ fun b o n e => by rw [upd_ne n]; exact s1 b o e
def spCinX (C CE CR CB CV : Addr) : Sp := fun vs H Q E => ∃ (p dx nl l : Addr) (ns : List Str) (es : List LmE), vs = [.ref p, .ref nl, .ref l] ∧ H p = some (.ins C dx []) ∧ H nl = some (.lst (ns.map V.str)) ∧ ns.length ≤ 100 ∧ H l = some (.lst (es.map fun e => V.ref e.1)) ∧ LmT H es ∧ es.length ≤ 100 ∧ RfE CE CR CB CV (Kp1 H p) E (thenF (namesOut ns) (limF [] (es.map (·.2)))) ∧ (thenF (namesOut ns) (limF [] (es.map (·.2))) = .ok → ∀ H', Kp1 H p H' → Q .non H')
theorem ok_CinX {f C CE CR CB CV fC fE : Addr} {fd fdC fdE : FuncData} (F : Fun K "__init__" "Counts.__init__" sCin f fd) (B : Bt mg) (T : Kls K mg "Counts" C cF) (Ck : CallX P w K mg base 3 "checked_names" fC fdC ["names"] (spChkX CE CR CB CV))
    (CCl : CallX P w K mg base 3 "_checked_limits" fE fdE ["limits"] (spClX CE CR CB CV)) : FnOk P w K mg base (L2.CX P w) 4 f fd ["self", "names", "limits"] (spCinX C CE CR CB CV) := by
  refine F.okX scCin (fun vs H Q E h => ?_) (fun cdv A outer s H vs Q E hr h => ?_)
  · obtain ⟨p, dx, nl, l, ns, es, rfl, _⟩ := h
    rfl
  · obtain ⟨p, dx, nl, l, ns, es, rfl, hp, en, few, el, lt, fewe, hE, k⟩ := h
    have nd := scCin.nd
    refine ⟨_, pss_cons (ps_fld (pv 0) (pe_call (E := E) Ck.ok (hr.mono (by decide)) (by rfl) Ck.at_ Ck.kp Ck.bd .nil (passes_call (takes_of rfl rfl rfl rfl) fun _ _ _ _ h => h) (pa_cons (pv 1) pa_nil)) rfl)
      (pss_one (ps_fld (pv 0) (pe_call (E := E) CCl.ok (hr.mono (by decide)) (by rfl) CCl.at_ CCl.kp CCl.bd .nil (passes_call (takes_of rfl rfl rfl rfl) fun _ _ _ _ h => h) (pa_cons (pv 2) pa_nil)) rfl)), ?_⟩
    refine ⟨_, rfl, nl, ns, rfl, en, few, fun C' d H' s x => ?_, fun ok H1 t s1 nt et => ?_⟩
    · refine hE _ _ _ (fun b o _ e => s b o e) ?_
      exact x.thenF
    have tp : t ≠ p := fun q => by rw [q, hp] at nt; cases nt
    rw [ok] at hE k
    refine ⟨_, rfl, p, C, dx, _, rfl, s1 _ _ hp, T.cl, T.no _ (by simp), by show 0 < 1000; decide, ?_⟩
    obtain ⟨H2, k2, e2, r2⟩ : ∃ H2, (∀ b o, b ≠ p → H1 b = some o → H2 b = some o) ∧ H2 p = some (.ins C dx (putF "names" (.ref t) [])) ∧ upd H1 p (.ins C dx (putF "names" (.ref t) [])) = H2 := ⟨_, fun b o n e => by rw [upd_ne n]; exact e, upd_same, rfl⟩
    rw [r2]
    clear r2
    have lp : l ≠ p := fun z => by rw [z, hp] at el; cases el
    have up : ∀ u ∈ es, u.1 ≠ p := fun u hu z => by have e := lt u hu; rw [z, hp] at e; cases e
    refine ⟨_, rfl, l, es, rfl, k2 _ _ lp (s1 _ _ el), fun u hu => k2 _ _ (up u hu) (s1 _ _ (lt u hu)), fewe, fun C' d H' s x => hE _ _ _ (fun b o n e => s _ _ (k2 _ _ n (s1 _ _ e))) x, fun ok2 H3 r fs s3 nr er lf cf => ?_⟩
    refine ⟨_, rfl, p, C, dx, _, rfl, s3 _ _ e2, T.cl, T.no _ (by simp), by show 1 < 1000; decide, ?_⟩
    exact k ok2 _ fun b o n e => by rw [upd_ne n]; exact s3 _ _ (k2 _ _ n (s1 _ _ e))
end
end K23
set_option Elab.async false
set_option linter.all false
set_option maxRecDepth 100000
set_option maxHeartbeats 4000000
namespace K23
open PySem PySem.Spec PyProof.Rows L2 Cs CsX
/-! ### the classes that an except clause asks for -/
abbrev os9 : List Str := ["RepeatedKey", "BadRow", "BadOrder", "UnknownKey", "BadNumber", "BadStep", "NoMark", "NotStruck", "NotBare"]
abbrev os7 : List Str := ["NoClash", "HoldsAnswer", "BadLine", "UnknownLine", "BadText", "NothingToUndo", "NothingToRedo"]
abbrev os2 : List Str := ["UnknownStep", "BadDeed"]
abbrev os1 : List Str := ["UnknownName", "UnknownValue"]
abbrev os4 : List Str := ["EmptyRule", "RepeatedName", "BadBounds", "RepeatedValue"]
structure Nm (os : List Str) (mg : Str → Option Value) (cs : List Addr) : Prop where
  at_ : ∀ (i : Nat) (x : Str), os[i]? = some x → mg x = some (.ref (cs.getD i 0))
/-- the class C, asked for all of these -/
structure Fx (K : PySem.W.Frag) (cd CE CR CB CV n1 n2 : Addr) (c9 c7 c2 : List Addr) (C : Addr) (b0 b1 b2 b3 : Bool) : Prop where
  ex : ExcC K C
  te : PySem.W.exmOne K (.ref C) (.ref cd) = some true
  kv : PySem.W.kitOne K (.ref C) (.type "ValueError") = some true
  k1 : PySem.W.kitOne K (.ref C) (.ref n1) = some false
  k2 : PySem.W.kitOne K (.ref C) (.ref n2) = some false
  a9 : PySem.W.kitAny K (.ref C) (c9.map Value.ref) = some false
  a7 : PySem.W.kitAny K (.ref C) (c7.map Value.ref) = some false
  a2 : PySem.W.kitAny K (.ref C) (c2.map Value.ref) = some false
  e0 : PySem.W.kitOne K (.ref C) (.ref CE) = some b0
  e1 : PySem.W.kitOne K (.ref C) (.ref CR) = some b1
  e2 : PySem.W.kitOne K (.ref C) (.ref CB) = some b2
  e3 : PySem.W.kitOne K (.ref C) (.ref CV) = some b3
structure Refs (K : PySem.W.Frag) (mg : Str → Option Value) (cd CE CR CB CV n1 n2 : Addr) (c9 c7 c2 : List Addr) : Prop where
  gd : mg "DeskError" = some (.ref cd)
  ve : mg "ValueError" = none
  N9 : Nm os9 mg c9
  N7 : Nm os7 mg c7
  N2 : Nm os2 mg c2
  N1 : Nm os1 mg [n1, n2]
  N4 : Nm os4 mg [CE, CR, CB, CV]
  fE : Fx K cd CE CR CB CV n1 n2 c9 c7 c2 CE true false false false
  fR : Fx K cd CE CR CB CV n1 n2 c9 c7 c2 CR false true false false
  fB : Fx K cd CE CR CB CV n1 n2 c9 c7 c2 CB false false true false
  fV : Fx K cd CE CR CB CV n1 n2 c9 c7 c2 CV false false false true
/-- isinstance(e, c): e the exception that the suite holds, with fields or without -/
def rIsE (K : PySem.W.Frag) (a : Addr) (cls : Value) (d : Option Addr) : List V → Hp → VK → Prop := fun xs H Q => rIsEN K a cls d xs H Q ∨ rIsED K a cls d xs H Q
theorem call_isE {X : Cx} {a : Addr} {cls : Value} {d : Option Addr} {oe : Obj} {pn : List (Addr × Obj)} (hz : Zc cls d oe) (hf : ∃ vs, oe.data = .fields vs) : CallR (X.suite a ((a, oe) :: pn)) (.builtin "isinstance") (rIsE X.K a cls d) := by
  intro pins s σ H xs us Q I r h
  rcases h with h | h
  · exact call_isEN hz hf pins s σ H xs us Q I r h
  · exact call_isED hz hf pins s σ H xs us Q I r h
def Xd (d : Option Addr) (H : Hp) : Prop := d = none ∨ ∃ dd fs, d = some dd ∧ H dd = some (.xd fs)
theorem Xd.same {d : Option Addr} {H H' : Hp} (x : Xd d H) (s : Same H H') : Xd d H' := by
  rcases x with h | ⟨dd, fs, h1, h2⟩
  · exact .inl h
  · exact .inr ⟨dd, fs, h1, s _ _ h2⟩
theorem isE1 {K : PySem.W.Frag} {a C : Addr} {d : Option Addr} {c : V} {cv : Value} {b : Bool} {H : Hp} {Q : VK} (x : Xd d H) (ex : ExcC K C) (hc : ∀ u, RelV c u → u = cv) (h : PySem.W.kitOne K (.ref C) cv = some b) (q : Q (.bl b) H) : rIsE K a (.ref C) d [.ref a, c] H Q := by
  rcases x with h1 | ⟨dd, fs, h1, h2⟩
  · exact .inl ⟨C, c, b, rfl, rfl, h1, ex, .inl ⟨cv, hc, h⟩, q⟩
  · exact .inr ⟨C, dd, fs, c, b, rfl, rfl, h1, h2, ex, .inl ⟨cv, hc, h⟩, q⟩
theorem isEA {K : PySem.W.Frag} {a C t : Addr} {cs : List Addr} {d : Option Addr} {b : Bool} {H : Hp} {Q : VK} (x : Xd d H) (ex : ExcC K C) (ht : H t = some (.tup (cs.map V.ref))) (h : PySem.W.kitAny K (.ref C) (cs.map Value.ref) = some b) (q : Q (.bl b) H) : rIsE K a (.ref C) d [.ref a, .ref t] H Q := by
  rcases x with h1 | ⟨dd, fs, h1, h2⟩
  · exact .inl ⟨C, .ref t, b, rfl, rfl, h1, ex, .inr ⟨t, cs, rfl, ht, h⟩, q⟩
  · exact .inr ⟨C, dd, fs, .ref t, b, rfl, rfl, h1, h2, ex, .inr ⟨t, cs, rfl, ht, h⟩, q⟩
/-! ### what is told of a refusal -/
def kinds : Rf → List Bool
  | .ok => []
  | .empty => [true, false, false, false]
  | .rep _ => [false, true, false, false]
  | .bounds _ _ => [false, false, true, false]
  | .repv _ => [false, false, false, true]
def flds : Rf → List V
  | .ok => []
  | .empty => []
  | .rep x => [.str x]
  | .bounds lo hi => [.int lo, .int hi]
  | .repv v => [.int v]
def Told (H : Hp) (v : V) (r : Rf) : Prop := (r = .ok ∧ v = .non) ∨ (r ≠ .ok ∧ ∃ l k, v = .ref l ∧ H l = some (.lst (.ref k :: flds r)) ∧ H k = some (.lst ((kinds r).map V.bl)))
def refOf (ns : List Str) (ls : List Lim3) (way : Int) : Rf := if way = 1 then thenF (namesOut ns) (limF [] ls) else namesOut ns
theorem Xst.xd {CE CR CB CV C : Addr} {d : Option Addr} {H : Hp} {r : Rf} (x : Xst CE CR CB CV C d H r) : Xd d H := by
  cases x with
  | empty => exact .inl rfl
  | rep h => exact .inr ⟨_, _, rfl, h⟩
  | bounds h => exact .inr ⟨_, _, rfl, h⟩
  | repv h => exact .inr ⟨_, _, rfl, h⟩
theorem fxOf {K : PySem.W.Frag} {mg : Str → Option Value} {cd CE CR CB CV n1 n2 C : Addr} {c9 c7 c2 : List Addr} {d : Option Addr} {H : Hp} {r : Rf} (R : Refs K mg cd CE CR CB CV n1 n2 c9 c7 c2) (x : Xst CE CR CB CV C d H r) : ∃ b0 b1 b2 b3, Fx K cd CE CR CB CV n1 n2 c9 c7 c2 C b0 b1 b2 b3 ∧ kinds r = [b0, b1, b2, b3] := by
  cases x with
  | empty => exact ⟨_, _, _, _, R.fE, rfl⟩
  | rep h => exact ⟨_, _, _, _, R.fR, rfl⟩
  | bounds h => exact ⟨_, _, _, _, R.fB, rfl⟩
  | repv h => exact ⟨_, _, _, _, R.fV, rfl⟩
theorem Xst.same {CE CR CB CV C : Addr} {d : Option Addr} {H H' : Hp} {r : Rf} (x : Xst CE CR CB CV C d H r) (s : Same H H') : Xst CE CR CB CV C d H' r := by
  cases x with
  | empty => exact .empty
  | rep h => exact .rep (s _ _ h)
  | bounds h => exact .bounds (s _ _ h)
  | repv h => exact .repv (s _ _ h)
section
variable {P : Program} {w : World} {K : PySem.W.Frag} {mg : Str → Option Value} {base : Heap}
abbrev sRfl : Stmt := topS 48
abbrev nRfl : List Str := ["_law_names_here", "_law_entries_here", "_law_way", "e", "_law_kinds"]
theorem scRfl : FnScope nRfl ["_law_names_here", "_law_entries_here", "_law_way"] (defScope sRfl) := ⟨rfl, rfl, rfl, by decide +kernel, rfl, by decide +kernel, by decide +kernel⟩
def spRfl : Sp := fun vs H Q _ => ∃ (a l : Addr) (ns : List Str) (es : List LmE) (way : Int), vs = [.ref a, .ref l, .int way] ∧ H a = some (.lst (ns.map V.str)) ∧ ns.length ≤ 100 ∧ H l = some (.lst (es.map fun e => V.ref e.1)) ∧ LmT H es ∧ es.length ≤ 100 ∧ (way = 0 ∨ way = 1) ∧
  ∀ H' v, Same H H' → Told H' v (refOf ns (es.map (·.2)) way) → Q v H'
theorem ok_Rfl {f f0 f1 C0 C1 cd CE CR CB CV n1 n2 a0 a1 a2 a3 a4 a5 a6 a7 a8 b0 b1 b2 b3 b4 b5 b6 d0 d1 g0 g1 g2 : Addr} {fd fd0 fd1 : FuncData} (F : Fun K "_law_refusal" "_law_refusal" sRfl f fd) (B : Bt mg) (T0 : Kls K mg "Unlike" C0 uF) (T1 : Kls K mg "Counts" C1 cF) (R : Refs K mg cd CE CR CB CV n1 n2 [a0, a1, a2, a3, a4, a5, a6, a7, a8] [b0, b1, b2, b3, b4, b5, b6] [d0, d1])
    (UR : Own K mg "RepeatedName" CR g0 ["name"]) (UB : Own K mg "BadBounds" CB g1 ["low", "high"]) (UV : Own K mg "RepeatedValue" CV g2 ["value"])
    (X0 : FnOk P w K mg base (L2.CX P w) 4 f0 fd0 ["self", "names"] (spUinX C0 CE CR CB CV)) (M0 : CallN P w K mg base 2 C0 f0 fd0 ["self", "names"] (spUin C0))
    (X1 : FnOk P w K mg base (L2.CX P w) 4 f1 fd1 ["self", "names", "limits"] (spCinX C1 CE CR CB CV)) (M1 : CallN P w K mg base 2 C1 f1 fd1 ["self", "names", "limits"] (spCin C1)) :
    FnOk P w K mg base CX0 6 f fd ["_law_names_here", "_law_entries_here", "_law_way"] spRfl := by
  refine F.ok scRfl (fun vs H Q E h => ?_) (fun cdv A outer s H vs Q E hr h => ?_)
  · obtain ⟨a, l, ns, es, way, rfl, _⟩ := h
    rfl
  · obtain ⟨al, l, ns, es, way, rfl, en, few, el, lt, fewe, hw, q⟩ := h
    have hu := hu_of hr
    have nd := scRfl.nd
    refine ⟨_, pss_cons (ps_try_as (i := 3) (c := .ref cd) (Wout := fun _ _ _ _ => False)
        rfl rfl nd rfl rfl ⟨rfl, by decide, Or.inl R.gd⟩ takes0
        (fun W pn xe tk _ => pss_cons (ps_if (pt_cmpR op_eq (pv 2) pe_int rfl) (pss_one (ps_expr (pe_makeS M0.mkr X0 (hr.mono (by decide)) (by rfl) T0.gC M0.bd (fun σ => passAt tk σ) (pa_cons (pv 0) pa_nil)))) pss_nil)
          (pss_one (ps_if (pt_cmpR op_eq (pv 2) pe_int rfl) (pss_one (ps_expr (pe_makeS M1.mkr X1 (hr.mono (by decide)) (by rfl) T1.gC M1.bd (fun σ => passAt tk σ) (pa_cons (pv 0) (pa_cons (pv 1) pa_nil))))) pss_nil)))
        (fun a oe cls d pn hz hf => pss_cons (ps_if (PW.pt (pw_or (pt_not (pt_val (pe_callB (r := rIsE K a cls d) (call_isE hz hf) (by rfl) B.isi PyProof.Rows.boot_isinstance (pa_cons (pv 3) (pa_cons (pe_bltn (by rfl) R.ve PyProof.Rows.Boot.«ValueError» (v := .ty "ValueError") rfl) pa_nil))))) (pw_or (pt_val (pe_callB (r := rIsE K a cls d) (call_isE hz hf) (by rfl) B.isi PyProof.Rows.boot_isinstance (pa_cons (pv 3) (pa_cons (pe_glob (by rfl) (R.N1.at_ 0 _ rfl) (v := .ref n1) rfl) pa_nil)))) (pw_or1 (pt_val (pe_callB (r := rIsE K a cls d) (call_isE hz hf) (by rfl) B.isi PyProof.Rows.boot_isinstance (pa_cons (pv 3) (pa_cons (pe_glob (by rfl) (R.N1.at_ 1 _ rfl) (v := .ref n2) rfl) pa_nil)))))))) (pss_one (ps_ret (pe_lst pa_nil))) pss_nil)
          (pss_cons (ps_if (pt_val (pe_callB (r := rIsE K a cls d) (call_isE hz hf) (by rfl) B.isi PyProof.Rows.boot_isinstance (pa_cons (pv 3) (pa_cons (pe_tup (pa_cons (pe_glob (by rfl) (R.N9.at_ 0 _ rfl) (v := .ref a0) rfl) (pa_cons (pe_glob (by rfl) (R.N9.at_ 1 _ rfl) (v := .ref a1) rfl) (pa_cons (pe_glob (by rfl) (R.N9.at_ 2 _ rfl) (v := .ref a2) rfl) (pa_cons (pe_glob (by rfl) (R.N9.at_ 3 _ rfl) (v := .ref a3) rfl) (pa_cons (pe_glob (by rfl) (R.N9.at_ 4 _ rfl) (v := .ref a4) rfl) (pa_cons (pe_glob (by rfl) (R.N9.at_ 5 _ rfl) (v := .ref a5) rfl) (pa_cons (pe_glob (by rfl) (R.N9.at_ 6 _ rfl) (v := .ref a6) rfl) (pa_cons (pe_glob (by rfl) (R.N9.at_ 7 _ rfl) (v := .ref a7) rfl) (pa_cons (pe_glob (by rfl) (R.N9.at_ 8 _ rfl) (v := .ref a8) rfl) pa_nil)))))))))) pa_nil)))) (pss_one (ps_ret (pe_lst pa_nil))) pss_nil)
          (pss_cons (ps_if (pt_val (pe_callB (r := rIsE K a cls d) (call_isE hz hf) (by rfl) B.isi PyProof.Rows.boot_isinstance (pa_cons (pv 3) (pa_cons (pe_tup (pa_cons (pe_glob (by rfl) (R.N7.at_ 0 _ rfl) (v := .ref b0) rfl) (pa_cons (pe_glob (by rfl) (R.N7.at_ 1 _ rfl) (v := .ref b1) rfl) (pa_cons (pe_glob (by rfl) (R.N7.at_ 2 _ rfl) (v := .ref b2) rfl) (pa_cons (pe_glob (by rfl) (R.N7.at_ 3 _ rfl) (v := .ref b3) rfl) (pa_cons (pe_glob (by rfl) (R.N7.at_ 4 _ rfl) (v := .ref b4) rfl) (pa_cons (pe_glob (by rfl) (R.N7.at_ 5 _ rfl) (v := .ref b5) rfl) (pa_cons (pe_glob (by rfl) (R.N7.at_ 6 _ rfl) (v := .ref b6) rfl) pa_nil)))))))) pa_nil)))) (pss_one (ps_ret (pe_lst pa_nil))) pss_nil)
          (pss_cons (ps_if (pt_val (pe_callB (r := rIsE K a cls d) (call_isE hz hf) (by rfl) B.isi PyProof.Rows.boot_isinstance (pa_cons (pv 3) (pa_cons (pe_tup (pa_cons (pe_glob (by rfl) (R.N2.at_ 0 _ rfl) (v := .ref d0) rfl) (pa_cons (pe_glob (by rfl) (R.N2.at_ 1 _ rfl) (v := .ref d1) rfl) pa_nil))) pa_nil)))) (pss_one (ps_ret (pe_lst pa_nil))) pss_nil)
          (pss_cons (ps_set (i := 4) nd rfl (.inl rfl) (pe_lst (pa_cons (pe_callB (r := rIsE K a cls d) (call_isE hz hf) (by rfl) B.isi PyProof.Rows.boot_isinstance (pa_cons (pv 3) (pa_cons (pe_glob (by rfl) (R.N4.at_ 0 _ rfl) (v := .ref CE) rfl) pa_nil))) (pa_cons (pe_callB (r := rIsE K a cls d) (call_isE hz hf) (by rfl) B.isi PyProof.Rows.boot_isinstance (pa_cons (pv 3) (pa_cons (pe_glob (by rfl) (R.N4.at_ 1 _ rfl) (v := .ref CR) rfl) pa_nil))) pa_nil))))
          (pss_cons (ps_set (i := 4) nd rfl (.inl rfl) (pe_op op_cat (pv 4) (pe_lst (pa_cons (pe_callB (r := rIsE K a cls d) (call_isE hz hf) (by rfl) B.isi PyProof.Rows.boot_isinstance (pa_cons (pv 3) (pa_cons (pe_glob (by rfl) (R.N4.at_ 2 _ rfl) (v := .ref CB) rfl) pa_nil))) (pa_cons (pe_callB (r := rIsE K a cls d) (call_isE hz hf) (by rfl) B.isi PyProof.Rows.boot_isinstance (pa_cons (pv 3) (pa_cons (pe_glob (by rfl) (R.N4.at_ 3 _ rfl) (v := .ref CV) rfl) pa_nil))) pa_nil)))))
          (pss_cons (ps_if (pt_val (pe_ix (r := rIxL K) ix_list (pv 4) pe_int (fun _ _ => rfl))) (pss_one (ps_ret (pe_lst (pa_cons (pv 4) (pa_cons (pe_xf UR.xf (UR.no _ (by simp)) hz hf (pv 3)) pa_nil))))) pss_nil)
          (pss_cons (ps_if (pt_val (pe_ix (r := rIxL K) ix_list (pv 4) pe_int (fun _ _ => rfl))) (pss_one (ps_ret (pe_lst (pa_cons (pv 4) (pa_cons (pe_xf UB.xf (UB.no _ (by simp)) hz hf (pv 3)) (pa_cons (pe_xf UB.xf (UB.no _ (by simp)) hz hf (pv 3)) pa_nil)))))) pss_nil)
          (pss_cons (ps_if (pt_val (pe_ix (r := rIxL K) ix_list (pv 4) pe_int (fun _ _ => rfl))) (pss_one (ps_ret (pe_lst (pa_cons (pv 4) (pa_cons (pe_xf UV.xf (UV.no _ (by simp)) hz hf (pv 3)) pa_nil))))) pss_nil)
          (pss_one (ps_ret (pe_lst (pa_cons (pv 4) pa_nil))))))))))))))
      (pss_one (ps_ret pe_non)), ?_⟩
    have sbs : ∀ {C0 p dx : Addr}, H p = none → H dx = none → dx ≠ p → Same H (upd (upd H dx (.own p)) p (.ins C0 dx [])) := fun np ndx nep => (same_new ndx).trans (same_new (by rw [upd_ne nep.symm]; exact np))
    rcases hw with rfl | rfl
    · refine ⟨_, rfl, rfl, _, rfl, ite_both (fun _ => ?_) fun c => absurd c (by simp)⟩
      refine ⟨_, rfl, fun p dx np ndx nep => ?_⟩
      have sb := sbs (C0 := C0) np ndx nep
      refine ⟨p, dx, al, ns, rfl, upd_same, sb _ _ en, few, fun C d H1 kp x => ?_, fun ok H1 kp => ⟨rfl, ?_⟩⟩
      · obtain ⟨rr, er⟩ : ∃ r, namesOut ns = r := ⟨_, rfl⟩
        rw [show refOf ns (es.map (·.2)) 0 = namesOut ns from rfl, er] at q
        rw [er] at x
        have S1 : Same H H1 := fun b o e => kp b o (ne_some' e np) (sb _ _ e)
        obtain ⟨b0', b1', b2', b3', fx, kr⟩ := fxOf R x
        refine ⟨true, fx.te, fun ae oe na => ?_, fun z => nomatch z⟩
        refine ⟨_, rfl, isE1 x.xd fx.ex (fun u r => by cases r; rfl) fx.kv ⟨true, rfl, iteF ⟨_, rfl, isE1 x.xd fx.ex (fun u r => by cases r; rfl) fx.k1 ⟨false, rfl, iteF ⟨_, rfl, isE1 x.xd fx.ex (fun u r => by cases r; rfl) fx.k2 ⟨false, rfl, iteF ?_⟩⟩⟩⟩⟩⟩
        refine ⟨_, rfl, by show 9 ≤ sizeLine; decide, fun T1 nT1 => isEA (cs := [a0, a1, a2, a3, a4, a5, a6, a7, a8]) (x.same (same_new nT1)).xd fx.ex upd_same fx.a9 ⟨false, rfl, iteF ?_⟩⟩
        replace S1 := S1.trans (same_new (o := HO.tup ([a0, a1, a2, a3, a4, a5, a6, a7, a8].map V.ref)) nT1)
        replace x := x.same (same_new (o := HO.tup ([a0, a1, a2, a3, a4, a5, a6, a7, a8].map V.ref)) nT1)
        refine ⟨_, rfl, by show 7 ≤ sizeLine; decide, fun T2 nT2 => isEA (cs := [b0, b1, b2, b3, b4, b5, b6]) (x.same (same_new nT2)).xd fx.ex upd_same fx.a7 ⟨false, rfl, iteF ?_⟩⟩
        replace S1 := S1.trans (same_new (o := HO.tup ([b0, b1, b2, b3, b4, b5, b6].map V.ref)) nT2)
        replace x := x.same (same_new (o := HO.tup ([b0, b1, b2, b3, b4, b5, b6].map V.ref)) nT2)
        refine ⟨_, rfl, by show 2 ≤ sizeLine; decide, fun T3 nT3 => isEA (cs := [d0, d1]) (x.same (same_new nT3)).xd fx.ex upd_same fx.a2 ⟨false, rfl, iteF ?_⟩⟩
        replace S1 := S1.trans (same_new (o := HO.tup ([d0, d1].map V.ref)) nT3)
        replace x := x.same (same_new (o := HO.tup ([d0, d1].map V.ref)) nT3)
        refine ⟨_, rfl, isE1 x.xd fx.ex (fun u r => by cases r; rfl) fx.e0 ⟨_, rfl, isE1 x.xd fx.ex (fun u r => by cases r; rfl) fx.e1 ⟨by show 2 ≤ sizeLine; decide, fun k1 nk1 => ?_⟩⟩⟩
        have s1 := same_new (o := HO.lst [V.bl b0', .bl b1']) nk1
        refine ⟨_, rfl, _, rfl, isE1 (x.same s1).xd fx.ex (fun u r => by cases r; rfl) fx.e2 ⟨_, rfl, isE1 (x.same s1).xd fx.ex (fun u r => by cases r; rfl) fx.e3 ⟨by show 2 ≤ sizeLine; decide, fun k2 nk2 => ?_⟩⟩⟩
        have s2 := same_new (o := HO.lst [V.bl b2', .bl b3']) nk2
        refine ⟨k1, k2, _, _, rfl, rfl, s2 _ _ upd_same, upd_same, by show 4 ≤ sizeLine; decide, fun k nk => ?_⟩
        have s3 := same_new (o := HO.lst ([V.bl b0', .bl b1'] ++ [V.bl b2', .bl b3'])) nk
        replace S1 := S1.trans (s1.trans (s2.trans s3))
        replace x := x.same (s1.trans (s2.trans s3))
        obtain ⟨H9, e9⟩ : ∃ H9, upd (upd (upd (upd (upd (upd H1 T1 (HO.tup ([a0, a1, a2, a3, a4, a5, a6, a7, a8].map V.ref))) T2 (HO.tup ([b0, b1, b2, b3, b4, b5, b6].map V.ref))) T3 (HO.tup ([d0, d1].map V.ref))) k1 (HO.lst [V.bl b0', .bl b1'])) k2 (HO.lst [V.bl b2', .bl b3'])) k (HO.lst ([V.bl b0', .bl b1'] ++ [V.bl b2', .bl b3'])) = H9 := ⟨_, rfl⟩
        have ek : H9 k = some (.lst [V.bl b0', .bl b1', .bl b2', .bl b3']) := by rw [← e9]; exact upd_same
        have S9 : Same H H9 := by rw [← e9]; exact S1
        have x9 : Xst CE CR CB CV C d H9 rr := by rw [← e9]; exact x
        show gName 4 (.ref k) _ (upd (upd (upd (upd (upd (upd H1 T1 (HO.tup ([a0, a1, a2, a3, a4, a5, a6, a7, a8].map V.ref))) T2 (HO.tup ([b0, b1, b2, b3, b4, b5, b6].map V.ref))) T3 (HO.tup ([d0, d1].map V.ref))) k1 (HO.lst [V.bl b0', .bl b1'])) k2 (HO.lst [V.bl b2', .bl b3'])) k (HO.lst ([V.bl b0', .bl b1'] ++ [V.bl b2', .bl b3']))) _
        rw [e9]
        clear e9 x S1 s3 s2 s1
        cases x9 with
        | empty =>
          cases (show [true, false, false, false] = [b0', b1', b2', b3'] from kr)
          refine ⟨_, rfl, k, _, _, .bl false, rfl, rfl, sl_map ek, atI_nat (j := 1) rfl, false, rfl, iteF ⟨_, rfl, k, _, _, .bl false, rfl, rfl, sl_map ek, atI_nat (j := 2) rfl, false, rfl, iteF ⟨_, rfl, k, _, _, .bl false, rfl, rfl, sl_map ek, atI_nat (j := 3) rfl, false, rfl, iteF ⟨_, rfl, by show 1 ≤ sizeLine; decide, fun Z nZ => ?_⟩⟩⟩⟩
          exact q _ _ (S9.trans (same_new nZ)) (.inr ⟨(fun z => nomatch z), Z, k, rfl, upd_same, same_new nZ _ _ ek⟩)
        | rep h =>
          cases (show [false, true, false, false] = [b0', b1', b2', b3'] from kr)
          refine ⟨_, rfl, k, _, _, .bl true, rfl, rfl, sl_map ek, atI_nat (j := 1) rfl, true, rfl, iteT ⟨_, rfl, _, rfl, rfl, rfl, _, _, _, rfl, h, (by first | rfl | (simp [List.lookup]; done) | (simp [List.lookup]; rfl)), by show 2 ≤ sizeLine; decide, fun Z nZ => ?_⟩⟩
          exact q _ _ (S9.trans (same_new nZ)) (.inr ⟨(fun z => nomatch z), Z, k, rfl, upd_same, same_new nZ _ _ ek⟩)
        | bounds h =>
          cases (show [false, false, true, false] = [b0', b1', b2', b3'] from kr)
          refine ⟨_, rfl, k, _, _, .bl false, rfl, rfl, sl_map ek, atI_nat (j := 1) rfl, false, rfl, iteF ⟨_, rfl, k, _, _, .bl true, rfl, rfl, sl_map ek, atI_nat (j := 2) rfl, true, rfl, iteT ⟨_, rfl, _, rfl, rfl, rfl, _, _, _, rfl, h, (by first | rfl | (simp [List.lookup]; done) | (simp [List.lookup]; rfl)), _, rfl, rfl, rfl, _, _, _, rfl, h, (by first | rfl | (simp [List.lookup]; done) | (simp [List.lookup]; rfl)), by show 3 ≤ sizeLine; decide, fun Z nZ => ?_⟩⟩⟩
          exact q _ _ (S9.trans (same_new nZ)) (.inr ⟨(fun z => nomatch z), Z, k, rfl, upd_same, same_new nZ _ _ ek⟩)
        | repv h =>
          cases (show [false, false, false, true] = [b0', b1', b2', b3'] from kr)
          refine ⟨_, rfl, k, _, _, .bl false, rfl, rfl, sl_map ek, atI_nat (j := 1) rfl, false, rfl, iteF ⟨_, rfl, k, _, _, .bl false, rfl, rfl, sl_map ek, atI_nat (j := 2) rfl, false, rfl, iteF ⟨_, rfl, k, _, _, .bl true, rfl, rfl, sl_map ek, atI_nat (j := 3) rfl, true, rfl, iteT ⟨_, rfl, _, rfl, rfl, rfl, _, _, _, rfl, h, (by first | rfl | (simp [List.lookup]; done) | (simp [List.lookup]; rfl)), by show 2 ≤ sizeLine; decide, fun Z nZ => ?_⟩⟩⟩⟩
          exact q _ _ (S9.trans (same_new nZ)) (.inr ⟨(fun z => nomatch z), Z, k, rfl, upd_same, same_new nZ _ _ ek⟩)
      · refine ⟨_, rfl, rfl, _, rfl, ite_both (fun c => absurd c (by simp)) fun _ => ?_⟩
        exact q _ _ (fun b o e => kp b o (ne_some' e np) (sb _ _ e)) (.inl ⟨ok, rfl⟩)
    · refine ⟨_, rfl, rfl, _, rfl, ite_both (fun c => absurd c (by simp)) fun _ => ?_⟩
      refine ⟨_, rfl, rfl, _, rfl, ite_both (fun _ => ?_) fun c => absurd c (by simp)⟩
      refine ⟨_, rfl, _, rfl, fun p dx np ndx nep => ?_⟩
      have sb := sbs (C0 := C1) np ndx nep
      refine ⟨p, dx, al, l, ns, es, rfl, upd_same, sb _ _ en, few, sb _ _ el, lt.same sb, fewe, fun C d H1 kp x => ?_, fun ok H1 kp => ⟨rfl, ?_⟩⟩
      · obtain ⟨rr, er⟩ : ∃ r, thenF (namesOut ns) (limF [] (es.map (·.2))) = r := ⟨_, rfl⟩
        rw [show refOf ns (es.map (·.2)) 1 = thenF (namesOut ns) (limF [] (es.map (·.2))) from rfl, er] at q
        rw [er] at x
        have S1 : Same H H1 := fun b o e => kp b o (ne_some' e np) (sb _ _ e)
        obtain ⟨b0', b1', b2', b3', fx, kr⟩ := fxOf R x
        refine ⟨true, fx.te, fun ae oe na => ?_, fun z => nomatch z⟩
        refine ⟨_, rfl, isE1 x.xd fx.ex (fun u r => by cases r; rfl) fx.kv ⟨true, rfl, iteF ⟨_, rfl, isE1 x.xd fx.ex (fun u r => by cases r; rfl) fx.k1 ⟨false, rfl, iteF ⟨_, rfl, isE1 x.xd fx.ex (fun u r => by cases r; rfl) fx.k2 ⟨false, rfl, iteF ?_⟩⟩⟩⟩⟩⟩
        refine ⟨_, rfl, by show 9 ≤ sizeLine; decide, fun T1 nT1 => isEA (cs := [a0, a1, a2, a3, a4, a5, a6, a7, a8]) (x.same (same_new nT1)).xd fx.ex upd_same fx.a9 ⟨false, rfl, iteF ?_⟩⟩
        replace S1 := S1.trans (same_new (o := HO.tup ([a0, a1, a2, a3, a4, a5, a6, a7, a8].map V.ref)) nT1)
        replace x := x.same (same_new (o := HO.tup ([a0, a1, a2, a3, a4, a5, a6, a7, a8].map V.ref)) nT1)
        refine ⟨_, rfl, by show 7 ≤ sizeLine; decide, fun T2 nT2 => isEA (cs := [b0, b1, b2, b3, b4, b5, b6]) (x.same (same_new nT2)).xd fx.ex upd_same fx.a7 ⟨false, rfl, iteF ?_⟩⟩
        replace S1 := S1.trans (same_new (o := HO.tup ([b0, b1, b2, b3, b4, b5, b6].map V.ref)) nT2)
        replace x := x.same (same_new (o := HO.tup ([b0, b1, b2, b3, b4, b5, b6].map V.ref)) nT2)
        refine ⟨_, rfl, by show 2 ≤ sizeLine; decide, fun T3 nT3 => isEA (cs := [d0, d1]) (x.same (same_new nT3)).xd fx.ex upd_same fx.a2 ⟨false, rfl, iteF ?_⟩⟩
        replace S1 := S1.trans (same_new (o := HO.tup ([d0, d1].map V.ref)) nT3)
        replace x := x.same (same_new (o := HO.tup ([d0, d1].map V.ref)) nT3)
        refine ⟨_, rfl, isE1 x.xd fx.ex (fun u r => by cases r; rfl) fx.e0 ⟨_, rfl, isE1 x.xd fx.ex (fun u r => by cases r; rfl) fx.e1 ⟨by show 2 ≤ sizeLine; decide, fun k1 nk1 => ?_⟩⟩⟩
        have s1 := same_new (o := HO.lst [V.bl b0', .bl b1']) nk1
        refine ⟨_, rfl, _, rfl, isE1 (x.same s1).xd fx.ex (fun u r => by cases r; rfl) fx.e2 ⟨_, rfl, isE1 (x.same s1).xd fx.ex (fun u r => by cases r; rfl) fx.e3 ⟨by show 2 ≤ sizeLine; decide, fun k2 nk2 => ?_⟩⟩⟩
        have s2 := same_new (o := HO.lst [V.bl b2', .bl b3']) nk2
        refine ⟨k1, k2, _, _, rfl, rfl, s2 _ _ upd_same, upd_same, by show 4 ≤ sizeLine; decide, fun k nk => ?_⟩
        have s3 := same_new (o := HO.lst ([V.bl b0', .bl b1'] ++ [V.bl b2', .bl b3'])) nk
        replace S1 := S1.trans (s1.trans (s2.trans s3))
        replace x := x.same (s1.trans (s2.trans s3))
        obtain ⟨H9, e9⟩ : ∃ H9, upd (upd (upd (upd (upd (upd H1 T1 (HO.tup ([a0, a1, a2, a3, a4, a5, a6, a7, a8].map V.ref))) T2 (HO.tup ([b0, b1, b2, b3, b4, b5, b6].map V.ref))) T3 (HO.tup ([d0, d1].map V.ref))) k1 (HO.lst [V.bl b0', .bl b1'])) k2 (HO.lst [V.bl b2', .bl b3'])) k (HO.lst ([V.bl b0', .bl b1'] ++ [V.bl b2', .bl b3'])) = H9 := ⟨_, rfl⟩
        have ek : H9 k = some (.lst [V.bl b0', .bl b1', .bl b2', .bl b3']) := by rw [← e9]; exact upd_same
        have S9 : Same H H9 := by rw [← e9]; exact S1
        have x9 : Xst CE CR CB CV C d H9 rr := by rw [← e9]; exact x
        show gName 4 (.ref k) _ (upd (upd (upd (upd (upd (upd H1 T1 (HO.tup ([a0, a1, a2, a3, a4, a5, a6, a7, a8].map V.ref))) T2 (HO.tup ([b0, b1, b2, b3, b4, b5, b6].map V.ref))) T3 (HO.tup ([d0, d1].map V.ref))) k1 (HO.lst [V.bl b0', .bl b1'])) k2 (HO.lst [V.bl b2', .bl b3'])) k (HO.lst ([V.bl b0', .bl b1'] ++ [V.bl b2', .bl b3']))) _
        rw [e9]
        clear e9 x S1 s3 s2 s1
        cases x9 with
        | empty =>
          cases (show [true, false, false, false] = [b0', b1', b2', b3'] from kr)
          refine ⟨_, rfl, k, _, _, .bl false, rfl, rfl, sl_map ek, atI_nat (j := 1) rfl, false, rfl, iteF ⟨_, rfl, k, _, _, .bl false, rfl, rfl, sl_map ek, atI_nat (j := 2) rfl, false, rfl, iteF ⟨_, rfl, k, _, _, .bl false, rfl, rfl, sl_map ek, atI_nat (j := 3) rfl, false, rfl, iteF ⟨_, rfl, by show 1 ≤ sizeLine; decide, fun Z nZ => ?_⟩⟩⟩⟩
          exact q _ _ (S9.trans (same_new nZ)) (.inr ⟨(fun z => nomatch z), Z, k, rfl, upd_same, same_new nZ _ _ ek⟩)
        | rep h =>
          cases (show [false, true, false, false] = [b0', b1', b2', b3'] from kr)
          refine ⟨_, rfl, k, _, _, .bl true, rfl, rfl, sl_map ek, atI_nat (j := 1) rfl, true, rfl, iteT ⟨_, rfl, _, rfl, rfl, rfl, _, _, _, rfl, h, (by first | rfl | (simp [List.lookup]; done) | (simp [List.lookup]; rfl)), by show 2 ≤ sizeLine; decide, fun Z nZ => ?_⟩⟩
          exact q _ _ (S9.trans (same_new nZ)) (.inr ⟨(fun z => nomatch z), Z, k, rfl, upd_same, same_new nZ _ _ ek⟩)
        | bounds h =>
          cases (show [false, false, true, false] = [b0', b1', b2', b3'] from kr)
          refine ⟨_, rfl, k, _, _, .bl false, rfl, rfl, sl_map ek, atI_nat (j := 1) rfl, false, rfl, iteF ⟨_, rfl, k, _, _, .bl true, rfl, rfl, sl_map ek, atI_nat (j := 2) rfl, true, rfl, iteT ⟨_, rfl, _, rfl, rfl, rfl, _, _, _, rfl, h, (by first | rfl | (simp [List.lookup]; done) | (simp [List.lookup]; rfl)), _, rfl, rfl, rfl, _, _, _, rfl, h, (by first | rfl | (simp [List.lookup]; done) | (simp [List.lookup]; rfl)), by show 3 ≤ sizeLine; decide, fun Z nZ => ?_⟩⟩⟩
          exact q _ _ (S9.trans (same_new nZ)) (.inr ⟨(fun z => nomatch z), Z, k, rfl, upd_same, same_new nZ _ _ ek⟩)
        | repv h =>
          cases (show [false, false, false, true] = [b0', b1', b2', b3'] from kr)
          refine ⟨_, rfl, k, _, _, .bl false, rfl, rfl, sl_map ek, atI_nat (j := 1) rfl, false, rfl, iteF ⟨_, rfl, k, _, _, .bl false, rfl, rfl, sl_map ek, atI_nat (j := 2) rfl, false, rfl, iteF ⟨_, rfl, k, _, _, .bl true, rfl, rfl, sl_map ek, atI_nat (j := 3) rfl, true, rfl, iteT ⟨_, rfl, _, rfl, rfl, rfl, _, _, _, rfl, h, (by first | rfl | (simp [List.lookup]; done) | (simp [List.lookup]; rfl)), by show 2 ≤ sizeLine; decide, fun Z nZ => ?_⟩⟩⟩⟩
          exact q _ _ (S9.trans (same_new nZ)) (.inr ⟨(fun z => nomatch z), Z, k, rfl, upd_same, same_new nZ _ _ ek⟩)
      · exact q _ _ (fun b o e => kp b o (ne_some' e np) (sb _ _ e)) (.inl ⟨ok, rfl⟩)
end
end K23
set_option Elab.async false
set_option linter.all false
set_option maxRecDepth 100000
set_option maxHeartbeats 4000000
namespace K23
open PySem PySem.Spec PyProof.Rows L2 Cs CsX
theorem paired_bls {K : PySem.W.Frag} {H : Hp} {n : Nat} : ∀ bs : List Bool, Paired (EqV K H (n + 1)) (bs.map V.bl) (bs.map V.bl)
  | [] => .nil
  | _ :: bs => .cons (.inl ⟨rfl, rfl⟩) (paired_bls bs)
theorem paired_flds {K : PySem.W.Frag} {H : Hp} {n : Nat} : ∀ r : Rf, Paired (EqV K H (n + 1)) (flds r) (flds r)
  | .ok => .nil
  | .empty => .nil
  | .rep _ => .cons (.inl ⟨rfl, rfl⟩) .nil
  | .bounds _ _ => .cons (.inl ⟨rfl, rfl⟩) (.cons (.inl ⟨rfl, rfl⟩) .nil)
  | .repv _ => .cons (.inl ⟨rfl, rfl⟩) .nil
theorem ref_empty {ns : List Str} {ls : List Lim3} {way : Int} (h : ns.length = 0) : refOf ns ls way = .empty := by
  have z : namesOut ns = .empty := by unfold namesOut; rw [if_pos h]
  unfold refOf; rw [z]; split <;> rfl
theorem ref_rep {ns : List Str} {ls : List Lim3} {way : Int} {x : Str} (h : ns.length ≠ 0) (r : repF [] ns = .rep x) : refOf ns ls way = .rep x := by
  have z : namesOut ns = .rep x := by unfold namesOut; rw [if_neg h, r]
  unfold refOf; rw [z]; split <;> rfl
theorem ref_lim {ns : List Str} {ls : List Lim3} (h : ns.length ≠ 0) (r : repF [] ns = .ok) : refOf ns ls 1 = limF [] ls := by
  have z : namesOut ns = .ok := by unfold namesOut; rw [if_neg h, r]
  unfold refOf; rw [z, if_pos rfl] <;> rfl
theorem ref_ok {ns : List Str} {ls : List Lim3} {way : Int} (h : ns.length ≠ 0) (r : repF [] ns = .ok) (w : way ≠ 1) : refOf ns ls way = .ok := by
  have z : namesOut ns = .ok := by unfold namesOut; rw [if_neg h, r]
  unfold refOf; rw [z, if_neg w]
section
variable {P : Program} {w : World} {K : PySem.W.Frag} {mg : Str → Option Value} {base : Heap}
abbrev sDue : Stmt := topS 49
abbrev nDue : List Str := ["_law_names_here", "_law_entries_here", "_law_way", "_law_k", "_law_entry", "_law_earlier"]
theorem scDue : FnScope nDue ["_law_names_here", "_law_entries_here", "_law_way"] (defScope sDue) := ⟨rfl, rfl, rfl, by decide +kernel, rfl, by decide +kernel, by decide +kernel⟩
def spDue : Sp := fun vs H Q _ => ∃ (a l : Addr) (ns : List Str) (es : List LmE) (way : Int), vs = [.ref a, .ref l, .int way] ∧ H a = some (.lst (ns.map V.str)) ∧ ns.length ≤ 100 ∧ H l = some (.lst (es.map fun e => V.ref e.1)) ∧ LmT H es ∧ es.length ≤ 100 ∧
  ∀ H' v, Same H H' → Told H' v (refOf ns (es.map (·.2)) way) → Q v H'
theorem ok_Due {f  : Addr} {fd  : FuncData} (F : Fun K "_law_due" "_law_due" sDue f fd) (B : Bt mg) :
    FnOk P w K mg base CX0 1 f fd ["_law_names_here", "_law_entries_here", "_law_way"] spDue := by
  refine F.ok scDue (fun vs H Q E h => ?_) (fun cdv A outer s H vs Q E hr h => ?_)
  · obtain ⟨a, l, ns, es, way, rfl, _⟩ := h
    rfl
  · obtain ⟨a, l, ns, es, way, rfl, en, few, el, lt, fewe, q⟩ := h
    have hu := hu_of hr
    have nd := scDue.nd
    refine ⟨_, pss_cons (ps_if (pt_cmpR op_eq (pe_callB call_len_seq (by rfl) B.len PySem.boot_len (pa_cons (pv 0) pa_nil)) pe_int rfl)
        (pss_one (ps_ret (pe_lst (pa_cons (pe_lst (pa_cons pe_bl (pa_cons pe_bl (pa_cons pe_bl (pa_cons pe_bl pa_nil))))) pa_nil))))
        pss_nil)
      (pss_cons (ps_for PassesOwn.never rfl (pi_range1 (by rfl) B.range (pa_cons (pe_callB call_len_seq (by rfl) B.len PySem.boot_len (pa_cons (pv 0) pa_nil)) pa_nil)) (pg_name (i := 3) nd rfl (.inl rfl))
        (pss_one (ps_if (pt_cmpR (r := rIn K false) op_in_seq (pe_ix ix_list (pv 0) (pv 3) (fun _ _ => rfl)) (pe_slice sl_list (pv 0) po_none (po_some (pv 3))) rfl)
            (pss_one (ps_ret (pe_lst (pa_cons (pe_lst (pa_cons pe_bl (pa_cons pe_bl (pa_cons pe_bl (pa_cons pe_bl pa_nil))))) (pa_cons (pe_ix ix_list (pv 0) (pv 3) (fun _ _ => rfl)) pa_nil)))))
            pss_nil)))
      (pss_cons (ps_for PassesOwn.never rfl (pi_range1 (by rfl) B.range (pa_cons (pe_callB call_len_seq (by rfl) B.len PySem.boot_len (pa_cons (pv 1) pa_nil)) pa_nil)) (pg_name (i := 3) nd rfl (.inl rfl))
        (pss_cons (ps_set (i := 4) nd rfl (.inl rfl) (pe_ix ix_list (pv 1) (pv 3) (fun _ _ => rfl)))
          (pss_cons (ps_if (PW.pt (pw_and (pt_cmpR op_eq (pv 2) pe_int rfl) (pw_and1 (PW.pt (pw_or (pt_cmpR op_lt (pe_ix ix_tup (pv 4) pe_int (fun _ _ => rfl)) pe_int rfl) (pw_or1 (pt_cmpR op_gt (pe_ix ix_tup (pv 4) pe_int (fun _ _ => rfl)) (pe_ix ix_tup (pv 4) pe_int (fun _ _ => rfl)) rfl)))))))
            (pss_one (ps_ret (pe_lst (pa_cons (pe_lst (pa_cons pe_bl (pa_cons pe_bl (pa_cons pe_bl (pa_cons pe_bl pa_nil))))) (pa_cons (pe_ix ix_tup (pv 4) pe_int (fun _ _ => rfl)) (pa_cons (pe_ix ix_tup (pv 4) pe_int (fun _ _ => rfl)) pa_nil))))))
            pss_nil)
          (pss_one (ps_if (PW.pt (pw_and (pt_cmpR op_eq (pv 2) pe_int rfl) (pw_and1 (pt_cmpR (r := rIn K false) op_in_seq (pe_ix ix_tup (pv 4) pe_int (fun _ _ => rfl)) (pe_lc (own := [("_law_earlier", 5)]) (g := gName 5) (tt := tYes)  rfl nd (pi_list (pe_slice sl_list (pv 1) po_none (po_some (pv 3)))) (blkOk_by (N := nDue) (sc := defScope sDue) (by decide +kernel)) (fun _ _ _ _ _ => pg_name (i := 5) nd rfl (.inl rfl)) (fun _ _ _ _ _ => pts_nil)
        (fun _ _ _ _ _ => (pe_ix (r := rIxT K) ix_tup (pv 5) pe_int (fun _ _ => rfl)))) rfl))))
            (pss_one (ps_ret (pe_lst (pa_cons (pe_lst (pa_cons pe_bl (pa_cons pe_bl (pa_cons pe_bl (pa_cons pe_bl pa_nil))))) (pa_cons (pe_ix ix_tup (pv 4) pe_int (fun _ _ => rfl)) pa_nil)))))
            pss_nil)))))
      (pss_one (ps_ret pe_non)))), ?_⟩
    have made : ∀ {H1 : Hp} {r : Rf} {k L : Addr}, Same H H1 → r ≠ .ok → refOf ns (es.map (·.2)) way = r → H1 k = none → (upd H1 k (.lst ((kinds r).map V.bl))) L = none → Q (.ref L) (upd (upd H1 k (.lst ((kinds r).map V.bl))) L (.lst (.ref k :: flds r))) := fun {H1 r k L} s1 ne er nk nL =>
      q _ _ (s1.trans ((same_new nk).trans (same_new nL))) (.inr ⟨by rw [er]; exact ne, L, k, rfl, by rw [er]; exact upd_same, by rw [er]; exact same_new nL _ _ upd_same⟩)
    refine ⟨_, rfl, a, _, rfl, .inl (sl_map en), rfl, _, rfl, ite_both (fun c => ?_) fun c => ?_⟩
    · have z : ns.length = 0 := by
        have := V.int.inj (of_decide_eq_true c)
        rw [List.length_map] at this
        omega
      refine ⟨by show 4 ≤ sizeLine; decide, fun k nk => ⟨by show 1 ≤ sizeLine; decide, fun L nL => ?_⟩⟩
      exact made (r := .empty) (fun _ _ e => e) (fun z => nomatch z) (ref_empty z) nk nL
    have n0 : ns.length ≠ 0 := fun z => of_decide_eq_false c (by rw [List.length_map, z] <;> rfl)
    refine ⟨_, rfl, a, _, rfl, .inl (sl_map en), _, rfl, by omega, by rw [List.length_map]; omega, for_range (lo := 0) (n := (ns.map V.str).length) (fun i σ H' => ∃ (y3 : Option V), σ = [some (.ref a), some (.ref l), some (.int way), y3, none, none] ∧ Same H H' ∧ repF [] ns = repF (ns.take i) (ns.drop i)) ⟨none, rfl, (fun _ _ e => e), rfl⟩ ?_ ?_⟩
    · rintro i σ H1 hi ⟨y3, rfl, s1, inv⟩
      rw [List.length_map] at hi
      obtain ⟨x, hx⟩ : ∃ x, ns[i]? = some x := ⟨_, List.getElem?_eq_getElem hi⟩
      have hx' : (ns.map V.str)[i]? = some (.str x) := by rw [List.getElem?_map, hx] <;> rfl
      have e1 := s1 _ _ en
      refine ⟨_, rfl, _, rfl, a, _, _, .str x, rfl, rfl, sl_map e1, at_eqS (by omega) hx', _, rfl, _, rfl, _, rfl, a, _, rfl, sl_map e1, fun Y nY => ?_⟩
      rw [show cutV (ns.map V.str) none (some (0 + (i : Int))) = (ns.take i).map V.str by rw [Int.zero_add, cutV_to, List.map_take]]
      have s2 := same_new (o := HO.lst ((ns.take i).map V.str)) nY
      refine ⟨Y, _, rfl, .inl (sl_map upd_same), rfl, flat_strs _, ?_⟩
      rw [if_neg (by decide), in_strs]
      refine ⟨_, rfl, ite_both (fun c => ?_) fun c => ⟨_, rfl, s1.trans s2, rep_go inv hx (of_decide_eq_false c)⟩⟩
      have er := ref_rep (ls := es.map (·.2)) (way := way) n0 (rep_at inv hx (of_decide_eq_true c))
      refine ⟨by show 4 ≤ sizeLine; decide, fun k nk => ⟨_, rfl, _, rfl, a, _, _, .str x, rfl, rfl, sl_map (same_new nk _ _ (s2 _ _ e1)), at_eqS (by omega) hx', by show 2 ≤ sizeLine; decide, fun L nL => ?_⟩⟩
      exact made (r := .rep x) (s1.trans s2) (fun z => nomatch z) er nk nL
    rintro σ H1 ⟨y3, rfl, s1, inv⟩
    rw [List.length_map] at inv
    have rok := rep_end inv
    have el1 := s1 _ _ el
    refine ⟨_, rfl, l, _, rfl, .inl (sl_map el1), _, rfl, by omega, by rw [List.length_map]; omega, for_range (lo := 0) (n := (es.map fun e : LmE => V.ref e.1).length) (fun i σ H' => ∃ (y3 y4 : Option V), σ = [some (.ref a), some (.ref l), some (.int way), y3, y4, none] ∧ Same H H' ∧ (way = 1 → limF [] (es.map (·.2)) = limF (((es.map (·.2)).take i).map (·.1)) ((es.map (·.2)).drop i))) ⟨_, none, rfl, s1, fun _ => rfl⟩ ?_ ?_⟩
    · clear s1 el1 H1 y3 inv
      rintro i σ H1 hi ⟨y3, y4, rfl, s1, inv⟩
      rw [List.length_map] at hi
      obtain ⟨e, he⟩ : ∃ e, es[i]? = some e := ⟨_, List.getElem?_eq_getElem hi⟩
      have he' : (es.map fun e => V.ref e.1)[i]? = some (.ref e.1) := by rw [List.getElem?_map, he] <;> rfl
      have hl : (es.map (·.2))[i]? = some e.2 := by rw [List.getElem?_map, he] <;> rfl
      have el1 := s1 _ _ el
      have te := s1 _ _ (lt e (List.mem_of_getElem? he))
      refine ⟨_, rfl, _, rfl, l, _, _, .ref e.1, rfl, rfl, sl_map el1, at_eqS (by omega) he', ?_⟩
      have i0 : (0 : Int) + (i : Int) = (i : Int) := by omega
      have bad : way = 1 → (e.2.2.1 < 0 ∨ e.2.2.2 < e.2.2.1) → refOf ns (es.map (·.2)) way = .bounds e.2.2.1 e.2.2.2 := fun w h => by
        rw [w, ref_lim n0 rok, lim_bad (inv w) hl h]
      refine ⟨_, rfl, rfl, _, rfl, ite_both (fun w => ?_) fun w => ⟨_, rfl, rfl, _, rfl, ite_both (fun w2 => absurd (w2.symm.trans w) (by decide)) fun _ => ⟨_, _, rfl, s1, fun w2 => absurd (by rw [w2]) (of_decide_eq_false w)⟩⟩⟩
      have w1 : way = 1 := V.int.inj (of_decide_eq_true w)
      refine ⟨_, rfl, e.1, _, _, .int e.2.2.1, rfl, rfl, .inl (.inl te), atI_nat (j := 1) rfl, _, _, rfl, rfl, _, rfl, ite_both (fun c => ?_) fun c => ⟨_, rfl, e.1, _, _, .int e.2.2.1, rfl, rfl, .inl (.inl te), atI_nat (j := 1) rfl, _, rfl, e.1, _, _, .int e.2.2.2, rfl, rfl, .inl (.inl te), atI_nat (j := 2) rfl, _, _, rfl, rfl, _, rfl, ite_both (fun c2 => ?_) fun c2 => ?_⟩⟩
      · refine ⟨by show 4 ≤ sizeLine; decide, fun k nk => ?_⟩
        have te2 := same_new (o := HO.lst ((kinds (.bounds e.2.2.1 e.2.2.2)).map V.bl)) nk _ _ te
        refine ⟨_, rfl, e.1, _, _, .int e.2.2.1, rfl, rfl, .inl (.inl te2), atI_nat (j := 1) rfl, _, rfl, e.1, _, _, .int e.2.2.2, rfl, rfl, .inl (.inl te2), atI_nat (j := 2) rfl, by show 3 ≤ sizeLine; decide, fun L nL => ?_⟩
        exact made (r := .bounds e.2.2.1 e.2.2.2) s1 (fun z => nomatch z) (bad w1 (.inl (of_decide_eq_true c))) nk nL
      · refine ⟨by show 4 ≤ sizeLine; decide, fun k nk => ?_⟩
        have te2 := same_new (o := HO.lst ((kinds (.bounds e.2.2.1 e.2.2.2)).map V.bl)) nk _ _ te
        refine ⟨_, rfl, e.1, _, _, .int e.2.2.1, rfl, rfl, .inl (.inl te2), atI_nat (j := 1) rfl, _, rfl, e.1, _, _, .int e.2.2.2, rfl, rfl, .inl (.inl te2), atI_nat (j := 2) rfl, by show 3 ≤ sizeLine; decide, fun L nL => ?_⟩
        exact made (r := .bounds e.2.2.1 e.2.2.2) s1 (fun z => nomatch z) (bad w1 (.inr (of_decide_eq_true c2))) nk nL
      have nb : ¬ (e.2.2.1 < 0 ∨ e.2.2.2 < e.2.2.1) := fun z => z.elim (of_decide_eq_false c) (of_decide_eq_false c2)
      refine ⟨_, rfl, rfl, _, rfl, ite_both (fun _ => ?_) fun w2 => absurd (w.symm.trans w2) (by decide)⟩
      refine ⟨_, rfl, e.1, _, _, .int e.2.1, rfl, rfl, .inl (.inl te), atI_nat (j := 0) rfl, _, rfl, _, rfl, _, rfl, l, _, rfl, sl_map el1, fun Y nY => ?_⟩
      rw [show cutV (es.map fun e => V.ref e.1) none (some (0 + (i : Int))) = (es.take i).map fun e => V.ref e.1 by rw [Int.zero_add, cutV_to, List.map_take]]
      have s2 := same_new (o := HO.lst ((es.take i).map fun e => V.ref e.1)) nY
      refine ⟨Y, rfl, ⟨_, sl_map upd_same⟩, fun Z nZ => lc_list (xs := (es.take i).map fun e => V.ref e.1) (fun j H' => Same (upd H1 Y (.lst ((es.take i).map fun e => V.ref e.1))) H' ∧ H' Z = some (.lst ((((es.take i).take j).map (·.2.1)).map V.int))) ⟨same_new nZ, upd_same⟩ (fun j H' _ h => sl_map (h.1 _ _ upd_same)) ?_ ?_⟩
      · rintro j x0 H2 hx ⟨s3, eZ⟩
        rw [List.getElem?_map] at hx
        obtain ⟨u, hu1, rfl⟩ := Option.map_eq_some_iff.mp hx
        have um := List.mem_of_mem_take (List.mem_of_getElem? hu1)
        have tu := s3 _ _ (s2 _ _ (s1 _ _ (lt u um)))
        have hj := (List.getElem?_eq_some_iff.mp hu1).1
        rw [List.length_take] at hj
        refine ⟨rfl, _, rfl, u.1, _, _, .int u.2.1, rfl, rfl, .inl (.inl tu), atI_nat (j := 0) rfl, _, eZ, by rw [List.length_map, List.length_map, List.length_take, List.length_take]; exact small1000 (by omega), same_at s3 nZ, ?_⟩
        rw [upd_same, take_snoc hu1, List.map_append, List.map_append] <;> rfl
      rintro H2 ⟨s3, eZ⟩
      rw [List.length_map, List.take_length] at eZ
      have S2 := s1.trans (s2.trans s3)
      have em : (es.take i).map (·.2.1) = ((es.map (·.2)).take i).map (·.1) := by rw [← List.map_take, List.map_map] <;> rfl
      refine ⟨Z, _, rfl, .inl (sl_map eZ), rfl, flat_ints _, ?_⟩
      rw [if_neg (by decide), in_ints, em]
      refine ⟨_, rfl, ite_both (fun c3 => ?_) fun c3 => ⟨_, _, rfl, S2, fun w2 => lim_go (inv w2) hl nb (of_decide_eq_false c3)⟩⟩
      have er : refOf ns (es.map (·.2)) way = .repv e.2.1 := by rw [w1, ref_lim n0 rok, lim_rep (inv w1) hl nb (of_decide_eq_true c3)]
      have te3 := s3 _ _ (s2 _ _ te)
      refine ⟨by show 4 ≤ sizeLine; decide, fun k nk => ?_⟩
      have te2 := same_new (o := HO.lst ((kinds (.repv e.2.1)).map V.bl)) nk _ _ te3
      refine ⟨_, rfl, e.1, _, _, .int e.2.1, rfl, rfl, .inl (.inl te2), atI_nat (j := 0) rfl, by show 2 ≤ sizeLine; decide, fun L nL => ?_⟩
      exact made (r := .repv e.2.1) S2 (fun z => nomatch z) er nk nL
    · rintro σ H1 ⟨y3, y4, rfl, s1, inv⟩
      rw [List.length_map] at inv
      refine q _ _ s1 (.inl ⟨?_, rfl⟩)
      by_cases w1 : way = 1
      · rw [w1, ref_lim n0 rok]
        have h := inv w1
        rw [show es.length = (es.map (·.2)).length by rw [List.length_map]] at h
        exact lim_end h
      · exact ref_ok n0 rok w1
abbrev sSrf : Stmt := topS 50
abbrev nSrf : List Str := ["_law_told", "_law_due_here", "_law_k"]
theorem scSrf : FnScope nSrf ["_law_told", "_law_due_here"] (defScope sSrf) := ⟨rfl, rfl, rfl, by decide +kernel, rfl, by decide +kernel, by decide +kernel⟩
def spSrf : Sp := fun vs H Q _ => ∃ (v u : V) (r : Rf), vs = [v, u] ∧ Told H v r ∧ Told H u r ∧ Q (.bl true) H
theorem ok_Srf {f f0 : Addr} {fd fd0 : FuncData} (F : Fun K "_law_same_refusal" "_law_same_refusal" sSrf f fd) (B : Bt mg) (zstr : mg "str" = none) (Cii : Call P w K mg base 1 "_law_is_integer" f0 fd0 ["_law_actual"] spIsInt) :
    FnOk P w K mg base CX0 2 f fd ["_law_told", "_law_due_here"] spSrf := by
  refine F.ok scSrf (fun vs H Q E h => ?_) (fun cdv A outer s H vs Q E hr h => ?_)
  · obtain ⟨v, u, r, rfl, _⟩ := h
    rfl
  · obtain ⟨v, u, r, rfl, tv, tu, q⟩ := h
    have hu := hu_of hr
    have nd := scSrf.nd
    refine ⟨_, pss_cons (ps_if (PW.pt (pw_or (pt_cmp (pc_isN (pv 0))) (pw_or1 (pt_cmp (pc_isN (pv 1))))))
        (pss_one (ps_ret (pe_and (pe_cmp (pc_isN (pv 0)) rfl) (pe_one (pe_cmp (pc_isN (pv 1)) rfl)))))
        pss_nil)
      (pss_cons (ps_if (pt_cmpR op_ne (pe_callB call_len_seq (by rfl) B.len PySem.boot_len (pa_cons (pv 0) pa_nil)) (pe_callB call_len_seq (by rfl) B.len PySem.boot_len (pa_cons (pv 1) pa_nil)) rfl)
        (pss_one (ps_ret pe_bl))
        pss_nil)
      (pss_cons (ps_for PassesOwn.never rfl (pi_range2 (by rfl) B.range (pa_cons pe_int (pa_cons (pe_callB call_len_seq (by rfl) B.len PySem.boot_len (pa_cons (pv 0) pa_nil)) pa_nil))) (pg_name (i := 2) nd rfl (.inl rfl))
        (pss_one (ps_if (PW.pt (pw_and (pt_not (pt_val (pe_callB call_isi (by rfl) B.isi PyProof.Rows.boot_isinstance (pa_cons (pe_ix ix_list (pv 0) (pv 2) (fun _ _ => rfl)) (pa_cons (pe_bltn (by rfl) zstr PyProof.Rows.boot_str (v := .ty "str") rfl) pa_nil))))) (pw_and1 (pt_not (pt_val (pe_call Cii.ok (hr.mono (by decide)) (by rfl) Cii.at_ Cii.kp Cii.bd .nil pass0 (pa_cons (pe_ix ix_list (pv 0) (pv 2) (fun _ _ => rfl)) pa_nil)))))))
            (pss_one (ps_ret pe_bl))
            pss_nil)))
      (pss_one (ps_ret (pe_cmpR (op_eqV hr.units) (pv 0) (pv 1) rfl))))), ?_⟩
    rcases tv with ⟨r1, rfl⟩ | ⟨r1, l, k, rfl, el, ek⟩
    · rcases tu with ⟨r2, rfl⟩ | ⟨r2, _⟩
      · refine ⟨_, rfl, _, rfl, ite_both (fun _ => ?_) fun c => absurd c (by simp)⟩
        exact ⟨_, rfl, true, rfl, ite_both (fun _ => ⟨_, rfl, q⟩) fun c => absurd c (by simp)⟩
      · exact absurd r1 r2
    rcases tu with ⟨r2, _⟩ | ⟨r2, m, k', rfl, em, ek'⟩
    · exact absurd r2 r1
    refine ⟨_, rfl, _, rfl, ite_both (fun c => absurd c (by simp)) fun _ => ⟨_, rfl, _, rfl, ite_both (fun c => absurd c (by simp)) fun _ => ?_⟩⟩
    refine ⟨_, rfl, l, _, rfl, .inl (.inl (.inl el)), _, rfl, m, _, rfl, .inl (.inl (.inl em)), rfl, _, rfl, ite_both (fun c => absurd c (by simp)) fun _ => ?_⟩
    have lf : (flds r).length ≤ 2 := by cases r <;> simp [flds]
    refine ⟨_, rfl, l, _, rfl, .inl (.inl (.inl el)), 1, _, rfl, by constructor <;> simp <;> omega, for_range (lo := 1) (n := (((V.ref k :: flds r).length : Int) - 1).toNat) (fun i σ H' => ∃ (y2 : Option V), σ = [some (.ref l), some (.ref m), y2] ∧ H' = H) ⟨none, rfl, rfl⟩ ?_ ?_⟩
    · rintro i σ H1 hi ⟨y2, rfl, rfl⟩
      have hi2 : i < (flds r).length := by rw [List.length_cons] at hi; omega
      obtain ⟨x, hx⟩ : ∃ x, (flds r)[i]? = some x := ⟨_, List.getElem?_eq_getElem hi2⟩
      have hx' : (V.ref k :: flds r)[i + 1]? = some x := by rw [List.getElem?_cons_succ]; exact hx
      have xs : (∃ z, x = .str z) ∨ ∃ z, x = .int z := by
        have m := List.mem_of_getElem? hx
        cases r with
        | ok => cases m
        | empty => cases m
        | rep z => exact .inl ⟨z, List.mem_singleton.mp m⟩
        | bounds lo hi =>
          rcases List.mem_cons.mp m with h | h
          · exact .inr ⟨_, h⟩
          · exact .inr ⟨_, List.mem_singleton.mp h⟩
        | repv z => exact .inr ⟨z, List.mem_singleton.mp m⟩
      rcases xs with ⟨z, rfl⟩ | ⟨z, rfl⟩
      · exact ⟨_, rfl, _, rfl, l, _, _, .str z, rfl, rfl, .inl (.inl el), at_eqS (by omega) hx', .str z, .ty "str", .type "str", .type "str", true, rfl, .ty _, .base (.str _), kit_ty (by decide +kernel), true, rfl, iteF ⟨_, rfl, rfl⟩⟩
      · refine ⟨_, rfl, _, rfl, l, _, _, .int z, rfl, rfl, .inl (.inl el), at_eqS (by omega) hx', .int z, .ty "str", .type "int", .type "str", false, rfl, .ty _, .base (.int _), kit_ty (by decide +kernel), false, rfl, iteT ?_⟩
        exact ⟨_, rfl, _, rfl, l, _, _, .int z, rfl, rfl, .inl (.inl el), at_eqS (by omega) hx', z, rfl, true, rfl, iteF ⟨_, rfl, rfl⟩⟩
    · rintro σ H1 ⟨y2, rfl, rfl⟩
      refine ⟨_, rfl, _, rfl, 2, by decide, .inl ⟨l, m, _, _, rfl, rfl, .inl (.inl el), .inl (.inl em), .cons (.inr (.inr (.inl ⟨k, k', _, _, rfl, rfl, (.inl (.inl ek)), (.inl (.inl ek')), paired_bls _⟩))) (paired_flds r)⟩, q⟩
abbrev sSnd : Stmt := topS 51
abbrev nSnd : List Str := ["_law_entries_here", "_law_sound", "_law_entry", "_law_earlier"]
theorem scSnd : FnScope nSnd ["_law_entries_here"] (defScope sSnd) := ⟨rfl, rfl, rfl, by decide +kernel, rfl, by decide +kernel, by decide +kernel⟩
def spSnd : Sp := fun vs H Q _ => ∃ (l : Addr) (es : List LmE), vs = [.ref l] ∧ H l = some (.lst (es.map fun e => V.ref e.1)) ∧ LmT H es ∧ es.length ≤ 100 ∧
  ∀ (H' : Hp) (r : Addr) (fs : List LmE), Same H H' → H r = none → H' r = some (.lst (fs.map fun e => V.ref e.1)) → (∀ e ∈ fs, e ∈ es) → Sound (fs.map (·.2)) → fs.length ≤ es.length → Q (.ref r) H'
theorem ok_Snd {f  : Addr} {fd  : FuncData} (F : Fun K "_law_sound_entries" "_law_sound_entries" sSnd f fd) (B : Bt mg) :
    FnOk P w K mg base CX0 1 f fd ["_law_entries_here"] spSnd := by
  refine F.ok scSnd (fun vs H Q E h => ?_) (fun cdv A outer s H vs Q E hr h => ?_)
  · obtain ⟨l, es, rfl, _⟩ := h
    rfl
  · obtain ⟨l, es, rfl, el, lt, few, q⟩ := h
    have hu := hu_of hr
    have nd := scSnd.nd
    refine ⟨_, pss_cons (ps_set (i := 1) nd rfl (.inl rfl) (pe_lst pa_nil))
      (pss_cons (ps_for PassesOwn.never rfl (pi_list (pv 0)) (pg_name (i := 2) nd rfl (.inl rfl))
        (pss_one (ps_if (PW.pt (pw_and (pt_cmpR op_ge (pe_ix ix_tup (pv 2) pe_int (fun _ _ => rfl)) pe_int rfl) (pw_and (pt_cmpR op_le (pe_ix ix_tup (pv 2) pe_int (fun _ _ => rfl)) (pe_ix ix_tup (pv 2) pe_int (fun _ _ => rfl)) rfl) (pw_and1 (pt_cmpR (r := rIn K true) op_notIn_seq (pe_ix ix_tup (pv 2) pe_int (fun _ _ => rfl)) (pe_lc (own := [("_law_earlier", 3)]) (g := gName 3) (tt := tYes)  rfl nd (pi_list (pv 1)) (blkOk_by (N := nSnd) (sc := defScope sSnd) (by decide +kernel)) (fun _ _ _ _ _ => pg_name (i := 3) nd rfl (.inl rfl)) (fun _ _ _ _ _ => pts_nil)
        (fun _ _ _ _ _ => (pe_ix (r := rIxT K) ix_tup (pv 3) pe_int (fun _ _ => rfl)))) rfl)))))
            (pss_one (ps_expr (pe_bm PySem.F.plainAttrs_list PySem.F.slot_list_append PySem.F.type_list_append mt_append (pv 1) (pa_cons (pv 2) pa_nil))))
            pss_nil)))
      (pss_one (ps_ret (pv 1)))), ?_⟩
    refine ⟨by show 0 ≤ sizeLine; decide, fun r nr => ?_⟩
    have s0 := same_new (o := HO.lst []) nr
    refine ⟨_, rfl, l, rfl, ⟨_, sl_map (s0 _ _ el)⟩, for_list (xs := es.map fun e => V.ref e.1) (fun i σ H' => ∃ (fs : List LmE) (y2 : Option V), σ = [some (.ref l), some (.ref r), y2, none] ∧ Same H H' ∧ H' r = some (.lst (fs.map fun e => V.ref e.1)) ∧ (∀ e ∈ fs, e ∈ es) ∧ Sound (fs.map (·.2)) ∧ fs.length ≤ i)
      ⟨[], none, rfl, s0, upd_same, (fun _ h => nomatch h), ⟨List.Pairwise.nil, fun _ h => nomatch h⟩, Nat.le_refl _⟩ (fun i σ H' _ h => by obtain ⟨_, _, _, h, _⟩ := h; exact sl_map (h _ _ el)) ?_ ?_⟩
    · rintro i x0 σ H1 hx ⟨fs, y2, rfl, s1, er, sub, snd, lf⟩
      rw [List.getElem?_map] at hx
      obtain ⟨e, he, rfl⟩ := Option.map_eq_some_iff.mp hx
      have em := List.mem_of_getElem? he
      have hi := (List.getElem?_eq_some_iff.mp he).1
      have te := s1 _ _ (lt e em)
      refine ⟨_, rfl, e.1, _, _, .int e.2.2.1, rfl, rfl, .inl (.inl te), atI_nat (j := 1) rfl, _, _, rfl, rfl, _, rfl, ite_both (fun c1 => ?_) fun _ => ⟨fs, _, rfl, s1, er, sub, snd, by omega⟩⟩
      refine ⟨_, rfl, e.1, _, _, .int e.2.2.1, rfl, rfl, .inl (.inl te), atI_nat (j := 1) rfl, _, rfl, e.1, _, _, .int e.2.2.2, rfl, rfl, .inl (.inl te), atI_nat (j := 2) rfl, _, _, rfl, rfl, _, rfl, ite_both (fun c2 => ?_) fun _ => ⟨fs, _, rfl, s1, er, sub, snd, by omega⟩⟩
      refine ⟨_, rfl, e.1, _, _, .int e.2.1, rfl, rfl, .inl (.inl te), atI_nat (j := 0) rfl, _, rfl, r, rfl, ⟨_, sl_map er⟩, fun Z nZ => lc_list (xs := fs.map fun e => V.ref e.1) (fun j H' => Same H1 H' ∧ H' Z = some (.lst (((fs.take j).map (·.2.1)).map V.int))) ⟨same_new nZ, upd_same⟩ (fun j H' _ h => sl_map (h.1 _ _ er)) ?_ ?_⟩
      · rintro j x0 H2 hx ⟨s3, eZ⟩
        rw [List.getElem?_map] at hx
        obtain ⟨u, hu1, rfl⟩ := Option.map_eq_some_iff.mp hx
        have um := sub u (List.mem_of_getElem? hu1)
        have tu := s3 _ _ (s1 _ _ (lt u um))
        have hj := (List.getElem?_eq_some_iff.mp hu1).1
        refine ⟨rfl, _, rfl, u.1, _, _, .int u.2.1, rfl, rfl, .inl (.inl tu), atI_nat (j := 0) rfl, _, eZ, by rw [List.length_map, List.length_map, List.length_take]; exact small1000 (by omega), same_at s3 nZ, ?_⟩
        rw [upd_same, take_snoc hu1, List.map_append, List.map_append] <;> rfl
      rintro H2 ⟨s3, eZ⟩
      rw [List.length_map, List.take_length] at eZ
      refine ⟨Z, _, rfl, .inl (sl_map eZ), rfl, flat_ints _, ?_⟩
      rw [if_pos rfl, in_ints]
      refine ⟨_, rfl, ite_both (fun c3 => ?_) fun _ => ⟨fs, _, rfl, s1.trans s3, s3 _ _ er, sub, snd, by omega⟩⟩
      have c3' : e.2.1 ∉ fs.map (·.2.1) := fun z => by rw [decide_eq_true z] at c3; cases c3
      have c1' := of_decide_eq_true c1
      have c2' := of_decide_eq_true c2
      have er3 := s3 _ _ er
      refine ⟨_, rfl, .inl ⟨rfl, _, sl_map er3⟩, _, rfl, r, _, _, rfl, rfl, er3, by rw [List.length_map]; exact small1000 (by omega), fs ++ [e], _, rfl, same_at (s1.trans s3) nr, by rw [upd_same, List.map_append] <;> rfl, fun u hu => ?_, ?_, by rw [List.length_append]; exact Nat.succ_le_succ lf⟩
      · rcases List.mem_append.mp hu with h | h
        · exact sub u h
        · rw [List.mem_singleton.mp h]; exact em
      · refine ⟨?_, fun u hu => ?_⟩
        · rw [List.map_append, List.map_append, List.nodup_append]
          refine ⟨snd.1, List.pairwise_singleton _ _, fun x hx y hy => ?_⟩
          rw [List.map_map] at hx
          rw [show y = e.2.1 from List.mem_singleton.mp hy]
          exact fun z => c3' (z ▸ hx)
        · rw [List.map_append] at hu
          rcases List.mem_append.mp hu with h | h
          · exact snd.2 u h
          · rw [show u = e.2 from List.mem_singleton.mp h]; exact ⟨c1', c2'⟩
    · rintro σ H1 ⟨fs, y2, rfl, s1, er, sub, snd, lf⟩
      rw [List.length_map] at lf
      exact ⟨_, rfl, q _ r fs s1 nr er sub snd lf⟩
end
end K23
set_option Elab.async false
set_option linter.all false
set_option maxRecDepth 100000
set_option maxHeartbeats 4000000
namespace K23
open PySem PySem.Spec PyProof.Rows L2 Cs CsX
theorem keep_tup' {H H' : Hp} {s b : Addr} {xs : List V} (st : Strm H s) (k : Keep s H H') (h : H b = some (.tup xs)) : H' b = some (.tup xs) := k _ _ (fun z => by
  obtain ⟨x, y, w, e⟩ := st
  rw [z, e] at h; cases h) h
/-- entries in the making -/
structure En (H H' : Hp) (s vl E0 : Addr) (zs : List Int) (es : List LmE) : Prop where
  k : Keep s H H'
  st : Strm H' s
  vs : vl ≠ s
  e0 : E0 ≠ s
  ev : H' vl = some (.lst (zs.map V.int))
  ee : H' E0 = some (.lst (es.map fun e => V.ref e.1))
  lt : LmT H' es
theorem En.oth {H H1 H2 : Hp} {s vl E0 : Addr} {zs : List Int} {es : List LmE} (g : En H H1 s vl E0 zs es) (o : Oth s H1 H2) (st : Strm H2 s) : En H H2 s vl E0 zs es :=
  ⟨g.k.oth o, st, g.vs, g.e0, (o _ g.vs).trans g.ev, (o _ g.e0).trans g.ee, fun e he => keep_tup' g.st ((Keep.refl _ _).oth o) (g.lt e he)⟩
theorem En.new {H H1 : Hp} {s vl E0 t : Addr} {zs : List Int} {es : List LmE} {o : HO} (g : En H H1 s vl E0 zs es) (n : H1 t = none) : En H (upd H1 t o) s vl E0 zs es := by
  have sn := same_new (o := o) n
  obtain ⟨x, y, w, e⟩ := g.st
  exact ⟨g.k.trans (Keep.same sn), ⟨x, y, w, sn _ _ e⟩, g.vs, g.e0, sn _ _ g.ev, sn _ _ g.ee, g.lt.same sn⟩
section
variable {P : Program} {w : World} {K : PySem.W.Frag} {mg : Str → Option Value} {base : Heap}
abbrev sRep : Stmt := topS 46
abbrev nRep : List Str := ["_law_stream_here", "_law_names_here", "_law_most", "_law_turn", "_law_at"]
theorem scRep : FnScope nRep ["_law_stream_here", "_law_names_here", "_law_most"] (defScope sRep) := ⟨rfl, rfl, rfl, by decide +kernel, rfl, by decide +kernel, by decide +kernel⟩
def spRep : Sp := fun vs H Q _ => ∃ (s a : Addr) (m : Nat) (ns : List Str), vs = [.ref s, .ref a, .int (m : Int)] ∧ Strm H s ∧ H a = some (.lst (ns.map V.str)) ∧ a ≠ s ∧ ns.length ≤ 20 ∧ m ≤ 10 ∧
  ∀ (H' : Hp) (l : Addr) (zs : List Str), Keep s H H' → Strm H' s → l ≠ s → H' l = some (.lst (zs.map V.str)) → zs.length ≤ ns.length + m → Q (.ref l) H'
theorem ok_Rep {f f0 : Addr} {fd fd0 : FuncData} (F : Fun K "_law_repeated" "_law_repeated" sRep f fd) (B : Bt mg) (D : Call P w K mg base 1 "_law_next" f0 fd0 ["_law_stream_here", "_law_size"] spDraw) :
    FnOk P w K mg base CX0 2 f fd ["_law_stream_here", "_law_names_here", "_law_most"] spRep := by
  refine F.ok scRep (fun vs H Q E h => ?_) (fun cdv A outer s H vs Q E hr h => ?_)
  · obtain ⟨s, a, m, ns, rfl, _⟩ := h
    rfl
  · obtain ⟨s, a, m, ns, rfl, hs, en, as, few, m10, q⟩ := h
    have hu := hu_of hr
    have nd := scRep.nd
    refine ⟨_, pss_cons (ps_for PassesOwn.never rfl (pi_range1 (by rfl) B.range (pa_cons (pe_call D.ok (hr.mono (by decide)) (by rfl) D.at_ D.kp D.bd .nil pass0 (pa_cons (pv 0) (pa_cons (pe_op op_add (pv 2) pe_int) pa_nil))) pa_nil)) (pg_name (i := 3) nd rfl (.inl rfl))
        (pss_one (ps_if (pt_cmpR op_gt (pe_callB call_len_seq (by rfl) B.len PySem.boot_len (pa_cons (pv 1) pa_nil)) pe_int rfl)
            (pss_cons (ps_set (i := 4) nd rfl (.inl rfl) (pe_call D.ok (hr.mono (by decide)) (by rfl) D.at_ D.kp D.bd .nil pass0 (pa_cons (pv 0) (pa_cons (pe_op op_add (pe_callB call_len_seq (by rfl) B.len PySem.boot_len (pa_cons (pv 1) pa_nil)) pe_int) pa_nil))))
              (pss_one (ps_set (i := 1) nd rfl (.inl rfl) (pe_op op_cat (pe_op op_cat (pe_slice sl_list (pv 1) po_none (po_some (pv 4))) (pe_lst (pa_cons (pe_ix ix_list (pv 1) (pe_call D.ok (hr.mono (by decide)) (by rfl) D.at_ D.kp D.bd .nil pass0 (pa_cons (pv 0) (pa_cons (pe_callB call_len_seq (by rfl) B.len PySem.boot_len (pa_cons (pv 1) pa_nil)) pa_nil))) (fun _ _ => rfl)) pa_nil))) (pe_slice sl_list (pv 1) (po_some (pv 4)) po_none)))))
            pss_nil)))
      (pss_one (ps_ret (pv 1))), ?_⟩
    refine ⟨_, rfl, _, rfl, (m : Int), 1, rfl, rfl, s, (m : Int) + 1, rfl, hs, by omega, by omega, fun H1 t o1 st1 t0 t1 => ?_⟩
    have k1 : Keep s H H1 := (Keep.refl _ _).oth o1
    refine ⟨_, rfl, by omega, by omega, for_range (lo := 0) (n := t.toNat) (fun i σ H' => ∃ (R : Addr) (zs : List Str) (y3 y4 : Option V), σ = [some (.ref s), some (.ref R), some (.int (m : Int)), y3, y4] ∧ Keep s H H' ∧ Strm H' s ∧ R ≠ s ∧ H' R = some (.lst (zs.map V.str)) ∧ zs.length ≤ ns.length + i)
      ⟨a, ns, none, none, rfl, k1, st1, as, k1 _ _ as en, Nat.le_refl _⟩ ?_ ?_⟩
    · clear k1 st1 o1 H1
      rintro i σ H1 hi ⟨R, zs, y3, y4, rfl, k1, st1, Rs, eR, le⟩
      refine ⟨_, rfl, R, _, rfl, .inl (sl_map eR), _, _, rfl, rfl, _, rfl, ite_both (fun c => ?_) fun _ => ⟨R, zs, _, y4, rfl, k1, st1, Rs, eR, by omega⟩⟩
      have z1 : 1 ≤ zs.length := by
        have := of_decide_eq_true c
        rw [List.length_map] at this
        omega
      have lz : (zs.map V.str).length = zs.length := List.length_map _
      refine ⟨_, rfl, _, rfl, R, _, rfl, .inl (sl_map eR), _, _, rfl, rfl, s, _, rfl, st1, by rw [lz]; omega, by rw [lz]; omega, fun H2 b o2 st2 b0 b1 => ?_⟩
      rw [lz] at b1
      obtain ⟨j, rfl⟩ : ∃ j : Nat, b = (j : Int) := ⟨b.toNat, by omega⟩
      have k2 := k1.oth o2
      have eR2 := (o2 _ Rs).trans eR
      refine ⟨_, rfl, _, rfl, _, rfl, R, _, rfl, sl_map eR2, fun b1 n1 => ?_⟩
      rw [cutV_to, ← List.map_take]
      have b1s : b1 ≠ s := fun z => st2.some (z ▸ n1)
      have k3 := k2.trans (Keep.same (same_new (o := HO.lst ((zs.take j).map V.str)) n1))
      have st3 : Strm (upd H2 b1 (.lst ((zs.take j).map V.str))) s := st2.upd b1s.symm
      have eR3 := same_new (o := HO.lst ((zs.take j).map V.str)) n1 _ _ eR2
      have e1 : (upd H2 b1 (.lst ((zs.take j).map V.str))) b1 = some (.lst ((zs.take j).map V.str)) := upd_same
      generalize upd H2 b1 (.lst ((zs.take j).map V.str)) = H3 at k3 st3 eR3 e1 ⊢
      refine ⟨_, rfl, _, rfl, _, rfl, R, _, rfl, .inl (sl_map eR3), s, _, rfl, st3, by rw [lz]; omega, by rw [lz]; omega, fun H4 y o4 st4 y0 y1 => ?_⟩
      rw [lz] at y1
      obtain ⟨d, rfl⟩ : ∃ d : Nat, y = (d : Int) := ⟨y.toNat, by omega⟩
      obtain ⟨x, hx⟩ : ∃ x, zs[d]? = some x := ⟨_, List.getElem?_eq_getElem (by omega)⟩
      have k4 := k3.oth o4
      have eR4 := (o4 _ Rs).trans eR3
      have e14 := (o4 _ b1s).trans e1
      refine ⟨R, _, _, .str x, rfl, rfl, sl_map eR4, atI_nat (j := d) (by rw [List.getElem?_map, hx] <;> rfl), by show 1 ≤ sizeLine; decide, fun b2 n2 => ?_⟩
      have t2 := same_new (o := HO.lst [V.str x]) n2
      refine ⟨b1, b2, _, _, rfl, rfl, t2 _ _ e14, upd_same, by rw [List.length_map, List.length_take]; exact Nat.le_of_lt (small1000 (by show _ + 1 ≤ 1000; omega)), fun b3 n3 => ?_⟩
      rw [show (zs.take j).map V.str ++ [V.str x] = (zs.take j ++ [x]).map V.str by rw [List.map_append] <;> rfl]
      have t3 := t2.trans (same_new (o := HO.lst ((zs.take j ++ [x]).map V.str)) n3)
      have e3 : (upd (upd H4 b2 (.lst [V.str x])) b3 (.lst ((zs.take j ++ [x]).map V.str))) b3 = some (.lst ((zs.take j ++ [x]).map V.str)) := upd_same
      generalize upd (upd H4 b2 (.lst [V.str x])) b3 (.lst ((zs.take j ++ [x]).map V.str)) = H5 at t3 e3 ⊢
      refine ⟨_, rfl, _, rfl, _, rfl, R, _, rfl, sl_map (t3 _ _ eR4), fun b4 n4 => ?_⟩
      rw [cutV_from, ← List.map_drop]
      have t4 := same_new (o := HO.lst ((zs.drop j).map V.str)) n4
      refine ⟨b3, b4, _, _, rfl, rfl, t4 _ _ e3, upd_same, by rw [List.length_map, List.length_map, List.length_append, List.length_take, List.length_drop]; exact Nat.le_of_lt (small1000 (by show _ + 1 + _ ≤ 1000; omega)), fun b5 n5 => ?_⟩
      rw [← List.map_append]
      have t5 := t3.trans (t4.trans (same_new (o := HO.lst ((zs.take j ++ [x] ++ zs.drop j).map V.str)) n5))
      have k5 := k4.trans (Keep.same t5)
      have st5 : Strm (upd (upd H5 b4 (.lst ((zs.drop j).map V.str))) b5 (.lst ((zs.take j ++ [x] ++ zs.drop j).map V.str))) s := by
        obtain ⟨x, y, w, e⟩ := st4
        exact ⟨x, y, w, t5 _ _ e⟩
      refine ⟨b5, zs.take j ++ [x] ++ zs.drop j, _, _, rfl, k5, st5, fun z => ?_, upd_same, ?_⟩
      · obtain ⟨x, y, w, e⟩ := st4
        have := t4 _ _ (t3 _ _ e)
        rw [← z, n5] at this; cases this
      · rw [List.length_append, List.length_append, List.length_take, List.length_drop]
        show _ + 1 + _ ≤ _
        omega
    · rintro σ H1 ⟨R, zs, y3, y4, rfl, k1, st1, Rs, eR, le⟩
      exact ⟨_, rfl, q _ R zs k1 st1 Rs eR (by omega)⟩
abbrev sEnt : Stmt := topS 47
abbrev nEnt : List Str := ["_law_stream_here", "_law_pool_here", "_law_values", "_law_unlike", "_law_sound", "_law_entries_here", "_law_k", "_law_value", "_law_way", "_law_fewest", "_law_most"]
theorem scEnt : FnScope nEnt ["_law_stream_here", "_law_pool_here"] (defScope sEnt) := ⟨rfl, rfl, rfl, by decide +kernel, rfl, by decide +kernel, by decide +kernel⟩
def spEnt : Sp := fun vs H Q _ => ∃ (s pl : Addr) (ps : List Int), vs = [.ref s, .ref pl] ∧ Strm H s ∧ H pl = some (.lst (ps.map V.int)) ∧ pl ≠ s ∧ ps.length = 5 ∧
  ∀ (H' : Hp) (l : Addr) (es : List LmE), Keep s H H' → H l = none → Strm H' s → l ≠ s → H' l = some (.lst (es.map fun e => V.ref e.1)) → LmT H' es → es.length ≤ 5 → Q (.ref l) H'
theorem ok_Ent {f f0 f1 : Addr} {fd fd0 fd1 : FuncData} (F : Fun K "_law_entries" "_law_entries" sEnt f fd) (B : Bt mg) (CSf : Call P w K mg base 2 "_law_shuffled" f0 fd0 ["_law_stream_here", "_law_things"] spSf) (D : Call P w K mg base 1 "_law_next" f1 fd1 ["_law_stream_here", "_law_size"] spDraw) :
    FnOk P w K mg base CX0 3 f fd ["_law_stream_here", "_law_pool_here"] spEnt := by
  refine F.ok scEnt (fun vs H Q E h => ?_) (fun cdv A outer s H vs Q E hr h => ?_)
  · obtain ⟨s, pl, ps, rfl, _⟩ := h
    rfl
  · obtain ⟨s, pl, ps, rfl, hs, ep, pls, p5, q⟩ := h
    have hu := hu_of hr
    have nd := scEnt.nd
    refine ⟨_, pss_cons (ps_set (i := 2) nd rfl (.inl rfl) (pe_call CSf.ok (hr.mono (by decide)) (by rfl) CSf.at_ CSf.kp CSf.bd .nil pass0 (pa_cons (pv 0) (pa_cons (pv 1) pa_nil))))
      (pss_cons (ps_set (i := 3) nd rfl (.inl rfl) (pe_cmpR op_eq (pe_call D.ok (hr.mono (by decide)) (by rfl) D.at_ D.kp D.bd .nil pass0 (pa_cons (pv 0) (pa_cons pe_int pa_nil))) pe_int rfl))
      (pss_cons (ps_set (i := 4) nd rfl (.inl rfl) (pe_cmpR op_eq (pe_call D.ok (hr.mono (by decide)) (by rfl) D.at_ D.kp D.bd .nil pass0 (pa_cons (pv 0) (pa_cons pe_int pa_nil))) pe_int rfl))
      (pss_cons (ps_set (i := 5) nd rfl (.inl rfl) (pe_lst pa_nil))
      (pss_cons (ps_for PassesOwn.never rfl (pi_range1 (by rfl) B.range (pa_cons (pe_call D.ok (hr.mono (by decide)) (by rfl) D.at_ D.kp D.bd .nil pass0 (pa_cons (pv 0) (pa_cons pe_int pa_nil))) pa_nil)) (pg_name (i := 6) nd rfl (.inl rfl))
        (pss_cons (ps_set (i := 7) nd rfl (.inl rfl) (pe_ix ix_list (pv 2) (pv 6) (fun _ _ => rfl)))
          (pss_cons (ps_if (pt_not (pt_val (pv 3)))
            (pss_one (ps_set (i := 7) nd rfl (.inl rfl) (pe_ix ix_list (pv 1) (pe_call D.ok (hr.mono (by decide)) (by rfl) D.at_ D.kp D.bd .nil pass0 (pa_cons (pv 0) (pa_cons (pe_callB call_len_seq (by rfl) B.len PySem.boot_len (pa_cons (pv 1) pa_nil)) pa_nil))) (fun _ _ => rfl))))
            pss_nil)
          (pss_cons (ps_set (i := 8) nd rfl (.inl rfl) (pe_call D.ok (hr.mono (by decide)) (by rfl) D.at_ D.kp D.bd .nil pass0 (pa_cons (pv 0) (pa_cons pe_int pa_nil))))
          (pss_cons (ps_set (i := 9) nd rfl (.inl rfl) (pe_call D.ok (hr.mono (by decide)) (by rfl) D.at_ D.kp D.bd .nil pass0 (pa_cons (pv 0) (pa_cons pe_int pa_nil))))
          (pss_cons (ps_set (i := 10) nd rfl (.inl rfl) (pe_op op_add (pv 9) (pe_call D.ok (hr.mono (by decide)) (by rfl) D.at_ D.kp D.bd .nil pass0 (pa_cons (pv 0) (pa_cons pe_int pa_nil)))))
          (pss_cons (ps_if (PW.pt (pw_and (pt_cmpR op_eq (pv 8) pe_int rfl) (pw_and1 (pt_not (pt_val (pv 4))))))
            (pss_one (ps_set (i := 9) nd rfl (.inl rfl) (pe_op op_sub (pe_op op_sub pe_int pe_int) (pv 9))))
            pss_nil)
          (pss_cons (ps_if (PW.pt (pw_and (pt_cmpR op_eq (pv 8) pe_int rfl) (pw_and1 (pt_not (pt_val (pv 4))))))
            (pss_one (ps_set (i := 10) nd rfl (.inl rfl) (pe_op op_sub (pe_op op_sub (pv 9) pe_int) (pe_call D.ok (hr.mono (by decide)) (by rfl) D.at_ D.kp D.bd .nil pass0 (pa_cons (pv 0) (pa_cons pe_int pa_nil))))))
            pss_nil)
          (pss_cons (ps_if (pt_cmpR op_eq (pv 8) pe_int rfl)
            (pss_one (ps_set (i := 10) nd rfl (.inl rfl) (pe_op op_sub (pe_op op_pow pe_int pe_int) (pe_call D.ok (hr.mono (by decide)) (by rfl) D.at_ D.kp D.bd .nil pass0 (pa_cons (pv 0) (pa_cons pe_int pa_nil))))))
            pss_nil)
          (pss_cons (ps_if (PW.pt (pw_and (pt_cmpR op_eq (pv 8) pe_int rfl) (pw_and1 (pt_not (pt_val (pv 4))))))
            (pss_one (ps_set (i := 9) nd rfl (.inl rfl) (pe_op op_pow pe_int pe_int)))
            pss_nil)
          (pss_one (ps_expr (pe_bm PySem.F.plainAttrs_list PySem.F.slot_list_append PySem.F.type_list_append mt_append (pv 5) (pa_cons (pe_tup (pa_cons (pv 7) (pa_cons (pv 9) (pa_cons (pv 10) pa_nil)))) pa_nil))))))))))))))
      (pss_one (ps_ret (pv 5))))))), ?_⟩
    refine ⟨_, rfl, _, rfl, Int, V.int, s, pl, ps, rfl, hs, ep, by omega, pls.symm, fun H1 vl zs k1 nvl st1 evl pmz => ?_⟩
    have vls : vl ≠ s := fun z => hs.some (z ▸ nvl)
    have lz := pmz.length_eq
    refine ⟨_, rfl, s, 2, rfl, st1, by decide, by decide, fun H2 u o2 st2 _ _ => ⟨rfl, ?_⟩⟩
    obtain ⟨un, hun⟩ : ∃ b : Bool, decide (V.int u = V.int 0) = b := ⟨_, rfl⟩
    rw [hun]
    refine ⟨_, rfl, s, 3, rfl, st2, by decide, by decide, fun H3 u' o3 st3 _ _ => ⟨rfl, ?_⟩⟩
    obtain ⟨so, hso⟩ : ∃ b : Bool, decide (V.int u' = V.int 0) = b := ⟨_, rfl⟩
    rw [hso]
    refine ⟨by show 0 ≤ sizeLine; decide, fun E0 nE => ?_⟩
    have Es : E0 ≠ s := fun z => st3.some (z ▸ nE)
    have k3 := (k1.oth o2).oth o3
    have nEH := k3.free st3 nE
    have ev3 := (o3 _ vls).trans ((o2 _ vls).trans evl)
    have s4 := same_new (o := HO.lst []) nE
    have g0 : En H (upd H3 E0 (.lst [])) s vl E0 zs [] := ⟨k3.trans (Keep.same s4), st3.upd Es.symm, vls, Es, s4 _ _ ev3, upd_same, fun _ h => nomatch h⟩
    have Ev : E0 ≠ vl := fun z => by rw [z, ev3] at nE; cases nE
    obtain ⟨H4, e4⟩ : ∃ H4, upd H3 E0 (.lst []) = H4 := ⟨_, rfl⟩
    rw [e4] at g0 ⊢
    clear e4 s4 ev3 nE k3 hso o3 st3 hun o2 st2 H3 H2
    refine ⟨_, rfl, s, 6, rfl, g0.st, by decide, by decide, fun H5 t o5 st5 t0 t1 => ⟨_, rfl, by omega, by omega, for_range (lo := 0) (n := t.toNat) (fun i σ H' => ∃ (y6 y7 y8 y9 y10 : Option V) (es : List LmE), σ = [some (.ref s), some (.ref pl), some (.ref vl), some (.bl un), some (.bl so), some (.ref E0), y6, y7, y8, y9, y10] ∧ En H H' s vl E0 zs es ∧ es.length ≤ i)
      ⟨none, none, none, none, none, [], rfl, g0.oth o5 st5, Nat.le_refl _⟩ ?_ ?_⟩⟩
    · clear g0 o5 st5 H5 H4
      rintro i σ H1 hi ⟨y6, y7, y8, y9, y10, es, rfl, g1, le⟩
      obtain ⟨z0, hz0⟩ : ∃ z, zs[i]? = some z := ⟨zs[i]'(by omega), List.getElem?_eq_getElem (by omega)⟩
      refine ⟨_, rfl, _, rfl, vl, _, _, .int z0, rfl, rfl, sl_map g1.ev, at_eqS (j := i) (by omega) (by rw [List.getElem?_map, hz0] <;> rfl), ?_⟩
      refine' with_restS (fun σ H' => ∃ (z : Int), σ = [some (.ref s), some (.ref pl), some (.ref vl), some (.bl un), some (.bl so), some (.ref E0), some (.int (0 + (i : Int))), some (.int z), y8, y9, y10] ∧ En H H' s vl E0 zs es) ?r1 (fun rest => ⟨_, rfl, _, rfl, ite_both (fun _ => ?g1) fun _ => rest _ _ ⟨z0, rfl, g1⟩⟩)
      case' g1 =>
        have ep1 := g1.k _ _ pls ep
        refine ⟨_, rfl, _, rfl, _, rfl, pl, _, rfl, .inl (sl_map ep1), s, _, rfl, g1.st, by rw [List.length_map]; omega, by rw [List.length_map]; omega, fun H2 y o2 st2 y0 y1 => ?_⟩
        rw [List.length_map] at y1
        obtain ⟨d, rfl⟩ : ∃ d : Nat, y = (d : Int) := ⟨y.toNat, by omega⟩
        obtain ⟨x, hx⟩ : ∃ x, ps[d]? = some x := ⟨_, List.getElem?_eq_getElem (by omega)⟩
        exact ⟨pl, _, _, .int x, rfl, rfl, sl_map ((o2 _ pls).trans ep1), atI_nat (j := d) (by rw [List.getElem?_map, hx] <;> rfl), rest _ _ ⟨x, rfl, g1.oth o2 st2⟩⟩
      clear g1 H1
      rintro σ H1 ⟨z, rfl, g1⟩
      refine ⟨_, rfl, s, 8, rfl, g1.st, by decide, by decide, fun H2 wy o2 st2 _ _ => ?_⟩
      have g2 := g1.oth o2 st2
      refine ⟨_, rfl, s, 3, rfl, g2.st, by decide, by decide, fun H3 f0 o3 st3 _ _ => ?_⟩
      have g3 := g2.oth o3 st3
      refine ⟨_, rfl, _, rfl, s, 3, rfl, g3.st, by decide, by decide, fun H4 mm o4 st4 _ _ => ⟨_, _, rfl, rfl, ?_⟩⟩
      have g4 := g3.oth o4 st4
      clear g3 g2 g1 o2 st2 o3 st3 o4 st4
      refine' with_restS (fun σ H' => ∃ (f m : Int), σ = [some (.ref s), some (.ref pl), some (.ref vl), some (.bl un), some (.bl so), some (.ref E0), some (.int (0 + (i : Int))), some (.int z), some (.int wy), some (.int f), some (.int m)] ∧ En H H' s vl E0 zs es) ?r2 (fun rest => ⟨_, rfl, rfl, _, rfl, ite_both (fun _ => ⟨_, rfl, _, rfl, ite_both (fun _ => ?g2) fun _ => rest _ _ ⟨_, _, rfl, g4⟩⟩) fun _ => rest _ _ ⟨_, _, rfl, g4⟩⟩)
      case' g2 => exact ⟨0, 1, rfl, rfl, _, rfl, _, _, rfl, rfl, rest _ _ ⟨_, _, rfl, g4⟩⟩
      clear g4
      rintro σ H5 ⟨f, m, rfl, g5⟩
      refine' with_restS (fun σ H' => ∃ (f m : Int), σ = [some (.ref s), some (.ref pl), some (.ref vl), some (.bl un), some (.bl so), some (.ref E0), some (.int (0 + (i : Int))), some (.int z), some (.int wy), some (.int f), some (.int m)] ∧ En H H' s vl E0 zs es) ?r3 (fun rest => ⟨_, rfl, rfl, _, rfl, ite_both (fun _ => ⟨_, rfl, _, rfl, ite_both (fun _ => ?g3) fun _ => rest _ _ ⟨_, _, rfl, g5⟩⟩) fun _ => rest _ _ ⟨_, _, rfl, g5⟩⟩)
      case' g3 => exact ⟨_, rfl, _, _, rfl, rfl, _, rfl, s, 2, rfl, g5.st, by decide, by decide, fun H6 u o6 st6 _ _ => ⟨_, _, rfl, rfl, rest _ _ ⟨_, _, rfl, g5.oth o6 st6⟩⟩⟩
      clear g5 f m
      rintro σ H6 ⟨f, m, rfl, g6⟩
      refine' with_restS (fun σ H' => ∃ (f m : Int), σ = [some (.ref s), some (.ref pl), some (.ref vl), some (.bl un), some (.bl so), some (.ref E0), some (.int (0 + (i : Int))), some (.int z), some (.int wy), some (.int f), some (.int m)] ∧ En H H' s vl E0 zs es) ?r4 (fun rest => ⟨_, rfl, rfl, _, rfl, ite_both (fun _ => ?g4) fun _ => rest _ _ ⟨_, _, rfl, g6⟩⟩)
      case' g4 => exact ⟨10, 12, rfl, rfl, ⟨by decide, by decide, by decide⟩, _, rfl, s, 2, rfl, g6.st, by decide, by decide, fun H7 u o7 st7 _ _ => ⟨_, _, rfl, rfl, rest _ _ ⟨_, _, rfl, g6.oth o7 st7⟩⟩⟩
      clear g6 f m
      rintro σ H7 ⟨f, m, rfl, g7⟩
      refine' with_restS (fun σ H' => ∃ (f m : Int), σ = [some (.ref s), some (.ref pl), some (.ref vl), some (.bl un), some (.bl so), some (.ref E0), some (.int (0 + (i : Int))), some (.int z), some (.int wy), some (.int f), some (.int m)] ∧ En H H' s vl E0 zs es) ?r5 (fun rest => ⟨_, rfl, rfl, _, rfl, ite_both (fun _ => ⟨_, rfl, _, rfl, ite_both (fun _ => ?g5) fun _ => rest _ _ ⟨_, _, rfl, g7⟩⟩) fun _ => rest _ _ ⟨_, _, rfl, g7⟩⟩)
      case' g5 => exact ⟨10, 12, rfl, rfl, ⟨by decide, by decide, by decide⟩, rest _ _ ⟨_, _, rfl, g7⟩⟩
      clear g7 f m
      rintro σ H8 ⟨f, m, rfl, g⟩
      refine ⟨_, rfl, .inl ⟨rfl, _, sl_map g.ee⟩, _, rfl, _, rfl, _, rfl, by show 3 ≤ sizeLine; decide, fun t nt => ?_⟩
      have gt := g.new (o := HO.tup [V.int z, .int f, .int m]) nt
      have tE : t ≠ E0 := fun z => by rw [z, g.ee] at nt; cases nt
      refine ⟨E0, _, _, rfl, rfl, gt.ee, by rw [List.length_map]; exact small1000 (by omega), ?_⟩
      refine ⟨_, _, _, _, _, es ++ [(t, z, f, m)], rfl, ⟨gt.k.at_ nEH, gt.st.upd g.e0.symm, gt.vs, gt.e0, by rw [upd_ne Ev.symm]; exact gt.ev, by rw [upd_same, List.map_append] <;> rfl, fun e he => ?_⟩, by rw [List.length_append]; show es.length + 1 ≤ i + 1; omega⟩
      rcases List.mem_append.mp he with h | h
      · have h1 := gt.lt e h
        rw [upd_ne fun z => by rw [z, gt.ee] at h1; cases h1]; exact h1
      · rw [List.mem_singleton.mp h, upd_ne tE]; exact upd_same
    · rintro σ H1 ⟨y6, y7, y8, y9, y10, es, rfl, g, le⟩
      exact ⟨_, rfl, q _ E0 es g.k nEH g.st Es g.ee g.lt (by omega)⟩
end
end K23
set_option Elab.async false
set_option linter.all false
set_option maxRecDepth 100000
set_option maxHeartbeats 4000000
namespace K23
open PySem PySem.Spec PyProof.Rows L2 Cs CsX
theorem paired_strs {K : PySem.W.Frag} {H : Hp} {n : Nat} : ∀ ks : List Str, Paired (EqV K H (n + 1)) (ks.map V.str) (ks.map V.str)
  | [] => .nil
  | k :: ks => .cons (.inl ⟨rfl, rfl⟩) (paired_strs ks)
theorem pick : ∀ {ns : List Str} {L : List Int}, ns.Nodup → ns.length = L.length → ∃ g : Str → Int, ns.map g = L
  | [], [], _, _ => ⟨fun _ => 0, rfl⟩
  | [], _ :: _, _, h => by cases h
  | _ :: _, [], _, h => by cases h
  | x :: ns, u :: L, nn, h => by
    rw [List.nodup_cons] at nn
    obtain ⟨g, hg⟩ := pick (L := L) nn.2 (Nat.succ.inj h)
    refine ⟨fun y => if y = x then u else g y, ?_⟩
    rw [List.map_cons, if_pos rfl, ← hg]
    exact congrArg _ (List.map_congr_left fun y hy => if_neg fun z : y = x => nn.1 (z ▸ hy))
theorem ct_upd {C : Addr} {H : Hp} {p l : Addr} {ns : List Str} {ls : List Lim3} {xs : List V} {o : HO} (R : Ct C H p ns ls) (h : H l = some (.lst xs)) : Ct C (upd H l o) p ns ls := by
  obtain ⟨dx, t, r, fs, h1, ⟨o', po, h2⟩, h3, h4, h5⟩ := R
  have ne : ∀ {b : Addr} {u : HO}, H b = some u → (∀ xs, u ≠ .lst xs) → b ≠ l := fun g n z => by
    rw [z, h] at g; exact n _ (Option.some.inj g).symm
  exact ⟨dx, t, r, fs, by rw [upd_ne (ne h1 (fun _ z => by cases z))]; exact h1, ⟨o', po, by rw [upd_ne (ne h2 (fun _ z => by cases z))]; exact h2⟩, by rw [upd_ne (ne h3 (fun _ z => by cases z))]; exact h3, fun e he => by rw [upd_ne (ne (h4 e he) (fun _ z => by cases z))]; exact h4 e he, h5⟩
theorem ul_upd {C : Addr} {H : Hp} {p l : Addr} {ns : List Str} {xs : List V} {o : HO} (u : Ul C H p ns) (h : H l = some (.lst xs)) : Ul C (upd H l o) p ns := by
  obtain ⟨dx, t, h1, ⟨o', po, h2⟩⟩ := u
  have ne : ∀ {b : Addr} {u : HO}, H b = some u → (∀ xs, u ≠ .lst xs) → b ≠ l := fun g n z => by
    rw [z, h] at g; exact n _ (Option.some.inj g).symm
  exact ⟨dx, t, by rw [upd_ne (ne h1 (fun _ z => by cases z))]; exact h1, ⟨o', po, by rw [upd_ne (ne h2 (fun _ z => by cases z))]; exact h2⟩⟩
theorem ct_self {C : Addr} {H : Hp} {p : Addr} {ns : List Str} {ls : List Lim3} (R : Ct C H p ns ls) : ∃ dx fs, H p = some (.ins C dx fs) ∧ fs.lookup ("_highs" : Str) = none ∧ fs.lookup ("_lows" : Str) = none ∧ fs.lookup ("witness" : Str) = none ∧ fs.lookup ("supported" : Str) = none ∧ fs.lookup ("allows" : Str) = none := by
  obtain ⟨dx, t, r, fs, h1, _⟩ := R
  exact ⟨dx, _, h1, ct_no (by decide +kernel) (by decide +kernel) _ _, ct_no (by decide +kernel) (by decide +kernel) _ _, ct_no (by decide +kernel) (by decide +kernel) _ _, ct_no (by decide +kernel) (by decide +kernel) _ _, ct_no (by decide +kernel) (by decide +kernel) _ _⟩
section
variable {P : Program} {w : World} {K : PySem.W.Frag} {mg : Str → Option Value} {base : Heap}
abbrev sMh : Stmt := topS 54
abbrev nMh : List Str := ["_law_names_here", "_law_entries_here", "_law_taken", "_law_passed", "_law_rule", "_law_other", "_law_values", "_law_k", "_law_turn", "_law_actual", "_law_told"]
theorem scMh : FnScope nMh ["_law_names_here", "_law_entries_here", "_law_taken"] (defScope sMh) := ⟨rfl, rfl, rfl, by decide +kernel, rfl, by decide +kernel, by decide +kernel⟩
def spMh (C0 C1 : Addr) : Sp := fun vs H Q _ => ∃ (a l t : Addr) (ns : List Str) (es : List LmE) (ts : List Int), vs = [.ref a, .ref l, .ref t] ∧ H a = some (.lst (ns.map V.str)) ∧ ns.Nodup ∧ ns ≠ [] ∧ ns.length ≤ 100 ∧ H l = some (.lst (es.map fun e => V.ref e.1)) ∧ LmT H es ∧ Sound (es.map (·.2)) ∧ es.length ≤ 100 ∧ H t = some (.lst (ts.map V.int)) ∧ ts.length = ns.length ∧
  ∀ H', Q (.bl true) H'
theorem ok_Mh {f f0 f1 f2 f3 f4 f5 C0 C1 : Addr} {fd fd0 fd1 fd2 fd3 fd4 fd5 : FuncData} (F : Fun K "_law_made_holds" "_law_made_holds" sMh f fd) (B : Bt mg) (ztuple : mg "tuple" = none) (T0 : Kls K mg "Unlike" C0 uF) (T1 : Kls K mg "Counts" C1 cF)
    (M0 : CallN P w K mg base 2 C0 f0 fd0 ["self", "names"] (spUin C0)) (M1 : CallN P w K mg base 2 C1 f1 fd1 ["self", "names", "limits"] (spCin C1)) (A0 : CallM P w K mg base 2 C0 "allows" f2 fd2 ["self", "values"] (spUal C0)) (A1 : CallM P w K mg base 2 C1 "allows" f3 fd3 ["self", "values"] (spAlo C1))
    (CSl : Call P w K mg base 2 "_law_same_limits" f4 fd4 ["_law_actual", "_law_entries_here"] spSl) (CKp : Call P w K mg base 1 "_law_keeps" f5 fd5 ["_law_entries_here", "_law_taken"] spKp) :
    FnOk P w K mg base CX0 4 f fd ["_law_names_here", "_law_entries_here", "_law_taken"] (spMh C0 C1) := by
  refine F.ok scMh (fun vs H Q E h => ?_) (fun cdv A outer s H vs Q E hr h => ?_)
  · obtain ⟨a, l, t, ns, es, ts, rfl, _⟩ := h
    rfl
  · obtain ⟨a, l, t, ns, es, ts, rfl, en, nn, ne, n100, el, lt, so, e100, et, lts, q⟩ := h
    have hu := hu_of hr
    have nd := scMh.nd
    refine ⟨_, pss_cons (ps_set (i := 3) nd rfl (.inl rfl) (pe_lst (pa_cons (pe_callTy call_list_of (by rfl) B.list PyProof.Rows.boot_list (pa_cons (pv 0) pa_nil)) (pa_cons (pe_callTy call_list_of (by rfl) B.list PyProof.Rows.boot_list (pa_cons (pv 1) pa_nil)) pa_nil))))
      (pss_cons (ps_set (i := 4) nd rfl (.inl rfl) (pe_make M1.mkr M1.ok (hr.mono (by decide)) (by rfl) T1.gC M1.bd .nil pass0 (pa_cons (pe_ix ix_list (pv 3) pe_int (fun _ _ => rfl)) (pa_cons (pe_ix ix_list (pv 3) pe_int (fun _ _ => rfl)) pa_nil))))
      (pss_cons (ps_set (i := 5) nd rfl (.inl rfl) (pe_make M0.mkr M0.ok (hr.mono (by decide)) (by rfl) T0.gC M0.bd .nil pass0 (pa_cons (pe_ix ix_list (pv 3) pe_int (fun _ _ => rfl)) pa_nil)))
      (pss_cons (ps_expr (pe_bm PySem.F.plainAttrs_list PySem.F.slot_list_append PySem.F.type_list_append mt_append (pe_ix ix_list (pv 3) pe_int (fun _ _ => rfl)) (pa_cons pe_str pa_nil)))
      (pss_cons (ps_expr (pe_bm0 PySem.F.plainAttrs_list PySem.F.slot_list_clear PySem.F.type_list_clear mt_clear (pe_ix ix_list (pv 3) pe_int (fun _ _ => rfl))))
      (pss_cons (ps_set (i := 6) nd rfl (.inl rfl) (pe_disp (pps_cons pe_str (pe_ix ix_list (pv 2) pe_int (fun _ _ => rfl)) pps_nil) (by rfl) (by rfl) (fun z => by cases z) (by decide)))
      (pss_cons (ps_for PassesOwn.never rfl (pi_range1 (by rfl) B.range (pa_cons (pe_callB call_len_seq (by rfl) B.len PySem.boot_len (pa_cons (pv 0) pa_nil)) pa_nil)) (pg_name (i := 7) nd rfl (.inl rfl))
        (pss_one (ps_dput hu (pv 6) (pe_ix ix_list (pv 0) (pv 7) (fun _ _ => rfl)) (pe_ix ix_list (pv 2) (pv 7) (fun _ _ => rfl)) rfl)))
      (pss_cons (ps_for PassesOwn.never rfl (pi_range1 (by rfl) B.range (pa_cons pe_int pa_nil)) (pg_name (i := 8) nd rfl (.inl rfl))
        (pss_cons (ps_for PassesOwn.never rfl (pi_list (pe_lst (pa_cons (pe_fld (pv 4) rfl) (pa_cons (pe_fld (pv 5) rfl) pa_nil)))) (pg_name (i := 9) nd rfl (.inl rfl))
            (pss_one (ps_if (PW.pt (pw_or (pt_not (pt_val (pe_callB call_isi (by rfl) B.isi PyProof.Rows.boot_isinstance (pa_cons (pv 9) (pa_cons (pe_bltn (by rfl) ztuple PyProof.Rows.boot_tuple (v := .ty "tuple") rfl) pa_nil))))) (pw_or1 (pt_cmpR (op_neV hr.units) (pe_callTy call_list_of (by rfl) B.list PyProof.Rows.boot_list (pa_cons (pv 9) pa_nil)) (pv 0) rfl))))
                (pss_one (ps_ret pe_bl))
                pss_nil)))
          (pss_cons (ps_if (pt_not (pt_val (pe_call CSl.ok (hr.mono (by decide)) (by rfl) CSl.at_ CSl.kp CSl.bd .nil pass0 (pa_cons (pe_fld (pv 4) rfl) (pa_cons (pv 1) pa_nil)))))
            (pss_one (ps_ret pe_bl))
            pss_nil)
          (pss_cons (ps_set (i := 10) nd rfl (.inl rfl) (pe_meth (pv 4) T1.cl A1.mt A1.ok (hr.mono (by decide)) A1.bd .nil pass0 (pa_cons (pe_callTy call_dictD (by rfl) B.dict PyProof.Rows.boot_dict (pa_cons (pv 6) pa_nil)) pa_nil)))
          (pss_cons (ps_if (PW.pt (pw_or (pt_not (pt_val (pe_callB call_isi (by rfl) B.isi PyProof.Rows.boot_isinstance (pa_cons (pv 10) (pa_cons (pe_bltn (by rfl) B.bool PyProof.Rows.boot_bool (v := .ty "bool") rfl) pa_nil))))) (pw_or1 (pt_cmpR (op_ne) (pv 10) (pe_call CKp.ok (hr.mono (by decide)) (by rfl) CKp.at_ CKp.kp CKp.bd .nil pass0 (pa_cons (pv 1) (pa_cons (pv 2) pa_nil))) rfl))))
            (pss_one (ps_ret pe_bl))
            pss_nil)
          (pss_cons (ps_set (i := 10) nd rfl (.inl rfl) (pe_meth (pv 5) T0.cl A0.mt A0.ok (hr.mono (by decide)) A0.bd .nil pass0 (pa_cons (pe_callTy call_dictD (by rfl) B.dict PyProof.Rows.boot_dict (pa_cons (pv 6) pa_nil)) pa_nil)))
          (pss_one (ps_if (PW.pt (pw_or (pt_not (pt_val (pe_callB call_isi (by rfl) B.isi PyProof.Rows.boot_isinstance (pa_cons (pv 10) (pa_cons (pe_bltn (by rfl) B.bool PyProof.Rows.boot_bool (v := .ty "bool") rfl) pa_nil))))) (pw_or1 (pt_cmpR (op_ne) (pv 10) (pe_cmpR op_eq (pe_callB (r := rLenN w) call_lenN (by rfl) B.len PySem.boot_len (pa_cons (pe_callTy (r := rSetI K w) (cr_setI rfl) (by rfl) B.set PyProof.Rows.boot_set (pa_cons (pv 2) pa_nil)) pa_nil)) (pe_callB call_len_seq (by rfl) B.len PySem.boot_len (pa_cons (pv 2) pa_nil)) rfl) rfl))))
            (pss_one (ps_ret pe_bl))
            pss_nil))))))))
      (pss_one (ps_ret pe_bl))))))))), ?_⟩
    -- the lists that are passed
    refine ⟨_, rfl, a, _, rfl, .inl (sl_map en), fun nh nnh => ?_⟩
    have s8 := same_new (o := HO.lst (ns.map V.str)) nnh
    refine ⟨_, rfl, l, _, rfl, .inl (sl_map (s8 _ _ el)), fun lh nlh => ?_⟩
    have s9 := same_new (o := HO.lst (es.map fun e => V.ref e.1)) nlh
    have lhn : lh ≠ nh := fun z => by rw [z, upd_same] at nlh; cases nlh
    have nlhH : H lh = none := s8.free nlh
    have eh9 : (upd (upd H nh (.lst (ns.map V.str))) lh (.lst (es.map fun e => V.ref e.1))) nh = some (.lst (ns.map V.str)) := s9 _ _ upd_same
    have el9 : (upd (upd H nh (.lst (ns.map V.str))) lh (.lst (es.map fun e => V.ref e.1))) lh = some (.lst (es.map fun e => V.ref e.1)) := upd_same
    have S9 := s8.trans s9
    obtain ⟨H9, e9⟩ : ∃ H9, (upd (upd H nh (.lst (ns.map V.str))) lh (.lst (es.map fun e => V.ref e.1))) = H9 := ⟨_, rfl⟩
    rw [e9] at eh9 el9 S9 ⊢
    clear e9 s9 s8 nlh
    refine ⟨by show 2 ≤ sizeLine; decide, fun pp npp => ?_⟩
    have s10 := same_new (o := HO.lst [V.ref nh, V.ref lh]) npp
    have epp : (upd H9 pp (.lst [V.ref nh, V.ref lh])) pp = some (.lst [V.ref nh, V.ref lh]) := upd_same
    have eh10 := s10 _ _ eh9
    have el10 := s10 _ _ el9
    have S10 := S9.trans s10
    have ppn : pp ≠ nh := fun z => by rw [z, eh9] at npp; cases npp
    have ppl : pp ≠ lh := fun z => by rw [z, el9] at npp; cases npp
    obtain ⟨H10, e10⟩ : ∃ H10, upd H9 pp (.lst [V.ref nh, V.ref lh]) = H10 := ⟨_, rfl⟩
    rw [e10] at epp eh10 el10 S10 ⊢
    clear e10 s10 npp eh9 el9 S9 H9
    -- the two rules
    refine ⟨_, rfl, pp, _, _, .ref nh, rfl, rfl, sl_map epp, atI_nat (j := 0) rfl, _, rfl, pp, _, _, .ref lh, rfl, rfl, sl_map epp, atI_nat (j := 1) rfl, ?_⟩
    refine fun p dx nu ndx ne' => ⟨p, dx, nh, lh, ns, es, rfl, upd_same, same_at (same_new ndx) nu _ _ eh10, ne, nn, by omega, same_at (same_new ndx) nu _ _ el10, (lt.same S10).same (same_at (same_new ndx) nu), so, e100, fun H11 ct kp => ⟨rfl, ?_⟩⟩
    have s11 : Same H10 H11 := fun b o e => kp b o (ne_some' e nu) (by rw [upd_ne (ne_some' e nu)]; exact same_new ndx _ _ e)
    have S11 := S10.trans s11
    have eh11 := s11 _ _ eh10
    have el11 := s11 _ _ el10
    have ep11 := s11 _ _ epp
    clear kp s11 ndx nu ne' eh10 el10 epp S10 H10
    refine ⟨_, rfl, pp, _, _, .ref nh, rfl, rfl, sl_map ep11, atI_nat (j := 0) rfl, ?_⟩
    refine fun p2 dx nu ndx ne' => ⟨p2, dx, nh, ns, rfl, upd_same, same_at (same_new ndx) nu _ _ eh11, ne, nn, by omega, fun H12 ul kp => ⟨rfl, ?_⟩⟩
    have s12 : Same H11 H12 := fun b o e => kp b o (ne_some' e nu) (by rw [upd_ne (ne_some' e nu)]; exact same_new ndx _ _ e)
    have S12 := S11.trans s12
    have eh12 := s12 _ _ eh11
    have el12 := s12 _ _ el11
    have ep12 := s12 _ _ ep11
    have ct12 := ct.same s12
    clear kp s12 ndx nu ne' eh11 el11 ep11 S11 ct H11
    refine ⟨_, rfl, pp, _, _, .ref nh, rfl, rfl, sl_map ep12, atI_nat (j := 0) rfl, .inl ⟨rfl, _, sl_map eh12⟩, nh, _, _, rfl, rfl, eh12, by rw [List.length_map]; exact small1000 (by omega), ?_⟩
    have S13 := same_at (o := HO.lst (ns.map V.str ++ [V.str "more"])) S12 nnh
    have ct13 := ct_upd (o := HO.lst (ns.map V.str ++ [V.str "more"])) ct12 eh12
    have ul13 := ul_upd (o := HO.lst (ns.map V.str ++ [V.str "more"])) ul eh12
    have el13 : (upd H12 nh (.lst (ns.map V.str ++ [V.str "more"]))) lh = some (.lst (es.map fun e => V.ref e.1)) := by rw [upd_ne lhn]; exact el12
    have ep13 : (upd H12 nh (.lst (ns.map V.str ++ [V.str "more"]))) pp = some (.lst [V.ref nh, V.ref lh]) := by rw [upd_ne ppn]; exact ep12
    obtain ⟨H13, e13⟩ : ∃ H13, upd H12 nh (.lst (ns.map V.str ++ [V.str "more"])) = H13 := ⟨_, rfl⟩
    rw [e13] at S13 ct13 ul13 el13 ep13 ⊢
    clear e13 ep12 el12 eh12 S12 ct12 ul ppn H12
    refine ⟨_, rfl, pp, _, _, .ref lh, rfl, rfl, sl_map ep13, atI_nat (j := 1) rfl, .inl ⟨rfl, _, sl_map el13⟩, lh, _, rfl, rfl, el13, ?_⟩
    have S14 := same_at (o := HO.lst []) S13 nlhH
    have ct14 := ct_upd (o := HO.lst []) ct13 el13
    have ul14 := ul_upd (o := HO.lst []) ul13 el13
    obtain ⟨H14, e14⟩ : ∃ H14, upd H13 lh (.lst []) = H14 := ⟨_, rfl⟩
    rw [e14] at S14 ct14 ul14 ⊢
    clear e14 ep13 el13 S13 ct13 ul13 lhn nlhH nnh ppl H13
    -- the values
    obtain ⟨g, hg⟩ := pick (L := ts) nn lts.symm
    have t1 : 1 ≤ ts.length := by
      cases ns with
      | nil => exact absurd rfl ne
      | cons => rw [lts]; exact Nat.succ_le_succ (Nat.zero_le _)
    obtain ⟨t0, ht0⟩ : ∃ t0, ts[0]? = some t0 := ⟨_, List.getElem?_eq_getElem (by omega)⟩
    have ht0' : (ts.map V.int)[0]? = some (.int t0) := by rw [List.getElem?_map, ht0] <;> rfl
    refine fun V0 nV => ?_
    have sV := same_new (o := HO.dK []) nV
    refine ⟨_, rfl, t, _, _, .int t0, rfl, rfl, sl_map (sV _ _ (S14 _ _ et)), atI_nat (j := 0) ht0', upd_same, [(.inr "more", .int t0)], rfl, by show 1 ≤ 15; decide, ?_⟩
    obtain ⟨H15, e15, s15, eV15⟩ : ∃ H15, upd (upd H14 V0 (.dK [])) V0 (.dK (mergeK [] [(.inr "more", .int t0)])) = H15 ∧ Same H14 H15 ∧ H15 V0 = some (.dK (intK [("more", t0)])) := ⟨_, rfl, same_at sV nV, upd_same⟩
    rw [e15]
    clear e15 sV
    have S15 := S14.trans s15
    refine ⟨_, rfl, a, _, rfl, .inl (sl_map (S15 _ _ en)), _, rfl, by omega, by rw [List.length_map]; omega, ?_⟩
    refine for_range (lo := 0) (n := (ns.map V.str).length) (fun i σ H' => ∃ (y7 : Option V) (A : List (Str × Int)), σ = [some (.ref a), some (.ref l), some (.ref t), some (.ref pp), some (.ref p), some (.ref p2), some (.ref V0), y7, none, none, none] ∧ Same H14 H' ∧ H' V0 = some (.dK (intK A)) ∧ A.length ≤ i + 1 ∧ ∀ x ∈ ns.take i, aget A x = some (g x)) ⟨none, [("more", t0)], rfl, s15, eV15, Nat.le_refl _, fun _ h => nomatch h⟩ ?_ ?_
    · clear s15 eV15 S15 H15
      rintro i σ H15 hi ⟨y7, A, rfl, s15, eV, lA, get⟩
      rw [List.length_map] at hi
      obtain ⟨x, hx⟩ : ∃ x, ns[i]? = some x := ⟨_, List.getElem?_eq_getElem hi⟩
      have hx' : (ns.map V.str)[i]? = some (.str x) := by rw [List.getElem?_map, hx] <;> rfl
      have hu' : (ts.map V.int)[i]? = some (.int (g x)) := by rw [← hg, List.getElem?_map, List.getElem?_map, hx] <;> rfl
      have S15 := S14.trans s15
      refine ⟨_, rfl, _, rfl, t, _, _, .int (g x), rfl, rfl, sl_map (S15 _ _ et), at_eqS (by omega) hu', _, rfl, _, rfl, _, rfl, a, _, _, .str x, rfl, rfl, sl_map (S15 _ _ en), at_eqS (by omega) hx', V0, _, rfl, DPut.k (k := .inr x) eV (by rw [intK_len]; exact small1000 (by omega)), ?_⟩
      rw [putK_int]
      refine ⟨_, putA A x (g x), rfl, same_at s15 nV, upd_same, by have := putA_len A x (g x); omega, fun y hy => ?_⟩
      rw [aget_put]
      by_cases c : x = y
      · rw [if_pos c, c]
      · rw [if_neg c]
        rw [take_snoc hx] at hy
        rcases List.mem_append.mp hy with h | h
        · exact get y h
        · exact absurd (List.mem_singleton.mp h).symm c
    clear s15 eV15 S15 H15
    rintro σ H15 ⟨y7, A, rfl, s15, eV, lA, get⟩
    rw [List.length_map] at lA get
    rw [List.take_length] at get
    have S15 := S14.trans s15
    have ct15 := ct14.same s15
    have ul15 := ul14.same s15
    have en15 := S15 _ _ en
    have el15 := S15 _ _ el
    have et15 := S15 _ _ et
    have lt15 := lt.same S15
    clear S15 s15 ct14 ul14 S14 nV H14
    -- twice
    refine ⟨2, rfl, by decide, by decide, for_range (lo := 0) (n := 2) (fun i σ H' => ∃ (y7 y8 y9 y10 : Option V), σ = [some (.ref a), some (.ref l), some (.ref t), some (.ref pp), some (.ref p), some (.ref p2), some (.ref V0), y7, y8, y9, y10] ∧ Same H15 H') ⟨_, _, _, _, rfl, fun _ _ e => e⟩ ?_ ?_⟩
    · rintro i σ H1 hi ⟨y7, y8, y9, y10, rfl, s1⟩
      obtain ⟨dx, t1, u, gs, hp, et1, eu, lf, cf⟩ := id (ct15.same s1)
      obtain ⟨dx2, t2, hp2, et2⟩ := id (ul15.same s1)
      refine ⟨_, rfl, p, C1, dx, _, _, rfl, hp, T1.cl, T1.no _ (by simp), clook1 _ _, _, rfl, p2, C0, dx2, _, _, rfl, hp2, T0.cl, T0.no _ (by simp), ulook _, by show 2 ≤ sizeLine; decide, fun L nL => ?_⟩
      have s2 := same_new (o := HO.lst [V.ref t1, .ref t2]) nL
      have eL : (upd H1 L (.lst [V.ref t1, .ref t2])) L = some (.lst [V.ref t1, .ref t2]) := upd_same
      obtain ⟨H2, e2⟩ : ∃ H2, upd H1 L (.lst [V.ref t1, .ref t2]) = H2 := ⟨_, rfl⟩
      rw [e2] at s2 eL ⊢
      refine ⟨L, rfl, ⟨_, sl_map eL⟩, for_list (xs := [V.ref t1, .ref t2]) (fun i' σ H' => ∃ (y9 : Option V), σ = [some (.ref a), some (.ref l), some (.ref t), some (.ref pp), some (.ref p), some (.ref p2), some (.ref V0), y7, some (.int (0 + (i : Int))), y9, y10] ∧ Same H2 H') ⟨_, rfl, fun _ _ e => e⟩ (fun i' σ H' _ h => by obtain ⟨_, _, h⟩ := h; exact sl_map (h _ _ eL)) ?_ ?_⟩
      · rintro j x0 σ H3 hx ⟨y9, rfl, s3⟩
        obtain ⟨tt, rfl, ett⟩ : ∃ tt, x0 = .ref tt ∧ TpK H3 tt (ns.map V.str) := by
          have := List.mem_of_getElem? hx
          rcases List.mem_cons.mp this with h | h
          · exact ⟨t1, h, (et1.same s2).same s3⟩
          · exact ⟨t2, List.mem_singleton.mp h, (et2.same s2).same s3⟩
        obtain ⟨o, po, ett'⟩ := id ett
        refine ⟨_, rfl, .ref tt, .ty "tuple", .type "tuple", .type "tuple", true, rfl, .ty _, .fTuple ett', kit_ty (by decide +kernel), true, rfl, iteF ?_⟩
        refine ⟨_, rfl, tt, _, rfl, .inr ett.sq, fun nl nnl => ?_⟩
        have s4 := same_new (o := HO.lst (ns.map V.str)) nnl
        exact ⟨_, rfl, nl, a, _, _, rfl, rfl, sl_map upd_same, sl_map (s4 _ _ (s3 _ _ (s2 _ _ (s1 _ _ en15)))), ⟨1, by decide, paired_strs _⟩, false, rfl, iteF ⟨_, rfl, s3.trans s4⟩⟩
      rintro σ H3 ⟨y9', rfl, s3⟩
      have s13 := s2.trans s3
      have S3 := s1.trans s13
      refine ⟨_, rfl, p, C1, dx, _, _, rfl, s13 _ _ hp, T1.cl, T1.no _ (by simp), clook2 _ _, _, rfl, u, l, gs, es, rfl, s13 _ _ eu, lf.same s13, S3 _ _ el15, lt15.same S3, cf, e100, ⟨true, rfl, iteF ?_⟩⟩
      obtain ⟨dx3, fs3, hp3, _, _, _, _, hal⟩ := ct_self (ct15.same S3)
      refine ⟨_, rfl, p, dx3, _, rfl, hp3, hal, _, rfl, V0, _, rfl, .inl (S3 _ _ eV), fun kp nkp => ?_⟩
      have s4 := same_new (o := HO.dK (intK A)) nkp
      have S4 := S3.trans s4
      refine ⟨p, kp, ns, _, A, g, rfl, ct15.same S4, by rw [List.length_map]; exact e100, upd_same, by omega, get, fun H5 s5 => ?_⟩
      rw [hg]
      have S5 := S4.trans s5
      refine ⟨_, rfl, .bl _, .ty "bool", .type "bool", .type "bool", true, rfl, .ty _, .base (.bl _), kit_ty (by decide +kernel), true, rfl, iteF ?_⟩
      refine ⟨_, rfl, _, rfl, _, rfl, l, t, es, ts, rfl, S5 _ _ el15, lt15.same S5, S5 _ _ et15, ?_⟩
      refine ⟨rfl, _, rfl, ite_both (fun c => absurd c (by simp)) fun _ => ?_⟩
      obtain ⟨dx4, t4, hp4, _⟩ := id (ul15.same S5)
      refine ⟨_, rfl, p2, dx4, _, rfl, hp4, ul_no (by decide +kernel) _, _, rfl, V0, _, rfl, .inl (S5 _ _ eV), fun kp2 nkp2 => ?_⟩
      have s6 := same_new (o := HO.dK (intK A)) nkp2
      have S6 := S5.trans s6
      refine ⟨p2, kp2, ns, A, g, rfl, ul15.same S6, upd_same, by omega, get, fun H7 s7 => ?_⟩
      rw [hg]
      have S7 := S6.trans s7
      have et7 := S7 _ _ et15
      have sq7 : SqL K H7 t (ts.map V.int) := sl_map et7
      refine ⟨_, rfl, .bl _, .ty "bool", .type "bool", .type "bool", true, rfl, .ty _, .base (.bl _), kit_ty (by decide +kernel), true, rfl, iteF ?_⟩
      refine ⟨_, rfl, _, rfl, t, ts, rfl, sq7, by omega, fun q1 c1 nq1 _ => ⟨q1, _, _, rfl, upd_same, fun c hc => ?_⟩⟩
      obtain ⟨H8, e8, s8⟩ : ∃ H8, upd H7 q1 (SetO w q1 (fun j => decide (j ∈ ts)) c1) = H8 ∧ Same H7 H8 := ⟨_, rfl, same_new nq1⟩
      rw [e8]
      obtain ⟨ks, ksn, ksm⟩ := dedup_ex ts
      have cc : c = ks.length := hc ks ksn fun k => by rw [ksm, decide_eq_true_iff]
      refine ⟨_, rfl, t, _, rfl, .inl (sl_map (s8 _ _ et7)), ?_⟩
      refine ⟨rfl, ?_⟩
      rw [show decide (V.int (c : Int) = V.int (((ts.map V.int).length : Nat) : Int)) = decide ts.Nodup from by rw [cc, List.length_map]; exact dec_len ksn ksm]
      exact ⟨rfl, _, rfl, ite_both (fun c => absurd c (by simp)) fun _ => ⟨_, _, _, _, rfl, S7.trans s8⟩⟩
    · rintro σ H1 _
      exact q _
end
end K23
set_option Elab.async false
set_option linter.all false
set_option maxRecDepth 100000
set_option maxHeartbeats 4000000
namespace K23
open PySem PySem.Spec PyProof.Rows L2 Cs CsX
theorem keep_same {H H1 H2 : Hp} {s : Addr} (a : Same H H1) (k : Keep s H1 H2) (n : H s = none) : Same H H2 := fun b o e => k b o (ne_some' e n) (a b o e)
abbrev rLnS (K : PySem.W.Frag) : List V → Hp → VK → Prop := fun xs H Q => ∃ p ys, xs = [.ref p] ∧ (SqL K H p ys ∨ SqT K H p ys) ∧ Q (.int (ys.length : Nat)) H
theorem paired_es {K : PySem.W.Frag} {H : Hp} {n : Nat} : ∀ es : List LmE, Paired (EqV K H (n + 1)) (es.map fun e => V.ref e.1) (es.map fun e => V.ref e.1)
  | [] => .nil
  | e :: es => .cons (.inr (.inl ⟨e.1, rfl, rfl⟩)) (paired_es es)
theorem Told.same {H H' : Hp} {v : V} {r : Rf} (t : Told H v r) (s : Same H H') : Told H' v r := by
  rcases t with h | ⟨h, l, k, e, e1, e2⟩
  · exact .inl h
  · exact .inr ⟨h, l, k, e, s _ _ e1, s _ _ e2⟩
theorem repF_nd : ∀ {xs ea : List Str}, (ea ++ xs).Nodup → repF ea xs = .ok
  | [], _, _ => rfl
  | x :: xs, ea, h => by
    have nx : x ∉ ea := fun m => (List.nodup_append.mp h).2.2 x m x List.mem_cons_self rfl
    rw [repF_no nx]
    exact repF_nd (by rw [List.append_assoc]; exact h)
theorem limF_ok : ∀ {ls : List Lim3} {ea : List Int}, (∀ l ∈ ls, 0 ≤ l.2.1 ∧ l.2.1 ≤ l.2.2) → (ea ++ ls.map (·.1)).Nodup → limF ea ls = .ok
  | [], _, _, _ => rfl
  | l :: t, ea, h, n => by
    have h1 := h l List.mem_cons_self
    have nx : l.1 ∉ ea := fun m => (List.nodup_append.mp n).2.2 l.1 m l.1 List.mem_cons_self rfl
    rw [limF_go (by omega) nx]
    exact limF_ok (fun u hu => h u (List.mem_cons_of_mem _ hu)) (by rw [List.append_assoc]; exact n)
theorem refOf_ok {ns : List Str} {ls : List Lim3} {way : Int} (ne : ns ≠ []) (nn : ns.Nodup) (so : Sound ls) : refOf ns ls way = .ok := by
  have l0 : ns.length ≠ 0 := fun z => ne (List.length_eq_zero_iff.mp z)
  have r := repF_nd (ea := []) nn
  by_cases w1 : way = 1
  · rw [w1, ref_lim l0 r]; exact limF_ok so.2 so.1
  · exact ref_ok l0 r w1
section
variable {P : Program} {w : World} {K : PySem.W.Frag} {mg : Str → Option Value} {base : Heap}
abbrev sLaw : Stmt := topS 55
abbrev nLaw : List Str := ["_law_script", "_law_stream_here", "_law_count", "_law_names_here", "_law_pool_here", "_law_entries_here", "_law_way", "_law_passed", "_law_told", "_law_sound_names", "_law_sound", "_law_limited", "_law_taken", "_law_k", "_law_name"]
theorem scLaw : FnScope nLaw ["_law_script"] (defScope sLaw) := ⟨rfl, rfl, rfl, by decide +kernel, rfl, by decide +kernel, by decide +kernel⟩
def spLaw (K : PySem.W.Frag) : Sp := fun vs H Q _ => ∃ (a : Addr) (ns : List Int), vs = [.ref a] ∧ SqL K H a (ns.map V.int) ∧ ns.length ≤ 63 ∧ ∀ H', Q (.bl true) H'
theorem ok_Law {f f0 f1 f2 f3 f4 f5 f6 f7 f8 f9 fa C0 C1 : Addr} {fd fd0 fd1 fd2 fd3 fd4 fd5 fd6 fd7 fd8 fd9 fda : FuncData} (F : Fun K "law" "law" sLaw f fd) (B : Bt mg)
    (Cst : Call P w K mg base 1 "_law_stream" f1 fd1 ["_law_script", "_law_k"] (spStream K)) (D : Call P w K mg base 1 "_law_next" f2 fd2 ["_law_stream_here", "_law_size"] spDraw)
    (CDn : Call P w K mg base 3 "_law_drawn_names" f0 fd0 ["_law_stream_here", "_law_count"] spDn) (CRep : Call P w K mg base 2 "_law_repeated" f3 fd3 ["_law_stream_here", "_law_names_here", "_law_most"] spRep)
    (Cpo : Call P w K mg base 2 "_law_pool" f4 fd4 ["_law_stream_here", "_law_count"] spPool) (CEnt : Call P w K mg base 3 "_law_entries" f5 fd5 ["_law_stream_here", "_law_pool_here"] spEnt)
    (CRfl : Call P w K mg base 6 "_law_refusal" f6 fd6 ["_law_names_here", "_law_entries_here", "_law_way"] spRfl) (CDue : Call P w K mg base 1 "_law_due" f7 fd7 ["_law_names_here", "_law_entries_here", "_law_way"] spDue)
    (CSrf : Call P w K mg base 2 "_law_same_refusal" f8 fd8 ["_law_told", "_law_due_here"] spSrf) (CSnd : Call P w K mg base 1 "_law_sound_entries" f9 fd9 ["_law_entries_here"] spSnd)
    (CMh : Call P w K mg base 4 "_law_made_holds" fa fda ["_law_names_here", "_law_entries_here", "_law_taken"] (spMh C0 C1)) :
    FnOk P w K mg base CX0 7 f fd ["_law_script"] (spLaw K) := by
  refine F.ok scLaw (fun vs H Q E h => ?_) (fun cdv A outer s H vs Q E hr h => ?_)
  · obtain ⟨a, ns, rfl, _⟩ := h
    rfl
  · obtain ⟨a, cs, rfl, ha, ln, q⟩ := h
    have hu := hu_of hr
    have nd := scLaw.nd
    refine ⟨_, pss_cons (ps_set (i := 1) nd rfl (.inr rfl) (pe_call Cst.ok (hr.mono (by decide)) (by rfl) Cst.at_ Cst.kp Cst.bd .nil pass0 (pa_cons (pv 0) (pa_cons pe_int pa_nil))))
      (pss_cons (ps_set (i := 2) nd rfl (.inl rfl) (pe_call D.ok (hr.mono (by decide)) (by rfl) D.at_ D.kp D.bd .nil pass0 (pa_cons (pv 1) (pa_cons pe_int pa_nil))))
      (pss_cons (ps_if (pt_cmpR op_eq (pe_call D.ok (hr.mono (by decide)) (by rfl) D.at_ D.kp D.bd .nil pass0 (pa_cons (pv 1) (pa_cons pe_int pa_nil))) pe_int rfl)
        (pss_one (ps_set (i := 2) nd rfl (.inl rfl) pe_int))
        pss_nil)
      (pss_cons (ps_set (i := 3) nd rfl (.inr rfl) (pe_call CRep.ok (hr.mono (by decide)) (by rfl) CRep.at_ CRep.kp CRep.bd .nil pass0 (pa_cons (pv 1) (pa_cons (pe_call CDn.ok (hr.mono (by decide)) (by rfl) CDn.at_ CDn.kp CDn.bd .nil pass0 (pa_cons (pv 1) (pa_cons (pv 2) pa_nil))) (pa_cons pe_int pa_nil)))))
      (pss_cons (ps_set (i := 4) nd rfl (.inr rfl) (pe_call Cpo.ok (hr.mono (by decide)) (by rfl) Cpo.at_ Cpo.kp Cpo.bd .nil pass0 (pa_cons (pe_call Cst.ok (hr.mono (by decide)) (by rfl) Cst.at_ Cst.kp Cst.bd .nil pass0 (pa_cons (pv 0) (pa_cons pe_int pa_nil))) (pa_cons pe_int pa_nil))))
      (pss_cons (ps_set (i := 5) nd rfl (.inl rfl) (pe_call CEnt.ok (hr.mono (by decide)) (by rfl) CEnt.at_ CEnt.kp CEnt.bd .nil pass0 (pa_cons (pe_call Cst.ok (hr.mono (by decide)) (by rfl) Cst.at_ Cst.kp Cst.bd .nil pass0 (pa_cons (pv 0) (pa_cons pe_int pa_nil))) (pa_cons (pv 4) pa_nil))))
      (pss_cons (ps_for PassesOwn.never rfl (pi_list (pe_lst (pa_cons pe_int (pa_cons pe_int (pa_cons pe_int (pa_cons pe_int pa_nil)))))) (pg_name (i := 6) nd rfl (.inl rfl))
        (pss_cons (ps_set (i := 7) nd rfl (.inl rfl) (pe_lst (pa_cons (pe_callTy call_list_of (by rfl) B.list PyProof.Rows.boot_list (pa_cons (pv 3) pa_nil)) (pa_cons (pe_callTy call_list_of (by rfl) B.list PyProof.Rows.boot_list (pa_cons (pv 5) pa_nil)) pa_nil))))
          (pss_cons (ps_set (i := 8) nd rfl (.inl rfl) (pe_call CRfl.ok (hr.mono (by decide)) (by rfl) CRfl.at_ CRfl.kp CRfl.bd .nil pass0 (pa_cons (pe_ix ix_list (pv 7) pe_int (fun _ _ => rfl)) (pa_cons (pe_ix ix_list (pv 7) pe_int (fun _ _ => rfl)) (pa_cons (pv 6) pa_nil)))))
          (pss_cons (ps_if (pt_not (pt_val (pe_call CSrf.ok (hr.mono (by decide)) (by rfl) CSrf.at_ CSrf.kp CSrf.bd .nil pass0 (pa_cons (pv 8) (pa_cons (pe_call CDue.ok (hr.mono (by decide)) (by rfl) CDue.at_ CDue.kp CDue.bd .nil pass0 (pa_cons (pv 3) (pa_cons (pv 5) (pa_cons (pv 6) pa_nil)))) pa_nil)))))
            (pss_one (ps_ret pe_bl))
            pss_nil)
          (pss_one (ps_if (PW.pt (pw_or (pt_cmpR (op_neV hr.units) (pe_ix ix_list (pv 7) pe_int (fun _ _ => rfl)) (pv 3) rfl) (pw_or1 (pt_cmpR (op_neV hr.units) (pe_ix ix_list (pv 7) pe_int (fun _ _ => rfl)) (pv 5) rfl))))
            (pss_one (ps_ret pe_bl))
            pss_nil))))))
      (pss_cons (ps_setLc (i := 9) (own := [("_law_k", 13)]) (g := gName 13) (tt := _)  rfl nd rfl rfl (by rfl) (pi_range1 (by rfl) B.range (pa_cons (pe_callB call_len_seq (by rfl) B.len PySem.boot_len (pa_cons (pv 3) pa_nil)) pa_nil)) (blkOk_by (N := nLaw) (sc := defScope sLaw) (by decide +kernel)) (fun _ _ _ _ _ => pg_name (i := 13) nd rfl (.inl rfl)) (fun _ _ _ _ _ => pts_one (pt_cmpR (r := rIn K true) op_notIn_seq (pe_ix (r := rIxL K) ix_list (pv 3) (pv 13) (fun _ _ => rfl)) (pe_slice (r := rSlL K) sl_list (pv 3) po_none (po_some (pv 13))) rfl))
          (fun _ _ _ _ _ => (pe_ix (r := rIxL K) ix_list (pv 3) (pv 13) (fun _ _ => rfl))))
      (pss_cons (ps_if (pt_cmpR op_eq (pe_callB call_len_seq (by rfl) B.len PySem.boot_len (pa_cons (pv 9) pa_nil)) pe_int rfl)
        (pss_one (ps_expr (pe_bm PySem.F.plainAttrs_list PySem.F.slot_list_append PySem.F.type_list_append mt_append (pv 9) (pa_cons pe_str pa_nil))))
        pss_nil)
      (pss_cons (ps_set (i := 10) nd rfl (.inl rfl) (pe_call CSnd.ok (hr.mono (by decide)) (by rfl) CSnd.at_ CSnd.kp CSnd.bd .nil pass0 (pa_cons (pv 5) pa_nil)))
      (pss_cons (ps_for PassesOwn.never rfl (pi_list (pe_lst (pa_cons (pv 10) (pa_cons (pe_lst pa_nil) pa_nil)))) (pg_name (i := 11) nd rfl (.inl rfl))
        (pss_one (ps_for PassesOwn.never rfl (pi_list (pe_lst (pa_cons pe_int (pa_cons pe_int pa_nil)))) (pg_name (i := 6) nd rfl (.inl rfl))
            (pss_one (ps_if (pt_cmp (pc_notN (pe_call CRfl.ok (hr.mono (by decide)) (by rfl) CRfl.at_ CRfl.kp CRfl.bd .nil pass0 (pa_cons (pe_callTy call_list_of (by rfl) B.list PyProof.Rows.boot_list (pa_cons (pv 9) pa_nil)) (pa_cons (pe_callTy call_list_of (by rfl) B.list PyProof.Rows.boot_list (pa_cons (pv 11) pa_nil)) (pa_cons (pv 6) pa_nil))))))
                (pss_one (ps_ret pe_bl))
                pss_nil)))))
      (pss_cons (ps_set (i := 1) nd rfl (.inr rfl) (pe_call Cst.ok (hr.mono (by decide)) (by rfl) Cst.at_ Cst.kp Cst.bd .nil pass0 (pa_cons (pv 0) (pa_cons pe_int pa_nil))))
      (pss_cons (ps_setLc (i := 12) (own := [("_law_name", 14)]) (g := gName 14) (tt := tYes)  rfl nd rfl rfl (by rfl) (pi_list (pv 9)) (blkOk_by (N := nLaw) (sc := defScope sLaw) (by decide +kernel)) (fun _ _ _ _ _ => pg_name (i := 14) nd rfl (.inl rfl)) (fun _ _ _ _ _ => pts_nil)
          (fun _ _ _ _ _ => (pe_ix (r := rIxL K) ix_list (pv 4) (pe_call D.ok (hr.mono (by decide)) (by rfl) D.at_ D.kp D.bd .nil pass0 (pa_cons (pv 1) (pa_cons (pe_callB (r := rLnS K) call_len_seq (by rfl) B.len PySem.boot_len (pa_cons (pv 4) pa_nil)) pa_nil))) (fun _ _ => rfl))))
      (pss_one (ps_ret (pe_call CMh.ok (hr.mono (by decide)) (by rfl) CMh.at_ CMh.kp CMh.bd .nil pass0 (pa_cons (pv 9) (pa_cons (pv 10) (pa_cons (pv 12) pa_nil)))))))))))))))))), ?_⟩
    refine ⟨_, rfl, a, cs, 0, rfl, ha, fun H1 s s1 ns0 st1 => ?_⟩
    refine ⟨_, rfl, s, 5, rfl, st1, by decide, by decide, fun H2 y o2 st2 y0 y1 => ?_⟩
    obtain ⟨j, rfl⟩ : ∃ j : Nat, y = (j : Int) := ⟨y.toNat, by omega⟩
    have k2 : Keep s H1 H2 := (Keep.refl _ _).oth o2
    refine' with_restS (fun σ H' => ∃ (m : Nat), σ = [some (.ref a), some (.ref s), some (.int (m : Int)), none, none, none, none, none, none, none, none, none, none, none, none] ∧ Keep s H1 H' ∧ Strm H' s ∧ m ≤ 16) ?r1 (fun rest => ⟨_, rfl, s, 8, rfl, st2, by decide, by decide, fun H3 z o3 st3 _ _ => ⟨rfl, _, rfl, ite_both (fun _ => ?g1) fun _ => rest _ _ ⟨j, rfl, k2.oth o3, st3, by omega⟩⟩⟩)
    case' g1 => exact rest _ _ ⟨14, rfl, k2.oth o3, st3, by decide⟩
    clear k2 st2 o2 y0 y1 H2 st1
    rintro σ H2 ⟨m, rfl, k2, st2, m16⟩
    refine ⟨_, rfl, _, rfl, _, rfl, s, m, rfl, st2, m16, fun H4 l0 xs k4 nl0 st4 el0 lx => ?_⟩
    have l0s : l0 ≠ s := fun z => st2.some (z ▸ nl0)
    refine ⟨s, l0, 2, xs, rfl, st4, el0, l0s, by omega, by decide, fun H5 R ns k5 st5 Rs eR lns => ?_⟩
    have S5 : Same H H5 := keep_same s1 ((k2.trans k4).trans k5) ns0
    have n18 : ns.length ≤ 18 := by omega
    clear Rs st5 k5 el0 l0s nl0 st4 k4 st2 k2 s1 ns0 H4 H2 H1 lns lx m16 j
    refine ⟨_, rfl, a, cs, 1, rfl, S5.seq ha, fun H6 q1 s6 nq1 st6 => ⟨q1, 5, rfl, st6, by decide, by decide, fun H7 pl ps k7 npl st7 ep srt lp => ?_⟩⟩
    have S57 : Same H5 H7 := keep_same s6 k7 nq1
    have eR7 := S57 _ _ eR
    have S7 := S5.trans S57
    clear srt st7 npl k7 st6 nq1 s6 S57 eR S5 H6 H5
    refine ⟨_, rfl, a, cs, 2, rfl, S7.seq ha, fun H8 q2 s8 nq2 st8 => ⟨_, rfl, q2, pl, ps, rfl, st8, s8 _ _ ep, ne_some' ep nq2, lp, fun H9 en es k9 nen st9 enq een lt les => ?_⟩⟩
    have S79 : Same H7 H9 := keep_same s8 k9 nq2
    have eR9 := S79 _ _ eR7
    have ep9 := S79 _ _ ep
    have S9 := S7.trans S79
    clear enq st9 nen k9 st8 nq2 s8 S79 eR7 ep S7 H8 H7
    -- the refusals
    refine ⟨by show 4 ≤ sizeLine; decide, fun W nW => ?_⟩
    have sW := same_new (o := HO.lst [V.int 1, .int 0, .int 1, .int 0]) nW
    have eW : (upd H9 W (.lst [V.int 1, .int 0, .int 1, .int 0])) W = some (.lst [V.int 1, .int 0, .int 1, .int 0]) := upd_same
    obtain ⟨H10, e10⟩ : ∃ H10, upd H9 W (.lst [V.int 1, .int 0, .int 1, .int 0]) = H10 := ⟨_, rfl⟩
    rw [e10] at sW eW ⊢
    refine ⟨W, rfl, ⟨_, sl_map eW⟩, for_list (xs := [V.int 1, .int 0, .int 1, .int 0]) (fun i σ H' => ∃ (y6 y7 y8 : Option V), σ = [some (.ref a), some (.ref s), some (.int (m : Int)), some (.ref R), some (.ref pl), some (.ref en), y6, y7, y8, none, none, none, none, none, none] ∧ Same H10 H') ⟨none, none, none, rfl, fun _ _ e => e⟩ (fun i σ H' _ h => by obtain ⟨_, _, _, _, h⟩ := h; exact sl_map (h _ _ eW)) ?_ ?_⟩
    · rintro i x0 σ H1 hx ⟨y6, y7, y8, rfl, s1⟩
      obtain ⟨way, rfl, hw⟩ : ∃ way : Int, x0 = .int way ∧ (way = 0 ∨ way = 1) := by
        have := List.mem_of_getElem? hx
        simp at this
        rcases this with h | h | h | h <;> first | exact ⟨1, h, .inr rfl⟩ | exact ⟨0, h, .inl rfl⟩
      have S1 := sW.trans s1
      refine ⟨_, rfl, R, _, rfl, .inl (sl_map (S1 _ _ eR9)), fun nh nnh => ?_⟩
      have t1 := same_new (o := HO.lst (ns.map V.str)) nnh
      refine ⟨_, rfl, en, _, rfl, .inl (sl_map (t1 _ _ (S1 _ _ een))), fun lh nlh => ?_⟩
      have t2 := same_new (o := HO.lst (es.map fun e => V.ref e.1)) nlh
      refine ⟨by show 2 ≤ sizeLine; decide, fun pp npp => ?_⟩
      have t3 := same_new (o := HO.lst [V.ref nh, V.ref lh]) npp
      have eh : (upd (upd (upd H1 nh (.lst (ns.map V.str))) lh (.lst (es.map fun e => V.ref e.1))) pp (.lst [V.ref nh, V.ref lh])) nh = some (.lst (ns.map V.str)) := t3 _ _ (t2 _ _ upd_same)
      have el : (upd (upd (upd H1 nh (.lst (ns.map V.str))) lh (.lst (es.map fun e => V.ref e.1))) pp (.lst [V.ref nh, V.ref lh])) lh = some (.lst (es.map fun e => V.ref e.1)) := t3 _ _ upd_same
      have epp : (upd (upd (upd H1 nh (.lst (ns.map V.str))) lh (.lst (es.map fun e => V.ref e.1))) pp (.lst [V.ref nh, V.ref lh])) pp = some (.lst [V.ref nh, V.ref lh]) := upd_same
      have T3 := S1.trans (t1.trans (t2.trans t3))
      have T13 := s1.trans (t1.trans (t2.trans t3))
      obtain ⟨H3, e3⟩ : ∃ H3, upd (upd (upd H1 nh (.lst (ns.map V.str))) lh (.lst (es.map fun e => V.ref e.1))) pp (.lst [V.ref nh, V.ref lh]) = H3 := ⟨_, rfl⟩
      rw [e3] at eh el epp T3 T13 ⊢
      clear e3 t3 npp t2 nlh t1 nnh S1
      refine ⟨_, rfl, pp, _, _, .ref nh, rfl, rfl, sl_map epp, atI_nat (j := 0) rfl, _, rfl, pp, _, _, .ref lh, rfl, rfl, sl_map epp, atI_nat (j := 1) rfl, _, rfl, nh, lh, ns, es, way, rfl, eh, by omega, el, lt.same T3, by omega, hw, fun H4 v s4 td => ?_⟩
      have T4 := T3.trans s4
      refine ⟨_, rfl, _, rfl, _, rfl, _, rfl, R, en, ns, es, way, rfl, T4 _ _ eR9, by omega, T4 _ _ een, lt.same T4, by omega, fun H5 u s5 tu => ⟨v, u, _, rfl, td.same s5, tu, ⟨true, rfl, iteF ?_⟩⟩⟩
      have s45 := s4.trans s5
      have T5 := T3.trans s45
      refine ⟨_, rfl, pp, _, _, .ref nh, rfl, rfl, sl_map (s45 _ _ epp), atI_nat (j := 0) rfl, _, rfl, nh, R, _, _, rfl, rfl, sl_map (s45 _ _ eh), sl_map (T5 _ _ eR9), ⟨1, by decide, paired_strs _⟩, false, rfl, iteF ?_⟩
      exact ⟨_, rfl, pp, _, _, .ref lh, rfl, rfl, sl_map (s45 _ _ epp), atI_nat (j := 1) rfl, _, rfl, lh, en, _, _, rfl, rfl, sl_map (s45 _ _ el), sl_map (T5 _ _ een), ⟨1, by decide, paired_es _⟩, false, rfl, iteF ⟨_, _, _, rfl, T13.trans s45⟩⟩
    rintro σ H1 ⟨y6, y7, y8, rfl, s1⟩
    replace s1 := sW.trans s1
    clear e10 eW sW nW H10
    -- the names without repetition
    refine ⟨_, rfl, R, _, rfl, .inl (sl_map (s1 _ _ eR9)), _, rfl, by omega, by rw [List.length_map]; omega, fun Z nZ => ?_⟩
    have nZ9 : H9 Z = none := s1.free nZ
    refine lc_range (lo := 0) (fun i H' => Same H9 H' ∧ ∃ zs : List Str, H' Z = some (.lst (zs.map V.str)) ∧ zs.Nodup ∧ (∀ x ∈ zs, x ∈ ns.take i) ∧ zs.length ≤ i) ⟨same_at s1 nZ9, [], upd_same, List.Pairwise.nil, (fun _ h => nomatch h), Nat.le_refl _⟩ ?_ ?_
    · clear s1 nZ H1
      rintro i H1 hi ⟨s1, zs, eZ, nz, sub, lz⟩
      rw [List.length_map] at hi
      obtain ⟨x, hx⟩ : ∃ x, ns[i]? = some x := ⟨_, List.getElem?_eq_getElem (by omega)⟩
      have hx' : (ns.map V.str)[i]? = some (.str x) := by rw [List.getElem?_map, hx] <;> rfl
      have e1 := s1 _ _ eR9
      refine ⟨rfl, _, rfl, _, rfl, R, _, _, .str x, rfl, rfl, sl_map e1, at_eqS (by omega) hx', _, rfl, _, rfl, _, rfl, R, _, rfl, sl_map e1, fun Y nY => ?_⟩
      rw [show cutV (ns.map V.str) none (some (0 + (i : Int))) = (ns.take i).map V.str by rw [Int.zero_add, cutV_to, List.map_take]]
      have s2 := same_new (o := HO.lst ((ns.take i).map V.str)) nY
      have YZ : Y ≠ Z := fun z => by rw [z, eZ] at nY; cases nY
      have step : ∀ u ∈ zs, u ∈ ns.take (i + 1) := fun u hu => by rw [take_snoc hx]; exact List.mem_append_left _ (sub u hu)
      refine ⟨Y, _, rfl, .inl (sl_map upd_same), rfl, flat_strs _, ?_⟩
      rw [if_pos rfl, in_strs]
      refine ⟨_, rfl, ite_both (fun c => ?_) fun _ => ⟨s1.trans s2, zs, s2 _ _ eZ, nz, step, by omega⟩⟩
      have c' : x ∉ ns.take i := fun z => by rw [decide_eq_true z] at c; cases c
      refine ⟨_, rfl, _, rfl, R, _, _, .str x, rfl, rfl, sl_map (s2 _ _ e1), at_eqS (by omega) hx', _, s2 _ _ eZ, by rw [List.length_map]; exact small1000 (by omega), same_at (s1.trans s2) nZ9, zs ++ [x], by rw [upd_same, List.map_append] <;> rfl, ?_, fun u hu => ?_, by rw [List.length_append]; exact Nat.succ_le_succ lz⟩
      · rw [List.nodup_append]
        refine ⟨nz, List.pairwise_singleton _ _, fun u hu v hv => ?_⟩
        rw [List.mem_singleton.mp hv]
        exact fun z => c' (z ▸ sub u hu)
      · rcases List.mem_append.mp hu with h | h
        · exact step u h
        · rw [List.mem_singleton.mp h, take_snoc hx]; exact List.mem_append_right _ (List.mem_singleton.mpr rfl)
    clear s1 nZ H1
    rintro H1 ⟨s1, zs0, eZ0, nz0, sub0, lz0⟩
    rw [List.length_map] at lz0
    refine' with_restS (fun σ H' => σ = [some (.ref a), some (.ref s), some (.int (m : Int)), some (.ref R), some (.ref pl), some (.ref en), y6, y7, y8, some (.ref Z), none, none, none, none, none] ∧ Same H9 H' ∧ ∃ zs : List Str, H' Z = some (.lst (zs.map V.str)) ∧ zs.Nodup ∧ zs ≠ [] ∧ zs.length ≤ 19) ?r2 (fun rest => ⟨_, rfl, Z, _, rfl, .inl (sl_map eZ0), rfl, _, rfl, ite_both (fun c => ?g2) fun c => rest _ _ ⟨rfl, s1, zs0, eZ0, nz0, (fun z => of_decide_eq_false c (by rw [z] <;> rfl)), by omega⟩⟩)
    case' g2 =>
      have z0 : zs0 = [] := by
        have := V.int.inj (of_decide_eq_true c)
        rw [List.length_map] at this
        exact List.length_eq_zero_iff.mp (by omega)
      exact ⟨_, rfl, .inl ⟨rfl, _, sl_map eZ0⟩, Z, _, _, rfl, rfl, eZ0, by rw [List.length_map]; exact small1000 (by omega), rest _ _ ⟨rfl, same_at s1 nZ9, ["lone"], by rw [upd_same, z0] <;> rfl, List.pairwise_singleton _ _, List.cons_ne_nil _ _, by decide⟩⟩
    clear sub0 nz0 lz0 eZ0 s1 nZ9 H1 zs0
    rintro σ H1 ⟨rfl, s1, zs, eZ, nz, nez, lz⟩
    -- the sound entries
    refine ⟨_, rfl, en, es, rfl, s1 _ _ een, lt.same s1, by omega, fun H2 r fs s2 nr er sub snd lf => ?_⟩
    have S2 := s1.trans s2
    have ltf : LmT H2 fs := fun e he => S2 _ _ (lt e (sub e he))
    have eZ2 := s2 _ _ eZ
    refine ⟨_, rfl, by show 0 ≤ sizeLine; decide, fun b nb => ⟨by show 2 ≤ sizeLine; decide, fun L nL => ?_⟩⟩
    have t1 := same_new (o := HO.lst []) nb
    have t2 := same_new (o := HO.lst [V.ref r, .ref b]) nL
    have eb : (upd (upd H2 b (.lst [])) L (.lst [V.ref r, .ref b])) b = some (.lst []) := t2 _ _ upd_same
    have eL : (upd (upd H2 b (.lst [])) L (.lst [V.ref r, .ref b])) L = some (.lst [V.ref r, .ref b]) := upd_same
    have t12 := t1.trans t2
    obtain ⟨H3, e3⟩ : ∃ H3, upd (upd H2 b (.lst [])) L (.lst [V.ref r, .ref b]) = H3 := ⟨_, rfl⟩
    rw [e3] at eb eL t12 ⊢
    clear e3 t2 t1
    refine ⟨L, rfl, ⟨_, sl_map eL⟩, for_list (xs := [V.ref r, .ref b]) (fun i σ H' => ∃ (y6 y11 : Option V), σ = [some (.ref a), some (.ref s), some (.int (m : Int)), some (.ref R), some (.ref pl), some (.ref en), y6, y7, y8, some (.ref Z), some (.ref r), y11, none, none, none] ∧ Same H3 H') ⟨_, none, rfl, fun _ _ e => e⟩ (fun i σ H' _ h => by obtain ⟨_, _, _, h⟩ := h; exact sl_map (h _ _ eL)) ?_ ?_⟩
    · rintro i x0 σ H4 hx ⟨y6, y11, rfl, s4⟩
      have t14 := t12.trans s4
      obtain ⟨q', us, rfl, eq', ltu, sou, lu⟩ : ∃ (q' : Addr) (us : List LmE), x0 = .ref q' ∧ H4 q' = some (.lst (us.map fun e => V.ref e.1)) ∧ LmT H4 us ∧ Sound (us.map (·.2)) ∧ us.length ≤ 100 := by
        have := List.mem_of_getElem? hx
        rcases List.mem_cons.mp this with h | h
        · exact ⟨r, fs, h, t14 _ _ er, ltf.same t14, snd, by omega⟩
        · exact ⟨b, [], List.mem_singleton.mp h, s4 _ _ eb, (fun _ h => nomatch h), ⟨List.Pairwise.nil, fun _ h => nomatch h⟩, by decide⟩
      refine ⟨by show 2 ≤ sizeLine; decide, fun W nW => ?_⟩
      have sW := same_new (o := HO.lst [V.int 0, .int 1]) nW
      have eW : (upd H4 W (.lst [V.int 0, .int 1])) W = some (.lst [V.int 0, .int 1]) := upd_same
      obtain ⟨H5, e5⟩ : ∃ H5, upd H4 W (.lst [V.int 0, .int 1]) = H5 := ⟨_, rfl⟩
      rw [e5] at sW eW ⊢
      refine ⟨W, rfl, ⟨_, sl_map eW⟩, for_list (xs := [V.int 0, .int 1]) (fun i σ H' => ∃ (y6 : Option V), σ = [some (.ref a), some (.ref s), some (.int (m : Int)), some (.ref R), some (.ref pl), some (.ref en), y6, y7, y8, some (.ref Z), some (.ref r), some (.ref q'), none, none, none] ∧ Same H5 H') ⟨_, rfl, fun _ _ e => e⟩ (fun i σ H' _ h => by obtain ⟨_, _, h⟩ := h; exact sl_map (h _ _ eW)) ?_ ?_⟩
      · rintro j x1 σ H6 hx1 ⟨y6, rfl, s6⟩
        obtain ⟨way, rfl, hw⟩ : ∃ way : Int, x1 = .int way ∧ (way = 0 ∨ way = 1) := by
          have := List.mem_of_getElem? hx1
          rcases List.mem_cons.mp this with h | h
          · exact ⟨0, h, .inl rfl⟩
          · exact ⟨1, List.mem_singleton.mp h, .inr rfl⟩
        have S6 := sW.trans s6
        refine ⟨_, rfl, Z, _, rfl, .inl (sl_map (S6 _ _ (t14 _ _ eZ2))), fun nh nnh => ?_⟩
        have u1 := same_new (o := HO.lst (zs.map V.str)) nnh
        refine ⟨_, rfl, q', _, rfl, .inl (sl_map (u1 _ _ (S6 _ _ eq'))), fun lh nlh => ?_⟩
        have u2 := same_new (o := HO.lst (us.map fun e => V.ref e.1)) nlh
        have u12 := u1.trans u2
        refine ⟨_, rfl, nh, lh, zs, us, way, rfl, u2 _ _ upd_same, by omega, upd_same, (ltu.same S6).same u12, lu, hw, fun H7 v s7 td => ?_⟩
        rw [refOf_ok nez nz sou] at td
        rcases td with ⟨_, rfl⟩ | ⟨h, _⟩
        · exact ⟨_, rfl, ite_both (fun c => absurd c (by simp)) fun _ => ⟨_, rfl, s6.trans (u12.trans s7)⟩⟩
        · exact absurd rfl h
      · rintro σ H6 ⟨y6, rfl, s6⟩
        exact ⟨_, _, rfl, s4.trans (sW.trans s6)⟩
    rintro σ H4 ⟨y6', y11, rfl, s4⟩
    have t14 := t12.trans s4
    have S4 := S2.trans t14
    have eZ4 := t14 _ _ eZ2
    have er4 := t14 _ _ er
    have ltf4 := ltf.same t14
    have ep4 := S4 _ _ ep9
    refine ⟨_, rfl, a, cs, 3, rfl, (S9.trans S4).seq ha, fun H5 q3 s5 nq3 st5 => ?_⟩
    have Zq : Z ≠ q3 := ne_some' eZ4 nq3
    have rq : r ≠ q3 := ne_some' er4 nq3
    have plq : pl ≠ q3 := ne_some' ep4 nq3
    have eZ5 := s5 _ _ eZ4
    have er5 := s5 _ _ er4
    have ltf5 := ltf4.same s5
    have ep5 := s5 _ _ ep4
    refine ⟨_, rfl, Z, rfl, ⟨_, sl_map eZ5⟩, fun T0 nT => ?_⟩
    have Ts : T0 ≠ q3 := fun z => st5.some (z ▸ nT)
    refine lc_list (xs := zs.map V.str) (fun i H' => Keep q3 H5 H' ∧ Strm H' q3 ∧ ∃ ts : List Int, H' T0 = some (.lst (ts.map V.int)) ∧ ts.length = i) ⟨Keep.same (same_new nT), st5.upd Ts.symm, [], upd_same, rfl⟩ (fun i H' _ h => sl_map (h.1 _ _ Zq eZ5)) ?_ ?_
    · rintro i x0 H6 hx0 ⟨k6, st6, ts, eT, lts⟩
      have hi := (List.getElem?_eq_some_iff.mp hx0).1
      rw [List.length_map] at hi
      have ep6 := k6 _ _ plq ep5
      refine ⟨rfl, _, rfl, _, rfl, _, rfl, pl, _, rfl, .inl (sl_map ep6), q3, _, rfl, st6, by rw [List.length_map]; omega, by rw [List.length_map]; omega, fun H7 y o7 st7 y0 y1 => ?_⟩
      rw [List.length_map] at y1
      obtain ⟨d, rfl⟩ : ∃ d : Nat, y = (d : Int) := ⟨y.toNat, by omega⟩
      obtain ⟨x, hx⟩ : ∃ x, ps[d]? = some x := ⟨_, List.getElem?_eq_getElem (by omega)⟩
      have k7 := k6.oth o7
      have eT7 := (o7 _ Ts).trans eT
      exact ⟨pl, _, _, .int x, rfl, rfl, sl_map (k7 _ _ plq ep5), atI_nat (j := d) (by rw [List.getElem?_map, hx] <;> rfl), _, eT7, by rw [List.length_map]; exact small1000 (by omega), k7.at_ nT, st7.upd Ts.symm, ts ++ [x], by rw [upd_same, List.map_append] <;> rfl, by rw [List.length_append, lts] <;> rfl⟩
    rintro H6 ⟨k6, st6, ts, eT, lts⟩
    rw [List.length_map] at lts
    exact ⟨_, rfl, _, rfl, _, rfl, Z, r, T0, zs, fs, ts, rfl, k6 _ _ Zq eZ5, nz, nez, by omega, k6 _ _ rq er5, fun e he => keep_tup' st5 k6 (ltf5 e he), snd, by omega, eT, lts, fun H' => q _⟩
end
end K23
set_option Elab.async false
set_option linter.all false
set_option maxRecDepth 100000
set_option maxHeartbeats 4000000
namespace K23
open PySem PySem.Spec PyProof.Rows L2 Cs CsX
/-! ### what the top has written -/
theorem all_mk {l : PySem.W.OpenLaw} {w : World} {K : PySem.W.Frag} {h : Heap} {mg : Str → Option Value} {fa kk0 kk1 km0_0 km0_1 km1_0 km1_1 f1 f2 f3 f4 f5 f6 f7 f8 f9 f10 f11 f12 f13 f14 f15 f16 f17 f18 f19 f20 f21 f22 e0 e1 e2 e3 e4 e5 e6 e7 e8 e9 e10 e11 e12 e13 e14 e15 e16 e17 e18 e19 e20 e21 e22 e23 e24 i0 i1 i2 : Addr} (X : K.In h) (G : h.Ns mainGlobals mg) (hfa : mg "law" = some (.ref fa))
    {od1 an1 od2 an2 od3 an3 od4 an4 od5 an5 od6 an6 od7 an7 od8 an8 od9 an9 od10 an10 od11 an11 od12 an12 od13 an13 od14 an14 od15 an15 od16 an16 od17 an17 od18 an18 od19 an19 od20 an20 od21 an21 od22 an22 : Option Addr} {sl1 sl2 sl3 sl4 sl5 sl6 sl7 sl8 sl9 sl10 sl11 sl12 sl13 sl14 sl15 sl16 sl17 sl18 sl19 sl20 sl21 sl22 : Array (Option Value)}
    {oc1 kV1 dc1 pm1 cd1 ct1 oc2 kV2 dc2 pm2 cd2 ct2 oc3 kV3 dc3 pm3 cd3 ct3 oc4 kV4 dc4 pm4 cd4 ct4 oc5 kV5 dc5 pm5 cd5 ct5 oc6 kV6 dc6 pm6 cd6 ct6 oc7 kV7 dc7 pm7 cd7 ct7 oc8 kV8 dc8 pm8 cd8 ct8 oc9 kV9 dc9 pm9 cd9 ct9 oc10 kV10 dc10 pm10 cd10 ct10 oc11 kV11 dc11 pm11 cd11 ct11 oc12 kV12 dc12 pm12 cd12 ct12 oc13 kV13 dc13 pm13 cd13 ct13 oc14 kV14 dc14 pm14 cd14 ct14 oc15 kV15 dc15 pm15 cd15 ct15 oc16 kV16 dc16 pm16 cd16 ct16 oc17 kV17 dc17 pm17 cd17 ct17 oc18 kV18 dc18 pm18 cd18 ct18 oc19 kV19 dc19 pm19 cd19 ct19 oc20 kV20 dc20 pm20 cd20 ct20 oc21 kV21 dc21 pm21 cd21 ct21 oc22 kV22 dc22 pm22 cd22 ct22 : Value}
    {km0_0od km0_0an : Option Addr} {km0_0sl : Array (Option Value)} {km0_0oc km0_0kV km0_0dc km0_0pm km0_0cd km0_0ct : Value}
    {km0_1od km0_1an : Option Addr} {km0_1sl : Array (Option Value)} {km0_1oc km0_1kV km0_1dc km0_1pm km0_1cd km0_1ct : Value}
    {km1_0od km1_0an : Option Addr} {km1_0sl : Array (Option Value)} {km1_0oc km1_0kV km1_0dc km1_0pm km1_0cd km1_0ct : Value}
    {km1_1od km1_1an : Option Addr} {km1_1sl : Array (Option Value)} {km1_1oc km1_1kV km1_1dc km1_1pm km1_1cd km1_1ct : Value}
    {iod0 ian0 : Option Addr} {isl0 : Array (Option Value)} {ioc0 ikV0 idc0 ipm0 icd0 ict0 : Value} {nm0 q0 : Str} {N0 : Addr} {bs0 : List Value} {sn0 : List Str} {sub0 : List Value} {ab0 : Bool} {col0 : Option Bool} {dd0 : Option Addr} {m00 m10 m20 m30 m50 : Option Value}
    {iod1 ian1 : Option Addr} {isl1 : Array (Option Value)} {ioc1 ikV1 idc1 ipm1 icd1 ict1 : Value} {nm1 q1 : Str} {N1 : Addr} {bs1 : List Value} {sn1 : List Str} {sub1 : List Value} {ab1 : Bool} {col1 : Option Bool} {dd1 : Option Addr} {m01 m11 m21 m31 m51 : Option Value}
    {iod2 ian2 : Option Addr} {isl2 : Array (Option Value)} {ioc2 ikV2 idc2 ipm2 icd2 ict2 : Value} {nm2 q2 : Str} {N2 : Addr} {bs2 : List Value} {sn2 : List Str} {sub2 : List Value} {ab2 : Bool} {col2 : Option Bool} {dd2 : Option Addr} {m02 m12 m22 m32 m52 : Option Value}
    (a1 : PySem.W.nsIn K mainGlobals "_law_stream" = some (some (.ref f1))) (l1 : K.lookup f1 = some ⟨oc1, od1, .func (PySem.W.fnOf "_law_stream" "_law_stream" (defArgs sStream) (defBody sStream) (defScope sStream) .none kV1 dc1 pm1 an1 cd1 ct1), sl1⟩) (c1 : PySem.W.codeIn K cd1 "_law_stream" = true) (k1 : PySem.W.keepIn K (.ref f1) = true)
    (a2 : PySem.W.nsIn K mainGlobals "_law_next" = some (some (.ref f2))) (l2 : K.lookup f2 = some ⟨oc2, od2, .func (PySem.W.fnOf "_law_next" "_law_next" (defArgs sDraw) (defBody sDraw) (defScope sDraw) .none kV2 dc2 pm2 an2 cd2 ct2), sl2⟩) (c2 : PySem.W.codeIn K cd2 "_law_next" = true) (k2 : PySem.W.keepIn K (.ref f2) = true)
    (a3 : PySem.W.nsIn K mainGlobals "_law_names" = some (some (.ref f3))) (l3 : K.lookup f3 = some ⟨oc3, od3, .func (PySem.W.fnOf "_law_names" "_law_names" (defArgs sNames) (defBody sNames) (defScope sNames) .none kV3 dc3 pm3 an3 cd3 ct3), sl3⟩) (c3 : PySem.W.codeIn K cd3 "_law_names" = true) (k3 : PySem.W.keepIn K (.ref f3) = true)
    (a4 : PySem.W.nsIn K mainGlobals "_law_many_names" = some (some (.ref f4))) (l4 : K.lookup f4 = some ⟨oc4, od4, .func (PySem.W.fnOf "_law_many_names" "_law_many_names" (defArgs sMn) (defBody sMn) (defScope sMn) .none kV4 dc4 pm4 an4 cd4 ct4), sl4⟩) (c4 : PySem.W.codeIn K cd4 "_law_many_names" = true) (k4 : PySem.W.keepIn K (.ref f4) = true)
    (a5 : PySem.W.nsIn K mainGlobals "_law_drawn_names" = some (some (.ref f5))) (l5 : K.lookup f5 = some ⟨oc5, od5, .func (PySem.W.fnOf "_law_drawn_names" "_law_drawn_names" (defArgs sDn) (defBody sDn) (defScope sDn) .none kV5 dc5 pm5 an5 cd5 ct5), sl5⟩) (c5 : PySem.W.codeIn K cd5 "_law_drawn_names" = true) (k5 : PySem.W.keepIn K (.ref f5) = true)
    (a6 : PySem.W.nsIn K mainGlobals "_law_repeated" = some (some (.ref f6))) (l6 : K.lookup f6 = some ⟨oc6, od6, .func (PySem.W.fnOf "_law_repeated" "_law_repeated" (defArgs sRep) (defBody sRep) (defScope sRep) .none kV6 dc6 pm6 an6 cd6 ct6), sl6⟩) (c6 : PySem.W.codeIn K cd6 "_law_repeated" = true) (k6 : PySem.W.keepIn K (.ref f6) = true)
    (a7 : PySem.W.nsIn K mainGlobals "_law_pool" = some (some (.ref f7))) (l7 : K.lookup f7 = some ⟨oc7, od7, .func (PySem.W.fnOf "_law_pool" "_law_pool" (defArgs sPool) (defBody sPool) (defScope sPool) .none kV7 dc7 pm7 an7 cd7 ct7), sl7⟩) (c7 : PySem.W.codeIn K cd7 "_law_pool" = true) (k7 : PySem.W.keepIn K (.ref f7) = true)
    (a8 : PySem.W.nsIn K mainGlobals "_law_shuffled" = some (some (.ref f8))) (l8 : K.lookup f8 = some ⟨oc8, od8, .func (PySem.W.fnOf "_law_shuffled" "_law_shuffled" (defArgs sSf) (defBody sSf) (defScope sSf) .none kV8 dc8 pm8 an8 cd8 ct8), sl8⟩) (c8 : PySem.W.codeIn K cd8 "_law_shuffled" = true) (k8 : PySem.W.keepIn K (.ref f8) = true)
    (a9 : PySem.W.nsIn K mainGlobals "_law_entries" = some (some (.ref f9))) (l9 : K.lookup f9 = some ⟨oc9, od9, .func (PySem.W.fnOf "_law_entries" "_law_entries" (defArgs sEnt) (defBody sEnt) (defScope sEnt) .none kV9 dc9 pm9 an9 cd9 ct9), sl9⟩) (c9 : PySem.W.codeIn K cd9 "_law_entries" = true) (k9 : PySem.W.keepIn K (.ref f9) = true)
    (a10 : PySem.W.nsIn K mainGlobals "checked_names" = some (some (.ref f10))) (l10 : K.lookup f10 = some ⟨oc10, od10, .func (PySem.W.fnOf "checked_names" "checked_names" (defArgs sChk) (defBody sChk) (defScope sChk) .none kV10 dc10 pm10 an10 cd10 ct10), sl10⟩) (c10 : PySem.W.codeIn K cd10 "checked_names" = true) (k10 : PySem.W.keepIn K (.ref f10) = true)
    (a11 : PySem.W.nsIn K mainGlobals "_checked_limits" = some (some (.ref f11))) (l11 : K.lookup f11 = some ⟨oc11, od11, .func (PySem.W.fnOf "_checked_limits" "_checked_limits" (defArgs sCl) (defBody sCl) (defScope sCl) .none kV11 dc11 pm11 an11 cd11 ct11), sl11⟩) (c11 : PySem.W.codeIn K cd11 "_checked_limits" = true) (k11 : PySem.W.keepIn K (.ref f11) = true)
    (a12 : PySem.W.nsIn K mainGlobals "_law_refusal" = some (some (.ref f12))) (l12 : K.lookup f12 = some ⟨oc12, od12, .func (PySem.W.fnOf "_law_refusal" "_law_refusal" (defArgs sRfl) (defBody sRfl) (defScope sRfl) .none kV12 dc12 pm12 an12 cd12 ct12), sl12⟩) (c12 : PySem.W.codeIn K cd12 "_law_refusal" = true) (k12 : PySem.W.keepIn K (.ref f12) = true)
    (a13 : PySem.W.nsIn K mainGlobals "_law_due" = some (some (.ref f13))) (l13 : K.lookup f13 = some ⟨oc13, od13, .func (PySem.W.fnOf "_law_due" "_law_due" (defArgs sDue) (defBody sDue) (defScope sDue) .none kV13 dc13 pm13 an13 cd13 ct13), sl13⟩) (c13 : PySem.W.codeIn K cd13 "_law_due" = true) (k13 : PySem.W.keepIn K (.ref f13) = true)
    (a14 : PySem.W.nsIn K mainGlobals "_law_is_integer" = some (some (.ref f14))) (l14 : K.lookup f14 = some ⟨oc14, od14, .func (PySem.W.fnOf "_law_is_integer" "_law_is_integer" (defArgs sIsInt) (defBody sIsInt) (defScope sIsInt) .none kV14 dc14 pm14 an14 cd14 ct14), sl14⟩) (c14 : PySem.W.codeIn K cd14 "_law_is_integer" = true) (k14 : PySem.W.keepIn K (.ref f14) = true)
    (a15 : PySem.W.nsIn K mainGlobals "_law_same_refusal" = some (some (.ref f15))) (l15 : K.lookup f15 = some ⟨oc15, od15, .func (PySem.W.fnOf "_law_same_refusal" "_law_same_refusal" (defArgs sSrf) (defBody sSrf) (defScope sSrf) .none kV15 dc15 pm15 an15 cd15 ct15), sl15⟩) (c15 : PySem.W.codeIn K cd15 "_law_same_refusal" = true) (k15 : PySem.W.keepIn K (.ref f15) = true)
    (a16 : PySem.W.nsIn K mainGlobals "_law_sound_entries" = some (some (.ref f16))) (l16 : K.lookup f16 = some ⟨oc16, od16, .func (PySem.W.fnOf "_law_sound_entries" "_law_sound_entries" (defArgs sSnd) (defBody sSnd) (defScope sSnd) .none kV16 dc16 pm16 an16 cd16 ct16), sl16⟩) (c16 : PySem.W.codeIn K cd16 "_law_sound_entries" = true) (k16 : PySem.W.keepIn K (.ref f16) = true)
    (a17 : PySem.W.nsIn K mainGlobals "row_of" = some (some (.ref f17))) (l17 : K.lookup f17 = some ⟨oc17, od17, .func (PySem.W.fnOf "row_of" "row_of" (defArgs sRof) (defBody sRof) (defScope sRof) .none kV17 dc17 pm17 an17 cd17 ct17), sl17⟩) (c17 : PySem.W.codeIn K cd17 "row_of" = true) (k17 : PySem.W.keepIn K (.ref f17) = true)
    (a18 : PySem.W.nsIn K mainGlobals "side_of" = some (some (.ref f18))) (l18 : K.lookup f18 = some ⟨oc18, od18, .func (PySem.W.fnOf "side_of" "side_of" (defArgs sSof) (defBody sSof) (defScope sSof) .none kV18 dc18 pm18 an18 cd18 ct18), sl18⟩) (c18 : PySem.W.codeIn K cd18 "side_of" = true) (k18 : PySem.W.keepIn K (.ref f18) = true)
    (a19 : PySem.W.nsIn K mainGlobals "_law_keeps" = some (some (.ref f19))) (l19 : K.lookup f19 = some ⟨oc19, od19, .func (PySem.W.fnOf "_law_keeps" "_law_keeps" (defArgs sKp) (defBody sKp) (defScope sKp) .none kV19 dc19 pm19 an19 cd19 ct19), sl19⟩) (c19 : PySem.W.codeIn K cd19 "_law_keeps" = true) (k19 : PySem.W.keepIn K (.ref f19) = true)
    (a20 : PySem.W.nsIn K mainGlobals "_law_same_limits" = some (some (.ref f20))) (l20 : K.lookup f20 = some ⟨oc20, od20, .func (PySem.W.fnOf "_law_same_limits" "_law_same_limits" (defArgs sSl) (defBody sSl) (defScope sSl) .none kV20 dc20 pm20 an20 cd20 ct20), sl20⟩) (c20 : PySem.W.codeIn K cd20 "_law_same_limits" = true) (k20 : PySem.W.keepIn K (.ref f20) = true)
    (a21 : PySem.W.nsIn K mainGlobals "_law_made_holds" = some (some (.ref f21))) (l21 : K.lookup f21 = some ⟨oc21, od21, .func (PySem.W.fnOf "_law_made_holds" "_law_made_holds" (defArgs sMh) (defBody sMh) (defScope sMh) .none kV21 dc21 pm21 an21 cd21 ct21), sl21⟩) (c21 : PySem.W.codeIn K cd21 "_law_made_holds" = true) (k21 : PySem.W.keepIn K (.ref f21) = true)
    (a22 : PySem.W.nsIn K mainGlobals "law" = some (some (.ref f22))) (l22 : K.lookup f22 = some ⟨oc22, od22, .func (PySem.W.fnOf "law" "law" (defArgs sLaw) (defBody sLaw) (defScope sLaw) .none kV22 dc22 pm22 an22 cd22 ct22), sl22⟩) (c22 : PySem.W.codeIn K cd22 "law" = true) (k22 : PySem.W.keepIn K (.ref f22) = true)
    (kc0 : PySem.W.nsIn K mainGlobals "Unlike" = some (some (.ref kk0)))
    (kpg0 : PySem.W.plainGet K kk0 Str.empty = true)
    (khd0 : PySem.W.hasDictIn K kk0 = true)
    (kpo0 : PySem.W.plainOver K kk0 = true)
    (ksa0 : PySem.W.findIn K (.ref kk0) "__setattr__" = some (some (.builtin "object.__setattr__")))
    (kmk0 : PySem.W.makesIn K kk0 = true)
    (kkc0 : PySem.W.keepIn K (.ref kk0) = true)
    (kn0_0 : PySem.W.findIn K (.ref kk0) "names" = some none)
    (km0_0a : PySem.W.findIn K (.ref kk0) "__init__" = some (some (.ref km0_0)))
    (km0_0i : PySem.W.isFn K (.ref km0_0) = true)
    (km0_0l : K.lookup km0_0 = some ⟨km0_0oc, km0_0od, .func (PySem.W.fnOf "__init__" "Unlike.__init__" (defArgs sUin) (defBody sUin) (defScope sUin) .none km0_0kV km0_0dc km0_0pm km0_0an km0_0cd km0_0ct), km0_0sl⟩)
    (km0_0c : PySem.W.codeIn K km0_0cd "Unlike.__init__" = true)
    (km0_0k : PySem.W.keepIn K (.ref km0_0) = true)
    (km0_1a : PySem.W.findIn K (.ref kk0) "allows" = some (some (.ref km0_1)))
    (km0_1i : PySem.W.isFn K (.ref km0_1) = true)
    (km0_1l : K.lookup km0_1 = some ⟨km0_1oc, km0_1od, .func (PySem.W.fnOf "allows" "Unlike.allows" (defArgs sUal) (defBody sUal) (defScope sUal) .none km0_1kV km0_1dc km0_1pm km0_1an km0_1cd km0_1ct), km0_1sl⟩)
    (km0_1c : PySem.W.codeIn K km0_1cd "Unlike.allows" = true)
    (km0_1k : PySem.W.keepIn K (.ref km0_1) = true)
    (kc1 : PySem.W.nsIn K mainGlobals "Counts" = some (some (.ref kk1)))
    (kpg1 : PySem.W.plainGet K kk1 Str.empty = true)
    (khd1 : PySem.W.hasDictIn K kk1 = true)
    (kpo1 : PySem.W.plainOver K kk1 = true)
    (ksa1 : PySem.W.findIn K (.ref kk1) "__setattr__" = some (some (.builtin "object.__setattr__")))
    (kmk1 : PySem.W.makesIn K kk1 = true)
    (kkc1 : PySem.W.keepIn K (.ref kk1) = true)
    (kn1_0 : PySem.W.findIn K (.ref kk1) "names" = some none)
    (kn1_1 : PySem.W.findIn K (.ref kk1) "limits" = some none)
    (km1_0a : PySem.W.findIn K (.ref kk1) "__init__" = some (some (.ref km1_0)))
    (km1_0i : PySem.W.isFn K (.ref km1_0) = true)
    (km1_0l : K.lookup km1_0 = some ⟨km1_0oc, km1_0od, .func (PySem.W.fnOf "__init__" "Counts.__init__" (defArgs sCin) (defBody sCin) (defScope sCin) .none km1_0kV km1_0dc km1_0pm km1_0an km1_0cd km1_0ct), km1_0sl⟩)
    (km1_0c : PySem.W.codeIn K km1_0cd "Counts.__init__" = true)
    (km1_0k : PySem.W.keepIn K (.ref km1_0) = true)
    (km1_1a : PySem.W.findIn K (.ref kk1) "allows" = some (some (.ref km1_1)))
    (km1_1i : PySem.W.isFn K (.ref km1_1) = true)
    (km1_1l : K.lookup km1_1 = some ⟨km1_1oc, km1_1od, .func (PySem.W.fnOf "allows" "Counts.allows" (defArgs sAlo) (defBody sAlo) (defScope sAlo) .none km1_1kV km1_1dc km1_1pm km1_1an km1_1cd km1_1ct), km1_1sl⟩)
    (km1_1c : PySem.W.codeIn K km1_1cd "Counts.allows" = true)
    (km1_1k : PySem.W.keepIn K (.ref km1_1) = true)
    (cg0 : PySem.W.nsIn K mainGlobals "RepeatedName" = some (some (.ref e0)))
    (cg1 : PySem.W.nsIn K mainGlobals "BadBounds" = some (some (.ref e1)))
    (cg2 : PySem.W.nsIn K mainGlobals "RepeatedValue" = some (some (.ref e2)))
    (cg3 : PySem.W.nsIn K mainGlobals "EmptyRule" = some (some (.ref e3)))
    (cg4 : PySem.W.nsIn K mainGlobals "RepeatedKey" = some (some (.ref e4)))
    (cg5 : PySem.W.nsIn K mainGlobals "BadRow" = some (some (.ref e5)))
    (cg6 : PySem.W.nsIn K mainGlobals "BadOrder" = some (some (.ref e6)))
    (cg7 : PySem.W.nsIn K mainGlobals "UnknownKey" = some (some (.ref e7)))
    (cg8 : PySem.W.nsIn K mainGlobals "BadNumber" = some (some (.ref e8)))
    (cg9 : PySem.W.nsIn K mainGlobals "BadStep" = some (some (.ref e9)))
    (cg10 : PySem.W.nsIn K mainGlobals "NoMark" = some (some (.ref e10)))
    (cg11 : PySem.W.nsIn K mainGlobals "NotStruck" = some (some (.ref e11)))
    (cg12 : PySem.W.nsIn K mainGlobals "NotBare" = some (some (.ref e12)))
    (cg13 : PySem.W.nsIn K mainGlobals "NoClash" = some (some (.ref e13)))
    (cg14 : PySem.W.nsIn K mainGlobals "HoldsAnswer" = some (some (.ref e14)))
    (cg15 : PySem.W.nsIn K mainGlobals "BadLine" = some (some (.ref e15)))
    (cg16 : PySem.W.nsIn K mainGlobals "UnknownLine" = some (some (.ref e16)))
    (cg17 : PySem.W.nsIn K mainGlobals "BadText" = some (some (.ref e17)))
    (cg18 : PySem.W.nsIn K mainGlobals "NothingToUndo" = some (some (.ref e18)))
    (cg19 : PySem.W.nsIn K mainGlobals "NothingToRedo" = some (some (.ref e19)))
    (cg20 : PySem.W.nsIn K mainGlobals "UnknownStep" = some (some (.ref e20)))
    (cg21 : PySem.W.nsIn K mainGlobals "BadDeed" = some (some (.ref e21)))
    (cg22 : PySem.W.nsIn K mainGlobals "UnknownName" = some (some (.ref e22)))
    (cg23 : PySem.W.nsIn K mainGlobals "UnknownValue" = some (some (.ref e23)))
    (cg24 : PySem.W.nsIn K mainGlobals "DeskError" = some (some (.ref e24)))
    (oe0 : PySem.W.excIn K e3 [.type "ValueError", .type "Exception", .type "BaseException", .type "object"] "ValueError.__new__" = true)
    (ok0 : PySem.W.keepIn K (.ref e3) = true)
    (ob0 : PySem.W.subIn K (.ref e3) (.type "BaseException") = some true)
    (ot0 : PySem.W.typeIn K (.ref e3) = some (.type "type"))
    (x0 : K.lookup e0 = some (excClassObj nm0 q0 e0 N0 bs0 [.ref e24, .type "ValueError", .type "Exception", .type "BaseException", .type "object"] true sn0 sub0 ab0 col0 dd0 m00 m10 m20 m30 m50 "ValueError.__new__"))
    (xsa0 : PySem.W.findIn K (.ref e0) "__setattr__" = some (some (.builtin "object.__setattr__")))
    (xga0 : PySem.W.findIn K (.ref e0) "__getattribute__" = some (some (.builtin "BaseException.__getattribute__")))
    (xgg0 : PySem.W.findIn K (.ref e0) "__getattr__" = some none)
    (xf0_0 : PySem.W.findIn K (.ref e0) "name" = some none)
    (xin0 : PySem.W.findIn K (.ref e0) "__init__" = some (some (.ref i0)))
    (xti0 : PySem.W.typeIn K (.ref i0) = some (.type "function"))
    (xli0 : K.lookup i0 = some ⟨ioc0, iod0, .func (PySem.W.fnOf "__init__" "RepeatedName.__init__" (defArgs sErn) (defBody sErn) (defScope sErn) .none ikV0 idc0 ipm0 ian0 icd0 ict0), isl0⟩)
    (xci0 : PySem.W.codeIn K icd0 "RepeatedName.__init__" = true)
    (xki0 : PySem.W.keepIn K (.ref i0) = true)
    (xkc0 : PySem.W.keepIn K (.ref e0) = true)
    (xec0 : PySem.W.subIn K (.ref e0) (.type "BaseException") = some true)
    (xtc0 : PySem.W.typeIn K (.ref e0) = some (.type "type"))
    (xhc0 : PySem.W.hasDictIn K e0 = true)
    (xsc0 : PySem.W.subIn K (.ref e0) (.ref e0) = some true)
    (xha0 : PySem.W.findIn K (.ref e0) "__class__" = some (some (.builtin "object.__class__")))
    (xhn0 : PySem.W.specialIn K (.builtin "object.__class__") "__get__" = some (some (.builtin "getset_descriptor.__get__")))
    (xht0 : PySem.W.takesIn K (.builtin "object.__class__") = some true)
    (xhm0 : PySem.W.mroIn K e0 (.type "object") = some true)
    (x1 : K.lookup e1 = some (excClassObj nm1 q1 e1 N1 bs1 [.ref e24, .type "ValueError", .type "Exception", .type "BaseException", .type "object"] true sn1 sub1 ab1 col1 dd1 m01 m11 m21 m31 m51 "ValueError.__new__"))
    (xsa1 : PySem.W.findIn K (.ref e1) "__setattr__" = some (some (.builtin "object.__setattr__")))
    (xga1 : PySem.W.findIn K (.ref e1) "__getattribute__" = some (some (.builtin "BaseException.__getattribute__")))
    (xgg1 : PySem.W.findIn K (.ref e1) "__getattr__" = some none)
    (xf0_1 : PySem.W.findIn K (.ref e1) "low" = some none)
    (xf1_1 : PySem.W.findIn K (.ref e1) "high" = some none)
    (xin1 : PySem.W.findIn K (.ref e1) "__init__" = some (some (.ref i1)))
    (xti1 : PySem.W.typeIn K (.ref i1) = some (.type "function"))
    (xli1 : K.lookup i1 = some ⟨ioc1, iod1, .func (PySem.W.fnOf "__init__" "BadBounds.__init__" (defArgs sEbb) (defBody sEbb) (defScope sEbb) .none ikV1 idc1 ipm1 ian1 icd1 ict1), isl1⟩)
    (xci1 : PySem.W.codeIn K icd1 "BadBounds.__init__" = true)
    (xki1 : PySem.W.keepIn K (.ref i1) = true)
    (xkc1 : PySem.W.keepIn K (.ref e1) = true)
    (xec1 : PySem.W.subIn K (.ref e1) (.type "BaseException") = some true)
    (xtc1 : PySem.W.typeIn K (.ref e1) = some (.type "type"))
    (xhc1 : PySem.W.hasDictIn K e1 = true)
    (xsc1 : PySem.W.subIn K (.ref e1) (.ref e1) = some true)
    (xha1 : PySem.W.findIn K (.ref e1) "__class__" = some (some (.builtin "object.__class__")))
    (xhn1 : PySem.W.specialIn K (.builtin "object.__class__") "__get__" = some (some (.builtin "getset_descriptor.__get__")))
    (xht1 : PySem.W.takesIn K (.builtin "object.__class__") = some true)
    (xhm1 : PySem.W.mroIn K e1 (.type "object") = some true)
    (x2 : K.lookup e2 = some (excClassObj nm2 q2 e2 N2 bs2 [.ref e24, .type "ValueError", .type "Exception", .type "BaseException", .type "object"] true sn2 sub2 ab2 col2 dd2 m02 m12 m22 m32 m52 "ValueError.__new__"))
    (xsa2 : PySem.W.findIn K (.ref e2) "__setattr__" = some (some (.builtin "object.__setattr__")))
    (xga2 : PySem.W.findIn K (.ref e2) "__getattribute__" = some (some (.builtin "BaseException.__getattribute__")))
    (xgg2 : PySem.W.findIn K (.ref e2) "__getattr__" = some none)
    (xf0_2 : PySem.W.findIn K (.ref e2) "value" = some none)
    (xin2 : PySem.W.findIn K (.ref e2) "__init__" = some (some (.ref i2)))
    (xti2 : PySem.W.typeIn K (.ref i2) = some (.type "function"))
    (xli2 : K.lookup i2 = some ⟨ioc2, iod2, .func (PySem.W.fnOf "__init__" "RepeatedValue.__init__" (defArgs sErv) (defBody sErv) (defScope sErv) .none ikV2 idc2 ipm2 ian2 icd2 ict2), isl2⟩)
    (xci2 : PySem.W.codeIn K icd2 "RepeatedValue.__init__" = true)
    (xki2 : PySem.W.keepIn K (.ref i2) = true)
    (xkc2 : PySem.W.keepIn K (.ref e2) = true)
    (xec2 : PySem.W.subIn K (.ref e2) (.type "BaseException") = some true)
    (xtc2 : PySem.W.typeIn K (.ref e2) = some (.type "type"))
    (xhc2 : PySem.W.hasDictIn K e2 = true)
    (xsc2 : PySem.W.subIn K (.ref e2) (.ref e2) = some true)
    (xha2 : PySem.W.findIn K (.ref e2) "__class__" = some (some (.builtin "object.__class__")))
    (xhn2 : PySem.W.specialIn K (.builtin "object.__class__") "__get__" = some (some (.builtin "getset_descriptor.__get__")))
    (xht2 : PySem.W.takesIn K (.builtin "object.__class__") = some true)
    (xhm2 : PySem.W.mroIn K e2 (.type "object") = some true)
    (rDs : PySem.W.subIn K (.ref e24) (.type "BaseException") = some true)
    (rDd : PySem.W.hasDictIn K e24 = true)
    (rDt : PySem.W.typeIn K (.ref e24) = some (.type "type"))
    (rQg0 : PySem.W.findIn K (.ref e3) "__getattribute__" = some (some (.builtin "BaseException.__getattribute__")))
    (rQk0 : PySem.W.findIn K (.ref e3) "__getattr__" = some none)
    (rQs0 : PySem.W.subIn K (.ref e3) (.type "BaseException") = some true)
    (rQd0 : PySem.W.hasDictIn K e3 = true)
    (rQa0 : PySem.W.findIn K (.ref e3) "__class__" = some (some (.builtin "object.__class__")))
    (rQn0 : PySem.W.specialIn K (.builtin "object.__class__") "__get__" = some (some (.builtin "getset_descriptor.__get__")))
    (rQt0 : PySem.W.takesIn K (.builtin "object.__class__") = some true)
    (rQm0 : PySem.W.mroIn K e3 (.type "object") = some true)
    (rQc0 : PySem.W.subIn K (.ref e3) (.ref e24) = some true)
    (rQv0 : PySem.W.kitOne K (.ref e3) (.type "ValueError") = some true)
    (rQu0_0 : PySem.W.kitOne K (.ref e3) (.ref e22) = some false)
    (rQu0_1 : PySem.W.kitOne K (.ref e3) (.ref e23) = some false)
    (rQ90 : PySem.W.kitAny K (.ref e3) [.ref e4, .ref e5, .ref e6, .ref e7, .ref e8, .ref e9, .ref e10, .ref e11, .ref e12] = some false)
    (rQ70 : PySem.W.kitAny K (.ref e3) [.ref e13, .ref e14, .ref e15, .ref e16, .ref e17, .ref e18, .ref e19] = some false)
    (rQ20 : PySem.W.kitAny K (.ref e3) [.ref e20, .ref e21] = some false)
    (rQe0_0 : PySem.W.kitOne K (.ref e3) (.ref e3) = some true)
    (rQe0_1 : PySem.W.kitOne K (.ref e3) (.ref e0) = some false)
    (rQe0_2 : PySem.W.kitOne K (.ref e3) (.ref e1) = some false)
    (rQe0_3 : PySem.W.kitOne K (.ref e3) (.ref e2) = some false)
    (rQg1 : PySem.W.findIn K (.ref e0) "__getattribute__" = some (some (.builtin "BaseException.__getattribute__")))
    (rQk1 : PySem.W.findIn K (.ref e0) "__getattr__" = some none)
    (rQs1 : PySem.W.subIn K (.ref e0) (.type "BaseException") = some true)
    (rQd1 : PySem.W.hasDictIn K e0 = true)
    (rQa1 : PySem.W.findIn K (.ref e0) "__class__" = some (some (.builtin "object.__class__")))
    (rQn1 : PySem.W.specialIn K (.builtin "object.__class__") "__get__" = some (some (.builtin "getset_descriptor.__get__")))
    (rQt1 : PySem.W.takesIn K (.builtin "object.__class__") = some true)
    (rQm1 : PySem.W.mroIn K e0 (.type "object") = some true)
    (rQc1 : PySem.W.subIn K (.ref e0) (.ref e24) = some true)
    (rQv1 : PySem.W.kitOne K (.ref e0) (.type "ValueError") = some true)
    (rQu1_0 : PySem.W.kitOne K (.ref e0) (.ref e22) = some false)
    (rQu1_1 : PySem.W.kitOne K (.ref e0) (.ref e23) = some false)
    (rQ91 : PySem.W.kitAny K (.ref e0) [.ref e4, .ref e5, .ref e6, .ref e7, .ref e8, .ref e9, .ref e10, .ref e11, .ref e12] = some false)
    (rQ71 : PySem.W.kitAny K (.ref e0) [.ref e13, .ref e14, .ref e15, .ref e16, .ref e17, .ref e18, .ref e19] = some false)
    (rQ21 : PySem.W.kitAny K (.ref e0) [.ref e20, .ref e21] = some false)
    (rQe1_0 : PySem.W.kitOne K (.ref e0) (.ref e3) = some false)
    (rQe1_1 : PySem.W.kitOne K (.ref e0) (.ref e0) = some true)
    (rQe1_2 : PySem.W.kitOne K (.ref e0) (.ref e1) = some false)
    (rQe1_3 : PySem.W.kitOne K (.ref e0) (.ref e2) = some false)
    (rQg2 : PySem.W.findIn K (.ref e1) "__getattribute__" = some (some (.builtin "BaseException.__getattribute__")))
    (rQk2 : PySem.W.findIn K (.ref e1) "__getattr__" = some none)
    (rQs2 : PySem.W.subIn K (.ref e1) (.type "BaseException") = some true)
    (rQd2 : PySem.W.hasDictIn K e1 = true)
    (rQa2 : PySem.W.findIn K (.ref e1) "__class__" = some (some (.builtin "object.__class__")))
    (rQn2 : PySem.W.specialIn K (.builtin "object.__class__") "__get__" = some (some (.builtin "getset_descriptor.__get__")))
    (rQt2 : PySem.W.takesIn K (.builtin "object.__class__") = some true)
    (rQm2 : PySem.W.mroIn K e1 (.type "object") = some true)
    (rQc2 : PySem.W.subIn K (.ref e1) (.ref e24) = some true)
    (rQv2 : PySem.W.kitOne K (.ref e1) (.type "ValueError") = some true)
    (rQu2_0 : PySem.W.kitOne K (.ref e1) (.ref e22) = some false)
    (rQu2_1 : PySem.W.kitOne K (.ref e1) (.ref e23) = some false)
    (rQ92 : PySem.W.kitAny K (.ref e1) [.ref e4, .ref e5, .ref e6, .ref e7, .ref e8, .ref e9, .ref e10, .ref e11, .ref e12] = some false)
    (rQ72 : PySem.W.kitAny K (.ref e1) [.ref e13, .ref e14, .ref e15, .ref e16, .ref e17, .ref e18, .ref e19] = some false)
    (rQ22 : PySem.W.kitAny K (.ref e1) [.ref e20, .ref e21] = some false)
    (rQe2_0 : PySem.W.kitOne K (.ref e1) (.ref e3) = some false)
    (rQe2_1 : PySem.W.kitOne K (.ref e1) (.ref e0) = some false)
    (rQe2_2 : PySem.W.kitOne K (.ref e1) (.ref e1) = some true)
    (rQe2_3 : PySem.W.kitOne K (.ref e1) (.ref e2) = some false)
    (rQg3 : PySem.W.findIn K (.ref e2) "__getattribute__" = some (some (.builtin "BaseException.__getattribute__")))
    (rQk3 : PySem.W.findIn K (.ref e2) "__getattr__" = some none)
    (rQs3 : PySem.W.subIn K (.ref e2) (.type "BaseException") = some true)
    (rQd3 : PySem.W.hasDictIn K e2 = true)
    (rQa3 : PySem.W.findIn K (.ref e2) "__class__" = some (some (.builtin "object.__class__")))
    (rQn3 : PySem.W.specialIn K (.builtin "object.__class__") "__get__" = some (some (.builtin "getset_descriptor.__get__")))
    (rQt3 : PySem.W.takesIn K (.builtin "object.__class__") = some true)
    (rQm3 : PySem.W.mroIn K e2 (.type "object") = some true)
    (rQc3 : PySem.W.subIn K (.ref e2) (.ref e24) = some true)
    (rQv3 : PySem.W.kitOne K (.ref e2) (.type "ValueError") = some true)
    (rQu3_0 : PySem.W.kitOne K (.ref e2) (.ref e22) = some false)
    (rQu3_1 : PySem.W.kitOne K (.ref e2) (.ref e23) = some false)
    (rQ93 : PySem.W.kitAny K (.ref e2) [.ref e4, .ref e5, .ref e6, .ref e7, .ref e8, .ref e9, .ref e10, .ref e11, .ref e12] = some false)
    (rQ73 : PySem.W.kitAny K (.ref e2) [.ref e13, .ref e14, .ref e15, .ref e16, .ref e17, .ref e18, .ref e19] = some false)
    (rQ23 : PySem.W.kitAny K (.ref e2) [.ref e20, .ref e21] = some false)
    (rQe3_0 : PySem.W.kitOne K (.ref e2) (.ref e3) = some false)
    (rQe3_1 : PySem.W.kitOne K (.ref e2) (.ref e0) = some false)
    (rQe3_2 : PySem.W.kitOne K (.ref e2) (.ref e1) = some false)
    (rQe3_3 : PySem.W.kitOne K (.ref e2) (.ref e2) = some true)
    (z1 : PySem.W.nsIn K mainGlobals "sorted" = some none) (z2 : PySem.W.nsIn K mainGlobals "set" = some none) (z3 : PySem.W.nsIn K mainGlobals "len" = some none) (z4 : PySem.W.nsIn K mainGlobals "isinstance" = some none) (z5 : PySem.W.nsIn K mainGlobals "int" = some none) (z6 : PySem.W.nsIn K mainGlobals "bool" = some none) (z7 : PySem.W.nsIn K mainGlobals "list" = some none) (z8 : PySem.W.nsIn K mainGlobals "all" = some none) (z9 : PySem.W.nsIn K mainGlobals "range" = some none) (z10 : PySem.W.nsIn K mainGlobals "dict" = some none) (z11 : PySem.W.nsIn K mainGlobals "ValueError" = some none) (z12 : PySem.W.nsIn K mainGlobals "str" = some none) (z13 : PySem.W.nsIn K mainGlobals "tuple" = some none) :
    ∃ fd : FuncData, (∀ (s : Shared) (v : Value), BindsTo s fd ⟨[v], []⟩ [("_law_script", v)]) ∧ ∀ base : Heap, K.In base → base.Ns mainGlobals mg → FnOk l.prog w K mg base CX0 7 fa fd ["_law_script"] (spLaw K) := by
  have e := hfa.symm.trans (PySem.W.mg_of X G a22)
  cases e
  have B : Bt mg := ⟨PySem.W.mg_none_of X G z1, PySem.W.mg_none_of X G z2, PySem.W.mg_none_of X G z3, PySem.W.mg_none_of X G z4, PySem.W.mg_none_of X G z5, PySem.W.mg_none_of X G z6, PySem.W.mg_none_of X G z7, PySem.W.mg_none_of X G z8, PySem.W.mg_none_of X G z9, PySem.W.mg_none_of X G z10⟩
  have F1 := fun_mk (st := sStream) l1 c1 k1
  have b1 := F1.binds (ps := ["_law_script", "_law_k"]) fun _ _ _ _ _ _ us hl => match us, hl with | [_, _], _ => rfl
  have F2 := fun_mk (st := sDraw) l2 c2 k2
  have b2 := F2.binds (ps := ["_law_stream_here", "_law_size"]) fun _ _ _ _ _ _ us hl => match us, hl with | [_, _], _ => rfl
  have F3 := fun_mk (st := sNames) l3 c3 k3
  have b3 := F3.binds (ps := ["_law_stream_here", "_law_count"]) fun _ _ _ _ _ _ us hl => match us, hl with | [_, _], _ => rfl
  have F4 := fun_mk (st := sMn) l4 c4 k4
  have b4 := F4.binds (ps := ["_law_stream_here", "_law_count"]) fun _ _ _ _ _ _ us hl => match us, hl with | [_, _], _ => rfl
  have F5 := fun_mk (st := sDn) l5 c5 k5
  have b5 := F5.binds (ps := ["_law_stream_here", "_law_count"]) fun _ _ _ _ _ _ us hl => match us, hl with | [_, _], _ => rfl
  have F6 := fun_mk (st := sRep) l6 c6 k6
  have b6 := F6.binds (ps := ["_law_stream_here", "_law_names_here", "_law_most"]) fun _ _ _ _ _ _ us hl => match us, hl with | [_, _, _], _ => rfl
  have F7 := fun_mk (st := sPool) l7 c7 k7
  have b7 := F7.binds (ps := ["_law_stream_here", "_law_count"]) fun _ _ _ _ _ _ us hl => match us, hl with | [_, _], _ => rfl
  have F8 := fun_mk (st := sSf) l8 c8 k8
  have b8 := F8.binds (ps := ["_law_stream_here", "_law_things"]) fun _ _ _ _ _ _ us hl => match us, hl with | [_, _], _ => rfl
  have F9 := fun_mk (st := sEnt) l9 c9 k9
  have b9 := F9.binds (ps := ["_law_stream_here", "_law_pool_here"]) fun _ _ _ _ _ _ us hl => match us, hl with | [_, _], _ => rfl
  have F10 := fun_mk (st := sChk) l10 c10 k10
  have b10 := F10.binds (ps := ["names"]) fun _ _ _ _ _ _ us hl => match us, hl with | [_], _ => rfl
  have F11 := fun_mk (st := sCl) l11 c11 k11
  have b11 := F11.binds (ps := ["limits"]) fun _ _ _ _ _ _ us hl => match us, hl with | [_], _ => rfl
  have F12 := fun_mk (st := sRfl) l12 c12 k12
  have b12 := F12.binds (ps := ["_law_names_here", "_law_entries_here", "_law_way"]) fun _ _ _ _ _ _ us hl => match us, hl with | [_, _, _], _ => rfl
  have F13 := fun_mk (st := sDue) l13 c13 k13
  have b13 := F13.binds (ps := ["_law_names_here", "_law_entries_here", "_law_way"]) fun _ _ _ _ _ _ us hl => match us, hl with | [_, _, _], _ => rfl
  have F14 := fun_mk (st := sIsInt) l14 c14 k14
  have b14 := F14.binds (ps := ["_law_actual"]) fun _ _ _ _ _ _ us hl => match us, hl with | [_], _ => rfl
  have F15 := fun_mk (st := sSrf) l15 c15 k15
  have b15 := F15.binds (ps := ["_law_told", "_law_due_here"]) fun _ _ _ _ _ _ us hl => match us, hl with | [_, _], _ => rfl
  have F16 := fun_mk (st := sSnd) l16 c16 k16
  have b16 := F16.binds (ps := ["_law_entries_here"]) fun _ _ _ _ _ _ us hl => match us, hl with | [_], _ => rfl
  have F17 := fun_mk (st := sRof) l17 c17 k17
  have b17 := F17.binds (ps := ["names", "values"]) fun _ _ _ _ _ _ us hl => match us, hl with | [_, _], _ => rfl
  have F18 := fun_mk (st := sSof) l18 c18 k18
  have b18 := F18.binds (ps := ["values"]) fun _ _ _ _ _ _ us hl => match us, hl with | [_], _ => rfl
  have F19 := fun_mk (st := sKp) l19 c19 k19
  have b19 := F19.binds (ps := ["_law_entries_here", "_law_taken"]) fun _ _ _ _ _ _ us hl => match us, hl with | [_, _], _ => rfl
  have F20 := fun_mk (st := sSl) l20 c20 k20
  have b20 := F20.binds (ps := ["_law_actual", "_law_entries_here"]) fun _ _ _ _ _ _ us hl => match us, hl with | [_, _], _ => rfl
  have F21 := fun_mk (st := sMh) l21 c21 k21
  have b21 := F21.binds (ps := ["_law_names_here", "_law_entries_here", "_law_taken"]) fun _ _ _ _ _ _ us hl => match us, hl with | [_, _, _], _ => rfl
  have F22 := fun_mk (st := sLaw) l22 c22 k22
  have T0 : Kls K mg "Unlike" kk0 ["names"] := ⟨⟨kpg0, khd0, kpo0, ksa0⟩, PySem.W.mg_of X G kc0, fun f hf => by
      simp only [List.mem_cons, List.not_mem_nil, or_false] at hf
      rcases hf with rfl
      · exact kn0_0⟩
  have Fkm0_0 := fun_mk (st := sUin) km0_0l km0_0c km0_0k
  have bkm0_0 := Fkm0_0.binds (ps := ["self", "names"]) fun _ _ _ _ _ _ us hl => match us, hl with | [_, _], _ => rfl
  have Fkm0_1 := fun_mk (st := sUal) km0_1l km0_1c km0_1k
  have bkm0_1 := Fkm0_1.binds (ps := ["self", "values"]) fun _ _ _ _ _ _ us hl => match us, hl with | [_, _], _ => rfl
  have T1 : Kls K mg "Counts" kk1 ["names", "limits"] := ⟨⟨kpg1, khd1, kpo1, ksa1⟩, PySem.W.mg_of X G kc1, fun f hf => by
      simp only [List.mem_cons, List.not_mem_nil, or_false] at hf
      rcases hf with rfl | rfl
      · exact kn1_0
      · exact kn1_1⟩
  have Fkm1_0 := fun_mk (st := sCin) km1_0l km1_0c km1_0k
  have bkm1_0 := Fkm1_0.binds (ps := ["self", "names", "limits"]) fun _ _ _ _ _ _ us hl => match us, hl with | [_, _, _], _ => rfl
  have Fkm1_1 := fun_mk (st := sAlo) km1_1l km1_1c km1_1k
  have bkm1_1 := Fkm1_1.binds (ps := ["self", "values"]) fun _ _ _ _ _ _ us hl => match us, hl with | [_, _], _ => rfl
  have O0 : Own0 K mg "EmptyRule" e3 := ⟨PySem.W.mg_of X G cg3, oe0, ok0, ob0, ot0⟩
  have U0 : Own K mg "RepeatedName" e0 i0 ["name"] := { gC := PySem.W.mg_of X G cg0, oex := ⟨⟨nm0, q0, N0, bs0, _, sn0, sub0, ab0, col0, dd0, m00, m10, m20, m30, m50, x0, rfl⟩, xsa0, xec0, xtc0, xkc0⟩, xf := ⟨xga0, xgg0, xec0, xhc0⟩, iC := xin0, tI := xti0, ex := ⟨xga0, xgg0, xec0, xhc0, xha0, xhn0, xht0, xhm0⟩, te := PySem.W.exm_ref xec0 xhc0 xtc0 xsc0, no := (fun f hf => (List.mem_singleton.mp hf) ▸ xf0_0) }
  have I0 := fun_mk (st := sErn) xli0 xci0 xki0
  have ib0 := I0.binds (ps := ["self", "name"]) fun _ _ _ _ _ _ us hl => match us, hl with | [_, _], _ => rfl
  have U1 : Own K mg "BadBounds" e1 i1 ["low", "high"] := { gC := PySem.W.mg_of X G cg1, oex := ⟨⟨nm1, q1, N1, bs1, _, sn1, sub1, ab1, col1, dd1, m01, m11, m21, m31, m51, x1, rfl⟩, xsa1, xec1, xtc1, xkc1⟩, xf := ⟨xga1, xgg1, xec1, xhc1⟩, iC := xin1, tI := xti1, ex := ⟨xga1, xgg1, xec1, xhc1, xha1, xhn1, xht1, xhm1⟩, te := PySem.W.exm_ref xec1 xhc1 xtc1 xsc1, no := (fun f hf => by rcases List.mem_cons.mp hf with h | h; exact h ▸ xf0_1; exact (List.mem_singleton.mp h) ▸ xf1_1) }
  have I1 := fun_mk (st := sEbb) xli1 xci1 xki1
  have ib1 := I1.binds (ps := ["self", "low", "high"]) fun _ _ _ _ _ _ us hl => match us, hl with | [_, _, _], _ => rfl
  have U2 : Own K mg "RepeatedValue" e2 i2 ["value"] := { gC := PySem.W.mg_of X G cg2, oex := ⟨⟨nm2, q2, N2, bs2, _, sn2, sub2, ab2, col2, dd2, m02, m12, m22, m32, m52, x2, rfl⟩, xsa2, xec2, xtc2, xkc2⟩, xf := ⟨xga2, xgg2, xec2, xhc2⟩, iC := xin2, tI := xti2, ex := ⟨xga2, xgg2, xec2, xhc2, xha2, xhn2, xht2, xhm2⟩, te := PySem.W.exm_ref xec2 xhc2 xtc2 xsc2, no := (fun f hf => (List.mem_singleton.mp hf) ▸ xf0_2) }
  have I2 := fun_mk (st := sErv) xli2 xci2 xki2
  have ib2 := I2.binds (ps := ["self", "value"]) fun _ _ _ _ _ _ us hl => match us, hl with | [_, _], _ => rfl
  have NQos9 : Nm os9 mg [e4, e5, e6, e7, e8, e9, e10, e11, e12] := ⟨by
    intro i x hx
    match i, hx with
    | 0, hx => obtain rfl := Option.some.inj hx; exact PySem.W.mg_of X G cg4
    | 1, hx => obtain rfl := Option.some.inj hx; exact PySem.W.mg_of X G cg5
    | 2, hx => obtain rfl := Option.some.inj hx; exact PySem.W.mg_of X G cg6
    | 3, hx => obtain rfl := Option.some.inj hx; exact PySem.W.mg_of X G cg7
    | 4, hx => obtain rfl := Option.some.inj hx; exact PySem.W.mg_of X G cg8
    | 5, hx => obtain rfl := Option.some.inj hx; exact PySem.W.mg_of X G cg9
    | 6, hx => obtain rfl := Option.some.inj hx; exact PySem.W.mg_of X G cg10
    | 7, hx => obtain rfl := Option.some.inj hx; exact PySem.W.mg_of X G cg11
    | 8, hx => obtain rfl := Option.some.inj hx; exact PySem.W.mg_of X G cg12
    | k + 9, hx => exact absurd (show none = some x from hx) (by simp)⟩
  have NQos7 : Nm os7 mg [e13, e14, e15, e16, e17, e18, e19] := ⟨by
    intro i x hx
    match i, hx with
    | 0, hx => obtain rfl := Option.some.inj hx; exact PySem.W.mg_of X G cg13
    | 1, hx => obtain rfl := Option.some.inj hx; exact PySem.W.mg_of X G cg14
    | 2, hx => obtain rfl := Option.some.inj hx; exact PySem.W.mg_of X G cg15
    | 3, hx => obtain rfl := Option.some.inj hx; exact PySem.W.mg_of X G cg16
    | 4, hx => obtain rfl := Option.some.inj hx; exact PySem.W.mg_of X G cg17
    | 5, hx => obtain rfl := Option.some.inj hx; exact PySem.W.mg_of X G cg18
    | 6, hx => obtain rfl := Option.some.inj hx; exact PySem.W.mg_of X G cg19
    | k + 7, hx => exact absurd (show none = some x from hx) (by simp)⟩
  have NQos2 : Nm os2 mg [e20, e21] := ⟨by
    intro i x hx
    match i, hx with
    | 0, hx => obtain rfl := Option.some.inj hx; exact PySem.W.mg_of X G cg20
    | 1, hx => obtain rfl := Option.some.inj hx; exact PySem.W.mg_of X G cg21
    | k + 2, hx => exact absurd (show none = some x from hx) (by simp)⟩
  have NQos1 : Nm os1 mg [e22, e23] := ⟨by
    intro i x hx
    match i, hx with
    | 0, hx => obtain rfl := Option.some.inj hx; exact PySem.W.mg_of X G cg22
    | 1, hx => obtain rfl := Option.some.inj hx; exact PySem.W.mg_of X G cg23
    | k + 2, hx => exact absurd (show none = some x from hx) (by simp)⟩
  have NQos4 : Nm os4 mg [e3, e0, e1, e2] := ⟨by
    intro i x hx
    match i, hx with
    | 0, hx => obtain rfl := Option.some.inj hx; exact PySem.W.mg_of X G cg3
    | 1, hx => obtain rfl := Option.some.inj hx; exact PySem.W.mg_of X G cg0
    | 2, hx => obtain rfl := Option.some.inj hx; exact PySem.W.mg_of X G cg1
    | 3, hx => obtain rfl := Option.some.inj hx; exact PySem.W.mg_of X G cg2
    | k + 4, hx => exact absurd (show none = some x from hx) (by simp)⟩
  have Q0 : Refs K mg e24 e3 e0 e1 e2 e22 e23 [e4, e5, e6, e7, e8, e9, e10, e11, e12] [e13, e14, e15, e16, e17, e18, e19] [e20, e21] := ⟨PySem.W.mg_of X G cg24, PySem.W.mg_none_of X G z11, NQos9, NQos7, NQos2, NQos1, NQos4, ⟨⟨rQg0, rQk0, rQs0, rQd0, rQa0, rQn0, rQt0, rQm0⟩, PySem.W.exm_ref rDs rDd rDt rQc0, rQv0, rQu0_0, rQu0_1, rQ90, rQ70, rQ20, rQe0_0, rQe0_1, rQe0_2, rQe0_3⟩, ⟨⟨rQg1, rQk1, rQs1, rQd1, rQa1, rQn1, rQt1, rQm1⟩, PySem.W.exm_ref rDs rDd rDt rQc1, rQv1, rQu1_0, rQu1_1, rQ91, rQ71, rQ21, rQe1_0, rQe1_1, rQe1_2, rQe1_3⟩, ⟨⟨rQg2, rQk2, rQs2, rQd2, rQa2, rQn2, rQt2, rQm2⟩, PySem.W.exm_ref rDs rDd rDt rQc2, rQv2, rQu2_0, rQu2_1, rQ92, rQ72, rQ22, rQe2_0, rQe2_1, rQe2_2, rQe2_3⟩, ⟨⟨rQg3, rQk3, rQs3, rQd3, rQa3, rQn3, rQt3, rQm3⟩, PySem.W.exm_ref rDs rDd rDt rQc3, rQv3, rQu3_0, rQu3_1, rQ93, rQ73, rQ23, rQe3_0, rQe3_1, rQe3_2, rQe3_3⟩⟩
  refine ⟨PySem.W.fnOf "law" "law" (defArgs sLaw) (defBody sLaw) (defScope sLaw) .none kV22 dc22 pm22 an22 cd22 ct22, fun s v => .of_eq rfl, fun base _ _ => ?_⟩
  have Cstream : Call l.prog w K mg base 1 "_law_stream" f1 _ ["_law_script", "_law_k"] (spStream K) := ⟨ok_stream F1 B, PySem.W.mg_of X G a1, k1, b1⟩
  have Cdraw : Call l.prog w K mg base 1 "_law_next" f2 _ ["_law_stream_here", "_law_size"] spDraw := ⟨ok_draw F2 B, PySem.W.mg_of X G a2, k2, b2⟩
  have Cnames : Call l.prog w K mg base 2 "_law_names" f3 _ ["_law_stream_here", "_law_count"] spNames := ⟨ok_names F3 B Cdraw, PySem.W.mg_of X G a3, k3, b3⟩
  have CMn : Call l.prog w K mg base 2 "_law_many_names" f4 _ ["_law_stream_here", "_law_count"] spMn := ⟨ok_Mn F4 B (PySem.W.mg_none_of X G z12) Cdraw, PySem.W.mg_of X G a4, k4, b4⟩
  have CDn : Call l.prog w K mg base 3 "_law_drawn_names" f5 _ ["_law_stream_here", "_law_count"] spDn := ⟨ok_Dn F5 B Cnames CMn, PySem.W.mg_of X G a5, k5, b5⟩
  have CRep : Call l.prog w K mg base 2 "_law_repeated" f6 _ ["_law_stream_here", "_law_names_here", "_law_most"] spRep := ⟨ok_Rep F6 B Cdraw, PySem.W.mg_of X G a6, k6, b6⟩
  have Cpool : Call l.prog w K mg base 2 "_law_pool" f7 _ ["_law_stream_here", "_law_count"] spPool := ⟨ok_pool F7 B Cdraw, PySem.W.mg_of X G a7, k7, b7⟩
  have CSf : Call l.prog w K mg base 2 "_law_shuffled" f8 _ ["_law_stream_here", "_law_things"] spSf := ⟨ok_Sf F8 B Cdraw, PySem.W.mg_of X G a8, k8, b8⟩
  have CEnt : Call l.prog w K mg base 3 "_law_entries" f9 _ ["_law_stream_here", "_law_pool_here"] spEnt := ⟨ok_Ent F9 B CSf Cdraw, PySem.W.mg_of X G a9, k9, b9⟩
  have CChk : Call l.prog w K mg base 1 "checked_names" f10 _ ["names"] spChk := ⟨ok_Chk F10 B (PySem.W.mg_none_of X G z13), PySem.W.mg_of X G a10, k10, b10⟩
  have CUin : CallN l.prog w K mg base 2 kk0 km0_0 _ ["self", "names"] (spUin kk0) := ⟨ok_Uin Fkm0_0 B T0 CChk, ⟨kmk0, km0_0a, km0_0i, kkc0⟩, bkm0_0⟩
  have CCl : Call l.prog w K mg base 1 "_checked_limits" f11 _ ["limits"] spCl := ⟨ok_Cl F11 B (PySem.W.mg_none_of X G z13), PySem.W.mg_of X G a11, k11, b11⟩
  have CCin : CallN l.prog w K mg base 2 kk1 km1_0 _ ["self", "names", "limits"] (spCin kk1) := ⟨ok_Cin Fkm1_0 B T1 CChk CCl, ⟨kmk1, km1_0a, km1_0i, kkc1⟩, bkm1_0⟩
  have IR : CallI l.prog w K mg base i0 _ ["self", "name"] (spIni e0 "name") := ⟨ok_Ern I0 U0, ib0⟩
  have IB : CallI l.prog w K mg base i1 _ ["self", "low", "high"] (spIni2 e1 "low" "high") := ⟨ok_Ebb I1 U1, ib1⟩
  have IV : CallI l.prog w K mg base i2 _ ["self", "value"] (spIni e2 "value") := ⟨ok_Erv I2 U2, ib2⟩
  have XChk : CallX l.prog w K mg base 3 "checked_names" f10 _ ["names"] (spChkX e3 e0 e1 e2) := ⟨ok_ChkX F10 B (PySem.W.mg_none_of X G z13) O0 U0 IR, PySem.W.mg_of X G a10, k10, b10⟩
  have XCl : CallX l.prog w K mg base 3 "_checked_limits" f11 _ ["limits"] (spClX e3 e0 e1 e2) := ⟨ok_ClX F11 B (PySem.W.mg_none_of X G z13) U1 IB U2 IV, PySem.W.mg_of X G a11, k11, b11⟩
  have CRfl : Call l.prog w K mg base 6 "_law_refusal" f12 _ ["_law_names_here", "_law_entries_here", "_law_way"] spRfl := ⟨ok_Rfl F12 B T0 T1 Q0 U0 U1 U2 (ok_UinX Fkm0_0 B T0 XChk) CUin (ok_CinX Fkm1_0 B T1 XChk XCl) CCin, PySem.W.mg_of X G a12, k12, b12⟩
  have CDue : Call l.prog w K mg base 1 "_law_due" f13 _ ["_law_names_here", "_law_entries_here", "_law_way"] spDue := ⟨ok_Due F13 B, PySem.W.mg_of X G a13, k13, b13⟩
  have CisInt : Call l.prog w K mg base 1 "_law_is_integer" f14 _ ["_law_actual"] spIsInt := ⟨ok_isInt F14 B, PySem.W.mg_of X G a14, k14, b14⟩
  have CSrf : Call l.prog w K mg base 2 "_law_same_refusal" f15 _ ["_law_told", "_law_due_here"] spSrf := ⟨ok_Srf F15 B (PySem.W.mg_none_of X G z12) CisInt, PySem.W.mg_of X G a15, k15, b15⟩
  have CSnd : Call l.prog w K mg base 1 "_law_sound_entries" f16 _ ["_law_entries_here"] spSnd := ⟨ok_Snd F16 B, PySem.W.mg_of X G a16, k16, b16⟩
  have CRof : Call l.prog w K mg base 1 "row_of" f17 _ ["names", "values"] spRof := ⟨ok_Rof F17 B (PySem.W.mg_none_of X G z13), PySem.W.mg_of X G a17, k17, b17⟩
  have CSoT : Call l.prog w K mg base 1 "side_of" f18 _ ["values"] (spSoT K) := ⟨ok_SoT F18 B, PySem.W.mg_of X G a18, k18, b18⟩
  have CUal : CallM l.prog w K mg base 2 kk0 "allows" km0_1 _ ["self", "values"] (spUal kk0) := ⟨ok_Ual Fkm0_1 B T0 CRof CSoT, ⟨km0_1a, km0_1i, km0_1k⟩, bkm0_1⟩
  have CAlo : CallM l.prog w K mg base 2 kk1 "allows" km1_1 _ ["self", "values"] (spAlo kk1) := ⟨ok_Alo Fkm1_1 B T1 CRof, ⟨km1_1a, km1_1i, km1_1k⟩, bkm1_1⟩
  have CKp : Call l.prog w K mg base 1 "_law_keeps" f19 _ ["_law_entries_here", "_law_taken"] spKp := ⟨ok_Kp F19 B, PySem.W.mg_of X G a19, k19, b19⟩
  have CSl : Call l.prog w K mg base 2 "_law_same_limits" f20 _ ["_law_actual", "_law_entries_here"] spSl := ⟨ok_Sl F20 B (PySem.W.mg_none_of X G z13) CisInt, PySem.W.mg_of X G a20, k20, b20⟩
  have CMh : Call l.prog w K mg base 4 "_law_made_holds" f21 _ ["_law_names_here", "_law_entries_here", "_law_taken"] (spMh kk0 kk1) := ⟨ok_Mh F21 B (PySem.W.mg_none_of X G z13) T0 T1 CUin CCin CUal CAlo CSl CKp, PySem.W.mg_of X G a21, k21, b21⟩
  exact ok_Law F22 B Cstream Cdraw CDn CRep Cpool CEnt CRfl CDue CSrf CSnd CMh
theorem walk {l : PySem.W.OpenLaw} {q : Program} {loose : List Str} {XP : (Str → Option Value) → Heap → Prop} {YP : World → Heap → Prop} {d : DefRec} {K : Params → PySem.W.Frag} (hn : l.most = some 63) (hdf : d.params.defaults = [])
    (hY : ∀ (w : World) (h : Heap), YP w h → (K w.params).In h)
    (F : ∀ (w : World) (mg : Str → Option Value) (fa : Addr) (h : Heap), (K w.params).In h → h.Ns mainGlobals mg → mg d.name = some (.ref fa) →
      ∃ fd : FuncData, (∀ (s : Shared) (u : Value), BindsTo s fd ⟨[u], []⟩ [("_law_script", u)]) ∧ ∀ base : Heap, (K w.params).In base → base.Ns mainGlobals mg → FnOk l.prog w (K w.params) mg base CX0 7 fa fd ["_law_script"] (spLaw (K w.params))) :
    PySem.W.WalkO q loose XP YP l.row.toRowW d [] (fun f vs => PySem.call f vs) :=
  L2.walk_of (n := 63) (k := 7) (x := "_law_script") (CX := fun _ => CX0) (sp := fun w => spLaw (K w.params)) hn (by decide) hdf ⟨rfl, by decide, by decide⟩ hY F (fun _ _ a ns hl _ hS => ⟨a, ns, rfl, hS, hl, fun _ => rfl⟩) fun _ _ _ _ _ z => z
end K23
set_option Elab.async false
set_option linter.all false
open PySem PySem.W PyProof.Rows
set_option maxRecDepth 100000 in
set_option maxHeartbeats 0 in
theorem PySem.Challenge.cw_curbdesk_k23_counts_refusals_holds : PySem.Challenge.rw_curbdesk_k23_counts_refusals.Holds := by
  w_on; o_law; k_head; (case hw => w_witness2)
  k_fill
  refine K23.walk (l := PySem.Challenge.rw_curbdesk_k23_counts_refusals) rfl rfl (fun w h Y => PySem.W.kIn_of Y) ?F
  case F =>
    intro w mg fa h KX G hmg
    refine' K23.all_mk KX G hmg ?a1 ?l1 ?c1 ?k1 ?a2 ?l2 ?c2 ?k2 ?a3 ?l3 ?c3 ?k3 ?a4 ?l4 ?c4 ?k4 ?a5 ?l5 ?c5 ?k5 ?a6 ?l6 ?c6 ?k6 ?a7 ?l7 ?c7 ?k7 ?a8 ?l8 ?c8 ?k8 ?a9 ?l9 ?c9 ?k9 ?a10 ?l10 ?c10 ?k10 ?a11 ?l11 ?c11 ?k11 ?a12 ?l12 ?c12 ?k12 ?a13 ?l13 ?c13 ?k13 ?a14 ?l14 ?c14 ?k14 ?a15 ?l15 ?c15 ?k15 ?a16 ?l16 ?c16 ?k16 ?a17 ?l17 ?c17 ?k17 ?a18 ?l18 ?c18 ?k18 ?a19 ?l19 ?c19 ?k19 ?a20 ?l20 ?c20 ?k20 ?a21 ?l21 ?c21 ?k21 ?a22 ?l22 ?c22 ?k22 ?kc0 ?kpg0 ?khd0 ?kpo0 ?ksa0 ?kmk0 ?kkc0 ?kn0_0 ?km0_0a ?km0_0i ?km0_0l ?km0_0c ?km0_0k ?km0_1a ?km0_1i ?km0_1l ?km0_1c ?km0_1k ?kc1 ?kpg1 ?khd1 ?kpo1 ?ksa1 ?kmk1 ?kkc1 ?kn1_0 ?kn1_1 ?km1_0a ?km1_0i ?km1_0l ?km1_0c ?km1_0k ?km1_1a ?km1_1i ?km1_1l ?km1_1c ?km1_1k ?cg0 ?cg1 ?cg2 ?cg3 ?cg4 ?cg5 ?cg6 ?cg7 ?cg8 ?cg9 ?cg10 ?cg11 ?cg12 ?cg13 ?cg14 ?cg15 ?cg16 ?cg17 ?cg18 ?cg19 ?cg20 ?cg21 ?cg22 ?cg23 ?cg24 ?oe0 ?ok0 ?ob0 ?ot0 ?x0 ?xsa0 ?xga0 ?xgg0 ?xf0_0 ?xin0 ?xti0 ?xli0 ?xci0 ?xki0 ?xkc0 ?xec0 ?xtc0 ?xhc0 ?xsc0 ?xha0 ?xhn0 ?xht0 ?xhm0 ?x1 ?xsa1 ?xga1 ?xgg1 ?xf0_1 ?xf1_1 ?xin1 ?xti1 ?xli1 ?xci1 ?xki1 ?xkc1 ?xec1 ?xtc1 ?xhc1 ?xsc1 ?xha1 ?xhn1 ?xht1 ?xhm1 ?x2 ?xsa2 ?xga2 ?xgg2 ?xf0_2 ?xin2 ?xti2 ?xli2 ?xci2 ?xki2 ?xkc2 ?xec2 ?xtc2 ?xhc2 ?xsc2 ?xha2 ?xhn2 ?xht2 ?xhm2 ?rDs ?rDd ?rDt ?rQg0 ?rQk0 ?rQs0 ?rQd0 ?rQa0 ?rQn0 ?rQt0 ?rQm0 ?rQc0 ?rQv0 ?rQu0_0 ?rQu0_1 ?rQ90 ?rQ70 ?rQ20 ?rQe0_0 ?rQe0_1 ?rQe0_2 ?rQe0_3 ?rQg1 ?rQk1 ?rQs1 ?rQd1 ?rQa1 ?rQn1 ?rQt1 ?rQm1 ?rQc1 ?rQv1 ?rQu1_0 ?rQu1_1 ?rQ91 ?rQ71 ?rQ21 ?rQe1_0 ?rQe1_1 ?rQe1_2 ?rQe1_3 ?rQg2 ?rQk2 ?rQs2 ?rQd2 ?rQa2 ?rQn2 ?rQt2 ?rQm2 ?rQc2 ?rQv2 ?rQu2_0 ?rQu2_1 ?rQ92 ?rQ72 ?rQ22 ?rQe2_0 ?rQe2_1 ?rQe2_2 ?rQe2_3 ?rQg3 ?rQk3 ?rQs3 ?rQd3 ?rQa3 ?rQn3 ?rQt3 ?rQm3 ?rQc3 ?rQv3 ?rQu3_0 ?rQu3_1 ?rQ93 ?rQ73 ?rQ23 ?rQe3_0 ?rQe3_1 ?rQe3_2 ?rQe3_3 ?z1 ?z2 ?z3 ?z4 ?z5 ?z6 ?z7 ?z8 ?z9 ?z10 ?z11 ?z12 ?z13
    (case a1 => k_is)
    (case l1 => k_is)
    (case c1 => k_is)
    (case k1 => k_is)
    (case a2 => k_is)
    (case l2 => k_is)
    (case c2 => k_is)
    (case k2 => k_is)
    (case a3 => k_is)
    (case l3 => k_is)
    (case c3 => k_is)
    (case k3 => k_is)
    (case a4 => k_is)
    (case l4 => k_is)
    (case c4 => k_is)
    (case k4 => k_is)
    (case a5 => k_is)
    (case l5 => k_is)
    (case c5 => k_is)
    (case k5 => k_is)
    (case a6 => k_is)
    (case l6 => k_is)
    (case c6 => k_is)
    (case k6 => k_is)
    (case a7 => k_is)
    (case l7 => k_is)
    (case c7 => k_is)
    (case k7 => k_is)
    (case a8 => k_is)
    (case l8 => k_is)
    (case c8 => k_is)
    (case k8 => k_is)
    (case a9 => k_is)
    (case l9 => k_is)
    (case c9 => k_is)
    (case k9 => k_is)
    (case a10 => k_is)
    (case l10 => k_is)
    (case c10 => k_is)
    (case k10 => k_is)
    (case a11 => k_is)
    (case l11 => k_is)
    (case c11 => k_is)
    (case k11 => k_is)
    (case a12 => k_is)
    (case l12 => k_is)
    (case c12 => k_is)
    (case k12 => k_is)
    (case a13 => k_is)
    (case l13 => k_is)
    (case c13 => k_is)
    (case k13 => k_is)
    (case a14 => k_is)
    (case l14 => k_is)
    (case c14 => k_is)
    (case k14 => k_is)
    (case a15 => k_is)
    (case l15 => k_is)
    (case c15 => k_is)
    (case k15 => k_is)
    (case a16 => k_is)
    (case l16 => k_is)
    (case c16 => k_is)
    (case k16 => k_is)
    (case a17 => k_is)
    (case l17 => k_is)
    (case c17 => k_is)
    (case k17 => k_is)
    (case a18 => k_is)
    (case l18 => k_is)
    (case c18 => k_is)
    (case k18 => k_is)
    (case a19 => k_is)
    (case l19 => k_is)
    (case c19 => k_is)
    (case k19 => k_is)
    (case a20 => k_is)
    (case l20 => k_is)
    (case c20 => k_is)
    (case k20 => k_is)
    (case a21 => k_is)
    (case l21 => k_is)
    (case c21 => k_is)
    (case k21 => k_is)
    (case a22 => k_is)
    (case l22 => k_is)
    (case c22 => k_is)
    (case k22 => k_is)
    (case kc0 => k_is)
    (case kpg0 => k_is)
    (case khd0 => k_is)
    (case kpo0 => k_is)
    (case ksa0 => k_is)
    (case kmk0 => k_is)
    (case kkc0 => k_is)
    (case kn0_0 => k_is)
    (case km0_0a => k_is)
    (case km0_0i => k_is)
    (case km0_0l => k_is)
    (case km0_0c => k_is)
    (case km0_0k => k_is)
    (case km0_1a => k_is)
    (case km0_1i => k_is)
    (case km0_1l => k_is)
    (case km0_1c => k_is)
    (case km0_1k => k_is)
    (case kc1 => k_is)
    (case kpg1 => k_is)
    (case khd1 => k_is)
    (case kpo1 => k_is)
    (case ksa1 => k_is)
    (case kmk1 => k_is)
    (case kkc1 => k_is)
    (case kn1_0 => k_is)
    (case kn1_1 => k_is)
    (case km1_0a => k_is)
    (case km1_0i => k_is)
    (case km1_0l => k_is)
    (case km1_0c => k_is)
    (case km1_0k => k_is)
    (case km1_1a => k_is)
    (case km1_1i => k_is)
    (case km1_1l => k_is)
    (case km1_1c => k_is)
    (case km1_1k => k_is)
    (case cg0 => k_is)
    (case cg1 => k_is)
    (case cg2 => k_is)
    (case cg3 => k_is)
    (case cg4 => k_is)
    (case cg5 => k_is)
    (case cg6 => k_is)
    (case cg7 => k_is)
    (case cg8 => k_is)
    (case cg9 => k_is)
    (case cg10 => k_is)
    (case cg11 => k_is)
    (case cg12 => k_is)
    (case cg13 => k_is)
    (case cg14 => k_is)
    (case cg15 => k_is)
    (case cg16 => k_is)
    (case cg17 => k_is)
    (case cg18 => k_is)
    (case cg19 => k_is)
    (case cg20 => k_is)
    (case cg21 => k_is)
    (case cg22 => k_is)
    (case cg23 => k_is)
    (case cg24 => k_is)
    (case oe0 => k_exc)
    (case ok0 => k_is)
    (case ob0 => k_is)
    (case ot0 => k_is)
    (case x0 => first | k_is | rfl)
    (case xsa0 => first | k_is | rfl)
    (case xga0 => first | k_is | rfl)
    (case xgg0 => first | k_is | rfl)
    (case xf0_0 => first | k_is | rfl)
    (case xin0 => first | k_is | rfl)
    (case xti0 => first | k_is | rfl)
    (case xli0 => first | k_is | rfl)
    (case xci0 => first | k_is | rfl)
    (case xki0 => first | k_is | rfl)
    (case xkc0 => first | k_is | rfl)
    (case xec0 => first | k_is | rfl)
    (case xtc0 => first | k_is | rfl)
    (case xhc0 => first | k_is | rfl)
    (case xsc0 => first | k_is | rfl)
    (case xha0 => first | k_is | rfl)
    (case xhn0 => first | k_is | rfl)
    (case xht0 => first | k_is | rfl)
    (case xhm0 => first | k_is | rfl)
    (case x1 => first | k_is | rfl)
    (case xsa1 => first | k_is | rfl)
    (case xga1 => first | k_is | rfl)
    (case xgg1 => first | k_is | rfl)
    (case xf0_1 => first | k_is | rfl)
    (case xf1_1 => first | k_is | rfl)
    (case xin1 => first | k_is | rfl)
    (case xti1 => first | k_is | rfl)
    (case xli1 => first | k_is | rfl)
    (case xci1 => first | k_is | rfl)
    (case xki1 => first | k_is | rfl)
    (case xkc1 => first | k_is | rfl)
    (case xec1 => first | k_is | rfl)
    (case xtc1 => first | k_is | rfl)
    (case xhc1 => first | k_is | rfl)
    (case xsc1 => first | k_is | rfl)
    (case xha1 => first | k_is | rfl)
    (case xhn1 => first | k_is | rfl)
    (case xht1 => first | k_is | rfl)
    (case xhm1 => first | k_is | rfl)
    (case x2 => first | k_is | rfl)
    (case xsa2 => first | k_is | rfl)
    (case xga2 => first | k_is | rfl)
    (case xgg2 => first | k_is | rfl)
    (case xf0_2 => first | k_is | rfl)
    (case xin2 => first | k_is | rfl)
    (case xti2 => first | k_is | rfl)
    (case xli2 => first | k_is | rfl)
    (case xci2 => first | k_is | rfl)
    (case xki2 => first | k_is | rfl)
    (case xkc2 => first | k_is | rfl)
    (case xec2 => first | k_is | rfl)
    (case xtc2 => first | k_is | rfl)
    (case xhc2 => first | k_is | rfl)
    (case xsc2 => first | k_is | rfl)
    (case xha2 => first | k_is | rfl)
    (case xhn2 => first | k_is | rfl)
    (case xht2 => first | k_is | rfl)
    (case xhm2 => first | k_is | rfl)
    (case rDs => first | k_is | rfl)
    (case rDd => first | k_is | rfl)
    (case rDt => first | k_is | rfl)
    (case rQg0 => first | k_is | rfl)
    (case rQk0 => first | k_is | rfl)
    (case rQs0 => first | k_is | rfl)
    (case rQd0 => first | k_is | rfl)
    (case rQa0 => first | k_is | rfl)
    (case rQn0 => first | k_is | rfl)
    (case rQt0 => first | k_is | rfl)
    (case rQm0 => first | k_is | rfl)
    (case rQc0 => first | k_is | rfl)
    (case rQv0 => first | k_is | rfl)
    (case rQu0_0 => first | k_is | rfl)
    (case rQu0_1 => first | k_is | rfl)
    (case rQ90 => first | k_is | rfl)
    (case rQ70 => first | k_is | rfl)
    (case rQ20 => first | k_is | rfl)
    (case rQe0_0 => first | k_is | rfl)
    (case rQe0_1 => first | k_is | rfl)
    (case rQe0_2 => first | k_is | rfl)
    (case rQe0_3 => first | k_is | rfl)
    (case rQg1 => first | k_is | rfl)
    (case rQk1 => first | k_is | rfl)
    (case rQs1 => first | k_is | rfl)
    (case rQd1 => first | k_is | rfl)
    (case rQa1 => first | k_is | rfl)
    (case rQn1 => first | k_is | rfl)
    (case rQt1 => first | k_is | rfl)
    (case rQm1 => first | k_is | rfl)
    (case rQc1 => first | k_is | rfl)
    (case rQv1 => first | k_is | rfl)
    (case rQu1_0 => first | k_is | rfl)
    (case rQu1_1 => first | k_is | rfl)
    (case rQ91 => first | k_is | rfl)
    (case rQ71 => first | k_is | rfl)
    (case rQ21 => first | k_is | rfl)
    (case rQe1_0 => first | k_is | rfl)
    (case rQe1_1 => first | k_is | rfl)
    (case rQe1_2 => first | k_is | rfl)
    (case rQe1_3 => first | k_is | rfl)
    (case rQg2 => first | k_is | rfl)
    (case rQk2 => first | k_is | rfl)
    (case rQs2 => first | k_is | rfl)
    (case rQd2 => first | k_is | rfl)
    (case rQa2 => first | k_is | rfl)
    (case rQn2 => first | k_is | rfl)
    (case rQt2 => first | k_is | rfl)
    (case rQm2 => first | k_is | rfl)
    (case rQc2 => first | k_is | rfl)
    (case rQv2 => first | k_is | rfl)
    (case rQu2_0 => first | k_is | rfl)
    (case rQu2_1 => first | k_is | rfl)
    (case rQ92 => first | k_is | rfl)
    (case rQ72 => first | k_is | rfl)
    (case rQ22 => first | k_is | rfl)
    (case rQe2_0 => first | k_is | rfl)
    (case rQe2_1 => first | k_is | rfl)
    (case rQe2_2 => first | k_is | rfl)
    (case rQe2_3 => first | k_is | rfl)
    (case rQg3 => first | k_is | rfl)
    (case rQk3 => first | k_is | rfl)
    (case rQs3 => first | k_is | rfl)
    (case rQd3 => first | k_is | rfl)
    (case rQa3 => first | k_is | rfl)
    (case rQn3 => first | k_is | rfl)
    (case rQt3 => first | k_is | rfl)
    (case rQm3 => first | k_is | rfl)
    (case rQc3 => first | k_is | rfl)
    (case rQv3 => first | k_is | rfl)
    (case rQu3_0 => first | k_is | rfl)
    (case rQu3_1 => first | k_is | rfl)
    (case rQ93 => first | k_is | rfl)
    (case rQ73 => first | k_is | rfl)
    (case rQ23 => first | k_is | rfl)
    (case rQe3_0 => first | k_is | rfl)
    (case rQe3_1 => first | k_is | rfl)
    (case rQe3_2 => first | k_is | rfl)
    (case rQe3_3 => first | k_is | rfl)
    (case z1 => k_is)
    (case z2 => k_is)
    (case z3 => k_is)
    (case z4 => k_is)
    (case z5 => k_is)
    (case z6 => k_is)
    (case z7 => k_is)
    (case z8 => k_is)
    (case z9 => k_is)
    (case z10 => k_is)
    (case z11 => k_is)
    (case z12 => k_is)
    (case z13 => k_is)
