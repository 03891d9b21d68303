import PyProof.Rows.All
import Wide.All
import OpenK.AllK
import Wide.FinOn
import HandS.ForMost
import HandS.Strs
import HandS.Set
import HandS.SetFor
import HandS.TupSets
import HandS.IsInst
import HandS.Flow
import HandS.Style
import HandS.Zip
import HandS.SortInts
import HandS.DeepEq
import HandS.SetBool
import HandS.SetKeys
import HandS.Walk
import HandS.DictComp
import HandS.ExcInit
import HandS.ExcField
import HandS.ExcOwn
import HandS.WordsExc
import HandS.ExcIs
import KE.KExcIs
import HandS.OwnEq
import KE.DatumOrd
import PyProof.EqAt
import HandS.Small
import HandS.Property
import HandS.ExcInitHot
import HandS.TryMany
import HandS.Conv
import HandS.FStr
import HandS.Finally
import PyProof.NeKinds
import PyProof.EqKinds
import PySem.Challenge.RW_curbdesk_k22_counts_supported
set_option Elab.async false
set_option linter.all false
set_option maxRecDepth 100000
/-! Tables of sets that are laid anew, for the masks that merging asks for. -/
namespace Cs
open PySem PySem.Spec PyProof.Rows
def hop (m : Nat) (q : Nat × Nat) : Nat × Nat := SetTable.leap m q.1 q.2
def hops (m : Nat) : Nat → Nat × Nat → Nat × Nat
  | 0, q => q
  | n + 1, q => hops m n (hop m q)
abbrev own (ow : Array (Option Nat)) (j : Nat) : Option Nat := ow.getD j (some 0)
theorem free_step (m : Nat) (ow : Array (Option Nat)) (f : Nat) (q : Nat × Nat) : SetTable.layClean.free m ow (f + 1) q.1 q.2 =
    (match (List.range (SetTable.runEnd m q.1 + 1 - q.1)).find? (fun k => (own ow (q.1 + k)).isNone) with
      | some k => some (q.1 + k)
      | none => SetTable.layClean.free m ow f (hop m q).1 (hop m q).2) := rfl
theorem run_ge (m i : Nat) : i ≤ SetTable.runEnd m i := by
  unfold SetTable.runEnd
  split <;> omega
theorem run_le {m i : Nat} (h : i ≤ m) : SetTable.runEnd m i ≤ m := by
  unfold SetTable.runEnd
  split <;> omega
theorem hop_le (m : Nat) (q : Nat × Nat) : (hop m q).1 ≤ m := Nat.le_of_lt_succ (Nat.mod_lt _ (Nat.succ_pos m))
theorem free_none (m : Nat) (ow : Array (Option Nat)) : ∀ (f : Nat) (q : Nat × Nat), SetTable.layClean.free m ow f q.1 q.2 = none → ∀ n, n < f → (own ow (hops m n q).1).isNone = false
  | 0, _, _, n, h => absurd h (Nat.not_lt_zero n)
  | f + 1, q, e, n, h => by
    rw [free_step] at e
    cases c : (List.range (SetTable.runEnd m q.1 + 1 - q.1)).find? (fun k => (own ow (q.1 + k)).isNone) with
    | some k => rw [c] at e; exact nomatch e
    | none =>
      rw [c] at e
      cases n with
      | zero =>
        have z := List.find?_eq_none.mp c 0 (List.mem_range.mpr (by have := run_ge m q.1; omega))
        have z2 : ¬ ((own ow q.1).isNone = true) := z
        exact Bool.eq_false_iff.mpr z2
      | succ n => exact free_none m ow f (hop m q) e n (by omega)
theorem free_some (m : Nat) (ow : Array (Option Nat)) : ∀ (f : Nat) (q : Nat × Nat) (j : Nat), SetTable.layClean.free m ow f q.1 q.2 = some j → q.1 ≤ m → j ≤ m ∧ (own ow j).isNone = true
  | 0, _, _, e, _ => nomatch e
  | f + 1, q, j, e, hq => by
    rw [free_step] at e
    cases c : (List.range (SetTable.runEnd m q.1 + 1 - q.1)).find? (fun k => (own ow (q.1 + k)).isNone) with
    | some k =>
      rw [c] at e
      have ej : q.1 + k = j := Option.some.inj e
      have h1 := List.mem_of_find?_eq_some c
      have h2 := List.find?_some c
      have h3 := List.mem_range.mp h1
      have h4 := run_le hq
      rw [← ej]
      exact ⟨by omega, h2⟩
    | none =>
      rw [c] at e
      exact free_some m ow f (hop m q) j e (hop_le m q)
theorem hops_back (m : Nat) : ∀ (n : Nat) (q : Nat × Nat), hops m (n + 1) q = hop m (hops m n q)
  | 0, _ => rfl
  | n + 1, q => hops_back m n (hop m q)
theorem hops_add (m : Nat) (a : Nat) : ∀ (k : Nat) (q : Nat × Nat), hops m (a + k) q = hops m k (hops m a q)
  | 0, _ => rfl
  | k + 1, q => by
    rw [show a + (k + 1) = (a + k) + 1 from rfl, hops_back, hops_back, hops_add m a k q]
theorem hops_snd (m : Nat) : ∀ (n : Nat) (q : Nat × Nat), (hops m n q).2 = q.2 / 32 ^ n
  | 0, q => (Nat.div_one q.2).symm
  | n + 1, q => by
    rw [hops_back]
    show (hops m n q).2 / 32 = _
    rw [hops_snd m n q, Nat.div_div_eq_div_mul, Nat.pow_succ]
theorem hops_fst_le (m : Nat) {q : Nat × Nat} (hq : q.1 ≤ m) : ∀ n, (hops m n q).1 ≤ m
  | 0 => hq
  | n + 1 => by rw [hops_back]; exact hop_le m _
theorem hops_zero (m i : Nat) : ∀ k, hops m k (i, 0) = (L2.lcgI m i k, 0)
  | 0 => rfl
  | k + 1 => by
    rw [hops_back, hops_zero m i k]
    show ((L2.lcgI m i k * 5 + 1 + 0 / 32) % (m + 1), 0 / 32) = _
    rw [Nat.zero_div, Nat.add_zero] <;> rfl
def Msk (m : Nat) : Prop := m = 7 ∨ m = 15 ∨ m = 31 ∨ m = 63 ∨ m = 127
/- one round from 0, then the shift -/
theorem all15 : ((List.range 16).all fun j => (List.range 16).any fun b => L2.lcgN 15 b == j) = true := by decide +kernel
theorem all63 : ((List.range 64).all fun j => (List.range 64).any fun b => L2.lcgN 63 b == j) = true := by decide +kernel
theorem round15 : L2.lcgN 15 16 = 0 := by decide +kernel
theorem round63 : L2.lcgN 63 64 = 0 := by decide +kernel
theorem turn_mod {m : Nat} (h : L2.lcgN m (m + 1) = 0) : ∀ k, L2.lcgN m (m + 1 + k) = L2.lcgN m k
  | 0 => h
  | k + 1 => by
    show (L2.lcgN m (m + 1 + k) * 5 + 1) % (m + 1) = (L2.lcgN m k * 5 + 1) % (m + 1)
    rw [turn_mod h k]
theorem lcg_by {m : Nat} (hr : L2.lcgN m (m + 1) = 0) (ha : ((List.range (m + 1)).all fun j => (List.range (m + 1)).any fun b => L2.lcgN m b == j) = true) {i j : Nat} (hi : i ≤ m) (hj : j ≤ m) :
    ∃ k, k ≤ m ∧ L2.lcgI m i k = j := by
  have at0 : ∀ x, x ≤ m → ∃ b, b ≤ m ∧ L2.lcgN m b = x := fun x hx => by
    obtain ⟨b, hb, e⟩ := List.any_eq_true.mp (List.all_eq_true.mp ha x (List.mem_range.mpr (by omega)))
    exact ⟨b, Nat.le_of_lt_succ (List.mem_range.mp hb), eq_of_beq e⟩
  obtain ⟨a, la, ea⟩ := at0 i hi
  obtain ⟨b, lb, eb⟩ := at0 j hj
  subst ea
  by_cases c : a ≤ b
  · exact ⟨b - a, by omega, by rw [L2.lcgN_add, Nat.add_sub_cancel' c]; exact eb⟩
  · refine ⟨m + 1 + b - a, by omega, ?_⟩
    rw [L2.lcgN_add, Nat.add_sub_cancel' (by omega), turn_mod hr]
    exact eb
theorem lcg_meets {m : Nat} (hm : Msk m) {i j : Nat} (hi : i ≤ m) (hj : j ≤ m) : ∃ k, k ≤ m ∧ L2.lcgI m i k = j := by
  rcases hm with e | e | e | e | e
  · exact L2.lcgI_all (.inl e) hi hj
  · subst e; exact lcg_by round15 all15 hi hj
  · exact L2.lcgI_all (.inr (.inl e)) hi hj
  · subst e; exact lcg_by round63 all63 hi hj
  · exact L2.lcgI_all (.inr (.inr e)) hi hj
theorem free_there {m : Nat} (hm : Msk m) (ow : Array (Option Nat)) (h : Int) {j0 : Nat} (hj : j0 ≤ m) (hf : (own ow j0).isNone = true) :
    ∃ j, SetTable.layClean.free m ow (SetTable.turns m) (SetTable.bits h % (m + 1)) (SetTable.bits h) = some j ∧ j ≤ m ∧ (own ow j).isNone = true := by
  have hq : SetTable.bits h % (m + 1) ≤ m := Nat.le_of_lt_succ (Nat.mod_lt _ (Nat.succ_pos m))
  cases e : SetTable.layClean.free m ow (SetTable.turns m) (SetTable.bits h % (m + 1)) (SetTable.bits h) with
  | some j => exact ⟨j, rfl, free_some m ow _ (SetTable.bits h % (m + 1), SetTable.bits h) j e hq⟩
  | none =>
    exfalso
    have all := free_none m ow _ (SetTable.bits h % (m + 1), SetTable.bits h) e
    have z : (hops m 13 (SetTable.bits h % (m + 1), SetTable.bits h)).2 = 0 := by
      rw [hops_snd]
      refine Nat.div_eq_of_lt (Nat.lt_trans (L2.bits_lt h) ?_)
      decide
    have le := hops_fst_le m (q := (SetTable.bits h % (m + 1), SetTable.bits h)) hq 13
    obtain ⟨k, hk, ek⟩ := lcg_meets hm le hj
    have q := all (13 + k) (by show 13 + k < m + 15; omega)
    have e2 : hops m 13 (SetTable.bits h % (m + 1), SetTable.bits h) = ((hops m 13 (SetTable.bits h % (m + 1), SetTable.bits h)).1, 0) := by
      rw [← z]
    rw [hops_add, e2, hops_zero] at q
    rw [ek] at q
    rw [hf] at q
    cases q
/-! ### who sits where -/
theorem put_perm : ∀ (l : List (Option Nat)) (j k : Nat), l[j]? = some none → ((l.set j (some k)).filterMap id).Perm (k :: l.filterMap id)
  | [], j, k, h => by simp at h
  | x :: l, 0, k, h => by
    have e : x = none := by simpa using h
    subst e
    simp
  | x :: l, j + 1, k, h => by
    have ih := put_perm l j k (by simpa using h)
    cases x with
    | none => simpa using ih
    | some y =>
      simp only [List.set_cons_succ, List.filterMap_cons, id]
      exact (ih.cons y).trans (List.Perm.swap k y _)
theorem gap : ∀ l : List (Option Nat), (l.filterMap id).length < l.length → ∃ j : Nat, j < l.length ∧ l[j]? = some none
  | [], h => by simp at h
  | none :: l, h => ⟨0, by simp, rfl⟩
  | some y :: l, h => by
    obtain ⟨j, hj, e⟩ := gap l (by simpa using h)
    exact ⟨j + 1, by simpa using hj, by simpa using e⟩
structure Sit (m k : Nat) (ow : Array (Option Nat)) : Prop where
  sz : ow.size = m + 1
  pm : (ow.toList.filterMap id).Perm (List.range k)
theorem Sit.start (m : Nat) : Sit m 0 (Array.replicate (m + 1) none) := ⟨by simp, by simp⟩
theorem Sit.next {m k : Nat} {ow : Array (Option Nat)} (S : Sit m k ow) (hm : Msk m) (hk : k ≤ m) (h : Int) :
    ∃ j, SetTable.layClean.free m ow (SetTable.turns m) (SetTable.bits h % (m + 1)) (SetTable.bits h) = some j ∧ Sit m (k + 1) (ow.setIfInBounds j (some k)) := by
  have l1 := S.pm.length_eq
  rw [List.length_range] at l1
  obtain ⟨j0, h0, e0⟩ := gap ow.toList (by rw [l1, Array.length_toList, S.sz]; omega)
  rw [Array.length_toList, S.sz] at h0
  have f0 : (own ow j0).isNone = true := by
    have : ow[j0]? = some none := by rw [← Array.getElem?_toList]; exact e0
    simp [own, Array.getD_eq_getD_getElem?, this]
  obtain ⟨j, ej, hj, hn⟩ := free_there hm ow h (by omega) f0
  have hjs : j < ow.size := by rw [S.sz]; omega
  have en : ow.toList[j]? = some none := by
    have : own ow j = none := by simpa using hn
    rw [Array.getElem?_toList]
    simp only [own, Array.getD_eq_getD_getElem?, Array.getElem?_eq_getElem hjs, Option.getD_some] at this
    rw [Array.getElem?_eq_getElem hjs, this]
  refine ⟨j, ej, by rw [Array.size_setIfInBounds]; exact S.sz, ?_⟩
  rw [Array.toList_setIfInBounds]
  refine (put_perm ow.toList j k en).trans ?_
  rw [List.range_succ]
  exact (S.pm.cons k).trans (List.perm_append_singleton k _).symm
end Cs
set_option Elab.async false
set_option linter.all false
set_option maxRecDepth 100000
set_option maxHeartbeats 1000000
namespace Cs
open PySem PySem.Spec PyProof.Rows L2
/-- a set of ints, written out -/
structure SetX (w : World) (h : Heap) (a : Addr) (es : Array (Int × Value)) (ep : Nat) (t : SetTable) : Prop where
  obj : h.get? a = some { cls := .type "set", dict := none, data := .set es ep t, slots := #[] }
  good : ∀ e ∈ es.toList, GoodE e
  nd : (es.toList.map keyOf).Nodup
  few : es.size < scanBound
  fits : t.fits es.size = true
  ris : Ris t.place.toList
  led : w.params.followText "set-order" = true ∨ t.led = true
end Cs
set_option Elab.async false
set_option linter.all false
set_option maxRecDepth 100000
set_option maxHeartbeats 1000000
namespace Cs
open PySem PySem.Spec PyProof.Rows L2
end Cs
set_option Elab.async false
set_option linter.all false
set_option maxRecDepth 100000
set_option maxHeartbeats 1000000
namespace Cs
open PySem PySem.Spec PyProof.Rows L2
end Cs
set_option Elab.async false
set_option linter.all false
set_option maxRecDepth 100000
set_option maxHeartbeats 1000000
namespace Cs
open PySem PySem.Spec PyProof.Rows L2
section
variable {P : Program} {w : World} {A : Around} {E : Value → Shared → Prop} {s : Shared}
abbrev keys (es : Array (Int × Value)) : List Int := es.toList.map keyOf
end
end Cs
set_option Elab.async false
set_option linter.all false
set_option maxRecDepth 100000
set_option maxHeartbeats 1000000
namespace Cs
open PySem PySem.Spec PyProof.Rows L2
section
variable {P : Program} {w : World} {A : Around} {E : Value → Shared → Prop} {s : Shared}
/-! ### the words of the class -/
theorem SetX.ty {h : Heap} {a : Addr} {es : Array (Int × Value)} {ep : Nat} {t : SetTable} (R : SetX w h a es ep t) {s : Shared} (e : s.heap = h) : s.TypeIs (.ref a) "set" :=
  ⟨_, by rw [e]; exact R.obj, rfl⟩
end
end Cs
set_option Elab.async false
set_option linter.all false
set_option maxRecDepth 100000
set_option maxHeartbeats 1000000
namespace Cs
open PySem PySem.Spec PyProof.Rows L2
end Cs
set_option Elab.async false
set_option linter.all false
set_option maxRecDepth 100000
set_option maxHeartbeats 1000000
namespace Cs
open PySem PySem.Spec PyProof.Rows L2
end Cs
set_option Elab.async false
set_option linter.all false
set_option maxRecDepth 100000
set_option maxHeartbeats 2000000
namespace Cs
open PySem PySem.Spec PyProof.Rows L2
end Cs
set_option Elab.async false
set_option linter.all false
set_option maxRecDepth 100000
set_option maxHeartbeats 2000000
namespace Cs
open PySem PySem.Spec PyProof.Rows L2
end Cs
set_option Elab.async false
set_option linter.all false
set_option maxRecDepth 100000
set_option maxHeartbeats 2000000
namespace Cs
open PySem PySem.Spec PyProof.Rows L2
end Cs
set_option Elab.async false
set_option linter.all false
set_option maxRecDepth 100000
set_option maxHeartbeats 3200000
namespace Cs
open PySem PySem.Spec PyProof.Rows L2
end Cs
set_option Elab.async false
set_option linter.all false
set_option maxRecDepth 100000
set_option maxHeartbeats 2000000
namespace Cs
open PySem PySem.Spec PyProof.Rows L2
end Cs
set_option Elab.async false
set_option linter.all false
set_option maxRecDepth 100000
set_option maxHeartbeats 2000000
/-! != of two lists whose items are equal, deep -/
namespace Cs
open PySem PySem.Spec PyProof.Rows L2
open AutoSeq1 (wpAny_loadPart')
open MeetsSeq MeetsSeq2 MeetsSeq3 SeqRoads2 SeqAt
section
variable {prog : Program} {w : World}
abbrev seqO (us : Array Value) (n : Nat) (dd : Option Addr) (sl : Array (Option Value)) : Obj := { cls := .type "list", dict := dd, data := .seq us n, slots := sl }
abbrev AllP (prog : Program) (w : World) (A : Around) (s : Shared) (us ws : Array Value) : Prop := ∀ j (h1 : j < us.size) (h2 : j < ws.size), EqP prog w A s us[j] ws[j] true
theorem ne_stepP (a c : Addr) (us ws : Array Value) (n m : Nat) (d1 d2 : Option Addr) (s1 s2 : Array (Option Value)) (eq : us.size = ws.size) :
    ∀ (k i : Nat), us.size - i = k → MeetsIn prog w (Builtin.«list.__eq__.loop» ⟨[.ref a, .ref c, rawInt i, rawInt 3], []⟩)
      (fun A R s => s.heap.get? a = some (seqO us n d1 s1) ∧ s.heap.get? c = some (seqO ws m d2 s2) ∧ AllP prog w A.in1 s us ws ∧ R (.ok (.ret (.bool false))) s) := by
  intro k
  induction k with
  | zero =>
    intro i le A R s h
    obtain ⟨hp, g, d, tk, os⟩ := s
    obtain ⟨ha, hc, _, q⟩ := h
    wp_walk using wpAny_loadPart' ha, wpAny_loadPart' hc
    rw [show us[((i : Nat) : Int).toNat]? = none by simp; omega, show ws[((i : Nat) : Int).toNat]? = none by simp; omega]
    wp_walk using wpAny_loadPart' ha, wpAny_loadPart' hc
    show R (.ok (.ret (.bool (us.size != ws.size)))) _
    rw [eq]
    simpa using q
  | succ k ih =>
    intro i le A R s h
    obtain ⟨hp, g, d, tk, os⟩ := s
    obtain ⟨ha, hc, al, q⟩ := h
    have i1 : i < us.size := by omega
    have i2 : i < ws.size := by omega
    wp_walk using wpAny_loadPart' ha, wpAny_loadPart' hc
    rw [show us[((i : Nat) : Int).toNat]? = some us[i] by simp [i1], show ws[((i : Nat) : Int).toNat]? = some ws[i] by simp [i2]]
    refine wpAny_bind (al i i1 i2 _ _ ?_)
    wp_walk
    rw [show ((i : Int) + 1) = ((i + 1 : Nat) : Int) by push_cast; rfl]
    refine ⟨plainId_quiet plain_eq_loop _, codeAny_builtin entry_eq_loop ?_⟩
    rw [Around.under_plainId plain_eq_loop _]
    exact ih (i + 1) (by omega) A R _ ⟨ha, hc, al, q⟩
theorem ne_listP (a c : Addr) (us ws : Array Value) (n m : Nat) (d1 d2 : Option Addr) (s1 s2 : Array (Option Value)) (eq : us.size = ws.size) :
    MeetsIn prog w (Builtin.«list.__ne__» ⟨[.ref a, .ref c], []⟩)
      (fun A R s => s.heap.get? a = some (seqO us n d1 s1) ∧ s.heap.get? c = some (seqO ws m d2 s2) ∧ AllP prog w A.in1 s us ws ∧ R (.ok (.ret (.bool false))) s) := by
  intro A R s h
  obtain ⟨hp, g, d, tk, os⟩ := s
  obtain ⟨ha, hc, al, q⟩ := h
  have sub := AutoSeq1.sub_list_list
  have same : ¬ (us.size != ws.size) = true := by simp [eq]
  wp_walk using wpAny_loadPart' ha, wpAny_loadPart' hc
  refine ⟨plainId_quiet plain_eq_loop _, codeAny_builtin entry_eq_loop ?_⟩
  rw [Around.under_plainId plain_eq_loop _]
  exact ne_stepP a c us ws n m d1 d2 s1 s2 eq _ 0 rfl A R _ ⟨ha, hc, al, q⟩
theorem rc_neP {A : Around} {s : Shared} {a c : Addr} {us ws : Array Value} (ha : s.heap.IsList a us) (hc : s.heap.IsList c ws) (eq : us.size = ws.size) (hu : A.units < cLine)
    (al : AllP prog w A.in1 s us ws) (E Q : Value → Shared → Prop) (q : Q (.bool false) s) : wpAny (model prog w) A (richCompare .NotEq (.ref a) (.ref c)) Q E s := by
  obtain ⟨⟨c1, d1, x1, s1⟩, o1, e1, n, f1⟩ := id ha
  obtain ⟨⟨c2, d2, x2, s2⟩, o2, e2, m, f2⟩ := id hc
  simp only at e1 f1 e2 f2
  subst e1 f1 e2 f2
  have ta : s.TypeIs (.ref a) "list" := ⟨_, o1, rfl⟩
  have tc : s.TypeIs (.ref c) "list" := ⟨_, o2, rfl⟩
  exact wpAny_richCompare_same_room (op := .NotEq) ta tc F.slot_list_ne (call_meetsIn F.slot_list_ne ta F.entry_list_ne (F.args_list_ne_2 _ _) (ne_listP a c us ws n m d1 d2 s1 s2 eq)
    ⟨o1, o2, al, show Value.bool false ≠ Value.notImplemented ∧ Q (.bool false) s from ⟨(fun x => nomatch x), q⟩⟩) hu
end
section
variable {X : Cx}
/-- a != b, two lists that are equal -/
def rNeV (K : PySem.W.Frag) : R2 := fun x y H Q => ∃ a b xs ys, x = .ref a ∧ y = .ref b ∧ SqL K H a xs ∧ SqL K H b ys ∧ (∃ n, n ≤ 60 ∧ Paired (EqV K H n) xs ys) ∧ Q (.bl false) H
theorem op_neV (hu : X.A.units + 64 < cLine) : OpR X (compareOp .NotEq) (rNeV X.K) := by
  intro pins s σ H x y v u Q I rx ry h
  obtain ⟨a, b, xs, ys, rfl, rfl, ha, hb, ⟨n, hn, hp⟩, q⟩ := h
  cases (show v = Value.ref a from rx)
  cases (show u = Value.ref b from ry)
  obtain ⟨us, r1, p1, _⟩ := I.list ha
  obtain ⟨ws, r2, p2, _⟩ := I.list hb
  have hsz : us.toArray.size = ws.toArray.size := by
    rw [List.size_toArray, List.size_toArray, ← r1.length, ← r2.length]
    exact Paired.length hp
  refine rc_neP p1.isList p2.isList hsz (by omega) (fun j h1 h2 => ?_) _ _ ⟨.bl false, H, I, rfl, q⟩
  have k := items_run (eqV_run I n X.A.in1 (by show X.A.units + 1 + n < cLine; omega)) hp r1 r2 j (by simpa using h1) (by simpa using h2)
  simpa using k
end
end Cs
set_option Elab.async false
set_option linter.all false
set_option maxRecDepth 100000
set_option maxHeartbeats 4000000
/-! Sets of keys by a comprehension: {x for .. in ..}, the members ints or texts. -/
namespace Cs
open PySem PySem.Spec PyProof.Rows L2 PpSet
end Cs
set_option Elab.async false
set_option linter.all false
set_option maxRecDepth 100000
set_option maxHeartbeats 4000000
namespace K22
open PySem PySem.Spec PyProof.Rows L2 Cs
def topS (i : Nat) : Stmt := PySem.Challenge.pw_curbdesk_k22_counts_supported.main.body.getD i (.Pass ⟨0, 0, 0, 0⟩)
structure Bt (mg : Str → Option Value) : Prop where
  sorted : mg "sorted" = none
  set : mg "set" = none
  len : mg "len" = none
  isi : mg "isinstance" = none
  int : mg "int" = none
  bool : mg "bool" = none
  list : mg "list" = none
  all : mg "all" = none
  range : mg "range" = none
  dict : mg "dict" = none
abbrev Srt (ms : List Int) : Prop := ms.Pairwise (· < ·)
theorem same_new {H : Hp} {p : Addr} {o : HO} (h : H p = none) : Same H (upd H p o) := fun b x e => by
  rw [upd_ne (ne_of_none e h)]
  exact e
theorem same_at {H H' : Hp} {p : Addr} {o : HO} (s : Same H H') (h : H p = none) : Same H (upd H' p o) := fun b x e => by
  rw [upd_ne (ne_of_none e h)]
  exact s _ _ e
theorem sl_map {K : PySem.W.Frag} {H : Hp} {a : Addr} {xs : List V} (h : H a = some (.lst xs)) : SqL K H a xs := .inl (.inl h)
section
variable {P : Program} {w : World} {K : PySem.W.Frag} {mg : Str → Option Value} {base : Heap}
abbrev sIsInt : Stmt := topS 27
abbrev sStream : Stmt := topS 28
abbrev sDraw : Stmt := topS 29
theorem scIsInt : FnScope ["_law_actual"] ["_law_actual"] (defScope sIsInt) := ⟨rfl, rfl, rfl, by decide +kernel, rfl, by decide +kernel, by decide +kernel⟩
theorem scStream : FnScope ["_law_script", "_law_k", "_law_cell"] ["_law_script", "_law_k"] (defScope sStream) := ⟨rfl, rfl, rfl, by decide +kernel, rfl, by decide +kernel, by decide +kernel⟩
theorem scDraw : FnScope ["_law_stream_here", "_law_size", "_law_digit", "_law_mixed"] ["_law_stream_here", "_law_size"] (defScope sDraw) := ⟨rfl, rfl, rfl, by decide +kernel, rfl, by decide +kernel, by decide +kernel⟩
def spIsInt : Sp := fun vs H Q _ => ∃ k : Int, vs = [.int k] ∧ Q (.bl true) H
theorem ok_isInt {f : Addr} {fd : FuncData} {k : Nat} (F : Fun K "_law_is_integer" "_law_is_integer" sIsInt f fd) (B : Bt mg) : FnOk P w K mg base CX0 (k + 1) f fd ["_law_actual"] spIsInt := by
  refine F.ok scIsInt (fun vs H Q E h => ?_) (fun cdv A outer s H vs Q E hr h => ?_)
  · obtain ⟨a, rfl, _⟩ := h
    rfl
  · obtain ⟨a, rfl, q⟩ := h
    refine ⟨_, pss_one (ps_ret (pe_and (pe_callB call_isi (by rfl) B.isi PyProof.Rows.boot_isinstance (pa_cons (pv 0) (pa_cons (pe_bltn (by rfl) B.int PyProof.Rows.boot_int (v := .ty "int") rfl) pa_nil)))
      (pe_one (pe_not (pe_callB call_isi (by rfl) B.isi PyProof.Rows.boot_isinstance (pa_cons (pv 0) (pa_cons (pe_bltn (by rfl) B.bool PyProof.Rows.boot_bool (v := .ty "bool") rfl) pa_nil))))))), ?_⟩
    refine ⟨.int a, rfl, .int a, .ty "int", .type "int", .type "int", true, rfl, .ty _, .base (.int a), kit_ty (by decide +kernel), true, rfl, iteT ?_⟩
    exact ⟨.int a, rfl, .int a, .ty "bool", .type "int", .type "bool", false, rfl, .ty _, .base (.int a), kit_ty (by decide +kernel), false, rfl, q⟩
/-- a stream: three ints -/
def Strm (H : Hp) (p : Addr) : Prop := ∃ x y z : Int, H p = some (.lst [.int x, .int y, .int z])
def spStream (K : PySem.W.Frag) : Sp := fun vs H Q _ => ∃ (a : Addr) (ns : List Int) (k : Nat), vs = [.ref a, .int (k : Int)] ∧ SqL K H a (ns.map V.int) ∧
  ∀ H' p, Same H H' → H p = none → Strm H' p → Q (.ref p) H'
theorem ok_stream {f : Addr} {fd : FuncData} {k : Nat} (F : Fun K "_law_stream" "_law_stream" sStream f fd) (B : Bt mg) : FnOk P w K mg base CX0 (k + 1) f fd ["_law_script", "_law_k"] (spStream K) := by
  refine F.ok scStream (fun vs H Q E h => ?_) (fun cdv A outer s H vs Q E hr h => ?_)
  · obtain ⟨a, ns, k, rfl, _⟩ := h
    rfl
  · obtain ⟨a, ns, k, rfl, hS, q⟩ := h
    refine ⟨_, pss_cons (ps_set (i := 2) scStream.nd rfl (.inl rfl) pe_int)
      (pss_cons (ps_if (pt_cmpR op_lt (pv 1) (pe_callB call_len_seq (by rfl) B.len PySem.boot_len (pa_cons (pv 0) pa_nil)) (nomark _))
        (pss_one (ps_set (i := 2) scStream.nd rfl (.inl rfl) (pe_ix ix_list (pv 0) (pv 1) (fun _ _ => rfl)))) pss_nil)
      (pss_one (ps_ret (pe_lst (pa_cons (pe_op op_mul (pv 2) (pe_callTy call_int1 (by rfl) B.int PyProof.Rows.boot_int (pa_cons (pe_cmpR op_ge (pv 2) (pe_op op_pow pe_int pe_int) (nomark _)) pa_nil))) (pa_cons pe_int (pa_cons (pv 2) pa_nil))))))), ?_⟩
    have tail : ∀ (c : Int) (b : Bool), -(2 ^ 64) < (if b = true then (1 : Int) else 0) ∧ (if b = true then (1 : Int) else 0) < 2 ^ 64 := fun c b => by cases b <;> decide
    refine ⟨.int k, rfl, .ref a, rfl, a, _, rfl, .inl hS, (k : Int), _, rfl, rfl, _, rfl, ite2 (fun c => ?_) (fun c => ?_)⟩
    · have hk : k < ns.length := by
        have := of_decide_eq_true c
        rw [List.length_map] at this
        omega
      have g : (ns.map V.int)[k]? = some (.int ns[k]) := by
        rw [List.getElem?_map, List.getElem?_eq_getElem hk]
        rfl
      refine ⟨.ref a, rfl, .int k, rfl, a, _, (k : Int), _, rfl, rfl, hS, atI_nat g, ?_⟩
      refine ⟨.int ns[k], rfl, .int ns[k], rfl, 10, 18, rfl, rfl, ⟨by decide, by decide, by decide⟩, ns[k], _, rfl, rfl, .inr ⟨_, rfl, ns[k], _, rfl, rfl, .inr (tail 0 _), .int ns[k], rfl, by show 3 ≤ sizeLine; decide, fun l hl => ?_⟩⟩
      exact q _ l (same_new hl) hl ⟨_, _, _, upd_same⟩
    · refine ⟨.int 0, rfl, .int 0, rfl, 10, 18, rfl, rfl, ⟨by decide, by decide, by decide⟩, 0, _, rfl, rfl, .inr ⟨_, rfl, 0, _, rfl, rfl, .inr (tail 0 _), .int 0, rfl, by show 3 ≤ sizeLine; decide, fun l hl => ?_⟩⟩
      exact q _ l (same_new hl) hl ⟨_, _, _, upd_same⟩
/-- all but the one at p is as it was -/
def Oth (p : Addr) (H H' : Hp) : Prop := ∀ b, b ≠ p → H' b = H b
def spDraw : Sp := fun vs H Q _ => ∃ (p : Addr) (m : Int), vs = [.ref p, .int m] ∧ Strm H p ∧ 0 < m ∧ m < 1073741824 ∧
  ∀ H' d, Oth p H H' → Strm H' p → 0 ≤ d → d < m → Q (.int d) H'
theorem at0 {x y z : V} : atI [x, y, z] (0 : Int) = some x := atI_nat (j := 0) rfl
theorem at1 {x y z : V} : atI [x, y, z] (1 : Int) = some y := atI_nat (j := 1) rfl
theorem at2 {x y z : V} : atI [x, y, z] (2 : Int) = some z := atI_nat (j := 2) rfl
theorem ok_draw {f : Addr} {fd : FuncData} {k : Nat} (F : Fun K "_law_next" "_law_next" sDraw f fd) (B : Bt mg) : FnOk P w K mg base CX0 (k + 1) f fd ["_law_stream_here", "_law_size"] spDraw := by
  refine F.ok scDraw (fun vs H Q E h => ?_) (fun cdv A outer s H vs Q E hr h => ?_)
  · obtain ⟨p, m, rfl, _⟩ := h
    rfl
  · obtain ⟨p, m, rfl, ⟨x, y, z, hp⟩, m0, m1, q⟩ := h
    refine ⟨_, pss_cons (ps_asg (pe_op op_add (pe_ix ix_list (pv 0) pe_int (fun _ _ => rfl)) pe_int) (pg_sub (pv 0) pe_int set_list))
      (pss_cons (ps_if (pt_cmpR op_gt (pe_ix ix_list (pv 0) pe_int (fun _ _ => rfl)) pe_int (nomark _))
        (pss_cons (ps_set (i := 2) scDraw.nd rfl (.inl rfl) (pe_op op_mod (pe_callTy call_int1 (by rfl) B.int PyProof.Rows.boot_int (pa_cons (pe_ix ix_list (pv 0) pe_int (fun _ _ => rfl)) pa_nil)) (pv 1)))
          (pss_cons (ps_asg (pe_op op_fdiv (pe_ix ix_list (pv 0) pe_int (fun _ _ => rfl)) (pv 1)) (pg_sub (pv 0) pe_int set_list))
          (pss_one (ps_ret (pv 2))))) pss_nil)
      (pss_cons (ps_set (i := 3) scDraw.nd rfl (.inl rfl) (pe_op op_mod (pe_callTy call_int1 (by rfl) B.int PyProof.Rows.boot_int (pa_cons
          (pe_op op_add (pe_op op_add (pe_ix ix_list (pv 0) pe_int (fun _ _ => rfl)) (pe_op op_mul pe_int (pe_ix ix_list (pv 0) pe_int (fun _ _ => rfl)))) pe_int) pa_nil)) pe_int))
      (pss_cons (ps_set (i := 3) scDraw.nd rfl (.inl rfl) (pe_op op_mod (pe_callTy call_int1 (by rfl) B.int PyProof.Rows.boot_int (pa_cons
          (pe_op op_mul (pv 3) (pe_op op_add (pv 3) pe_int)) pa_nil)) pe_int))
      (pss_cons (ps_set (i := 3) scDraw.nd rfl (.inl rfl) (pe_op op_mod (pe_callTy call_int1 (by rfl) B.int PyProof.Rows.boot_int (pa_cons
          (pe_op op_add (pe_op op_mul (pv 3) (pe_op op_add (pv 3) pe_int)) (pe_op op_mul pe_int (pe_ix ix_list (pv 0) pe_int (fun _ _ => rfl)))) pa_nil)) pe_int))
      (pss_one (ps_ret (pe_op op_mod (pe_callTy call_int1 (by rfl) B.int PyProof.Rows.boot_int (pa_cons (pe_op op_fdiv (pv 3) pe_int) pa_nil)) (pv 1)))))))), ?_⟩
    have pos1 : (0 : Int) < 2147483647 := by decide
    have pos2 : (0 : Int) < 2147483629 := by decide
    -- stream[1] = stream[1] + 1
    refine ⟨.ref p, rfl, p, _, 1, .int y, rfl, rfl, sl_map hp, at1, y, 1, rfl, rfl, .ref p, rfl, p, _, 1, 1, rfl, rfl, hp, rfl, ?_⟩
    have h1 : ∀ o, (upd H p o) p = some o := fun o => upd_same
    -- if stream[0] > 0
    refine ⟨.ref p, rfl, p, _, 0, .int x, rfl, rfl, sl_map upd_same, at0, x, 0, rfl, rfl, _, rfl, ite2 (fun c => ?_) (fun c => ?_)⟩
    · refine ⟨.ref p, rfl, p, _, 0, .int x, rfl, rfl, sl_map upd_same, at0, .inl ⟨x, rfl, .int m, rfl, x, m, rfl, rfl, m0, ?_⟩⟩
      refine ⟨.ref p, rfl, p, _, 0, .int x, rfl, rfl, sl_map upd_same, at0, .int m, rfl, x, m, rfl, rfl, ⟨m0, m1⟩, .ref p, rfl, p, _, 0, 0, rfl, rfl, upd_same, rfl, ?_⟩
      refine ⟨.int (x % m), rfl, q _ _ (fun b hb => by rw [upd_ne hb, upd_ne hb]) ⟨_, _, _, upd_same⟩ (Int.emod_nonneg _ (by omega)) (Int.emod_lt_of_pos _ m0)⟩
    · refine ⟨.ref p, rfl, p, _, 2, .int z, rfl, rfl, sl_map upd_same, at2, .ref p, rfl, p, _, 1, .int (y + 1), rfl, rfl, sl_map upd_same, at1, 7919, y + 1, rfl, rfl, .inl ⟨by decide, by decide⟩, z, _, rfl, rfl, _, 13, rfl, rfl,
        .inl ⟨_, rfl, _, 2147483647, rfl, rfl, pos1, ?_⟩⟩
      have r1 : ∀ u : Int, 0 ≤ u % 2147483647 ∧ u % 2147483647 < 2147483647 := fun u => ⟨Int.emod_nonneg _ (by decide), Int.emod_lt_of_pos _ (by decide)⟩
      have r2 : ∀ u : Int, 0 ≤ u % 2147483629 ∧ u % 2147483629 < 2147483629 := fun u => ⟨Int.emod_nonneg _ (by decide), Int.emod_lt_of_pos _ (by decide)⟩
      have big : (2147483647 : Int) < 2 ^ 64 := by decide
      have big2 : (-(2 ^ 64) : Int) < 0 := by decide
      have b1 := r1 (z + 7919 * (y + 1) + 13)
      refine ⟨_, rfl, _, rfl, (z + 7919 * (y + 1) + 13) % 2147483647, 48271, rfl, rfl, (z + 7919 * (y + 1) + 13) % 2147483647, _, rfl, rfl, .inl ⟨by omega, by omega⟩, .inl ⟨_, rfl, _, 2147483629, rfl, rfl, pos2, ?_⟩⟩
      have b2 := r2 ((z + 7919 * (y + 1) + 13) % 2147483647 * ((z + 7919 * (y + 1) + 13) % 2147483647 + 48271))
      refine ⟨_, rfl, _, rfl, _, 69621, rfl, rfl, (z + 7919 * (y + 1) + 13) % 2147483647 * ((z + 7919 * (y + 1) + 13) % 2147483647 + 48271) % 2147483629, _, rfl, rfl, .inl ⟨?_, ?_⟩, .ref p, rfl, p, _, 1, .int (y + 1), rfl, rfl, sl_map upd_same, at1, 31, y + 1, rfl, rfl, .inl ⟨by decide, by decide⟩, _, _, rfl, rfl,
        .inl ⟨_, rfl, _, 2147483647, rfl, rfl, pos1, ?_⟩⟩
      · generalize (z + 7919 * (y + 1) + 13) % 2147483647 * ((z + 7919 * (y + 1) + 13) % 2147483647 + 48271) % 2147483629 = v at b2
        omega
      · generalize (z + 7919 * (y + 1) + 13) % 2147483647 * ((z + 7919 * (y + 1) + 13) % 2147483647 + 48271) % 2147483629 = v at b2
        omega
      refine ⟨_, rfl, _, 9, rfl, rfl, ⟨by decide, by decide⟩, .inl ⟨_, rfl, .int m, rfl, _, m, rfl, rfl, m0, ?_⟩⟩
      exact q _ _ (fun b hb => by rw [upd_ne hb]) ⟨_, _, _, upd_same⟩ (Int.emod_nonneg _ (by omega)) (Int.emod_lt_of_pos _ m0)
/-- a def that stands, with its promise -/
structure Call (P : Program) (w : World) (K : PySem.W.Frag) (mg : Str → Option Value) (base : Heap) (k : Nat) (x : Str) (f : Addr) (fd : FuncData) (ps : List Str) (sp : Sp) : Prop where
  ok : FnOk P w K mg base CX0 k f fd ps sp
  at_ : mg x = some (.ref f)
  kp : PySem.W.keepIn K (.ref f) = true
  bd : Binds K fd ps []
abbrev sIsSide : Stmt := topS 39
abbrev nIsSide : List Str := ["_law_actual", "_law_value", "_law_k"]
theorem scIsSide : FnScope nIsSide ["_law_actual"] (defScope sIsSide) := ⟨rfl, rfl, rfl, by decide +kernel, rfl, by decide +kernel, by decide +kernel⟩
def spIsSide : Sp := fun vs H Q _ => ∃ (a : Addr) (ns : List Int), vs = [.ref a] ∧ H a = some (.lst (ns.map V.int)) ∧ Srt ns ∧ ns.length ≤ 1000 ∧ ∀ H', Same H H' → Q (.bl true) H'
theorem all_rep (n : Nat) : (List.replicate n true).all id = true := by simp
theorem ok_isSide {f fI : Addr} {fd fdI : FuncData} (F : Fun K "_law_is_side" "_law_is_side" sIsSide f fd) (B : Bt mg) (I : Call P w K mg base 1 "_law_is_integer" fI fdI ["_law_actual"] spIsInt) :
    FnOk P w K mg base CX0 2 f fd ["_law_actual"] spIsSide := by
  refine F.ok scIsSide (fun vs H Q E h => ?_) (fun cdv A outer s H vs Q E hr h => ?_)
  · obtain ⟨a, ns, rfl, _⟩ := h
    rfl
  · obtain ⟨a, ns, rfl, ha, hs, hl, q⟩ := h
    refine ⟨_, pss_cons (ps_if (PW.pt (pw_or (pt_not (pt_val (pe_callB call_isi (by rfl) B.isi PyProof.Rows.boot_isinstance (pa_cons (pv 0) (pa_cons (pe_bltn (by rfl) B.list PyProof.Rows.boot_list (v := .ty "list") rfl) pa_nil)))))
        (pw_or1 (pt_not (pt_val (pe_callB (cr_all rfl) (by rfl) B.all PyProof.Rows.boot_all (pa_cons
          (pe_lc (own := [("_law_value", 1)]) (g := gName 1) (tt := tYes) rfl scIsSide.nd (pi_list (pv 0)) (blkOk_by (N := nIsSide) (sc := defScope sIsSide) (by decide +kernel)) (fun _ _ _ _ _ => pg_name (i := 1) scIsSide.nd rfl (Or.inl rfl)) (fun _ _ _ _ _ => pts_nil)
            (fun _ _ _ _ _ => pe_call I.ok hr (by rfl) I.at_ I.kp I.bd .nil pass0 (pa_cons (pv 1) pa_nil))) pa_nil)))))))
        (pss_one (ps_ret pe_bl)) pss_nil)
      (pss_one (ps_ret (pe_callB (cr_all rfl) (by rfl) B.all PyProof.Rows.boot_all (pa_cons
          (pe_lc (own := [("_law_k", 2)]) (g := gName 2) (tt := tYes) rfl scIsSide.nd (pi_range1 (by rfl) B.range (pa_cons (pe_op op_sub (pe_callB call_len_seq (by rfl) B.len PySem.boot_len (pa_cons (pv 0) pa_nil)) pe_int) pa_nil))
            (blkOk_by (N := nIsSide) (sc := defScope sIsSide) (by decide +kernel)) (fun _ _ _ _ _ => pg_name (i := 2) scIsSide.nd rfl (Or.inl rfl)) (fun _ _ _ _ _ => pts_nil)
            (fun _ _ _ _ _ => pe_cmpR op_lt (pe_ix (r := rIxL K) ix_list (pv 0) (pv 2) (fun _ _ => rfl)) (pe_ix (r := rIxL K) ix_list (pv 0) (pe_op op_add (pv 2) pe_int) (fun _ _ => rfl)) (nomark _))) pa_nil)))), ?_⟩
    refine ⟨.ref a, rfl, .ref a, .ty "list", .type "list", .type "list", true, rfl, .ty _, .base (.lst ha), kit_ty (by decide +kernel), true, rfl, iteF ?_⟩
    refine ⟨.ref a, rfl, a, rfl, ⟨_, sl_map ha⟩, fun D hD => lc_list (xs := ns.map V.int) (fun i H' => Same H H' ∧ H' D = some (.lst ((List.replicate i true).map V.bl))) ⟨same_new hD, upd_same⟩ (fun i H' _ h => h.1.seq (sl_map ha)) ?_ ?_⟩
    · rintro i x H' hx ⟨sm, hd⟩
      rw [List.getElem?_map] at hx
      obtain ⟨v, hv, rfl⟩ := Option.map_eq_some_iff.mp hx
      have hi : i < ns.length := (List.getElem?_eq_some_iff.mp hv).1
      refine ⟨rfl, ?_⟩
      refine ⟨_, rfl, v, rfl, _, hd, ?_, same_at sm hD, ?_⟩
      · rw [List.length_map, List.length_replicate]
        exact small1000 (by omega)
      · rw [upd_same, List.replicate_succ', List.map_append]
        rfl
    · rintro H' ⟨sm, hd⟩
      rw [List.length_map] at hd
      refine ⟨D, _, rfl, sl_map hd, _, rfl, ?_⟩
      rw [all_rep]
      refine iteF ?_
      -- all([.. < ..])
      refine ⟨.ref a, rfl, a, _, rfl, .inl (sm.seq (sl_map ha)), ((ns.map V.int).length : Int), 1, rfl, rfl, _, rfl, ?_, ?_, fun D2 hD2 => lc_range (lo := 0) (fun i H2 => Same H H2 ∧ H2 D2 = some (.lst ((List.replicate i true).map V.bl))) ⟨same_at sm (sm.free hD2), upd_same⟩ ?_ ?_⟩
      · rw [List.length_map]; omega
      · rw [List.length_map]; omega
      · rintro i H2 hi ⟨sm2, hd2⟩
        rw [List.length_map] at hi
        have h1 : i < ns.length := by omega
        have h2 : i + 1 < ns.length := by omega
        have g1 : (ns.map V.int)[i]? = some (.int ns[i]) := by
          rw [List.getElem?_map, List.getElem?_eq_getElem h1]
          rfl
        have g2 : (ns.map V.int)[i + 1]? = some (.int ns[i + 1]) := by
          rw [List.getElem?_map, List.getElem?_eq_getElem h2]
          rfl
        refine ⟨rfl, ?_⟩
        refine ⟨.ref a, rfl, _, rfl, a, _, _, _, rfl, rfl, sm2.seq (sl_map ha), at_of (by omega) g1, .ref a, rfl, _, rfl, _, 1, rfl, rfl, a, _, _, _, rfl, rfl, sm2.seq (sl_map ha), at_of (j := i + 1) (by omega) g2, _, _, rfl, rfl, _, hd2, ?_, same_at sm2 (sm.free hD2), ?_⟩
        · rw [List.length_map, List.length_replicate]
          exact small1000 (by omega)
        · have lt : ns[i] < ns[i + 1] := List.pairwise_iff_getElem.mp hs i (i + 1) h1 h2 (Nat.lt_succ_self i)
          have e : (fun i j : Int => V.bl (decide (i < j))) ns[i] ns[i + 1] = V.bl true := congrArg V.bl (decide_eq_true lt)
          rw [upd_same, e, List.replicate_succ', List.map_append]
          rfl
      · rintro H2 ⟨sm2, hd2⟩
        refine ⟨D2, _, rfl, sl_map hd2, ?_⟩
        rw [all_rep]
        exact q _ sm2
/-- what was tracked, but for the one at p, is as it was -/
def Keep (p : Addr) (H H' : Hp) : Prop := ∀ b o, b ≠ p → H b = some o → H' b = some o
theorem Keep.refl (p : Addr) (H : Hp) : Keep p H H := fun _ _ _ e => e
theorem Keep.oth {p : Addr} {H H1 H2 : Hp} (k : Keep p H H1) (o : Oth p H1 H2) : Keep p H H2 := fun b u hb e => (o b hb).trans (k b u hb e)
theorem Keep.trans {p : Addr} {H H1 H2 : Hp} (k : Keep p H H1) (k2 : Keep p H1 H2) : Keep p H H2 := fun b u hb e => k2 b u hb (k b u hb e)
theorem Keep.at_ {p q : Addr} {o : HO} {H H1 : Hp} (k : Keep p H H1) (n : H q = none) : Keep p H (upd H1 q o) := fun b u hb e => by
  rw [upd_ne (ne_of_none e n)]
  exact k b u hb e
theorem Keep.same {p : Addr} {H H1 : Hp} (s : Same H H1) : Keep p H H1 := fun b u _ e => s b u e
theorem Strm.some {H : Hp} {p : Addr} (s : Strm H p) : H p ≠ none := fun z => by
  obtain ⟨x, y, z', e⟩ := s
  rw [z] at e
  cases e
theorem Strm.keep {H H' : Hp} {p q : Addr} (s : Strm H p) (k : Keep q H H') (h : p ≠ q) : Strm H' p := by
  obtain ⟨x, y, z, e⟩ := s
  exact ⟨x, y, z, k _ _ h e⟩
theorem Strm.upd {H : Hp} {p q : Addr} {o : HO} (s : Strm H p) (h : p ≠ q) : Strm (upd H q o) p := by
  obtain ⟨x, y, z, e⟩ := s
  exact ⟨x, y, z, by rw [upd_ne h]; exact e⟩
theorem Keep.free {p q : Addr} {H H1 : Hp} (k : Keep p H H1) (s : Strm H1 p) (n : H1 q = none) : H q = none := by
  have hp : q ≠ p := fun z => s.some (z ▸ n)
  cases c : H q with
  | none => rfl
  | some o =>
    rw [k q o hp c] at n
    cases n
end
/-! ### lists of ints as data -/
abbrev dI (ns : List Int) : PyData := .list (ns.map PyData.int)
theorem dp_all {K : PySem.W.Frag} {H : Hp} : ∀ ns : List Int, DpAll K H (ns.map V.int) (ns.map PyData.int)
  | [] => .nil
  | n :: ns => .cons (.int n) (dp_all ns)
theorem dpI {K : PySem.W.Frag} {H : Hp} {a : Addr} {ns : List Int} (h : SqL K H a (ns.map V.int)) : Dp K H (.ref a) (dI ns) := .lst h (dp_all ns)
theorem lay_all : ∀ ns : List Int, PyData.canLayAll0 (ns.map PyData.int) = true
  | [] => rfl
  | n :: ns => by
    show (PyData.canLay0 (.int n) && PyData.canLayAll0 (ns.map PyData.int)) = true
    rw [lay_all ns] <;> rfl
theorem layI (ns : List Int) : (dI ns).canLay0 = true := lay_all ns
theorem deep_all : ∀ ns : List Int, PyData.depthAll (ns.map PyData.int) ≤ 1
  | [] => by simp [PyData.depthAll]
  | n :: ns => by
    have := deep_all ns
    simp only [List.map_cons, PyData.depthAll, PyData.depth]
    omega
theorem deepI (ns : List Int) : (dI ns).depth ≤ 2 := by
  have := deep_all ns
  simp only [dI, PyData.depth]
  omega
theorem shI (ns : List Int) : SeqAt.shaped (dI ns) = true := by
  unfold SeqAt.shaped
  rw [layI]
  have := deepI ns
  simp
  omega
theorem eqI (ns : List Int) : PyData.eqv (dI ns) (dI ns) = true := SeqAt.eqv_refl _ (layI ns)
theorem lay2 (ns ks : List Int) : (PyData.list [dI ns, dI ks]).canLay0 = true := by
  show (PyData.canLay0 (dI ns) && (PyData.canLay0 (dI ks) && true)) = true
  rw [layI, layI]
  rfl
theorem sh2 (ns ks : List Int) : SeqAt.shaped (.list [dI ns, dI ks]) = true := by
  unfold SeqAt.shaped
  rw [lay2]
  have h1 := deepI ns
  have h2 := deepI ks
  have : (PyData.list [dI ns, dI ks]).depth ≤ 3 := by
    simp only [PyData.depth, PyData.depthAll] at *
    omega
  simp
  omega
/-! ### boxes: dicts from texts to lists of ints -/
abbrev Ent := Str × Addr × List Int
def entK (L : List Ent) : List (Key × V) := L.map fun e => (Sum.inr e.1, V.ref e.2.1)
def getE (L : List Ent) (x : Str) : Option Ent := L.find? fun e => decide (e.1 = x)
def look (L : List Ent) (x : Str) : Option (List Int) := (getE L x).map (·.2.2)
theorem getE_pos {e : Ent} {L : List Ent} {x : Str} (h : e.1 = x) : getE (e :: L) x = some e := by simp [getE, List.find?_cons, h]
theorem getE_neg {e : Ent} {L : List Ent} {x : Str} (h : ¬ e.1 = x) : getE (e :: L) x = getE L x := by simp [getE, List.find?_cons, h]
theorem getE_mem {L : List Ent} {x : Str} {e : Ent} (h : getE L x = some e) : e ∈ L ∧ e.1 = x :=
  ⟨List.mem_of_find?_eq_some h, of_decide_eq_true (List.find?_some (p := fun e : Ent => decide (e.1 = x)) h)⟩
theorem getE_of : ∀ {L : List Ent} {e : Ent}, (L.map (·.1)).Nodup → e ∈ L → getE L e.1 = some e
  | [], _, _, h => by cases h
  | a :: L, e, nd, h => by
    rw [List.map_cons, List.nodup_cons] at nd
    rcases List.mem_cons.mp h with z | z
    · rw [z]; exact getE_pos rfl
    · have ne : ¬ a.1 = e.1 := fun q => nd.1 (q ▸ List.mem_map_of_mem z)
      rw [getE_neg ne]
      exact getE_of nd.2 z
theorem getE_none {L : List Ent} {x : Str} : getE L x = none ↔ x ∉ L.map (·.1) := by
  unfold getE
  rw [List.find?_eq_none]
  constructor
  · intro h hx
    obtain ⟨e, he, q⟩ := List.mem_map.mp hx
    exact h e he (decide_eq_true q)
  · intro h e he q
    exact h (of_decide_eq_true q ▸ List.mem_map_of_mem he)
theorem look_mem {L : List Ent} {e : Ent} (nd : (L.map (·.1)).Nodup) (h : e ∈ L) : look L e.1 = some e.2.2 := by
  unfold look
  rw [getE_of nd h]
  rfl
theorem valV_ent (x : Str) : ∀ L : List Ent, valV (entK L) (.inr x) = (getE L x).map fun e => V.ref e.2.1
  | [] => rfl
  | e :: L => by
    by_cases h : e.1 = x
    · rw [getE_pos h]
      exact valV_pos (congrArg Sum.inr h)
    · rw [getE_neg h]
      have : valV (entK (e :: L)) (.inr x) = valV (entK L) (.inr x) := valV_neg (fun z => h (Sum.inr.inj z))
      rw [this]
      exact valV_ent x L
structure Bx (H : Hp) (d : Addr) (L : List Ent) : Prop where
  rd : Rd H d (.dK (entK L))
  sides : ∀ e ∈ L, H e.2.1 = some (.lst (e.2.2.map V.int))
  nd : (L.map (·.1)).Nodup
  few : L.length ≤ 40
theorem Rd.same {H H' : Hp} {a : Addr} {u : HO} (s : Same H H') (r : Rd H a u) : Rd H' a u := r.elim (fun h => .inl (s _ _ h)) fun ⟨o, h⟩ => .inr ⟨o, s _ _ h⟩
theorem Bx.same {H H' : Hp} {d : Addr} {L : List Ent} (B : Bx H d L) (s : Same H H') : Bx H' d L := ⟨Rd.same s B.rd, fun e he => s _ _ (B.sides e he), B.nd, B.few⟩
theorem Bx.get {H : Hp} {d : Addr} {L : List Ent} (B : Bx H d L) (x : Str) : DGet H d (.str x) ((getE L x).map fun e => V.ref e.2.1) := .inl ⟨entK L, .inr x, B.rd, rfl, (valV_ent x L).symm⟩
/-- a locked dict is read as before -/
theorem Bx.lock {H : Hp} {d d' : Addr} {L L' : List Ent} {od : Obj} (B : Bx H d L) (h : H d' = some (.dK (entK L'))) : Bx (upd H d' (.frz od (.dK (entK L')))) d L := by
  refine ⟨?_, fun e he => ?_, B.nd, B.few⟩
  · by_cases z : d = d'
    · subst z
      have : entK L' = entK L := by
        rcases B.rd with q | ⟨o, q⟩
        · rw [h] at q
          exact HO.dK.inj (Option.some.inj q)
        · rw [h] at q; cases q
      rw [← this]
      exact .inr ⟨od, upd_same⟩
    · rcases B.rd with q | ⟨o, q⟩
      · exact .inl (by rw [upd_ne z]; exact q)
      · exact .inr ⟨o, by rw [upd_ne z]; exact q⟩
  · have : e.2.1 ≠ d' := fun z => by have q := B.sides e he; rw [z, h] at q; cases q
    rw [upd_ne this]
    exact B.sides e he
theorem unlock {H H' : Hp} {d : Addr} {u : HO} {od : Obj} (h : H d = some u) (s : Same (upd H d (.frz od u)) H') : Same H (upd H' d u) := fun b o e => by
  by_cases z : b = d
  · subst z
    rw [upd_same]
    exact h.symm.trans e
  · rw [upd_ne z]
    exact s b o (by rw [upd_ne z]; exact e)
/-- put -/
def putE (L : List Ent) (x : Str) (a : Addr) (s : List Int) : List Ent := if (L.any fun e => decide (e.1 = x)) = true then L.map (fun e => if e.1 = x then (x, a, s) else e) else L ++ [(x, a, s)]
theorem any_ent (L : List Ent) (x : Str) : ((entK L).any fun kv => decide (kv.1 = Sum.inr x)) = L.any fun e => decide (e.1 = x) := by
  unfold entK
  rw [List.any_map]
  congr 1
  funext e
  simp
theorem putK_ent (L : List Ent) (x : Str) (a : Addr) (s : List Int) : putK (entK L) (.inr x) (V.ref a) = entK (putE L x a s) := by
  unfold putK putE
  rw [any_ent]
  by_cases h : (L.any fun e => decide (e.1 = x)) = true
  · rw [if_pos h, if_pos h]
    unfold entK
    rw [List.map_map, List.map_map]
    congr 1
    funext e
    by_cases z : e.1 = x
    · simp [z]
    · simp [z]
  · rw [if_neg h, if_neg h]
    unfold entK
    rw [List.map_append]
    rfl
theorem any_iff {L : List Ent} {x : Str} : (L.any fun e => decide (e.1 = x)) = true ↔ x ∈ L.map (·.1) := by
  rw [List.any_eq_true, List.mem_map]
  constructor
  · rintro ⟨e, he, q⟩; exact ⟨e, he, of_decide_eq_true q⟩
  · rintro ⟨e, he, q⟩; exact ⟨e, he, decide_eq_true q⟩
theorem putE_keys (L : List Ent) (x : Str) (a : Addr) (s : List Int) : (putE L x a s).map (·.1) = if x ∈ L.map (·.1) then L.map (·.1) else L.map (·.1) ++ [x] := by
  unfold putE
  by_cases h : (L.any fun e => decide (e.1 = x)) = true
  · rw [if_pos h, if_pos (any_iff.mp h), List.map_map]
    congr 1
    funext e
    by_cases z : e.1 = x
    · simp [z]
    · simp [z]
  · rw [if_neg h, if_neg (fun z => h (any_iff.mpr z)), List.map_append]
    rfl
theorem putE_nd {L : List Ent} {x : Str} {a : Addr} {s : List Int} (nd : (L.map (·.1)).Nodup) : ((putE L x a s).map (·.1)).Nodup := by
  rw [putE_keys]
  split
  · exact nd
  · rename_i h
    rw [List.nodup_append]
    exact ⟨nd, by simp, fun y hy z hz => by rw [List.mem_singleton.mp hz]; exact fun e => h (e ▸ hy)⟩
theorem putE_len (L : List Ent) (x : Str) (a : Addr) (s : List Int) : (putE L x a s).length ≤ L.length + 1 := by
  unfold putE
  split
  · rw [List.length_map]; omega
  · rw [List.length_append]; exact Nat.le_refl _
theorem putE_mem {L : List Ent} {x : Str} {a : Addr} {s : List Int} {e : Ent} (h : e ∈ putE L x a s) : e = (x, a, s) ∨ (e ∈ L ∧ e.1 ≠ x) := by
  unfold putE at h
  split at h
  · obtain ⟨f, hf, q⟩ := List.mem_map.mp h
    by_cases z : f.1 = x
    · rw [if_pos z] at q; exact .inl q.symm
    · rw [if_neg z] at q; exact .inr (q ▸ ⟨hf, z⟩)
  · rename_i g
    rcases List.mem_append.mp h with q | q
    · exact .inr ⟨q, fun z => g (any_iff.mpr (z ▸ List.mem_map_of_mem q))⟩
    · exact .inl (List.mem_singleton.mp q)
theorem find_map_at {x y : Str} {a : Addr} {s : List Int} (h : ¬ x = y) : ∀ L : List Ent, getE (L.map (fun e => if e.1 = x then (x, a, s) else e)) y = getE L y
  | [] => rfl
  | e :: L => by
    rw [List.map_cons]
    by_cases z : e.1 = x
    · rw [if_pos z, getE_neg (show ¬ (x, a, s).1 = y from h), getE_neg (fun q => h (z.symm.trans q))]
      exact find_map_at h L
    · rw [if_neg z]
      by_cases q : e.1 = y
      · rw [getE_pos q, getE_pos q]
      · rw [getE_neg q, getE_neg q]
        exact find_map_at h L
theorem find_map_self {x : Str} {a : Addr} {s : List Int} : ∀ L : List Ent, x ∈ L.map (·.1) → getE (L.map (fun e => if e.1 = x then (x, a, s) else e)) x = some (x, a, s)
  | [], h => by cases h
  | e :: L, h => by
    rw [List.map_cons]
    by_cases z : e.1 = x
    · rw [if_pos z]; exact getE_pos rfl
    · rw [if_neg z, getE_neg z]
      rw [List.map_cons] at h
      exact find_map_self L ((List.mem_cons.mp h).elim (fun q => absurd q.symm z) id)
theorem getE_app (L M : List Ent) (y : Str) : getE (L ++ M) y = (getE L y).or (getE M y) := List.find?_append
theorem getE_put (L : List Ent) (x y : Str) (a : Addr) (s : List Int) : getE (putE L x a s) y = if y = x then some (x, a, s) else getE L y := by
  unfold putE
  by_cases h : (L.any fun e => decide (e.1 = x)) = true
  · rw [if_pos h]
    by_cases z : y = x
    · rw [if_pos z, z]
      exact find_map_self L (any_iff.mp h)
    · rw [if_neg z]
      exact find_map_at (fun q => z q.symm) L
  · rw [if_neg h, getE_app]
    by_cases z : y = x
    · rw [if_pos z, z, getE_none.mpr (fun q => h (any_iff.mpr q))]
      exact getE_pos rfl
    · rw [if_neg z, show getE [(x, a, s)] y = none from getE_neg (fun q => z q.symm)]
      cases getE L y <;> rfl
theorem look_put (L : List Ent) (x y : Str) (a : Addr) (s : List Int) : look (putE L x a s) y = if y = x then some s else look L y := by
  unfold look
  rw [getE_put]
  by_cases z : y = x
  · rw [if_pos z, if_pos z]; rfl
  · rw [if_neg z, if_neg z]
/-- two boxes that say the same -/
def SameB (L M : List Ent) : Prop := ∀ x, look L x = look M x
theorem look_isSome {L : List Ent} {x : Str} : (look L x).isSome = true ↔ x ∈ L.map (·.1) := by
  unfold look
  rw [Option.isSome_map]
  cases h : getE L x with
  | none => simp [getE_none.mp h]
  | some e => simp only [Option.isSome_some, true_iff]; obtain ⟨a, b⟩ := getE_mem h; exact b ▸ List.mem_map_of_mem a
theorem len_le {α : Type} [DecidableEq α] : ∀ {l m : List α}, l.Nodup → (∀ x ∈ l, x ∈ m) → l.length ≤ m.length
  | [], _, _, _ => Nat.zero_le _
  | x :: l, m, nd, h => by
    rw [List.nodup_cons] at nd
    have hx := h x List.mem_cons_self
    have ih := len_le (m := m.erase x) nd.2 (fun y hy => (List.mem_erase_of_ne (fun (e : y = x) => nd.1 (by rw [← e]; exact hy))).2 (h y (List.mem_cons_of_mem _ hy)))
    rw [List.length_erase_of_mem hx] at ih
    have : 0 < m.length := List.length_pos_of_mem hx
    rw [List.length_cons]
    omega
theorem SameB.len {L M : List Ent} (s : SameB L M) (n1 : (L.map (·.1)).Nodup) (n2 : (M.map (·.1)).Nodup) : L.length = M.length := by
  have h1 := len_le n1 (fun x hx => look_isSome.mp (by rw [← s x]; exact look_isSome.mpr hx))
  have h2 := len_le n2 (fun x hx => look_isSome.mp (by rw [s x]; exact look_isSome.mpr hx))
  rw [List.length_map, List.length_map] at h1 h2
  omega
/-- v in ks, as the model asks it -/
theorem in_ints (ks : List Int) (v : Int) : inV (.int v) (ks.map V.int) = decide (v ∈ ks) := by
  unfold inV
  induction ks with
  | nil => simp
  | cons k ks ih =>
    rw [List.map_cons, List.any_cons, ih]
    have e : eqV (.int k) (.int v) = decide (k = v) := by
      by_cases c : k = v
      · subst c; simp [eqV]
      · simp [eqV, c]
    rw [e]
    by_cases c : k = v
    · subst c; simp
    · have c2 : ¬ v = k := fun z => c z.symm
      simp [c, c2]
theorem flat_ints (ks : List Int) : (ks.map V.int).all flatV = true := by
  rw [List.all_map]
  exact List.all_eq_true.mpr fun _ _ => rfl
section
variable {P : Program} {w : World} {K : PySem.W.Frag} {mg : Str → Option Value} {base : Heap}
/-! ### the program: boxes -/
/-- a box that no walk has locked -/
structure Bu (H : Hp) (d : Addr) (L : List Ent) : Prop extends Bx H d L where
  un : H d = some (.dK (entK L))
theorem Bu.same' {H H' : Hp} {d : Addr} {L : List Ent} (B : Bu H d L) (s : Same H H') : Bu H' d L := ⟨B.toBx.same s, s _ _ B.un⟩
theorem entK_get {L : List Ent} {i : Nat} : (entK L)[i]? = (L[i]?).map fun e => (Sum.inr e.1, V.ref e.2.1) := by
  unfold entK
  rw [List.getElem?_map]
/-! ### holds -/
def intK (A : List (Str × Int)) : List (Key × V) := A.map fun e => (Sum.inr e.1, V.int e.2)
def aget (A : List (Str × Int)) (x : Str) : Option Int := (A.find? fun e => decide (e.1 = x)).map (·.2)
theorem valV_int (x : Str) : ∀ A : List (Str × Int), valV (intK A) (.inr x) = (aget A x).map V.int
  | [] => rfl
  | e :: A => by
    by_cases h : e.1 = x
    · have : aget (e :: A) x = some e.2 := by simp [aget, List.find?_cons, h]
      rw [this]
      exact valV_pos (congrArg Sum.inr h)
    · have : aget (e :: A) x = aget A x := by simp [aget, List.find?_cons, h]
      rw [this]
      have : valV (intK (e :: A)) (.inr x) = valV (intK A) (.inr x) := valV_neg (fun z => h (Sum.inr.inj z))
      rw [this]
      exact valV_int x A
/-- an assignment: a dict from texts to ints -/
structure Ax (H : Hp) (d : Addr) (A : List (Str × Int)) : Prop where
  rd : Rd H d (.dK (intK A))
theorem Ax.same {H H' : Hp} {d : Addr} {A : List (Str × Int)} (B : Ax H d A) (s : Same H H') : Ax H' d A := ⟨Rd.same s B.rd⟩
theorem Ax.get {H : Hp} {d : Addr} {A : List (Str × Int)} (B : Ax H d A) (x : Str) : DGet H d (.str x) ((aget A x).map V.int) := .inl ⟨intK A, .inr x, B.rd, rfl, (valV_int x A).symm⟩
theorem same_frz {H H' : Hp} {d : Addr} {u : HO} {od : Obj} (h : H d = some u) (s : Same H H') : Same (upd H d (.frz od u)) (upd H' d (.frz od u)) := fun b o e => by
  by_cases z : b = d
  · subst z
    rw [upd_same] at e ⊢
    exact e
  · rw [upd_ne z] at e ⊢
    exact s _ _ e
theorem Ax.frz {H : Hp} {v d : Addr} {A : List (Str × Int)} {u : HO} (B : Ax H v A) (h : v ≠ d) : Ax (upd H d u) v A := ⟨B.rd.elim (fun q => .inl (by rw [upd_ne h]; exact q)) fun ⟨o, q⟩ => .inr ⟨o, by rw [upd_ne h]; exact q⟩⟩
theorem entK_len (L : List Ent) : (entK L).length = L.length := by unfold entK; rw [List.length_map]
theorem items_at {L : List Ent} {i : Nat} {x1 x2 : V} (g1 : ((entK L)[i]?.map fun kv => kV kv.1) = some x1) (g2 : ((entK L)[i]?.map Prod.snd) = some x2) : ∃ e, L[i]? = some e ∧ x1 = .str e.1 ∧ x2 = .ref e.2.1 := by
  rw [entK_get] at g1 g2
  cases c : L[i]? with
  | none => rw [c] at g1; cases g1
  | some e => rw [c] at g1 g2; exact ⟨e, rfl, (Option.some.inj g1).symm, (Option.some.inj g2).symm⟩
theorem keys_at {L : List Ent} {i : Nat} {k : Key} {v : V} (h : (entK L)[i]? = some (k, v)) : ∃ e, L[i]? = some e ∧ k = .inr e.1 ∧ v = .ref e.2.1 := by
  rw [entK_get] at h
  obtain ⟨e, he, q⟩ := Option.map_eq_some_iff.mp h
  cases q
  exact ⟨e, he, rfl, rfl⟩
/-! ### box_within -/
end
/-- a new box with sides of its own -/
structure Nb (H0 H : Hp) (d : Addr) (L : List Ent) : Prop extends Bu H d L where
  fresh : H0 d = none
  freshS : ∀ e ∈ L, H0 e.2.1 = none
  inj : (L.map (·.2.1)).Nodup
theorem Nb.push {H0 H1 H2 : Hp} {d : Addr} {L : List Ent} (N : Nb H0 H1 d L) (s : Same H1 H2) : Nb H0 H2 d L := ⟨N.toBu.same' s, N.fresh, N.freshS, N.inj⟩
abbrev shape (L : List Ent) : List (Str × List Int) := L.map fun e => (e.1, e.2.2)
theorem look_shape : ∀ {L M : List Ent}, shape L = shape M → SameB L M
  | [], [], _, _ => rfl
  | [], _ :: _, h, _ => by cases h
  | _ :: _, [], h, _ => by cases h
  | e :: L, f :: M, h, x => by
    simp only [shape, List.map_cons, List.cons.injEq, Prod.mk.injEq] at h
    obtain ⟨⟨h1, h2⟩, h3⟩ := h
    have ih := look_shape (L := L) (M := M) h3 x
    unfold look at ih ⊢
    by_cases z : e.1 = x
    · rw [getE_pos z, getE_pos (h1 ▸ z)]
      exact congrArg some h2
    · rw [getE_neg z, getE_neg (fun q => z (h1.trans q))]
      exact ih
theorem shape_keys {L M : List Ent} (h : shape L = shape M) : L.map (·.1) = M.map (·.1) := by
  have q := congrArg (List.map Prod.fst) h
  unfold shape at q
  rw [List.map_map, List.map_map] at q
  exact q
theorem putE_new {L : List Ent} {x : Str} {a : Addr} {s : List Int} (h : x ∉ L.map (·.1)) : putE L x a s = L ++ [(x, a, s)] := if_neg fun z => h (any_iff.mp z)
theorem nd_snoc {α : Type} {l : List α} {x : α} (nd : l.Nodup) (h : x ∉ l) : (l ++ [x]).Nodup := by
  rw [List.nodup_append]
  exact ⟨nd, by simp, fun y hy z hz => by rw [List.mem_singleton.mp hz]; exact fun e => h (e ▸ hy)⟩
theorem dc_it {J : It} {n : Nat} {G : Hp → Prop} {Y : Nat → Hp → V → Hp → Prop} (w : Walk J n G Y) {g : TG} {tt : TT} {tk tv : TE} {vs : List Nat} {σ : L2.St} {H1 : Hp} {D : Addr} {Qd : Hp → Prop} (Pv : Nat → Hp → Prop) (start : Pv 0 (upd H1 D (.dK []))) (stays : ∀ i H, i ≤ n → Pv i H → G H)
    (turn : ∀ i x H H', i < n → Pv i H → Y i H x H' → g x (wipe σ vs) H' fun σ2 H2 => wipe σ2 vs = wipe σ vs ∧ tt σ2 H2 fun b H3 =>
      if b = true then tk σ2 H3 fun y H4 => tv σ2 H4 fun z H5 => ∃ kvs k, y = kV k ∧ H5 D = some (.dK kvs) ∧ kvs.length < sizeLine ∧ Pv (i + 1) (upd H5 D (.dK (putK kvs k z))) else Pv (i + 1) H3) (after : ∀ H, Pv n H → Qd H) :
    ∃ W : Nat → Nat → Hp → Prop, (∃ m, W 0 m (upd H1 D (.dK []))) ∧ ∀ i m H, W i m H →
      (J.stop i H ∧ Qd H) ∨ (J.go i H ∧ ∃ Nx : Hp → Prop, (∀ H', Nx H' → ∃ m', m' < m ∧ W (i + 1) m' H') ∧ ∀ x H', J.yld i H x H' → g x (wipe σ vs) H' fun σ2 H2 => wipe σ2 vs = wipe σ vs ∧ tt σ2 H2 fun b H3 =>
        if b = true then tk σ2 H3 fun y H4 => tv σ2 H4 fun z H5 => ∃ kvs k, y = kV k ∧ H5 D = some (.dK kvs) ∧ kvs.length < sizeLine ∧ Nx (upd H5 D (.dK (putK kvs k z))) else Nx H3) := by
  refine ⟨fun i m H => m = n - i ∧ i ≤ n ∧ Pv i H, ⟨n, rfl, Nat.zero_le _, start⟩, fun i m H h => ?_⟩
  obtain ⟨em, le, pv⟩ := h
  by_cases lt : i < n
  · exact .inr ⟨w.goes i H lt (stays i H le pv), Pv (i + 1), fun H' p => ⟨n - (i + 1), by omega, rfl, lt, p⟩, fun x H' y => turn i x H H' lt pv (w.yields i H x H' lt (stays i H le pv) y)⟩
  · obtain rfl : i = n := by omega
    exact .inl ⟨w.stops H (stays _ H le pv), after H pv⟩
section
variable {P : Program} {w : World} {K : PySem.W.Frag} {mg : Str → Option Value} {base : Heap}
def spCopy : Sp := fun vs H Q _ => ∃ (d : Addr) (L : List Ent), vs = [.ref d] ∧ Bu H d L ∧ ∀ (H' : Hp) (d' : Addr) (M : List Ent), Same H H' → Nb H H' d' M → shape M = shape L → Q (.ref d') H'
end
/-! ### what two sorted lists have together -/
def ins (k : Int) : List Int → List Int
  | [] => [k]
  | x :: l => if k < x then k :: x :: l else if k = x then x :: l else x :: ins k l
theorem take_keys {L : List Ent} {i : Nat} {e : Ent} (nd : (L.map (·.1)).Nodup) (he : L[i]? = some e) : e.1 ∉ (L.take i).map (·.1) := by
  intro z
  obtain ⟨g, hg, eg⟩ := List.mem_map.mp z
  obtain ⟨j, hj⟩ := List.mem_iff_getElem?.mp hg
  rw [List.getElem?_take] at hj
  split at hj
  · rename_i hji
    have a1 : (L.map (·.1))[j]? = some e.1 := by rw [List.getElem?_map, hj]; exact congrArg some eg
    have a2 : (L.map (·.1))[i]? = some e.1 := by rw [List.getElem?_map, he]; rfl
    have := nd_ix nd a1 a2
    omega
  · cases hj
structure Sz (L : List Ent) (n : Nat) : Prop where
  srt : ∀ e ∈ L, Srt e.2.2
  len : ∀ e ∈ L, e.2.2.length ≤ n
/-- what a new box needs when one more side is put -/
theorem Nb.put {H0 H H3 : Hp} {d l : Addr} {M : List Ent} {x : Str} {s : List Int} (N : Nb H0 H d M) (n0 : H0 l = none) (nl : H l = none) (s3 : Same H H3) (el : H3 l = some (.lst (s.map V.int))) (few : M.length + 1 ≤ 40) :
    Nb H0 (upd H3 d (.dK (entK (putE M x l s)))) d (putE M x l s) := by
  have nld : l ≠ d := fun z => by rw [z, N.un] at nl; cases nl
  have sd : ∀ e ∈ putE M x l s, (upd H3 d (.dK (entK (putE M x l s)))) e.2.1 = some (.lst (e.2.2.map V.int)) := fun e he => by
    rcases putE_mem he with z | ⟨z, _⟩
    · rw [z, upd_ne nld]
      exact el
    · have h1 := N.sides e z
      have h2 : e.2.1 ≠ d := fun w => by rw [w, N.un] at h1; cases h1
      rw [upd_ne h2]
      exact s3 _ _ h1
  refine ⟨⟨⟨.inl upd_same, sd, putE_nd N.nd, by have := putE_len M x l s; omega⟩, upd_same⟩, N.fresh, fun e he => ?_, ?_⟩
  · rcases putE_mem he with z | ⟨z, _⟩
    · rw [z]; exact n0
    · exact N.freshS e z
  · have lM : l ∉ M.map (·.2.1) := fun w => by
      obtain ⟨g, hg, eg⟩ := List.mem_map.mp w
      have eg' : g.2.1 = l := eg
      have h1 := N.sides g hg
      rw [eg', nl] at h1
      cases h1
    unfold putE
    split
    · rw [List.map_map]
      have key : ∀ L : List Ent, (L.map (·.1)).Nodup → (L.map (·.2.1)).Nodup → l ∉ L.map (·.2.1) → (L.map ((fun e : Ent => e.2.1) ∘ fun e => if e.1 = x then (x, l, s) else e)).Nodup ∧ ∀ q ∈ L.map ((fun e : Ent => e.2.1) ∘ fun e => if e.1 = x then (x, l, s) else e), q ∈ L.map (·.2.1) ∨ (q = l ∧ x ∈ L.map (·.1)) := by
        intro L
        induction L with
        | nil => intro _ _ _; exact ⟨List.Pairwise.nil, fun q hq => by cases hq⟩
        | cons e L ih =>
          intro n1 n2 n3
          rw [List.map_cons, List.nodup_cons] at n1 n2
          rw [List.map_cons, List.mem_cons, not_or] at n3
          obtain ⟨i1, i2⟩ := ih n1.2 n2.2 n3.2
          rw [List.map_cons, List.nodup_cons]
          by_cases c : e.1 = x
          · have ef : ((fun e : Ent => e.2.1) ∘ fun e => if e.1 = x then (x, l, s) else e) e = l := by simp [c]
            rw [ef]
            refine ⟨⟨fun w => ?_, i1⟩, fun q hq => ?_⟩
            · rcases i2 l w with z | ⟨_, z⟩
              · exact n3.2 z
              · exact n1.1 (c ▸ z)
            · rcases List.mem_cons.mp hq with z | z
              · exact .inr ⟨z, by rw [List.map_cons, c]; exact List.mem_cons_self⟩
              · rcases i2 q z with y | ⟨y1, y2⟩
                · exact .inl (List.mem_cons_of_mem _ y)
                · exact .inr ⟨y1, List.mem_cons_of_mem _ y2⟩
          · have ef : ((fun e : Ent => e.2.1) ∘ fun e => if e.1 = x then (x, l, s) else e) e = e.2.1 := by simp [c]
            rw [ef]
            refine ⟨⟨fun w => ?_, i1⟩, fun q hq => ?_⟩
            · rcases i2 _ w with z | ⟨z, _⟩
              · exact n2.1 z
              · exact n3.1 z.symm
            · rcases List.mem_cons.mp hq with z | z
              · exact .inl (by rw [z]; exact List.mem_cons_self)
              · rcases i2 q z with y | ⟨y1, y2⟩
                · exact .inl (List.mem_cons_of_mem _ y)
                · exact .inr ⟨y1, List.mem_cons_of_mem _ y2⟩
      exact (key M N.nd N.inj lM).1
    · rw [List.map_append]
      exact nd_snoc N.inj lM
theorem Same.unl {H H' : Hp} {d : Addr} {u : HO} {od : Obj} (h : H d = some u) (s : Same (upd H d (.frz od u)) H') : Same H (upd H' d u) := unlock h s
/-- a new box behind a lock elsewhere -/
theorem Nb.unl {H0 H' : Hp} {b d : Addr} {u : HO} {M : List Ent} {od : Obj} (N : Nb H0 H' d M) (hb : H0 b = some u) (eF : H' b = some (.frz od u)) : Nb H0 (upd H' b u) d M := by
  have db : d ≠ b := fun z => by have := N.un; rw [z, eF] at this; cases this
  have away : ∀ g ∈ M, g.2.1 ≠ b := fun g hg z => by have := N.sides g hg; rw [z, eF] at this; cases this
  exact ⟨⟨⟨.inl (by rw [upd_ne db]; exact N.un), fun g hg => by rw [upd_ne (away g hg)]; exact N.sides g hg, N.nd, N.few⟩, by rw [upd_ne db]; exact N.un⟩, N.fresh, N.freshS, N.inj⟩
theorem ne_some' {H : Hp} {p q : Addr} {o : HO} (h : H p = some o) (n : H q = none) : p ≠ q := fun e => by rw [e, n] at h; cases h
section
variable {P : Program} {w : World} {K : PySem.W.Frag} {mg : Str → Option Value} {base : Heap}
/-! ### the pool, a part of it -/
abbrev sPool : Stmt := topS 31
abbrev nPool : List Str := ["_law_stream_here", "_law_count", "_law_pool_here", "_law_k", "_law_scale", "_law_value"]
theorem scPool : FnScope nPool ["_law_stream_here", "_law_count"] (defScope sPool) := ⟨rfl, rfl, rfl, by decide +kernel, rfl, by decide +kernel, by decide +kernel⟩
theorem srt_snoc {ss : List Int} {v : Int} (s : Srt ss) (h : ∀ k ∈ ss, k < v) : Srt (ss ++ [v]) :=
  List.pairwise_append.mpr ⟨s, List.pairwise_singleton _ _, fun a ha b hb => by rw [List.mem_singleton.mp hb]; exact h a ha⟩
def spPool : Sp := fun vs H Q _ => ∃ (p : Addr) (m : Nat), vs = [.ref p, .int (m : Int)] ∧ Strm H p ∧ 1 ≤ m ∧ m ≤ 100 ∧
  ∀ (H' : Hp) (l : Addr) (ns : List Int), Keep p H H' → H l = none → Strm H' p → H' l = some (.lst (ns.map V.int)) → Srt ns → ns.length = m → Q (.ref l) H'
theorem ok_pool {f fD : Addr} {fd fdD : FuncData} (F : Fun K "_law_pool" "_law_pool" sPool f fd) (B : Bt mg) (D : Call P w K mg base 1 "_law_next" fD fdD ["_law_stream_here", "_law_size"] spDraw) :
    FnOk P w K mg base CX0 2 f fd ["_law_stream_here", "_law_count"] spPool := by
  refine F.ok scPool (fun vs H Q E h => ?_) (fun cdv A outer s H vs Q E hr h => ?_)
  · obtain ⟨p, m, rfl, _⟩ := h
    rfl
  · obtain ⟨p, m, rfl, hp, m0, m1, q⟩ := h
    have nd := scPool.nd
    refine ⟨_, pss_cons (ps_set (i := 2) nd rfl (.inl rfl) (pe_lst (pa_cons (pe_op op_sub (pe_call D.ok hr (by rfl) D.at_ D.kp D.bd .nil pass0 (pa_cons (pv 0) (pa_cons pe_int pa_nil))) pe_int) pa_nil)))
      (pss_cons (ps_for PassesOwn.never rfl (pi_range1 (by rfl) B.range (pa_cons (pe_op op_sub (pv 1) pe_int) pa_nil)) (pg_name (i := 3) nd rfl (.inl rfl))
        (pss_one (ps_expr (pe_bm PySem.F.plainAttrs_list PySem.F.slot_list_append PySem.F.type_list_append mt_append (pv 2) (pa_cons
          (pe_op op_add (pe_op op_add (pe_ix ix_list (pv 2) (pv 3) (fun _ _ => rfl)) pe_int) (pe_op op_mul pe_int (pe_op op_fdiv (pe_call D.ok hr (by rfl) D.at_ D.kp D.bd .nil pass0 (pa_cons (pv 0) (pa_cons pe_int pa_nil))) pe_int))) pa_nil)))))
      (pss_cons (ps_set (i := 4) nd rfl (.inr rfl) (pe_ix ix_list (pe_lst (pa_cons pe_int (pa_cons pe_int (pa_cons pe_int (pa_cons pe_int (pa_cons pe_int (pa_cons pe_int (pa_cons pe_int (pa_cons (pe_op op_pow pe_int pe_int) pa_nil)))))))))
          (pe_call D.ok hr (by rfl) D.at_ D.kp D.bd .nil pass0 (pa_cons (pv 0) (pa_cons pe_int pa_nil))) (fun _ _ => rfl)))
      (pss_one (ps_ret (pe_lc (own := [("_law_value", 5)]) (g := gName 5) (tt := tYes) rfl nd (pi_list (pv 2)) (blkOk_by (N := nPool) (sc := defScope sPool) (by decide +kernel)) (fun _ _ _ _ _ => pg_name (i := 5) nd rfl (Or.inl rfl)) (fun _ _ _ _ _ => pts_nil)
        (fun _ _ _ _ _ => pe_op op_mul (pv 5) (pv 4))))))), ?_⟩
    refine ⟨.ref p, rfl, p, 9, rfl, hp, by decide, by decide, fun H1 d o1 st1 d0 d1 => ⟨d, 4, rfl, rfl, by show 1 ≤ sizeLine; decide, fun l nl1 => ?_⟩⟩
    have npl : p ≠ l := fun z => st1.some (z ▸ nl1)
    have nl : H l = none := by rw [← o1 l npl.symm]; exact nl1
    refine ⟨.int (m : Int), rfl, (m : Int), 1, rfl, rfl, (m : Int) - 1, rfl, by omega, by omega, for_range (lo := 0) (n := ((m : Int) - 1).toNat) (fun i σ H' => ∃ (y3 : Option V) (ns : List Int), σ = [some (.ref p), some (.int (m : Int)), some (.ref l), y3, none, none] ∧ Keep p H H' ∧ Strm H' p ∧ H' l = some (.lst (ns.map V.int)) ∧ Srt ns ∧ ns.length = i + 1 ∧ ∃ z, ns = ns.take i ++ [z])
      ⟨none, [d - 4], rfl, ((Keep.refl p H).oth o1).at_ nl, st1.upd npl, upd_same, List.pairwise_singleton _ _, rfl, d - 4, rfl⟩ ?_ ?_⟩
    · rintro i σ H' hi ⟨y3, ns, rfl, kp, st, el, so, len, z, ez⟩
      have gz : (ns.map V.int)[i]? = some (.int z) := by
        rw [ez, List.map_append, List.getElem?_append_right (by rw [List.length_map, List.length_take]; omega)]
        rw [List.length_map, List.length_take, show i - min i ns.length = 0 by omega]
        rfl
      refine ⟨.ref l, rfl, .inl ⟨rfl, _, sl_map el⟩, .ref l, rfl, .int (0 + (i : Int)), rfl, l, _, _, _, rfl, rfl, sl_map el, at_of (by omega) gz, z, 1, rfl, rfl, .ref p, rfl, p, 4, rfl, st, by decide, by decide, fun H2 e o2 st2 e0 e1 => ?_⟩
      refine ⟨e, 3, rfl, rfl, ⟨by decide, by decide⟩, 2, e / 3, rfl, rfl, .inl ⟨by decide, by decide⟩, z + 1, 2 * (e / 3), rfl, rfl, l, _, _, rfl, rfl, (o2 l npl.symm).trans el, ?_, ?_⟩
      · rw [List.length_map]
        exact small1000 (by omega)
      · have e3 : 0 ≤ e / 3 := Int.ediv_nonneg e0 (by decide)
        refine ⟨_, ns ++ [z + 1 + 2 * (e / 3)], rfl, (kp.oth o2).at_ nl, st2.upd npl, by rw [upd_same, List.map_append]; rfl, srt_snoc so fun k hk => ?_, by rw [List.length_append, len]; rfl, z + 1 + 2 * (e / 3), ?_⟩
        · rw [ez] at hk so
          rcases List.mem_append.mp hk with h | h
          · have := (List.pairwise_append.mp so).2.2 k h z (List.mem_singleton.mpr rfl)
            omega
          · have := List.mem_singleton.mp h
            omega
        · rw [List.take_append_of_le_length (by omega), List.take_of_length_le (by omega)]
    · rintro σ H' ⟨y3, ns, rfl, kp, st, el, so, len, z, ez⟩
      refine ⟨10, 9, rfl, rfl, ⟨by decide, by decide, by decide⟩, by show 8 ≤ sizeLine; decide, fun t nt => ?_⟩
      have npt : p ≠ t := fun e => st.some (e ▸ nt)
      have nlt : l ≠ t := ne_some' el nt
      refine ⟨.ref p, rfl, p, 8, rfl, st.upd npt, by decide, by decide, fun H2 e o2 st2 e0 e1 => ?_⟩
      have et : H2 t = some (.lst [V.int 1, V.int 1, V.int 1, V.int 1, V.int 1, V.int 1, V.int 7, V.int (10 ^ (9 : Int).toNat)]) := (o2 t npt.symm).trans upd_same
      obtain ⟨sc, hsc, sc0, sc1⟩ : ∃ sc : Int, atI [V.int 1, V.int 1, V.int 1, V.int 1, V.int 1, V.int 1, V.int 7, V.int (10 ^ (9 : Int).toNat)] e = some (.int sc) ∧ 0 < sc ∧ sc < 2 ^ 64 := by
        have : e = 0 ∨ e = 1 ∨ e = 2 ∨ e = 3 ∨ e = 4 ∨ e = 5 ∨ e = 6 ∨ e = 7 := by omega
        rcases this with h | h | h | h | h | h | h | h
        · exact ⟨_, by rw [h]; exact atI_nat (j := 0) rfl, by decide, by decide⟩
        · exact ⟨_, by rw [h]; exact atI_nat (j := 1) rfl, by decide, by decide⟩
        · exact ⟨_, by rw [h]; exact atI_nat (j := 2) rfl, by decide, by decide⟩
        · exact ⟨_, by rw [h]; exact atI_nat (j := 3) rfl, by decide, by decide⟩
        · exact ⟨_, by rw [h]; exact atI_nat (j := 4) rfl, by decide, by decide⟩
        · exact ⟨_, by rw [h]; exact atI_nat (j := 5) rfl, by decide, by decide⟩
        · exact ⟨_, by rw [h]; exact atI_nat (j := 6) rfl, by decide, by decide⟩
        · exact ⟨_, by rw [h]; exact atI_nat (j := 7) rfl, by decide, by decide⟩
      refine ⟨t, _, e, .int sc, rfl, rfl, sl_map et, hsc, ?_⟩
      have el2 : H2 l = some (.lst (ns.map V.int)) := by rw [o2 l npl.symm, upd_ne nlt]; exact el
      have kp2 : Keep p H H2 := (kp.at_ (kp.free st nt)).oth o2
      refine ⟨.ref l, rfl, l, rfl, ⟨_, sl_map el2⟩, fun R nR => lc_list (xs := ns.map V.int) (fun i H3 => Same H2 H3 ∧ H3 R = some (.lst (((ns.take i).map (· * sc)).map V.int))) ⟨same_new nR, upd_same⟩ (fun i H3 _ h => h.1.seq (sl_map el2)) ?_ ?_⟩
      · rintro i x H3 hx ⟨sm, eR⟩
        rw [List.getElem?_map] at hx
        obtain ⟨v, hv, rfl⟩ := Option.map_eq_some_iff.mp hx
        have hi := (List.getElem?_eq_some_iff.mp hv).1
        refine ⟨rfl, .int v, rfl, .int sc, rfl, v, sc, rfl, rfl, .inr ⟨by omega, by omega⟩, _, eR, ?_, same_at sm nR, ?_⟩
        · rw [List.length_map, List.length_map, List.length_take]
          exact small1000 (by omega)
        · rw [upd_same, List.take_add_one, hv, List.map_append, List.map_append]
          rfl
      · rintro H3 ⟨sm, eR⟩
        rw [List.length_map, List.take_length] at eR
        refine q H3 R _ (fun b u hb e => sm _ _ (kp2 b u hb e)) (kp2.free st2 nR) (st2.keep (Keep.same (p := R) sm) (fun z => st2.some (z ▸ nR))) eR ?_ ?_
        · unfold Srt
          rw [List.pairwise_map]
          exact so.imp fun h => Int.mul_lt_mul_of_pos_right h sc0
        · rw [List.length_map]
          omega
end
/-! ### names -/
def plainN : List Str := ["x", "yard", "z", "u", "wide_one", "q", "pp", "t"]
def lettersN : Str := "qwertyuiopasdfghjklzxcvbnm_zyx"
def digitsN : Str := "7305186429"
theorem plain_nodup : ((List.range 8).all fun s => decide (((List.range 8).map fun k => plainN.getD ((k * 3 + s) % 8) "x").Nodup)) = true := by decide +kernel
def isDig (c : Nat) : Bool := decide (48 ≤ c) && decide (c ≤ 57)
def mark (z : Str) : Option Nat := z.cps.toList.find? isDig
theorem letters_none : (lettersN.cps.toList.all fun c => !isDig c) = true := by decide +kernel
theorem digits_are : (digitsN.cps.toList.all isDig) = true := by decide +kernel
theorem digits_nodup : digitsN.cps.toList.Nodup := by decide +kernel
theorem digits_len : digitsN.cps.toList.length = 10 := by decide +kernel
theorem letters_len : lettersN.length = 30 := by decide +kernel
theorem cut_letters (lo hi : Option Int) : ∀ c ∈ (cutS lettersN lo hi).cps.toList, isDig c = false := fun c hc => by
  have h1 : c ∈ lettersN.cps.toList := by
    have : (cutS lettersN lo hi).cps.toList = (lettersN.cps.toList.drop (HT.sIx lettersN.length 0 lo)).take (HT.sIx lettersN.length lettersN.length hi - HT.sIx lettersN.length 0 lo) := by
      unfold cutS
      simp
    rw [this] at hc
    exact List.mem_of_mem_drop (List.mem_of_mem_take hc)
  have := List.all_eq_true.mp letters_none c h1
  simpa using this
theorem cut_len (lo hi : Option Int) : (cutS lettersN lo hi).length ≤ 30 := by
  have h : (cutS lettersN lo hi).cps.toList.length ≤ 30 := by
    unfold cutS
    simp only [List.toList_toArray]
    have l : lettersN.cps.toList.length = 30 := letters_len
    rw [List.length_take, List.length_drop]
    omega
  exact h
theorem mark_of (x t : Str) (c : Nat) (hx : ∀ d ∈ x.cps.toList, isDig d = false) (hc : isDig c = true) : mark (x ++ ⟨#[c]⟩ ++ t) = some c := by
  unfold mark
  have e : (x ++ ⟨#[c]⟩ ++ t).cps.toList = x.cps.toList ++ [c] ++ t.cps.toList := by
    show ((x.cps ++ #[c]) ++ t.cps).toList = _
    simp
  rw [e, List.append_assoc, List.find?_append]
  have : x.cps.toList.find? isDig = none := List.find?_eq_none.mpr fun d hd => by rw [hx d hd]; simp
  rw [this]
  show (([c] ++ t.cps.toList).find? isDig) = some c
  simp [hc]
theorem ok_of {x : Str} (h : ∀ c ∈ x.cps.toList, c < 0x110000) : PyData.strOk x = true := by
  unfold PyData.strOk
  rw [← Array.all_toList]
  exact List.all_eq_true.mpr fun c hc => decide_eq_true (h c hc)
/-- a name that may be drawn: it does not end with an underscore and is not long -/
def nmOk (x : Str) : Bool := ((PyData.strOk x && decide (x.cps.toList.getLast? ≠ some 95)) && decide (x.length ≤ 70)) && decide (x ≠ "aside")
theorem plain_ok : (plainN.all fun x => nmOk x) = true := by decide +kernel
theorem letters_low : (lettersN.cps.toList.all fun c => decide (c < 0x110000)) = true := by decide +kernel
theorem digits_low : (digitsN.cps.toList.all fun c => decide (c < 0x110000)) = true := by decide +kernel
theorem cut_low (lo hi : Option Int) : ∀ c ∈ (cutS lettersN lo hi).cps.toList, c < 0x110000 := fun c hc => by
  have h1 : c ∈ lettersN.cps.toList := by
    have : (cutS lettersN lo hi).cps.toList = (lettersN.cps.toList.drop (HT.sIx lettersN.length 0 lo)).take (HT.sIx lettersN.length lettersN.length hi - HT.sIx lettersN.length 0 lo) := by
      unfold cutS
      simp
    rw [this] at hc
    exact List.mem_of_mem_drop (List.mem_of_mem_take hc)
  exact of_decide_eq_true (List.all_eq_true.mp letters_low c h1)
theorem name_ok (lo hi lo2 hi2 : Option Int) (c : Nat) (hc : c ∈ digitsN.cps.toList) : PyData.strOk (cutS lettersN lo hi ++ ⟨#[c]⟩ ++ cutS lettersN lo2 hi2) = true := ok_of fun d hd => by
  have e : (cutS lettersN lo hi ++ ⟨#[c]⟩ ++ cutS lettersN lo2 hi2).cps.toList = (cutS lettersN lo hi).cps.toList ++ [c] ++ (cutS lettersN lo2 hi2).cps.toList := by
    show (((cutS lettersN lo hi).cps ++ #[c]) ++ (cutS lettersN lo2 hi2).cps).toList = _
    simp
  rw [e] at hd
  rcases List.mem_append.mp hd with h | h
  · rcases List.mem_append.mp h with h | h
    · exact cut_low lo hi d h
    · rw [List.mem_singleton.mp h]
      exact of_decide_eq_true (List.all_eq_true.mp digits_low c hc)
  · exact cut_low lo2 hi2 d h
theorem str_one (c : Nat) : (⟨#[c]⟩ : Str).length = 1 := rfl
theorem len_app (x y : Str) : (x ++ y).length = x.length + y.length := by
  show (x.cps ++ y.cps).size = _
  exact Array.size_append
theorem tail_cases (t : Int) (t0 : 0 ≤ t) (t1 : t < 3) : (cutS lettersN (some (26 - t)) (some 26)).cps.toList.getLast? = none ∨ (cutS lettersN (some (26 - t)) (some 26)).cps.toList.getLast? = some 109 := by
  have : t = 0 ∨ t = 1 ∨ t = 2 := by omega
  rcases this with h | h | h <;> subst h <;> decide +kernel
theorem digits_nu : (digitsN.cps.toList.all fun c => decide (c ≠ 95)) = true := by decide +kernel
theorem digits_ne : (digitsN.cps.toList.all fun c => decide (c ≠ 101)) = true := by decide +kernel
theorem nm_aside {y : Str} (h : nmOk y = true) : y ≠ "aside" := of_decide_eq_true (Bool.and_eq_true_iff.mp h).2
theorem name_nm (lo hi : Option Int) (t : Int) (t0 : 0 ≤ t) (t1 : t < 3) (c : Nat) (hc : c ∈ digitsN.cps.toList) : nmOk (cutS lettersN lo hi ++ ⟨#[c]⟩ ++ cutS lettersN (some (26 - t)) (some 26)) = true := by
  unfold nmOk
  rw [name_ok lo hi _ _ c hc, Bool.true_and]
  have e : (cutS lettersN lo hi ++ ⟨#[c]⟩ ++ cutS lettersN (some (26 - t)) (some 26)).cps.toList = (cutS lettersN lo hi).cps.toList ++ [c] ++ (cutS lettersN (some (26 - t)) (some 26)).cps.toList := by
    show (((cutS lettersN lo hi).cps ++ #[c]) ++ (cutS lettersN (some (26 - t)) (some 26)).cps).toList = _
    simp
  refine Bool.and_eq_true_iff.mpr ⟨Bool.and_eq_true_iff.mpr ⟨decide_eq_true ?_, decide_eq_true ?_⟩, decide_eq_true fun z => ?_⟩
  · rw [e, List.getLast?_append, List.getLast?_append]
    rcases tail_cases t t0 t1 with h | h
    · rw [h]
      have := of_decide_eq_true (List.all_eq_true.mp digits_nu c hc)
      simpa using this
    · rw [h]
      simp
  rotate_left
  · have l1 : (cutS lettersN lo hi ++ ⟨#[c]⟩ ++ cutS lettersN (some (26 - t)) (some 26)).cps.toList.getLast? = ("aside" : Str).cps.toList.getLast? := congrArg (fun y : Str => y.cps.toList.getLast?) z
    have l2 : ("aside" : Str).cps.toList.getLast? = some 101 := by decide +kernel
    rw [l2, e, List.getLast?_append, List.getLast?_append] at l1
    rcases tail_cases t t0 t1 with h | h
    · rw [h] at l1
      have := of_decide_eq_true (List.all_eq_true.mp digits_ne c hc)
      exact this (by simpa using l1)
    · rw [h] at l1
      simp at l1
  rw [len_app, len_app, str_one]
  have h1 := cut_len lo hi
  have h2 := cut_len (some (26 - t)) (some 26)
  exact Nat.le_trans (Nat.add_le_add (Nat.add_le_add_right h1 1) h2) (by decide)
section
variable {P : Program} {w : World} {K : PySem.W.Frag} {mg : Str → Option Value} {base : Heap}
abbrev sNames : Stmt := topS 30
abbrev nNames : List Str := ["_law_stream_here", "_law_count", "_law_shift", "_law_plain", "_law_k", "_law_letters", "_law_names_here", "_law_at", "_law_size", "_law_tail"]
theorem scNames : FnScope nNames ["_law_stream_here", "_law_count"] (defScope sNames) := ⟨rfl, rfl, rfl, by decide +kernel, rfl, by decide +kernel, by decide +kernel⟩
def spNames : Sp := fun vs H Q _ => ∃ (p : Addr) (m : Nat), vs = [.ref p, .int (m : Int)] ∧ Strm H p ∧ m ≤ 8 ∧
  ∀ (H' : Hp) (l : Addr) (xs : List Str), Keep p H H' → H l = none → Strm H' p → H' l = some (.lst (xs.map V.str)) → xs.Nodup → xs.length = m → (∀ x ∈ xs, nmOk x = true) → Q (.ref l) H'
theorem ok_names {f fD : Addr} {fd fdD : FuncData} (F : Fun K "_law_names" "_law_names" sNames f fd) (B : Bt mg) (D : Call P w K mg base 1 "_law_next" fD fdD ["_law_stream_here", "_law_size"] spDraw) :
    FnOk P w K mg base CX0 2 f fd ["_law_stream_here", "_law_count"] spNames := by
  refine F.ok scNames (fun vs H Q E h => ?_) (fun cdv A outer s H vs Q E hr h => ?_)
  · obtain ⟨p, m, rfl, _⟩ := h
    rfl
  · obtain ⟨p, m, rfl, hp, m8, q⟩ := h
    have nd := scNames.nd
    refine ⟨_, pss_cons (ps_if (pt_cmpR op_eq (pe_call D.ok hr (by rfl) D.at_ D.kp D.bd .nil pass0 (pa_cons (pv 0) (pa_cons pe_int pa_nil))) pe_int (nomark _))
        (pss_cons (ps_set (i := 2) nd rfl (.inr rfl) (pe_call D.ok hr (by rfl) D.at_ D.kp D.bd .nil pass0 (pa_cons (pv 0) (pa_cons pe_int pa_nil))))
        (pss_cons (ps_set (i := 3) nd rfl (.inr rfl) (pe_lst (pa_cons pe_str (pa_cons pe_str (pa_cons pe_str (pa_cons pe_str (pa_cons pe_str (pa_cons pe_str (pa_cons pe_str (pa_cons pe_str pa_nil))))))))))
        (pss_one (ps_ret (pe_lc (own := [("_law_k", 4)]) (g := gName 4) (tt := tYes) rfl nd (pi_range1 (by rfl) B.range (pa_cons (pv 1) pa_nil)) (blkOk_by (N := nNames) (sc := defScope sNames) (by decide +kernel)) (fun _ _ _ _ _ => pg_name (i := 4) nd rfl (Or.inl rfl)) (fun _ _ _ _ _ => pts_nil)
          (fun _ _ _ _ _ => pe_ix (r := rIxL K) ix_list (pv 3) (pe_op op_mod (pe_callTy call_int1 (by rfl) B.int PyProof.Rows.boot_int (pa_cons (pe_op op_add (pe_op op_mul (pv 4) pe_int) (pv 2)) pa_nil)) pe_int) (fun _ _ => rfl))))))) pss_nil)
      (pss_cons (ps_set (i := 5) nd rfl (.inl rfl) pe_str)
      (pss_cons (ps_set (i := 6) nd rfl (.inl rfl) (pe_lst pa_nil))
      (pss_cons (ps_for PassesOwn.never rfl (pi_range1 (by rfl) B.range (pa_cons (pv 1) pa_nil)) (pg_name (i := 4) nd rfl (.inl rfl))
        (pss_cons (ps_set (i := 7) nd rfl (.inl rfl) (pe_call D.ok hr (by rfl) D.at_ D.kp D.bd .nil pass0 (pa_cons (pv 0) (pa_cons pe_int pa_nil))))
        (pss_cons (ps_set (i := 8) nd rfl (.inl rfl) (pe_op op_add pe_int (pe_call D.ok hr (by rfl) D.at_ D.kp D.bd .nil pass0 (pa_cons (pv 0) (pa_cons pe_int pa_nil)))))
        (pss_cons (ps_set (i := 9) nd rfl (.inl rfl) (pe_slice sl_str (pv 5) (po_some (pe_op op_sub pe_int (pe_call D.ok hr (by rfl) D.at_ D.kp D.bd .nil pass0 (pa_cons (pv 0) (pa_cons pe_int pa_nil))))) (po_some pe_int)))
        (pss_one (ps_expr (pe_bm PySem.F.plainAttrs_list PySem.F.slot_list_append PySem.F.type_list_append mt_append (pv 6) (pa_cons
          (pe_op op_add_str (pe_op op_add_str (pe_slice sl_str (pv 5) (po_some (pv 7)) (po_some (pe_op op_add (pv 7) (pv 8)))) (pe_ix ix_str pe_str (pv 4) (fun _ _ => rfl))) (pv 9)) pa_nil))))))))
      (pss_one (ps_ret (pv 6)))))), ?_⟩
    refine ⟨.ref p, rfl, p, 3, rfl, hp, by decide, by decide, fun H1 d o1 st1 d0 d1 => ⟨rfl, _, rfl, ite2 (fun c => ?_) (fun c => ?_)⟩⟩
    · -- the plain names
      refine ⟨.ref p, rfl, p, 8, rfl, st1, by decide, by decide, fun H2 s o2 st2 s0 s1 => ?_⟩
      refine ⟨by show 8 ≤ sizeLine; decide, fun pl npl => ?_⟩
      have npp : p ≠ pl := fun z => st2.some (z ▸ npl)
      have epl : (upd H2 pl (.lst (plainN.map V.str))) pl = some (.lst (plainN.map V.str)) := upd_same
      refine ⟨.int (m : Int), rfl, (m : Int), rfl, by omega, by omega, fun R nR => ?_⟩
      have fin : ∀ k : Nat, k < m → (plainN.map V.str)[(k * 3 + s.toNat) % 8]? = some (.str (plainN.getD ((k * 3 + s.toNat) % 8) "x")) := fun k hk => by
        have : (k * 3 + s.toNat) % 8 < plainN.length := Nat.mod_lt _ (by decide)
        rw [List.getElem?_map, List.getD_eq_getElem?_getD, List.getElem?_eq_getElem this]
        rfl
      refine lc_range (lo := 0) (fun i H' => Same (upd H2 pl (.lst (plainN.map V.str))) H' ∧ H' R = some (.lst (((List.range i).map fun k => plainN.getD ((k * 3 + s.toNat) % 8) "x").map V.str))) ⟨same_new nR, upd_same⟩ ?_ ?_
      · rintro i H' hi ⟨sm, eR⟩
        have hi' : i < m := by omega
        refine ⟨rfl, .ref pl, rfl, .int (0 + (i : Int)), rfl, 0 + (i : Int), 3, rfl, rfl, .inr ⟨by decide, by decide⟩, .int s, rfl, (0 + (i : Int)) * 3, s, rfl, rfl, .inl ⟨_, rfl, (0 + (i : Int)) * 3 + s, 8, rfl, rfl, ?_, ?_⟩⟩
        · show (0 : Int) < 8
          decide
        · refine ⟨pl, _, _, _, rfl, rfl, sl_map (sm _ _ epl), at_of (j := (i * 3 + s.toNat) % 8) (by omega) (fin i hi'), _, eR, ?_, same_at sm nR, ?_⟩
          · rw [List.length_map, List.length_map, List.length_range]
            exact small1000 (by omega)
          · rw [upd_same, List.range_succ, List.map_append, List.map_append]
            rfl
      · rintro H' ⟨sm, eR⟩
        have smH : Keep p H2 H' := fun b u hb e => sm _ _ (by rw [upd_ne (ne_of_none e npl)]; exact e)
        have nR2 : H2 R = none := (same_new npl).free nR
        have st' : Strm H' p := by
          obtain ⟨x, y, z, e⟩ := st2
          exact ⟨x, y, z, sm _ _ (by rw [upd_ne npp]; exact e)⟩
        refine q H' R _ ((((Keep.refl p H).oth o1).oth o2).trans smH) ((((Keep.refl p H).oth o1).oth o2).free st2 nR2) st' eR ?_ ?_ ?_
        · have h8 := List.all_eq_true.mp plain_nodup s.toNat (List.mem_range.mpr (by omega))
          have h9 := of_decide_eq_true h8
          have e8 : (List.range (m : Int).toNat) = (List.range 8).take m := by
            rw [List.take_range, show min m 8 = (m : Int).toNat by omega]
          rw [e8, List.map_take]
          exact List.Pairwise.sublist (List.take_sublist _ _) h9
        · rw [List.length_map, List.length_range]
          omega
        · intro x hx
          obtain ⟨k, _, rfl⟩ := List.mem_map.mp hx
          have lt : (k * 3 + s.toNat) % 8 < plainN.length := Nat.mod_lt _ (by decide)
          rw [List.getD_eq_getElem?_getD, List.getElem?_eq_getElem lt]
          exact List.all_eq_true.mp plain_ok _ (List.getElem_mem lt)
    · -- letters, a digit, letters
      refine ⟨Nat.zero_le _, fun l nl1 => ?_⟩
      have npl : p ≠ l := fun z => st1.some (z ▸ nl1)
      have nl : H l = none := by rw [← o1 l npl.symm]; exact nl1
      refine ⟨.int (m : Int), rfl, (m : Int), rfl, by omega, by omega, for_range (lo := 0) (n := ((m : Int)).toNat) (fun i σ H' => ∃ (y4 y7 y8 y9 : Option V) (xs : List Str), σ = [some (.ref p), some (.int (m : Int)), none, none, y4, some (.str lettersN), some (.ref l), y7, y8, y9] ∧ Keep p H H' ∧ Strm H' p ∧ H' l = some (.lst (xs.map V.str)) ∧ xs.length = i ∧ (∀ x ∈ xs, nmOk x = true) ∧ ∀ j x, xs[j]? = some x → mark x = digitsN.cps.toList[j]?)
        ⟨none, none, none, none, [], rfl, ((Keep.refl p H).oth o1).at_ nl, st1.upd npl, upd_same, rfl, (fun _ h => nomatch h), fun j x h => absurd ((List.getElem?_nil (α := Str) (i := j)).symm.trans h) (by simp)⟩ ?_ ?_⟩
      · rintro i σ H' hi ⟨y4, y7, y8, y9, xs, rfl, kp, st, el, len, sok, mk⟩
        have hi' : i < m := by omega
        refine ⟨.ref p, rfl, p, 26, rfl, st, by decide, by decide, fun H2 a o2 st2 a0 a1 => ?_⟩
        refine ⟨.ref p, rfl, p, 3, rfl, st2, by decide, by decide, fun H3 b o3 st3 b0 b1 => ⟨1, b, rfl, rfl, ?_⟩⟩
        refine ⟨_, rfl, .ref p, rfl, p, 3, rfl, st3, by decide, by decide, fun H4 t o4 st4 t0 t1 => ⟨26, t, rfl, rfl, _, rfl, 26, rfl, lettersN, rfl, by decide +kernel, ?_⟩⟩
        have el4 : H4 l = some (.lst (xs.map V.str)) := by rw [o4 l npl.symm, o3 l npl.symm, o2 l npl.symm]; exact el
        have hd : i < digitsN.cps.toList.length := by rw [digits_len]; omega
        have gd : digitsN.cps.toList[i]? = some digitsN.cps.toList[i] := List.getElem?_eq_getElem hd
        refine ⟨.ref l, rfl, .inl ⟨rfl, _, sl_map el4⟩, _, rfl, .int a, rfl, a, rfl, .int a, rfl, _, rfl, a, _, rfl, rfl, _, rfl, lettersN, rfl, by decide +kernel, .int (0 + (i : Int)), rfl, digitsN, _, digitsN.cps.toList[i], rfl, rfl, by decide +kernel, (by rw [show (0 : Int) + (i : Int) = ((i : Nat) : Int) by omega]; exact atI_nat gd), _, _, rfl, rfl, ?_, _, rfl, _, _, rfl, rfl, ?_, l, _, _, rfl, rfl, el4, ?_, ?_⟩
        · exact by have := cut_len (some a) (some (a + (1 + b))); rw [str_one]; exact Nat.le_trans (Nat.add_le_add_right this 1) (by decide)
        · exact by have := cut_len (some a) (some (a + (1 + b))); have h2 := cut_len (some (26 - t)) (some 26); rw [len_app, str_one]; exact Nat.le_trans (Nat.add_le_add (Nat.add_le_add_right this 1) h2) (by decide)
        · rw [List.length_map]
          exact small1000 (by omega)
        · have dg : isDig digitsN.cps.toList[i] = true := List.all_eq_true.mp digits_are _ (List.getElem_mem hd)
          refine ⟨_, _, _, _, xs ++ [cutS lettersN (some a) (some (a + (1 + b))) ++ ⟨#[digitsN.cps.toList[i]]⟩ ++ cutS lettersN (some (26 - t)) (some 26)], rfl, (((kp.oth o2).oth o3).oth o4).at_ nl, st4.upd npl, ?_, ?_, ?_, ?_⟩
          · rw [upd_same, List.map_append]
            rfl
          · rw [List.length_append, len]
            rfl
          · intro x hx
            rcases List.mem_append.mp hx with h | h
            · exact sok x h
            · rw [List.mem_singleton.mp h]
              exact name_nm _ _ _ t0 t1 _ (List.getElem_mem hd)
          · intro j x hj
            rcases Nat.lt_or_ge j i with c | c
            · rw [List.getElem?_append_left (by omega)] at hj
              exact mk j x hj
            · rw [List.getElem?_append_right (by omega)] at hj
              have ej : j = i := by
                have := (List.getElem?_eq_some_iff.mp hj).1
                rw [List.length_singleton] at this
                omega
              subst ej
              rw [show j - xs.length = 0 by omega] at hj
              have : _ = x := Option.some.inj hj
              rw [← this, gd]
              exact mark_of _ _ _ (cut_letters _ _) dg
      · rintro σ H' ⟨y4, y7, y8, y9, xs, rfl, kp, st, el, len, sok, mk⟩
        refine ⟨_, rfl, q H' l xs kp nl st el ?_ (by omega) sok⟩
        refine List.pairwise_iff_getElem.mpr fun j k hj hk hjk he => ?_
        have e1 := mk j _ (List.getElem?_eq_getElem hj)
        have e2 := mk k _ (List.getElem?_eq_getElem hk)
        rw [he] at e1
        have hk' : k < digitsN.cps.toList.length := by rw [digits_len]; omega
        have hj' : j < digitsN.cps.toList.length := by rw [digits_len]; omega
        have e3 := e1.symm.trans e2
        rw [List.getElem?_eq_getElem hj', List.getElem?_eq_getElem hk'] at e3
        exact List.pairwise_iff_getElem.mp digits_nodup j k hj' hk' hjk (Option.some.inj e3)
end
section
variable {P : Program} {w : World} {K : PySem.W.Frag} {mg : Str → Option Value} {base : Heap}
/-! ### a copy, by a loop -/
abbrev sCopied : Stmt := topS 38
abbrev nCopied : List Str := ["_law_sides_here", "_law_copied_here", "_law_name"]
theorem scCopied : FnScope nCopied ["_law_sides_here"] (defScope sCopied) := ⟨rfl, rfl, rfl, by decide +kernel, rfl, by decide +kernel, by decide +kernel⟩
theorem Nb.nil {H H' : Hp} {D : Addr} (n : H D = none) (h : H' D = some (.dK [])) : Nb H H' D [] := ⟨⟨⟨.inl h, (fun _ he => nomatch he), .nil, Nat.zero_le _⟩, h⟩, n, (fun _ he => nomatch he), .nil⟩
theorem shape_len {L M : List Ent} (h : shape L = shape M) : L.length = M.length := by have := congrArg List.length h; simpa [shape] using this
theorem shape_take {L M : List Ent} {i : Nat} {e : Ent} {l : Addr} (h : shape M = shape (L.take i)) (he : L[i]? = some e) : shape (M ++ [(e.1, l, e.2.2)]) = shape (L.take (i + 1)) := by
  rw [List.take_add_one, he]
  unfold shape at h ⊢
  rw [List.map_append, List.map_append, h]
  rfl
theorem ok_copied {f : Addr} {fd : FuncData} {k : Nat} (F : Fun K "_law_copied" "_law_copied" sCopied f fd) (B : Bt mg) : FnOk P w K mg base CX0 (k + 1) f fd ["_law_sides_here"] spCopy := by
  refine F.ok scCopied (fun vs H Q E h => ?_) (fun cdv A outer s H vs Q E hr h => ?_)
  · obtain ⟨d, L, rfl, _⟩ := h
    rfl
  · obtain ⟨d, L, rfl, bx, q⟩ := h
    have hu := hu_of hr
    have nd := scCopied.nd
    refine ⟨_, pss_cons (ps_set (i := 1) nd rfl (.inl rfl) pe_dnewK)
      (pss_cons (ps_lock (ps_for PassesOwn.never rfl (pi_keys (pv 0)) (pg_name (i := 2) nd rfl (.inl rfl))
        (pss_one (ps_dput hu (pv 1) (pv 2) (pe_callTy call_list_of (by rfl) B.list PyProof.Rows.boot_list (pa_cons (pe_dget hu (pv 0) (pv 2) (fun _ _ => rfl)) pa_nil)) rfl))))
      (pss_one (ps_ret (pv 1)))), ?_⟩
    intro D nD
    have s0 := same_new (o := HO.dK []) nD
    have bx0 := bx.same' s0
    refine ⟨d, _, bx0.un, trivial, fun od => ?_⟩
    have hd : H d ≠ none := by rw [bx.un]; exact fun z => by cases z
    have nDd : D ≠ d := fun z => hd (z ▸ nD)
    refine ⟨.ref d, rfl, d, od, rfl, .inl ⟨entK L, upd_same, for_it walk_keys (fun i σ H' => ∃ (M : List Ent) (y : Option V), σ = [some (.ref d), some (.ref D), y] ∧ Same (upd H d (.frz od (.dK (entK L)))) H' ∧ Nb H H' D M ∧ shape M = shape (L.take i))
      ⟨[], none, rfl, ?_, ?_, rfl⟩ (fun i σ H' _ h => by obtain ⟨M, y, _, e, _⟩ := h; exact e _ _ upd_same) ?_ ?_⟩⟩
    · intro b o e
      by_cases z : b = d
      · rw [z, upd_same] at e ⊢; exact e
      · rw [upd_ne z] at e ⊢
        exact s0 _ _ e
    · exact Nb.nil nD (by rw [upd_ne nDd]; exact upd_same)
    · rintro i x σ H' H'' hi ⟨M, y, rfl, sm, nb, sh⟩ ⟨rfl, k1, v1, hk, rfl⟩
      obtain ⟨e, he, rfl, rfl⟩ := keys_at hk
      have em := List.mem_of_getElem? he
      have bl := (bx.toBx.lock (od := od) bx.un).same sm
      have gv := bl.get e.1
      rw [getE_of bx.nd em] at gv
      rw [entK_len] at hi
      have few := bx.few
      have lM := shape_len sh
      rw [List.length_take] at lM
      refine ⟨.ref d, rfl, .str e.1, rfl, d, .ref e.2.1, rfl, gv, e.2.1, _, rfl, .inl (sl_map (bl.sides e em)), fun l nl => ?_⟩
      have sl := same_new (o := HO.lst (e.2.2.map V.int)) nl
      have nl0 : H l = none := by
        have := sm.free nl
        cases c : H l with
        | none => rfl
        | some o =>
          by_cases z : l = d
          · rw [z, upd_same] at this; cases this
          · rw [upd_ne z, c] at this; cases this
      have xnew : e.1 ∉ M.map (·.1) := by rw [shape_keys sh]; exact take_keys bx.nd he
      refine ⟨.ref D, rfl, .str e.1, rfl, D, _, rfl, DPut.k (k := .inr e.1) (sl _ _ nb.un) (by rw [entK_len]; exact small1000 (by omega)), ?_⟩
      refine ⟨putE M e.1 l e.2.2, some (.str e.1), rfl, ?_, ?_, ?_⟩
      · refine same_at (sm.trans sl) ?_
        rw [upd_ne nDd]
        exact nD
      · rw [putK_ent (s := e.2.2)]
        exact nb.put nl0 nl sl upd_same (by omega)
      · rw [putE_new xnew]
        exact shape_take sh he
    · rintro σ H' ⟨M, y, rfl, sm, nb, sh⟩
      rw [entK_len, List.take_length] at sh
      have eF := sm _ _ (upd_same (H := H) (a := d) (o := HO.frz od (.dK (entK L))))
      exact ⟨eF, _, rfl, q _ D M (unlock bx.un sm) (nb.unl bx.un eF) sh⟩
/-! ### _law_holds, _law_within, _law_is -/
end
/-- all that was there, but what stands at one of these -/
def KeepL (as : List Addr) (H H' : Hp) : Prop := ∀ b o, b ∉ as → H b = some o → H' b = some o
theorem KeepL.refl (as : List Addr) (H : Hp) : KeepL as H H := fun _ _ _ e => e
theorem KeepL.same {as : List Addr} {H H1 H2 : Hp} (k : KeepL as H H1) (s : Same H1 H2) : KeepL as H H2 := fun b o h e => s _ _ (k b o h e)
theorem KeepL.trans {as : List Addr} {H H1 H2 : Hp} (k : KeepL as H H1) (s : KeepL as H1 H2) : KeepL as H H2 := fun b o h e => s b o h (k b o h e)
abbrev big : Int := 10 ^ (13 : Int).toNat
theorem SameB.get {L M : List Ent} (s : SameB L M) {e : Ent} (nd : (M.map (·.1)).Nodup) (h : e ∈ M) : ∃ t ∈ L, t.1 = e.1 ∧ t.2.2 = e.2.2 ∧ getE L e.1 = some t := by
  have q := s e.1
  rw [look_mem nd h] at q
  unfold look at q
  obtain ⟨t, ht, eq⟩ := Option.map_eq_some_iff.mp q
  obtain ⟨m1, m2⟩ := getE_mem ht
  exact ⟨t, m1, m2, eq, ht⟩
section
variable {P : Program} {w : World} {K : PySem.W.Frag} {mg : Str → Option Value} {base : Heap}
abbrev sSame : Stmt := topS 40
abbrev nSame : List Str := ["_law_actual", "_law_expected", "_law_found", "_law_name"]
theorem scSame : FnScope nSame ["_law_actual", "_law_expected"] (defScope sSame) := ⟨rfl, rfl, rfl, by decide +kernel, rfl, by decide +kernel, by decide +kernel⟩
def spSame : Sp := fun vs H Q _ => ∃ (a e : Addr) (M E : List Ent), vs = [.ref a, .ref e] ∧ Bu H a M ∧ Bu H e E ∧ SameB M E ∧ (∀ g ∈ M, Srt g.2.2 ∧ g.2.2.length ≤ 1000) ∧ ∀ H', Same H H' → Q (.bl true) H'
theorem ok_same {f fI : Addr} {fd fdI : FuncData} (F : Fun K "_law_same_sides" "_law_same_sides" sSame f fd) (B : Bt mg) (I : Call P w K mg base 2 "_law_is_side" fI fdI ["_law_actual"] spIsSide) :
    FnOk P w K mg base CX0 3 f fd ["_law_actual", "_law_expected"] spSame := by
  refine F.ok scSame (fun vs H Q E h => ?_) (fun cdv A outer s H vs Q E hr h => ?_)
  · obtain ⟨a, e, M, E, rfl, _⟩ := h
    rfl
  · obtain ⟨a, e, M, X, rfl, bm, be, same, ok, q⟩ := h
    have hu := hu_of hr
    have hu64 : (A.deeper (envOfC "_law_same_sides" (defScope sSame) s.heap.objs.size f cdv)).units + 64 < cLine := by have := hr.un; omega
    have nd := scSame.nd
    refine ⟨_, pss_cons (ps_if (PW.pt (pw_or (pt_not (pt_val (pe_callB call_isi (by rfl) B.isi PyProof.Rows.boot_isinstance (pa_cons (pv 0) (pa_cons (pe_bltn (by rfl) B.dict PyProof.Rows.boot_dict (v := .ty "dict") rfl) pa_nil)))))
        (pw_or1 (pt_cmpR op_ne (pe_callB call_lenD (by rfl) B.len PySem.boot_len (pa_cons (pv 0) pa_nil)) (pe_callB call_lenD (by rfl) B.len PySem.boot_len (pa_cons (pv 1) pa_nil)) rfl)))) (pss_one (ps_ret pe_bl)) pss_nil)
      (pss_cons (ps_lock (ps_setLc (i := 2) (own := [("_law_name", 3)]) (g := gName 3) (te := tVar 3) rfl nd rfl rfl (by rfl) (pi_keys (pv 1)) (blkOk_by (N := nSame) (sc := defScope sSame) (by decide +kernel)) (fun _ _ _ _ _ => pg_name (i := 3) nd rfl (Or.inl rfl))
          (fun _ _ _ _ _ => pts_one (PW.pt (pw_and (pt_cmp (pc_din hu (pv 3) (pv 0))) (pw_and1 (pt_val (pe_call I.ok hr (by rfl) I.at_ I.kp I.bd .nil pass0 (pa_cons (pe_dget hu (pv 0) (pv 3) (fun _ _ => rfl)) pa_nil))))))) (fun _ _ _ _ _ => pv 3)))
      (pss_one (ps_ret (pe_and (pe_cmpR op_eq (pe_callB call_len_seq (by rfl) B.len PySem.boot_len (pa_cons (pv 2) pa_nil)) (pe_callB call_lenD (by rfl) B.len PySem.boot_len (pa_cons (pv 1) pa_nil)) rfl)
        (pe_one (pe_callB (cr_all rfl) (by rfl) B.all PyProof.Rows.boot_all (pa_cons
          (pe_lc (own := [("_law_name", 3)]) (g := gName 3) (tt := tYes) rfl nd (pi_list (pv 2)) (blkOk_by (N := nSame) (sc := defScope sSame) (by decide +kernel)) (fun _ _ _ _ _ => pg_name (i := 3) nd rfl (Or.inl rfl)) (fun _ _ _ _ _ => pts_nil)
            (fun _ _ _ _ _ => pe_cmpR (r := rEqD K) (op_eqD hu64) (pe_dget hu (pv 0) (pv 3) (fun _ _ => rfl)) (pe_dget hu (pv 1) (pv 3) (fun _ _ => rfl)) rfl)) pa_nil))))))), ?_⟩
    have lens : M.length = X.length := same.len bm.nd be.nd
    refine ⟨.ref a, rfl, .ref a, .ty "dict", .type "dict", .type "dict", true, rfl, .ty _, .base (.dK bm.un), kit_ty (by decide +kernel), true, rfl, iteF ?_⟩
    refine ⟨.ref a, rfl, a, _, rfl, bm.un, .ref e, rfl, e, _, rfl, be.un, rfl, ?_⟩
    rw [entK_len, entK_len, lens, decide_eq_true rfl]
    refine ⟨false, rfl, iteF ?_⟩
    refine ⟨e, _, be.un, trivial, fun od => ?_⟩
    have bel := be.toBx.lock (od := od) be.un
    have bml := bm.toBx.lock (od := od) be.un
    refine ⟨.ref e, rfl, e, od, rfl, .inl ⟨entK X, upd_same, fun D nD => lc_it walk_keys (fun i H' => Same (upd H e (.frz od (.dK (entK X)))) H' ∧ H' D = some (.lst (((X.take i).map (·.1)).map V.str))) ⟨same_new nD, upd_same⟩ (fun i H' _ h => h.1 _ _ upd_same) ?_ ?_⟩⟩
    · rintro i x Hz H' hi ⟨sm, eD⟩ ⟨rfl, k1, v1, hk, rfl⟩
      obtain ⟨x, hx, rfl, rfl⟩ := keys_at hk
      have xm := List.mem_of_getElem? hx
      obtain ⟨g, gm, g1, g2, g3⟩ := same.get be.nd xm
      have gv := (bml.same sm).get x.1
      rw [g3] at gv
      obtain ⟨so, ln⟩ := ok g gm
      have isu : H' a = some (.dK (entK M)) ∨ H' a = some (.frz od (.dK (entK X))) := by
        by_cases z : a = e
        · right; rw [z]; exact sm _ _ upd_same
        · left; exact sm _ _ (by rw [upd_ne z]; exact bm.un)
      refine ⟨rfl, .str x.1, rfl, .ref a, rfl, a, _, rfl, gv, true, rfl, iteT ?_⟩
      refine ⟨.ref a, rfl, .str x.1, rfl, a, .ref g.2.1, rfl, gv, g.2.1, g.2.2, rfl, sm _ _ (bml.sides g gm), so, ln, fun H4 s4 => ⟨true, rfl, iteT ⟨.str x.1, rfl, _, s4 _ _ eD, ?_, same_at (sm.trans s4) nD, ?_⟩⟩⟩
      · rw [List.length_map, List.length_map, List.length_take]
        have := be.few
        exact small1000 (by omega)
      · rw [upd_same, List.take_add_one, hx, List.map_append, List.map_append]
        rfl
    · rintro H' ⟨sm, eD⟩
      rw [entK_len, List.take_length] at eD
      have eF := sm _ _ (upd_same (H := H) (a := e) (o := HO.frz od (.dK (entK X))))
      have nDe : D ≠ e := fun z => by rw [z, eF] at eD; cases eD
      refine ⟨eF, ?_⟩
      have s2 : Same H (upd H' e (.dK (entK X))) := unlock be.un sm
      have eD2 : (upd H' e (.dK (entK X))) D = some (.lst ((X.map (·.1)).map V.str)) := by rw [upd_ne nDe]; exact eD
      generalize upd H' e (.dK (entK X)) = H2 at s2 eD2 ⊢
      clear sm eD eF H'
      refine ⟨.ref D, rfl, D, _, rfl, .inl (sl_map eD2), .ref e, rfl, e, _, rfl, s2 _ _ be.un, rfl, ?_⟩
      rw [entK_len, List.length_map, List.length_map, decide_eq_true rfl]
      refine ⟨true, rfl, iteT ?_⟩
      refine ⟨.ref D, rfl, D, rfl, ⟨_, sl_map eD2⟩, fun R nR => lc_list (xs := (X.map (·.1)).map V.str) (fun i H' => Same H2 H' ∧ H' R = some (.lst ((List.replicate i true).map V.bl))) ⟨same_new nR, upd_same⟩ (fun i H' _ h => h.1.seq (sl_map eD2)) ?_ ?_⟩
      · rintro i z H' hz ⟨sm, hd⟩
        rw [List.getElem?_map, List.getElem?_map] at hz
        obtain ⟨v, hv, rfl⟩ := Option.map_eq_some_iff.mp hz
        obtain ⟨x, hx, rfl⟩ := Option.map_eq_some_iff.mp hv
        have xm := List.mem_of_getElem? hx
        obtain ⟨g, gm, g1, g2, g3⟩ := same.get be.nd xm
        have s3 := s2.trans sm
        have gv := (bm.toBx.same s3).get x.1
        rw [g3] at gv
        have ev := (be.toBx.same s3).get x.1
        rw [getE_of be.nd xm] at ev
        have few := be.few
        have hi := (List.getElem?_eq_some_iff.mp hx).1
        have e1 := s3 _ _ (bm.sides g gm)
        rw [g2] at e1
        refine ⟨rfl, .ref a, rfl, .str x.1, rfl, a, .ref g.2.1, rfl, gv, .ref e, rfl, .str x.1, rfl, e, .ref x.2.1, rfl, ev, dI x.2.2, dI x.2.2, dpI (sl_map e1), dpI (sl_map (s3 _ _ (be.sides x xm))), shI _, shI _, ?_⟩
        rw [eqI]
        refine ⟨_, hd, ?_, same_at sm nR, ?_⟩
        · rw [List.length_map, List.length_replicate]
          exact small1000 (by omega)
        · rw [upd_same, List.replicate_succ', List.map_append]
          rfl
      · rintro H' ⟨sm, hd⟩
        refine ⟨R, _, rfl, sl_map hd, ?_⟩
        rw [all_rep]
        exact q _ (s2.trans sm)
end
theorem cutV_to (xs : List V) (j : Nat) : cutV xs none (some (j : Int)) = xs.take j := by
  unfold cutV
  rw [HT.sIx_none, HT.sIx_nat, List.drop_zero, Nat.sub_zero]
  by_cases h : j ≤ xs.length
  · rw [Nat.min_eq_left h]
  · rw [Nat.min_eq_right (by omega), List.take_of_length_le (Nat.le_refl _), List.take_of_length_le (by omega)]
theorem cutV_from (xs : List V) (j : Nat) : cutV xs (some (j : Int)) none = xs.drop j := by
  unfold cutV
  rw [HT.sIx_none, HT.sIx_nat]
  by_cases h : j ≤ xs.length
  · rw [Nat.min_eq_left h, List.take_of_length_le (by rw [List.length_drop]; exact Nat.le_refl _)]
  · rw [Nat.min_eq_right (by omega), List.drop_length, List.drop_of_length_le (by omega)]
    simp
theorem Nb.keep {H0 H H' : Hp} {p d : Addr} {M : List Ent} (N : Nb H0 H d M) (hp : H0 p ≠ none) (k : Keep p H H') : Nb H0 H' d M := by
  have pd : d ≠ p := fun z => hp (z ▸ N.fresh)
  have away : ∀ g ∈ M, g.2.1 ≠ p := fun g hg z => hp (z ▸ N.freshS g hg)
  exact ⟨⟨⟨.inl (k _ _ pd N.un), fun g hg => k _ _ (away g hg) (N.sides g hg), N.nd, N.few⟩, k _ _ pd N.un⟩, N.fresh, N.freshS, N.inj⟩
theorem Bu.keep {H H' : Hp} {p d : Addr} {M : List Ent} (N : Bu H d M) (s : Strm H p) (k : Keep p H H') (away : ∀ g ∈ M, g.2.1 ≠ p) : Bu H' d M := by
  have pd : d ≠ p := fun z => by
    obtain ⟨x, y, w, e⟩ := s
    have := N.un
    rw [z, e] at this
    cases this
  exact ⟨⟨.inl (k _ _ pd N.un), fun g hg => k _ _ (away g hg) (N.sides g hg), N.nd, N.few⟩, k _ _ pd N.un⟩
theorem Bu.aput {H : Hp} {d l : Addr} {M : List Ent} {x : Str} {s : List Int} (B : Bu H d M) (el : H l = some (.lst (s.map V.int))) (few : M.length + 1 ≤ 40) : Bu (upd H d (.dK (entK (putE M x l s)))) d (putE M x l s) := by
  have ld : ∀ {c : Addr} {ys : List V}, H c = some (.lst ys) → c ≠ d := fun h z => by rw [z, B.un] at h; cases h
  refine ⟨⟨.inl upd_same, fun e he => ?_, putE_nd B.nd, by have := putE_len M x l s; omega⟩, upd_same⟩
  rcases putE_mem he with z | ⟨z, _⟩
  · rw [z, upd_ne (ld el)]
    exact el
  · have h1 := B.sides e z
    rw [upd_ne (ld h1)]
    exact h1
theorem small10k {n : Nat} (h : n ≤ 10000) : n < sizeLine := Nat.lt_of_le_of_lt h (by decide)
/-! ### equal boxes, deep -/
theorem shape_same {L M : List Ent} (h : shape L = shape M) : SameB L M := look_shape h
/-! ### what the meet and the join hold -/
theorem Sz.mono {L : List Ent} {n m : Nat} (z : Sz L n) (h : n ≤ m) : Sz L m := ⟨z.srt, fun e he => Nat.le_trans (z.len e he) h⟩
/-! ### domains: a list of pairs of a name and a side -/
abbrev DomE := Addr × Ent
structure Doms (H : Hp) (l : Addr) (ds : List DomE) : Prop where
  lst : H l = some (.lst (ds.map fun d => V.ref d.1))
  tup : ∀ d ∈ ds, H d.1 = some (.tup [V.str d.2.1, V.ref d.2.2.1])
  side : ∀ d ∈ ds, H d.2.2.1 = some (.lst (d.2.2.2.map V.int))
theorem Doms.same {H H' : Hp} {l : Addr} {ds : List DomE} (D : Doms H l ds) (s : Same H H') : Doms H' l ds := ⟨s _ _ D.lst, fun d h => s _ _ (D.tup d h), fun d h => s _ _ (D.side d h)⟩
theorem Srt.sub {a b : List Int} (s : Srt b) (h : a.Sublist b) : Srt a := List.Pairwise.sublist h s
theorem Doms.keep {H H' : Hp} {p l : Addr} {ds : List DomE} (D : Doms H l ds) (k : Keep p H H') (hl : l ≠ p) (h : ∀ d ∈ ds, d.1 ≠ p ∧ d.2.2.1 ≠ p) : Doms H' l ds :=
  ⟨k _ _ hl D.lst, fun d hd => k _ _ (h d hd).1 (D.tup d hd), fun d hd => k _ _ (h d hd).2 (D.side d hd)⟩
theorem refs_ints {ds : List DomE} {ns : List Int} (h : (ds.map fun d => V.ref d.1) = ns.map V.int) : ds = [] := by
  cases ds with
  | nil => rfl
  | cons d ds =>
    cases ns with
    | nil => cases h
    | cons n ns =>
      rw [List.map_cons, List.map_cons] at h
      cases (List.cons.inj h).1
/-- a pair more -/
theorem Doms.snoc {H : Hp} {l T Z : Addr} {ds : List DomE} {x : Str} {zs : List Int} (D : Doms H l ds) (hT : H T = some (.tup [V.str x, V.ref Z])) (hZ : H Z = some (.lst (zs.map V.int))) (nZ : Z ≠ l) :
    Doms (upd H l (.lst ((ds.map fun d => V.ref d.1) ++ [V.ref T]))) l (ds ++ [(T, x, Z, zs)]) := by
  have tl : ∀ {c : Addr} {vs : List V}, H c = some (.tup vs) → c ≠ l := fun h z => by rw [z, D.lst] at h; cases h
  refine ⟨by rw [upd_same, List.map_append]; rfl, fun d hd => ?_, fun d hd => ?_⟩
  · rcases List.mem_append.mp hd with h | h
    · rw [upd_ne (tl (D.tup d h))]
      exact D.tup d h
    · rw [List.mem_singleton.mp h, upd_ne (tl hT)]
      exact hT
  · rcases List.mem_append.mp hd with h | h
    · have q := D.side d h
      have : d.2.2.1 ≠ l := fun z => by
        rw [z, D.lst] at q
        have e := refs_ints (HO.lst.inj (Option.some.inj q))
        rw [e] at h
        cases h
      rw [upd_ne this]
      exact q
    · rw [List.mem_singleton.mp h, upd_ne nZ]
      exact hZ
theorem with_restA {α : Type} {R : α → Hp → Prop} {G : Prop} (C : α → Hp → Prop) (r : ∀ a H, C a H → R a H) (g : (∀ a H, C a H → R a H) → G) : G := g r
section
variable {P : Program} {w : World} {K : PySem.W.Frag} {mg : Str → Option Value} {base : Heap}
abbrev sDoms : Stmt := topS 32
abbrev nDoms : List Str := ["_law_stream_here", "_law_names_here", "_law_pool_here", "_law_most", "_law_domains_here", "_law_name", "_law_side", "_law_value"]
theorem scDoms : FnScope nDoms ["_law_stream_here", "_law_names_here", "_law_pool_here", "_law_most"] (defScope sDoms) := ⟨rfl, rfl, rfl, by decide +kernel, rfl, by decide +kernel, by decide +kernel⟩
def spDoms : Sp := fun vs H Q _ => ∃ (p nm pl : Addr) (xs : List Str) (ns : List Int) (m : Nat), vs = [.ref p, .ref nm, .ref pl, .int (m : Int)] ∧ Strm H p ∧ H nm = some (.lst (xs.map V.str)) ∧ H pl = some (.lst (ns.map V.int)) ∧ p ≠ nm ∧ p ≠ pl ∧ Srt ns ∧ 1 ≤ ns.length ∧ ns.length ≤ 100 ∧ xs.length ≤ 100 ∧
  ∀ (H' : Hp) (l : Addr) (ds : List DomE), Keep p H H' → H l = none → Strm H' p → Doms H' l ds → ds.map (·.2.1) = xs → (∀ d ∈ ds, Srt d.2.2.2 ∧ d.2.2.2.length ≤ max m 1 ∧ H d.1 = none ∧ H d.2.2.1 = none ∧ ∀ v ∈ d.2.2.2, v ∈ ns) → (ds.map (·.2.2.1)).Nodup → Q (.ref l) H'
theorem ok_doms {f fD : Addr} {fd fdD : FuncData} (F : Fun K "_law_domains" "_law_domains" sDoms f fd) (B : Bt mg) (D : Call P w K mg base 1 "_law_next" fD fdD ["_law_stream_here", "_law_size"] spDraw) :
    FnOk P w K mg base CX0 2 f fd ["_law_stream_here", "_law_names_here", "_law_pool_here", "_law_most"] spDoms := by
  refine F.ok scDoms (fun vs H Q E h => ?_) (fun cdv A outer s H vs Q E hr h => ?_)
  · obtain ⟨p, nm, pl, xs, ns, m, rfl, _⟩ := h
    rfl
  · obtain ⟨p, nm, pl, xs, ns, m, rfl, hp, enm, epl, pnm, ppl, so, n1, nl, xl, q⟩ := h
    have nd := scDoms.nd
    refine ⟨_, pss_cons (ps_set (i := 4) nd rfl (.inl rfl) (pe_lst pa_nil))
      (pss_cons (ps_for PassesOwn.never rfl (pi_list (pv 1)) (pg_name (i := 5) nd rfl (.inl rfl))
        (pss_cons (ps_set (i := 6) nd rfl (.inl rfl) (pe_slice sl_list (pe_lc (own := [("_law_value", 7)]) (g := gName 7) (te := tVar 7) rfl nd (pi_list (pv 2)) (blkOk_by (N := nDoms) (sc := defScope sDoms) (by decide +kernel)) (fun _ _ _ _ _ => pg_name (i := 7) nd rfl (Or.inl rfl))
            (fun _ _ _ _ _ => pts_one (pt_cmpR op_gt (pe_call D.ok hr (by rfl) D.at_ D.kp D.bd .nil pass0 (pa_cons (pv 0) (pa_cons pe_int pa_nil))) pe_int (nomark _))) (fun _ _ _ _ _ => pv 7)) po_none (po_some (pv 3))))
        (pss_cons (ps_if (pt_cmpR op_eq (pe_callB call_len_seq (by rfl) B.len PySem.boot_len (pa_cons (pv 6) pa_nil)) pe_int rfl)
          (pss_one (ps_set (i := 6) nd rfl (.inl rfl) (pe_lst (pa_cons (pe_ix ix_list (pv 2) (pe_call D.ok hr (by rfl) D.at_ D.kp D.bd .nil pass0 (pa_cons (pv 0) (pa_cons (pe_callB call_len_seq (by rfl) B.len PySem.boot_len (pa_cons (pv 2) pa_nil)) pa_nil))) (fun _ _ => rfl)) pa_nil)))) pss_nil)
        (pss_one (ps_expr (pe_bm PySem.F.plainAttrs_list PySem.F.slot_list_append PySem.F.type_list_append mt_append (pv 4) (pa_cons (pe_tup (pa_cons (pv 5) (pa_cons
          (pe_slice sl_list (pv 6) po_none (po_some (pe_op op_mul (pe_callB call_len_seq (by rfl) B.len PySem.boot_len (pa_cons (pv 6) pa_nil))
            (pe_callTy call_int1 (by rfl) B.int PyProof.Rows.boot_int (pa_cons (pe_cmpR op_ne (pe_call D.ok hr (by rfl) D.at_ D.kp D.bd .nil pass0 (pa_cons (pv 0) (pa_cons pe_int pa_nil))) pe_int (nomark _)) pa_nil))))) pa_nil))) pa_nil)))))))
      (pss_one (ps_ret (pv 4)))), ?_⟩
    refine ⟨by show 0 ≤ sizeLine; decide, fun l nl0 => ?_⟩
    have npl : p ≠ l := fun z => hp.some (z ▸ nl0)
    have hpn : H p ≠ none := hp.some
    refine ⟨.ref nm, rfl, nm, rfl, ⟨_, sl_map (same_new nl0 _ _ enm)⟩, for_list (xs := xs.map V.str) (fun i σ H' => ∃ (ds : List DomE) (y5 y6 : Option V), σ = [some (.ref p), some (.ref nm), some (.ref pl), some (.int (m : Int)), some (.ref l), y5, y6, none] ∧ Keep p H H' ∧ Strm H' p ∧ Doms H' l ds ∧ ds.map (·.2.1) = xs.take i ∧ (∀ d ∈ ds, Srt d.2.2.2 ∧ d.2.2.2.length ≤ max m 1 ∧ H d.1 = none ∧ H d.2.2.1 = none ∧ ∀ v ∈ d.2.2.2, v ∈ ns) ∧ (ds.map (·.2.2.1)).Nodup)
      ⟨[], none, none, rfl, (Keep.refl p H).at_ nl0, hp.upd npl, ⟨upd_same, (fun _ h => nomatch h), (fun _ h => nomatch h)⟩, rfl, (fun _ h => nomatch h), List.Pairwise.nil⟩ (fun i σ H' _ h => by obtain ⟨ds, y5, y6, _, k, _⟩ := h; exact sl_map (k _ _ pnm.symm enm)) ?_ ?_⟩
    · rintro i x σ H' hx ⟨ds, y5, y6, rfl, kp, st, dm, keys, ok, inj⟩
      rw [List.getElem?_map] at hx
      obtain ⟨x, hv, rfl⟩ := Option.map_eq_some_iff.mp hx
      have hi := (List.getElem?_eq_some_iff.mp hv).1
      have ld : ds.length = i := by
        have := congrArg List.length keys
        rw [List.length_map, List.length_take] at this
        omega
      have er : H' pl = some (.lst (ns.map V.int)) := kp _ _ ppl.symm epl
      refine ⟨.ref pl, rfl, pl, rfl, ⟨_, sl_map er⟩, fun R nR => ?_⟩
      have npR : p ≠ R := fun z => st.some (z ▸ nR)
      have apart : ∀ d ∈ ds, d.1 ≠ p ∧ d.2.2.1 ≠ p := fun d hd => ⟨fun z => hpn (z ▸ (ok d hd).2.2.1), fun z => hpn (z ▸ (ok d hd).2.2.2.1)⟩
      refine lc_list (xs := ns.map V.int) (fun j H1 => Keep p H' H1 ∧ Strm H1 p ∧ ∃ ms : List Int, H1 R = some (.lst (ms.map V.int)) ∧ ms.Sublist (ns.take j)) ?_ ?_ ?_ ?_
      · exact ⟨(Keep.refl p H').at_ nR, st.upd npR, [], upd_same, List.Sublist.refl _⟩
      · rintro j H1 _ ⟨k, _⟩
        exact sl_map (k _ _ ppl.symm er)
      · rintro j v H1 hv1 ⟨k1, st1, ms, eR, sub⟩
        rw [List.getElem?_map] at hv1
        obtain ⟨v, hv2, rfl⟩ := Option.map_eq_some_iff.mp hv1
        have hj := (List.getElem?_eq_some_iff.mp hv2).1
        have len := sub.length_le
        rw [List.length_take] at len
        refine ⟨rfl, .ref p, rfl, p, 4, rfl, st1, by decide, by decide, fun H2 e o2 st2 e0 e1 => ?_⟩
        refine ⟨e, 0, rfl, rfl, _, rfl, ?_⟩
        have eR2 : H2 R = some (.lst (ms.map V.int)) := (o2 R npR.symm).trans eR
        have tk : ns.take (j + 1) = ns.take j ++ [v] := by rw [List.take_add_one, hv2]; rfl
        refine ite2 (fun _ => ?_) (fun _ => ?_)
        · refine ⟨.int v, rfl, _, eR2, ?_, fun b o hb e => ?_, st2.upd npR, ms ++ [v], by rw [upd_same, List.map_append]; rfl, by rw [tk]; exact sub.append (List.Sublist.refl _)⟩
          · rw [List.length_map]
            exact small1000 (by omega)
          · have : b ≠ R := fun z => by rw [z, nR] at e; cases e
            rw [upd_ne this]
            exact (k1.oth o2) b o hb e
        · exact ⟨k1.oth o2, st2, ms, eR2, by rw [tk]; exact sub.trans (List.sublist_append_left _ _)⟩
      · rintro H1 ⟨k1, st1, ms, eR, sub⟩
        rw [List.length_map, List.take_length] at sub
        have K1 : Keep p H H1 := kp.trans k1
        have nR0 : H R = none := kp.free st nR
        have dm1 : Doms H1 l ds := dm.keep k1 npl.symm apart
        refine' with_restA (fun S' H3 => ∃ ts : List Int, Keep p H H3 ∧ Strm H3 p ∧ Doms H3 l ds ∧ H3 S' = some (.lst (ts.map V.int)) ∧ H S' = none ∧ Srt ts ∧ ts.length ≤ max m 1 ∧ ts.length ≤ 100 ∧ ∀ v ∈ ts, v ∈ ns) ?r (fun rest => ⟨_, rfl, _, rfl, R, _, rfl, sl_map eR, fun S nS => ?k⟩)
        case' k =>
          have ec : cutV (ms.map V.int) none (some (m : Int)) = (ms.take m).map V.int := by rw [cutV_to, List.map_take]
          rw [ec]
          have sS := same_new (o := HO.lst ((ms.take m).map V.int)) nS
          have npS : p ≠ S := fun z => st1.some (z ▸ nS)
          have subS : (ms.take m).Sublist ns := (List.take_sublist m ms).trans sub
          have er2 : (upd H1 S (HO.lst ((ms.take m).map V.int))) pl = some (.lst (ns.map V.int)) := sS _ _ (k1 _ _ ppl.symm er)
          have eS0 := upd_same (H := H1) (a := S) (o := HO.lst ((ms.take m).map V.int))
          have stS := st1.upd (o := HO.lst ((ms.take m).map V.int)) npS
          have dmS := dm1.same sS
          have KS := K1.at_ (o := HO.lst ((ms.take m).map V.int)) (K1.free st1 nS)
          have nS0 : H S = none := K1.free st1 nS
          generalize upd H1 S (HO.lst ((ms.take m).map V.int)) = G1 at er2 eS0 stS dmS KS ⊢
          clear sS
          refine ⟨.ref S, rfl, S, _, rfl, .inl (sl_map eS0), rfl, _, rfl, ite2 (fun c => ?g) (fun c => rest S G1 ?h)⟩
          case h =>
            refine ⟨ms.take m, KS, stS, dmS, eS0, nS0, so.sub subS, ?_, ?_, fun v hv => subS.subset hv⟩
            · rw [List.length_take]; omega
            · have := subS.length_le; omega
          case g =>
            refine ⟨.ref pl, rfl, .ref p, rfl, .ref pl, rfl, pl, _, rfl, .inl (sl_map er2), p, _, rfl, stS, ?_, ?_, fun H2 e o2 st2 e0 e1 => ?_⟩
            · rw [List.length_map]; omega
            · rw [List.length_map]; omega
            rw [List.length_map] at e1
            obtain ⟨e, rfl⟩ : ∃ n : Nat, e = (n : Int) := ⟨e.toNat, by omega⟩
            have he : e < ns.length := by omega
            have ge : (ns.map V.int)[e]? = some (.int ns[e]) := by rw [List.getElem?_map, List.getElem?_eq_getElem he]; rfl
            have er3 : H2 pl = some (.lst (ns.map V.int)) := (o2 pl ppl.symm).trans er2
            have K2 : Keep p H H2 := KS.oth o2
            have dm2 : Doms H2 l ds := dmS.keep ((Keep.refl p _).oth o2) npl.symm apart
            refine ⟨pl, _, _, .int ns[e], rfl, rfl, sl_map er3, atI_nat (j := e) ge, by show 1 ≤ sizeLine; decide, fun Z nZ => rest Z _ ⟨[ns[e]], K2.at_ (K2.free st2 nZ), st2.upd (fun z => st2.some (z ▸ nZ)), dm2.same (same_new nZ), upd_same, K2.free st2 nZ, List.pairwise_singleton _ _, by show 1 ≤ max m 1; omega, by show 1 ≤ 100; omega, fun v hv => ?_⟩⟩
            rw [List.mem_singleton.mp hv]
            exact List.getElem_mem he
        case r =>
          rintro S' H3 ⟨ts, K3, st3, dm3, eS, nS', soT, l1, l2, mem⟩
          have npS' : p ≠ S' := fun z => hpn (z ▸ nS')
          refine ⟨.ref l, rfl, .inl ⟨rfl, _, sl_map dm3.lst⟩, .str x, rfl, .ref S', rfl, .ref S', rfl, S', _, rfl, .inl (sl_map eS), .ref p, rfl, p, 60, rfl, st3, by decide, by decide, fun H4 e o4 st4 e0 e1 => ?_⟩
          have eS4 : H4 S' = some (.lst (ts.map V.int)) := (o4 S' npS'.symm).trans eS
          have tail : ∀ (b : Bool), -(2 ^ 64) < (if b = true then (1 : Int) else 0) ∧ (if b = true then (1 : Int) else 0) < 2 ^ 64 := fun b => by cases b <;> decide
          refine ⟨rfl, .inr ⟨_, rfl, _, _, rfl, rfl, .inr (tail _), _, rfl, S', _, rfl, sl_map eS4, fun Z nZ => ?_⟩⟩
          generalize (!decide (V.int e = V.int 7)) = bit
          have ez : cutV (ts.map V.int) none (some (((ts.map V.int).length : Int) * (if bit = true then (1 : Int) else 0))) = ((if bit = true then ts else []).map V.int) := by
            cases bit with
            | true =>
              rw [if_pos rfl, if_pos rfl, Int.mul_one, cutV_to, List.take_length]
            | false =>
              rw [if_neg Bool.false_ne_true, if_neg Bool.false_ne_true, Int.mul_zero]
              exact cutV_to _ 0
          rw [ez]
          have hz : (if bit = true then ts else []).Sublist ts := by cases bit with
            | true => exact List.Sublist.refl _
            | false => exact List.nil_sublist _
          generalize (if bit = true then ts else []) = zs at hz
          have K4 := K3.oth o4
          have npZ : p ≠ Z := fun z => st4.some (z ▸ nZ)
          have sZ := same_new (o := HO.lst (zs.map V.int)) nZ
          have nZ0 : H Z = none := K4.free st4 nZ
          have dm4 : Doms H4 l ds := dm3.keep ((Keep.refl p _).oth o4) npl.symm apart
          refine ⟨by show 2 ≤ sizeLine; decide, fun T nT => ?_⟩
          have npT : p ≠ T := fun z => st4.some (z ▸ sZ.free nT)
          have sT := same_new (o := HO.tup [V.str x, V.ref Z]) nT
          have nT0 : H T = none := K4.free st4 (sZ.free nT)
          have nZl : Z ≠ l := fun z => by rw [z, dm4.lst] at nZ; cases nZ
          have dmT := (dm4.same sZ).same sT
          have hsub := hz.length_le
          have newZ : Z ∉ ds.map (·.2.2.1) := fun z => by
            obtain ⟨d, hd, e⟩ := List.mem_map.mp z
            have e' : d.2.2.1 = Z := e
            have := dm4.side d hd
            rw [e', nZ] at this
            cases this
          refine ⟨l, _, _, rfl, rfl, dmT.lst, ?_, ds ++ [(T, x, Z, zs)], _, _, rfl, ((K4.at_ nZ0).at_ nT0).at_ nl0, ((st4.upd npZ).upd npT).upd npl, dmT.snoc upd_same (sT _ _ upd_same) nZl, ?_, fun d hd => ?_, ?_⟩
          · rw [List.length_map]
            exact small1000 (by omega)
          · rw [List.map_append, keys, List.take_add_one, hv]
            rfl
          · rcases List.mem_append.mp hd with h | h
            · exact ok d h
            · rw [List.mem_singleton.mp h]
              exact ⟨soT.sub hz, Nat.le_trans hsub l1, nT0, nZ0, fun v hv => mem v (hz.subset hv)⟩
          · rw [List.map_append]
            exact nd_snoc inj newZ
    · rintro σ H' ⟨ds, y5, y6, rfl, kp, st, dm, keys, ok, inj⟩
      rw [List.length_map, List.take_length] at keys
      exact ⟨_, rfl, q H' l ds kp nl0 st dm keys ok inj⟩
end
end K22
set_option Elab.async false
set_option linter.all false
set_option maxRecDepth 100000
set_option maxHeartbeats 4000000
/-! Exceptions of own classes with fields: made, raised while a dict is walked, caught, asked for their class. -/
namespace CsX
open PySem PySem.Spec PyProof.Rows L2
/-- a block that is not reached -/
theorem pss_any {X : Cx} {l : List Stmt} : PSs X l (fun _ _ _ => False) := ⟨fun _ _ _ _ _ _ h => h.elim⟩
/-- a raise while the thing at d is locked -/
theorem Takes.lock {X : Cx} {W : WX} {d : Addr} (tk : Takes X W) (hn : ∀ o' u', X.H_0 d ≠ some (.frz o' u')) : Takes X (fun cls dd σ H => ∃ od u, H d = some (.frz od u) ∧ W cls dd σ (upd H d u)) :=
  fun u s' ⟨a, B, sI, pins, σ, H, cls, dd, e, I, nb, up, sky, na, os, ag, od, uu, hd, w⟩ =>
    tk u s' ⟨a, B, sI, pins, σ, upd H d uu, cls, dd, e, I.unlock hd hn, nb, up, sky, (by rw [upd_ne (fun z => by rw [z, hd] at na; cases na)]; exact na), os, ag, w⟩
end CsX
set_option Elab.async false
set_option linter.all false
set_option maxRecDepth 100000
set_option maxHeartbeats 4000000
namespace K22
open PySem PySem.Spec PyProof.Rows L2 Cs CsX
/-! ### facts of the heap, for grind; small helpers -/
@[grind =] theorem g_upd (H : Hp) (a b : Addr) (o : HO) : upd H a o b = if b = a then some o else H b := rfl
@[grind =] theorem g_same (H H' : Hp) : Same H H' ↔ (∀ a o, H a = some o → H' a = some o) ∧ ∀ a, H' a = none → H a = none := ⟨fun s => ⟨s, fun a h => s.free h⟩, fun h => h.1⟩
@[grind =] theorem g_keep (p : Addr) (H H' : Hp) : Keep p H H' ↔ (∀ a o, a ≠ p → H a = some o → H' a = some o) ∧ ∀ a, a ≠ p → H' a = none → H a = none := ⟨fun s => ⟨s, fun a hp h => by
  cases c : H a with
  | none => rfl
  | some o => rw [s a o hp c] at h; cases h⟩, fun h => h.1⟩
@[grind =] theorem g_oth (p : Addr) (H H' : Hp) : Oth p H H' ↔ ∀ a, a ≠ p → H' a = H a := Iff.rfl
@[grind =] theorem g_strm (H : Hp) (p : Addr) : Strm H p ↔ ∃ x y z : Int, H p = some (.lst [.int x, .int y, .int z]) := Iff.rfl
theorem g_new {H : Hp} {q : Addr} {o : HO} (n : H q = none) : Same H (upd H q o) := same_new n
grind_pattern g_new => upd H q o
@[grind =] theorem g_keepL (as : List Addr) (H H' : Hp) : KeepL as H H' ↔ ∀ b o, b ∉ as → H b = some o → H' b = some o := Iff.rfl
theorem ite_both {A B : Prop} {c : Bool} (h1 : c = true → A) (h2 : c = false → B) : if c = true then A else B := by
  cases c with
  | true => rw [if_pos rfl]; exact h1 rfl
  | false => rw [if_neg (by decide)]; exact h2 rfl
theorem ixN_nat {n j : Nat} (h : j < n) : ixN n (j : Int) = some j := by
  unfold ixN
  rw [if_pos (by omega), if_pos (by omega)]; simp
theorem with_restS {R : L2.St → Hp → Prop} {G : Prop} (C : L2.St → Hp → Prop) (r : ∀ σ H, C σ H → R σ H) (g : (∀ σ H, C σ H → R σ H) → G) : G := g r
theorem nd_ix {α : Type} {l : List α} (nd : l.Nodup) {i j : Nat} {x : α} (hi : l[i]? = some x) (hj : l[j]? = some x) : i = j :=
  (List.getElem?_inj (List.getElem?_eq_some_iff.mp hi).1 nd).mp (hi.trans hj.symm)
theorem not_take {α : Type} {l : List α} (nd : l.Nodup) {i : Nat} {x : α} (hi : l[i]? = some x) : x ∉ l.take i := fun z => by
  obtain ⟨j, hj⟩ := List.mem_iff_getElem?.mp z
  rw [List.getElem?_take] at hj
  split at hj
  · next c => exact absurd (nd_ix nd hj hi) (by omega)
  · cases hj
theorem filter_snoc {α : Type} {s : List α} {j : Nat} {v : α} {p : α → Bool} (h : s[j]? = some v) : (s.take (j + 1)).filter p = (s.take j).filter p ++ (if p v = true then [v] else []) := by
  rw [List.take_add_one, h, List.filter_append]
  congr 1
  show List.filter p [v] = _
  rw [List.filter_cons] <;> rfl
theorem filter_len {α : Type} (s : List α) (p : α → Bool) (j : Nat) : ((s.take j).filter p).length ≤ s.length := by
  have h1 := List.length_filter_le p (s.take j)
  rw [List.length_take] at h1
  omega
theorem take_snoc {α : Type} {s : List α} {j : Nat} {v : α} (h : s[j]? = some v) : s.take (j + 1) = s.take j ++ [v] := by
  rw [List.take_add_one, h] <;> rfl
theorem pe_or {X : Cx} {e : Expr} {t u : TE} (a : PE X e t) (b : PE X e u) : PE X e (fun σ H Q => t σ H Q ∨ u σ H Q) :=
  ⟨fun pins s σ H Q I h => h.elim (fun h => a.run pins s σ H Q I h) fun h => b.run pins s σ H Q I h⟩
/-! ### dicts of values -/
def putA (A : List (Str × Int)) (x : Str) (v : Int) : List (Str × Int) := if (A.any fun e => decide (e.1 = x)) = true then A.map (fun e => if e.1 = x then (x, v) else e) else A ++ [(x, v)]
theorem any_int (A : List (Str × Int)) (x : Str) : ((intK A).any fun kv => decide (kv.1 = Sum.inr x)) = A.any fun e => decide (e.1 = x) := by
  unfold intK
  rw [List.any_map]
  congr 1
  funext e
  simp
theorem putK_int (A : List (Str × Int)) (x : Str) (v : Int) : putK (intK A) (.inr x) (V.int v) = intK (putA A x v) := by
  unfold putK putA
  rw [any_int]
  by_cases h : (A.any fun e => decide (e.1 = x)) = true
  · rw [if_pos h, if_pos h]
    unfold intK
    rw [List.map_map, List.map_map]
    congr 1
    funext e
    by_cases z : e.1 = x
    · simp [z]
    · simp [z]
  · rw [if_neg h, if_neg h]
    unfold intK
    rw [List.map_append]
    rfl
theorem anyA {A : List (Str × Int)} {x : Str} : (A.any fun e => decide (e.1 = x)) = true ↔ x ∈ A.map (·.1) := by
  rw [List.any_eq_true, List.mem_map]
  constructor
  · rintro ⟨e, he, h⟩; exact ⟨e, he, of_decide_eq_true h⟩
  · rintro ⟨e, he, h⟩; exact ⟨e, he, decide_eq_true h⟩
theorem putA_new {A : List (Str × Int)} {x : Str} {v : Int} (h : x ∉ A.map (·.1)) : putA A x v = A ++ [(x, v)] := if_neg fun z => h (anyA.mp z)
theorem putA_keys {A : List (Str × Int)} {x : Str} {v : Int} (h : x ∈ A.map (·.1)) : (putA A x v).map (·.1) = A.map (·.1) := by
  unfold putA
  rw [if_pos (anyA.mpr h), List.map_map]
  refine List.map_congr_left fun e _ => ?_
  show (if e.1 = x then (x, v) else e).1 = e.1
  split
  · next z => exact z.symm
  · rfl
theorem aget_cons (e : Str × Int) (A : List (Str × Int)) (y : Str) : aget (e :: A) y = if e.1 = y then some e.2 else aget A y := by
  unfold aget
  rw [List.find?_cons]
  by_cases h : e.1 = y
  · simp [h]
  · simp [h]
theorem aget_app {A : List (Str × Int)} {x : Str} {v : Int} (h : x ∉ A.map (·.1)) (y : Str) : aget (A ++ [(x, v)]) y = if x = y then some v else aget A y := by
  induction A with
  | nil => rw [List.nil_append, aget_cons] <;> rfl
  | cons e A ih =>
    rw [List.cons_append, aget_cons, aget_cons, ih fun z => h (List.mem_cons_of_mem _ z)]
    by_cases c : e.1 = y
    · rw [if_pos c, if_pos c]
      by_cases d : x = y
      · exact absurd (by rw [d, ← c]; exact List.mem_cons_self) h
      · rw [if_neg d]
    · rw [if_neg c, if_neg c]
theorem aget_rep (x : Str) (v : Int) (y : Str) : ∀ A : List (Str × Int), aget (A.map fun e => if e.1 = x then (x, v) else e) y = if x = y then (if x ∈ A.map (·.1) then some v else none) else aget A y
  | [] => by split <;> rfl
  | e :: A => by
    rw [List.map_cons, aget_cons, aget_cons, aget_rep x v y A]
    by_cases c : e.1 = x
    · rw [if_pos c]
      by_cases d : x = y
      · rw [if_pos d, if_pos d, if_pos (by rw [List.map_cons, c]; exact List.mem_cons_self)]
      · have h1 : ¬ e.1 = y := fun z => d (c.symm.trans z)
        simp [d, h1]
    · rw [if_neg c]
      by_cases d : x = y
      · have h1 : ¬ e.1 = y := fun z => c (z.trans d.symm)
        rw [if_neg h1, if_pos d, if_pos d]
        have : x ∈ (e :: A).map (·.1) ↔ x ∈ A.map (·.1) := by
          rw [List.map_cons, List.mem_cons]
          exact ⟨fun h => h.elim (fun z => absurd z.symm c) id, .inr⟩
        by_cases m : x ∈ A.map (·.1)
        · rw [if_pos m, if_pos (this.mpr m)]
        · rw [if_neg m, if_neg fun z => m (this.mp z)]
      · rw [if_neg d, if_neg d]
theorem aget_put {A : List (Str × Int)} {x : Str} {v : Int} (y : Str) : aget (putA A x v) y = if x = y then some v else aget A y := by
  by_cases h : x ∈ A.map (·.1)
  · unfold putA
    rw [if_pos (anyA.mpr h), aget_rep, if_pos h]
  · rw [putA_new h, aget_app h]
theorem aget_mem {A : List (Str × Int)} {x : Str} : (aget A x).isSome = true ↔ x ∈ A.map (·.1) := by
  induction A with
  | nil => simp [aget]
  | cons e A ih =>
    rw [aget_cons, List.map_cons, List.mem_cons, ← ih]
    by_cases c : e.1 = x
    · rw [if_pos c]; simp [c]
    · rw [if_neg c]; simp [Ne.symm c]
/-- a dict of values -/
structure Vd (H : Hp) (d : Addr) (A : List (Str × Int)) : Prop where
  un : H d = some (.dK (intK A))
  nd : (A.map (·.1)).Nodup
  few : A.length ≤ 40
theorem Vd.same {H H' : Hp} {d : Addr} {A : List (Str × Int)} (B : Vd H d A) (s : Same H H') : Vd H' d A := ⟨s _ _ B.un, B.nd, B.few⟩
theorem Vd.ax {H : Hp} {d : Addr} {A : List (Str × Int)} (B : Vd H d A) : Ax H d A := ⟨.inl B.un⟩
theorem intK_len (A : List (Str × Int)) : (intK A).length = A.length := by unfold intK; rw [List.length_map]
theorem aget_iff {A : List (Str × Int)} (nd : (A.map (·.1)).Nodup) (x : Str) (v : Int) : aget A x = some v ↔ (x, v) ∈ A := by
  induction A with
  | nil => simp [aget]
  | cons e A ih =>
    obtain ⟨n1, n2⟩ := List.nodup_cons.mp nd
    rw [aget_cons, List.mem_cons]
    by_cases c : e.1 = x
    · rw [if_pos c]
      constructor
      · intro h
        left
        have := Option.some.inj h
        rw [← c, ← this]
      · rintro (h | h)
        · rw [← h]
        · rw [← c] at h
          exact absurd (List.mem_map_of_mem (f := fun e : Str × Int => e.1) h) n1
    · rw [if_neg c, ih n2]
      constructor
      · exact .inr
      · rintro (h | h)
        · exact absurd (congrArg Prod.fst h).symm c
        · exact h
def SameA (L M : List (Str × Int)) : Prop := ∀ x, aget L x = aget M x
theorem SameA.keys {L M : List (Str × Int)} (s : SameA L M) {x : Str} (h : x ∈ L.map (·.1)) : x ∈ M.map (·.1) := by
  rw [← aget_mem] at h ⊢
  rw [← s x]
  exact h
theorem SameA.len {L M : List (Str × Int)} (s : SameA L M) (n1 : (L.map (·.1)).Nodup) (n2 : (M.map (·.1)).Nodup) : L.length = M.length := by
  have h1 := List.Nodup.length_le_of_subset n1 fun x hx => s.keys hx
  have h2 := List.Nodup.length_le_of_subset n2 fun x hx => SameA.keys (fun y => (s y).symm) hx
  rw [List.length_map, List.length_map] at h1 h2
  omega
theorem keysI {L : List (Str × Int)} {i : Nat} {k : Key} {v : V} (h : (intK L)[i]? = some (k, v)) : ∃ e, L[i]? = some e ∧ k = .inr e.1 ∧ v = .int e.2 := by
  unfold intK at h
  rw [List.getElem?_map] at h
  obtain ⟨e, he, q⟩ := Option.map_eq_some_iff.mp h
  exact ⟨e, he, (Prod.mk.inj q).1.symm, (Prod.mk.inj q).2.symm⟩
theorem all_repl (n : Nat) : (List.replicate n true).all id = true := by simp
theorem putA_mem {A : List (Str × Int)} {x y : Str} {v : Int} : y ∈ (putA A x v).map (·.1) ↔ y = x ∨ y ∈ A.map (·.1) := by
  rw [← aget_mem, aget_put, ← aget_mem]
  by_cases c : x = y
  · rw [if_pos c]; simp [c]
  · rw [if_neg c]; simp [Ne.symm c]
theorem putA_nd {A : List (Str × Int)} {x : Str} {v : Int} (nd : (A.map (·.1)).Nodup) : ((putA A x v).map (·.1)).Nodup := by
  by_cases h : x ∈ A.map (·.1)
  · rw [putA_keys h]; exact nd
  · rw [putA_new h, List.map_append]
    exact nd_snoc nd h
theorem putA_len (A : List (Str × Int)) (x : Str) (v : Int) : (putA A x v).length ≤ A.length + 1 := by
  unfold putA
  split
  · rw [List.length_map]; omega
  · rw [List.length_append] <;> exact Nat.le_refl _
end K22
set_option Elab.async false
set_option linter.all false
set_option maxRecDepth 100000
set_option maxHeartbeats 4000000
namespace K22
open PySem PySem.Spec PyProof.Rows L2 Cs CsX
/-! ### dicts with numbers as keys -/
section
variable {β : Type}
def zK (g : β → V) (L : List (Int × β)) : List (Key × V) := L.map fun e => (Sum.inl e.1, g e.2)
def zget (L : List (Int × β)) (v : Int) : Option β := (L.find? fun e => decide (e.1 = v)).map (·.2)
def putZ (L : List (Int × β)) (v : Int) (b : β) : List (Int × β) := if (L.any fun e => decide (e.1 = v)) = true then L.map (fun e => if e.1 = v then (v, b) else e) else L ++ [(v, b)]
theorem zget_cons (e : Int × β) (L : List (Int × β)) (v : Int) : zget (e :: L) v = if e.1 = v then some e.2 else zget L v := by
  unfold zget
  rw [List.find?_cons]
  by_cases h : e.1 = v
  · simp [h]
  · simp [h]
theorem zval (g : β → V) (v : Int) : ∀ L : List (Int × β), valV (zK g L) (.inl v) = (zget L v).map g
  | [] => rfl
  | e :: L => by
    have ih := zval g v L
    rw [zget_cons]
    unfold valV zK at *
    rw [List.map_cons, List.find?_cons]
    by_cases c : e.1 = v
    · simp [c]
    · rw [show decide ((Sum.inl e.1 : Key) = Sum.inl v) = false by simp [c], if_neg c]
      exact ih
theorem z_any (g : β → V) (L : List (Int × β)) (v : Int) : ((zK g L).any fun kv => decide (kv.1 = Sum.inl v)) = L.any fun e => decide (e.1 = v) := by
  unfold zK
  rw [List.any_map]
  congr 1
  funext e
  simp
theorem zput (g : β → V) (L : List (Int × β)) (v : Int) (b : β) : putK (zK g L) (.inl v) (g b) = zK g (putZ L v b) := by
  unfold putK putZ
  rw [z_any]
  by_cases h : (L.any fun e => decide (e.1 = v)) = true
  · rw [if_pos h, if_pos h]
    unfold zK
    rw [List.map_map, List.map_map]
    congr 1
    funext e
    by_cases z : e.1 = v
    · simp [z]
    · simp [z]
  · rw [if_neg h, if_neg h]
    unfold zK
    rw [List.map_append]
    rfl
theorem z_iff {L : List (Int × β)} {v : Int} : (L.any fun e => decide (e.1 = v)) = true ↔ v ∈ L.map (·.1) := by
  rw [List.any_eq_true, List.mem_map]
  constructor
  · rintro ⟨e, he, h⟩; exact ⟨e, he, of_decide_eq_true h⟩
  · rintro ⟨e, he, h⟩; exact ⟨e, he, decide_eq_true h⟩
theorem putZ_new {L : List (Int × β)} {v : Int} {b : β} (h : v ∉ L.map (·.1)) : putZ L v b = L ++ [(v, b)] := if_neg fun z => h (z_iff.mp z)
theorem zmem {L : List (Int × β)} {v : Int} : (zget L v).isSome = true ↔ v ∈ L.map (·.1) := by
  induction L with
  | nil => simp [zget]
  | cons e L ih =>
    rw [zget_cons, List.map_cons, List.mem_cons, ← ih]
    by_cases c : e.1 = v
    · rw [if_pos c]; simp [c]
    · rw [if_neg c]; simp [Ne.symm c]
theorem zget_at {L : List (Int × β)} (nd : (L.map (·.1)).Nodup) {i : Nat} {v : Int} {b : β} (h : L[i]? = some (v, b)) : zget L v = some b := by
  induction L generalizing i with
  | nil => cases h
  | cons e L ih =>
    obtain ⟨n1, n2⟩ := List.nodup_cons.mp nd
    rw [zget_cons]
    cases i with
    | zero =>
      rw [Option.some.inj h, if_pos rfl]
    | succ i =>
      rw [List.getElem?_cons_succ] at h
      have : e.1 ≠ v := fun z => n1 (List.mem_map.mpr ⟨(v, b), List.mem_of_getElem? h, z.symm⟩)
      rw [if_neg this]; exact ih n2 h
end
/-! ### who has taken a value -/
def tk (A : List (Str × Int)) (v : Int) : List Str := (A.filter fun e => decide (e.2 = v)).map (·.1)
def cnt (A : List (Str × Int)) (v : Int) : Nat := (tk A v).length
theorem cnt_cons (e : Str × Int) (A : List (Str × Int)) (v : Int) : cnt (e :: A) v = (if e.2 = v then 1 else 0) + cnt A v := by
  unfold cnt tk
  rw [List.filter_cons]
  by_cases c : e.2 = v
  · rw [if_pos (decide_eq_true c), if_pos c, List.map_cons, List.length_cons]; omega
  · rw [if_neg (by simpa using c), if_neg c]; omega
theorem cnt_app (A B : List (Str × Int)) (v : Int) : cnt (A ++ B) v = cnt A v + cnt B v := by
  unfold cnt tk
  rw [List.filter_append, List.map_append, List.length_append]
theorem tk_mem {A : List (Str × Int)} (nd : (A.map (·.1)).Nodup) {v : Int} {x : Str} : x ∈ tk A v ↔ aget A x = some v := by
  unfold tk
  rw [List.mem_map, aget_iff nd]
  constructor
  · rintro ⟨e, he, rfl⟩
    obtain ⟨h1, h2⟩ := List.mem_filter.mp he
    rw [← of_decide_eq_true h2]; exact h1
  · exact fun h => ⟨(x, v), List.mem_filter.mpr ⟨h, decide_eq_true rfl⟩, rfl⟩
theorem tk_nd {A : List (Str × Int)} (nd : (A.map (·.1)).Nodup) (v : Int) : (tk A v).Nodup := List.Pairwise.sublist (List.Sublist.map _ List.filter_sublist) nd
theorem cnt_rep {x : Str} {v u : Int} : ∀ {A : List (Str × Int)}, (A.map (·.1)).Nodup → x ∈ A.map (·.1) → cnt (A.map fun e => if e.1 = x then (x, v) else e) u + (if aget A x = some u then 1 else 0) = cnt A u + (if u = v then 1 else 0)
  | [], _, h => nomatch h
  | e :: A, nd, h => by
    obtain ⟨n1, n2⟩ := List.nodup_cons.mp nd
    rw [List.map_cons, cnt_cons, cnt_cons, aget_cons]
    by_cases c : e.1 = x
    · rw [if_pos c, if_pos c]
      have same : (A.map fun e => if e.1 = x then (x, v) else e) = A := by
        conv => rhs; rw [← List.map_id A]
        refine List.map_congr_left fun g hg => ?_
        have : g.1 ≠ x := fun z => n1 (by show e.1 ∈ _; rw [c, ← z]; exact List.mem_map_of_mem (f := fun e : Str × Int => e.1) hg)
        rw [if_neg this] <;> rfl
      rw [same]
      show (if v = u then 1 else 0) + cnt A u + (if some e.2 = some u then 1 else 0) = _
      by_cases a : e.2 = u
      · by_cases b : u = v
        · simp [a, b]
        · have : ¬ v = u := fun z => b z.symm
          simp [a, b, this]; omega
      · by_cases b : u = v
        · subst b; simp [a]; omega
        · have : ¬ v = u := fun z => b z.symm
          simp [a, b, this]
    · rw [if_neg c, if_neg c]
      rcases List.mem_cons.mp h with z | z
      · exact absurd z.symm c
      · have := cnt_rep (x := x) (v := v) (u := u) n2 z
        omega
theorem cnt_put {A : List (Str × Int)} (nd : (A.map (·.1)).Nodup) (x : Str) (v u : Int) : cnt (putA A x v) u + (if aget A x = some u then 1 else 0) = cnt A u + (if u = v then 1 else 0) := by
  by_cases h : x ∈ A.map (·.1)
  · unfold putA
    rw [if_pos (anyA.mpr h)]
    exact cnt_rep nd h
  · rw [putA_new h, cnt_app, cnt_cons]
    have : aget A x = none := by
      cases q : aget A x with
      | none => rfl
      | some v => exact absurd (aget_mem.mp (by rw [q] <;> rfl)) h
    rw [this]
    show cnt A u + ((if v = u then 1 else 0) + cnt [] u) + _ = _
    have z : cnt [] u = 0 := rfl
    rw [z]
    by_cases b : u = v
    · subst b; simp
    · have : ¬ v = u := fun z => b z.symm
      simp [b, this]
end K22
set_option Elab.async false
set_option linter.all false
set_option maxRecDepth 100000
set_option maxHeartbeats 4000000
namespace K22
open PySem PySem.Spec PyProof.Rows L2 Cs CsX
/-! ### the search -/
abbrev Sk := List (Int × Str)
section
variable (A : List (Str × Int)) (h : Int → Option Int) (S : Str → List Int)
def free (v : Int) : Bool := match h v with
  | none => true
  | some k => decide (((tk A v).length : Int) < k)
def seek (x : Str) (s : List Str × Sk) : List Int → (Sk × Int) ⊕ (List Str × Sk)
  | [] => .inr s
  | v :: vs => if v ∈ s.2.map (·.1) then seek x s vs else if free A h v = true then .inl (s.2 ++ [(v, x)], v) else seek x (s.1 ++ tk A v, s.2 ++ [(v, x)]) vs
inductive Run : List Str × Sk → Nat → (Sk × Int) ⊕ List Str → Prop
  | stop {c : List Str} {k : Sk} {p : Nat} : c.length ≤ p → Run (c, k) p (.inr c)
  | found {c : List Str} {k : Sk} {p : Nat} {x : Str} {r : Sk × Int} : c[p]? = some x → seek A h x (c, k) (S x) = .inl r → Run (c, k) p (.inl r)
  | more {c : List Str} {k : Sk} {p : Nat} {x : Str} {s : List Str × Sk} {r : (Sk × Int) ⊕ List Str} : c[p]? = some x → seek A h x (c, k) (S x) = .inr s → Run s (p + 1) r → Run (c, k) p r
inductive Up (sk : Sk) : List (Str × Int) → Option Int → List (Str × Int) → Prop
  | done {M : List (Str × Int)} : Up sk M none M
  | step {M M' : List (Str × Int)} {v : Int} {x : Str} : zget sk v = some x → Up sk (putA M x v) (aget A x) M' → Up sk M (some v) M'
inductive Wit (x : Str) : List (Str × Int) ⊕ List Str → Prop
  | crowd {c : List Str} : Run A h S ([x], []) 0 (.inr c) → Wit x (.inr c)
  | fit {k : Sk} {v : Int} {M : List (Str × Int)} : Run A h S ([x], []) 0 (.inl (k, v)) → Up A k A (some v) M → Wit x (.inl M)
end
inductive Grow (h : Int → Option Int) (S : Str → List Int) : List Str → List (Str × Int) → List (Str × Int) ⊕ List Str → Prop
  | nil {A : List (Str × Int)} : Grow h S [] A (.inl A)
  | skip {A : List (Str × Int)} {x : Str} {xs : List Str} {r : List (Str × Int) ⊕ List Str} : x ∈ A.map (·.1) → Grow h S xs A r → Grow h S (x :: xs) A r
  | fit {A M : List (Str × Int)} {x : Str} {xs : List Str} {r : List (Str × Int) ⊕ List Str} : x ∉ A.map (·.1) → Wit A h S x (.inl M) → Grow h S xs M r → Grow h S (x :: xs) A r
  | crowd {A : List (Str × Int)} {x : Str} {xs : List Str} {c : List Str} : x ∉ A.map (·.1) → Wit A h S x (.inr c) → Grow h S (x :: xs) A (.inr c)
section
variable {A : List (Str × Int)} {h : Int → Option Int} {S : Str → List Int}
theorem Run.one {s : List Str × Sk} {p : Nat} {r q : (Sk × Int) ⊕ List Str} (a : Run A h S s p r) (b : Run A h S s p q) : r = q := by
  induction a with
  | stop h1 =>
    cases b with
    | stop h2 => rfl
    | found h2 _ => have := (List.getElem?_eq_some_iff.mp h2).1; omega
    | more h2 _ _ => have := (List.getElem?_eq_some_iff.mp h2).1; omega
  | found h1 h2 =>
    cases b with
    | stop h3 => have := (List.getElem?_eq_some_iff.mp h1).1; omega
    | found h3 h4 =>
      obtain rfl := Option.some.inj (h1.symm.trans h3)
      rw [h2] at h4; rw [Sum.inl.inj h4]
    | more h3 h4 _ =>
      obtain rfl := Option.some.inj (h1.symm.trans h3)
      rw [h2] at h4; cases h4
  | more h1 h2 _ ih =>
    cases b with
    | stop h3 => have := (List.getElem?_eq_some_iff.mp h1).1; omega
    | found h3 h4 =>
      obtain rfl := Option.some.inj (h1.symm.trans h3)
      rw [h2] at h4; cases h4
    | more h3 h4 r2 =>
      obtain rfl := Option.some.inj (h1.symm.trans h3)
      rw [h2] at h4
      obtain rfl := Sum.inr.inj h4
      exact ih r2
theorem Up.one {sk : Sk} {M N N' : List (Str × Int)} {o : Option Int} (a : Up A sk M o N) (b : Up A sk M o N') : N = N' := by
  induction a with
  | done => cases b; rfl
  | step h1 _ ih =>
    cases b with
    | step h2 r2 =>
      obtain rfl := Option.some.inj (h1.symm.trans h2)
      exact ih r2
theorem Wit.one {x : Str} {r q : List (Str × Int) ⊕ List Str} (a : Wit A h S x r) (b : Wit A h S x q) : r = q := by
  cases a with
  | crowd r1 =>
    cases b with
    | crowd r2 => rw [Sum.inr.inj (r1.one r2)]
    | fit r2 _ => cases r1.one r2
  | fit r1 u1 =>
    cases b with
    | crowd r2 => cases r1.one r2
    | fit r2 u2 =>
      have := Sum.inl.inj (r1.one r2)
      obtain ⟨rfl, rfl⟩ := Prod.mk.inj this
      rw [u1.one u2]
theorem Grow.one {xs : List Str} {r q : List (Str × Int) ⊕ List Str} (a : Grow h S xs A r) (b : Grow h S xs A q) : r = q := by
  induction a with
  | nil => cases b; rfl
  | skip h1 _ ih =>
    cases b with
    | skip _ r2 => exact ih r2
    | fit h2 _ _ => exact absurd h1 h2
    | crowd h2 _ => exact absurd h1 h2
  | fit h1 w1 _ ih =>
    cases b with
    | skip h2 _ => exact absurd h2 h1
    | fit _ w2 r2 =>
      obtain rfl := Sum.inl.inj (w1.one w2)
      exact ih r2
    | crowd _ w2 => cases w1.one w2
  | crowd h1 w1 =>
    cases b with
    | skip h2 _ => exact absurd h2 h1
    | fit _ w2 _ => cases w1.one w2
    | crowd _ w2 => rw [Sum.inr.inj (w1.one w2)]
end
/-! ### what holds -/
structure FitOk (ns : List Str) (S : Str → List Int) (h : Int → Option Int) (A : List (Str × Int)) : Prop where
  nd : (A.map (·.1)).Nodup
  sub : ∀ x ∈ A.map (·.1), x ∈ ns
  inS : ∀ x v, aget A x = some v → v ∈ S x
  le : ∀ v k, h v = some k → (cnt A v : Int) ≤ k
/-- who seeks which value -/
structure SkE (A : List (Str × Int)) (S : Str → List Int) (ns : List Str) (nm : Str) (sk : Sk) : Prop where
  nd : (sk.map (·.1)).Nodup
  ent : ∀ (i : Nat) (v : Int) (x : Str), sk[i]? = some (v, x) → x ∈ ns ∧ v ∈ S x ∧ (x = nm ∨ ∃ (j : Nat) (w : Int) (y : Str), j < i ∧ aget A x = some w ∧ sk[j]? = some (w, y))
def tot (A : List (Str × Int)) : List Int → Nat
  | [] => 0
  | v :: vs => cnt A v + tot A vs
theorem tot_app (A : List (Str × Int)) (v : Int) : ∀ vs, tot A (vs ++ [v]) = tot A vs + cnt A v
  | [] => by show cnt A v + 0 = 0 + cnt A v; omega
  | u :: vs => by show cnt A u + tot A (vs ++ [v]) = cnt A u + tot A vs + cnt A v; rw [tot_app A v vs]; omega
structure SkOk (A : List (Str × Int)) (h : Int → Option Int) (S : Str → List Int) (ns : List Str) (nm : Str) (c : List Str) (sk : Sk) : Prop extends SkE A S ns nm sk where
  cnd : c.Nodup
  csub : ∀ x ∈ c, x ∈ ns
  chd : nm ∈ c
  mem : ∀ y ∈ c, y = nm ∨ ∃ w, aget A y = some w ∧ w ∈ sk.map (·.1)
  full : ∀ w ∈ sk.map (·.1), free A h w = false
  by_ : ∀ w ∈ sk.map (·.1), ∃ x ∈ c, w ∈ S x
  len : c.length = 1 + tot A (sk.map (·.1))
section
variable {A : List (Str × Int)} {h : Int → Option Int} {S : Str → List Int} {ns : List Str} {nm x : Str} {c : List Str} {sk : Sk} {v : Int}
theorem SkOk.start (hn : nm ∈ ns) : SkOk A h S ns nm [nm] [] :=
  ⟨⟨List.Pairwise.nil, (fun _ _ _ h => nomatch h)⟩, List.pairwise_singleton _ _, (fun x hx => by rw [List.mem_singleton.mp hx]; exact hn), List.mem_singleton.mpr rfl, (fun y hy => .inl (List.mem_singleton.mp hy)), (fun _ h => nomatch h), (fun _ h => nomatch h), rfl⟩
theorem SkOk.found (I : SkOk A h S ns nm c sk) (hx : x ∈ c) (hv : v ∈ S x) (nw : v ∉ sk.map (·.1)) : SkE A S ns nm (sk ++ [(v, x)]) := by
  refine ⟨by rw [List.map_append]; exact nd_snoc I.nd nw, fun i u y hi => ?_⟩
  rcases Nat.lt_or_ge i sk.length with l | l
  · rw [List.getElem?_append_left l] at hi
    obtain ⟨h1, h2, h3⟩ := I.ent i u y hi
    refine ⟨h1, h2, h3.imp_right ?_⟩
    rintro ⟨j, w, z, ji, e1, e2⟩
    exact ⟨j, w, z, ji, e1, by rw [List.getElem?_append_left (by omega)]; exact e2⟩
  · rw [List.getElem?_append_right l] at hi
    have hl := (List.getElem?_eq_some_iff.mp hi).1
    rw [List.length_singleton] at hl
    have e : (u, y) = (v, x) := by
      rw [show i - sk.length = 0 by omega] at hi
      exact (Option.some.inj hi).symm
    obtain ⟨rfl, rfl⟩ := Prod.mk.inj e
    refine ⟨I.csub y hx, hv, (I.mem y hx).imp_right ?_⟩
    rintro ⟨w, e1, e2⟩
    obtain ⟨p, hp, rfl⟩ := List.mem_map.mp e2
    obtain ⟨j, hj⟩ := List.mem_iff_getElem?.mp hp
    have jl := (List.getElem?_eq_some_iff.mp hj).1
    exact ⟨j, p.1, p.2, by omega, e1, by rw [List.getElem?_append_left jl]; exact hj⟩
theorem SkOk.add (F : FitOk ns S h A) (nn : nm ∉ A.map (·.1)) (I : SkOk A h S ns nm c sk) (hx : x ∈ c) (hv : v ∈ S x) (nw : v ∉ sk.map (·.1)) (nf : free A h v = false) : SkOk A h S ns nm (c ++ tk A v) (sk ++ [(v, x)]) := by
  have keys : (sk ++ [(v, x)]).map (·.1) = sk.map (·.1) ++ [v] := by rw [List.map_append] <;> rfl
  have inA : ∀ y w, aget A y = some w → y ∈ A.map (·.1) := fun y w e => aget_mem.mp (by rw [e] <;> rfl)
  refine ⟨I.found hx hv nw, ?_, fun y hy => ?_, List.mem_append_left _ I.chd, fun y hy => ?_, fun w hw => ?_, fun w hw => ?_, ?_⟩
  · refine List.nodup_append.mpr ⟨I.cnd, tk_nd F.nd v, fun a ha b hb e => ?_⟩
    subst e
    have hb' := (tk_mem F.nd).mp hb
    rcases I.mem a ha with z | ⟨w, e1, e2⟩
    · rw [z] at hb'; exact nn (inA _ _ hb')
    · rw [e1] at hb'
      rw [Option.some.inj hb'] at e2
      exact nw e2
  · rcases List.mem_append.mp hy with z | z
    · exact I.csub y z
    · exact F.sub y (inA _ _ ((tk_mem F.nd).mp z))
  · rw [keys]
    rcases List.mem_append.mp hy with z | z
    · exact (I.mem y z).imp_right fun ⟨w, e1, e2⟩ => ⟨w, e1, List.mem_append_left _ e2⟩
    · exact .inr ⟨v, (tk_mem F.nd).mp z, List.mem_append_right _ (List.mem_singleton.mpr rfl)⟩
  · rw [keys] at hw
    rcases List.mem_append.mp hw with z | z
    · exact I.full w z
    · rw [List.mem_singleton.mp z]; exact nf
  · rw [keys] at hw
    rcases List.mem_append.mp hw with z | z
    · obtain ⟨y, h1, h2⟩ := I.by_ w z
      exact ⟨y, List.mem_append_left _ h1, h2⟩
    · rw [List.mem_singleton.mp z]; exact ⟨x, List.mem_append_left _ hx, hv⟩
  · rw [keys, tot_app, List.length_append, I.len]
    show 1 + tot A _ + cnt A v = _
    omega
/-- a crowd: its values are all taken up, and there are too few -/
structure Crowd (h : Int → Option Int) (S : Str → List Int) (ns c : List Str) : Prop where
  ne : c ≠ []
  nd : c.Nodup
  sub : ∀ x ∈ c, x ∈ ns
  few : ∃ K : List Int, K.Nodup ∧ (∀ x ∈ c, ∀ v ∈ S x, v ∈ K) ∧ (∀ w ∈ K, (h w).isSome = true ∧ ∃ x ∈ c, w ∈ S x) ∧ (K.map fun w => (h w).getD 0).sum < (c.length : Int)
theorem free_no {w : Int} (f : free A h w = false) : ∃ k, h w = some k ∧ k ≤ (cnt A w : Int) := by
  unfold free at f
  cases e : h w with
  | none => rw [e] at f; cases f
  | some k =>
    rw [e] at f
    have := of_decide_eq_false f
    exact ⟨k, rfl, by unfold cnt; omega⟩
theorem SkOk.crowd (I : SkOk A h S ns nm c sk) (all : ∀ x ∈ c, ∀ v ∈ S x, v ∈ sk.map (·.1)) : Crowd h S ns c := by
  refine ⟨(fun z => by have := I.chd; rw [z] at this; cases this), I.cnd, I.csub, sk.map (·.1), I.nd, all, fun w hw => ⟨?_, I.by_ w hw⟩, ?_⟩
  · obtain ⟨k, hk, _⟩ := free_no (I.full w hw)
    rw [hk] <;> rfl
  · have key : ∀ K : List Int, (∀ w ∈ K, free A h w = false) → (K.map fun w => (h w).getD 0).sum ≤ (tot A K : Int) := by
      intro K
      induction K with
      | nil => intro _; exact Int.le_refl _
      | cons w K ih =>
        intro hK
        have h1 := ih fun u hu => hK u (List.mem_cons_of_mem _ hu)
        obtain ⟨k, hk, h2⟩ := free_no (hK w List.mem_cons_self)
        rw [List.map_cons, List.sum_cons, hk]
        show k + _ ≤ ((cnt A w + tot A K : Nat) : Int)
        omega
    have := key _ I.full
    have := I.len
    omega
end
/-! ### moving up -/
structure UpI (A : List (Str × Int)) (S : Str → List Int) (ns : List Str) (nm : Str) (sk : Sk) (v1 : Int) (M : List (Str × Int)) (pv : Option Int) : Prop where
  nd : (M.map (·.1)).Nodup
  sub : ∀ x ∈ M.map (·.1), x ∈ ns
  inS : ∀ x v, aget M x = some v → v ∈ S x
  cn : ∀ u, cnt M u + (if pv = some u then 1 else 0) = cnt A u + (if u = v1 then 1 else 0)
  pos : ∀ v, pv = some v → ∃ (i : Nat) (x : Str), sk[i]? = some (v, x) ∧ ∀ y, (aget A y = none ∨ ∃ (j : Nat) (w : Int) (z : Str), j < i ∧ aget A y = some w ∧ sk[j]? = some (w, z)) → aget M y = aget A y
  key : ∀ x ∈ A.map (·.1), x ∈ M.map (·.1)
  end_ : pv = none → nm ∈ M.map (·.1)
section
variable {A M : List (Str × Int)} {h : Int → Option Int} {S : Str → List Int} {ns : List Str} {nm x : Str} {sk : Sk} {v v1 : Int}
theorem aget_none {A : List (Str × Int)} {x : Str} (h : x ∉ A.map (·.1)) : aget A x = none := by
  cases q : aget A x with
  | none => rfl
  | some v => exact absurd (aget_mem.mp (by rw [q] <;> rfl)) h
theorem UpI.start (F : FitOk ns S h A) {i : Nat} (hi : sk[i]? = some (v1, x)) : UpI A S ns nm sk v1 A (some v1) := by
  refine ⟨F.nd, F.sub, F.inS, fun u => ?_, fun v hv => ?_, fun x hx => hx, (fun z => nomatch z)⟩
  · by_cases c : u = v1
    · subst c; rw [if_pos rfl, if_pos rfl]
    · rw [if_neg c, if_neg fun z => c (Option.some.inj z).symm]
  · obtain rfl := Option.some.inj hv
    exact ⟨i, x, hi, fun _ _ => rfl⟩
theorem UpI.step (E : SkE A S ns nm sk) (nn : nm ∉ A.map (·.1)) (U : UpI A S ns nm sk v1 M (some v)) : ∃ (i : Nat) (x : Str), sk[i]? = some (v, x) ∧ zget sk v = some x ∧ UpI A S ns nm sk v1 (putA M x v) (aget A x) ∧ ∀ w, aget A x = some w → ∃ (j : Nat) (y : Str), j < i ∧ sk[j]? = some (w, y) := by
  obtain ⟨i, x, hi, un⟩ := U.pos v rfl
  obtain ⟨e1, e2, e3⟩ := E.ent i v x hi
  have un' : aget M x = aget A x := by
    rcases e3 with z | ⟨j, w, y, ji, h1, h2⟩
    · exact un x (.inl (by rw [z]; exact aget_none nn))
    · exact un x (.inr ⟨j, w, y, ji, h1, h2⟩)
  refine ⟨i, x, hi, zget_at E.nd hi, ⟨putA_nd U.nd, fun y hy => ?_, fun y u hy => ?_, fun u => ?_, fun w hw => ?_, fun y hy => ?_, fun hn => ?_⟩, fun w hw => ?_⟩
  · rcases putA_mem.mp hy with z | z
    · rw [z]; exact e1
    · exact U.sub y z
  · rw [aget_put] at hy
    split at hy
    · next z => rw [← Option.some.inj hy, ← z]; exact e2
    · exact U.inS y u hy
  · have h1 := cnt_put U.nd x v u
    have h2 := U.cn u
    rw [un'] at h1
    by_cases c : u = v
    · subst c
      rw [if_pos rfl] at h1 h2
      omega
    · rw [if_neg c] at h1
      rw [if_neg fun z => c (Option.some.inj z).symm] at h2
      omega
  · rcases e3 with z | ⟨j, w', y, ji, h1, h2⟩
    · rw [z, aget_none nn] at hw; cases hw
    · rw [h1] at hw
      obtain rfl := Option.some.inj hw
      refine ⟨j, y, h2, fun t ht => ?_⟩
      have tx : x ≠ t := fun z => by
        subst z
        rcases ht with q | ⟨j', w2, z2, jj, q1, q2⟩
        · rw [h1] at q; cases q
        · rw [h1] at q1
          obtain rfl := Option.some.inj q1
          have k1 : (sk.map (·.1))[j]? = some w' := by rw [List.getElem?_map, h2] <;> rfl
          have k2 : (sk.map (·.1))[j']? = some w' := by rw [List.getElem?_map, q2] <;> rfl
          have := nd_ix E.nd k1 k2
          omega
      rw [aget_put, if_neg tx]
      refine un t (ht.imp_right ?_)
      rintro ⟨j', w2, z2, jj, q1, q2⟩
      exact ⟨j', w2, z2, by omega, q1, q2⟩
  · exact putA_mem.mpr (.inr (U.key y hy))
  · rcases e3 with z | ⟨j, w, y, ji, h1, h2⟩
    · rw [z]; exact putA_mem.mpr (.inl rfl)
    · rw [h1] at hn; cases hn
  · rcases e3 with z | ⟨j, w', y, ji, h1, h2⟩
    · rw [z, aget_none nn] at hw; cases hw
    · rw [h1] at hw
      obtain rfl := Option.some.inj hw
      exact ⟨j, y, ji, h2⟩
theorem UpI.done (F : FitOk ns S h A) (fr : free A h v1 = true) (U : UpI A S ns nm sk v1 M none) : FitOk ns S h M ∧ (∀ x ∈ A.map (·.1), x ∈ M.map (·.1)) ∧ nm ∈ M.map (·.1) := by
  refine ⟨⟨U.nd, U.sub, U.inS, fun u k hk => ?_⟩, U.key, U.end_ rfl⟩
  have h1 := U.cn u
  have h2 := F.le u k hk
  rw [if_neg fun z => nomatch z] at h1
  by_cases c : u = v1
  · subst c
    rw [if_pos rfl] at h1
    unfold free at fr
    rw [hk] at fr
    have := of_decide_eq_true fr
    unfold cnt at h1 h2 ⊢
    omega
  · rw [if_neg c] at h1
    omega
end
end K22
set_option Elab.async false
set_option linter.all false
set_option maxRecDepth 100000
set_option maxHeartbeats 4000000
/-! name = {k: v for ..} as a statement. -/
namespace Cs
open PySem PySem.Spec PyProof.Rows L2
end Cs
set_option Elab.async false
set_option linter.all false
set_option maxRecDepth 100000
set_option maxHeartbeats 4000000
namespace K22
open PySem PySem.Spec PyProof.Rows L2 Cs CsX
theorem zdget {β : Type} {g : β → V} {H : Hp} {d : Addr} {L : List (Int × β)} (h : H d = some (.dK (zK g L))) (v : Int) : DGet H d (.int v) ((zget L v).map g) :=
  .inl ⟨zK g L, .inl v, .inl h, rfl, (zval g v L).symm⟩
theorem zK_len {β : Type} (g : β → V) (L : List (Int × β)) : (zK g L).length = L.length := by unfold zK; rw [List.length_map]
def optV : Option Int → V
  | none => .non
  | some v => .int v
theorem optV_get (o : Option Int) : (o.map V.int).getD .non = optV o := by cases o <;> rfl
def Fit (L : List Ent) (ns : List Str) (S : Str → List Int) : Prop := ∀ x ∈ ns, look L x = some (S x)
theorem Fit.get {H : Hp} {b : Addr} {L : List Ent} {ns : List Str} {S : Str → List Int} (B : Bx H b L) (F : Fit L ns S) {x : Str} (hx : x ∈ ns) : ∃ a, DGet H b (.str x) (some (.ref a)) ∧ H a = some (.lst ((S x).map V.int)) := by
  have h := F x hx
  unfold look at h
  obtain ⟨e, he, e2⟩ := Option.map_eq_some_iff.mp h
  have g := B.get x
  rw [he] at g
  refine ⟨e.2.1, g, ?_⟩
  rw [← e2]; exact B.sides e (getE_mem he).1
theorem drop_at {α : Type} {xs : List α} {j : Nat} {a : α} (h : xs[j]? = some a) : xs.drop j = a :: xs.drop (j + 1) := by
  obtain ⟨h1, h2⟩ := List.getElem?_eq_some_iff.mp h
  rw [List.drop_eq_getElem_cons h1, h2]
theorem FitOk.few {ns : List Str} {S : Str → List Int} {h : Int → Option Int} {A : List (Str × Int)} (F : FitOk ns S h A) : A.length ≤ ns.length := by
  have := List.Nodup.length_le_of_subset F.nd fun x hx => F.sub x hx
  rwa [List.length_map] at this
section
variable {P : Program} {w : World} {K : PySem.W.Frag} {mg : Str → Option Value} {base : Heap}
abbrev sTk : Stmt := topS 12
abbrev nTk : List Str := ["fit", "value", "name"]
theorem scTk : FnScope nTk ["fit", "value"] (defScope sTk) := ⟨rfl, rfl, rfl, by decide +kernel, rfl, by decide +kernel, by decide +kernel⟩
def spTk : Sp := fun vs H Q _ => ∃ (d : Addr) (v : Int) (A : List (Str × Int)), vs = [.ref d, .int v] ∧ H d = some (.dK (intK A)) ∧ (A.map (·.1)).Nodup ∧ A.length ≤ 40 ∧
  ∀ (H' : Hp) (r : Addr), Same H H' → H r = none → H' r = some (.lst ((tk A v).map V.str)) → Q (.ref r) H'
theorem ok_Tk {f  : Addr} {fd  : FuncData} (F : Fun K "_takers" "_takers" sTk f fd) (B : Bt mg) :
    FnOk P w K mg base CX0 1 f fd ["fit", "value"] spTk := by
  refine F.ok scTk (fun vs H Q E h => ?_) (fun cdv A outer s H vs Q E hr h => ?_)
  · obtain ⟨d, v, A, rfl, _⟩ := h
    rfl
  · obtain ⟨d, v, A', rfl, ed, nA, few, q⟩ := h
    have hu := hu_of hr
    have nd := scTk.nd
    refine ⟨_, pss_one (ps_ret (pe_lock (pe_lc (own := [("name", 2)]) (g := gName 2) (tt := _) (te := tVar 2) rfl nd (pi_keys (pv 0)) (blkOk_by (N := nTk) (sc := defScope sTk) (by decide +kernel)) (fun _ _ _ _ _ => pg_name (i := 2) nd rfl (.inl rfl)) (fun _ _ _ _ _ => pts_one (pt_cmpR op_eq (pe_dget hu (pv 0) (pv 2) (fun _ _ => rfl)) (pv 1) rfl))
          (fun _ _ _ _ _ => (pv 2))))), ?_⟩
    refine ⟨d, _, ed, trivial, fun od => ?_⟩
    refine ⟨.ref d, rfl, d, od, rfl, .inl ⟨intK A', upd_same, fun D nD => lc_it walk_keys (fun i H' => Same (upd H d (.frz od (.dK (intK A')))) H' ∧ H' D = some (.lst ((((A'.take i).filter fun e => decide (e.2 = v)).map (·.1)).map V.str))) ⟨same_new nD, upd_same⟩ (fun i H' _ h => h.1 _ _ upd_same) ?_ ?_⟩⟩
    · rintro i x Hz H' hi ⟨sm, eD⟩ ⟨rfl, k1, v1, hk, rfl⟩
      obtain ⟨x, hx, rfl, rfl⟩ := keysI hk
      have xm := List.mem_of_getElem? hx
      have gx := (aget_iff nA x.1 x.2).mpr xm
      have gv := (Ax.get (H := H') (d := d) (A := A') ⟨.inr ⟨od, sm _ _ upd_same⟩⟩ x.1)
      rw [gx] at gv
      have fs := filter_snoc (p := fun e : Str × Int => decide (e.2 = v)) hx
      have fl := filter_len A' (fun e => decide (e.2 = v)) i
      refine ⟨rfl, _, rfl, _, rfl, d, .int x.2, rfl, gv, _, rfl, rfl, _, rfl, ite_both (fun c => ⟨_, rfl, _, eD, by rw [List.length_map, List.length_map]; exact small1000 (by omega), same_at sm nD, ?_⟩) fun c => ⟨sm, ?_⟩⟩
      · have c' : x.2 = v := V.int.inj (of_decide_eq_true c)
        rw [fs, if_pos (decide_eq_true c'), upd_same, List.map_append, List.map_append] <;> rfl
      · have c' : ¬ x.2 = v := fun z => of_decide_eq_false c (by rw [z])
        rw [fs, if_neg (by rw [decide_eq_false c']; decide), List.append_nil]; exact eD
    · rintro H' ⟨sm, eD⟩
      rw [intK_len, List.take_length] at eD
      have eF := sm _ _ (upd_same (H := H) (a := d) (o := HO.frz od (.dK (intK A'))))
      have nDe : D ≠ d := fun z => by rw [z, eF] at eD; cases eD
      refine ⟨eF, ?_⟩
      exact q _ D (unlock ed sm) (by have := nD; rwa [upd_ne nDe] at this) (by rw [upd_ne nDe]; exact eD)
abbrev sMu : Stmt := topS 15
abbrev nMu : List Str := ["fit", "seekers", "value", "moved", "seeker"]
theorem scMu : FnScope nMu ["fit", "seekers", "value"] (defScope sMu) := ⟨rfl, rfl, rfl, by decide +kernel, rfl, by decide +kernel, by decide +kernel⟩
def spMu : Sp := fun vs H Q _ => ∃ (d b : Addr) (v1 : Int) (A : List (Str × Int)) (sk : Sk) (S : Str → List Int) (ns : List Str) (nm : Str) (h : Int → Option Int) (i : Nat) (x : Str), vs = [.ref d, .ref b, .int v1] ∧ H d = some (.dK (intK A)) ∧ H b = some (.dK (zK V.str sk)) ∧ SkE A S ns nm sk ∧ FitOk ns S h A ∧ nm ∉ A.map (·.1) ∧ sk[i]? = some (v1, x) ∧ free A h v1 = true ∧ ns.length ≤ 40 ∧
  ∀ (H' : Hp) (r : Addr) (M : List (Str × Int)), Same H H' → H r = none → H' r = some (.dK (intK M)) → Up A sk A (some v1) M → FitOk ns S h M → (∀ x ∈ A.map (·.1), x ∈ M.map (·.1)) → nm ∈ M.map (·.1) → Q (.ref r) H'
theorem ok_Mu {f  : Addr} {fd  : FuncData} (F : Fun K "_moved_up" "_moved_up" sMu f fd) (B : Bt mg) :
    FnOk P w K mg base CX0 1 f fd ["fit", "seekers", "value"] spMu := by
  refine F.ok scMu (fun vs H Q E h => ?_) (fun cdv A outer s H vs Q E hr h => ?_)
  · obtain ⟨d, b, v1, A, sk, S, ns, nm, h, i, x, rfl, _⟩ := h
    rfl
  · obtain ⟨d, b, v1, A', sk, S, ns, nm, h, i, x, rfl, ed, eb, E1, F1, nn, hi, fr, few, q⟩ := h
    have hu := hu_of hr
    have nd := scMu.nd
    refine ⟨_, pss_cons (ps_set (i := 3) nd rfl (.inl rfl) (pe_callTy call_dictD (by rfl) B.dict PyProof.Rows.boot_dict (pa_cons (pv 0) pa_nil)))
      (pss_cons (ps_while PassesOwn.never (pt_cmp (pc_notN (pv 2)))
        (pss_cons (ps_set (i := 4) nd rfl (.inl rfl) (pe_dget hu (pv 1) (pv 2) (fun _ _ => rfl)))
          (pss_cons (ps_dput hu (pv 3) (pv 4) (pv 2) rfl)
          (pss_one (ps_set (i := 2) nd rfl (.inl rfl) (pe_dget1 hu (pv 0) (pv 4) ⟨rfl, rfl, rfl, rfl⟩))))))
      (pss_one (ps_ret (pv 3)))), ?_⟩
    refine ⟨_, rfl, d, _, rfl, .inl ed, fun R nR => ?_⟩
    refine ⟨fun n σ H' => ∃ (M : List (Str × Int)) (pv : Option Int) (y4 : Option V), ((pv = none ∧ n = 0) ∨ ∃ (v : Int) (i : Nat) (x : Str), pv = some v ∧ sk[i]? = some (v, x) ∧ n = i + 1) ∧ σ = [some (.ref d), some (.ref b), some (optV pv), some (.ref R), y4] ∧ Same H H' ∧ H' R = some (.dK (intK M)) ∧ UpI A' S ns nm sk v1 M pv ∧ ∀ N, Up A' sk M pv N → Up A' sk A' (some v1) N,
      ⟨_, A', some v1, none, .inr ⟨v1, i, x, rfl, hi, rfl⟩, rfl, same_new nR, upd_same, UpI.start F1 hi, fun N h => h⟩, ?_⟩
    rintro n σ H1 ⟨M, pv, y4, hn, rfl, s1, eR, U, up⟩
    cases pv with
    | none =>
      refine ⟨_, rfl, _, rfl, ?_⟩
      refine ite_both (fun c => absurd c (by decide)) fun _ => ?_
      obtain ⟨f1, f2, f3⟩ := U.done F1 fr
      exact ⟨_, rfl, q _ R M s1 nR eR (up M .done) f1 f2 f3⟩
    | some v =>
      obtain ⟨j, y, hj, zg, U2, low⟩ := U.step E1 nn
      have hn' : n = j + 1 := by
        rcases hn with ⟨z, _⟩ | ⟨v', i', x', z, h1, h2⟩
        · cases z
        · obtain rfl := Option.some.inj z
          have k1 : (sk.map (·.1))[j]? = some v := by rw [List.getElem?_map, hj] <;> rfl
          have k2 : (sk.map (·.1))[i']? = some v := by rw [List.getElem?_map, h1] <;> rfl
          have := nd_ix E1.nd k1 k2
          omega
      refine ⟨_, rfl, _, rfl, ?_⟩
      refine ite_both (fun _ => ?_) fun c => absurd c (by rw [show decide (optV (some v) = V.non) = false from decide_eq_false (fun z => nomatch z)]; decide)
      refine ⟨fun σ' H' => ∃ (n' : Nat) (M : List (Str × Int)) (pv : Option Int) (y4 : Option V), n' < n ∧ ((pv = none ∧ n' = 0) ∨ ∃ (v : Int) (i : Nat) (x : Str), pv = some v ∧ sk[i]? = some (v, x) ∧ n' = i + 1) ∧ σ' = [some (.ref d), some (.ref b), some (optV pv), some (.ref R), y4] ∧ Same H H' ∧ H' R = some (.dK (intK M)) ∧ UpI A' S ns nm sk v1 M pv ∧ ∀ N, Up A' sk M pv N → Up A' sk A' (some v1) N, ?_, ?_⟩
      · rintro σ' H' ⟨n', M', pv', y4', h1, h2, h3, h4, h5, h6, h7⟩
        exact ⟨n', h1, M', pv', y4', h2, h3, h4, h5, h6, h7⟩
      have gb := zdget (s1 _ _ eb) v
      rw [zg] at gb
      have lM : M.length ≤ ns.length := by
        have := List.Nodup.length_le_of_subset U.nd fun x hx => U.sub x hx
        rwa [List.length_map] at this
      refine ⟨_, rfl, _, rfl, b, .str y, rfl, gb, ?_⟩
      refine ⟨_, rfl, _, rfl, _, rfl, R, _, rfl, DPut.k (k := .inr y) eR (by rw [intK_len]; exact small1000 (by omega)), ?_⟩
      rw [show putK (intK M) (Sum.inr y) (optV (some v)) = intK (putA M y v) from putK_int M y v]
      have s2 := same_at s1 nR (o := HO.dK (intK (putA M y v)))
      have gd := Ax.get (H := upd H1 R (.dK (intK (putA M y v)))) (d := d) (A := A') ⟨.inl (s2 _ _ ed)⟩ y
      refine ⟨_, rfl, d, rfl, .inl ⟨_, .inl (s2 _ _ ed)⟩, _, rfl, _, gd, ?_⟩
      rw [optV_get]
      refine ⟨(match aget A' y with | none => 0 | some w => (sk.map (·.1)).idxOf w + 1), putA M y v, aget A' y, _, ?_, ?_, rfl, s2, upd_same, U2, fun N h => up N (.step zg h)⟩
      · cases e : aget A' y with
        | none => show 0 < n; omega
        | some w =>
          obtain ⟨j', y', jl, h2⟩ := low w e
          have k2 : (sk.map (·.1))[j']? = some w := by rw [List.getElem?_map, h2] <;> rfl
          have wm := List.mem_of_getElem? k2
          have k1 : (sk.map (·.1))[(sk.map (·.1)).idxOf w]? = some w := by
            rw [List.getElem?_eq_getElem (List.idxOf_lt_length_of_mem wm), List.getElem_idxOf]
          have := nd_ix E1.nd k1 k2
          show (sk.map (·.1)).idxOf w + 1 < n
          omega
      · cases e : aget A' y with
        | none => exact .inl ⟨rfl, rfl⟩
        | some w =>
          obtain ⟨j', y', jl, h2⟩ := low w e
          have k2 : (sk.map (·.1))[j']? = some w := by rw [List.getElem?_map, h2] <;> rfl
          have wm := List.mem_of_getElem? k2
          have k1 : (sk.map (·.1))[(sk.map (·.1)).idxOf w]? = some w := by
            rw [List.getElem?_eq_getElem (List.idxOf_lt_length_of_mem wm), List.getElem_idxOf]
          have := nd_ix E1.nd k1 k2
          exact .inr ⟨w, j', y', rfl, h2, by show (sk.map (·.1)).idxOf w + 1 = j' + 1; rw [this]⟩
end
end K22
set_option Elab.async false
set_option linter.all false
set_option maxRecDepth 100000
set_option maxHeartbeats 4000000
namespace K22
open PySem PySem.Spec PyProof.Rows L2 Cs CsX
theorem seek_old {A : List (Str × Int)} {h : Int → Option Int} {x : Str} {c : List Str} {k : Sk} {v : Int} {vs : List Int} (m : v ∈ k.map (·.1)) : seek A h x (c, k) (v :: vs) = seek A h x (c, k) vs := by
  show (if v ∈ k.map (·.1) then _ else _) = _
  rw [if_pos m]
theorem seek_free {A : List (Str × Int)} {h : Int → Option Int} {x : Str} {c : List Str} {k : Sk} {v : Int} {vs : List Int} (m : v ∉ k.map (·.1)) (f : free A h v = true) : seek A h x (c, k) (v :: vs) = .inl (k ++ [(v, x)], v) := by
  show (if v ∈ k.map (·.1) then _ else if free A h v = true then _ else _) = _
  rw [if_neg m, if_pos f]
theorem seek_add {A : List (Str × Int)} {h : Int → Option Int} {x : Str} {c : List Str} {k : Sk} {v : Int} {vs : List Int} (m : v ∉ k.map (·.1)) (f : free A h v = false) : seek A h x (c, k) (v :: vs) = seek A h x (c ++ tk A v, k ++ [(v, x)]) vs := by
  show (if v ∈ k.map (·.1) then _ else if free A h v = true then _ else _) = _
  rw [if_neg m, if_neg (by rw [f]; decide)]
theorem Fit.ent {L : List Ent} {ns : List Str} {S : Str → List Int} (F : Fit L ns S) {x : Str} (hx : x ∈ ns) : ∃ e, getE L x = some e ∧ e ∈ L ∧ e.2.2 = S x := by
  have h := F x hx
  unfold look at h
  obtain ⟨e, he, e2⟩ := Option.map_eq_some_iff.mp h
  exact ⟨e, he, (getE_mem he).1, e2⟩
section
variable {P : Program} {w : World} {K : PySem.W.Frag} {mg : Str → Option Value} {base : Heap}
abbrev sWn : Stmt := topS 14
abbrev nWn : List Str := ["box", "highs", "fit", "name", "crowd", "seekers", "place", "seeker", "value", "takers"]
theorem scWn : FnScope nWn ["box", "highs", "fit", "name"] (defScope sWn) := ⟨rfl, rfl, rfl, by decide +kernel, rfl, by decide +kernel, by decide +kernel⟩
def spWn : Sp := fun vs H Q _ => ∃ (b hd d : Addr) (nm : Str) (L : List Ent) (Hs : List (Int × Int)) (A : List (Str × Int)) (S : Str → List Int) (ns : List Str) (P : List Int), vs = [.ref b, .ref hd, .ref d, .str nm] ∧ Bx H b L ∧ Fit L ns S ∧ H hd = some (.dK (zK V.int Hs)) ∧ H d = some (.dK (intK A)) ∧ FitOk ns S (zget Hs) A ∧ nm ∉ A.map (·.1) ∧ nm ∈ ns ∧ ns.length ≤ 40 ∧ P.length ≤ 1000 ∧ (∀ x ∈ ns, ∀ v ∈ S x, v ∈ P) ∧
  (∀ (H' : Hp) (T r : Addr) (c : List Str), Same H H' → H T = none → H' T = some (.tup [.str "crowd", .ref r]) → H r = none → H' r = some (.lst (c.map V.str)) → Wit A (zget Hs) S nm (.inr c) → Crowd (zget Hs) S ns c → Q (.ref T) H') ∧
  (∀ (H' : Hp) (T r : Addr) (M : List (Str × Int)), Same H H' → H T = none → H' T = some (.tup [.str "fit", .ref r]) → H r = none → H' r = some (.dK (intK M)) → Wit A (zget Hs) S nm (.inl M) → FitOk ns S (zget Hs) M → (∀ x ∈ A.map (·.1), x ∈ M.map (·.1)) → nm ∈ M.map (·.1) → Q (.ref T) H')
theorem ok_Wn {f f0 f1 : Addr} {fd fd0 fd1 : FuncData} (F : Fun K "_with_name" "_with_name" sWn f fd) (B : Bt mg) (CTk : Call P w K mg base 1 "_takers" f0 fd0 ["fit", "value"] spTk) (CMu : Call P w K mg base 1 "_moved_up" f1 fd1 ["fit", "seekers", "value"] spMu) :
    FnOk P w K mg base CX0 2 f fd ["box", "highs", "fit", "name"] spWn := by
  refine F.ok scWn (fun vs H Q E h => ?_) (fun cdv A outer s H vs Q E hr h => ?_)
  · obtain ⟨b, hd, d, nm, L, Hs, A, S, ns, PP, rfl, _⟩ := h
    rfl
  · obtain ⟨b, hd, d, nm, L, Hs, A', S, ns, PP, rfl, bx, F1, eh, ed, fo, nn, nin, few, pp, inP, q1, q2⟩ := h
    have hu := hu_of hr
    have nd := scWn.nd
    refine ⟨_, pss_cons (ps_set (i := 4) nd rfl (.inl rfl) (pe_lst (pa_cons (pv 3) pa_nil)))
      (pss_cons (ps_set (i := 5) nd rfl (.inl rfl) pe_dnewK)
      (pss_cons (ps_set (i := 6) nd rfl (.inl rfl) pe_int)
      (pss_cons (ps_while PassesOwn.never (pt_cmpR op_lt (pv 6) (pe_callB call_len_seq (by rfl) B.len PySem.boot_len (pa_cons (pv 4) pa_nil)) rfl)
        (pss_cons (ps_set (i := 7) nd rfl (.inl rfl) (pe_ix ix_list (pv 4) (pv 6) (fun _ _ => rfl)))
          (pss_cons (ps_for PassesOwn.never rfl (pi_list (pe_dget hu (pv 0) (pv 7) (fun _ _ => rfl))) (pg_name (i := 8) nd rfl (.inl rfl))
            (pss_one (ps_if (pt_cmp (pc_dnotin hu (pv 8) (pv 5)))
                (pss_cons (ps_dput hu (pv 5) (pv 8) (pv 7) rfl)
                  (pss_cons (ps_set (i := 9) nd rfl (.inl rfl) (pe_call CTk.ok (hr.mono (by decide)) (by rfl) CTk.at_ CTk.kp CTk.bd .nil pass0 (pa_cons (pv 2) (pa_cons (pv 8) pa_nil))))
                  (pss_cons (ps_if (PW.pt (pw_or (pt_cmp (pc_dnotin hu (pv 8) (pv 1))) (pw_or1 (pt_cmpR op_lt (pe_callB call_len_seq (by rfl) B.len PySem.boot_len (pa_cons (pv 9) pa_nil)) (pe_dget hu (pv 1) (pv 8) (fun _ _ => rfl)) rfl))))
                    (pss_one (ps_ret (pe_tup (pa_cons pe_str (pa_cons (pe_call CMu.ok (hr.mono (by decide)) (by rfl) CMu.at_ CMu.kp CMu.bd .nil pass0 (pa_cons (pv 2) (pa_cons (pv 5) (pa_cons (pv 8) pa_nil)))) pa_nil)))))
                    pss_nil)
                  (pss_one (ps_expr (pe_bm PySem.F.plainAttrs_list PySem.F.slot_list_extend PySem.F.type_list_extend mt_extend (pv 4) (pa_cons (pv 9) pa_nil)))))))
                pss_nil)))
          (pss_one (ps_aug (i := 6) nd rfl (.inl rfl) pe_int ip_add)))))
      (pss_one (ps_ret (pe_tup (pa_cons pe_str (pa_cons (pv 4) pa_nil)))))))), ?_⟩
    have fA := fo.few
    refine ⟨_, rfl, by show 1 ≤ sizeLine; decide, fun C nC => ?_⟩
    have t1 := same_new (o := HO.lst [V.str nm]) nC
    refine fun Kd nK => ?_
    have t2 := same_new (o := HO.dK []) nK
    have CK : C ≠ Kd := fun z => by rw [← z, upd_same] at nK; cases nK
    have nKH := t1.free nK
    have e0 : (upd (upd H C (.lst [V.str nm])) Kd (.dK [])) C = some (.lst (([nm] : List Str).map V.str)) := by rw [upd_ne CK, upd_same] <;> rfl
    have k0 : (upd (upd H C (.lst [V.str nm])) Kd (.dK [])) Kd = some (.dK (zK V.str [])) := upd_same
    have s0 := t1.trans t2
    generalize upd (upd H C (.lst [V.str nm])) Kd (.dK []) = H0 at e0 k0 s0 ⊢
    clear t1 t2 nK
    refine ⟨fun n σ H' => ∃ (c : List Str) (k : Sk) (p : Nat) (y7 y8 y9 : Option V), n = ns.length + 1 - p ∧ p ≤ c.length ∧ σ = [some (.ref b), some (.ref hd), some (.ref d), some (.str nm), some (.ref C), some (.ref Kd), some (.int (p : Int)), y7, y8, y9] ∧ Same H H' ∧ H' C = some (.lst (c.map V.str)) ∧ H' Kd = some (.dK (zK V.str k)) ∧ SkOk A' (zget Hs) S ns nm c k ∧ (∀ i x, i < p → c[i]? = some x → ∀ v ∈ S x, v ∈ k.map (·.1)) ∧ ∀ r, Run A' (zget Hs) S (c, k) p r → Run A' (zget Hs) S ([nm], []) 0 r,
      ⟨_, [nm], [], 0, none, none, none, rfl, Nat.zero_le _, rfl, s0, e0, k0, .start nin, fun i x h => absurd h (by omega), fun r h => h⟩, ?_⟩
    rintro n σ H1 ⟨c, k, p, y7, y8, y9, rfl, pc, rfl, s1, eC, eK, I, old, run⟩
    have cle : c.length ≤ ns.length := List.Nodup.length_le_of_subset I.cnd fun x hx => I.csub x hx
    refine ⟨_, rfl, _, rfl, C, _, rfl, .inl (sl_map eC), _, _, rfl, rfl, _, rfl, ite_both (fun c1 => ?_) fun c1 => ?_⟩
    · have pl := of_decide_eq_true c1
      rw [List.length_map] at pl
      have pl' : p < c.length := by omega
      obtain ⟨x, hx⟩ : ∃ x, c[p]? = some x := ⟨_, List.getElem?_eq_getElem pl'⟩
      have xc := List.mem_of_getElem? hx
      have xn := I.csub x xc
      refine ⟨fun σ' H' => ∃ (c' : List Str) (k' : Sk) (p' : Nat) (y7 y8 y9 : Option V), p' = p + 1 ∧ p' ≤ c'.length ∧ σ' = [some (.ref b), some (.ref hd), some (.ref d), some (.str nm), some (.ref C), some (.ref Kd), some (.int (p' : Int)), y7, y8, y9] ∧ Same H H' ∧ H' C = some (.lst (c'.map V.str)) ∧ H' Kd = some (.dK (zK V.str k')) ∧ SkOk A' (zget Hs) S ns nm c' k' ∧ (∀ i x, i < p' → c'[i]? = some x → ∀ v ∈ S x, v ∈ k'.map (·.1)) ∧ ∀ r, Run A' (zget Hs) S (c', k') p' r → Run A' (zget Hs) S ([nm], []) 0 r, ?_, ?_⟩
      · rintro σ' H' ⟨c', k', p', y7, y8, y9, h1, h2⟩
        exact ⟨_, by omega, c', k', p', y7, y8, y9, rfl, h2⟩
      refine ⟨_, rfl, _, rfl, C, _, _, .str x, rfl, rfl, sl_map eC, atI_nat (j := p) (by rw [List.getElem?_map, hx] <;> rfl), ?_⟩
      obtain ⟨e, ge, em, eS⟩ := F1.ent xn
      have ga := (bx.same s1).get x
      rw [ge] at ga
      have ea : ∀ {H' : Hp}, Same H H' → H' e.2.1 = some (.lst ((S x).map V.int)) := fun s' => by
        have := (bx.same s').sides e em
        rwa [eS] at this
      refine ⟨_, rfl, _, rfl, b, .ref e.2.1, rfl, ga, e.2.1, rfl, ⟨_, sl_map (ea s1)⟩, for_list (xs := (S x).map V.int) (fun j σ' H' => ∃ (c' : List Str) (k' : Sk) (y8 y9 : Option V), σ' = [some (.ref b), some (.ref hd), some (.ref d), some (.str nm), some (.ref C), some (.ref Kd), some (.int (p : Int)), some (.str x), y8, y9] ∧ Same H H' ∧ H' C = some (.lst (c'.map V.str)) ∧ H' Kd = some (.dK (zK V.str k')) ∧ SkOk A' (zget Hs) S ns nm c' k' ∧ c'[p]? = some x ∧ (∀ i x, i < p → c'[i]? = some x → ∀ v ∈ S x, v ∈ k'.map (·.1)) ∧ (∀ v ∈ (S x).take j, v ∈ k'.map (·.1)) ∧ seek A' (zget Hs) x (c, k) (S x) = seek A' (zget Hs) x (c', k') ((S x).drop j))
        ⟨c, k, y8, y9, rfl, s1, eC, eK, I, hx, old, (fun _ h => nomatch h), rfl⟩ (fun j σ' H' _ h => by obtain ⟨_, _, _, _, _, s', _⟩ := h; exact sl_map (ea s')) ?_ ?_⟩
      · clear old I eC eK
        rintro j z σ3 H3 hz ⟨c', k', y8, y9, rfl, s3, eC, eK, I, hx', old, tak, sek⟩
        rw [List.getElem?_map] at hz
        obtain ⟨v, hv, rfl⟩ := Option.map_eq_some_iff.mp hz
        rw [drop_at hv] at sek
        have vS := List.mem_of_getElem? hv
        have xc' := List.mem_of_getElem? hx'
        have c'le : c'.length ≤ ns.length := List.Nodup.length_le_of_subset I.cnd fun x hx => I.csub x hx
        have pl2 := (List.getElem?_eq_some_iff.mp hx').1
        have kle : k'.length ≤ 10000 := by
          have := List.Nodup.length_le_of_subset I.nd (l₂ := PP) fun w hw => by
            obtain ⟨y, hy, hw2⟩ := I.by_ w hw
            exact inP y (I.csub y hy) w hw2
          rw [List.length_map] at this
          omega
        refine ⟨_, rfl, _, rfl, Kd, _, rfl, zdget eK v, _, rfl, ite_both (fun cn => ?_) fun cn => ?_⟩
        · have nv : v ∉ k'.map (·.1) := fun z => by
            have := zmem.mpr z
            cases q : zget k' v with
            | none => rw [q] at this; cases this
            | some y => rw [q] at cn; cases cn
          refine ⟨_, rfl, _, rfl, _, rfl, Kd, _, rfl, DPut.k (k := .inl v) eK (by rw [zK_len]; exact small10k kle), ?_⟩
          rw [show putK (zK V.str k') (Sum.inl v) (V.str x) = zK V.str (k' ++ [(v, x)]) by rw [zput, putZ_new nv]]
          have s4 := same_at s3 nKH (o := HO.dK (zK V.str (k' ++ [(v, x)])))
          have eC4 : (upd H3 Kd (.dK (zK V.str (k' ++ [(v, x)])))) C = some (.lst (c'.map V.str)) := by rw [upd_ne CK]; exact eC
          have eK4 : (upd H3 Kd (.dK (zK V.str (k' ++ [(v, x)])))) Kd = some (.dK (zK V.str (k' ++ [(v, x)]))) := upd_same
          generalize upd H3 Kd (.dK (zK V.str (k' ++ [(v, x)]))) = H4 at s4 eC4 eK4 ⊢
          refine ⟨_, rfl, _, rfl, d, v, A', rfl, s4 _ _ ed, fo.nd, by omega, fun H5 Tl s5 nT eT => ?_⟩
          have s45 := s4.trans s5
          have eC5 := s5 _ _ eC4
          have eK5 := s5 _ _ eK4
          have gh := zdget (g := V.int) (s45 _ _ eh) v
          have i5 : (k' ++ [(v, x)])[k'.length]? = some (v, x) := by rw [List.getElem?_append_right (Nat.le_refl _), Nat.sub_self] <;> rfl
          cases hz : zget Hs v with
          | none =>
            rw [hz] at gh
            have fr : free A' (zget Hs) v = true := by unfold free; rw [hz]
            refine ⟨_, rfl, _, rfl, hd, _, rfl, gh, _, rfl, iteT ?_⟩
            rw [seek_free nv fr] at sek
            refine ⟨_, rfl, _, rfl, _, rfl, d, Kd, v, A', k' ++ [(v, x)], S, ns, nm, zget Hs, k'.length, x, rfl, s45 _ _ ed, eK5, I.found xc' vS nv, fo, nn, i5, fr, few, fun H6 r M s6 nr er up fM kM nM => ⟨by show 2 ≤ sizeLine; decide, fun T nT6 => ?_⟩⟩
            have t := same_new (o := HO.tup [.str "fit", .ref r]) nT6
            exact q2 _ T r M (s45.trans (s6.trans t)) ((s45.trans s6).free nT6) upd_same (s45.free nr) (t _ _ er) (.fit (run _ (.found hx sek)) up) fM kM nM
          | some kk =>
            rw [hz] at gh
            refine ⟨_, rfl, _, rfl, hd, _, rfl, gh, _, rfl, iteF ?_⟩
            refine ⟨_, rfl, Tl, _, rfl, .inl (sl_map eT), _, rfl, _, rfl, hd, .int kk, rfl, gh, _, _, rfl, rfl, _, rfl, ite_both (fun c3 => ?_) fun c3 => ?_⟩
            · have c3' := of_decide_eq_true c3
              rw [List.length_map] at c3'
              have fr : free A' (zget Hs) v = true := by unfold free; rw [hz]; exact decide_eq_true c3'
              rw [seek_free nv fr] at sek
              refine ⟨_, rfl, _, rfl, _, rfl, d, Kd, v, A', k' ++ [(v, x)], S, ns, nm, zget Hs, k'.length, x, rfl, s45 _ _ ed, eK5, I.found xc' vS nv, fo, nn, i5, fr, few, fun H6 r M s6 nr er up fM kM nM => ⟨by show 2 ≤ sizeLine; decide, fun T nT6 => ?_⟩⟩
              have t := same_new (o := HO.tup [.str "fit", .ref r]) nT6
              exact q2 _ T r M (s45.trans (s6.trans t)) ((s45.trans s6).free nT6) upd_same (s45.free nr) (t _ _ er) (.fit (run _ (.found hx sek)) up) fM kM nM
            · have c3' := of_decide_eq_false c3
              rw [List.length_map] at c3'
              have fr : free A' (zget Hs) v = false := by unfold free; rw [hz]; exact decide_eq_false c3'
              have I5 := I.add fo nn xc' vS nv fr
              have le5 : (c' ++ tk A' v).length ≤ ns.length := List.Nodup.length_le_of_subset I5.cnd fun x hx => I5.csub x hx
              rw [seek_add nv fr] at sek
              have CT : C ≠ Tl := fun z => by rw [z] at eC4; rw [eC4] at nT; cases nT
              have TK : Kd ≠ C := CK.symm
              refine ⟨_, rfl, .inl ⟨rfl, _, sl_map eC5⟩, _, rfl, C, Tl, _, _, rfl, rfl, eC5, eT, ?_, c' ++ tk A' v, k' ++ [(v, x)], _, _, rfl, same_at s45 nC, by rw [upd_same, List.map_append], by rw [upd_ne TK]; exact eK5, I5, ?_, fun i y hi hy => ?_, fun u hu => ?_, sek⟩
              · rw [List.length_map, List.length_map]
                rw [List.length_append] at le5
                exact Nat.le_of_lt (small1000 (by omega))
              · rw [List.getElem?_append_left pl2]; exact hx'
              · rw [List.getElem?_append_left (by omega)] at hy
                intro u hu
                rw [List.map_append]
                exact List.mem_append_left _ (old i y hi hy u hu)
              · rw [take_snoc hv] at hu
                rw [List.map_append]
                rcases List.mem_append.mp hu with h | h
                · exact List.mem_append_left _ (tak u h)
                · rw [List.mem_singleton.mp h]; exact List.mem_append_right _ (List.mem_singleton.mpr rfl)
        · have nv : v ∈ k'.map (·.1) := by
            refine Decidable.byContradiction fun z => ?_
            have : zget k' v = none := by
              cases q : zget k' v with
              | none => rfl
              | some y => exact absurd (zmem.mp (by rw [q] <;> rfl)) z
            rw [this] at cn; cases cn
          rw [seek_old nv] at sek
          refine ⟨c', k', _, y9, rfl, s3, eC, eK, I, hx', old, fun u hu => ?_, sek⟩
          rw [take_snoc hv] at hu
          rcases List.mem_append.mp hu with h | h
          · exact tak u h
          · rw [List.mem_singleton.mp h]; exact nv
      · rintro σ3 H3 ⟨c', k', y8, y9, rfl, s3, eC, eK, I, hx', old, tak, sek⟩
        rw [List.length_map, List.take_length] at tak
        rw [List.length_map, List.drop_length] at sek
        have pl2 := (List.getElem?_eq_some_iff.mp hx').1
        refine ⟨_, rfl, _, _, rfl, rfl, c', k', p + 1, _, y8, y9, rfl, by omega, rfl, s3, eC, eK, I, fun i y hi hy => ?_, fun r h => run r (.more hx sek h)⟩
        rcases Nat.lt_or_ge i p with q | q
        · exact old i y q hy
        · rw [show i = p by omega, hx'] at hy
          rw [← Option.some.inj hy]; exact tak
    · have pl := of_decide_eq_false c1
      rw [List.length_map] at pl
      have pl' : c.length ≤ p := by omega
      have cr := I.crowd fun x hx v hv => by
        obtain ⟨i, hi⟩ := List.mem_iff_getElem?.mp hx
        exact old i x (by have := (List.getElem?_eq_some_iff.mp hi).1; omega) hi v hv
      refine ⟨_, rfl, by show 2 ≤ sizeLine; decide, fun T nT => ?_⟩
      have t := same_new (o := HO.tup [.str "crowd", .ref C]) nT
      exact q1 _ T C c (s1.trans t) (s1.free nT) upd_same nC (t _ _ eC) (.crowd (run _ (.stop pl'))) cr
end
end K22
set_option Elab.async false
set_option linter.all false
set_option maxRecDepth 100000
set_option maxHeartbeats 4000000
namespace K22
open PySem PySem.Spec PyProof.Rows L2 Cs CsX
/-- a box of sides and numbers for them -/
structure Wd (L : List Ent) (S : Str → List Int) (Hs : List (Int × Int)) (P : List Int) : Prop where
  fit : Fit L (L.map (·.1)) S
  pp : P.length ≤ 1000
  inP : ∀ x ∈ L.map (·.1), ∀ v ∈ S x, v ∈ P
  pos : ∀ v k, zget Hs v = some k → 0 ≤ k
theorem FitOk.start (ns : List Str) (S : Str → List Int) {h : Int → Option Int} (pos : ∀ v k, h v = some k → 0 ≤ k) : FitOk ns S h [] :=
  ⟨List.Pairwise.nil, (fun _ h => nomatch h), (fun _ _ h => nomatch h), fun v k hk => by show ((0 : Nat) : Int) ≤ k; have := pos v k hk; omega⟩
section
variable {P : Program} {w : World} {K : PySem.W.Frag} {mg : Str → Option Value} {base : Heap}
abbrev sGr : Stmt := topS 13
abbrev nGr : List Str := ["box", "highs", "start", "fit", "name", "word", "content"]
theorem scGr : FnScope nGr ["box", "highs", "start"] (defScope sGr) := ⟨rfl, rfl, rfl, by decide +kernel, rfl, by decide +kernel, by decide +kernel⟩
def spGr : Sp := fun vs H Q _ => ∃ (b hd d : Addr) (L : List Ent) (Hs : List (Int × Int)) (S : Str → List Int) (P : List Int) (A0 : List (Str × Int)), vs = [.ref b, .ref hd, .ref d] ∧ Bu H b L ∧ H hd = some (.dK (zK V.int Hs)) ∧ H d = some (.dK (intK A0)) ∧ FitOk (L.map (·.1)) S (zget Hs) A0 ∧ b ≠ hd ∧ Wd L S Hs P ∧
  (∀ (H' : Hp) (T r : Addr) (c : List Str), Same H H' → H T = none → H' T = some (.tup [.str "crowd", .ref r]) → H r = none → H' r = some (.lst (c.map V.str)) → Crowd (zget Hs) S (L.map (·.1)) c → Q (.ref T) H') ∧
  (∀ (H' : Hp) (T r : Addr) (M : List (Str × Int)), Same H H' → H T = none → H' T = some (.tup [.str "fit", .ref r]) → H r = none → H' r = some (.dK (intK M)) → FitOk (L.map (·.1)) S (zget Hs) M → (∀ x ∈ L.map (·.1), x ∈ M.map (·.1)) → Q (.ref T) H')
theorem ok_Gr {f f0 : Addr} {fd fd0 : FuncData} (F : Fun K "_grown" "_grown" sGr f fd) (B : Bt mg) (CWn : Call P w K mg base 2 "_with_name" f0 fd0 ["box", "highs", "fit", "name"] spWn) :
    FnOk P w K mg base CX0 3 f fd ["box", "highs", "start"] spGr := by
  refine F.ok scGr (fun vs H Q E h => ?_) (fun cdv A outer s H vs Q E hr h => ?_)
  · obtain ⟨b, hd, d, L, Hs, S, P, A0, rfl, _⟩ := h
    rfl
  · obtain ⟨b, hd, d, L, Hs, S, PP, A0, rfl, bx, eh, ed, fo0, bhd, W, q1, q2⟩ := h
    have hu := hu_of hr
    have nd := scGr.nd
    refine ⟨_, pss_cons (ps_set (i := 3) nd rfl (.inl rfl) (pe_callTy call_dictD (by rfl) B.dict PyProof.Rows.boot_dict (pa_cons (pv 2) pa_nil)))
      (pss_cons (ps_lock (ps_for PassesOwn.never rfl (pi_keys (pv 0)) (pg_name (i := 4) nd rfl (.inl rfl))
        (pss_one (ps_if (pt_cmp (pc_dnotin hu (pv 4) (pv 3)))
            (pss_cons (ps_asg (pe_call CWn.ok (hr.mono (by decide)) (by rfl) CWn.at_ CWn.kp CWn.bd .nil pass0 (pa_cons (pv 0) (pa_cons (pv 1) (pa_cons (pv 3) (pa_cons (pv 4) pa_nil))))) (pg_tup (by rfl) (pgs_cons (pg_name (i := 5) nd rfl (.inl rfl)) (pgs_cons (pg_name (i := 6) nd rfl (.inl rfl)) pgs_nil))))
              (pss_cons (ps_if (pt_cmpR op_eq (pv 5) pe_str rfl)
                (pss_one (ps_ret (pe_tup (pa_cons pe_str (pa_cons (pv 6) pa_nil)))))
                pss_nil)
              (pss_one (ps_set (i := 3) nd rfl (.inl rfl) (pv 6)))))
            pss_nil))))
      (pss_one (ps_ret (pe_tup (pa_cons pe_str (pa_cons (pv 3) pa_nil)))))), ?_⟩
    have few := bx.few
    obtain ⟨ns, hns⟩ : ∃ ns, ns = L.map (·.1) := ⟨_, rfl⟩
    have lns : ns.length = L.length := by rw [hns, List.length_map]
    rw [← hns] at q1 q2 fo0
    have fitN : Fit L ns S := by rw [hns]; exact W.fit
    have inP : ∀ x ∈ ns, ∀ v ∈ S x, v ∈ PP := by rw [hns]; exact W.inP
    refine ⟨_, rfl, d, _, rfl, .inl ed, fun F nF => ?_⟩
    have s0 := same_new (o := HO.dK (intK A0)) nF
    have eF0 : (upd H F (.dK (intK A0))) F = some (.dK (intK A0)) := upd_same
    have bx0 := bx.same' s0
    have eh0 := s0 _ _ eh
    have bF : b ≠ F := fun z => by have := bx.un; rw [z, nF] at this; cases this
    generalize upd H F (.dK (intK A0)) = H0 at s0 eF0 bx0 eh0 ⊢
    refine ⟨b, _, bx0.un, trivial, fun od => ?_⟩
    have bxl := bx0.toBx.lock (od := od) bx0.un
    refine ⟨.ref b, rfl, b, od, rfl, .inl ⟨entK L, upd_same, for_it walk_keys (fun i σ H' => ∃ (A : List (Str × Int)) (F : Addr) (y4 y5 y6 : Option V), σ = [some (.ref b), some (.ref hd), some (.ref d), some (.ref F), y4, y5, y6] ∧ Same (upd H0 b (.frz od (.dK (entK L)))) H' ∧ H' F = some (.dK (intK A)) ∧ H F = none ∧ FitOk ns S (zget Hs) A ∧ (∀ x ∈ ns.take i, x ∈ A.map (·.1)))
      ⟨A0, F, none, none, none, rfl, (fun _ _ h => h), by rw [upd_ne bF.symm]; exact eF0, nF, fo0, (fun _ h => nomatch h)⟩ (fun i σ H' _ h => by obtain ⟨_, _, _, _, _, _, e, _⟩ := h; exact e _ _ upd_same) ?_ ?_⟩⟩
    · rintro i x σ H1 H2 hi ⟨A', F', y4, y5, y6, rfl, s1, eF, nF', fo, tak⟩ ⟨rfl, k1, v1, hk, rfl⟩
      obtain ⟨e, he, rfl, rfl⟩ := keys_at hk
      have hx : ns[i]? = some e.1 := by rw [hns, List.getElem?_map, he] <;> rfl
      have xn := List.mem_of_getElem? hx
      have gv := Ax.get (H := H2) (d := F') (A := A') ⟨.inl eF⟩ e.1
      have eb1 := s1 _ _ (upd_same (H := H0) (a := b) (o := HO.frz od (.dK (entK L))))
      refine ⟨_, rfl, _, rfl, F', _, rfl, gv, _, rfl, ite_both (fun cn => ?_) fun cn => ?_⟩
      · have nx : e.1 ∉ A'.map (·.1) := fun z => by
          have := aget_mem.mpr z
          cases q : aget A' e.1 with
          | none => rw [q] at this; cases this
          | some y => rw [q] at cn; cases cn
        have eh2 : H2 hd = some (.dK (zK V.int Hs)) := s1 _ _ (by rw [upd_ne bhd.symm]; exact eh0)
        have un : ∀ {H3 : Hp}, Same H2 H3 → Same H (upd H3 b (.dK (entK L))) ∧ H3 b = some (.frz od (.dK (entK L))) := fun s => ⟨s0.trans (unlock bx0.un (s1.trans s)), s _ _ eb1⟩
        have frH : ∀ {q : Addr}, H2 q = none → H q = none := fun {q} n => by
          have qb : q ≠ b := fun z => by rw [z, eb1] at n; cases n
          have := s1.free n
          rw [upd_ne qb] at this
          exact s0.free this
        refine ⟨_, rfl, _, rfl, _, rfl, _, rfl, b, hd, F', e.1, L, Hs, A', S, ns, PP, rfl, bxl.same s1, fitN, eh2, eF, fo, nx, xn, by omega, W.pp, inP, fun H3 T r c s3 nT eT nr er wi cr => ?_, fun H3 T r M s3 nT eT nr er wi fM kM nM => ?_⟩
        · refine ⟨T, _, rfl, .inl (.inl eT), rfl, _, _, rfl, _, _, rfl, rfl, ?_⟩
          refine ⟨_, rfl, rfl, _, rfl, ite_both (fun _ => ?_) fun c => absurd (decide_eq_true rfl) (by rw [c]; decide)⟩
          refine ⟨_, rfl, by show 2 ≤ sizeLine; decide, fun Y nY => ?_⟩
          have t := same_new (o := HO.tup [.str "crowd", .ref r]) nY
          obtain ⟨u1, u2⟩ := un (s3.trans t)
          have Yb : Y ≠ b := fun z => by rw [z, s3 _ _ eb1] at nY; cases nY
          have rb : r ≠ b := fun z => by rw [z, eb1] at nr; cases nr
          exact ⟨u2, q1 _ Y r c u1 (frH (s3.free nY)) (by rw [upd_ne Yb, upd_same]) (frH nr) (by rw [upd_ne rb]; exact t _ _ er) cr⟩
        · refine ⟨T, _, rfl, .inl (.inl eT), rfl, _, _, rfl, _, _, rfl, rfl, ?_⟩
          refine ⟨_, rfl, rfl, _, rfl, ite_both (fun c => absurd c (by decide +kernel)) fun _ => ?_⟩
          refine ⟨_, rfl, M, r, _, _, _, rfl, s1.trans s3, er, frH nr, fM, fun u hu => ?_⟩
          rw [take_snoc hx] at hu
          rcases List.mem_append.mp hu with h | h
          · exact kM u (tak u h)
          · rw [List.mem_singleton.mp h]; exact nM
      · have nx : e.1 ∈ A'.map (·.1) := by
          refine Decidable.byContradiction fun z => ?_
          rw [aget_none z] at cn; cases cn
        refine ⟨A', F', _, y5, y6, rfl, s1, eF, nF', fo, fun u hu => ?_⟩
        rw [take_snoc hx] at hu
        rcases List.mem_append.mp hu with h | h
        · exact tak u h
        · rw [List.mem_singleton.mp h]; exact nx
    · rintro σ H1 ⟨A', F', y4, y5, y6, rfl, s1, eF, nF', fo, tak⟩
      have eb1 := s1 _ _ (upd_same (H := H0) (a := b) (o := HO.frz od (.dK (entK L))))
      rw [entK_len, ← lns, List.take_length] at tak
      refine ⟨eb1, ?_⟩
      refine ⟨_, rfl, by show 2 ≤ sizeLine; decide, fun Y nY => ?_⟩
      have s3 := s0.trans (unlock bx0.un s1)
      have Fb : F' ≠ b := fun z => by rw [z, eb1] at eF; cases eF
      have eF3 : (upd H1 b (.dK (entK L))) F' = some (.dK (intK A')) := by rw [upd_ne Fb]; exact eF
      have t := same_new (o := HO.tup [.str "fit", .ref F']) nY
      exact q2 _ Y F' A' (s3.trans t) (s3.free nY) upd_same nF' (t _ _ eF3) fo tak
end
end K22
set_option Elab.async false
set_option linter.all false
set_option maxRecDepth 100000
set_option maxHeartbeats 4000000
namespace K22
open PySem PySem.Spec PyProof.Rows L2 Cs CsX
/-! ### the search -/
structure Se where
  W : List Int
  G : List (Int × Str)
  C : List (Str × Int)
section
variable (A : List (Str × Int)) (S : Str → List Int)
def hit (s : Se) (w : Int) (x : Str) : Bool := decide (x ∉ s.C.map (·.1)) && decide (w ∈ S x)
def scan (w : Int) (s : Se) : List Str → (Se × Str) ⊕ Se
  | [] => .inr s
  | x :: xs => if hit S s w x = true then
      match aget A x with
      | none => .inl (⟨s.W, s.G, s.C ++ [(x, w)]⟩, x)
      | some u => if u ∈ s.W then scan w ⟨s.W, s.G, s.C ++ [(x, w)]⟩ xs else scan w ⟨s.W ++ [u], s.G ++ [(u, x)], s.C ++ [(x, w)]⟩ xs
    else scan w s xs
inductive LRun (ns : List Str) : Se → Nat → (Se × Str) ⊕ List Int → Prop
  | stop {s : Se} {p : Nat} : s.W.length ≤ p → LRun ns s p (.inr s.W)
  | found {s : Se} {p : Nat} {w : Int} {r : Se × Str} : s.W[p]? = some w → scan A S w s ns = .inl r → LRun ns s p (.inl r)
  | more {s t : Se} {p : Nat} {w : Int} {r : (Se × Str) ⊕ List Int} : s.W[p]? = some w → scan A S w s ns = .inr t → LRun ns t (p + 1) r → LRun ns s p r
inductive LUp (s : Se) : List (Str × Int) → Option Str → List (Str × Int) → Prop
  | done {M : List (Str × Int)} : LUp s M none M
  | step {M M' : List (Str × Int)} {w : Int} {x : Str} : aget s.C x = some w → LUp s (putA M x w) (zget s.G w) M' → LUp s M (some x) M'
inductive LWit (ns : List Str) (v : Int) : List (Str × Int) ⊕ List Int → Prop
  | want {W : List Int} : LRun A S ns ⟨[v], [], []⟩ 0 (.inr W) → LWit ns v (.inr W)
  | fit {s : Se} {x : Str} {M : List (Str × Int)} : LRun A S ns ⟨[v], [], []⟩ 0 (.inl (s, x)) → LUp s A (some x) M → LWit ns v (.inl M)
end
inductive Sup (S : Str → List Int) (ns : List Str) : List (Int × Int) → List (Str × Int) → List (Str × Int) ⊕ List Int → Prop
  | nil {A : List (Str × Int)} : Sup S ns [] A (.inl A)
  | next {A : List (Str × Int)} {v k : Int} {hs : List (Int × Int)} {r : List (Str × Int) ⊕ List Int} : k ≤ (cnt A v : Int) → Sup S ns hs A r → Sup S ns ((v, k) :: hs) A r
  | fit {A M : List (Str × Int)} {v k : Int} {hs : List (Int × Int)} {r : List (Str × Int) ⊕ List Int} : (cnt A v : Int) < k → LWit A S ns v (.inl M) → Sup S ns ((v, k) :: hs) M r → Sup S ns ((v, k) :: hs) A r
  | want {A : List (Str × Int)} {v k : Int} {hs : List (Int × Int)} {W : List Int} : (cnt A v : Int) < k → LWit A S ns v (.inr W) → Sup S ns ((v, k) :: hs) A (.inr W)
section
variable {A : List (Str × Int)} {S : Str → List Int} {ns : List Str}
theorem LRun.one {s : Se} {p : Nat} {r q : (Se × Str) ⊕ List Int} (a : LRun A S ns s p r) (b : LRun A S ns s p q) : r = q := by
  induction a with
  | stop h1 =>
    cases b with
    | stop h2 => rfl
    | found h2 _ => have := (List.getElem?_eq_some_iff.mp h2).1; omega
    | more h2 _ _ => have := (List.getElem?_eq_some_iff.mp h2).1; omega
  | found h1 h2 =>
    cases b with
    | stop h3 => have := (List.getElem?_eq_some_iff.mp h1).1; omega
    | found h3 h4 =>
      obtain rfl := Option.some.inj (h1.symm.trans h3)
      rw [h2] at h4; rw [Sum.inl.inj h4]
    | more h3 h4 _ =>
      obtain rfl := Option.some.inj (h1.symm.trans h3)
      rw [h2] at h4; cases h4
  | more h1 h2 _ ih =>
    cases b with
    | stop h3 => have := (List.getElem?_eq_some_iff.mp h1).1; omega
    | found h3 h4 =>
      obtain rfl := Option.some.inj (h1.symm.trans h3)
      rw [h2] at h4; cases h4
    | more h3 h4 r2 =>
      obtain rfl := Option.some.inj (h1.symm.trans h3)
      rw [h2] at h4
      obtain rfl := Sum.inr.inj h4
      exact ih r2
theorem LUp.one {s : Se} {M N N' : List (Str × Int)} {o : Option Str} (a : LUp s M o N) (b : LUp s M o N') : N = N' := by
  induction a with
  | done => cases b; rfl
  | step h1 _ ih =>
    cases b with
    | step h2 r2 =>
      obtain rfl := Option.some.inj (h1.symm.trans h2)
      exact ih r2
theorem LWit.one {v : Int} {r q : List (Str × Int) ⊕ List Int} (a : LWit A S ns v r) (b : LWit A S ns v q) : r = q := by
  cases a with
  | want r1 =>
    cases b with
    | want r2 => rw [Sum.inr.inj (r1.one r2)]
    | fit r2 _ => cases r1.one r2
  | fit r1 u1 =>
    cases b with
    | want r2 => cases r1.one r2
    | fit r2 u2 =>
      have := Sum.inl.inj (r1.one r2)
      obtain ⟨rfl, rfl⟩ := Prod.mk.inj this
      rw [u1.one u2]
theorem Sup.one {hs : List (Int × Int)} {r q : List (Str × Int) ⊕ List Int} (a : Sup S ns hs A r) (b : Sup S ns hs A q) : r = q := by
  induction a with
  | nil => cases b; rfl
  | next h1 _ ih =>
    cases b with
    | next _ r2 => exact ih r2
    | fit h2 _ _ => omega
    | want h2 _ => omega
  | fit h1 w1 _ ih =>
    cases b with
    | next h2 _ => omega
    | fit _ w2 r2 =>
      obtain rfl := Sum.inl.inj (w1.one w2)
      exact ih r2
    | want _ w2 => cases w1.one w2
  | want h1 w1 =>
    cases b with
    | next h2 _ => omega
    | fit _ w2 _ => cases w1.one w2
    | want _ w2 => rw [Sum.inr.inj (w1.one w2)]
end
/-! ### what holds -/
structure LFit (ns : List Str) (S : Str → List Int) (h : Int → Option Int) (A : List (Str × Int)) : Prop where
  nd : (A.map (·.1)).Nodup
  sub : ∀ x ∈ A.map (·.1), x ∈ ns
  inS : ∀ x v, aget A x = some v → v ∈ S x
  le : ∀ v k, h v = some k → (cnt A v : Int) ≤ k
  inK : ∀ x v, aget A x = some v → (h v).isSome = true
structure Ck (A : List (Str × Int)) (h : Int → Option Int) (S : Str → List Int) (ns : List Str) (v0 : Int) (s : Se) : Prop where
  wnd : s.W.Nodup
  whd : s.W[0]? = some v0
  gk : s.G.map (·.1) = s.W.drop 1
  cnd : (s.C.map (·.1)).Nodup
  cl : ∀ x w, aget s.C x = some w → x ∈ ns ∧ w ∈ S x ∧ ∃ j : Nat, s.W[j]? = some w
  gv : ∀ w n, zget s.G w = some n → aget A n = some w ∧ ∃ (i j : Nat) (u : Int), s.W[i]? = some w ∧ aget s.C n = some u ∧ s.W[j]? = some u ∧ j < i
  inK : ∀ w ∈ s.W, (h w).isSome = true
/-- all who are called have taken a wanted value -/
def Tk (A : List (Str × Int)) (s : Se) : Prop := ∀ x ∈ s.C.map (·.1), ∃ u, aget A x = some u ∧ u ∈ s.W
section
variable {A : List (Str × Int)} {h : Int → Option Int} {S : Str → List Int} {ns : List Str} {v0 w : Int} {x : Str} {s : Se}
theorem Ck.start (hv : (h v0).isSome = true) : Ck A h S ns v0 ⟨[v0], [], []⟩ ∧ Tk A ⟨[v0], [], []⟩ :=
  ⟨⟨List.pairwise_singleton _ _, rfl, rfl, List.Pairwise.nil, (fun _ _ h => nomatch h), (fun _ _ h => nomatch h), fun w hw => by rw [List.mem_singleton.mp hw]; exact hv⟩, fun _ h => nomatch h⟩
theorem Ck.call (I : Ck A h S ns v0 s) (hx : x ∈ ns) (hw : w ∈ S x) (ww : w ∈ s.W) (nx : x ∉ s.C.map (·.1)) : Ck A h S ns v0 ⟨s.W, s.G, s.C ++ [(x, w)]⟩ := by
  have get : ∀ y, aget (s.C ++ [(x, w)]) y = if x = y then some w else aget s.C y := fun y => aget_app nx y
  refine ⟨I.wnd, I.whd, I.gk, by rw [List.map_append]; exact nd_snoc I.cnd nx, fun y u hy => ?_, fun u n hn => ?_, I.inK⟩
  · replace hy : aget (s.C ++ [(x, w)]) y = some u := hy
    rw [get] at hy
    split at hy
    · next z => obtain rfl := Option.some.inj hy; rw [← z]; exact ⟨hx, hw, List.mem_iff_getElem?.mp ww⟩
    · exact I.cl y u hy
  · obtain ⟨h1, i, j, t, h2, h3, h4, h5⟩ := I.gv u n hn
    have : x ≠ n := fun z => nx (aget_mem.mp (by rw [z, h3] <;> rfl))
    exact ⟨h1, i, j, t, h2, by show aget (s.C ++ [(x, w)]) n = _; rw [get, if_neg this]; exact h3, h4, h5⟩
theorem Ck.add (F : LFit ns S h A) (I : Ck A h S ns v0 s) (hx : x ∈ ns) (hw : w ∈ S x) (ww : w ∈ s.W) (nx : x ∉ s.C.map (·.1)) {u : Int} (hu : aget A x = some u) (nu : u ∉ s.W) : Ck A h S ns v0 ⟨s.W ++ [u], s.G ++ [(u, x)], s.C ++ [(x, w)]⟩ := by
  have J := I.call hx hw ww nx
  have w0 : 0 < s.W.length := (List.getElem?_eq_some_iff.mp I.whd).1
  have gk : (s.G ++ [(u, x)]).map (·.1) = (s.W ++ [u]).drop 1 := by
    rw [List.map_append, I.gk, List.drop_append_of_le_length (by omega)] <;> rfl
  have up : ∀ {i : Nat} {t : Int}, s.W[i]? = some t → (s.W ++ [u])[i]? = some t := fun {i t} h => by rw [List.getElem?_append_left (List.getElem?_eq_some_iff.mp h).1]; exact h
  refine ⟨nd_snoc I.wnd nu, up I.whd, gk, J.cnd, fun y t hy => ?_, fun t n hn => ?_, fun t ht => ?_⟩
  · obtain ⟨h1, h2, j, h3⟩ := J.cl y t hy
    exact ⟨h1, h2, j, up h3⟩
  · replace hn : zget (s.G ++ [(u, x)]) t = some n := hn
    have gn : u ∉ s.G.map (·.1) := by rw [I.gk]; exact fun z => nu (List.mem_of_mem_drop z)
    have split_ : zget (s.G ++ [(u, x)]) t = if u = t then some x else zget s.G t := by
      clear hn gk
      generalize s.G = G at gn
      induction G with
      | nil => rw [List.nil_append, zget_cons] <;> rfl
      | cons e G ih =>
        rw [List.cons_append, zget_cons, zget_cons, ih fun z => gn (List.mem_cons_of_mem _ z)]
        by_cases c : e.1 = t
        · rw [if_pos c, if_pos c]
          by_cases d : u = t
          · exact absurd (by rw [d, ← c]; exact List.mem_cons_self) gn
          · rw [if_neg d]
        · rw [if_neg c, if_neg c]
    rw [split_] at hn
    split at hn
    · next z =>
      obtain rfl := Option.some.inj hn
      subst z
      obtain ⟨j, hj⟩ := List.mem_iff_getElem?.mp ww
      refine ⟨hu, s.W.length, j, w, by rw [List.getElem?_append_right (Nat.le_refl _), Nat.sub_self] <;> rfl, ?_, up hj, (List.getElem?_eq_some_iff.mp hj).1⟩
      show aget (s.C ++ [(x, w)]) x = some w
      rw [aget_app nx, if_pos rfl]
    · obtain ⟨h1, i, j, q, h2, h3, h4, h5⟩ := J.gv t n hn
      exact ⟨h1, i, j, q, up h2, h3, up h4, h5⟩
  · rcases List.mem_append.mp ht with z | z
    · exact I.inK t z
    · rw [List.mem_singleton.mp z]; exact F.inK x u hu
theorem Tk.call (T : Tk A s) {u : Int} (hu : aget A x = some u) (hw : u ∈ s.W) : Tk A ⟨s.W, s.G, s.C ++ [(x, w)]⟩ := fun y hy => by
  replace hy : y ∈ (s.C ++ [(x, w)]).map (·.1) := hy
  rw [List.map_append] at hy
  rcases List.mem_append.mp hy with z | z
  · exact T y z
  · rw [List.mem_singleton.mp z]; exact ⟨u, hu, hw⟩
theorem Tk.add (T : Tk A s) {u : Int} (hu : aget A x = some u) : Tk A ⟨s.W ++ [u], s.G ++ [(u, x)], s.C ++ [(x, w)]⟩ := fun y hy => by
  replace hy : y ∈ (s.C ++ [(x, w)]).map (·.1) := hy
  rw [List.map_append] at hy
  rcases List.mem_append.mp hy with z | z
  · obtain ⟨t, h1, h2⟩ := T y z
    exact ⟨t, h1, List.mem_append_left _ h2⟩
  · rw [List.mem_singleton.mp z]; exact ⟨u, hu, List.mem_append_right _ (List.mem_singleton.mpr rfl)⟩
end
/-- too many are wanted -/
structure Want (h : Int → Option Int) (S : Str → List Int) (ns : List Str) (W : List Int) : Prop where
  nd : W.Nodup
  inK : ∀ w ∈ W, (h w).isSome = true
  few : ((ns.filter fun x => (S x).any fun v => decide (v ∈ W)).length : Int) < (W.map fun w => (h w).getD 0).sum
def ltot (A : List (Str × Int)) : List Int → Nat
  | [] => 0
  | v :: vs => cnt A v + ltot A vs
section
variable {A : List (Str × Int)} {h : Int → Option Int} {S : Str → List Int} {ns : List Str} {v0 w : Int} {x : Str} {s : Se}
theorem tot_in {A : List (Str × Int)} : ∀ {W : List Int}, W.Nodup → (A.filter fun e => decide (e.2 ∈ W)).length = ltot A W := by
  intro W
  induction A with
  | nil =>
    intro _
    induction W with
    | nil => rfl
    | cons w W ih2 => show 0 = cnt [] w + ltot [] W; rw [← ih2 (by rename_i n; exact (List.nodup_cons.mp n).2)] <;> rfl
  | cons e A ih =>
    intro nd
    have key : ∀ W : List Int, W.Nodup → ltot (e :: A) W = (if e.2 ∈ W then 1 else 0) + ltot A W := by
      intro W nd
      induction W with
      | nil => rfl
      | cons w W ih2 =>
        obtain ⟨n1, n2⟩ := List.nodup_cons.mp nd
        show cnt (e :: A) w + ltot (e :: A) W = _ + (cnt A w + ltot A W)
        rw [ih2 n2, cnt_cons]
        by_cases c : e.2 = w
        · have : e.2 ∉ W := fun z => n1 (c ▸ z)
          simp [c, n1]; omega
        · simp [c]; omega
    rw [key W nd, List.filter_cons]
    by_cases c : e.2 ∈ W
    · rw [if_pos (decide_eq_true c), if_pos c, List.length_cons, ih nd]; omega
    · rw [if_neg (by simpa using c), if_neg c, ih nd]; omega
theorem Ck.want (F : LFit ns S h A) (nn : ns.Nodup) (I : Ck A h S ns v0 s) (T : Tk A s) (lt : ∃ k, h v0 = some k ∧ (cnt A v0 : Int) < k) (all : ∀ x ∈ ns, ∀ w ∈ s.W, w ∈ S x → x ∈ s.C.map (·.1)) : Want h S ns s.W := by
  refine ⟨I.wnd, I.inK, ?_⟩
  have h1 : (ns.filter fun x => (S x).any fun v => decide (v ∈ s.W)).length ≤ (A.filter fun e => decide (e.2 ∈ s.W)).length := by
    rw [← List.length_map (f := fun e : Str × Int => e.1) (as := A.filter _)]
    refine List.Nodup.length_le_of_subset (List.Nodup.sublist List.filter_sublist nn) fun x hx => ?_
    obtain ⟨h1, h2⟩ := List.mem_filter.mp hx
    obtain ⟨v, hv, hw⟩ := List.any_eq_true.mp h2
    obtain ⟨u, e1, e2⟩ := T x (all x h1 v (of_decide_eq_true hw) hv)
    exact List.mem_map.mpr ⟨(x, u), List.mem_filter.mpr ⟨(aget_iff F.nd x u).mp e1, decide_eq_true e2⟩, rfl⟩
  rw [tot_in I.wnd] at h1
  obtain ⟨k0, hk0, lt0⟩ := lt
  have key : ∀ W : List Int, (∀ w ∈ W, (h w).isSome = true) → (ltot A W : Int) ≤ (W.map fun w => (h w).getD 0).sum ∧ (v0 ∈ W → (ltot A W : Int) < (W.map fun w => (h w).getD 0).sum) := by
    intro W
    induction W with
    | nil => intro _; exact ⟨Int.le_refl _, fun z => nomatch z⟩
    | cons w W ih =>
      intro hW
      obtain ⟨i1, i2⟩ := ih fun u hu => hW u (List.mem_cons_of_mem _ hu)
      obtain ⟨k, hk⟩ := Option.isSome_iff_exists.mp (hW w List.mem_cons_self)
      have le := F.le w k hk
      rw [List.map_cons, List.sum_cons, hk]
      show ((cnt A w + ltot A W : Nat) : Int) ≤ k + _ ∧ (_ → ((cnt A w + ltot A W : Nat) : Int) < k + _)
      refine ⟨by omega, fun z => ?_⟩
      rcases List.mem_cons.mp z with q | q
      · subst q
        rw [hk0] at hk
        obtain rfl := Option.some.inj hk
        omega
      · have := i2 q; omega
  have := (key s.W I.inK).2 (List.mem_of_getElem? I.whd)
  omega
end
/-! ### calling up -/
structure LUpI (A : List (Str × Int)) (S : Str → List Int) (ns : List Str) (v0 : Int) (s : Se) (M : List (Str × Int)) (pn : Option Str) : Prop where
  nd : (M.map (·.1)).Nodup
  sub : ∀ x ∈ M.map (·.1), x ∈ ns
  inS : ∀ x v, aget M x = some v → v ∈ S x
  inW : ∀ x v, aget M x = some v → aget A x = some v ∨ v ∈ s.W
  cs : ∀ x, pn = some x → (∀ u, cnt M u = cnt A u + (if aget A x = some u then 1 else 0)) ∧ ∃ (w : Int) (j : Nat), aget s.C x = some w ∧ s.W[j]? = some w ∧ ∀ y u i, aget s.C y = some u → s.W[i]? = some u → i ≤ j → aget M y = aget A y
  cn : pn = none → ∀ u, cnt M u = cnt A u + (if u = v0 then 1 else 0)
section
variable {A M : List (Str × Int)} {h : Int → Option Int} {S : Str → List Int} {ns : List Str} {v0 w : Int} {x : Str} {s : Se}
theorem LUpI.start (F : LFit ns S h A) (I : Ck A h S ns v0 s) (hx : aget s.C x = some w) (nx : aget A x = none) : LUpI A S ns v0 s A (some x) := by
  obtain ⟨_, _, j, hj⟩ := I.cl x w hx
  refine ⟨F.nd, F.sub, F.inS, fun y v hy => .inl hy, fun y hy => ?_, fun z => nomatch z⟩
  obtain rfl := Option.some.inj hy
  exact ⟨fun u => by rw [nx] <;> rfl, w, j, hx, hj, fun _ _ _ _ _ _ => rfl⟩
theorem LUpI.step (I : Ck A h S ns v0 s) (U : LUpI A S ns v0 s M (some x)) : ∃ (w : Int) (j : Nat), aget s.C x = some w ∧ s.W[j]? = some w ∧ LUpI A S ns v0 s (putA M x w) (zget s.G w) ∧ ∀ n, zget s.G w = some n → ∃ (u : Int) (i : Nat), aget s.C n = some u ∧ s.W[i]? = some u ∧ i < j := by
  obtain ⟨cs, w, j, hx, hj, un⟩ := U.cs x rfl
  obtain ⟨c1, c2, _⟩ := I.cl x w hx
  have unx := un x w j hx hj (Nat.le_refl _)
  have cn : ∀ u, cnt (putA M x w) u = cnt A u + (if u = w then 1 else 0) := fun u => by
    have h1 := cnt_put U.nd x w u
    have h2 := cs u
    rw [unx] at h1
    omega
  have low : ∀ n, zget s.G w = some n → ∃ (u : Int) (i : Nat), aget s.C n = some u ∧ s.W[i]? = some u ∧ i < j := fun n hn => by
    obtain ⟨_, i, i2, u, h2, h3, h4, h5⟩ := I.gv w n hn
    have := nd_ix I.wnd h2 hj
    exact ⟨u, i2, h3, h4, by omega⟩
  refine ⟨w, j, hx, hj, ⟨putA_nd U.nd, fun y hy => ?_, fun y u hy => ?_, fun y u hy => ?_, fun n hn => ?_, fun hn u => ?_⟩, low⟩
  · rcases putA_mem.mp hy with z | z
    · rw [z]; exact c1
    · exact U.sub y z
  · rw [aget_put] at hy
    split at hy
    · next z => rw [← Option.some.inj hy, ← z]; exact c2
    · exact U.inS y u hy
  · rw [aget_put] at hy
    split at hy
    · rw [← Option.some.inj hy]; exact .inr (List.mem_of_getElem? hj)
    · exact U.inW y u hy
  · obtain ⟨g1, _⟩ := I.gv w n hn
    obtain ⟨u, i, e1, e2, e3⟩ := low n hn
    refine ⟨fun t => ?_, u, i, e1, e2, fun y q k hy hk ki => ?_⟩
    · rw [cn t, g1]
      by_cases c : t = w
      · rw [if_pos c, if_pos (by rw [c])]
      · rw [if_neg c, if_neg fun z => c (Option.some.inj z).symm]
    · have xy : x ≠ y := fun z => by
        subst z
        rw [hx] at hy
        obtain rfl := Option.some.inj hy
        have := nd_ix I.wnd hk hj
        omega
      rw [aget_put, if_neg xy]
      exact un y q k hy hk (by omega)
  · have w0 : w = v0 := by
      refine Decidable.byContradiction fun z => ?_
      have : w ∈ s.W.drop 1 := by
        cases j with
        | zero => rw [I.whd] at hj; exact absurd (Option.some.inj hj).symm z
        | succ j =>
          refine List.mem_iff_getElem?.mpr ⟨j, ?_⟩
          rw [List.getElem?_drop, Nat.add_comm]; exact hj
      rw [← I.gk] at this
      have := zmem.mpr this
      rw [hn] at this; cases this
    rw [cn u, w0]
theorem LUpI.done (F : LFit ns S h A) (I : Ck A h S ns v0 s) (lt : ∃ k, h v0 = some k ∧ (cnt A v0 : Int) < k) (U : LUpI A S ns v0 s M none) : LFit ns S h M ∧ cnt M v0 = cnt A v0 + 1 ∧ ∀ u, u ≠ v0 → cnt M u = cnt A u := by
  have cn := U.cn rfl
  refine ⟨⟨U.nd, U.sub, U.inS, fun u k hk => ?_, fun x v hx => ?_⟩, by rw [cn, if_pos rfl], fun u hu => by rw [cn, if_neg hu, Nat.add_zero]⟩
  · rw [cn u]
    by_cases c : u = v0
    · subst c
      obtain ⟨k0, hk0, l0⟩ := lt
      rw [hk0] at hk
      obtain rfl := Option.some.inj hk
      rw [if_pos rfl]; omega
    · rw [if_neg c]
      exact F.le u k hk
  · rcases U.inW x v hx with z | z
    · exact F.inK x v z
    · exact I.inK v z
end
end K22
set_option Elab.async false
set_option linter.all false
set_option maxRecDepth 100000
set_option maxHeartbeats 4000000
namespace K22
open PySem PySem.Spec PyProof.Rows L2 Cs CsX
def optS : Option Str → V
  | none => .non
  | some v => .str v
theorem optS_get (o : Option Str) : (o.map V.str).getD .non = optS o := by cases o <;> rfl
theorem LFit.few {ns : List Str} {S : Str → List Int} {h : Int → Option Int} {A : List (Str × Int)} (F : LFit ns S h A) : A.length ≤ ns.length := by
  have := List.Nodup.length_le_of_subset F.nd fun x hx => F.sub x hx
  rwa [List.length_map] at this
section
variable {P : Program} {w : World} {K : PySem.W.Frag} {mg : Str → Option Value} {base : Heap}
abbrev sCu : Stmt := topS 18
abbrev nCu : List Str := ["fit", "callers", "giving", "name", "moved"]
theorem scCu : FnScope nCu ["fit", "callers", "giving", "name"] (defScope sCu) := ⟨rfl, rfl, rfl, by decide +kernel, rfl, by decide +kernel, by decide +kernel⟩
def spCu : Sp := fun vs H Q _ => ∃ (d b g : Addr) (x : Str) (A : List (Str × Int)) (s : Se) (S : Str → List Int) (ns : List Str) (v0 w : Int) (h : Int → Option Int), vs = [.ref d, .ref b, .ref g, .str x] ∧ H d = some (.dK (intK A)) ∧ H b = some (.dK (intK s.C)) ∧ H g = some (.dK (zK V.str s.G)) ∧ Ck A h S ns v0 s ∧ LFit ns S h A ∧ aget s.C x = some w ∧ aget A x = none ∧ ns.length ≤ 40 ∧ (∃ k, h v0 = some k ∧ (cnt A v0 : Int) < k) ∧
  ∀ (H' : Hp) (r : Addr) (M : List (Str × Int)), Same H H' → H r = none → H' r = some (.dK (intK M)) → LUp s A (some x) M → LFit ns S h M → cnt M v0 = cnt A v0 + 1 → (∀ u, u ≠ v0 → cnt M u = cnt A u) → Q (.ref r) H'
theorem ok_Cu {f  : Addr} {fd  : FuncData} (F : Fun K "_called_up" "_called_up" sCu f fd) (B : Bt mg) :
    FnOk P w K mg base CX0 1 f fd ["fit", "callers", "giving", "name"] spCu := by
  refine F.ok scCu (fun vs H Q E h => ?_) (fun cdv A outer s H vs Q E hr h => ?_)
  · obtain ⟨d, b, g, x, A, s, S, ns, v0, w, h, rfl, _⟩ := h
    rfl
  · obtain ⟨d, b, g, x, A', sk, S, ns, v0, w0, h, rfl, ed, eb, eg, I1, F1, hx, nx, few, lt, q⟩ := h
    have hu := hu_of hr
    have nd := scCu.nd
    refine ⟨_, pss_cons (ps_set (i := 4) nd rfl (.inl rfl) (pe_callTy call_dictD (by rfl) B.dict PyProof.Rows.boot_dict (pa_cons (pv 0) pa_nil)))
      (pss_cons (ps_while PassesOwn.never (pt_cmp (pc_notN (pv 3)))
        (pss_cons (ps_dput hu (pv 4) (pv 3) (pe_dget hu (pv 1) (pv 3) (fun _ _ => rfl)) rfl)
          (pss_one (ps_set (i := 3) nd rfl (.inl rfl) (pe_dget1 hu (pv 2) (pe_dget hu (pv 1) (pv 3) (fun _ _ => rfl)) ⟨rfl, rfl, rfl, rfl⟩)))))
      (pss_one (ps_ret (pv 4)))), ?_⟩
    refine ⟨_, rfl, d, _, rfl, .inl ed, fun R nR => ?_⟩
    refine ⟨fun n σ H' => ∃ (M : List (Str × Int)) (pn : Option Str), ((pn = none ∧ n = 0) ∨ ∃ (x : Str) (w : Int) (i : Nat), pn = some x ∧ aget sk.C x = some w ∧ sk.W[i]? = some w ∧ n = i + 1) ∧ σ = [some (.ref d), some (.ref b), some (.ref g), some (optS pn), some (.ref R)] ∧ Same H H' ∧ H' R = some (.dK (intK M)) ∧ LUpI A' S ns v0 sk M pn ∧ ∀ N, LUp sk M pn N → LUp sk A' (some x) N, ?start, ?_⟩
    case start =>
      obtain ⟨_, _, j, hj⟩ := I1.cl x w0 hx
      exact ⟨_, A', some x, .inr ⟨x, w0, j, rfl, hx, hj, rfl⟩, rfl, same_new nR, upd_same, LUpI.start F1 I1 hx nx, fun N h => h⟩
    rintro n σ H1 ⟨M, pn, hn, rfl, s1, eR, U, up⟩
    cases pn with
    | none =>
      refine ⟨_, rfl, _, rfl, ?_⟩
      refine ite_both (fun c => absurd c (by decide)) fun _ => ?_
      obtain ⟨f1, f2, f3⟩ := U.done F1 I1 lt
      exact ⟨_, rfl, q _ R M s1 nR eR (up M .done) f1 f2 f3⟩
    | some y =>
      obtain ⟨w, j, hw, hj, U2, low⟩ := U.step I1
      have hn' : n = j + 1 := by
        rcases hn with ⟨z, _⟩ | ⟨y', w', i', z, h1, h2, h3⟩
        · cases z
        · obtain rfl := Option.some.inj z
          rw [hw] at h1
          obtain rfl := Option.some.inj h1
          have := nd_ix I1.wnd hj h2
          omega
      refine ⟨_, rfl, _, rfl, ?_⟩
      refine ite_both (fun _ => ?_) fun c => absurd c (by rw [show decide (optS (some y) = V.non) = false from decide_eq_false (fun z => nomatch z)]; decide)
      refine ⟨fun σ' H' => ∃ (n' : Nat) (M : List (Str × Int)) (pn : Option Str), n' < n ∧ ((pn = none ∧ n' = 0) ∨ ∃ (x : Str) (w : Int) (i : Nat), pn = some x ∧ aget sk.C x = some w ∧ sk.W[i]? = some w ∧ n' = i + 1) ∧ σ' = [some (.ref d), some (.ref b), some (.ref g), some (optS pn), some (.ref R)] ∧ Same H H' ∧ H' R = some (.dK (intK M)) ∧ LUpI A' S ns v0 sk M pn ∧ ∀ N, LUp sk M pn N → LUp sk A' (some x) N, ?_, ?_⟩
      · rintro σ' H' ⟨n', M', pn', h1, h2, h3, h4, h5, h6, h7⟩
        exact ⟨n', h1, M', pn', h2, h3, h4, h5, h6, h7⟩
      have gb := Ax.get (H := H1) (d := b) (A := sk.C) ⟨.inl (s1 _ _ eb)⟩ y
      rw [hw] at gb
      have lM : M.length ≤ ns.length := by
        have := List.Nodup.length_le_of_subset U.nd fun x hx => U.sub x hx
        rwa [List.length_map] at this
      refine ⟨_, rfl, _, rfl, b, .int w, rfl, gb, _, rfl, _, rfl, R, _, rfl, DPut.k (k := .inr y) eR (by rw [intK_len]; exact small1000 (by omega)), ?_⟩
      rw [show putK (intK M) (Sum.inr y) (V.int w) = intK (putA M y w) from putK_int M y w]
      have s2 := same_at s1 nR (o := HO.dK (intK (putA M y w)))
      have gb2 := Ax.get (H := upd H1 R (.dK (intK (putA M y w)))) (d := b) (A := sk.C) ⟨.inl (s2 _ _ eb)⟩ y
      rw [hw] at gb2
      refine ⟨_, rfl, g, rfl, .inl ⟨_, .inl (s2 _ _ eg)⟩, _, rfl, _, rfl, b, .int w, rfl, gb2, _, zdget (s2 _ _ eg) w, ?_⟩
      rw [optS_get]
      cases e : zget sk.G w with
      | none =>
        rw [e] at U2
        exact ⟨0, putA M y w, none, by omega, .inl ⟨rfl, rfl⟩, rfl, s2, upd_same, U2, fun N h => up N (.step hw (by rw [e]; exact h))⟩
      | some n2 =>
        rw [e] at U2
        obtain ⟨u, i, h1, h2, h3⟩ := low n2 e
        exact ⟨i + 1, putA M y w, some n2, by omega, .inr ⟨n2, u, i, rfl, h1, h2, rfl⟩, rfl, s2, upd_same, U2, fun N h => up N (.step hw (by rw [e]; exact h))⟩
end
end K22
set_option Elab.async false
set_option linter.all false
set_option maxRecDepth 100000
set_option maxHeartbeats 4000000
namespace K22
open PySem PySem.Spec PyProof.Rows L2 Cs CsX
section
variable {A : List (Str × Int)} {S : Str → List Int} {w u : Int} {s : Se} {x : Str} {xs : List Str}
theorem hit_iff : hit S s w x = true ↔ x ∉ s.C.map (·.1) ∧ w ∈ S x := by unfold hit; simp
theorem scan_skip (h : ¬ (x ∉ s.C.map (·.1) ∧ w ∈ S x)) : scan A S w s (x :: xs) = scan A S w s xs := by
  show (if hit S s w x = true then _ else _) = _
  rw [if_neg fun z => h (hit_iff.mp z)]
theorem scan_free (h : x ∉ s.C.map (·.1) ∧ w ∈ S x) (n : aget A x = none) : scan A S w s (x :: xs) = .inl (⟨s.W, s.G, s.C ++ [(x, w)]⟩, x) := by
  show (if hit S s w x = true then (match aget A x with | none => _ | some u => _) else _) = _
  rw [if_pos (hit_iff.mpr h), n]
theorem scan_old (h : x ∉ s.C.map (·.1) ∧ w ∈ S x) (n : aget A x = some u) (m : u ∈ s.W) : scan A S w s (x :: xs) = scan A S w ⟨s.W, s.G, s.C ++ [(x, w)]⟩ xs := by
  show (if hit S s w x = true then (match aget A x with | none => _ | some u => if u ∈ s.W then _ else _) else _) = _
  rw [if_pos (hit_iff.mpr h), n]
  show (if u ∈ s.W then _ else _) = _
  rw [if_pos m]
theorem scan_add (h : x ∉ s.C.map (·.1) ∧ w ∈ S x) (n : aget A x = some u) (m : u ∉ s.W) : scan A S w s (x :: xs) = scan A S w ⟨s.W ++ [u], s.G ++ [(u, x)], s.C ++ [(x, w)]⟩ xs := by
  show (if hit S s w x = true then (match aget A x with | none => _ | some u => if u ∈ s.W then _ else _) else _) = _
  rw [if_pos (hit_iff.mpr h), n]
  show (if u ∈ s.W then _ else _) = _
  rw [if_neg m]
theorem Ck.few {h : Int → Option Int} {ns : List Str} {v0 : Int} (I : Ck A h S ns v0 s) : s.W.length ≤ A.length + 1 := by
  have := List.Nodup.length_le_of_subset I.wnd (l₂ := v0 :: A.map (·.2)) fun t ht => by
    obtain ⟨j, hj⟩ := List.mem_iff_getElem?.mp ht
    cases j with
    | zero => rw [I.whd] at hj; rw [← Option.some.inj hj]; exact List.mem_cons_self
    | succ j =>
      have hm : t ∈ s.G.map (·.1) := by
        rw [I.gk]
        exact List.mem_iff_getElem?.mpr ⟨j, by rw [List.getElem?_drop, Nat.add_comm]; exact hj⟩
      obtain ⟨n, hn⟩ := Option.isSome_iff_exists.mp (zmem.mpr hm)
      obtain ⟨h1, _⟩ := I.gv t n hn
      refine List.mem_cons_of_mem _ ?_
      unfold aget at h1
      obtain ⟨e, he, q⟩ := Option.map_eq_some_iff.mp h1
      rw [← q]
      exact List.mem_map_of_mem (f := fun e : Str × Int => e.2) (List.mem_of_find?_eq_some he)
  rwa [List.length_cons, List.length_map] at this
theorem Ck.fewC {h : Int → Option Int} {ns : List Str} {v0 : Int} (I : Ck A h S ns v0 s) : s.C.length ≤ ns.length := by
  have := List.Nodup.length_le_of_subset I.cnd fun x hx => by
    obtain ⟨w, hw⟩ := Option.isSome_iff_exists.mp (aget_mem.mpr hx)
    exact (I.cl x w hw).1
  rwa [List.length_map] at this
theorem Ck.fewG {h : Int → Option Int} {ns : List Str} {v0 : Int} (I : Ck A h S ns v0 s) : s.G.length ≤ s.W.length := by
  have := congrArg List.length I.gk
  rw [List.length_map, List.length_drop] at this
  omega
end
/-- the search at work -/
structure Hw (H' : Hp) (Wl Gd Cd : Addr) (s : Se) : Prop where
  eW : H' Wl = some (.lst (s.W.map V.int))
  eG : H' Gd = some (.dK (zK V.str s.G))
  eC : H' Cd = some (.dK (intK s.C))
section
variable {P : Program} {w : World} {K : PySem.W.Frag} {mg : Str → Option Value} {base : Heap}
abbrev sWt : Stmt := topS 17
abbrev nWt : List Str := ["box", "fit", "value", "wanted", "giving", "callers", "place", "caller", "name", "side"]
theorem scWt : FnScope nWt ["box", "fit", "value"] (defScope sWt) := ⟨rfl, rfl, rfl, by decide +kernel, rfl, by decide +kernel, by decide +kernel⟩
def spWt : Sp := fun vs H Q _ => ∃ (b d : Addr) (v : Int) (L : List Ent) (A : List (Str × Int)) (S : Str → List Int) (h : Int → Option Int), vs = [.ref b, .ref d, .int v] ∧ Bu H b L ∧ Fit L (L.map (·.1)) S ∧ H d = some (.dK (intK A)) ∧ b ≠ d ∧ LFit (L.map (·.1)) S h A ∧ (∃ k, h v = some k ∧ (cnt A v : Int) < k) ∧
  (∀ (H' : Hp) (T r : Addr) (W : List Int), Same H H' → H T = none → H' T = some (.tup [.str "want", .ref r]) → H r = none → H' r = some (.lst (W.map V.int)) → LWit A S (L.map (·.1)) v (.inr W) → Want h S (L.map (·.1)) W → Q (.ref T) H') ∧
  (∀ (H' : Hp) (T r : Addr) (M : List (Str × Int)), Same H H' → H T = none → H' T = some (.tup [.str "fit", .ref r]) → H r = none → H' r = some (.dK (intK M)) → LWit A S (L.map (·.1)) v (.inl M) → LFit (L.map (·.1)) S h M → cnt M v = cnt A v + 1 → (∀ u, u ≠ v → cnt M u = cnt A u) → Q (.ref T) H')
theorem ok_Wt {f f0 : Addr} {fd fd0 : FuncData} (F : Fun K "_with_taker" "_with_taker" sWt f fd) (B : Bt mg) (CCu : Call P w K mg base 1 "_called_up" f0 fd0 ["fit", "callers", "giving", "name"] spCu) :
    FnOk P w K mg base CX0 2 f fd ["box", "fit", "value"] spWt := by
  refine F.ok scWt (fun vs H Q E h => ?_) (fun cdv A outer s H vs Q E hr h => ?_)
  · obtain ⟨b, d, v, L, A, S, h, rfl, _⟩ := h
    rfl
  · obtain ⟨b, d, v0, L, A', S, h, rfl, bx, F1, ed, bd, fo, lt, q1, q2⟩ := h
    have hu := hu_of hr
    have nd := scWt.nd
    refine ⟨_, pss_cons (ps_set (i := 3) nd rfl (.inl rfl) (pe_lst (pa_cons (pv 2) pa_nil)))
      (pss_cons (ps_set (i := 4) nd rfl (.inl rfl) pe_dnewK)
      (pss_cons (ps_set (i := 5) nd rfl (.inl rfl) pe_dnewK)
      (pss_cons (ps_set (i := 6) nd rfl (.inl rfl) pe_int)
      (pss_cons (ps_while PassesOwn.never (pt_cmpR op_lt (pv 6) (pe_callB call_len_seq (by rfl) B.len PySem.boot_len (pa_cons (pv 3) pa_nil)) rfl)
        (pss_cons (ps_set (i := 7) nd rfl (.inl rfl) (pe_ix ix_list (pv 3) (pv 6) (fun _ _ => rfl)))
          (pss_cons (ps_lock (ps_for PassesOwn.never rfl (pi_items (pv 0)) (pg_tup (by rfl) (pgs_cons (pg_name (i := 8) nd rfl (.inl rfl)) (pgs_cons (pg_name (i := 9) nd rfl (.inl rfl)) pgs_nil)))
            (pss_one (ps_if (PW.pt (pw_and (pt_cmp (pc_dnotin hu (pv 8) (pv 5))) (pw_and1 (pt_cmpR (r := rIn K false) op_in_seq (pv 7) (pv 9) rfl))))
                (pss_cons (ps_dput hu (pv 5) (pv 8) (pv 7) rfl)
                  (pss_cons (ps_if (pt_cmp (pc_dnotin hu (pv 8) (pv 1)))
                    (pss_one (ps_ret (pe_tup (pa_cons pe_str (pa_cons (pe_call CCu.ok (hr.mono (by decide)) (by rfl) CCu.at_ CCu.kp CCu.bd .nil pass0 (pa_cons (pv 1) (pa_cons (pv 5) (pa_cons (pv 4) (pa_cons (pv 8) pa_nil))))) pa_nil)))))
                    pss_nil)
                  (pss_one (ps_if (pt_cmpR (r := rIn K true) op_notIn_seq (pe_dget hu (pv 1) (pv 8) (fun _ _ => rfl)) (pv 3) rfl)
                    (pss_cons (ps_dput hu (pv 4) (pe_dget hu (pv 1) (pv 8) (fun _ _ => rfl)) (pv 8) rfl)
                      (pss_one (ps_expr (pe_bm PySem.F.plainAttrs_list PySem.F.slot_list_append PySem.F.type_list_append mt_append (pv 3) (pa_cons (pe_dget hu (pv 1) (pv 8) (fun _ _ => rfl)) pa_nil)))))
                    pss_nil))))
                pss_nil))))
          (pss_one (ps_aug (i := 6) nd rfl (.inl rfl) pe_int ip_add)))))
      (pss_one (ps_ret (pe_tup (pa_cons pe_str (pa_cons (pv 3) pa_nil))))))))), ?_⟩
    have few := bx.few
    have nn := bx.nd
    obtain ⟨ns, hns⟩ : ∃ ns, ns = L.map (·.1) := ⟨_, rfl⟩
    have lns : ns.length = L.length := by rw [hns, List.length_map]
    rw [← hns] at F1 fo q1 q2 nn
    have fA : A'.length ≤ ns.length := by
      have := List.Nodup.length_le_of_subset fo.nd fun x hx => fo.sub x hx
      rwa [List.length_map] at this
    obtain ⟨k0, hk0, ltk⟩ := lt
    refine ⟨_, rfl, by show 1 ≤ sizeLine; decide, fun Wl nW => ?_⟩
    have t1 := same_new (o := HO.lst [V.int v0]) nW
    refine fun Gd nG => ?_
    have t2 := same_new (o := HO.dK []) nG
    have WG : Wl ≠ Gd := fun z => by rw [← z, upd_same] at nG; cases nG
    refine fun Cd nC => ?_
    have t3 := same_new (o := HO.dK []) nC
    have GC : Gd ≠ Cd := fun z => by rw [← z, upd_same] at nC; cases nC
    have WC : Wl ≠ Cd := fun z => by rw [← z, upd_ne WG, upd_same] at nC; cases nC
    have nGH := t1.free nG
    have nCH := t1.free (t2.free nC)
    have hw0 : Hw (upd (upd (upd H Wl (.lst [V.int v0])) Gd (.dK [])) Cd (.dK [])) Wl Gd Cd ⟨[v0], [], []⟩ := ⟨by rw [upd_ne WC, upd_ne WG, upd_same] <;> rfl, by rw [upd_ne GC, upd_same] <;> rfl, upd_same⟩
    have s0 := t1.trans (t2.trans t3)
    generalize upd (upd (upd H Wl (.lst [V.int v0])) Gd (.dK [])) Cd (.dK []) = H0 at hw0 s0 ⊢
    clear t1 t2 t3 nG nC
    have Wb : Wl ≠ b := fun z => by have := bx.un; rw [← z, nW] at this; cases this
    have Gb : Gd ≠ b := fun z => by have := bx.un; rw [← z, nGH] at this; cases this
    have Cb : Cd ≠ b := fun z => by have := bx.un; rw [← z, nCH] at this; cases this
    obtain ⟨I0, T0⟩ := Ck.start (A := A') (S := S) (ns := ns) (h := h) (v0 := v0) (by rw [hk0] <;> rfl)
    refine ⟨fun n σ H' => ∃ (s : Se) (p : Nat) (y7 y8 y9 : Option V), n = A'.length + 2 - p ∧ p ≤ s.W.length ∧ σ = [some (.ref b), some (.ref d), some (.int v0), some (.ref Wl), some (.ref Gd), some (.ref Cd), some (.int (p : Int)), y7, y8, y9] ∧ Same H H' ∧ Hw H' Wl Gd Cd s ∧ Ck A' h S ns v0 s ∧ Tk A' s ∧ (∀ (i : Nat) w, i < p → s.W[i]? = some w → ∀ x ∈ ns, w ∈ S x → x ∈ s.C.map (·.1)) ∧ ∀ r, LRun A' S ns s p r → LRun A' S ns ⟨[v0], [], []⟩ 0 r,
      ⟨_, ⟨[v0], [], []⟩, 0, none, none, none, rfl, Nat.zero_le _, rfl, s0, hw0, I0, T0, fun i w h => absurd h (by omega), fun r h => h⟩, ?_⟩
    rintro n σ H1 ⟨s, p, y7, y8, y9, rfl, pc, rfl, s1, hw1, I, T, old, run⟩
    have cle := I.few
    refine ⟨_, rfl, _, rfl, Wl, _, rfl, .inl (sl_map hw1.eW), _, _, rfl, rfl, _, rfl, ite_both (fun c1 => ?_) fun c1 => ?_⟩
    · have pl := of_decide_eq_true c1
      rw [List.length_map] at pl
      have pl' : p < s.W.length := by omega
      obtain ⟨w, hw⟩ : ∃ w, s.W[p]? = some w := ⟨_, List.getElem?_eq_getElem pl'⟩
      refine ⟨fun σ' H' => ∃ (s' : Se) (p' : Nat) (y7 y8 y9 : Option V), p' = p + 1 ∧ p' ≤ s'.W.length ∧ σ' = [some (.ref b), some (.ref d), some (.int v0), some (.ref Wl), some (.ref Gd), some (.ref Cd), some (.int (p' : Int)), y7, y8, y9] ∧ Same H H' ∧ Hw H' Wl Gd Cd s' ∧ Ck A' h S ns v0 s' ∧ Tk A' s' ∧ (∀ (i : Nat) w, i < p' → s'.W[i]? = some w → ∀ x ∈ ns, w ∈ S x → x ∈ s'.C.map (·.1)) ∧ ∀ r, LRun A' S ns s' p' r → LRun A' S ns ⟨[v0], [], []⟩ 0 r, ?_, ?_⟩
      · rintro σ' H' ⟨s', p', y7, y8, y9, h1, h2⟩
        exact ⟨_, by omega, s', p', y7, y8, y9, rfl, h2⟩
      refine ⟨_, rfl, _, rfl, Wl, _, _, .int w, rfl, rfl, sl_map hw1.eW, atI_nat (j := p) (by rw [List.getElem?_map, hw] <;> rfl), ?_⟩
      have b1 := s1 _ _ bx.un
      refine ⟨b, _, b1, trivial, fun od => ?_⟩
      have bxl := bx.toBx.lock (od := od) bx.un
      have eb0 := upd_same (H := H) (a := b) (o := HO.frz od (.dK (entK L)))
      have hwl : Hw (upd H1 b (.frz od (.dK (entK L)))) Wl Gd Cd s := ⟨by rw [upd_ne Wb]; exact hw1.eW, by rw [upd_ne Gb]; exact hw1.eG, by rw [upd_ne Cb]; exact hw1.eC⟩
      have lkn : ∀ {q : Addr}, q ≠ b → H q = none → (upd H b (.frz od (.dK (entK L)))) q = none := fun h n => by rw [upd_ne h]; exact n
      refine ⟨.ref b, rfl, b, od, entK L, rfl, upd_same, for_it walk_items (fun i σ' H' => ∃ (s' : Se) (y8 y9 : Option V), σ' = [some (.ref b), some (.ref d), some (.int v0), some (.ref Wl), some (.ref Gd), some (.ref Cd), some (.int (p : Int)), some (.int w), y8, y9] ∧ Same (upd H b (.frz od (.dK (entK L)))) H' ∧ Hw H' Wl Gd Cd s' ∧ Ck A' h S ns v0 s' ∧ Tk A' s' ∧ s'.W[p]? = some w ∧ (∀ (i : Nat) w, i < p → s'.W[i]? = some w → ∀ x ∈ ns, w ∈ S x → x ∈ s'.C.map (·.1)) ∧ (∀ x ∈ ns.take i, w ∈ S x → x ∈ s'.C.map (·.1)) ∧ scan A' S w s ns = scan A' S w s' (ns.drop i))
        ⟨s, y8, y9, rfl, same_frz bx.un s1, hwl, I, T, hw, old, (fun _ h => nomatch h), rfl⟩ (fun i σ' H' _ h => by obtain ⟨_, _, _, _, e, _⟩ := h; exact e _ _ eb0) ?_ ?_⟩
      · clear old I T hwl hw1 cle
        rintro i z σ3 H2 H3 hi ⟨s', y8, y9, rfl, s3, hw3, I, T, hx', old, tak, sek⟩ ⟨Tp, x1, x2, rfl, nT, rfl, g1, g2⟩
        obtain ⟨e, he, rfl, rfl⟩ := items_at g1 g2
        have hx : ns[i]? = some e.1 := by rw [hns, List.getElem?_map, he] <;> rfl
        have xn := List.mem_of_getElem? hx
        rw [drop_at hx] at sek
        have eS : e.2.2 = S e.1 := by
          have h1 := F1 e.1 xn
          have h2 := look_mem bx.nd (List.mem_of_getElem? he)
          rw [h2] at h1
          exact Option.some.inj h1
        have sT := same_new (o := HO.tup [V.str e.1, V.ref e.2.1]) nT
        have s4 := s3.trans sT
        have hw4 : Hw (upd H2 Tp (.tup [V.str e.1, V.ref e.2.1])) Wl Gd Cd s' := ⟨sT _ _ hw3.eW, sT _ _ hw3.eG, sT _ _ hw3.eC⟩
        have ea : (upd H2 Tp (.tup [V.str e.1, V.ref e.2.1])) e.2.1 = some (.lst ((S e.1).map V.int)) := by
          have := (bxl.same s4).sides e (List.mem_of_getElem? he)
          rwa [eS] at this
        refine ⟨Tp, _, rfl, .inl (.inl upd_same), rfl, _, _, rfl, _, _, rfl, rfl, ?_⟩
        generalize upd H2 Tp (.tup [V.str e.1, V.ref e.2.1]) = H4 at s4 hw4 ea ⊢
        have gC := Ax.get (H := H4) (d := Cd) (A := s'.C) ⟨.inl hw4.eC⟩ e.1
        have pl2 := (List.getElem?_eq_some_iff.mp hx').1
        have wW := List.mem_of_getElem? hx'
        have cW := I.few
        have cC := I.fewC
        have cG := I.fewG
        have skip : ¬ (e.1 ∉ s'.C.map (·.1) ∧ w ∈ S e.1) → ∃ (s'' : Se) (y8 y9 : Option V), [some (V.ref b), some (.ref d), some (.int v0), some (.ref Wl), some (.ref Gd), some (.ref Cd), some (.int (p : Int)), some (.int w), some (.str e.1), some (.ref e.2.1)] = [some (V.ref b), some (.ref d), some (.int v0), some (.ref Wl), some (.ref Gd), some (.ref Cd), some (.int (p : Int)), some (.int w), y8, y9] ∧ Same (upd H b (.frz od (.dK (entK L)))) H4 ∧ Hw H4 Wl Gd Cd s'' ∧ Ck A' h S ns v0 s'' ∧ Tk A' s'' ∧ s''.W[p]? = some w ∧ (∀ (i : Nat) w, i < p → s''.W[i]? = some w → ∀ x ∈ ns, w ∈ S x → x ∈ s''.C.map (·.1)) ∧ (∀ x ∈ ns.take (i + 1), w ∈ S x → x ∈ s''.C.map (·.1)) ∧ scan A' S w s ns = scan A' S w s'' (ns.drop (i + 1)) := fun nh => by
          refine ⟨s', _, _, rfl, s4, hw4, I, T, hx', old, fun y hy hwy => ?_, sek.trans (scan_skip nh)⟩
          rw [take_snoc hx] at hy
          rcases List.mem_append.mp hy with q | q
          · exact tak y q hwy
          · rw [List.mem_singleton.mp q] at hwy ⊢
            exact Decidable.byContradiction fun z => nh ⟨z, hwy⟩
        refine ⟨_, rfl, _, rfl, Cd, _, rfl, gC, _, rfl, ite_both (fun cn => ?_) (fun cn => iteF (skip fun z => ?_))⟩
        rotate_left
        · rw [aget_none z.1] at cn; cases cn
        have nx : e.1 ∉ s'.C.map (·.1) := fun z => by
          have := aget_mem.mpr z
          cases q : aget s'.C e.1 with
          | none => rw [q] at this; cases this
          | some y => rw [q] at cn; cases cn
        refine ⟨_, rfl, _, rfl, e.2.1, _, rfl, .inl (sl_map ea), rfl, flat_ints _, _, rfl, ?_⟩
        rw [if_neg (by decide), in_ints]
        refine ite_both (fun cw => ?_) (fun cw => skip fun z => of_decide_eq_false cw z.2)
        have hit_ : e.1 ∉ s'.C.map (·.1) ∧ w ∈ S e.1 := ⟨nx, of_decide_eq_true cw⟩
        clear skip
        refine ⟨_, rfl, _, rfl, _, rfl, Cd, _, rfl, DPut.k (k := .inr e.1) hw4.eC (by rw [intK_len]; exact small1000 (by omega)), ?_⟩
        rw [putK_int, putA_new nx]
        have s5 := same_at s4 (lkn Cb nCH) (o := HO.dK (intK (s'.C ++ [(e.1, w)])))
        have hw5 : Hw (upd H4 Cd (.dK (intK (s'.C ++ [(e.1, w)])))) Wl Gd Cd ⟨s'.W, s'.G, s'.C ++ [(e.1, w)]⟩ := ⟨by rw [upd_ne WC]; exact hw4.eW, by rw [upd_ne GC]; exact hw4.eG, upd_same⟩
        generalize upd H4 Cd (.dK (intK (s'.C ++ [(e.1, w)]))) = H5 at s5 hw5 ⊢
        have J := I.call xn hit_.2 wW nx
        have ed5 : H5 d = some (.dK (intK A')) := s5 _ _ (by rw [upd_ne bd.symm]; exact ed)
        have gd := Ax.get (H := H5) (d := d) (A := A') ⟨.inl ed5⟩ e.1
        have keys : ∀ {y : Str}, y ∈ (s'.C ++ [(e.1, w)]).map (·.1) ↔ y ∈ s'.C.map (·.1) ∨ y = e.1 := fun {y} => by rw [List.map_append, List.mem_append]; show _ ∨ y ∈ [e.1] ↔ _; rw [List.mem_singleton]
        have old' : ∀ (W2 : List Int), (∀ (i : Nat) w, i < p → W2[i]? = some w → s'.W[i]? = some w) → ∀ (i : Nat) w, i < p → W2[i]? = some w → ∀ x ∈ ns, w ∈ S x → x ∈ (s'.C ++ [(e.1, w)]).map (·.1) ∨ x ∈ s'.C.map (·.1) := fun W2 hW i w hi hw x hx hs => .inr (old i w hi (hW i w hi hw) x hx hs)
        have tak' : ∀ x ∈ ns.take (i + 1), w ∈ S x → x ∈ (s'.C ++ [(e.1, w)]).map (·.1) := fun y hy hwy => by
          rw [take_snoc hx] at hy
          rcases List.mem_append.mp hy with q | q
          · exact keys.mpr (.inl (tak y q hwy))
          · exact keys.mpr (.inr (List.mem_singleton.mp q))
        cases hA : aget A' e.1 with
        | none =>
          rw [hA] at gd
          refine ⟨_, rfl, _, rfl, d, _, rfl, gd, _, rfl, iteT ?_⟩
          rw [scan_free hit_ hA] at sek
          have hC : aget (s'.C ++ [(e.1, w)]) e.1 = some w := by rw [aget_app nx, if_pos rfl]
          refine ⟨_, rfl, _, rfl, _, rfl, _, rfl, d, Cd, Gd, e.1, A', ⟨s'.W, s'.G, s'.C ++ [(e.1, w)]⟩, S, ns, v0, w, h, rfl, ed5, hw5.eC, hw5.eG, J, fo, hC, hA, by omega, ⟨k0, hk0, ltk⟩, fun H6 r M s6 nr er up fM c1 c2 => ⟨by show 2 ≤ sizeLine; decide, fun TT nTT => ?_⟩⟩
          have tt := same_new (o := HO.tup [.str "fit", .ref r]) nTT
          have eb := s5 _ _ eb0
          have eb6 := s6 _ _ eb
          have rb : r ≠ b := fun z => by rw [z, eb] at nr; cases nr
          have Tb : TT ≠ b := fun z => by rw [z, eb6] at nTT; cases nTT
          have frH : ∀ {q : Addr}, q ≠ b → H5 q = none → H q = none := fun {q} h n => by
            have := s5.free n
            rwa [upd_ne h] at this
          have frH6 : H TT = none := frH Tb (s6.free nTT)
          refine ⟨tt _ _ eb6, q2 _ TT r M (unlock bx.un (s5.trans (s6.trans tt))) frH6 (by rw [upd_ne Tb, upd_same]) (frH rb nr) (by rw [upd_ne rb]; exact tt _ _ er) (.fit (run _ (.found ?_ sek)) up) fM c1 c2⟩
          assumption
        | some u =>
          rw [hA] at gd
          refine ⟨_, rfl, _, rfl, d, _, rfl, gd, _, rfl, iteF ?_⟩
          refine ⟨_, rfl, _, rfl, d, .int u, rfl, gd, _, rfl, Wl, _, rfl, .inl (sl_map hw5.eW), rfl, flat_ints _, _, rfl, ?_⟩
          rw [if_pos rfl, in_ints]
          refine ite_both (fun cu => ?_) (fun cu => ?_)
          · have nu : u ∉ s'.W := by simpa using cu
            have K := I.add fo xn hit_.2 wW nx hA nu
            have gn : u ∉ s'.G.map (·.1) := by rw [I.gk]; exact fun z => nu (List.mem_of_mem_drop z)
            refine ⟨_, rfl, _, rfl, _, rfl, _, rfl, d, .int u, rfl, gd, Gd, _, rfl, DPut.k (k := .inl u) hw5.eG (by rw [zK_len]; exact small1000 (by show s'.G.length ≤ 1000; omega)), ?_⟩
            rw [show putK (zK V.str s'.G) (Sum.inl u) (V.str e.1) = zK V.str (s'.G ++ [(u, e.1)]) by rw [zput, putZ_new gn]]
            have s6 := same_at s5 (lkn Gb nGH) (o := HO.dK (zK V.str (s'.G ++ [(u, e.1)])))
            have eW6 : (upd H5 Gd (.dK (zK V.str (s'.G ++ [(u, e.1)])))) Wl = some (.lst (s'.W.map V.int)) := by rw [upd_ne WG]; exact hw5.eW
            have eG6 : (upd H5 Gd (.dK (zK V.str (s'.G ++ [(u, e.1)])))) Gd = some (.dK (zK V.str (s'.G ++ [(u, e.1)]))) := upd_same
            have eC6 : (upd H5 Gd (.dK (zK V.str (s'.G ++ [(u, e.1)])))) Cd = some (.dK (intK (s'.C ++ [(e.1, w)]))) := by rw [upd_ne GC.symm]; exact hw5.eC
            generalize upd H5 Gd (.dK (zK V.str (s'.G ++ [(u, e.1)]))) = H6 at s6 eW6 eG6 eC6 ⊢
            have gd6 := Ax.get (H := H6) (d := d) (A := A') ⟨.inl (s6 _ _ (by rw [upd_ne bd.symm]; exact ed))⟩ e.1
            rw [hA] at gd6
            refine ⟨_, rfl, .inl ⟨rfl, _, sl_map eW6⟩, _, rfl, _, rfl, d, .int u, rfl, gd6, Wl, _, _, rfl, rfl, eW6, by rw [List.length_map]; exact small1000 (by omega), ⟨s'.W ++ [u], s'.G ++ [(u, e.1)], s'.C ++ [(e.1, w)]⟩, _, _, rfl, same_at s6 (lkn Wb nW), ⟨by rw [upd_same, List.map_append] <;> rfl, by rw [upd_ne WG.symm]; exact eG6, by rw [upd_ne WC.symm]; exact eC6⟩, K, T.add hA, ?_, fun i w' hi hw' x hx hs => ?_, tak', sek.trans (scan_add hit_ hA nu)⟩
            · show (s'.W ++ [u])[p]? = some w
              rw [List.getElem?_append_left pl2]; exact hx'
            · replace hw' : (s'.W ++ [u])[i]? = some w' := hw'
              rw [List.getElem?_append_left (by omega)] at hw'
              exact keys.mpr (.inl (old i w' hi hw' x hx hs))
          · have nu : u ∈ s'.W := by simpa using cu
            exact ⟨⟨s'.W, s'.G, s'.C ++ [(e.1, w)]⟩, _, _, rfl, s5, hw5, J, T.call hA nu, hx', fun i w' hi hw' x hx hs => keys.mpr (.inl (old i w' hi hw' x hx hs)), tak', sek.trans (scan_old hit_ hA nu)⟩
      · rintro σ3 H3 ⟨s', y8, y9, rfl, s3, hw3, I, T, hx', old, tak, sek⟩
        rw [entK_len, ← lns, List.take_length] at tak
        rw [entK_len, ← lns, List.drop_length] at sek
        have eb := s3 _ _ eb0
        have pl2 := (List.getElem?_eq_some_iff.mp hx').1
        refine ⟨eb, _, rfl, _, _, rfl, rfl, s', p + 1, _, y8, y9, rfl, by omega, rfl, unlock bx.un s3, ⟨by rw [upd_ne Wb]; exact hw3.eW, by rw [upd_ne Gb]; exact hw3.eG, by rw [upd_ne Cb]; exact hw3.eC⟩, I, T, fun i w' hi hw' => ?_, fun r h => run r (.more hw sek h)⟩
        rcases Nat.lt_or_ge i p with q | q
        · exact old i w' q hw'
        · rw [show i = p by omega, hx'] at hw'
          rw [← Option.some.inj hw']; exact tak
    · have pl := of_decide_eq_false c1
      rw [List.length_map] at pl
      have pl' : s.W.length ≤ p := by omega
      have wa := I.want fo nn T ⟨k0, hk0, ltk⟩ fun x hx w hw hs => by
        obtain ⟨i, hi⟩ := List.mem_iff_getElem?.mp hw
        exact old i w (by have := (List.getElem?_eq_some_iff.mp hi).1; omega) hi x hx hs
      refine ⟨_, rfl, by show 2 ≤ sizeLine; decide, fun T' nT => ?_⟩
      have t := same_new (o := HO.tup [.str "want", .ref Wl]) nT
      exact q1 _ T' Wl s.W (s1.trans t) (s1.free nT) upd_same nW (t _ _ hw1.eW) (.want (run _ (.stop pl'))) wa
end
end K22
set_option Elab.async false
set_option linter.all false
set_option maxRecDepth 100000
set_option maxHeartbeats 4000000
namespace K22
open PySem PySem.Spec PyProof.Rows L2 Cs CsX
theorem itemsZ {L : List (Int × Int)} {i : Nat} {x1 x2 : V} (g1 : ((zK V.int L)[i]?.map fun kv => kV kv.1) = some x1) (g2 : ((zK V.int L)[i]?.map Prod.snd) = some x2) : ∃ e, L[i]? = some e ∧ x1 = .int e.1 ∧ x2 = .int e.2 := by
  unfold zK at g1 g2
  rw [List.getElem?_map] at g1 g2
  cases c : L[i]? with
  | none => rw [c] at g1; cases g1
  | some e => rw [c] at g1 g2; exact ⟨e, rfl, (Option.some.inj g1).symm, (Option.some.inj g2).symm⟩
theorem Bu.off {H : Hp} {q d : Addr} {o : HO} {M : List Ent} (B : Bu H d M) (h1 : d ≠ q) (h2 : ∀ g ∈ M, g.2.1 ≠ q) : Bu (upd H q o) d M :=
  ⟨⟨.inl (by rw [upd_ne h1]; exact B.un), fun g hg => by rw [upd_ne (h2 g hg)]; exact B.sides g hg, B.nd, B.few⟩, by rw [upd_ne h1]; exact B.un⟩
/-- every number is met -/
def Eqs (Hs : List (Int × Int)) (M : List (Str × Int)) : Prop := ∀ e ∈ Hs, (cnt M e.1 : Int) = e.2
section
variable {P : Program} {w : World} {K : PySem.W.Frag} {mg : Str → Option Value} {base : Heap}
abbrev sSpl : Stmt := topS 16
abbrev nSpl : List Str := ["box", "lows", "start", "fit", "value", "low", "word", "content"]
theorem scSpl : FnScope nSpl ["box", "lows", "start"] (defScope sSpl) := ⟨rfl, rfl, rfl, by decide +kernel, rfl, by decide +kernel, by decide +kernel⟩
def spSpl : Sp := fun vs H Q _ => ∃ (b hd d : Addr) (L : List Ent) (Hs : List (Int × Int)) (S : Str → List Int) (A0 : List (Str × Int)), vs = [.ref b, .ref hd, .ref d] ∧ Bu H b L ∧ H hd = some (.dK (zK V.int Hs)) ∧ (Hs.map (·.1)).Nodup ∧ H d = some (.dK (intK A0)) ∧ LFit (L.map (·.1)) S (zget Hs) A0 ∧ b ≠ hd ∧ Fit L (L.map (·.1)) S ∧
  (∀ (H' : Hp) (T r : Addr) (c : List Int), Same H H' → H T = none → H' T = some (.tup [.str "want", .ref r]) → H r = none → H' r = some (.lst (c.map V.int)) → Sup S (L.map (·.1)) Hs A0 (.inr c) → Want (zget Hs) S (L.map (·.1)) c → Q (.ref T) H') ∧
  (∀ (H' : Hp) (T r : Addr) (M : List (Str × Int)), Same H H' → H T = none → H' T = some (.tup [.str "fit", .ref r]) → H r = none → H' r = some (.dK (intK M)) → Sup S (L.map (·.1)) Hs A0 (.inl M) → LFit (L.map (·.1)) S (zget Hs) M → Eqs Hs M → Q (.ref T) H')
theorem ok_Spl {f f0 f1 : Addr} {fd fd0 fd1 : FuncData} (F : Fun K "_supplied" "_supplied" sSpl f fd) (B : Bt mg) (CWt : Call P w K mg base 2 "_with_taker" f0 fd0 ["box", "fit", "value"] spWt) (CTk : Call P w K mg base 1 "_takers" f1 fd1 ["fit", "value"] spTk) :
    FnOk P w K mg base CX0 3 f fd ["box", "lows", "start"] spSpl := by
  refine F.ok scSpl (fun vs H Q E h => ?_) (fun cdv A outer s H vs Q E hr h => ?_)
  · obtain ⟨b, hd, d, L, Hs, S, A0, rfl, _⟩ := h
    rfl
  · obtain ⟨b, hd, d, L, Hs, S, A0, rfl, bx, eh, nH, ed, fo0, bhd, fitN, q1, q2⟩ := h
    have hu := hu_of hr
    have nd := scSpl.nd
    refine ⟨_, pss_cons (ps_set (i := 3) nd rfl (.inl rfl) (pe_callTy call_dictD (by rfl) B.dict PyProof.Rows.boot_dict (pa_cons (pv 2) pa_nil)))
      (pss_cons (ps_lock (ps_for PassesOwn.never rfl (pi_items (pv 1)) (pg_tup (by rfl) (pgs_cons (pg_name (i := 4) nd rfl (.inl rfl)) (pgs_cons (pg_name (i := 5) nd rfl (.inl rfl)) pgs_nil)))
        (pss_one (ps_while PassesOwn.never (pt_cmpR op_lt (pe_callB call_len_seq (by rfl) B.len PySem.boot_len (pa_cons (pe_call CTk.ok (hr.mono (by decide)) (by rfl) CTk.at_ CTk.kp CTk.bd .nil pass0 (pa_cons (pv 3) (pa_cons (pv 4) pa_nil))) pa_nil)) (pv 5) rfl)
            (pss_cons (ps_asg (pe_call CWt.ok (hr.mono (by decide)) (by rfl) CWt.at_ CWt.kp CWt.bd .nil pass0 (pa_cons (pv 0) (pa_cons (pv 3) (pa_cons (pv 4) pa_nil)))) (pg_tup (by rfl) (pgs_cons (pg_name (i := 6) nd rfl (.inl rfl)) (pgs_cons (pg_name (i := 7) nd rfl (.inl rfl)) pgs_nil))))
              (pss_cons (ps_if (pt_cmpR op_eq (pv 6) pe_str rfl)
                (pss_one (ps_ret (pe_tup (pa_cons pe_str (pa_cons (pv 7) pa_nil)))))
                pss_nil)
              (pss_one (ps_set (i := 3) nd rfl (.inl rfl) (pv 7)))))))))
      (pss_one (ps_ret (pe_tup (pa_cons pe_str (pa_cons (pv 3) pa_nil)))))), ?_⟩
    have few := bx.few
    obtain ⟨ns, hns⟩ : ∃ ns, ns = L.map (·.1) := ⟨_, rfl⟩
    have lns : ns.length = L.length := by rw [hns, List.length_map]
    rw [← hns] at q1 q2 fo0
    refine ⟨_, rfl, d, _, rfl, .inl ed, fun F nF => ?_⟩
    have s0 := same_new (o := HO.dK (intK A0)) nF
    have eF0 : (upd H F (.dK (intK A0))) F = some (.dK (intK A0)) := upd_same
    have bx0 := bx.same' s0
    have eh0 := s0 _ _ eh
    have hF : hd ≠ F := fun z => by rw [z, nF] at eh; cases eh
    generalize upd H F (.dK (intK A0)) = H0 at s0 eF0 bx0 eh0 ⊢
    refine ⟨hd, _, eh0, trivial, fun od => ?_⟩
    have bxl : Bu (upd H0 hd (.frz od (.dK (zK V.int Hs)))) b L := bx0.off bhd fun g hg z => by have := bx0.sides g hg; rw [z, eh0] at this; cases this
    have eb0 := upd_same (H := H0) (a := hd) (o := HO.frz od (.dK (zK V.int Hs)))
    refine ⟨.ref hd, rfl, hd, od, zK V.int Hs, rfl, upd_same, for_it walk_items (fun i σ H' => ∃ (A : List (Str × Int)) (F : Addr) (y4 y5 y6 y7 : Option V), σ = [some (.ref b), some (.ref hd), some (.ref d), some (.ref F), y4, y5, y6, y7] ∧ Same (upd H0 hd (.frz od (.dK (zK V.int Hs)))) H' ∧ H' F = some (.dK (intK A)) ∧ H F = none ∧ LFit ns S (zget Hs) A ∧ Eqs (Hs.take i) A ∧ ∀ r, Sup S ns (Hs.drop i) A r → Sup S ns Hs A0 r)
      ⟨A0, F, none, none, none, none, rfl, (fun _ _ h => h), by rw [upd_ne hF.symm]; exact eF0, nF, fo0, (fun _ h => nomatch h), fun r h => h⟩ (fun i σ H' _ h => by obtain ⟨_, _, _, _, _, _, _, e, _⟩ := h; exact e _ _ eb0) ?_ ?_⟩
    · clear eF0 nF hF F
      rintro i x σ H1 H2 hi ⟨A', F, y4, y5, y6, y7, rfl, s1, eF, nF, fo, eqs, gr⟩ ⟨Tp, x1, x2, rfl, nT, rfl, g1, g2⟩
      obtain ⟨e, he, rfl, rfl⟩ := itemsZ g1 g2
      rw [drop_at he] at gr
      have hk : zget Hs e.1 = some e.2 := zget_at nH he
      have sT := same_new (o := HO.tup [V.int e.1, V.int e.2]) nT
      have s2 := s1.trans sT
      have eF2 := sT _ _ eF
      refine ⟨Tp, _, rfl, .inl (.inl upd_same), rfl, _, _, rfl, _, _, rfl, rfl, ?_⟩
      generalize upd H1 Tp (.tup [V.int e.1, V.int e.2]) = H3 at s2 eF2 ⊢
      have apart : ∀ j g, j < i → Hs[j]? = some g → g.1 ≠ e.1 := fun j g hj hg z => by
        have k1 : (Hs.map (·.1))[j]? = some e.1 := by rw [List.getElem?_map, hg, ← z] <;> rfl
        have k2 : (Hs.map (·.1))[i]? = some e.1 := by rw [List.getElem?_map, he] <;> rfl
        have := nd_ix nH k1 k2
        omega
      refine ⟨fun n σ H' => ∃ (A : List (Str × Int)) (F : Addr) (y6 y7 : Option V), n = ns.length + 1 - cnt A e.1 ∧ σ = [some (.ref b), some (.ref hd), some (.ref d), some (.ref F), some (.int e.1), some (.int e.2), y6, y7] ∧ Same (upd H0 hd (.frz od (.dK (zK V.int Hs)))) H' ∧ H' F = some (.dK (intK A)) ∧ H F = none ∧ LFit ns S (zget Hs) A ∧ Eqs (Hs.take i) A ∧ ∀ r, Sup S ns (e :: Hs.drop (i + 1)) A r → Sup S ns Hs A0 r,
        ⟨_, A', F, y6, y7, rfl, rfl, s2, eF2, nF, fo, eqs, gr⟩, ?_⟩
      clear eF2 eF nF fo eqs gr sT s2 s1 nT y6 y7 y4 y5
      rintro n σ H4 ⟨A', F, y6, y7, rfl, rfl, s4, eF, nF, fo, eqs, gr⟩
      have fA : A'.length ≤ ns.length := by
        have := List.Nodup.length_le_of_subset fo.nd fun x hx => fo.sub x hx
        rwa [List.length_map] at this
      have cle : cnt A' e.1 ≤ ns.length := by
        have : cnt A' e.1 ≤ A'.length := by unfold cnt tk; rw [List.length_map]; exact List.length_filter_le _ _
        omega
      refine ⟨_, rfl, _, rfl, F, e.1, A', rfl, eF, fo.nd, by omega, fun H5 Tl s5 nT eT => ?_⟩
      have s45 := s4.trans s5
      have eF5 := s5 _ _ eF
      refine ⟨Tl, _, rfl, .inl (sl_map eT), _, rfl, _, _, rfl, rfl, _, rfl, ite_both (fun c1 => ?_) fun c1 => ?_⟩
      · have lt : (cnt A' e.1 : Int) < e.2 := by
          have := of_decide_eq_true c1
          rw [List.length_map] at this
          exact this
        refine ⟨fun σ' H' => ∃ (A : List (Str × Int)) (F : Addr) (y6 y7 : Option V), cnt A e.1 = cnt A' e.1 + 1 ∧ cnt A e.1 ≤ ns.length ∧ σ' = [some (.ref b), some (.ref hd), some (.ref d), some (.ref F), some (.int e.1), some (.int e.2), y6, y7] ∧ Same (upd H0 hd (.frz od (.dK (zK V.int Hs)))) H' ∧ H' F = some (.dK (intK A)) ∧ H F = none ∧ LFit ns S (zget Hs) A ∧ Eqs (Hs.take i) A ∧ ∀ r, Sup S ns (e :: Hs.drop (i + 1)) A r → Sup S ns Hs A0 r, ?_, ?_⟩
        · rintro σ' H' ⟨A, F, y6, y7, h1, h2, h3⟩
          exact ⟨_, by omega, A, F, y6, y7, rfl, h3⟩
        have bx5 := bxl.same' s45
        have bF : b ≠ F := fun z => by have := bx.un; rw [z, nF] at this; cases this
        have fo' : LFit (L.map (·.1)) S (zget Hs) A' := by rw [← hns]; exact fo
        have ehd := s45 _ _ eb0
        have frH : ∀ {q : Addr}, H5 q = none → H q = none := fun {q} n => by
          have qb : q ≠ hd := fun z => by rw [z, ehd] at n; cases n
          have := s45.free n
          rw [upd_ne qb] at this
          exact s0.free this
        refine ⟨_, rfl, _, rfl, _, rfl, b, F, e.1, L, A', S, zget Hs, rfl, bx5, fitN, eF5, bF, fo', ⟨e.2, hk, lt⟩, fun H6 T r c s6 nT6 eT6 nr6 er6 wi wa => ?_, fun H6 T r M s6 nT6 eT6 nr6 er6 wi fM c1 c2 => ?_⟩
        · refine ⟨T, _, rfl, .inl (.inl eT6), rfl, _, _, rfl, _, _, rfl, rfl, ?_⟩
          refine ⟨_, rfl, rfl, _, rfl, ite_both (fun _ => ?_) fun c => absurd (decide_eq_true rfl) (by rw [c]; decide)⟩
          refine ⟨_, rfl, by show 2 ≤ sizeLine; decide, fun Y nY => ?_⟩
          have t := same_new (o := HO.tup [.str "want", .ref r]) nY
          have Yb : Y ≠ hd := fun z => by rw [z, s6 _ _ ehd] at nY; cases nY
          have rb : r ≠ hd := fun z => by rw [z, ehd] at nr6; cases nr6
          rw [← hns] at wi wa
          exact ⟨t _ _ (s6 _ _ ehd), q1 _ Y r c (s0.trans (unlock eh0 (s45.trans (s6.trans t)))) (frH (s6.free nY)) (by rw [upd_ne Yb, upd_same]) (frH nr6) (by rw [upd_ne rb]; exact t _ _ er6) (gr _ (.want lt wi)) wa⟩
        · refine ⟨T, _, rfl, .inl (.inl eT6), rfl, _, _, rfl, _, _, rfl, rfl, ?_⟩
          refine ⟨_, rfl, rfl, _, rfl, ite_both (fun c => absurd c (by decide +kernel)) fun _ => ?_⟩
          rw [← hns] at wi fM
          have fM' : M.length ≤ ns.length := by
            have := List.Nodup.length_le_of_subset fM.nd fun x hx => fM.sub x hx
            rwa [List.length_map] at this
          have cM : cnt M e.1 ≤ ns.length := by
            have : cnt M e.1 ≤ M.length := by unfold cnt tk; rw [List.length_map]; exact List.length_filter_le _ _
            omega
          refine ⟨_, rfl, M, r, _, _, c1, cM, rfl, s45.trans s6, er6, frH nr6, fM, fun g hg => ?_, fun q h => gr q (.fit lt wi h)⟩
          obtain ⟨j, hj⟩ := List.mem_iff_getElem?.mp hg
          rw [List.getElem?_take] at hj
          split at hj
          · next ji =>
            rw [c2 _ (apart j g ji hj)]
            exact eqs g hg
          · cases hj
      · have ge : ¬ (cnt A' e.1 : Int) < e.2 := by
          have := of_decide_eq_false c1
          rw [List.length_map] at this
          exact this
        have le := fo.le _ _ hk
        refine ⟨A', F, _, _, y6, y7, rfl, s45, eF5, nF, fo, fun g hg => ?_, fun r h => gr r (.next (by omega) h)⟩
        rw [take_snoc he] at hg
        rcases List.mem_append.mp hg with z | z
        · exact eqs g z
        · rw [List.mem_singleton.mp z]; omega
    · rintro σ H1 ⟨A', F, y4, y5, y6, y7, rfl, s1, eF, nF, fo, eqs, gr⟩
      have eb1 := s1 _ _ eb0
      rw [zK_len, List.take_length] at eqs
      rw [zK_len, List.drop_length] at gr
      refine ⟨eb1, ?_⟩
      refine ⟨_, rfl, by show 2 ≤ sizeLine; decide, fun Y nY => ?_⟩
      have s3 := s0.trans (unlock eh0 s1)
      have Fb : F ≠ hd := fun z => by rw [z, eb1] at eF; cases eF
      have eF3 : (upd H1 hd (.dK (zK V.int Hs))) F = some (.dK (intK A')) := by rw [upd_ne Fb]; exact eF
      have t := same_new (o := HO.tup [.str "fit", .ref F]) nY
      exact q2 _ Y F A' (s3.trans t) (s3.free nY) upd_same nF (t _ _ eF3) (gr _ .nil) fo eqs
end
end K22
set_option Elab.async false
set_option linter.all false
set_option maxRecDepth 100000
set_option maxHeartbeats 4000000
namespace K22
open PySem PySem.Spec PyProof.Rows L2 Cs CsX
theorem ne_d {H : Hp} {p q : Addr} {o : HO} (h : H p = some o) (n : H q = none) : p ≠ q := fun e => by rw [e, n] at h; cases h
/-- each value is taken as often as the numbers ask -/
def Okc (Hs Lo : List (Int × Int)) (r : List Int) : Prop := (∀ v k, zget Hs v = some k → (r.count v : Int) ≤ k) ∧ ∀ v k, zget Lo v = some k → k ≤ (r.count v : Int)
/-- a choice of values that keeps the numbers -/
structure Inj (Hs Lo : List (Int × Int)) (ns : List Str) (T : Str → List Int) (g : Str → Int) : Prop where
  mem : ∀ x ∈ ns, g x ∈ T x
  inj : Okc Hs Lo (ns.map g)
def Feas (Hs Lo : List (Int × Int)) (ns : List Str) (T : Str → List Int) : Prop := ∃ g, Inj Hs Lo ns T g
def fv (M : List (Str × Int)) (x : Str) : Int := (aget M x).getD 0
theorem fv_get {M : List (Str × Int)} {x : Str} (h : x ∈ M.map (·.1)) : aget M x = some (fv M x) := by
  unfold fv
  cases q : aget M x with
  | none => have := aget_mem.mpr h; rw [q] at this; cases this
  | some v => rfl
/-- the least numbers are below the greatest -/
structure Ones (Hs Lo : List (Int × Int)) : Prop where
  nd : (Lo.map (·.1)).Nodup
  le : ∀ v k, zget Lo v = some k → 0 ≤ k ∧ ∃ h, zget Hs v = some h ∧ k ≤ h
theorem count_num {ns : List Str} {g : Str → Int} {v : Int} : (ns.map g).count v = (ns.filter fun x => decide (g x = v)).length := by
  induction ns with
  | nil => rfl
  | cons x ns ih =>
    rw [List.map_cons, List.count_cons, List.filter_cons, ih]
    by_cases c : g x = v
    · simp [c]
    · simp [c]
theorem filt_len {p : Int → Bool} {a : Int} {r : List Int} : ((a :: r).filter p).length = (if p a = true then 1 else 0) + (r.filter p).length := by
  rw [List.filter_cons]
  by_cases c : p a = true
  · rw [if_pos c, if_pos c, List.length_cons]; omega
  · rw [if_neg c, if_neg c]; omega
theorem in_cons {r W : List Int} {w : Int} (n : w ∉ W) : (r.filter fun v => decide (v ∈ w :: W)).length = r.count w + (r.filter fun v => decide (v ∈ W)).length := by
  induction r with
  | nil => rfl
  | cons a r ih =>
    rw [filt_len, filt_len, List.count_cons, ih]
    by_cases c : a = w
    · subst c
      simp [n]; omega
    · by_cases d : a ∈ W
      · simp [c, d]; omega
      · simp [c, d]
theorem sum_count {r : List Int} : ∀ {W : List Int}, W.Nodup → (W.map fun w => (r.count w : Int)).sum = ((r.filter fun v => decide (v ∈ W)).length : Int)
  | [], _ => by
    rw [List.filter_eq_nil_iff.mpr fun v _ => by simp]; rfl
  | w :: W, nd => by
    obtain ⟨n1, n2⟩ := List.nodup_cons.mp nd
    rw [List.map_cons, List.sum_cons, sum_count n2, in_cons n1]
    omega
theorem sum_le {f g : Int → Int} : ∀ {W : List Int}, (∀ w ∈ W, f w ≤ g w) → (W.map f).sum ≤ (W.map g).sum
  | [], _ => Int.le_refl _
  | w :: W, h => by
    rw [List.map_cons, List.map_cons, List.sum_cons, List.sum_cons]
    have h1 := h w List.mem_cons_self
    have h2 := sum_le (W := W) fun u hu => h u (List.mem_cons_of_mem _ hu)
    omega
theorem crowd_not {ns c : List Str} {S : Str → List Int} {Hs Lo : List (Int × Int)} (C : Crowd (zget Hs) S ns c) : ¬ Feas Hs Lo ns S := fun ⟨g, G⟩ => by
  obtain ⟨K, ndK, h1, h2, h3⟩ := C.few
  have all : ((c.map g).filter fun v => decide (v ∈ K)) = c.map g := List.filter_eq_self.mpr fun v hv => by
    obtain ⟨x, hx, rfl⟩ := List.mem_map.mp hv
    exact decide_eq_true (h1 x hx _ (G.mem x (C.sub x hx)))
  have e := sum_count (r := c.map g) ndK
  rw [all, List.length_map] at e
  have le := sum_le (W := K) (f := fun w => ((c.map g).count w : Int)) (g := fun w => (zget Hs w).getD 0) fun w hw => by
    obtain ⟨k, hk⟩ := Option.isSome_iff_exists.mp (h2 w hw).1
    show ((c.map g).count w : Int) ≤ (zget Hs w).getD 0
    rw [hk]
    have h4 := G.inj.1 w k hk
    have h5 : (c.map g).count w ≤ (ns.map g).count w := by
      rw [count_num, count_num]
      exact List.Nodup.length_le_of_subset (C.nd.sublist List.filter_sublist) fun x hx => by
        obtain ⟨m1, m2⟩ := List.mem_filter.mp hx
        exact List.mem_filter.mpr ⟨C.sub x m1, m2⟩
    show _ ≤ k
    omega
  omega
theorem want_not {ns : List Str} {W : List Int} {S : Str → List Int} {Hs Lo : List (Int × Int)} (C : Want (zget Lo) S ns W) : ¬ Feas Hs Lo ns S := fun ⟨g, G⟩ => by
  have h3 := C.few
  have e := sum_count (r := ns.map g) C.nd
  have le := sum_le (W := W) (f := fun w => (zget Lo w).getD 0) (g := fun w => ((ns.map g).count w : Int)) fun w hw => by
    obtain ⟨k, hk⟩ := Option.isSome_iff_exists.mp (C.inK w hw)
    show (zget Lo w).getD 0 ≤ _
    rw [hk]
    exact G.inj.2 w k hk
  have h5 : ((ns.map g).filter fun v => decide (v ∈ W)).length ≤ (ns.filter fun x => (S x).any fun v => decide (v ∈ W)).length := by
    rw [List.filter_map, List.length_map]
    have : ∀ l : List Str, (∀ x ∈ l, x ∈ ns) → (l.filter ((fun v => decide (v ∈ W)) ∘ g)).length ≤ (l.filter fun x => (S x).any fun v => decide (v ∈ W)).length := by
      intro l
      induction l with
      | nil => intro _; exact Nat.le_refl _
      | cons x l ih =>
        intro hl
        have ih' := ih fun y hy => hl y (List.mem_cons_of_mem _ hy)
        rw [List.filter_cons, List.filter_cons]
        by_cases c : g x ∈ W
        · rw [if_pos (show ((fun v => decide (v ∈ W)) ∘ g) x = true from decide_eq_true c), if_pos (List.any_eq_true.mpr ⟨g x, G.mem x (hl x List.mem_cons_self), decide_eq_true c⟩), List.length_cons, List.length_cons]
          omega
        · rw [if_neg (show ¬ ((fun v => decide (v ∈ W)) ∘ g) x = true from fun z => c (of_decide_eq_true z))]
          split
          · rw [List.length_cons]; omega
          · exact ih'
    exact this ns fun _ h => h
  omega
/-! ### a full choice and one that meets the least numbers give one that does both -/
def setC (c : Str → Int) (x : Str) (v : Int) : Str → Int := fun y => if y = x then v else c y
theorem count_set {x : Str} {v w : Int} {g : Str → Int} : ∀ {ns : List Str}, ns.Nodup → x ∈ ns → (ns.map (setC g x v)).count w + (if g x = w then 1 else 0) = (ns.map g).count w + (if v = w then 1 else 0)
  | [], _, h => nomatch h
  | a :: t, nd, h => by
    obtain ⟨n1, n2⟩ := List.nodup_cons.mp nd
    rw [List.map_cons, List.map_cons, List.count_cons, List.count_cons]
    by_cases c : a = x
    · subst c
      have e : t.map (setC g a v) = t.map g := List.map_congr_left fun y hy => if_neg fun z : y = a => n1 (z ▸ hy)
      rw [e, show setC g a v a = v from if_pos rfl]
      by_cases p : g a = w <;> by_cases q : v = w <;> simp [p, q] <;> omega
    · have hx : x ∈ t := (List.mem_cons.mp h).resolve_left fun z => c z.symm
      have ih := count_set (v := v) (w := w) (g := g) n2 hx
      rw [show setC g x v a = g a from if_neg c]
      omega
theorem filt_lt {α : Type} {p q : α → Bool} {e : α} : ∀ {M : List α}, (∀ f ∈ M, p f = true → q f = true) → e ∈ M → q e = true → p e = false → (M.filter p).length < (M.filter q).length
  | [], _, h, _, _ => nomatch h
  | a :: M, im, h, qe, pe => by
    have le : ∀ l : List α, (∀ f ∈ l, p f = true → q f = true) → (l.filter p).length ≤ (l.filter q).length := by
      intro l
      induction l with
      | nil => intro _; exact Nat.le_refl _
      | cons b l ih =>
        intro hb
        have ih' := ih fun f hf => hb f (List.mem_cons_of_mem _ hf)
        rw [List.filter_cons, List.filter_cons]
        by_cases c : p b = true
        · rw [if_pos c, if_pos (hb b List.mem_cons_self c), List.length_cons, List.length_cons]; omega
        · rw [if_neg c]
          split
          · rw [List.length_cons]; omega
          · exact ih'
    rw [List.filter_cons, List.filter_cons]
    have im' := fun f hf => im f (List.mem_cons_of_mem _ hf)
    rcases List.mem_cons.mp h with z | z
    · subst z
      rw [if_neg (by rw [pe]; decide), if_pos qe, List.length_cons]
      have := le M im'
      omega
    · have ih := filt_lt im' z qe pe
      by_cases c : p a = true
      · rw [if_pos c, if_pos (im a List.mem_cons_self c), List.length_cons, List.length_cons]; omega
      · rw [if_neg c]
        split
        · rw [List.length_cons]; omega
        · exact ih
theorem merge {ns : List Str} {S : Str → List Int} {Hs : List (Int × Int)} {h : Int → Option Int} {M : List (Str × Int)} (nn : ns.Nodup) (L : LFit ns S h M) (top : ∀ v k, zget Hs v = some k → (cnt M v : Int) ≤ k ∨ cnt M v = 0) : ∀ (n : Nat) (g : Str → Int), (M.filter fun e => !decide (g e.1 = e.2)).length ≤ n → (∀ x ∈ ns, g x ∈ S x) → (∀ v k, zget Hs v = some k → ((ns.map g).count v : Int) ≤ k) →
    ∃ g' : Str → Int, (∀ x ∈ ns, g' x ∈ S x) ∧ (∀ v k, zget Hs v = some k → ((ns.map g').count v : Int) ≤ k) ∧ ∀ v, cnt M v ≤ (ns.map g').count v := by
  intro n
  induction n with
  | zero =>
    intro g hn mem hi
    have all : ∀ e ∈ M, g e.1 = e.2 := fun e he => Decidable.byContradiction fun z => by
      have : e ∈ M.filter fun e => !decide (g e.1 = e.2) := List.mem_filter.mpr ⟨he, by simp [z]⟩
      have := List.length_pos_of_mem this
      omega
    refine ⟨g, mem, hi, fun v => ?_⟩
    rw [count_num]
    refine List.Nodup.length_le_of_subset (tk_nd L.nd v) fun x hx => ?_
    have m := (aget_iff L.nd x v).mp ((tk_mem L.nd).mp hx)
    exact List.mem_filter.mpr ⟨L.sub x (List.mem_map.mpr ⟨_, m, rfl⟩), decide_eq_true (all _ m)⟩
  | succ n ih =>
    intro g hn mem hi
    by_cases E : ∃ e ∈ M, g e.1 ≠ e.2 ∧ (ns.map g).count e.2 < cnt M e.2
    · obtain ⟨e, he, ne, lt⟩ := E
      have xn : e.1 ∈ ns := L.sub _ (List.mem_map.mpr ⟨e, he, rfl⟩)
      have ge := (aget_iff L.nd e.1 e.2).mpr he
      have cs := fun w => count_set (v := e.2) (w := w) (g := g) nn xn
      refine ih (setC g e.1 e.2) ?_ (fun x hx => ?_) fun v k hk => ?_
      · have := filt_lt (M := M) (e := e) (p := fun f => !decide (setC g e.1 e.2 f.1 = f.2)) (q := fun f => !decide (g f.1 = f.2)) (fun f hf hp => ?_) he (by simp [ne]) (by simp [setC])
        · omega
        · by_cases c : f.1 = e.1
          · have gf := (aget_iff L.nd f.1 f.2).mpr hf
            rw [c, ge] at gf
            have : f.2 = e.2 := (Option.some.inj gf).symm
            simp [setC, c, this] at hp
          · have e2 : setC g e.1 e.2 f.1 = g f.1 := if_neg c
            rw [e2] at hp; exact hp
      · show (if x = e.1 then e.2 else g x) ∈ S x
        by_cases c : x = e.1
        · rw [if_pos c, c]; exact L.inS _ _ ge
        · rw [if_neg c]; exact mem x hx
      · have h1 := cs v
        have h2 := hi v k hk
        by_cases c : e.2 = v
        · subst c
          rw [if_neg ne, if_pos rfl] at h1
          rcases top e.2 k hk with t | t
          · omega
          · omega
        · rw [if_neg c] at h1
          omega
    · refine ⟨g, mem, hi, fun v => Nat.le_of_not_lt fun lt => ?_⟩
      have all : ∀ x, aget M x = some v → g x = v := fun x hx => Decidable.byContradiction fun z => E ⟨(x, v), (aget_iff L.nd x v).mp hx, z, lt⟩
      have : cnt M v ≤ (ns.map g).count v := by
        rw [count_num]
        refine List.Nodup.length_le_of_subset (tk_nd L.nd v) fun x hx => ?_
        have m := (tk_mem L.nd).mp hx
        exact List.mem_filter.mpr ⟨L.sub x (aget_mem.mp (by rw [m] <;> rfl)), decide_eq_true (all x m)⟩
      omega
theorem zget_mem {L : List (Int × Int)} {v k : Int} (h : zget L v = some k) : (v, k) ∈ L := by
  unfold zget at h
  obtain ⟨e, he, rfl⟩ := Option.map_eq_some_iff.mp h
  have h1 := List.mem_of_find?_eq_some he
  have h2 := List.find?_some he
  have h3 : e.1 = v := of_decide_eq_true h2
  rw [← h3]; exact h1
theorem fit_inj {ns : List Str} {S : Str → List Int} {Hs Lo : List (Int × Int)} {M N : List (Str × Int)} (nn : ns.Nodup) (F : FitOk ns S (zget Hs) M) (full : ∀ x ∈ ns, x ∈ M.map (·.1)) (L : LFit ns S (zget Lo) N) (eqs : Eqs Lo N) (O : Ones Hs Lo) : Feas Hs Lo ns S := by
  have mem : ∀ x ∈ ns, fv M x ∈ S x := fun x hx => F.inS x _ (fv_get (full x hx))
  have hi : ∀ v k, zget Hs v = some k → ((ns.map (fv M)).count v : Int) ≤ k := fun v k hk => by
    have h1 := F.le v k hk
    have h2 : (ns.map (fv M)).count v ≤ cnt M v := by
      rw [count_num]
      refine List.Nodup.length_le_of_subset (nn.sublist List.filter_sublist) fun x hx => ?_
      obtain ⟨m1, m2⟩ := List.mem_filter.mp hx
      refine (tk_mem F.nd).mpr ?_
      rw [fv_get (full x m1), of_decide_eq_true m2]
    omega
  obtain ⟨g, h1, h2, h3⟩ := merge (Hs := Hs) nn L (fun v k hk => by
    by_cases c : cnt N v = 0
    · exact .inr c
    · left
      obtain ⟨x, hx⟩ : ∃ x, x ∈ tk N v := List.exists_mem_of_length_pos (by unfold cnt at c; omega)
      obtain ⟨l, hl⟩ := Option.isSome_iff_exists.mp (L.inK x v ((tk_mem L.nd).mp hx))
      obtain ⟨_, k', hk', le⟩ := O.le v l hl
      rw [hk] at hk'
      have := L.le v l hl
      have e := Option.some.inj hk'
      omega) _ (fv M) (Nat.le_refl _) mem hi
  refine ⟨g, h1, h2, fun v k hk => ?_⟩
  have e1 := eqs _ (zget_mem hk)
  have e2 := h3 v
  have e3 : (cnt N v : Int) = k := e1
  omega
/-- what of a fit lies in the box -/
def pwA (S : Str → List Int) (A : List (Str × Int)) : List (Str × Int) := A.filter fun e => decide (e.2 ∈ S e.1)
theorem cnt_filter {p : Str × Int → Bool} {v : Int} : ∀ A : List (Str × Int), cnt (A.filter p) v ≤ cnt A v
  | [] => Nat.le_refl _
  | e :: A => by
    have ih := cnt_filter (p := p) (v := v) A
    rw [List.filter_cons]
    split
    · rw [cnt_cons, cnt_cons]; omega
    · rw [cnt_cons]; omega
structure PreFit (ns : List Str) (h : Int → Option Int) (A : List (Str × Int)) : Prop where
  nd : (A.map (·.1)).Nodup
  sub : ∀ x ∈ A.map (·.1), x ∈ ns
  le : ∀ v k, h v = some k → (cnt A v : Int) ≤ k
theorem FitOk.pre {ns : List Str} {S : Str → List Int} {h : Int → Option Int} {A : List (Str × Int)} (F : FitOk ns S h A) : PreFit ns h A := ⟨F.nd, F.sub, F.le⟩
theorem PreFit.fit {ns : List Str} {S : Str → List Int} {h : Int → Option Int} {A : List (Str × Int)} (F : PreFit ns h A) : FitOk ns S h (pwA S A) := by
  have nd : ((pwA S A).map (·.1)).Nodup := List.Pairwise.sublist (List.Sublist.map _ List.filter_sublist) F.nd
  refine ⟨nd, fun x hx => ?_, fun x v hv => ?_, fun v k hk => ?_⟩
  · obtain ⟨e, he, rfl⟩ := List.mem_map.mp hx
    exact F.sub _ (List.mem_map.mpr ⟨e, (List.mem_filter.mp he).1, rfl⟩)
  · have := (List.mem_filter.mp ((aget_iff nd x v).mp hv)).2
    exact of_decide_eq_true this
  · have h1 := F.le v k hk
    have h2 := cnt_filter (p := fun e => decide (e.2 ∈ S e.1)) (v := v) A
    have : cnt (pwA S A) v ≤ cnt A v := h2
    omega
theorem PreFit.few {ns : List Str} {h : Int → Option Int} {A : List (Str × Int)} (F : PreFit ns h A) : A.length ≤ ns.length := by
  have := List.Nodup.length_le_of_subset F.nd fun x hx => F.sub x hx
  rwa [List.length_map] at this
structure LPre (ns : List Str) (h : Int → Option Int) (A : List (Str × Int)) : Prop where
  nd : (A.map (·.1)).Nodup
  sub : ∀ x ∈ A.map (·.1), x ∈ ns
  le : ∀ v k, h v = some k → (cnt A v : Int) ≤ k
  inK : ∀ x v, aget A x = some v → (h v).isSome = true
theorem LFit.pre {ns : List Str} {S : Str → List Int} {h : Int → Option Int} {A : List (Str × Int)} (F : LFit ns S h A) : LPre ns h A := ⟨F.nd, F.sub, F.le, F.inK⟩
theorem LPre.nil {ns : List Str} {h : Int → Option Int} (pos : ∀ v k, h v = some k → 0 ≤ k) : LPre ns h [] := ⟨List.Pairwise.nil, (fun _ h => nomatch h), (fun v k hk => by show ((0 : Nat) : Int) ≤ k; have := pos v k hk; omega), fun _ _ h => nomatch h⟩
theorem LPre.fit {ns : List Str} {S : Str → List Int} {h : Int → Option Int} {A : List (Str × Int)} (F : LPre ns h A) : LFit ns S h (pwA S A) := by
  have P : FitOk ns S h (pwA S A) := PreFit.fit ⟨F.nd, F.sub, F.le⟩
  refine ⟨P.nd, P.sub, P.inS, P.le, fun x v hv => F.inK x v ?_⟩
  exact (aget_iff F.nd x v).mpr (List.mem_filter.mp ((aget_iff P.nd x v).mp hv)).1
theorem LPre.few {ns : List Str} {h : Int → Option Int} {A : List (Str × Int)} (F : LPre ns h A) : A.length ≤ ns.length := by
  have := List.Nodup.length_le_of_subset F.nd fun x hx => F.sub x hx
  rwa [List.length_map] at this
inductive FnR (Hs Lo : List (Int × Int)) (ns : List Str) (S : Str → List Int) (H H' : Hp) : V → Prop
  | no (n : ¬ Feas Hs Lo ns S) : FnR Hs Lo ns S H H' .non
  | yes (T r p : Addr) (M N : List (Str × Int)) (nT : H T = none) (eT : H' T = some (.tup [.ref r, .ref p])) (nr : H r = none) (er : H' r = some (.dK (intK M))) (np : H p = none) (ep : H' p = some (.dK (intK N))) (fo : FitOk ns S (zget Hs) M) (fl : LFit ns S (zget Lo) N) (fe : Feas Hs Lo ns S) : FnR Hs Lo ns S H H' (.ref T)
theorem filtA_snoc {A : List (Str × Int)} {i : Nat} {e : Str × Int} {p : Str × Int → Bool} (h : A[i]? = some e) : (A.take (i + 1)).filter p = (A.take i).filter p ++ (if p e = true then [e] else []) := by
  rw [take_snoc h, List.filter_append, List.filter_cons, List.filter_nil]
theorem items_intA {L : List (Str × Int)} {i : Nat} {x1 x2 : V} (g1 : ((intK L)[i]?.map fun kv => kV kv.1) = some x1) (g2 : ((intK L)[i]?.map Prod.snd) = some x2) : ∃ e, L[i]? = some e ∧ x1 = .str e.1 ∧ x2 = .int e.2 := by
  unfold intK at g1 g2
  rw [List.getElem?_map] at g1 g2
  cases c : L[i]? with
  | none => rw [c] at g1; cases g1
  | some e => rw [c] at g1 g2; exact ⟨e, rfl, (Option.some.inj g1).symm, (Option.some.inj g2).symm⟩
section
variable {P : Program} {w : World} {K : PySem.W.Frag} {mg : Str → Option Value} {base : Heap}
abbrev sPw : Stmt := topS 11
abbrev nPw : List Str := ["fit", "box", "name", "value"]
theorem scPw : FnScope nPw ["fit", "box"] (defScope sPw) := ⟨rfl, rfl, rfl, by decide +kernel, rfl, by decide +kernel, by decide +kernel⟩
def spPw : Sp := fun vs H Q _ => ∃ (d b : Addr) (A : List (Str × Int)) (L : List Ent) (S : Str → List Int), vs = [.ref d, .ref b] ∧ H d = some (.dK (intK A)) ∧ (A.map (·.1)).Nodup ∧ A.length ≤ 40 ∧ Bu H b L ∧ d ≠ b ∧ (∀ x ∈ A.map (·.1), look L x = some (S x)) ∧
  ∀ (H' : Hp) (r : Addr), Same H H' → H r = none → H' r = some (.dK (intK (pwA S A))) → Q (.ref r) H'
theorem ok_Pw {f  : Addr} {fd  : FuncData} (F : Fun K "_part_within" "_part_within" sPw f fd) (B : Bt mg) :
    FnOk P w K mg base CX0 1 f fd ["fit", "box"] spPw := by
  refine F.ok scPw (fun vs H Q E h => ?_) (fun cdv A outer s H vs Q E hr h => ?_)
  · obtain ⟨d, b, A, L, S, rfl, _⟩ := h
    rfl
  · obtain ⟨d, b, A', L, S, rfl, ed, nA, few, bx, db, fit, q⟩ := h
    have hu := hu_of hr
    have nd := scPw.nd
    refine ⟨_, pss_one (ps_ret (pe_lock (pe_dc (own := [("name", 2), ("value", 3)]) (g := gTup K 2 (gCons (gName 2) (gCons (gName 3) gNil))) (tt := _) (tk := tVar 2) (tv := tVar 3) rfl nd (pi_items (pv 0)) (blkOk_by (N := nPw) (sc := defScope sPw) (by decide +kernel)) (fun _ _ _ _ _ => pg_tup (by rfl) (pgs_cons (pg_name (i := 2) nd rfl (.inl rfl)) (pgs_cons (pg_name (i := 3) nd rfl (.inl rfl)) pgs_nil))) (fun _ _ _ _ _ => pts_one (pt_cmpR (r := rIn K false) op_in_seq (pv 3) (pe_dget hu (pv 1) (pv 2) (fun _ _ => rfl)) rfl))
          (fun _ _ _ _ _ => (pv 2)) (fun _ _ _ _ _ => (pv 3))))), ?_⟩
    refine ⟨d, _, ed, trivial, fun od => ?_⟩
    have bxl : Bu (upd H d (.frz od (.dK (intK A')))) b L := ⟨⟨.inl (by rw [upd_ne db.symm]; exact bx.un), fun g hg => by rw [upd_ne fun z => by have := bx.sides g hg; rw [z, ed] at this; cases this]; exact bx.sides g hg, bx.nd, bx.few⟩, by rw [upd_ne db.symm]; exact bx.un⟩
    refine ⟨_, rfl, d, od, intK A', rfl, upd_same, fun X nX => ?_⟩
    refine dc_it walk_items (fun i H' => Same (upd H d (.frz od (.dK (intK A')))) H' ∧ H' X = some (.dK (intK ((A'.take i).filter fun e => decide (e.2 ∈ S e.1))))) ⟨same_new nX, upd_same⟩ (fun i H' _ h => h.1 _ _ upd_same) ?_ ?_
    · rintro i x H1 H2 hi ⟨s1, eX⟩ ⟨Tt, x1, x2, rfl, nT, rfl, g1, g2⟩
      obtain ⟨e, he, rfl, rfl⟩ := items_intA g1 g2
      have hi2 := (List.getElem?_eq_some_iff.mp he).1
      have sT := same_new (o := HO.tup [V.str e.1, V.int e.2]) nT
      have s6 := s1.trans sT
      have eX6 := sT _ _ eX
      have xm : e.1 ∈ A'.map (·.1) := List.mem_map.mpr ⟨e, List.mem_of_getElem? he, rfl⟩
      have hl := fit e.1 xm
      unfold look at hl
      obtain ⟨g, hg, hs⟩ := Option.map_eq_some_iff.mp hl
      have ga := (bxl.toBx.same s6).get e.1
      rw [hg] at ga
      have ea := (bxl.toBx.same s6).sides g (getE_mem hg).1
      rw [hs] at ea
      refine ⟨Tt, _, rfl, .inl (.inl upd_same), rfl, _, _, rfl, _, [], rfl, rfl, ?_⟩
      refine ⟨rfl, _, rfl, _, rfl, _, rfl, b, .ref g.2.1, rfl, ga, g.2.1, _, rfl, .inl (sl_map ea), rfl, flat_ints _, ?_⟩
      rw [if_neg (by decide), in_ints]
      have fl : ((A'.take i).filter fun e => decide (e.2 ∈ S e.1)).length ≤ A'.length := Nat.le_trans (List.length_filter_le _ _) (by rw [List.length_take]; omega)
      have km : e.1 ∉ ((A'.take i).filter fun e => decide (e.2 ∈ S e.1)).map (·.1) := fun z => by
        obtain ⟨u, hu1, hu2⟩ := List.mem_map.mp z
        have m := (List.mem_filter.mp hu1).1
        have : e.1 ∈ (A'.map (·.1)).take i := by rw [← List.map_take]; exact List.mem_map.mpr ⟨u, m, hu2⟩
        exact not_take nA (by rw [List.getElem?_map, he] <;> rfl) this
      refine ⟨_, rfl, ite_both (fun c => ?_) fun c => ⟨s6, ?_⟩⟩
      · refine ⟨_, rfl, _, rfl, _, .inr e.1, rfl, eX6, by rw [intK_len]; exact small1000 (by omega), same_at s6 nX, ?_⟩
        rw [upd_same, putK_int, putA_new km, filtA_snoc he, if_pos c]
      · rw [filtA_snoc he, if_neg (by rw [c]; decide), List.append_nil]; exact eX6
    · rintro H5 ⟨s5, eX⟩
      rw [intK_len, List.take_length] at eX
      have eF := s5 _ _ (upd_same (H := H) (a := d) (o := HO.frz od (.dK (intK A'))))
      have nX3 : H X = none := by
        by_cases c : X = d
        · rw [c, upd_same] at nX; cases nX
        · rwa [upd_ne c] at nX
      have Xd : X ≠ d := fun z => by rw [z, eF] at eX; cases eX
      exact ⟨eF, q _ X (unlock ed s5) nX3 (by rw [upd_ne Xd]; exact eX)⟩
end
end K22
set_option Elab.async false
set_option linter.all false
set_option maxRecDepth 100000
set_option maxHeartbeats 4000000
namespace K22
open PySem PySem.Spec PyProof.Rows L2 Cs CsX
section
variable {P : Program} {w : World} {K : PySem.W.Frag} {mg : Str → Option Value} {base : Heap}
abbrev sFn : Stmt := topS 10
abbrev nFn : List Str := ["box", "highs", "lows", "full", "part", "word", "new_full", "new_part"]
theorem scFn : FnScope nFn ["box", "highs", "lows", "full", "part"] (defScope sFn) := ⟨rfl, rfl, rfl, by decide +kernel, rfl, by decide +kernel, by decide +kernel⟩
def spFn : Sp := fun vs H Q _ => ∃ (b hd lo fd pd : Addr) (L : List Ent) (Hs Lo : List (Int × Int)) (S : Str → List Int) (P : List Int) (A A2 : List (Str × Int)), vs = [.ref b, .ref hd, .ref lo, .ref fd, .ref pd] ∧ Bu H b L ∧ H hd = some (.dK (zK V.int Hs)) ∧ H lo = some (.dK (zK V.int Lo)) ∧ H fd = some (.dK (intK A)) ∧ H pd = some (.dK (intK A2)) ∧ b ≠ hd ∧ b ≠ lo ∧ fd ≠ b ∧ pd ≠ b ∧ PreFit (L.map (·.1)) (zget Hs) A ∧ LPre (L.map (·.1)) (zget Lo) A2 ∧ Wd L S Hs P ∧ Ones Hs Lo ∧
  ∀ (H' : Hp) (v : V), Same H H' → FnR Hs Lo (L.map (·.1)) S H H' v → Q v H'
theorem ok_Fn {f f0 f1 f2 : Addr} {fd fd0 fd1 fd2 : FuncData} (F : Fun K "_fits_near" "_fits_near" sFn f fd) (B : Bt mg) (CGr : Call P w K mg base 3 "_grown" f0 fd0 ["box", "highs", "start"] spGr) (CSpl : Call P w K mg base 3 "_supplied" f1 fd1 ["box", "lows", "start"] spSpl) (CPw : Call P w K mg base 1 "_part_within" f2 fd2 ["fit", "box"] spPw) :
    FnOk P w K mg base CX0 4 f fd ["box", "highs", "lows", "full", "part"] spFn := by
  refine F.ok scFn (fun vs H Q E h => ?_) (fun cdv A outer s H vs Q E hr h => ?_)
  · obtain ⟨b, hd, lo, fd, pd, L, Hs, Lo, S, P, A, A2, rfl, _⟩ := h
    rfl
  · obtain ⟨b, hd, lo, fd, pd, L, Hs, Lo, S, PP, A', A2, rfl, bx, eh, el, ef, ep, bhd, blo, fb, pb, pre, pre2, W, O, q⟩ := h
    have hu := hu_of hr
    have nd := scFn.nd
    refine ⟨_, pss_cons (ps_asg (pe_call CGr.ok (hr.mono (by decide)) (by rfl) CGr.at_ CGr.kp CGr.bd .nil pass0 (pa_cons (pv 0) (pa_cons (pv 1) (pa_cons (pe_call CPw.ok (hr.mono (by decide)) (by rfl) CPw.at_ CPw.kp CPw.bd .nil pass0 (pa_cons (pv 3) (pa_cons (pv 0) pa_nil))) pa_nil)))) (pg_tup (by rfl) (pgs_cons (pg_name (i := 5) nd rfl (.inl rfl)) (pgs_cons (pg_name (i := 6) nd rfl (.inl rfl)) pgs_nil))))
      (pss_cons (ps_if (pt_cmpR op_eq (pv 5) pe_str rfl)
        (pss_one (ps_ret pe_non))
        pss_nil)
      (pss_cons (ps_asg (pe_call CSpl.ok (hr.mono (by decide)) (by rfl) CSpl.at_ CSpl.kp CSpl.bd .nil pass0 (pa_cons (pv 0) (pa_cons (pv 2) (pa_cons (pe_call CPw.ok (hr.mono (by decide)) (by rfl) CPw.at_ CPw.kp CPw.bd .nil pass0 (pa_cons (pv 4) (pa_cons (pv 0) pa_nil))) pa_nil)))) (pg_tup (by rfl) (pgs_cons (pg_name (i := 5) nd rfl (.inl rfl)) (pgs_cons (pg_name (i := 7) nd rfl (.inl rfl)) pgs_nil))))
      (pss_cons (ps_if (pt_cmpR op_eq (pv 5) pe_str rfl)
        (pss_one (ps_ret pe_non))
        pss_nil)
      (pss_one (ps_ret (pe_tup (pa_cons (pv 6) (pa_cons (pv 7) pa_nil)))))))), ?_⟩
    have few := bx.few
    have fA := pre.few
    rw [List.length_map] at fA
    have fA2 := pre2.few
    rw [List.length_map] at fA2
    refine ⟨_, rfl, _, rfl, _, rfl, _, rfl, fd, b, A', L, S, rfl, ef, pre.nd, by omega, bx, fb, fun x hx => W.fit x (pre.sub x hx), fun H1 r1 s1 nr1 er1 => ?_⟩
    refine ⟨b, hd, r1, L, Hs, S, PP, pwA S A', rfl, bx.same' s1, s1 _ _ eh, er1, pre.fit, bhd, W, fun H2 T r c s2 nT eT nr er cr => ?_, fun H2 T r M s2 nT eT nr er fM kM => ?_⟩
    · refine ⟨T, _, rfl, .inl (.inl eT), rfl, _, _, rfl, _, _, rfl, rfl, ?_⟩
      exact ⟨_, rfl, rfl, _, rfl, iteT (q _ _ (s1.trans s2) (.no (crowd_not cr)))⟩
    · have S2 := s1.trans s2
      refine ⟨T, _, rfl, .inl (.inl eT), rfl, _, _, rfl, _, _, rfl, rfl, ?_⟩
      refine ⟨_, rfl, rfl, _, rfl, iteF ?_⟩
      refine ⟨_, rfl, _, rfl, _, rfl, _, rfl, pd, b, A2, L, S, rfl, S2 _ _ ep, pre2.nd, by omega, bx.same' S2, pb, fun x hx => W.fit x (pre2.sub x hx), fun H3 r3 s3 nr3 er3 => ?_⟩
      have S3 := S2.trans s3
      refine ⟨b, lo, r3, L, Lo, S, pwA S A2, rfl, bx.same' S3, S3 _ _ el, O.nd, er3, pre2.fit, blo, W.fit, fun H4 T4 r4 c4 s4 nT4 eT4 nr4 er4 _ wa => ?_, fun H4 T4 r4 N s4 nT4 eT4 nr4 er4 _ fN eqs => ?_⟩
      · refine ⟨T4, _, rfl, .inl (.inl eT4), rfl, _, _, rfl, _, _, rfl, rfl, ?_⟩
        exact ⟨_, rfl, rfl, _, rfl, iteT (q _ _ (S3.trans s4) (.no (want_not wa)))⟩
      have S4 := S3.trans s4
      refine ⟨T4, _, rfl, .inl (.inl eT4), rfl, _, _, rfl, _, _, rfl, rfl, ?_⟩
      refine ⟨_, rfl, rfl, _, rfl, iteF ?_⟩
      refine ⟨_, rfl, _, rfl, by show 2 ≤ sizeLine; decide, fun T5 nT5 => ?_⟩
      have t := same_new (o := HO.tup [.ref r, .ref r4]) nT5
      exact q _ _ (S4.trans t) (.yes T5 r r4 M N (S4.free nT5) upd_same (s1.free nr) (t _ _ (s4 _ _ (s3 _ _ er))) (S3.free nr4) (t _ _ er4) fM fN (fit_inj bx.nd fM kM fN eqs O))
end
end K22
set_option Elab.async false
set_option linter.all false
set_option maxRecDepth 100000
set_option maxHeartbeats 4000000
/-! == of two tuples that are equal, deep. -/
namespace Cs
open PySem PySem.Spec PyProof.Rows L2
end Cs
set_option Elab.async false
set_option linter.all false
set_option maxRecDepth 100000
set_option maxHeartbeats 4000000
/-! min of a list of tuples of ints -/
namespace Cs
open PySem PySem.Spec PyProof.Rows L2
/-- the order of tuples of ints -/
def lxLt : List Int → List Int → Bool
  | [], [] => false
  | [], _ :: _ => true
  | _ :: _, [] => false
  | x :: xs, y :: ys => if x = y then lxLt xs ys else decide (x < y)
end Cs
set_option Elab.async false
set_option linter.all false
set_option maxRecDepth 100000
set_option maxHeartbeats 4000000
namespace K22
open PySem PySem.Spec PyProof.Rows L2 Cs CsX
/-- one side made a single value -/
def nar (S : Str → List Int) (x : Str) (v : Int) : Str → List Int := fun y => if y = x then [v] else S y
theorem nar_same (S : Str → List Int) (x : Str) (v : Int) : nar S x v x = [v] := if_pos rfl
theorem nar_ne {S : Str → List Int} {x y : Str} {v : Int} (h : y ≠ x) : nar S x v y = S y := if_neg h
theorem nar_mem {S : Str → List Int} {x y : Str} {v w : Int} (hv : v ∈ S x) (h : w ∈ nar S x v y) : w ∈ S y := by
  unfold nar at h
  split at h
  · next e => rw [List.mem_singleton.mp h, e]; exact hv
  · exact h
theorem Inj.wide {Hs Lo : List (Int × Int)} {ns : List Str} {S : Str → List Int} {x : Str} {v : Int} {g : Str → Int} (G : Inj Hs Lo ns (nar S x v) g) (hv : v ∈ S x) : Inj Hs Lo ns S g := ⟨fun y hy => nar_mem hv (G.mem y hy), G.inj⟩
theorem Inj.at_ {Hs Lo : List (Int × Int)} {ns : List Str} {S : Str → List Int} {x : Str} {v : Int} {g : Str → Int} (G : Inj Hs Lo ns (nar S x v) g) (hx : x ∈ ns) : g x = v := by
  have := G.mem x hx
  rw [nar_same] at this
  exact List.mem_singleton.mp this
theorem Inj.nar {Hs Lo : List (Int × Int)} {ns : List Str} {S : Str → List Int} {x : Str} {g : Str → Int} (G : Inj Hs Lo ns S g) : Inj Hs Lo ns (K22.nar S x (g x)) g := ⟨fun y hy => by
  by_cases c : y = x
  · rw [c, nar_same]; exact List.mem_singleton.mpr rfl
  · rw [nar_ne c]; exact G.mem y hy, G.inj⟩
theorem Bu.dup {H : Hp} {b p : Addr} {L : List Ent} (B : Bu H b L) (np : H p = none) : Bu (upd H p (.dK (entK L))) p L :=
  ⟨⟨.inl upd_same, fun e he => same_new np _ _ (B.sides e he), B.nd, B.few⟩, upd_same⟩
theorem putE_same {L : List Ent} {x : Str} {a : Addr} {s : List Int} (h : x ∈ L.map (·.1)) : (putE L x a s).map (·.1) = L.map (·.1) := by rw [putE_keys, if_pos h]
theorem Wd.nar {L : List Ent} {S : Str → List Int} {Hs : List (Int × Int)} {P : List Int} (W : Wd L S Hs P) {x : Str} {v : Int} {a : Addr} (hx : x ∈ L.map (·.1)) (hv : v ∈ S x) : Wd (putE L x a [v]) (K22.nar S x v) Hs P := by
  refine ⟨fun y hy => ?_, W.pp, fun y hy u hu => ?_, W.pos⟩
  · rw [putE_same hx] at hy
    rw [look_put]
    by_cases c : y = x
    · rw [if_pos c, c, nar_same]
    · rw [if_neg c, nar_ne c]; exact W.fit y hy
  · rw [putE_same hx] at hy
    exact W.inP y hy u (nar_mem hv hu)
noncomputable def feB (Hs Lo : List (Int × Int)) (ns : List Str) (S : Str → List Int) : Bool := @decide (Feas Hs Lo ns S) (Classical.propDecidable _)
theorem feB_iff {Hs Lo : List (Int × Int)} {ns : List Str} {S : Str → List Int} : feB Hs Lo ns S = true ↔ Feas Hs Lo ns S := by unfold feB; exact @decide_eq_true_iff _ (Classical.propDecidable _)
theorem filtI_snoc {A : List Int} {i : Nat} {e : Int} {p : Int → Bool} (h : A[i]? = some e) : (A.take (i + 1)).filter p = (A.take i).filter p ++ (if p e = true then [e] else []) := by
  rw [take_snoc h, List.filter_append, List.filter_cons, List.filter_nil]
theorem filtI_none {A : List Int} {p : Int → Bool} (h : ∀ v ∈ A, p v = false) : A.filter p = [] := List.filter_eq_nil_iff.mpr fun v hv => by rw [h v hv]; decide
theorem Fit.at_ {b : Addr} {L : List Ent} {ns : List Str} {S : Str → List Int} (F : Fit L ns S) {x : Str} (hx : x ∈ ns) : ∃ e ∈ L, ∀ {H : Hp}, Bu H b L → DGet H b (.str x) (some (.ref e.2.1)) ∧ H e.2.1 = some (.lst ((S x).map V.int)) := by
  have h := F x hx
  unfold look at h
  obtain ⟨e, he, e2⟩ := Option.map_eq_some_iff.mp h
  refine ⟨e, (getE_mem he).1, fun {H} B => ?_⟩
  have g := B.toBx.get x
  rw [he] at g
  refine ⟨g, ?_⟩
  rw [← e2]; exact B.sides e (getE_mem he).1
section
variable {P : Program} {w : World} {K : PySem.W.Frag} {mg : Str → Option Value} {base : Heap}
abbrev sCho : Stmt := topS 9
abbrev nCho : List Str := ["box", "highs", "lows", "name", "fits", "chosen", "value", "narrowed"]
theorem scCho : FnScope nCho ["box", "highs", "lows", "name"] (defScope sCho) := ⟨rfl, rfl, rfl, by decide +kernel, rfl, by decide +kernel, by decide +kernel⟩
def spCho : Sp := fun vs H Q _ => ∃ (b hd lo : Addr) (x : Str) (L : List Ent) (Hs Lo : List (Int × Int)) (S : Str → List Int) (P : List Int), vs = [.ref b, .ref hd, .ref lo, .str x] ∧ Bu H b L ∧ H hd = some (.dK (zK V.int Hs)) ∧ H lo = some (.dK (zK V.int Lo)) ∧ b ≠ hd ∧ b ≠ lo ∧ L.length ≤ 30 ∧ x ∈ L.map (·.1) ∧ (S x).length ≤ 1000 ∧ Wd L S Hs P ∧ Ones Hs Lo ∧
  ∀ (H' : Hp) (r : Addr), Same H H' → H r = none → H' r = some (.lst (((S x).filter fun v => feB Hs Lo (L.map (·.1)) (nar S x v)).map V.int)) → Q (.ref r) H'
theorem ok_Cho {f f0 : Addr} {fd fd0 : FuncData} (F : Fun K "choices" "choices" sCho f fd) (B : Bt mg) (CFn : Call P w K mg base 4 "_fits_near" f0 fd0 ["box", "highs", "lows", "full", "part"] spFn) :
    FnOk P w K mg base CX0 5 f fd ["box", "highs", "lows", "name"] spCho := by
  refine F.ok scCho (fun vs H Q E h => ?_) (fun cdv A outer s H vs Q E hr h => ?_)
  · obtain ⟨b, hd, lo, x, L, Hs, Lo, S, P, rfl, _⟩ := h
    rfl
  · obtain ⟨b, hd, lo, x, L, Hs, Lo, S, PP, rfl, bx, eh, el, bhd, blo, l30, hx, few, W, O, q⟩ := h
    have hu := hu_of hr
    have nd := scCho.nd
    refine ⟨_, pss_cons (ps_set (i := 4) nd rfl (.inl rfl) (pe_call CFn.ok (hr.mono (by decide)) (by rfl) CFn.at_ CFn.kp CFn.bd .nil pass0 (pa_cons (pv 0) (pa_cons (pv 1) (pa_cons (pv 2) (pa_cons pe_dnewK (pa_cons pe_dnewK pa_nil)))))))
      (pss_cons (ps_if (pt_cmp (pc_isN (pv 4)))
        (pss_one (ps_ret (pe_lst pa_nil)))
        pss_nil)
      (pss_cons (ps_set (i := 5) nd rfl (.inl rfl) (pe_lst pa_nil))
      (pss_cons (ps_for PassesOwn.never rfl (pi_list (pe_dget hu (pv 0) (pv 3) (fun _ _ => rfl))) (pg_name (i := 6) nd rfl (.inl rfl))
        (pss_cons (ps_set (i := 7) nd rfl (.inl rfl) (pe_callTy call_dictD (by rfl) B.dict PyProof.Rows.boot_dict (pa_cons (pv 0) pa_nil)))
          (pss_cons (ps_dput hu (pv 7) (pv 3) (pe_lst (pa_cons (pv 6) pa_nil)) rfl)
          (pss_one (ps_if (pt_cmp (pc_notN (pe_call CFn.ok (hr.mono (by decide)) (by rfl) CFn.at_ CFn.kp CFn.bd .nil pass0 (pa_cons (pv 7) (pa_cons (pv 1) (pa_cons (pv 2) (pa_cons (pe_ix ix_tup (pv 4) pe_int (fun _ _ => rfl)) (pa_cons (pe_ix ix_tup (pv 4) pe_int (fun _ _ => rfl)) pa_nil))))))))
            (pss_one (ps_expr (pe_bm PySem.F.plainAttrs_list PySem.F.slot_list_append PySem.F.type_list_append mt_append (pv 5) (pa_cons (pv 6) pa_nil))))
            pss_nil)))))
      (pss_one (ps_ret (pv 5)))))), ?_⟩
    refine ⟨_, rfl, _, rfl, _, rfl, fun e1 n1 => ?_⟩
    refine fun e2 n2 => ?_
    have t1 := same_new (o := HO.dK []) n1
    have t2 := t1.trans (same_new (o := HO.dK []) n2)
    have be1 : e1 ≠ b := fun z => by have := bx.un; rw [← z, n1] at this; cases this
    have be2 : e2 ≠ b := fun z => by have := (bx.same' t1).un; rw [← z, n2] at this; cases this
    refine ⟨b, hd, lo, e1, e2, L, Hs, Lo, S, PP, [], [], rfl, bx.same' t2, t2 _ _ eh, t2 _ _ el, same_new n2 _ _ upd_same, upd_same, bhd, blo, be1, be2, ⟨List.Pairwise.nil, (fun _ h => nomatch h), (FitOk.start (L.map (·.1)) S W.pos).le⟩, .nil fun v k hk => (O.le v k hk).1, W, O, fun H1 v s1 r1 => ?_⟩
    have S1 := t2.trans s1
    cases r1 with
    | no n =>
      refine ⟨_, rfl, _, rfl, iteT ⟨by show 0 ≤ sizeLine; decide, fun r nr => ?_⟩⟩
      refine q _ r (S1.trans (same_new nr)) (S1.free nr) ?_
      rw [filtI_none fun v hv => Bool.eq_false_iff.mpr fun z => ?_]
      · exact upd_same
      · obtain ⟨g, G⟩ := feB_iff.mp z
        exact n ⟨g, G.wide hv⟩
    | yes T r p M N0 nT eT nr er np ep fo fl inj =>
      refine ⟨_, rfl, _, rfl, iteF ?_⟩
      refine ⟨by show 0 ≤ sizeLine; decide, fun Z nZ => ?_⟩
      have sZ := same_new (o := HO.lst []) nZ
      have nZH := S1.free nZ
      obtain ⟨e, he, ge⟩ := W.fit.at_ (b := b) hx
      have eTH := eT
      refine ⟨_, rfl, _, rfl, b, .ref e.2.1, rfl, (ge (bx.same' (S1.trans sZ))).1, e.2.1, rfl, ⟨_, sl_map (ge (bx.same' (S1.trans sZ))).2⟩, for_list (xs := (S x).map V.int) (fun j σ H' => ∃ (y6 y7 : Option V), σ = [some (.ref b), some (.ref hd), some (.ref lo), some (.str x), some (.ref T), some (.ref Z), y6, y7] ∧ Same H1 H' ∧ H' Z = some (.lst ((((S x).take j).filter fun v => feB Hs Lo (L.map (·.1)) (nar S x v)).map V.int)))
        ⟨none, none, rfl, sZ, upd_same⟩ (fun j σ H' _ h => by obtain ⟨_, _, _, s, _⟩ := h; exact sl_map (ge (bx.same' (S1.trans s))).2) ?_ ?_⟩
      · rintro j x0 σ H2 hx0 ⟨y6, y7, rfl, s2, eZ⟩
        rw [List.getElem?_map] at hx0
        obtain ⟨v, hv, rfl⟩ := Option.map_eq_some_iff.mp hx0
        have vm := List.mem_of_getElem? hv
        have hj := (List.getElem?_eq_some_iff.mp hv).1
        have b2 := bx.same' (S1.trans s2)
        refine ⟨_, rfl, b, _, rfl, .inl b2.un, fun N nN => ?_⟩
        have bN := b2.dup nN
        have sN := same_new (o := HO.dK (entK L)) nN
        generalize upd H2 N (.dK (entK L)) = H3 at bN sN ⊢
        refine ⟨_, rfl, by show 1 ≤ sizeLine; decide, fun Y nY => ?_⟩
        have sY := same_new (o := HO.lst [V.int v]) nY
        have bN4 := bN.same' sY
        have eY : (upd H3 Y (.lst [V.int v])) Y = some (.lst (([v] : List Int).map V.int)) := upd_same
        generalize upd H3 Y (.lst [V.int v]) = H4 at sY bN4 eY ⊢
        refine ⟨_, rfl, _, rfl, N, _, rfl, DPut.k (k := .inr x) bN4.un (by rw [entK_len]; exact small1000 (by omega)), ?_⟩
        rw [putK_ent (s := [v])]
        have bN5 := bN4.aput (x := x) (s := [v]) eY (by omega)
        have nN2 := s2.free nN
        have s5 : Same H2 (upd H4 N (.dK (entK (putE L x Y [v])))) := same_at (sN.trans sY) nN
        have keys := putE_same (a := Y) (s := [v]) hx
        generalize upd H4 N (.dK (entK (putE L x Y [v]))) = H5 at bN5 s5 ⊢
        have s15 := s2.trans s5
        have S5 := S1.trans s15
        have eT5 := s15 _ _ eT
        have nb : ∀ {c : Addr} {u : HO}, H2 c = some u → c ≠ N := fun h => ne_d h nN
        refine ⟨_, rfl, _, rfl, _, rfl, _, rfl, T, _, _, .ref r, rfl, rfl, .inl (.inl eT5), atI_nat (j := 0) rfl, ?_⟩
        refine ⟨_, rfl, T, _, _, .ref p, rfl, rfl, .inl (.inl eT5), atI_nat (j := 1) rfl, ?_⟩
        refine ⟨N, hd, lo, r, p, putE L x Y [v], Hs, Lo, nar S x v, PP, M, N0, rfl, bN5, S5 _ _ eh, S5 _ _ el, s15 _ _ er, s15 _ _ ep, (nb ((S1.trans s2) _ _ eh)).symm, (nb ((S1.trans s2) _ _ el)).symm, nb (s2 _ _ er), nb (s2 _ _ ep), by rw [keys]; exact fo.pre, by rw [keys]; exact fl.pre, W.nar hx vm, O, fun H6 u s6 r6 => ?_⟩
        rw [keys] at r6
        have eZ6 := (s5.trans s6) _ _ eZ
        have fle : (((S x).take j).filter fun v => feB Hs Lo (L.map (·.1)) (nar S x v)).length ≤ (S x).length := Nat.le_trans (List.length_filter_le _ _) (by rw [List.length_take]; omega)
        cases r6 with
        | no n =>
          refine ⟨_, rfl, iteF ⟨_, _, rfl, s15.trans s6, ?_⟩⟩
          rw [filtI_snoc hv, if_neg fun z => n (feB_iff.mp z), List.append_nil]; exact eZ6
        | yes T2 r2 p2 M2 N2 nT2 eT2 nr2 er2 np2 ep2 fo2 fl2 inj2 =>
          refine ⟨_, rfl, iteT ?_⟩
          refine ⟨_, rfl, .inl ⟨rfl, _, sl_map eZ6⟩, _, rfl, Z, _, _, rfl, rfl, eZ6, by rw [List.length_map]; exact small1000 (by omega), _, _, rfl, same_at (s15.trans s6) nZ, ?_⟩
          rw [upd_same, filtI_snoc hv, if_pos (feB_iff.mpr inj2), List.map_append] <;> rfl
      · rintro σ H2 ⟨y6, y7, rfl, s2, eZ⟩
        rw [List.length_map, List.take_length] at eZ
        exact ⟨_, rfl, q _ Z (S1.trans s2) nZH eZ⟩
end
end K22
set_option Elab.async false
set_option linter.all false
set_option maxRecDepth 100000
set_option maxHeartbeats 4000000
namespace K22
open PySem PySem.Spec PyProof.Rows L2 Cs CsX
theorem lx_snoc {x y : Int} : ∀ {a b : List Int}, a.length = b.length → lxLt a b = false → (a = b → y ≤ x) → lxLt (a ++ [x]) (b ++ [y]) = false
  | [], [], _, _, h => by
    have := h rfl
    show lxLt [x] [y] = false
    unfold lxLt
    by_cases c : x = y
    · rw [if_pos c]; rfl
    · rw [if_neg c]; exact decide_eq_false (by omega)
  | [], _ :: _, l, _, _ => by cases l
  | _ :: _, [], l, _, _ => by cases l
  | u :: a, v :: b, l, g, h => by
    show lxLt (u :: (a ++ [x])) (v :: (b ++ [y])) = false
    unfold lxLt at g ⊢
    by_cases c : u = v
    · rw [if_pos c] at g ⊢
      exact lx_snoc (by rw [List.length_cons, List.length_cons] at l; omega) g fun e => h (by rw [c, e])
    · rw [if_neg c] at g ⊢; exact g
/-- the first i names have their value -/
def tok (ns : List Str) (S : Str → List Int) (c : Str → Int) (i : Nat) : Str → List Int := fun y => if y ∈ ns.take i then [c y] else S y
theorem tok_step {ns : List Str} {S : Str → List Int} {c : Str → Int} {i : Nat} {x : Str} {v : Int} (nd : ns.Nodup) (hx : ns[i]? = some x) : nar (tok ns S c i) x v = tok ns S (setC c x v) (i + 1) := by
  funext y
  unfold nar tok setC
  rw [take_snoc hx]
  by_cases e : y = x
  · rw [if_pos e, if_pos (List.mem_append_right _ (List.mem_singleton.mpr e)), if_pos e]
  · rw [if_neg e]
    by_cases m : y ∈ ns.take i
    · rw [if_pos m, if_pos (List.mem_append_left _ m), if_neg e]
    · rw [if_neg m, if_neg]
      intro z
      rcases List.mem_append.mp z with h | h
      · exact m h
      · exact e (List.mem_singleton.mp h)
theorem tok_at {ns : List Str} {S : Str → List Int} {c : Str → Int} {i : Nat} {x : Str} (nd : ns.Nodup) (hx : ns[i]? = some x) : tok ns S c i x = S x := if_neg (not_take nd hx)
theorem tok_zero {ns : List Str} {S : Str → List Int} {c : Str → Int} : tok ns S c 0 = S := by
  funext y
  exact if_neg (fun z => nomatch z)
theorem setC_take {ns : List Str} {c : Str → Int} {i : Nat} {x : Str} {v : Int} (nd : ns.Nodup) (hx : ns[i]? = some x) : (ns.take i).map (setC c x v) = (ns.take i).map c := List.map_congr_left fun y hy => if_neg fun (z : y = x) => not_take nd hx (z ▸ hy)
/-- the choice so far: it can go on, and no choice is less -/
structure Lm (Hs Lo : List (Int × Int)) (ns : List Str) (S : Str → List Int) (c : Str → Int) (i : Nat) : Prop where
  fe : Feas Hs Lo ns (tok ns S c i)
  inS : ∀ x ∈ ns.take i, c x ∈ S x
  least : ∀ g, Inj Hs Lo ns S g → lxLt ((ns.take i).map g) ((ns.take i).map c) = false
theorem Lm.start {Hs Lo : List (Int × Int)} {ns : List Str} {S : Str → List Int} (h : Feas Hs Lo ns S) (c : Str → Int) : Lm Hs Lo ns S c 0 := ⟨by rw [tok_zero]; exact h, (fun _ h => nomatch h), fun _ _ => rfl⟩
theorem Lm.inj {Hs Lo : List (Int × Int)} {ns : List Str} {S : Str → List Int} {c : Str → Int} {i : Nat} (h : Lm Hs Lo ns S c i) {g : Str → Int} (G : Inj Hs Lo ns (tok ns S c i) g) : Inj Hs Lo ns S g ∧ (ns.take i).map g = (ns.take i).map c := by
  refine ⟨⟨fun y hy => ?_, G.inj⟩, List.map_congr_left fun y hy => ?_⟩
  · have := G.mem y hy
    unfold tok at this
    split at this
    · next m => rw [List.mem_singleton.mp this]; exact h.inS y m
    · exact this
  · have := G.mem y (List.mem_of_mem_take hy)
    unfold tok at this
    rw [if_pos hy] at this
    exact List.mem_singleton.mp this
theorem Lm.step {Hs Lo : List (Int × Int)} {ns : List Str} {S : Str → List Int} {c : Str → Int} {i j : Nat} {x : Str} {v : Int} (nd : ns.Nodup) (hx : ns[i]? = some x) (so : Srt (S x)) (h : Lm Hs Lo ns S c i) (hv : (S x)[j]? = some v) (no : ∀ u ∈ (S x).take j, ¬ Feas Hs Lo ns (nar (tok ns S c i) x u)) (ye : Feas Hs Lo ns (nar (tok ns S c i) x v)) : Lm Hs Lo ns S (setC c x v) (i + 1) := by
  have vm := List.mem_of_getElem? hv
  refine ⟨by rw [← tok_step nd hx]; exact ye, fun y hy => ?_, fun g G => ?_⟩
  · rw [take_snoc hx] at hy
    by_cases e : y = x
    · show (if y = x then v else c y) ∈ _
      rw [if_pos e, e]; exact vm
    · show (if y = x then v else c y) ∈ _
      rw [if_neg e]
      rcases List.mem_append.mp hy with m | m
      · exact h.inS y m
      · exact absurd (List.mem_singleton.mp m) e
  · rw [take_snoc hx, List.map_append, List.map_append, setC_take nd hx]
    show lxLt (_ ++ [g x]) (_ ++ [setC c x v x]) = false
    rw [show setC c x v x = v from if_pos rfl]
    refine lx_snoc (by rw [List.length_map, List.length_map]) (h.least g G) fun e => ?_
    have xn := List.mem_of_getElem? hx
    have G2 : Inj Hs Lo ns (nar (tok ns S c i) x (g x)) g := Inj.nar ⟨fun y hy => by
      unfold tok
      by_cases m : y ∈ ns.take i
      · rw [if_pos m]
        obtain ⟨k, hk⟩ := List.mem_iff_getElem?.mp m
        have e1 : ((ns.take i).map g)[k]? = some (g y) := by rw [List.getElem?_map, hk] <;> rfl
        have e2 : ((ns.take i).map c)[k]? = some (c y) := by rw [List.getElem?_map, hk] <;> rfl
        rw [e, e2] at e1
        exact List.mem_singleton.mpr (Option.some.inj e1).symm
      · rw [if_neg m]; exact G.mem y hy, G.inj⟩
    have gm := G.mem x xn
    obtain ⟨k, hk⟩ := List.mem_iff_getElem?.mp gm
    rcases Nat.lt_or_ge k j with l | l
    · refine absurd ⟨g, G2⟩ (no (g x) (List.mem_iff_getElem?.mpr ⟨k, by rw [List.getElem?_take, if_pos l]; exact hk⟩))
    · rcases Nat.lt_or_eq_of_le l with l | l
      · obtain ⟨h1, h2⟩ := List.getElem?_eq_some_iff.mp hv
        obtain ⟨h3, h4⟩ := List.getElem?_eq_some_iff.mp hk
        have := List.pairwise_iff_getElem.mp so j k h1 h3 l
        omega
      · subst l
        rw [hv] at hk
        rw [Option.some.inj hk]; exact Int.le_refl _
theorem Lm.some {Hs Lo : List (Int × Int)} {ns : List Str} {S : Str → List Int} {c : Str → Int} {i : Nat} {x : Str} (nd : ns.Nodup) (hx : ns[i]? = some x) (h : Lm Hs Lo ns S c i) : ∃ v ∈ S x, Feas Hs Lo ns (nar (tok ns S c i) x v) := by
  obtain ⟨g, G⟩ := h.fe
  have := G.mem x (List.mem_of_getElem? hx)
  rw [tok_at nd hx] at this
  exact ⟨g x, this, g, G.nar⟩
theorem Lm.done {Hs Lo : List (Int × Int)} {ns : List Str} {S : Str → List Int} {c : Str → Int} (h : Lm Hs Lo ns S c ns.length) : Inj Hs Lo ns S c ∧ ∀ g, Inj Hs Lo ns S g → lxLt (ns.map g) (ns.map c) = false := by
  obtain ⟨g, G⟩ := h.fe
  obtain ⟨G2, e⟩ := h.inj G
  rw [List.take_length] at e
  exact ⟨⟨fun x hx => h.inS x (by rw [List.take_length]; exact hx), by rw [← e]; exact G2.inj⟩, fun g G => by have := h.least g G; rwa [List.take_length] at this⟩
theorem Lm.sub {Hs Lo : List (Int × Int)} {ns : List Str} {S : Str → List Int} {c : Str → Int} {i : Nat} (h : Lm Hs Lo ns S c i) {y : Str} {u : Int} (hu : u ∈ tok ns S c i y) : u ∈ S y := by
  unfold tok at hu
  split at hu
  · next m => rw [List.mem_singleton.mp hu]; exact h.inS y m
  · exact hu
theorem look_ent {L : List Ent} (nd : (L.map (·.1)).Nodup) {e : Ent} (he : e ∈ L) : look L e.1 = some e.2.2 := by
  unfold look
  rw [getE_of nd he] <;> rfl
inductive FcR (Hs Lo : List (Int × Int)) (ns : List Str) (S : Str → List Int) (H H' : Hp) : V → Prop
  | no (n : ¬ Feas Hs Lo ns S) : FcR Hs Lo ns S H H' .non
  | least (d : Addr) (c : Str → Int) (nd : H d = none) (ed : H' d = some (.dK (intK (ns.map fun x => (x, c x))))) (inj : Inj Hs Lo ns S c) (le : ∀ g, Inj Hs Lo ns S g → lxLt (ns.map g) (ns.map c) = false) : FcR Hs Lo ns S H H' (.ref d)
section
variable {P : Program} {w : World} {K : PySem.W.Frag} {mg : Str → Option Value} {base : Heap}
abbrev sFch : Stmt := topS 8
abbrev nFch : List Str := ["box", "highs", "lows", "fits", "narrowed", "name", "side", "value", "closer"]
theorem scFch : FnScope nFch ["box", "highs", "lows"] (defScope sFch) := ⟨rfl, rfl, rfl, by decide +kernel, rfl, by decide +kernel, by decide +kernel⟩
def spFch : Sp := fun vs H Q _ => ∃ (b hd lo : Addr) (L : List Ent) (Hs Lo : List (Int × Int)) (S : Str → List Int) (P : List Int), vs = [.ref b, .ref hd, .ref lo] ∧ Bu H b L ∧ H hd = some (.dK (zK V.int Hs)) ∧ H lo = some (.dK (zK V.int Lo)) ∧ b ≠ hd ∧ b ≠ lo ∧ L.length ≤ 30 ∧ (∀ x ∈ L.map (·.1), Srt (S x)) ∧ Wd L S Hs P ∧ Ones Hs Lo ∧
  ∀ (H' : Hp) (v : V), Same H H' → FcR Hs Lo (L.map (·.1)) S H H' v → Q v H'
theorem ok_Fch {f f0 : Addr} {fd fd0 : FuncData} (F : Fun K "first_choice" "first_choice" sFch f fd) (B : Bt mg) (CFn : Call P w K mg base 4 "_fits_near" f0 fd0 ["box", "highs", "lows", "full", "part"] spFn) :
    FnOk P w K mg base CX0 5 f fd ["box", "highs", "lows"] spFch := by
  refine F.ok scFch (fun vs H Q E h => ?_) (fun cdv A outer s H vs Q E hr h => ?_)
  · obtain ⟨b, hd, lo, L, Hs, Lo, S, P, rfl, _⟩ := h
    rfl
  · obtain ⟨b, hd, lo, L, Hs, Lo, S, PP, rfl, bx, eh, el, bhd, blo, l30, so, W, O, q⟩ := h
    have hu := hu_of hr
    have nd := scFch.nd
    refine ⟨_, pss_cons (ps_set (i := 3) nd rfl (.inl rfl) (pe_call CFn.ok (hr.mono (by decide)) (by rfl) CFn.at_ CFn.kp CFn.bd .nil pass0 (pa_cons (pv 0) (pa_cons (pv 1) (pa_cons (pv 2) (pa_cons pe_dnewK (pa_cons pe_dnewK pa_nil)))))))
      (pss_cons (ps_if (pt_cmp (pc_isN (pv 3)))
        (pss_one (ps_ret pe_non))
        pss_nil)
      (pss_cons (ps_set (i := 4) nd rfl (.inl rfl) (pe_callTy call_dictD (by rfl) B.dict PyProof.Rows.boot_dict (pa_cons (pv 0) pa_nil)))
      (pss_cons (ps_lock (ps_for PassesOwn.never rfl (pi_items (pv 0)) (pg_tup (by rfl) (pgs_cons (pg_name (i := 5) nd rfl (.inl rfl)) (pgs_cons (pg_name (i := 6) nd rfl (.inl rfl)) pgs_nil)))
        (pss_one (ps_for PassesOwn.never rfl (pi_list (pv 6)) (pg_name (i := 7) nd rfl (.inl rfl))
            (pss_cons (ps_dput hu (pv 4) (pv 5) (pe_lst (pa_cons (pv 7) pa_nil)) rfl)
              (pss_cons (ps_set (i := 8) nd rfl (.inl rfl) (pe_call CFn.ok (hr.mono (by decide)) (by rfl) CFn.at_ CFn.kp CFn.bd .nil pass0 (pa_cons (pv 4) (pa_cons (pv 1) (pa_cons (pv 2) (pa_cons (pe_ix ix_tup (pv 3) pe_int (fun _ _ => rfl)) (pa_cons (pe_ix ix_tup (pv 3) pe_int (fun _ _ => rfl)) pa_nil)))))))
              (pss_one (ps_if (pt_cmp (pc_notN (pv 8)))
                (pss_cons (ps_set (i := 3) nd rfl (.inl rfl) (pv 8))
                  (pss_one (ps_break)))
                pss_nil))))))))
      (pss_one (ps_ret (pe_lock (pe_dc (own := [("name", 5), ("side", 6)]) (g := gTup K 2 (gCons (gName 5) (gCons (gName 6) gNil))) (tt := tYes) (tk := tVar 5) rfl nd (pi_items (pv 4)) (blkOk_by (N := nFch) (sc := defScope sFch) (by decide +kernel)) (fun _ _ _ _ _ => pg_tup (by rfl) (pgs_cons (pg_name (i := 5) nd rfl (.inl rfl)) (pgs_cons (pg_name (i := 6) nd rfl (.inl rfl)) pgs_nil))) (fun _ _ _ _ _ => pts_nil)
          (fun _ _ _ _ _ => (pv 5)) (fun _ _ _ _ _ => (pe_ix (r := rIxL K) ix_list (pv 6) pe_int (fun _ _ => rfl)))))))))), ?_⟩
    obtain ⟨ns, hns⟩ : ∃ ns, ns = L.map (·.1) := ⟨_, rfl⟩
    have nn : ns.Nodup := by rw [hns]; exact bx.nd
    have lns : ns.length = L.length := by rw [hns, List.length_map]
    rw [← hns] at so q
    refine ⟨_, rfl, _, rfl, _, rfl, fun e1 n1 => ?_⟩
    refine fun e2 n2 => ?_
    have t1 := same_new (o := HO.dK []) n1
    have t2 := t1.trans (same_new (o := HO.dK []) n2)
    have be1 : e1 ≠ b := fun z => by have := bx.un; rw [← z, n1] at this; cases this
    have be2 : e2 ≠ b := fun z => by have := (bx.same' t1).un; rw [← z, n2] at this; cases this
    refine ⟨b, hd, lo, e1, e2, L, Hs, Lo, S, PP, [], [], rfl, bx.same' t2, t2 _ _ eh, t2 _ _ el, same_new n2 _ _ upd_same, upd_same, bhd, blo, be1, be2, ⟨List.Pairwise.nil, (fun _ h => nomatch h), (FitOk.start (L.map (·.1)) S W.pos).le⟩, .nil fun v k hk => (O.le v k hk).1, W, O, fun H1 v s1 r1 => ?_⟩
    rw [← hns] at r1
    have S1 := t2.trans s1
    cases r1 with
    | no n => exact ⟨_, rfl, _, rfl, iteT (q _ _ S1 (.no n))⟩
    | yes T r p M N0 nT eT nr er np ep fo fl0 inj =>
      refine ⟨_, rfl, _, rfl, iteF ?_⟩
      have bx1 := bx.same' S1
      refine ⟨_, rfl, b, _, rfl, .inl bx1.un, fun N nN => ?_⟩
      have bN := bx1.dup nN
      have sN := same_new (o := HO.dK (entK L)) nN
      have bx2 := bx1.same' sN
      have N1 : N ≠ b := fun z => by have := bx1.un; rw [← z, nN] at this; cases this
      generalize upd H1 N (.dK (entK L)) = H2 at bN sN bx2 ⊢
      refine ⟨b, _, bx2.un, trivial, fun od => ?_⟩
      have nNb : (upd H1 b (.frz od (.dK (entK L)))) N = none := by rw [upd_ne N1]; exact nN
      have hdN : hd ≠ N := ne_d (S1 _ _ eh) nN
      have loN : lo ≠ N := ne_d (S1 _ _ el) nN
      have rN : r ≠ N := ne_d er nN
      have pN : p ≠ N := ne_d ep nN
      have rb : r ≠ b := fun z => by have := bx.un; rw [← z, t2.free nr] at this; cases this
      have pb : p ≠ b := fun z => by have := bx.un; rw [← z, t2.free np] at this; cases this
      have fz := same_frz (od := od) bx1.un sN
      have fl : ∀ {G : Hp} {c : Addr} {u : HO}, Same (upd H1 b (.frz od (.dK (entK L)))) G → c ≠ b → H1 c = some u → G c = some u := fun s n e => s _ _ (by rw [upd_ne n]; exact e)
      have Tb : T ≠ b := fun z => by rw [z, bx1.un] at eT; cases eT
      have sides : ∀ {G : Hp}, Same (upd H1 b (.frz od (.dK (entK L)))) G → ∀ e ∈ L, G e.2.1 = some (.lst ((S e.1).map V.int)) := fun s e he => by
        have h1 := bx1.sides e he
        have h2 : e.2.2 = S e.1 := by
          have h3 := W.fit e.1 (List.mem_map.mpr ⟨e, he, rfl⟩)
          rw [look_ent bx.nd he] at h3
          exact Option.some.inj h3
        rw [h2] at h1
        exact fl s (fun z => by rw [z, bx1.un] at h1; cases h1) h1
      have wd0 : ∀ x ∈ ns, look L x = some (tok ns S (fun _ => 0) 0 x) := fun x hx => by rw [tok_zero]; exact W.fit x (by rw [← hns]; exact hx)
      have bN2 : Bu (upd H2 b (.frz od (.dK (entK L)))) N L := ⟨⟨.inl (by rw [upd_ne N1]; exact bN.un), fun g hg => by rw [upd_ne fun z => by have := bx2.sides g hg; rw [z, bx2.un] at this; cases this]; exact bN.sides g hg, bN.nd, bN.few⟩, by rw [upd_ne N1]; exact bN.un⟩
      refine ⟨_, rfl, b, od, entK L, rfl, upd_same, for_it walk_items (fun i σ H' => ∃ (c : Str → Int) (LN : List Ent) (T r p : Addr) (M N0 : List (Str × Int)) (y5 y6 y7 y8 : Option V), σ = [some (.ref b), some (.ref hd), some (.ref lo), some (.ref T), some (.ref N), y5, y6, y7, y8] ∧ Same (upd H1 b (.frz od (.dK (entK L)))) H' ∧ Bu H' N LN ∧ LN.map (·.1) = ns ∧ (∀ x ∈ ns, look LN x = some (tok ns S c i x)) ∧ Lm Hs Lo ns S c i ∧ H' T = some (.tup [.ref r, .ref p]) ∧ H' r = some (.dK (intK M)) ∧ H' p = some (.dK (intK N0)) ∧ r ≠ N ∧ p ≠ N ∧ PreFit ns (zget Hs) M ∧ LPre ns (zget Lo) N0)
        ⟨fun _ => 0, L, T, r, p, M, N0, none, none, none, none, rfl, fz, bN2, hns.symm, wd0, Lm.start inj _, fl fz Tb eT, fl fz rb er, fl fz pb ep, rN, pN, fo.pre, fl0.pre⟩ (fun i σ H' _ h => by obtain ⟨_, _, _, _, _, _, _, _, _, _, _, _, h, _⟩ := h; exact h _ _ upd_same) ?_ ?_⟩
      · clear rN pN rb pb fz Tb wd0 bN2 eT nT nr er np ep fo fl0 inj T r p M N0
        rintro i x0 σ H3 H4 hi ⟨c, LN, T, r, p, M, N0, y5, y6, y7, y8, rfl, s3, bN3, kN, fN, lm, eT, er, ep, rN, pN, pre, prl⟩ ⟨Tp, x1, x2, rfl, nTp, rfl, g1, g2⟩
        obtain ⟨e, he, rfl, rfl⟩ := items_at g1 g2
        have em := List.mem_of_getElem? he
        have hx : ns[i]? = some e.1 := by rw [hns, List.getElem?_map, he] <;> rfl
        have xn := List.mem_of_getElem? hx
        have sT := same_new (o := HO.tup [V.str e.1, V.ref e.2.1]) nTp
        have s4 := s3.trans sT
        refine ⟨Tp, _, rfl, .inl (.inl upd_same), rfl, _, _, rfl, _, _, rfl, rfl, ?_⟩
        have bN4 := bN3.same' sT
        replace eT := sT _ _ eT
        replace er := sT _ _ er
        replace ep := sT _ _ ep
        generalize upd H3 Tp (.tup [V.str e.1, V.ref e.2.1]) = H4 at sT s4 bN4 eT er ep ⊢
        clear sT nTp bN3 s3 H3
        refine ⟨_, rfl, e.2.1, rfl, ⟨_, sl_map (sides s4 e em)⟩, for_list (xs := (S e.1).map V.int) (fun j σ H' => ∃ (LN : List Ent) (y7 y8 : Option V), σ = [some (.ref b), some (.ref hd), some (.ref lo), some (.ref T), some (.ref N), some (.str e.1), some (.ref e.2.1), y7, y8] ∧ Same (upd H1 b (.frz od (.dK (entK L)))) H' ∧ Bu H' N LN ∧ LN.map (·.1) = ns ∧ (∀ x ∈ ns, x ≠ e.1 → look LN x = some (tok ns S c i x)) ∧ H' T = some (.tup [.ref r, .ref p]) ∧ H' r = some (.dK (intK M)) ∧ H' p = some (.dK (intK N0)) ∧ ∀ u ∈ (S e.1).take j, ¬ Feas Hs Lo ns (nar (tok ns S c i) e.1 u))
          ⟨LN, _, _, rfl, s4, bN4, kN, fun x hx _ => fN x hx, eT, er, ep, (fun _ h => nomatch h)⟩ (fun j σ H' _ h => by obtain ⟨_, _, _, _, h, _⟩ := h; exact sl_map (sides h e em)) ?_ ?_⟩
        · clear bN4 kN fN eT er ep s4 H4 LN y5 y6 y7 y8
          rintro j x0 σ H5 hx0 ⟨LN, y7, y8, rfl, s5, bN5, kN, fN, eT, er, ep, no⟩
          rw [List.getElem?_map] at hx0
          obtain ⟨v, hv, rfl⟩ := Option.map_eq_some_iff.mp hx0
          have vm := List.mem_of_getElem? hv
          have lLN : LN.length = ns.length := by rw [← kN, List.length_map]
          refine ⟨_, rfl, by show 1 ≤ sizeLine; decide, fun Y nY => ?_⟩
          have sY := same_new (o := HO.lst [V.int v]) nY
          have bN6 := bN5.same' sY
          have eY : (upd H5 Y (.lst [V.int v])) Y = some (.lst (([v] : List Int).map V.int)) := upd_same
          generalize upd H5 Y (.lst [V.int v]) = H6 at sY bN6 eY ⊢
          refine ⟨_, rfl, _, rfl, N, _, rfl, DPut.k (k := .inr e.1) bN6.un (by rw [entK_len]; exact small1000 (by omega)), ?_⟩
          rw [putK_ent (s := [v])]
          have bN7 := bN6.aput (x := e.1) (s := [v]) eY (by omega)
          have s7 : Same (upd H1 b (.frz od (.dK (entK L)))) (upd H6 N (.dK (entK (putE LN e.1 Y [v])))) := same_at (s5.trans sY) nNb
          have xk : e.1 ∈ LN.map (·.1) := by rw [kN]; exact xn
          have keys : (putE LN e.1 Y [v]).map (·.1) = ns := (putE_same (a := Y) (s := [v]) xk).trans kN
          have TN : T ≠ N := fun z => by have := bN5.un; rw [← z, eT] at this; cases this
          have eT7 : (upd H6 N (.dK (entK (putE LN e.1 Y [v])))) T = some (.tup [.ref r, .ref p]) := by rw [upd_ne TN]; exact sY _ _ eT
          have er7 : (upd H6 N (.dK (entK (putE LN e.1 Y [v])))) r = some (.dK (intK M)) := by rw [upd_ne rN]; exact sY _ _ er
          have ep7 : (upd H6 N (.dK (entK (putE LN e.1 Y [v])))) p = some (.dK (intK N0)) := by rw [upd_ne pN]; exact sY _ _ ep
          have fN7 : ∀ x ∈ ns, look (putE LN e.1 Y [v]) x = some (nar (tok ns S c i) e.1 v x) := fun x hx => by
            rw [look_put]
            by_cases z : x = e.1
            · rw [if_pos z, z, nar_same]
            · rw [if_neg z, nar_ne z]; exact fN x hx z
          have vt : v ∈ tok ns S c i e.1 := by rw [tok_at nn hx]; exact vm
          have W7 : Wd (putE LN e.1 Y [v]) (nar (tok ns S c i) e.1 v) Hs PP := ⟨by rw [keys]; exact fN7, W.pp, fun y hy u hu => W.inP y (by rw [← hns, ← keys]; exact hy) u (lm.sub (nar_mem vt hu)), W.pos⟩
          generalize upd H6 N (.dK (entK (putE LN e.1 Y [v]))) = H7 at bN7 s7 eT7 er7 ep7 ⊢
          refine ⟨_, rfl, _, rfl, _, rfl, _, rfl, T, _, _, .ref r, rfl, rfl, .inl (.inl eT7), atI_nat (j := 0) rfl, ?_⟩
          refine ⟨_, rfl, T, _, _, .ref p, rfl, rfl, .inl (.inl eT7), atI_nat (j := 1) rfl, ?_⟩
          refine ⟨N, hd, lo, r, p, putE LN e.1 Y [v], Hs, Lo, nar (tok ns S c i) e.1 v, PP, M, N0, rfl, bN7, fl s7 bhd.symm (S1 _ _ eh), fl s7 blo.symm (S1 _ _ el), er7, ep7, hdN.symm, loN.symm, rN, pN, by rw [keys]; exact pre, by rw [keys]; exact prl, W7, O, fun H8 u s8 r8 => ?_⟩
          rw [keys] at r8
          cases r8 with
          | no n =>
            refine ⟨_, rfl, _, rfl, iteF ⟨putE LN e.1 Y [v], _, _, rfl, s7.trans s8, bN7.same' s8, keys, fun x hx z => ?_, s8 _ _ eT7, s8 _ _ er7, s8 _ _ ep7, fun u hu => ?_⟩⟩
            · rw [fN7 x hx, nar_ne z]
            · rw [take_snoc hv] at hu
              rcases List.mem_append.mp hu with h | h
              · exact no u h
              · rw [List.mem_singleton.mp h]; exact n
          | yes T2 r2 p2 M2 N2 nT2 eT2 nr2 er2 np2 ep2 fo2 fl2 inj2 =>
            have n7 : ∀ {q : Addr}, H7 q = none → q ≠ N := fun h z => by have := bN7.un; rw [← z, h] at this; cases this
            refine ⟨_, rfl, _, rfl, iteT ⟨_, rfl, ?_⟩⟩
            refine ⟨setC c e.1 v, putE LN e.1 Y [v], T2, r2, p2, M2, N2, _, _, _, _, rfl, s7.trans s8, bN7.same' s8, keys, fun x hx2 => ?_, lm.step nn hx (so _ xn) hv no inj2, eT2, er2, ep2, n7 nr2, n7 np2, fo2.pre, fl2.pre⟩
            rw [fN7 x hx2, tok_step nn hx]
        · rintro σ H5 ⟨LN, y7, y8, rfl, s5, bN5, kN, fN, eT, er, ep, no⟩
          rw [List.length_map, List.take_length] at no
          obtain ⟨v, vm, fv2⟩ := lm.some nn hx
          exact absurd fv2 (no v vm)
      · clear rN pN rb pb fz Tb wd0 bN2 eT nT er nr ep np fo fl0 inj T r p M N0
        rintro σ H3 ⟨c, LN, T, r, p, M, N0, y5, y6, y7, y8, rfl, s3, bN3, kN, fN, lm, _⟩
        rw [entK_len, ← lns] at fN lm
        obtain ⟨cinj, cle⟩ := lm.done
        refine ⟨s3 _ _ upd_same, ?_⟩
        have s4 : Same H1 (upd H3 b (.dK (entK L))) := unlock bx1.un s3
        have bN4 : Bu (upd H3 b (.dK (entK L))) N LN := by
          have hb3 := s3 _ _ (upd_same (H := H1) (a := b) (o := HO.frz od (.dK (entK L))))
          exact ⟨⟨.inl (by rw [upd_ne N1]; exact bN3.un), fun g hg => by rw [upd_ne fun z => by have := bN3.sides g hg; rw [z, hb3] at this; cases this]; exact bN3.sides g hg, bN3.nd, bN3.few⟩, by rw [upd_ne N1]; exact bN3.un⟩
        generalize upd H3 b (.dK (entK L)) = H4 at s4 bN4 ⊢
        have lLN : LN.length = ns.length := by rw [← kN, List.length_map]
        have cv : ∀ e ∈ LN, e.2.2 = [c e.1] := fun e he => by
          have h1 := look_ent bN4.nd he
          have xn : e.1 ∈ ns := by rw [← kN]; exact List.mem_map.mpr ⟨e, he, rfl⟩
          rw [fN e.1 xn] at h1
          have h2 := Option.some.inj h1
          rw [← h2]
          unfold tok
          rw [List.take_length, if_pos xn]
        refine ⟨N, _, bN4.un, trivial, fun od2 => ?_⟩
        have sd : ∀ {G : Hp}, Same (upd H4 N (.frz od2 (.dK (entK LN)))) G → ∀ e ∈ LN, G e.2.1 = some (.lst ([c e.1].map V.int)) := fun s e he => by
          have h1 := bN4.sides e he
          rw [cv e he] at h1
          exact s _ _ (by rw [upd_ne fun z => by rw [z, bN4.un] at h1; cases h1]; exact h1)
        refine ⟨_, rfl, N, od2, entK LN, rfl, upd_same, fun X nX => ?_⟩
        refine dc_it walk_items (fun i H' => Same (upd H4 N (.frz od2 (.dK (entK LN)))) H' ∧ H' X = some (.dK (intK ((ns.take i).map fun x => (x, c x))))) ⟨same_new nX, upd_same⟩ (fun i H' _ h => h.1 _ _ upd_same) ?_ ?_
        · rintro i x0 H5 H6 hi ⟨s5, eX⟩ ⟨Tt, x1, x2, rfl, nT, rfl, g1, g2⟩
          obtain ⟨e, he, rfl, rfl⟩ := items_at g1 g2
          have em := List.mem_of_getElem? he
          have hx : ns[i]? = some e.1 := by rw [← kN, List.getElem?_map, he] <;> rfl
          have hi2 := (List.getElem?_eq_some_iff.mp hx).1
          have sT := same_new (o := HO.tup [V.str e.1, V.ref e.2.1]) nT
          have s6 := s5.trans sT
          have eX6 := sT _ _ eX
          refine ⟨Tt, _, rfl, .inl (.inl upd_same), rfl, _, _, rfl, _, [], rfl, rfl, ?_⟩
          refine ⟨rfl, _, rfl, _, rfl, e.2.1, _, _, .int (c e.1), rfl, rfl, sl_map (sd s6 e em), atI_nat (j := 0) rfl, _, .inr e.1, rfl, eX6, by rw [intK_len, List.length_map, List.length_take]; exact small1000 (by omega), same_at s6 nX, ?_⟩
          have xn : e.1 ∉ ((ns.take i).map fun x => (x, c x)).map (·.1) := by
            rw [List.map_map]
            intro z
            obtain ⟨y, hy, e2⟩ := List.mem_map.mp z
            exact not_take nn hx (by rw [← show y = e.1 from e2]; exact hy)
          rw [upd_same, putK_int, putA_new xn, take_snoc hx, List.map_append] <;> rfl
        · rintro H5 ⟨s5, eX⟩
          rw [entK_len, lLN, List.take_length] at eX
          have eF := s5 _ _ (upd_same (H := H4) (a := N) (o := HO.frz od2 (.dK (entK LN))))
          have nX4 : H4 X = none := by
            by_cases z : X = N
            · rw [z, upd_same] at nX; cases nX
            · rwa [upd_ne z] at nX
          have XN : X ≠ N := fun z => by rw [z, eF] at eX; cases eX
          have S5 : Same H (upd H5 N (.dK (entK LN))) := (S1.trans s4).trans (unlock bN4.un s5)
          exact ⟨eF, q _ _ S5 (.least X c ((S1.trans s4).free nX4) (by rw [upd_ne XN]; exact eX) cinj cle)⟩
end
end K22
set_option Elab.async false
set_option linter.all false
set_option maxRecDepth 100000
set_option maxHeartbeats 2000000
/-! set(t) of a tuple of ints; how many members a set has -/
namespace Cs
open PySem PySem.Spec PyProof.Rows L2
end Cs
set_option Elab.async false
set_option linter.all false
set_option maxRecDepth 100000
set_option maxHeartbeats 2000000
/-! [e for a in xs for b in ys]: both walks -/
namespace Cs
open PySem PySem.Spec PyProof.Rows L2
end Cs
set_option Elab.async false
set_option linter.all false
set_option maxRecDepth 100000
set_option maxHeartbeats 4000000
/-! in and == with tuples of tuples of ints, == of tuples of texts -/
namespace Cs
open PySem PySem.Spec PyProof.Rows L2
end Cs
set_option Elab.async false
set_option linter.all false
set_option maxRecDepth 100000
set_option maxHeartbeats 4000000
/-! tuples whose object is known (it has no dict): methods of theirs -/
namespace Cs
open PySem PySem.Spec PyProof.Rows L2
/-- a tuple's object, nothing else in it -/
def Pl (o : Obj) : Prop := o.cls = .type "tuple" ∧ o.dict = none
/-- a tuple, its object known -/
def TpK (H : Hp) (a : Addr) (xs : List V) : Prop := ∃ o, Pl o ∧ H a = some (.frz o (.tup xs))
theorem TpK.same {H H' : Hp} {a : Addr} {xs : List V} (h : TpK H a xs) (s : Same H H') : TpK H' a xs := by
  obtain ⟨o, p, e⟩ := h; exact ⟨o, p, s _ _ e⟩
theorem TpK.sq {K : PySem.W.Frag} {H : Hp} {a : Addr} {xs : List V} (h : TpK H a xs) : SqT K H a xs := by
  obtain ⟨o, p, e⟩ := h; exact .inl (.inr ⟨o, e⟩)
theorem TpK.some {H : Hp} {a : Addr} {xs : List V} (h : TpK H a xs) : H a ≠ none := by
  obtain ⟨o, p, e⟩ := h; rw [e]; exact fun z => by cases z
variable {X : Cx}
/-- tuple(xs), xs a list: its object is known -/
def rTupK (K : PySem.W.Frag) : List V → Hp → VK → Prop := fun xs H Q => ∃ p ys, xs = [.ref p] ∧ SqL K H p ys ∧ ∀ l o, H l = none → Pl o → Q (.ref l) (upd H l (.frz o (.tup ys)))
theorem call_tupK : CallR X (.type "tuple") (rTupK X.K) := by
  intro pins s σ H xs us Q I r h
  obtain ⟨p, ys, rfl, hq, q⟩ := h
  obtain ⟨u, rfl, rx⟩ := vals1 r
  cases rx
  obtain ⟨its, r', pl, hz⟩ := I.list hq
  have hlen := r'.length
  refine call_tuple_list pl.isList (fun h' kp => ?_) (by simp only [List.size_toArray] <;> omega)
  have I1 : L2.Inv X pins σ H { s with heap := h' } := I.kept (t' := s.toks) kp
  have new : ObjOk X.prog X.w (upd H h'.objs.size (.frz { cls := .type "tuple", data := .seq its.toArray } (.tup ys))) (h'.push { cls := .type "tuple", data := .seq its.toArray }) h'.objs.size (.frz { cls := .type "tuple", data := .seq its.toArray } (.tup ys)) :=
    ⟨Heap.get?_push_size _ rfl, hz, its, r', IsTup.new _ _⟩
  exact ⟨.ref h'.objs.size, _, I1.laid (t' := s.toks) (fun b o e => Heap.get?_push_of_some _ e) (Nat.le_refl _) new, rfl, q _ _ (I1.hok.fresh (Nat.le_refl _)) ⟨rfl, rfl⟩⟩
/-- a method of such a tuple -/
def tBMT (K : PySem.W.Frag) (r : V → List V → Hp → VK → Prop) (to : TE) (t : TA) : TE := fun σ H Q => to σ H fun x H1 => (∃ a xs, x = .ref a ∧ TpK H1 a xs) ∧ t σ H1 fun xs H2 => r x xs H2 Q
variable {o e : Expr} {es : List Expr} {to : TE} {t : TA} {name : Str} {apos cpos : Pos} {id : String} {r : V → List V → Hp → VK → Prop}
theorem pe_bmT (pa : PlainAttrs "tuple") (slot : Slot "tuple" name id) (hty : typeOf (.builtin id) = pure (.type "method_descriptor")) (hm : MtR X id r) (ho : PE X o to) (ha : PA X (e :: es) t) (hbase : attributeBase o name X.env (eval o X.env) = eval o X.env := by rfl) (hfew : ((backTo cpos (starEach (e :: es) X.env)).all (fun x => !x.1) && (backToKw cpos (keywordEach [] X.env)).all (fun x => x.1.isSome) && decide ((e :: es).length + ([] : List Keyword).length + (if ([] : List Keyword).isEmpty then 0 else 1) < 30)) = true := by rfl) (hline : (apos.endLine == cpos.line) = true := by rfl) (hs : starEach (e :: es) X.env = (false, eval e X.env) :: starEach es X.env := by rfl) (hplain : (backTo cpos (starEach es X.env)).any (·.1) = false := by rfl) : PE X (.Call (.Attribute o name apos) (e :: es) [] cpos) (tBMT X.K r to t) := by
  refine ⟨fun pins s σ H Q I h => wpAny_Call_method_late hbase hfew hline rfl (thn (ho.run pins s σ H _ I h) fun v s1 ⟨x, H1, I1, r1, ty, q1⟩ => ?_)⟩
  obtain ⟨a, xs, rfl, ob, ⟨c1, c2⟩, eH⟩ := ty
  cases r1
  obtain ⟨get, _⟩ := (show ObjOk X.prog X.w H1 s1.heap a (.frz ob (.tup xs)) from I1.hok a _ eH)
  refine ⟨"tuple", id, pa, slot, hty, ⟨ob, get, c1⟩, fun b e => by cases e; exact ⟨ob, get, c2⟩, ?_⟩
  have hA := ha.run cpos pins s1 σ H1 _ I1 q1
  rw [hs] at hA ⊢
  exact Calls.callWith_builtin (by show (false || (backTo cpos (starEach es X.env)).any (·.1)) = false; rw [hplain] <;> rfl) (Calls.evalArgs_plain (thn hA fun us s2 ⟨vs, H2, I2, r2, q2⟩ => hm pins s2 σ H2 (.ref a) vs (.ref a) us Q I2 rfl r2 q2))
end Cs
set_option Elab.async false
set_option linter.all false
set_option maxRecDepth 100000
set_option maxHeartbeats 2000000
/-! how often a number is in a tuple -/
namespace Cs
open PySem PySem.Spec PyProof.Rows L2
section
variable {X : Cx}
def rCntT (K : PySem.W.Frag) : V → List V → Hp → VK → Prop := fun x xs H Q => ∃ (p : Addr) (ns : List Int) (k : Int), x = .ref p ∧ xs = [.int k] ∧ SqT K H p (ns.map V.int) ∧ Q (.int (ns.count k : Nat)) H
theorem mt_tcount : MtR X "tuple.count" (rCntT X.K) := by
  intro pins s σ H x xs v us Q I rx rxs h
  obtain ⟨p, ns, k, rfl, rfl, hs, q⟩ := h
  cases rx
  obtain ⟨u, rfl, ru⟩ := rxs.one
  obtain ⟨t, rfl⟩ := ru
  obtain ⟨its, rv, pl, hlen⟩ := I.tuple hs
  obtain ⟨⟨cls, dd, data, sl⟩, ho, hc, n, hd⟩ := pl
  simp only at hc hd
  subst hc hd
  have hi := ints_of_vals rv
  refine call_meets PySem.F.slot_tuple_count ⟨_, ho, rfl⟩ PySem.F.entry_tuple_count (PySem.F.args_tuple_count_2 _ _)
    (SeqAt.tuple_countAt p its.toArray n dd sl (.int k t) (eqk k)) ⟨ho, fun y hy => (eqk_gives hi y (by simpa using hy)).at _ _, ?_⟩
  have ec : its.toArray.toList.countP (eqk k) = ns.count k := eqk_count hi
  refine ⟨.int (ns.count k : Nat), H, I.tok _, ⟨s.toks, ?_⟩, q⟩
  show Value.int ((its.toArray.toList.countP (eqk k) : Nat) : Int) s.toks = Value.int ((ns.count k : Nat) : Int) s.toks
  rw [ec]
end
end Cs
set_option Elab.async false
set_option linter.all false
set_option maxRecDepth 100000
set_option maxHeartbeats 4000000
namespace CsX
open PySem PySem.Spec PyProof.Rows L2
end CsX
/-! ### an own error without fields; classes, methods, properties -/
namespace CsX
open PySem PySem.Spec PyProof.Rows L2
/-- a class of the program: its text, its name, its attributes (no class attribute has the name) -/
structure Kls (K : PySem.W.Frag) (mg : Str → Option Value) (x : Str) (C : Addr) (fs : List Str) : Prop where
  cl : Cls K C
  gC : mg x = some (.ref C)
  no : ∀ f ∈ fs, NoAttr K C f
/-- its __init__ -/
structure CallN (P : Program) (w : World) (K : PySem.W.Frag) (mg : Str → Option Value) (base : Heap) (k : Nat) (C f : Addr) (fd : FuncData) (ps : List Str) (sp : Sp) : Prop where
  ok : FnOk P w K mg base CX0 k f fd ps sp
  mkr : Mk K C f
  bd : Binds K fd ps []
/-- a method -/
structure CallM (P : Program) (w : World) (K : PySem.W.Frag) (mg : Str → Option Value) (base : Heap) (k : Nat) (C : Addr) (m : Str) (f : Addr) (fd : FuncData) (ps : List Str) (sp : Sp) : Prop where
  ok : FnOk P w K mg base CX0 k f fd ps sp
  mt : Meth K C m f
  bd : Binds K fd ps []
end CsX
set_option Elab.async false
set_option linter.all false
set_option maxRecDepth 100000
set_option maxHeartbeats 4000000
namespace CsX
open PySem PySem.Spec PyProof.Rows L2
/-- two promises of one def, in one -/
theorem FnOk.or {P : Program} {w : World} {K : PySem.W.Frag} {mg : Str → Option Value} {base : Heap} {CX : CXT} {k : Nat} {f : Addr} {fd : FuncData} {ps : List Str} {sp1 sp2 : Sp} (F1 : FnOk P w K mg base CX k f fd ps sp1) (F2 : FnOk P w K mg base CX k f fd ps sp2) :
    FnOk P w K mg base CX k f fd ps (fun vs H Q E => sp1 vs H Q E ∨ sp2 vs H Q E) :=
  ⟨fun vs H Q E h => h.elim (F1.len vs H Q E) (F2.len vs H Q E), fun A outer s H args us vs Q E hr he hb hv h => h.elim (F1.run A outer s H args us vs Q E hr he hb hv) (F2.run A outer s H args us vs Q E hr he hb hv)⟩
end CsX
set_option Elab.async false
set_option linter.all false
set_option maxRecDepth 100000
set_option maxHeartbeats 4000000
/-! ### errors whose context is known to be None; calls within an except suite -/
namespace CsX
open PySem PySem.Spec PyProof.Rows L2 L2H HotX
/-! C(x): an own error with fields, its context None (after ExcInit's and ExcInitHot's own, for L2N) -/
end CsX
set_option Elab.async false
set_option linter.all false
set_option maxRecDepth 100000
set_option maxHeartbeats 4000000
/-! ### sorted(s), s a set of areI of any number of members -/
namespace Cs
open PySem PySem.Spec PyProof.Rows L2
end Cs
set_option Elab.async false
set_option linter.all false
set_option maxRecDepth 100000
set_option maxHeartbeats 4000000
namespace K22
open PySem PySem.Spec PyProof.Rows L2 Cs CsX
theorem dgetI {H : Hp} {d : Addr} {A : List (Str × Int)} {x : Str} {v : Int} (h : H d = some (.dK (intK A))) (hv : aget A x = some v) : DGet H d (.str x) (some (.int v)) := by
  have := Ax.get (H := H) (d := d) (A := A) ⟨.inl h⟩ x
  rwa [hv] at this
section
variable {P : Program} {w : World} {K : PySem.W.Frag} {mg : Str → Option Value} {base : Heap}
abbrev sRst : Stmt := topS 22
abbrev nRst : List Str := ["names", "box", "name"]
theorem scRst : FnScope nRst ["names", "box"] (defScope sRst) := ⟨rfl, rfl, rfl, by decide +kernel, rfl, by decide +kernel, by decide +kernel⟩
def spRst : Sp := fun vs H Q _ => ∃ (t b : Addr) (ns : List Str) (L : List Ent) (S : Str → List Int), vs = [.ref t, .ref b] ∧ TpK H t (ns.map V.str) ∧ ns.Nodup ∧ ns.length ≤ 30 ∧ Bu H b L ∧ Fit L ns S ∧
  ∀ (H' : Hp) (d : Addr) (M : List Ent), Same H H' → H d = none → Bu H' d M → M.map (·.1) = ns → Fit M ns S → Q (.ref d) H'
theorem ok_Rst {f  : Addr} {fd  : FuncData} (F : Fun K "restricted" "restricted" sRst f fd) (B : Bt mg) :
    FnOk P w K mg base CX0 1 f fd ["names", "box"] spRst := by
  refine F.ok scRst (fun vs H Q E h => ?_) (fun cdv A outer s H vs Q E hr h => ?_)
  · obtain ⟨t, b, ns, L, S, rfl, _⟩ := h
    rfl
  · obtain ⟨t, b, ns, L, S, rfl, et, nn, few, bx, fit, q⟩ := h
    have hu := hu_of hr
    have nd := scRst.nd
    refine ⟨_, pss_one (ps_ret (pe_dc (own := [("name", 2)]) (g := gName 2) (tt := tYes) (tk := tVar 2) rfl nd (pi_tup (pv 0)) (blkOk_by (N := nRst) (sc := defScope sRst) (by decide +kernel)) (fun _ _ _ _ _ => pg_name (i := 2) nd rfl (.inl rfl)) (fun _ _ _ _ _ => pts_nil)
          (fun _ _ _ _ _ => (pv 2)) (fun _ _ _ _ _ => (pe_dget hu (pv 1) (pv 2) (fun _ _ => rfl))))), ?_⟩
    refine ⟨_, rfl, t, rfl, ⟨_, et.sq⟩, fun D nD => dc_tup (xs := ns.map V.str) (fun i H' => ∃ M : List Ent, Same H H' ∧ Bu H' D M ∧ M.map (·.1) = ns.take i ∧ ∀ x ∈ ns.take i, look M x = some (S x)) ⟨[], same_new nD, ⟨⟨.inl upd_same, (fun _ h => nomatch h), List.Pairwise.nil, Nat.zero_le _⟩, upd_same⟩, rfl, (fun _ h => nomatch h)⟩ (fun i H' _ h => by obtain ⟨_, h, _⟩ := h; exact (et.same h).sq) ?_ ?_⟩
    · rintro i x0 H1 hx0 ⟨M, s1, bm, km, lm⟩
      rw [List.getElem?_map] at hx0
      obtain ⟨x, hx, rfl⟩ := Option.map_eq_some_iff.mp hx0
      have xn := List.mem_of_getElem? hx
      have hi := (List.getElem?_eq_some_iff.mp hx).1
      obtain ⟨a, ga, ea⟩ := Fit.get (bx.same' s1).toBx fit xn
      have lM : M.length ≤ ns.length := by rw [← List.length_map (f := (·.1)), km, List.length_take]; omega
      have bm2 := bm.aput (x := x) ea (by omega)
      refine ⟨rfl, .str x, rfl, _, rfl, _, rfl, b, .ref a, rfl, ga, _, .inr x, rfl, bm.un, by rw [entK_len]; exact small1000 (by omega), ?_⟩
      rw [putK_ent (s := S x)]
      have xk : x ∉ M.map (·.1) := by rw [km]; exact not_take nn hx
      refine ⟨_, same_at s1 nD, bm2, by rw [putE_keys, if_neg xk, km, take_snoc hx], fun y hy => ?_⟩
      rw [look_put]
      by_cases c : y = x
      · rw [if_pos c, c]
      · rw [if_neg c]
        rw [take_snoc hx] at hy
        rcases List.mem_append.mp hy with h | h
        · exact lm y h
        · exact absurd (List.mem_singleton.mp h) c
    · rintro H1 ⟨M, s1, bm, km, lm⟩
      rw [List.length_map, List.take_length] at km lm
      exact q _ D M s1 nD bm km lm
/-! ### checked_names, of names that are all right -/
abbrev sChk : Stmt := topS 20
abbrev nChk : List Str := ["names", "earlier", "name"]
theorem scChk : FnScope nChk ["names"] (defScope sChk) := ⟨rfl, rfl, rfl, by decide +kernel, rfl, by decide +kernel, by decide +kernel⟩
def spChk : Sp := fun vs H Q _ => ∃ (a : Addr) (xs : List Str), vs = [.ref a] ∧ H a = some (.lst (xs.map V.str)) ∧ xs ≠ [] ∧ xs.Nodup ∧ xs.length ≤ 1000 ∧
  ∀ (H' : Hp) (t : Addr), Same H H' → (∀ b, H' b = none → H b = none) → H t = none → TpK H' t (xs.map V.str) → Q (.ref t) H'
theorem ok_Chk {f : Addr} {fd : FuncData} (F : Fun K "checked_names" "checked_names" sChk f fd) (B : Bt mg) (ztuple : mg "tuple" = none) : FnOk P w K mg base CX0 1 f fd ["names"] spChk := by
  refine F.ok scChk (fun vs H Q E h => ?_) (fun cdv A outer s H vs Q E hr h => ?_)
  · obtain ⟨a, xs, rfl, _⟩ := h
    rfl
  · obtain ⟨a, xs, rfl, ha, ne, nd0, few, k⟩ := h
    have nd := scChk.nd
    refine ⟨_, pss_cons (ps_if (pt_cmpR op_eq (pe_callB call_len_seq (by rfl) B.len PySem.boot_len (pa_cons (pv 0) pa_nil)) pe_int rfl) pss_any pss_nil)
      (pss_cons (ps_set (i := 1) nd rfl (.inl rfl) (pe_callTy0 cr_set0K (by rfl) B.set PyProof.Rows.boot_set))
      (pss_cons (ps_for PassesOwn.never rfl (pi_list (pv 0)) (pg_name (i := 2) nd rfl (.inl rfl))
        (pss_cons (ps_if (pt_cmpR or_sinK (pv 2) (pv 1) rfl) pss_any pss_nil)
        (pss_one (ps_expr (pe_saddK (pv 1) (pa_cons (pv 2) pa_nil))))))
      (pss_one (ps_ret (pe_callTy call_tupK (by rfl) ztuple PyProof.Rows.boot_tuple (pa_cons (pv 0) pa_nil)))))), ?_⟩
    refine ⟨_, rfl, a, _, rfl, .inl (sl_map ha), rfl, _, rfl, ite_both (fun c => ?_) fun _ => ?_⟩
    · have := V.int.inj (of_decide_eq_true c)
      rw [List.length_map] at this
      cases xs with
      | nil => exact absurd rfl ne
      | cons x xs => rw [List.length_cons] at this; omega
    refine ⟨rfl, fun D nD => ?_⟩
    have s0 := same_new (o := SetK P w D (fun _ => false) 0) nD
    refine ⟨.ref a, rfl, a, rfl, ⟨_, sl_map (s0 _ _ ha)⟩, for_list (xs := xs.map V.str) (fun i σ H' => ∃ (S : Key → Bool) (n : Nat) (y2 : Option V), σ = [some (.ref a), some (.ref D), y2] ∧ Same H H' ∧ (∀ b, H' b = none → H b = none) ∧ H' D = some (SetK P w D S n) ∧ n ≤ i ∧ ∀ x, S (.inr x) = true → x ∈ xs.take i)
      ⟨_, 0, none, rfl, s0, (fun b e => by grind only [= g_upd]), upd_same, Nat.le_refl _, (fun _ h => nomatch h)⟩ (fun i σ H' _ h => by obtain ⟨_, _, _, _, h, _⟩ := h; exact sl_map (h _ _ ha)) ?_ ?_⟩
    · rintro i x σ H' hx ⟨S, n, y2, rfl, sm, fr, hD, ni, hS⟩
      rw [List.getElem?_map] at hx
      obtain ⟨x, hv, rfl⟩ := Option.map_eq_some_iff.mp hx
      obtain ⟨hi, ex⟩ := List.getElem?_eq_some_iff.mp hv
      have out : S (.inr x) = false := by
        cases e : S (.inr x) with
        | false => rfl
        | true =>
          obtain ⟨j, hj, ej⟩ := List.mem_iff_getElem.mp (hS x e)
          rw [List.length_take] at hj
          rw [List.getElem_take] at ej
          have := (List.getElem_inj nd0).mp (ej.trans ex.symm)
          omega
      refine ⟨_, rfl, _, rfl, .inr x, D, S, n, rfl, rfl, hD, _, rfl, ite_both (fun c => ?_) fun _ => ?_⟩
      · have c' : S (.inr x) = true := c
        rw [out] at c'; cases c'
      refine ⟨_, rfl, ⟨D, S, n, rfl, hD⟩, _, rfl, D, .inr x, S, n, rfl, rfl, hD, by show n + 1 < 4096; omega, ?_⟩
      refine ⟨_, _, _, rfl, fun b o e => ?_, fun b e => ?_, upd_same, ?_, fun z hz => ?_⟩
      · have : b ≠ D := fun q => by rw [q, nD] at e; cases e
        rw [upd_ne this]; exact sm b o e
      · by_cases q : b = D
        · rw [q, upd_same] at e; cases e
        · rw [upd_ne q] at e; exact fr b e
      · rw [out]; show n + 1 ≤ i + 1; omega
      · rw [take_snoc hv]
        rcases Bool.or_eq_true_iff.mp hz with q | q
        · exact List.mem_append_left _ (hS z q)
        · have := Sum.inr.inj (of_decide_eq_true q)
          rw [this]; exact List.mem_append_right _ (List.mem_singleton.mpr rfl)
    · rintro σ H' ⟨S, n, y2, rfl, sm, fr, hD, _, _⟩
      refine ⟨_, rfl, a, _, rfl, sl_map (sm _ _ ha), fun l od nl po => k _ l (fun b o e => ?_) (fun b e => ?_) (fr l nl) ⟨od, po, upd_same⟩⟩
      · have : b ≠ l := fun q => by rw [q, fr l nl] at e; cases e
        rw [upd_ne this]; exact sm b o e
      · by_cases q : b = l
        · rw [q, upd_same] at e; cases e
        · rw [upd_ne q] at e; exact fr b e
abbrev sRof : Stmt := topS 21
abbrev nRof : List Str := ["names", "values", "name"]
theorem scRof : FnScope nRof ["names", "values"] (defScope sRof) := ⟨rfl, rfl, rfl, by decide +kernel, rfl, by decide +kernel, by decide +kernel⟩
def spRof : Sp := fun vs H Q _ => ∃ (t d : Addr) (ns : List Str) (A : List (Str × Int)) (f : Str → Int), vs = [.ref t, .ref d] ∧ TpK H t (ns.map V.str) ∧ H d = some (.dK (intK A)) ∧ ns.length ≤ 1000 ∧ (∀ x ∈ ns, aget A x = some (f x)) ∧
  ∀ (H' : Hp) (r : Addr), Same H H' → H r = none → TpK H' r ((ns.map f).map V.int) → Q (.ref r) H'
theorem ok_Rof {f0 : Addr} {fd : FuncData} (F : Fun K "row_of" "row_of" sRof f0 fd) (B : Bt mg) (ztuple : mg "tuple" = none) : FnOk P w K mg base CX0 1 f0 fd ["names", "values"] spRof := by
  refine F.ok scRof (fun vs H Q E h => ?_) (fun cdv A outer s H vs Q E hr h => ?_)
  · obtain ⟨t, d, ns, A, f, rfl, _⟩ := h
    rfl
  · obtain ⟨t, d, ns, A, f, rfl, et, ed, few, av, q⟩ := h
    have hu := hu_of hr
    have nd := scRof.nd
    refine ⟨_, pss_one (ps_ret (pe_callTy call_tupK (by rfl) ztuple PyProof.Rows.boot_tuple (pa_cons (pe_lc (own := [("name", 2)]) (g := gName 2) (tt := tYes)  rfl nd (pi_tup (pv 0)) (blkOk_by (N := nRof) (sc := defScope sRof) (by decide +kernel)) (fun _ _ _ _ _ => pg_name (i := 2) nd rfl (.inl rfl)) (fun _ _ _ _ _ => pts_nil)
        (fun _ _ _ _ _ => (pe_dget hu (pv 1) (pv 2) (fun _ _ => rfl)))) pa_nil))), ?_⟩
    refine ⟨_, rfl, t, rfl, ⟨_, et.sq⟩, fun Z nZ => lc_tup (xs := ns.map V.str) (fun i H' => Same H H' ∧ H' Z = some (.lst (((ns.take i).map f).map V.int))) ⟨same_new nZ, upd_same⟩ (fun i H' _ h => (et.same h.1).sq) ?_ ?_⟩
    · rintro i x0 H1 hx0 ⟨s1, eZ⟩
      rw [List.getElem?_map] at hx0
      obtain ⟨x, hx, rfl⟩ := Option.map_eq_some_iff.mp hx0
      have hi := (List.getElem?_eq_some_iff.mp hx).1
      refine ⟨rfl, _, rfl, _, rfl, d, .int (f x), rfl, dgetI (s1 _ _ ed) (av x (List.mem_of_getElem? hx)), _, eZ, by rw [List.length_map, List.length_map, List.length_take]; exact small1000 (by omega), same_at s1 nZ, ?_⟩
      rw [upd_same, take_snoc hx, List.map_append, List.map_append] <;> rfl
    · rintro H1 ⟨s1, eZ⟩
      rw [List.length_map, List.take_length] at eZ
      exact ⟨Z, _, rfl, sl_map eZ, fun r o nr po => q _ r (s1.trans (same_new nr)) (s1.free nr) ⟨o, po, upd_same⟩⟩
end
end K22
set_option Elab.async false
set_option linter.all false
set_option maxRecDepth 100000
set_option maxHeartbeats 4000000
namespace K22
open PySem PySem.Spec PyProof.Rows L2 Cs CsX
theorem perm_at {α : Type} {ys : List α} {j : Nat} (h : j < ys.length) : (ys[j] :: ys.eraseIdx j).Perm ys := by
  have e : ys = ys.take j ++ ys[j] :: ys.drop (j + 1) := by rw [List.getElem_cons_drop, List.take_append_drop]
  rw [List.eraseIdx_eq_take_drop_succ]
  conv => rhs; rw [e]
  exact List.perm_middle.symm
theorem cutV_mid (xs : List V) {i j : Nat} (h : i ≤ j) (hj : j ≤ xs.length) : cutV xs (some (i : Int)) (some (j : Int)) = (xs.drop i).take (j - i) := by
  unfold cutV
  rw [HT.sIx_nat, HT.sIx_nat, Nat.min_eq_left (Nat.le_trans h hj), Nat.min_eq_left hj]
/-- one item taken to the front of the rest -/
theorem pull_perm {α : Type} {ys : List α} {k j : Nat} {y : α} (h : k ≤ j) (hy : ys[j]? = some y) : (ys.take k ++ [y] ++ (ys.drop k).take (j - k) ++ ys.drop (j + 1)).Perm ys := by
  have e1 : ys.drop j = y :: ys.drop (j + 1) := drop_at hy
  have e2 : ys.drop k = (ys.drop k).take (j - k) ++ ys.drop j := by
    have := List.take_append_drop (j - k) (ys.drop k)
    rw [List.drop_drop, show k + (j - k) = j by omega] at this
    exact this.symm
  have e3 : ys = ys.take k ++ ((ys.drop k).take (j - k) ++ y :: ys.drop (j + 1)) := by
    rw [← e1, ← e2, List.take_append_drop]
  conv => rhs; rw [e3]
  rw [List.append_assoc, List.append_assoc]
  refine List.Perm.append_left _ ?_
  show (y :: ((ys.drop k).take (j - k) ++ ys.drop (j + 1))).Perm _
  exact List.perm_middle.symm
section
variable {P : Program} {w : World} {K : PySem.W.Frag} {mg : Str → Option Value} {base : Heap}
abbrev sSv : Stmt := topS 41
abbrev nSv : List Str := ["_law_actual", "_law_expected", "_law_found", "_law_name"]
theorem scSv : FnScope nSv ["_law_actual", "_law_expected"] (defScope sSv) := ⟨rfl, rfl, rfl, by decide +kernel, rfl, by decide +kernel, by decide +kernel⟩
def spSV : Sp := fun vs H Q _ => ∃ (a e : Addr) (M X : List (Str × Int)), vs = [.ref a, .ref e] ∧ Vd H a M ∧ Vd H e X ∧ SameA M X ∧ a ≠ e ∧ ∀ H', Same H H' → Q (.bl true) H'
theorem ok_Sv {f f0 : Addr} {fd fd0 : FuncData} (F : Fun K "_law_same_values" "_law_same_values" sSv f fd) (B : Bt mg) (Cii : Call P w K mg base 1 "_law_is_integer" f0 fd0 ["_law_actual"] spIsInt) :
    FnOk P w K mg base CX0 2 f fd ["_law_actual", "_law_expected"] spSV := by
  refine F.ok scSv (fun vs H Q E h => ?_) (fun cdv A outer s H vs Q E hr h => ?_)
  · obtain ⟨a, e, M, E, rfl, _⟩ := h
    rfl
  · obtain ⟨a, e, M, X, rfl, bm, be, same, nae, q⟩ := h
    have hu := hu_of hr
    have nd := scSv.nd
    refine ⟨_, pss_cons (ps_if (PW.pt (pw_or (pt_not (pt_val (pe_callB call_isi (by rfl) B.isi PyProof.Rows.boot_isinstance (pa_cons (pv 0) (pa_cons (pe_bltn (by rfl) B.dict PyProof.Rows.boot_dict (v := .ty "dict") rfl) pa_nil)))))
        (pw_or1 (pt_cmpR op_ne (pe_callB call_lenD (by rfl) B.len PySem.boot_len (pa_cons (pv 0) pa_nil)) (pe_callB call_lenD (by rfl) B.len PySem.boot_len (pa_cons (pv 1) pa_nil)) rfl)))) (pss_one (ps_ret pe_bl)) pss_nil)
      (pss_cons (ps_lock (ps_setLc (i := 2) (own := [("_law_name", 3)]) (g := gName 3) (te := tVar 3) rfl nd rfl rfl (by rfl) (pi_keys (pv 1)) (blkOk_by (N := nSv) (sc := defScope sSv) (by decide +kernel)) (fun _ _ _ _ _ => pg_name (i := 3) nd rfl (Or.inl rfl))
          (fun _ _ _ _ _ => pts_one (PW.pt (pw_and (pt_cmp (pc_din hu (pv 3) (pv 0))) (pw_and1 (pt_val (pe_call Cii.ok (hr.mono (by decide)) (by rfl) Cii.at_ Cii.kp Cii.bd .nil pass0 (pa_cons (pe_dget hu (pv 0) (pv 3) (fun _ _ => rfl)) pa_nil))))))) (fun _ _ _ _ _ => pv 3)))
      (pss_one (ps_ret (pe_and (pe_cmpR op_eq (pe_callB call_len_seq (by rfl) B.len PySem.boot_len (pa_cons (pv 2) pa_nil)) (pe_callB call_lenD (by rfl) B.len PySem.boot_len (pa_cons (pv 1) pa_nil)) rfl)
        (pe_one (pe_callB (cr_all rfl) (by rfl) B.all PyProof.Rows.boot_all (pa_cons
          (pe_lc (own := [("_law_name", 3)]) (g := gName 3) (tt := tYes) (te := tOp rEq (tDGet (tVar 0) (tVar 3)) (tDGet (tVar 1) (tVar 3))) rfl nd (pi_list (pv 2)) (blkOk_by (N := nSv) (sc := defScope sSv) (by decide +kernel)) (fun _ _ _ _ _ => pg_name (i := 3) nd rfl (Or.inl rfl)) (fun _ _ _ _ _ => pts_nil)
            (fun _ _ _ _ _ => pe_cmpR (r := rEq) op_eq (pe_dget hu (pv 0) (pv 3) (fun _ _ => rfl)) (pe_dget hu (pv 1) (pv 3) (fun _ _ => rfl)) rfl)) pa_nil))))))), ?_⟩
    have lens : M.length = X.length := same.len bm.nd be.nd
    refine ⟨.ref a, rfl, .ref a, .ty "dict", .type "dict", .type "dict", true, rfl, .ty _, .base (.dK bm.un), kit_ty (by decide +kernel), true, rfl, iteF ?_⟩
    refine ⟨.ref a, rfl, a, _, rfl, bm.un, .ref e, rfl, e, _, rfl, be.un, rfl, ?_⟩
    rw [intK_len, intK_len, lens, decide_eq_true rfl]
    refine ⟨false, rfl, iteF ?_⟩
    refine ⟨e, _, be.un, trivial, fun od => ?_⟩
    have ax0 : (upd H e (.frz od (.dK (intK X)))) a = some (.dK (intK M)) := by rw [upd_ne nae]; exact bm.un
    refine ⟨.ref e, rfl, e, od, rfl, .inl ⟨intK X, upd_same, fun D nD => lc_it walk_keys (fun i H' => Same (upd H e (.frz od (.dK (intK X)))) H' ∧ H' D = some (.lst (((X.take i).map (·.1)).map V.str))) ⟨same_new nD, upd_same⟩ (fun i H' _ h => h.1 _ _ upd_same) ?_ ?_⟩⟩
    · rintro i x Hz H' hi ⟨sm, eD⟩ ⟨rfl, k1, v1, hk, rfl⟩
      obtain ⟨x, hx, rfl, rfl⟩ := keysI hk
      have xm := List.mem_of_getElem? hx
      have gx := (aget_iff be.nd x.1 x.2).mpr xm
      have gv := (Ax.get (H := H') (d := a) (A := M) ⟨.inl (sm _ _ ax0)⟩ x.1)
      rw [same x.1, gx] at gv
      refine ⟨rfl, .str x.1, rfl, .ref a, rfl, a, _, rfl, gv, true, rfl, iteT ?_⟩
      refine ⟨.ref a, rfl, .str x.1, rfl, a, .int x.2, rfl, gv, x.2, rfl, true, rfl, iteT ⟨.str x.1, rfl, _, eD, ?_, same_at sm nD, ?_⟩⟩
      · rw [List.length_map, List.length_map, List.length_take]
        have := be.few
        exact small1000 (by omega)
      · rw [upd_same, List.take_add_one, hx, List.map_append, List.map_append]
        rfl
    · rintro H' ⟨sm, eD⟩
      rw [intK_len, List.take_length] at eD
      have eF := sm _ _ (upd_same (H := H) (a := e) (o := HO.frz od (.dK (intK X))))
      have nDe : D ≠ e := fun z => by rw [z, eF] at eD; cases eD
      refine ⟨eF, ?_⟩
      have s2 : Same H (upd H' e (.dK (intK X))) := unlock be.un sm
      have eD2 : (upd H' e (.dK (intK X))) D = some (.lst ((X.map (·.1)).map V.str)) := by rw [upd_ne nDe]; exact eD
      generalize upd H' e (.dK (intK X)) = H2 at s2 eD2 ⊢
      clear sm eD eF H'
      refine ⟨.ref D, rfl, D, _, rfl, .inl (sl_map eD2), .ref e, rfl, e, _, rfl, s2 _ _ be.un, rfl, ?_⟩
      rw [intK_len, List.length_map, List.length_map, decide_eq_true rfl]
      refine ⟨true, rfl, iteT ?_⟩
      refine ⟨.ref D, rfl, D, rfl, ⟨_, sl_map eD2⟩, fun R nR => lc_list (xs := (X.map (·.1)).map V.str) (fun i H' => Same H2 H' ∧ H' R = some (.lst ((List.replicate i true).map V.bl))) ⟨same_new nR, upd_same⟩ (fun i H' _ h => h.1.seq (sl_map eD2)) ?_ ?_⟩
      · rintro i z H' hz ⟨sm, hd⟩
        rw [List.getElem?_map, List.getElem?_map] at hz
        obtain ⟨v, hv, rfl⟩ := Option.map_eq_some_iff.mp hz
        obtain ⟨x, hx, rfl⟩ := Option.map_eq_some_iff.mp hv
        have xm := List.mem_of_getElem? hx
        have gx := (aget_iff be.nd x.1 x.2).mpr xm
        have s3 := s2.trans sm
        have gv := (bm.same s3).ax.get x.1
        rw [same x.1, gx] at gv
        have ev := (be.same s3).ax.get x.1
        rw [gx] at ev
        have few := be.few
        have hi := (List.getElem?_eq_some_iff.mp hx).1
        refine ⟨rfl, .ref a, rfl, .str x.1, rfl, a, .int x.2, rfl, gv, .ref e, rfl, .str x.1, rfl, e, .int x.2, rfl, ev, rfl, ?_⟩
        rw [decide_eq_true rfl]
        refine ⟨_, hd, ?_, same_at sm nR, ?_⟩
        · rw [List.length_map, List.length_replicate]
          exact small1000 (by omega)
        · rw [upd_same, List.replicate_succ', List.map_append]
          rfl
      · rintro H' ⟨sm, hd⟩
        refine ⟨R, _, rfl, sl_map hd, ?_⟩
        rw [all_repl]
        exact q _ (s2.trans sm)
abbrev sSd : Stmt := topS 33
abbrev nSd : List Str := ["_law_domains_here", "_law_sides_here", "_law_domain"]
theorem scSd : FnScope nSd ["_law_domains_here"] (defScope sSd) := ⟨rfl, rfl, rfl, by decide +kernel, rfl, by decide +kernel, by decide +kernel⟩
def spSd : Sp := fun vs H Q _ => ∃ (dl : Addr) (ds : List DomE), vs = [.ref dl] ∧ Doms H dl ds ∧ ds.length ≤ 30 ∧ (ds.map (·.2.1)).Nodup ∧
  ∀ (H' : Hp) (b : Addr) (N : List Ent), Same H H' → Nb H H' b N → shape N = ds.map (fun d => (d.2.1, d.2.2.2)) → Q (.ref b) H'
theorem ok_Sd {f  : Addr} {fd  : FuncData} (F : Fun K "_law_sides" "_law_sides" sSd f fd) (B : Bt mg) :
    FnOk P w K mg base CX0 1 f fd ["_law_domains_here"] spSd := by
  refine F.ok scSd (fun vs H Q E h => ?_) (fun cdv A outer s H vs Q E hr h => ?_)
  · obtain ⟨dl, ds, rfl, _⟩ := h
    rfl
  · obtain ⟨dl, ds, rfl, dm, dlen, dnd, q⟩ := h
    have hu := hu_of hr
    have nd := scSd.nd
    refine ⟨_, pss_cons (ps_set (i := 1) nd rfl (.inl rfl) pe_dnewK)
      (pss_cons (ps_for PassesOwn.never rfl (pi_list (pv 0)) (pg_name (i := 2) nd rfl (.inl rfl))
        (pss_one (ps_dput hu (pv 1) (pe_ix ix_tup (pv 2) pe_int (fun _ _ => rfl)) (pe_callTy call_list_of (by rfl) B.list PyProof.Rows.boot_list (pa_cons (pe_ix ix_tup (pv 2) pe_int (fun _ _ => rfl)) pa_nil)) rfl)))
      (pss_one (ps_ret (pv 1)))), ?_⟩
    intro D nD
    have s0 := same_new (o := HO.dK []) nD
    refine ⟨.ref dl, rfl, dl, rfl, ⟨_, sl_map (s0 _ _ dm.lst)⟩, for_list (xs := ds.map fun d : DomE => V.ref d.1) (fun i σ H' => ∃ (N : List Ent) (y2 : Option V), σ = [some (.ref dl), some (.ref D), y2] ∧ Same H H' ∧ Nb H H' D N ∧ shape N = (ds.take i).map (fun d => (d.2.1, d.2.2.2)))
      ⟨[], none, rfl, s0, Nb.nil nD upd_same, rfl⟩ (fun i σ H' _ h => by obtain ⟨_, _, _, h, _⟩ := h; exact sl_map (h _ _ dm.lst)) ?_ ?_⟩
    · rintro i x σ H' hx ⟨N, y2, rfl, sm, nb, sh⟩
      rw [List.getElem?_map] at hx
      obtain ⟨d, hv, rfl⟩ := Option.map_eq_some_iff.mp hx
      have dmem := List.mem_of_getElem? hv
      have hi := (List.getElem?_eq_some_iff.mp hv).1
      have lN : N.length ≤ i := by
        have := congrArg List.length sh
        rw [List.length_map, List.length_map, List.length_take] at this
        omega
      have tt : SqT K H' d.1 [V.str d.2.1, V.ref d.2.2.1] := .inl (.inl (sm _ _ (dm.tup d dmem)))
      have sd := sl_map (K := K) (sm _ _ (dm.side d dmem))
      refine ⟨.ref d.1, rfl, d.1, _, _, .ref d.2.2.1, rfl, rfl, tt, atI_nat (j := 1) rfl, d.2.2.1, _, rfl, .inl sd, fun l nl => ?_⟩
      have sl := same_new (o := HO.lst (d.2.2.2.map V.int)) nl
      have nb2 := nb.push sl
      have tt2 : SqT K (upd H' l (HO.lst (d.2.2.2.map V.int))) d.1 [V.str d.2.1, V.ref d.2.2.1] := .inl (.inl (sl _ _ (sm _ _ (dm.tup d dmem))))
      refine ⟨.ref D, rfl, .ref d.1, rfl, d.1, _, _, .str d.2.1, rfl, rfl, tt2, atI_nat (j := 0) rfl, D, _, rfl, DPut.k (k := .inr d.2.1) nb2.un (by rw [entK_len]; exact small1000 (by omega)), ?_⟩
      rw [putK_ent (s := d.2.2.2)]
      have xn : d.2.1 ∉ N.map (·.1) := by
        have h1 : N.map (·.1) = (ds.take i).map (·.2.1) := by
          have := congrArg (List.map (·.1)) sh
          rw [List.map_map, List.map_map] at this
          exact this
        rw [h1, List.map_take]
        exact not_take dnd (by rw [List.getElem?_map, hv] <;> rfl)
      refine ⟨putE N d.2.1 l d.2.2.2, _, rfl, same_at (sm.trans sl) nD, nb.put (sm.free nl) nl sl upd_same (by omega), ?_⟩
      · rw [putE_new xn, take_snoc hv]
        unfold shape at sh ⊢
        rw [List.map_append, List.map_append, sh] <;> rfl
    · rintro σ H' ⟨N, y2, rfl, sm, nb, sh⟩
      rw [List.length_map, List.take_length] at sh
      exact ⟨_, rfl, q H' D N sm nb sh⟩
abbrev sSf : Stmt := topS 35
abbrev nSf : List Str := ["_law_stream_here", "_law_things", "_law_rest", "_law_found", "_law_k", "_law_at"]
theorem scSf : FnScope nSf ["_law_stream_here", "_law_things"] (defScope sSf) := ⟨rfl, rfl, rfl, by decide +kernel, rfl, by decide +kernel, by decide +kernel⟩
def spSf : Sp := fun vs H Q _ => ∃ (α : Type) (g : α → V) (p nm : Addr) (xs : List α), vs = [.ref p, .ref nm] ∧ Strm H p ∧ H nm = some (.lst (xs.map g)) ∧ xs.length ≤ 30 ∧ p ≠ nm ∧
  ∀ (H' : Hp) (l : Addr) (zs : List α), Keep p H H' → H l = none → Strm H' p → H' l = some (.lst (zs.map g)) → zs.Perm xs → Q (.ref l) H'
theorem ok_Sf {f f0 : Addr} {fd fd0 : FuncData} (F : Fun K "_law_shuffled" "_law_shuffled" sSf f fd) (B : Bt mg) (D : Call P w K mg base 1 "_law_next" f0 fd0 ["_law_stream_here", "_law_size"] spDraw) :
    FnOk P w K mg base CX0 2 f fd ["_law_stream_here", "_law_things"] spSf := by
  refine F.ok scSf (fun vs H Q E h => ?_) (fun cdv A outer s H vs Q E hr h => ?_)
  · obtain ⟨α, g, p, nm, xs, rfl, _⟩ := h
    rfl
  · obtain ⟨α, g, p, nm, xs, rfl, hp, enm, xlen, pnm, q⟩ := h
    have nd := scSf.nd
    refine ⟨_, pss_cons (ps_set (i := 2) nd rfl (.inl rfl) (pe_callTy call_list_of (by rfl) B.list PyProof.Rows.boot_list (pa_cons (pv 1) pa_nil)))
      (pss_cons (ps_set (i := 3) nd rfl (.inl rfl) (pe_lst pa_nil))
      (pss_cons (ps_for PassesOwn.never rfl (pi_range1 (by rfl) B.range (pa_cons (pe_callB call_len_seq (by rfl) B.len PySem.boot_len (pa_cons (pv 1) pa_nil)) pa_nil)) (pg_name (i := 4) nd rfl (.inl rfl))
        (pss_cons (ps_set (i := 5) nd rfl (.inl rfl) (pe_call D.ok (hr.mono (by decide)) (by rfl) D.at_ D.kp D.bd .nil pass0 (pa_cons (pv 0) (pa_cons (pe_callB call_len_seq (by rfl) B.len PySem.boot_len (pa_cons (pv 2) pa_nil)) pa_nil))))
          (pss_cons (ps_expr (pe_bm PySem.F.plainAttrs_list PySem.F.slot_list_append PySem.F.type_list_append mt_append (pv 3) (pa_cons (pe_ix ix_list (pv 2) (pv 5) (fun _ _ => rfl)) pa_nil)))
          (pss_one (ps_set (i := 2) nd rfl (.inl rfl) (pe_op op_cat (pe_slice sl_list (pv 2) po_none (po_some (pv 5))) (pe_slice sl_list (pv 2) (po_some (pe_op op_add (pv 5) pe_int)) po_none)))))))
      (pss_one (ps_ret (pv 3))))), ?_⟩
    refine ⟨.ref nm, rfl, nm, _, rfl, .inl (sl_map enm), fun r nr => ⟨by show 0 ≤ sizeLine; decide, fun l nl0 => ?_⟩⟩
    have npr : p ≠ r := fun z => hp.some (z ▸ nr)
    have nlr : l ≠ r := fun z => by rw [z, upd_same] at nl0; cases nl0
    have nl1 : H l = none := by rw [upd_ne nlr] at nl0; exact nl0
    have npl : p ≠ l := fun z => hp.some (z ▸ nl1)
    have k0 : Keep p H (upd (upd H r (.lst (xs.map g))) l (.lst [])) := ((Keep.refl p H).at_ nr).at_ nl1
    refine ⟨.ref nm, rfl, nm, _, rfl, .inl (sl_map (k0 _ _ pnm.symm enm)), _, rfl, ?_, ?_, for_range (lo := 0) (n := ((xs.map g).length : Int).toNat) (fun i σ H' => ∃ (r' : Addr) (ys zs : List α) (y4 y5 : Option V), σ = [some (.ref p), some (.ref nm), some (.ref r'), some (.ref l), y4, y5] ∧ Keep p H H' ∧ Strm H' p ∧ H' r' = some (.lst (ys.map g)) ∧ H r' = none ∧ r' ≠ l ∧ ys.length + i = xs.length ∧ H' l = some (.lst (zs.map g)) ∧ zs.length = i ∧ (zs ++ ys).Perm xs)
      ⟨r, xs, [], none, none, rfl, k0, (hp.upd npr).upd npl, by rw [upd_ne nlr.symm, upd_same], nr, nlr.symm, rfl, upd_same, rfl, List.Perm.refl _⟩ ?_ ?_⟩
    · rw [List.length_map]; omega
    · rw [List.length_map]; omega
    · rintro i σ H' hi ⟨r', ys, zs, y4, y5, rfl, kp, st, er, nr', nrl, ylen, el, zl, pm⟩
      rw [List.length_map] at hi
      have hi' : i < xs.length := by omega
      have npr' : p ≠ r' := fun z => hp.some (z ▸ nr')
      refine ⟨.ref p, rfl, .ref r', rfl, r', _, rfl, .inl (sl_map er), p, _, rfl, st, ?_, ?_, fun H2 a o2 st2 a0 a1 => ?_⟩
      · rw [List.length_map]; omega
      · rw [List.length_map]; omega
      rw [List.length_map] at a1
      obtain ⟨j, rfl⟩ : ∃ j : Nat, a = (j : Int) := ⟨a.toNat, by omega⟩
      have hj : j < ys.length := by omega
      have gj : (ys.map g)[j]? = some (g ys[j]) := by rw [List.getElem?_map, List.getElem?_eq_getElem hj]; rfl
      have k2 := kp.oth o2
      have er2 : H2 r' = some (.lst (ys.map g)) := (o2 r' npr'.symm).trans er
      have el2 : H2 l = some (.lst (zs.map g)) := (o2 l npl.symm).trans el
      refine ⟨.ref l, rfl, .inl ⟨rfl, _, sl_map el2⟩, .ref r', rfl, .int j, rfl, r', _, j, g ys[j], rfl, rfl, sl_map er2, at_of (j := j) rfl gj, l, _, _, rfl, rfl, el2, ?_, ?_⟩
      · rw [List.length_map]
        exact small1000 (by omega)
      have el4 : (upd H2 l (.lst (zs.map g ++ [g ys[j]]))) l = some (.lst ((zs ++ [ys[j]]).map g)) := by rw [upd_same, List.map_append] <;> rfl
      have er4 : (upd H2 l (.lst (zs.map g ++ [g ys[j]]))) r' = some (.lst (ys.map g)) := by rw [upd_ne nrl]; exact er2
      have st4 : Strm (upd H2 l (.lst (zs.map g ++ [g ys[j]]))) p := st2.upd npl
      have k4 : Keep p H (upd H2 l (.lst (zs.map g ++ [g ys[j]]))) := k2.at_ nl1
      generalize upd H2 l (.lst (zs.map g ++ [g ys[j]])) = H4 at el4 er4 st4 k4 ⊢
      refine ⟨.ref r', rfl, _, rfl, _, rfl, r', _, rfl, sl_map er4, fun s1 ns1 => ?_⟩
      have t1 := same_new (o := HO.lst (cutV (ys.map g) none (some (j : Int)))) ns1
      refine ⟨.ref r', rfl, _, rfl, (j : Int), 1, rfl, rfl, _, rfl, r', _, rfl, sl_map (t1 _ _ er4), fun s2 ns2 => ?_⟩
      have n12 : s1 ≠ s2 := fun z => by rw [← z, upd_same] at ns2; cases ns2
      have c1 : cutV (ys.map g) none (some (j : Int)) = (ys.take j).map g := by rw [cutV_to, List.map_take]
      have c2 : cutV (ys.map g) (some ((j : Int) + 1)) none = (ys.drop (j + 1)).map g := by rw [show (j : Int) + 1 = ((j + 1 : Nat) : Int) by omega, cutV_from, List.map_drop]
      have t2 := t1.trans (same_new (o := HO.lst (cutV (ys.map g) (some ((j : Int) + 1)) none)) ns2)
      refine ⟨s1, s2, _, _, rfl, rfl, by rw [upd_ne n12]; exact upd_same, upd_same, ?_, fun r2 nr2 => ?_⟩
      · have a := cutV_length (ys.map g) none (some (j : Int))
        have b := cutV_length (ys.map g) (some ((j : Int) + 1)) none
        rw [List.length_map] at a b
        exact Nat.le_of_lt (small1000 (by show _ + (cutV (ys.map g) (some ((j : Int) + 1)) none).length ≤ 1000; omega))
      · have t3 := t2.trans (same_new (o := HO.lst (cutV (ys.map g) none (some (j : Int)) ++ cutV (ys.map g) (some ((j : Int) + 1)) none)) nr2)
        have nr4 : H4 r2 = none := t2.free nr2
        have st5 : Strm _ p := st4.keep (Keep.same (p := r2) t3) (fun z => st4.some (z ▸ nr4))
        have k5 : Keep p H _ := k4.trans (Keep.same t3)
        have r2l : r2 ≠ l := fun z => by rw [z, el4] at nr4; cases nr4
        refine ⟨r2, ys.eraseIdx j, zs ++ [ys[j]], _, _, rfl, k5, st5, ?_, k4.free st4 nr4, r2l, ?_, t3 _ _ el4, by rw [List.length_append, zl] <;> rfl, ?_⟩
        · have e5 : (ys.eraseIdx j).map g = cutV (ys.map g) none (some (j : Int)) ++ cutV (ys.map g) (some ((j : Int) + 1)) none := by
            rw [c1, c2, ← List.map_append, List.eraseIdx_eq_take_drop_succ]
          rw [e5]
          exact upd_same
        · rw [List.length_eraseIdx_of_lt hj]
          omega
        · rw [List.append_assoc]
          exact ((perm_at hj).append_left zs).trans pm
    · rintro σ H' ⟨r', ys, zs, y4, y5, rfl, kp, st, er, nr', nrl, ylen, el, zl, pm⟩
      have y0 : ys = [] := List.length_eq_zero_iff.mp (by rw [List.length_map] at ylen; omega)
      subst y0
      rw [List.append_nil] at pm
      exact ⟨_, rfl, q H' l zs kp nl1 st el pm⟩
abbrev sSco : Stmt := topS 34
abbrev nSco : List Str := ["_law_stream_here", "_law_names_here", "_law_most", "_law_rest", "_law_k", "_law_at"]
theorem scSco : FnScope nSco ["_law_stream_here", "_law_names_here", "_law_most"] (defScope sSco) := ⟨rfl, rfl, rfl, by decide +kernel, rfl, by decide +kernel, by decide +kernel⟩
def spSco : Sp := fun vs H Q _ => ∃ (p nm : Addr) (xs : List Str) (most : Nat), vs = [.ref p, .ref nm, .int (most : Int)] ∧ Strm H p ∧ H nm = some (.lst (xs.map V.str)) ∧ nm ≠ p ∧ 1 ≤ xs.length ∧ xs.length ≤ 30 ∧ 1 ≤ most ∧ most ≤ 100 ∧ xs.Nodup ∧
  ∀ (H' : Hp) (l : Addr) (zs : List Str), Keep p H H' → H l = none → Strm H' p → H' l = some (.lst (zs.map V.str)) → zs.Nodup → (∀ x ∈ zs, x ∈ xs) → 1 ≤ zs.length → zs.length ≤ most → Q (.ref l) H'
theorem ok_Sco {f f0 : Addr} {fd fd0 : FuncData} (F : Fun K "_law_scope" "_law_scope" sSco f fd) (B : Bt mg) (zmin : mg "min" = none) (D : Call P w K mg base 1 "_law_next" f0 fd0 ["_law_stream_here", "_law_size"] spDraw) :
    FnOk P w K mg base CX0 2 f fd ["_law_stream_here", "_law_names_here", "_law_most"] spSco := by
  refine F.ok scSco (fun vs H Q E h => ?_) (fun cdv A outer s H vs Q E hr h => ?_)
  · obtain ⟨p, nm, xs, most, rfl, _⟩ := h
    rfl
  · obtain ⟨p, nm, xs, most, rfl, hp, en, np, x1, x30, m1, m100, nn, q⟩ := h
    have hu := hu_of hr
    have nd := scSco.nd
    refine ⟨_, pss_cons (ps_set (i := 3) nd rfl (.inl rfl) (pe_callTy call_list_of (by rfl) B.list PyProof.Rows.boot_list (pa_cons (pv 1) pa_nil)))
      (pss_cons (ps_for PassesOwn.never rfl (pi_range1 (by rfl) B.range (pa_cons (pe_callB call_len_seq (by rfl) B.len PySem.boot_len (pa_cons (pv 1) pa_nil)) pa_nil)) (pg_name (i := 4) nd rfl (.inl rfl))
        (pss_cons (ps_set (i := 5) nd rfl (.inl rfl) (pe_op op_add (pv 4) (pe_call D.ok (hr.mono (by decide)) (by rfl) D.at_ D.kp D.bd .nil pass0 (pa_cons (pv 0) (pa_cons (pe_op op_sub (pe_callB call_len_seq (by rfl) B.len PySem.boot_len (pa_cons (pv 1) pa_nil)) (pv 4)) pa_nil)))))
          (pss_one (ps_set (i := 3) nd rfl (.inl rfl) (pe_op op_cat (pe_op op_cat (pe_op op_cat (pe_slice sl_list (pv 3) po_none (po_some (pv 4))) (pe_lst (pa_cons (pe_ix ix_list (pv 3) (pv 5) (fun _ _ => rfl)) pa_nil))) (pe_slice sl_list (pv 3) (po_some (pv 4)) (po_some (pv 5)))) (pe_slice sl_list (pv 3) (po_some (pe_op op_add (pv 5) pe_int)) po_none))))))
      (pss_one (ps_ret (pe_slice sl_list (pv 3) po_none (po_some (pe_op op_add pe_int (pe_call D.ok (hr.mono (by decide)) (by rfl) D.at_ D.kp D.bd .nil pass0 (pa_cons (pv 0) (pa_cons (pe_callB (call_min2 rfl) (by rfl) zmin PyProof.Rows.boot_min (pa_cons (pv 2) (pa_cons (pe_callB call_len_seq (by rfl) B.len PySem.boot_len (pa_cons (pv 1) pa_nil)) pa_nil))) pa_nil))))))))), ?_⟩
    refine ⟨_, rfl, nm, _, rfl, .inl (sl_map en), fun R nR => ?_⟩
    have s0 := same_new (o := HO.lst (xs.map V.str)) nR
    have pR : p ≠ R := fun z => hp.some (z ▸ nR)
    refine ⟨_, rfl, nm, _, rfl, .inl (sl_map (s0 _ _ en)), _, rfl, by omega, by rw [List.length_map]; omega, for_range (lo := 0) (n := (xs.map V.str).length) (fun k σ H' => ∃ (R' : Addr) (ys : List Str) (y4 y5 : Option V), σ = [some (.ref p), some (.ref nm), some (.int (most : Int)), some (.ref R'), y4, y5] ∧ Keep p H H' ∧ Strm H' p ∧ H' R' = some (.lst (ys.map V.str)) ∧ R' ≠ p ∧ ys.Perm xs)
      ⟨R, xs, none, none, rfl, Keep.same s0, hp.upd pR, upd_same, pR.symm, List.Perm.refl _⟩ ?_ ?_⟩
    · rintro k σ H1 hk ⟨R', ys, y4, y5, rfl, k1, st1, eR, Rp, pm⟩
      rw [List.length_map] at hk
      have ly := pm.length_eq
      have en1 := k1 _ _ np en
      refine ⟨_, rfl, _, rfl, _, rfl, nm, _, rfl, .inl (sl_map en1), _, rfl, _, _, rfl, rfl, p, _, rfl, st1, by rw [List.length_map]; omega, by rw [List.length_map]; omega, fun H2 a o2 st2 a0 a1 => ⟨_, _, rfl, rfl, ?_⟩⟩
      rw [List.length_map] at a1
      obtain ⟨m, rfl⟩ : ∃ m : Nat, a = (m : Int) := ⟨a.toNat, by omega⟩
      obtain ⟨j, hj, jk⟩ : ∃ j : Nat, (0 : Int) + (k : Int) + (m : Int) = (j : Int) ∧ j = k + m := ⟨k + m, by omega, rfl⟩
      show gName 5 (V.int (0 + (k : Int) + (m : Int))) _ _ _
      rw [hj, Int.zero_add]
      obtain ⟨y, hy⟩ : ∃ y, ys[j]? = some y := ⟨_, List.getElem?_eq_getElem (by omega)⟩
      have k2 := k1.oth o2
      have eR2 := (o2 _ Rp).trans eR
      have lyv : (ys.map V.str).length = ys.length := List.length_map _
      have hyv : (ys.map V.str)[j]? = some (.str y) := by rw [List.getElem?_map, hy] <;> rfl
      refine ⟨_, rfl, _, rfl, _, rfl, R', _, rfl, sl_map eR2, fun b1 n1 => ?_⟩
      rw [cutV_to, ← List.map_take]
      have t1 := same_new (o := HO.lst ((ys.take k).map V.str)) n1
      have e1 : (upd H2 b1 (.lst ((ys.take k).map V.str))) b1 = some (.lst ((ys.take k).map V.str)) := upd_same
      generalize upd H2 b1 (.lst ((ys.take k).map V.str)) = G1 at t1 e1 ⊢
      refine ⟨_, rfl, _, rfl, R', _, _, .str y, rfl, rfl, sl_map (t1 _ _ eR2), atI_nat (j := j) hyv, by show 1 ≤ sizeLine; decide, fun b2 n2 => ?_⟩
      have t2 := same_new (o := HO.lst [V.str y]) n2
      have S2 := t1.trans t2
      refine ⟨b1, b2, _, _, rfl, rfl, t2 _ _ e1, upd_same, by rw [List.length_map, List.length_take]; exact Nat.le_of_lt (small1000 (by show _ + 1 ≤ 1000; omega)), fun b3 n3 => ?_⟩
      rw [show (ys.take k).map V.str ++ [V.str y] = (ys.take k ++ [y]).map V.str by rw [List.map_append] <;> rfl]
      have t3 := same_new (o := HO.lst ((ys.take k ++ [y]).map V.str)) n3
      have S3 := S2.trans t3
      have e3 : (upd (upd G1 b2 (.lst [V.str y])) b3 (.lst ((ys.take k ++ [y]).map V.str))) b3 = some (.lst ((ys.take k ++ [y]).map V.str)) := upd_same
      generalize upd (upd G1 b2 (.lst [V.str y])) b3 (.lst ((ys.take k ++ [y]).map V.str)) = G3 at S3 e3 ⊢
      refine ⟨_, rfl, _, rfl, _, rfl, _, rfl, _, rfl, R', _, rfl, sl_map (S3 _ _ eR2), fun b4 n4 => ?_⟩
      rw [cutV_mid (xs := ys.map V.str) (show k ≤ j by omega) (by rw [lyv]; omega), ← List.map_drop, ← List.map_take]
      have t4 := same_new (o := HO.lst (((ys.drop k).take (j - k)).map V.str)) n4
      refine ⟨b3, b4, _, _, rfl, rfl, t4 _ _ e3, upd_same, by rw [List.length_map, List.length_map, List.length_append, List.length_take, List.length_take, List.length_drop]; exact Nat.le_of_lt (small1000 (by show _ + 1 + _ ≤ 1000; omega)), fun b5 n5 => ?_⟩
      rw [← List.map_append]
      have t5 := same_new (o := HO.lst ((ys.take k ++ [y] ++ (ys.drop k).take (j - k)).map V.str)) n5
      have S5 := S3.trans (t4.trans t5)
      have e5 : (upd (upd G3 b4 (.lst (((ys.drop k).take (j - k)).map V.str))) b5 (.lst ((ys.take k ++ [y] ++ (ys.drop k).take (j - k)).map V.str))) b5 = some (.lst ((ys.take k ++ [y] ++ (ys.drop k).take (j - k)).map V.str)) := upd_same
      generalize upd (upd G3 b4 (.lst (((ys.drop k).take (j - k)).map V.str))) b5 (.lst ((ys.take k ++ [y] ++ (ys.drop k).take (j - k)).map V.str)) = G5 at S5 e5 ⊢
      refine ⟨_, rfl, _, rfl, _, _, rfl, rfl, _, rfl, R', _, rfl, sl_map (S5 _ _ eR2), fun b6 n6 => ?_⟩
      rw [show (j : Int) + 1 = ((j + 1 : Nat) : Int) by omega, cutV_from, ← List.map_drop]
      have t6 := same_new (o := HO.lst ((ys.drop (j + 1)).map V.str)) n6
      refine ⟨b5, b6, _, _, rfl, rfl, t6 _ _ e5, upd_same, by rw [List.length_map, List.length_map, List.length_append, List.length_append, List.length_take, List.length_take, List.length_drop, List.length_drop]; exact Nat.le_of_lt (small1000 (by show _ + 1 + _ + _ ≤ 1000; omega)), fun b7 n7 => ?_⟩
      rw [← List.map_append]
      have t7 := same_new (o := HO.lst ((ys.take k ++ [y] ++ (ys.drop k).take (j - k) ++ ys.drop (j + 1)).map V.str)) n7
      have S7 := S5.trans (t6.trans t7)
      have n7H := (S5.trans t6).free n7
      refine ⟨b7, _, _, _, rfl, k2.trans (Keep.same S7), ?_, upd_same, fun z => st2.some (z ▸ n7H), (pull_perm (by omega) hy).trans pm⟩
      obtain ⟨x, y, w, e⟩ := st2
      exact ⟨x, y, w, S7 _ _ e⟩
    · rintro σ H1 ⟨R', ys, y4, y5, rfl, k1, st1, eR, Rp, pm⟩
      have ly := pm.length_eq
      have en1 := k1 _ _ np en
      refine ⟨_, rfl, _, rfl, _, rfl, _, rfl, nm, _, rfl, .inl (sl_map en1), _, _, rfl, ?_⟩
      obtain ⟨mn, hmn, mn1, mn2, mn3⟩ : ∃ mn : Nat, (if ((xs.map V.str).length : Int) < (most : Int) then ((xs.map V.str).length : Int) else (most : Int)) = (mn : Int) ∧ 1 ≤ mn ∧ mn ≤ most ∧ mn ≤ xs.length := by
        rw [List.length_map]
        split
        · exact ⟨xs.length, rfl, x1, by omega, by omega⟩
        · exact ⟨most, rfl, m1, by omega, by omega⟩
      rw [hmn]
      refine ⟨p, _, rfl, st1, by omega, by omega, fun H2 a o2 st2 a0 a1 => ⟨1, a, rfl, rfl, _, rfl, R', _, rfl, sl_map ((o2 _ Rp).trans eR), fun l nl => ?_⟩⟩
      obtain ⟨m, rfl⟩ : ∃ m : Nat, a = (m : Int) := ⟨a.toNat, by omega⟩
      rw [show (1 : Int) + (m : Int) = ((1 + m : Nat) : Int) by omega, cutV_to, ← List.map_take]
      have k2 := k1.oth o2
      have nlH := k2.free st2 nl
      refine q _ l (ys.take (1 + m)) (k2.at_ nlH) nlH (st2.upd fun z => st2.some (z ▸ nl)) upd_same (List.Pairwise.sublist (List.take_sublist _ _) (pm.nodup_iff.mpr nn)) (fun x hx => pm.mem_iff.mp (List.mem_of_mem_take hx)) ?_ ?_
      · rw [List.length_take]; omega
      · rw [List.length_take]; omega
end
end K22
set_option Elab.async false
set_option linter.all false
set_option maxRecDepth 100000
set_option maxHeartbeats 4000000
namespace K22
open PySem PySem.Spec PyProof.Rows L2 Cs CsX
/-! ### limits: value, least, greatest -/
abbrev Lim3 := Int × Int × Int
abbrev LmE := Addr × Lim3
def LmT (H : Hp) (es : List LmE) : Prop := ∀ e ∈ es, H e.1 = some (.tup [.int e.2.1, .int e.2.2.1, .int e.2.2.2])
theorem LmT.same {H H' : Hp} {es : List LmE} (h : LmT H es) (s : Same H H') : LmT H' es := fun e he => s _ _ (h e he)
def Sound (ls : List Lim3) : Prop := (ls.map (·.1)).Nodup ∧ ∀ l ∈ ls, 0 ≤ l.2.1 ∧ l.2.1 ≤ l.2.2
def hiOf (ls : List Lim3) : List (Int × Int) := ls.map fun l => (l.1, l.2.2)
def loOf (ls : List Lim3) : List (Int × Int) := ls.map fun l => (l.1, l.2.1)
theorem hi_keys (ls : List Lim3) : (hiOf ls).map (·.1) = ls.map (·.1) := by unfold hiOf; rw [List.map_map] <;> rfl
theorem lo_keys (ls : List Lim3) : (loOf ls).map (·.1) = ls.map (·.1) := by unfold loOf; rw [List.map_map] <;> rfl
theorem zget_of {L : List (Int × Int)} (nd : (L.map (·.1)).Nodup) {v k : Int} (h : (v, k) ∈ L) : zget L v = some k := by
  obtain ⟨i, hi⟩ := List.mem_iff_getElem?.mp h
  exact zget_at nd hi
theorem ones_of {ls : List Lim3} (h : Sound ls) : Ones (hiOf ls) (loOf ls) := by
  refine ⟨by rw [lo_keys]; exact h.1, fun v k hk => ?_⟩
  obtain ⟨l, hl, e⟩ := List.mem_map.mp (zget_mem hk)
  obtain ⟨e1, e2⟩ := Prod.mk.inj e
  obtain ⟨h1, h2⟩ := h.2 l hl
  refine ⟨by omega, l.2.2, zget_of (by rw [hi_keys]; exact h.1) (List.mem_map.mpr ⟨l, hl, by rw [← e1]⟩), by omega⟩
section
variable {P : Program} {w : World} {K : PySem.W.Frag} {mg : Str → Option Value} {base : Heap}
abbrev sCl : Stmt := topS 25
abbrev nCl : List Str := ["limits", "earlier", "value", "low", "high"]
theorem scCl : FnScope nCl ["limits"] (defScope sCl) := ⟨rfl, rfl, rfl, by decide +kernel, rfl, by decide +kernel, by decide +kernel⟩
def spCl : Sp := fun vs H Q _ => ∃ (l : Addr) (es : List LmE), vs = [.ref l] ∧ H l = some (.lst (es.map fun e => V.ref e.1)) ∧ LmT H es ∧ Sound (es.map (·.2)) ∧ es.length ≤ 100 ∧
  ∀ (H' : Hp) (t : Addr) (fs : List LmE), Same H H' → H t = none → H' t = some (.tup (fs.map fun e => V.ref e.1)) → LmT H' fs → fs.map (·.2) = es.map (·.2) → Q (.ref t) H'
theorem ok_Cl {f : Addr} {fd : FuncData} (F : Fun K "_checked_limits" "_checked_limits" sCl f fd) (B : Bt mg) (ztuple : mg "tuple" = none) : FnOk P w K mg base CX0 1 f fd ["limits"] spCl := by
  refine F.ok scCl (fun vs H Q E h => ?_) (fun cdv A outer s H vs Q E hr h => ?_)
  · obtain ⟨l, es, rfl, _⟩ := h
    rfl
  · obtain ⟨l, es, rfl, el, lt, so, few, q⟩ := h
    have hu := hu_of hr
    have nd := scCl.nd
    refine ⟨_, pss_cons (ps_set (i := 1) nd rfl (.inl rfl) (pe_callTy0 cr_set0K (by rfl) B.set PyProof.Rows.boot_set))
      (pss_cons (ps_for PassesOwn.never rfl (pi_list (pv 0)) (pg_tup (by rfl) (pgs_cons (pg_name (i := 2) nd rfl (.inl rfl)) (pgs_cons (pg_name (i := 3) nd rfl (.inl rfl)) (pgs_cons (pg_name (i := 4) nd rfl (.inl rfl)) pgs_nil))))
        (pss_cons (ps_if (PW.pt (pw_or (pt_cmpR op_lt (pv 3) pe_int rfl) (pw_or1 (pt_cmpR op_gt (pv 3) (pv 4) rfl)))) pss_any pss_nil)
        (pss_cons (ps_if (pt_cmpR or_sinK (pv 2) (pv 1) rfl) pss_any pss_nil)
        (pss_one (ps_expr (pe_saddK (pv 1) (pa_cons (pv 2) pa_nil)))))))
      (pss_one (ps_ret (pe_callTy call_tuple_of (by rfl) ztuple PyProof.Rows.boot_tuple (pa_cons (pe_lc (own := [("value", 2), ("low", 3), ("high", 4)]) (g := gTup K 3 (gCons (gName 2) (gCons (gName 3) (gCons (gName 4) gNil)))) (tt := tYes) rfl nd (pi_list (pv 0)) (blkOk_by (N := nCl) (sc := defScope sCl) (by decide +kernel)) (fun _ _ _ _ _ => pg_tup (by rfl) (pgs_cons (pg_name (i := 2) nd rfl (.inl rfl)) (pgs_cons (pg_name (i := 3) nd rfl (.inl rfl)) (pgs_cons (pg_name (i := 4) nd rfl (.inl rfl)) pgs_nil)))) (fun _ _ _ _ _ => pts_nil)
          (fun _ _ _ _ _ => (pe_tup (pa_cons (pv 2) (pa_cons (pv 3) (pa_cons (pv 4) pa_nil)))))) pa_nil))))), ?_⟩
    refine ⟨rfl, fun D nD => ?_⟩
    have s0 := same_new (o := SetK P w D (fun _ => false) 0) nD
    refine ⟨.ref l, rfl, l, rfl, ⟨_, sl_map (s0 _ _ el)⟩, for_list (xs := es.map fun e => V.ref e.1) (fun i σ H' => ∃ (S : Key → Bool) (n : Nat) (y2 y3 y4 : Option V), σ = [some (.ref l), some (.ref D), y2, y3, y4] ∧ Same H H' ∧ H' D = some (SetK P w D S n) ∧ n ≤ i ∧ ∀ v, S (.inl v) = true → v ∈ (es.map (·.2.1)).take i)
      ⟨_, 0, none, none, none, rfl, s0, upd_same, Nat.le_refl _, (fun _ h => nomatch h)⟩ (fun i σ H' _ h => by obtain ⟨_, _, _, _, _, _, h, _⟩ := h; exact sl_map (h _ _ el)) ?_ ?_⟩
    · rintro i x0 σ H1 hx ⟨S, n, y2, y3, y4, rfl, sm, hD, ni, hS⟩
      rw [List.getElem?_map] at hx
      obtain ⟨e, he, rfl⟩ := Option.map_eq_some_iff.mp hx
      have em := List.mem_of_getElem? he
      have hi := (List.getElem?_eq_some_iff.mp he).1
      obtain ⟨o1, o2⟩ := so.2 e.2 (List.mem_map.mpr ⟨e, em, rfl⟩)
      have hv : (es.map (·.2.1))[i]? = some e.2.1 := by rw [List.getElem?_map, he] <;> rfl
      have ndv : (es.map (·.2.1)).Nodup := by have := so.1; rw [List.map_map] at this; exact this
      have out : S (.inl e.2.1) = false := by
        cases c : S (.inl e.2.1) with
        | false => rfl
        | true => exact absurd (hS _ c) (not_take ndv hv)
      refine ⟨e.1, _, rfl, .inl (.inl (sm _ _ (lt e em))), rfl, _, _, rfl, _, _, rfl, _, _, rfl, rfl, ?_⟩
      refine ⟨_, rfl, _, _, rfl, rfl, _, rfl, ite_both (fun c => ?_) fun _ => ⟨_, rfl, _, rfl, _, _, rfl, rfl, _, rfl, ite_both (fun c => ?_) fun _ => ?_⟩⟩
      · have := of_decide_eq_true c; omega
      · have := of_decide_eq_true c; omega
      refine ⟨_, rfl, _, rfl, .inl e.2.1, D, S, n, rfl, rfl, hD, _, rfl, ite_both (fun c => ?_) fun _ => ?_⟩
      · have c' : S (.inl e.2.1) = true := c
        rw [out] at c'; cases c'
      refine ⟨_, rfl, ⟨D, S, n, rfl, hD⟩, _, rfl, D, .inl e.2.1, S, n, rfl, rfl, hD, by show n + 1 < 4096; omega, ?_⟩
      refine ⟨_, _, _, _, _, rfl, same_at sm nD, upd_same, ?_, fun z hz => ?_⟩
      · rw [out]; show n + 1 ≤ i + 1; omega
      · rw [take_snoc hv]
        rcases Bool.or_eq_true_iff.mp hz with g | g
        · exact List.mem_append_left _ (hS z g)
        · have := Sum.inl.inj (of_decide_eq_true g)
          rw [this]; exact List.mem_append_right _ (List.mem_singleton.mpr rfl)
    · rintro σ H1 ⟨S, n, y2, y3, y4, rfl, sm, hD, _, _⟩
      refine ⟨_, rfl, l, rfl, ⟨_, sl_map (sm _ _ el)⟩, fun Z nZ => lc_list (xs := es.map fun e => V.ref e.1) (fun j H' => Same H1 H' ∧ ∃ fs : List LmE, H' Z = some (.lst (fs.map fun e => V.ref e.1)) ∧ LmT H' fs ∧ fs.map (·.2) = (es.take j).map (·.2)) ⟨same_new nZ, [], upd_same, (fun _ h => nomatch h), rfl⟩ (fun j H' _ h => sl_map (h.1 _ _ (sm _ _ el))) ?_ ?_⟩
      · rintro j x0 H2 hx ⟨s2, fs, eZ, lf, cf⟩
        rw [List.getElem?_map] at hx
        obtain ⟨e, he, rfl⟩ := Option.map_eq_some_iff.mp hx
        have em := List.mem_of_getElem? he
        have hj := (List.getElem?_eq_some_iff.mp he).1
        have lfs : fs.length = j := by have := congrArg List.length cf; rw [List.length_map, List.length_map, List.length_take] at this; omega
        refine ⟨e.1, _, rfl, .inl (.inl (s2 _ _ (sm _ _ (lt e em)))), rfl, _, _, rfl, _, _, rfl, _, _, rfl, rfl, rfl, ?_⟩
        refine ⟨_, rfl, _, rfl, _, rfl, by show 3 ≤ sizeLine; decide, fun T nT => ?_⟩
        have sT := same_new (o := HO.tup [V.int e.2.1, .int e.2.2.1, .int e.2.2.2]) nT
        have TZ : T ≠ Z := fun z => by rw [z, eZ] at nT; cases nT
        refine ⟨_, sT _ _ eZ, by rw [List.length_map]; exact small1000 (by omega), same_at (s2.trans sT) nZ, fs ++ [(T, e.2)], by rw [upd_same, List.map_append] <;> rfl, fun g hg => ?_, ?_⟩
        · rcases List.mem_append.mp hg with h | h
          · have h1 := sT _ _ (lf g h)
            have : g.1 ≠ Z := fun z => by have h2 := lf g h; rw [z, eZ] at h2; cases h2
            rw [upd_ne this]; exact h1
          · rw [List.mem_singleton.mp h, upd_ne TZ]; exact upd_same
        · rw [take_snoc he, List.map_append, List.map_append, cf] <;> rfl
      · rintro H2 ⟨s2, fs, eZ, lf, cf⟩
        rw [List.length_map, List.take_length] at cf
        have s12 := sm.trans s2
        exact ⟨Z, _, rfl, .inl ⟨sl_map eZ, fun t nt => q _ t fs (s12.trans (same_new nt)) (s12.free nt) upd_same (lf.same (same_new nt)) cf⟩⟩
end
end K22
set_option Elab.async false
set_option linter.all false
set_option maxRecDepth 100000
set_option maxHeartbeats 4000000
namespace K22
open PySem PySem.Spec PyProof.Rows L2 Cs CsX
/-! ### Counts -/
abbrev cF : List Str := ["names", "limits"]
def cflds (t r : Addr) : List (Str × V) := [("names", V.ref t), ("limits", V.ref r)]
theorem clook1 (t r : Addr) : (cflds t r).lookup ("names" : Str) = some (.ref t) := by
  unfold cflds
  simp [List.lookup]
theorem clook2 (t r : Addr) : (cflds t r).lookup ("limits" : Str) = some (.ref r) := by
  unfold cflds
  have h : (("limits" : Str) == ("names" : Str)) = false := by decide +kernel
  simp only [List.lookup, h]
  simp
theorem cput (t r : Addr) : putF "limits" (.ref r) (putF "names" (.ref t) []) = cflds t r := by
  show (if ("names" : Str) = "limits" then _ else (("names" : Str), V.ref t) :: [("limits", V.ref r)]) = _
  rw [if_neg (by decide +kernel)] <;> rfl
theorem ct_no {m : Str} (h1 : ("names" : Str) ≠ m) (h2 : ("limits" : Str) ≠ m) (t r : Addr) : (cflds t r).lookup m = none := by
  unfold cflds
  have h1' : (m == ("names" : Str)) = false := beq_eq_false_iff_ne.mpr fun z => h1 z.symm
  have h2' : (m == ("limits" : Str)) = false := beq_eq_false_iff_ne.mpr fun z => h2 z.symm
  simp only [List.lookup, h1', h2']
/-- a Counts of these names and limits stands at p -/
def Ct (C : Addr) (H : Hp) (p : Addr) (ns : List Str) (ls : List Lim3) : Prop := ∃ (dx t r : Addr) (fs : List LmE), H p = some (.ins C dx (cflds t r)) ∧ TpK H t (ns.map V.str) ∧ H r = some (.tup (fs.map fun e => V.ref e.1)) ∧ LmT H fs ∧ fs.map (·.2) = ls
theorem Ct.same {C : Addr} {H H' : Hp} {p : Addr} {ns : List Str} {ls : List Lim3} (R : Ct C H p ns ls) (s : Same H H') : Ct C H' p ns ls := by
  obtain ⟨dx, t, e, fs, h1, h2, h3, h4, h5⟩ := R
  exact ⟨dx, t, e, fs, s _ _ h1, h2.same s, s _ _ h3, h4.same s, h5⟩
section
variable {P : Program} {w : World} {K : PySem.W.Frag} {mg : Str → Option Value} {base : Heap}
abbrev sCin : Stmt := inClass (topS 24) 0
abbrev nCin : List Str := ["self", "names", "limits"]
theorem scCin : FnScope nCin ["self", "names", "limits"] (defScope sCin) := ⟨rfl, rfl, rfl, by decide +kernel, rfl, by decide +kernel, by decide +kernel⟩
def spCin (C : Addr) : Sp := fun vs H Q _ => ∃ (p dx nl l : Addr) (ns : List Str) (es : List LmE), vs = [.ref p, .ref nl, .ref l] ∧ H p = some (.ins C dx []) ∧ H nl = some (.lst (ns.map V.str)) ∧ ns ≠ [] ∧ ns.Nodup ∧ ns.length ≤ 1000 ∧ H l = some (.lst (es.map fun e => V.ref e.1)) ∧ LmT H es ∧ Sound (es.map (·.2)) ∧ es.length ≤ 100 ∧
  ∀ (H' : Hp), Ct C H' p ns (es.map (·.2)) → (∀ b o, b ≠ p → H b = some o → H' b = some o) → Q .non H'
theorem ok_Cin {f C fC fE : Addr} {fd fdC fdE : FuncData} (F : Fun K "__init__" "Counts.__init__" sCin f fd) (B : Bt mg) (T : Kls K mg "Counts" C cF) (Ck : Call P w K mg base 1 "checked_names" fC fdC ["names"] spChk)
    (CCl : Call P w K mg base 1 "_checked_limits" fE fdE ["limits"] spCl) : FnOk P w K mg base CX0 2 f fd ["self", "names", "limits"] (spCin C) := by
  refine F.ok scCin (fun vs H Q E h => ?_) (fun cdv A outer s H vs Q E hr h => ?_)
  · obtain ⟨p, dx, nl, l, ns, es, rfl, _⟩ := h
    rfl
  · obtain ⟨p, dx, nl, l, ns, es, rfl, hp, en, ne, nd0, n1000, el, lt, so, few, k⟩ := h
    have nd := scCin.nd
    refine ⟨_, pss_cons (ps_fld (pv 0) (pe_call Ck.ok (hr.mono (by decide)) (by rfl) Ck.at_ Ck.kp Ck.bd .nil pass0 (pa_cons (pv 1) pa_nil)) rfl)
      (pss_one (ps_fld (pv 0) (pe_call CCl.ok (hr.mono (by decide)) (by rfl) CCl.at_ CCl.kp CCl.bd .nil pass0 (pa_cons (pv 2) pa_nil)) rfl)), ?_⟩
    refine ⟨_, rfl, nl, ns, rfl, en, ne, nd0, n1000, fun H1 t s1 fr1 nt et => ?_⟩
    have tp : t ≠ p := fun q => by rw [q, hp] at nt; cases nt
    refine ⟨_, rfl, p, C, dx, _, rfl, s1 _ _ hp, T.cl, T.no _ (by simp), by show 0 < 1000; decide, ?_⟩
    obtain ⟨H2, k2, e2, r2⟩ : ∃ H2, (∀ b o, b ≠ p → H1 b = some o → H2 b = some o) ∧ H2 p = some (.ins C dx (putF "names" (.ref t) [])) ∧ upd H1 p (.ins C dx (putF "names" (.ref t) [])) = H2 := ⟨_, fun b o n e => by rw [upd_ne n]; exact e, upd_same, rfl⟩
    rw [r2]
    clear r2
    have lp : l ≠ p := fun z => by rw [z, hp] at el; cases el
    have up : ∀ u ∈ es, u.1 ≠ p := fun u hu z => by have e := lt u hu; rw [z, hp] at e; cases e
    have et2 : TpK H2 t (ns.map V.str) := by obtain ⟨o, po, e⟩ := et; exact ⟨o, po, k2 _ _ tp e⟩
    refine ⟨_, rfl, l, es, rfl, k2 _ _ lp (s1 _ _ el), fun u hu => k2 _ _ (up u hu) (s1 _ _ (lt u hu)), so, few, fun H3 r fs s3 nr er lf cf => ?_⟩
    have rp : r ≠ p := fun z => by rw [z, e2] at nr; cases nr
    refine ⟨_, rfl, p, C, dx, _, rfl, s3 _ _ e2, T.cl, T.no _ (by simp), by show 1 < 1000; decide, ?_⟩
    refine k _ ⟨dx, t, r, fs, by rw [upd_same, cput], by obtain ⟨o, po, e⟩ := et2.same s3; exact ⟨o, po, by rw [upd_ne tp]; exact e⟩, by rw [upd_ne rp]; exact er, fun v hv => ?_, cf⟩ fun b o h1 h2 => ?_
    · have h1 := lf v hv
      rw [upd_ne fun z => by rw [z, s3 _ _ e2] at h1; cases h1]; exact h1
    · rw [upd_ne h1]; exact s3 _ _ (k2 _ _ h1 (s1 _ _ h2))
/-- what the rule says of a row -/
def keepsL (ls : List Lim3) (r : List Int) : Bool := ls.all fun l => decide (l.2.1 ≤ (r.count l.1 : Int)) && decide ((r.count l.1 : Int) ≤ l.2.2)
abbrev sAlo : Stmt := inClass (topS 24) 1
abbrev nAlo : List Str := ["self", "values", "row", "value", "low", "high"]
theorem scAlo : FnScope nAlo ["self", "values"] (defScope sAlo) := ⟨rfl, rfl, rfl, by decide +kernel, rfl, by decide +kernel, by decide +kernel⟩
def spAlo (C : Addr) : Sp := fun vs H Q _ => ∃ (p d : Addr) (ns : List Str) (ls : List Lim3) (A : List (Str × Int)) (g : Str → Int), vs = [.ref p, .ref d] ∧ Ct C H p ns ls ∧ ls.length ≤ 100 ∧ H d = some (.dK (intK A)) ∧ ns.length ≤ 1000 ∧ (∀ x ∈ ns, aget A x = some (g x)) ∧
  ∀ H', Same H H' → Q (.bl (keepsL ls (ns.map g))) H'
theorem ok_Alo {f C f0 : Addr} {fd fd0 : FuncData} (F : Fun K "allows" "Counts.allows" sAlo f fd) (B : Bt mg) (T : Kls K mg "Counts" C cF) (CRof : Call P w K mg base 1 "row_of" f0 fd0 ["names", "values"] spRof) : FnOk P w K mg base CX0 2 f fd ["self", "values"] (spAlo C) := by
  refine F.ok scAlo (fun vs H Q E h => ?_) (fun cdv A outer s H vs Q E hr h => ?_)
  · obtain ⟨p, d, ns, ls, A0, g, rfl, _⟩ := h
    rfl
  · obtain ⟨p, d, ns, ls, A0, g, rfl, ⟨dx, t, u, fs, hp, et, eu, lf, cf⟩, few, ed, n1000, av, q⟩ := h
    have hu := hu_of hr
    have nd := scAlo.nd
    refine ⟨_, pss_cons (ps_set (i := 2) nd rfl (.inr rfl) (pe_call CRof.ok (hr.mono (by decide)) (by rfl) CRof.at_ CRof.kp CRof.bd .nil pass0 (pa_cons (pe_fld (pv 0) rfl) (pa_cons (pv 1) pa_nil))))
      (pss_one (ps_ret (pe_callB (cr_all rfl) (by rfl) B.all PyProof.Rows.boot_all (pa_cons (pe_lc (own := [("value", 3), ("low", 4), ("high", 5)]) (g := gTup K 3 (gCons (gName 3) (gCons (gName 4) (gCons (gName 5) gNil)))) (tt := tYes) rfl nd (pi_tup (pe_fld (pv 0) rfl)) (blkOk_by (N := nAlo) (sc := defScope sAlo) (by decide +kernel)) (fun _ _ _ _ _ => pg_tup (by rfl) (pgs_cons (pg_name (i := 3) nd rfl (.inl rfl)) (pgs_cons (pg_name (i := 4) nd rfl (.inl rfl)) (pgs_cons (pg_name (i := 5) nd rfl (.inl rfl)) pgs_nil)))) (fun _ _ _ _ _ => pts_nil)
          (te := tAndV (tOp (rI0 fun i j => V.bl (decide (i ≤ j))) (tVar 4) (tBMT K (rCntT K) (tVar 2) (tCons (tVar 3) tNil))) (tOp (rI0 fun i j => V.bl (decide (i ≤ j))) (tBMT K (rCntT K) (tVar 2) (tCons (tVar 3) tNil)) (tVar 5)))
          (fun _ _ _ _ _ => (L2.pe_and (pe_cmpR op_le (pv 4) (pe_bmT PySem.F.plainAttrs_tuple PySem.F.slot_tuple_count PySem.F.type_tuple_count mt_tcount (pv 2) (pa_cons (pv 3) pa_nil)) rfl) (pe_one (pe_cmpR op_le (pe_bmT PySem.F.plainAttrs_tuple PySem.F.slot_tuple_count PySem.F.type_tuple_count mt_tcount (pv 2) (pa_cons (pv 3) pa_nil)) (pv 5) rfl))))) pa_nil)))), ?_⟩
    refine ⟨_, rfl, p, C, dx, _, _, rfl, hp, T.cl, T.no _ (by simp), clook1 _ _, _, rfl, t, d, ns, A0, g, rfl, et, ed, n1000, av, fun H1 r1 s1 nr er => ?_⟩
    refine ⟨_, rfl, p, C, dx, _, _, rfl, s1 _ _ hp, T.cl, T.no _ (by simp), clook2 _ _, ?_⟩
    have lcf : fs.length = ls.length := by rw [← cf, List.length_map]
    have cs : TpK H1 r1 ((ns.map g).map V.int) := er
    refine ⟨u, rfl, ⟨_, .inl (.inl (s1 _ _ eu))⟩, fun Z nZ => lc_tup (xs := fs.map fun e => V.ref e.1) (fun j H' => Same H1 H' ∧ H' Z = some (.lst (((ls.take j).map fun l => decide (l.2.1 ≤ ((ns.map g).count l.1 : Int)) && decide (((ns.map g).count l.1 : Int) ≤ l.2.2)).map V.bl))) ⟨same_new nZ, upd_same⟩ (fun j H' _ h => .inl (.inl (h.1 _ _ (s1 _ _ eu)))) ?_ ?_⟩
    · rintro j x0 H2 hx ⟨s2, eZ⟩
      rw [List.getElem?_map] at hx
      obtain ⟨e, he, rfl⟩ := Option.map_eq_some_iff.mp hx
      have em := List.mem_of_getElem? he
      have hj := (List.getElem?_eq_some_iff.mp he).1
      have hl : ls[j]? = some e.2 := by rw [← cf, List.getElem?_map, he] <;> rfl
      have S2 := s1.trans s2
      have ec := (cs.same s2).sq (K := K)
      have fin : ∀ b : Bool, b = (decide (e.2.2.1 ≤ ((ns.map g).count e.2.1 : Int)) && decide (((ns.map g).count e.2.1 : Int) ≤ e.2.2.2)) → ∃ acc, H2 Z = some (.lst acc) ∧ acc.length < sizeLine ∧ Same H1 (upd H2 Z (.lst (acc ++ [V.bl b]))) ∧ (upd H2 Z (.lst (acc ++ [V.bl b]))) Z = some (.lst (((ls.take (j + 1)).map fun l => decide (l.2.1 ≤ ((ns.map g).count l.1 : Int)) && decide (((ns.map g).count l.1 : Int) ≤ l.2.2)).map V.bl)) := fun b hb => by
        refine ⟨_, eZ, by rw [List.length_map, List.length_map, List.length_take]; exact small1000 (by omega), same_at s2 nZ, ?_⟩
        rw [upd_same, take_snoc hl, List.map_append, List.map_append, hb] <;> rfl
      refine ⟨e.1, _, rfl, .inl (.inl (S2 _ _ (lf e em))), rfl, _, _, rfl, _, _, rfl, _, _, rfl, rfl, rfl, ?_⟩
      refine ⟨_, rfl, _, rfl, ⟨_, _, rfl, cs.same s2⟩, _, rfl, r1, ns.map g, e.2.1, rfl, rfl, ec, _, _, rfl, rfl, _, rfl, ite_both (fun c => ?_) fun c => fin _ (by rw [c] <;> rfl)⟩
      refine ⟨_, rfl, ⟨_, _, rfl, cs.same s2⟩, _, rfl, r1, ns.map g, e.2.1, rfl, rfl, ec, _, rfl, _, _, rfl, rfl, fin _ (by rw [c, Bool.true_and])⟩
    · rintro H2 ⟨s2, eZ⟩
      rw [List.length_map, lcf, List.take_length] at eZ
      refine ⟨Z, _, rfl, sl_map eZ, ?_⟩
      rw [List.all_map]
      exact q _ (s1.trans s2)
abbrev sHig : Stmt := inClass (topS 24) 6
abbrev nHig : List Str := ["self", "value", "_", "high"]
theorem scHig : FnScope nHig ["self"] (defScope sHig) := ⟨rfl, rfl, rfl, by decide +kernel, rfl, by decide +kernel, by decide +kernel⟩
def spHig (C : Addr) : Sp := fun vs H Q _ => ∃ (p : Addr) (ns : List Str) (ls : List Lim3), vs = [.ref p] ∧ Ct C H p ns ls ∧ Sound ls ∧ ls.length ≤ 100 ∧
  ∀ (H' : Hp) (r : Addr), Same H H' → H r = none → H' r = some (.dK (zK V.int (hiOf ls))) → Q (.ref r) H'
theorem ok_Hig {f C : Addr} {fd : FuncData} (F : Fun K "_highs" "Counts._highs" sHig f fd) (B : Bt mg) (T : Kls K mg "Counts" C cF) : FnOk P w K mg base CX0 1 f fd ["self"] (spHig C) := by
  refine F.ok scHig (fun vs H Q E h => ?_) (fun cdv A outer s H vs Q E hr h => ?_)
  · obtain ⟨p, ns, ls, rfl, _⟩ := h
    rfl
  · obtain ⟨p, ns, ls, rfl, ⟨dx, t, u, fs, hp, et, eu, lf, cf⟩, so, few, q⟩ := h
    have hu := hu_of hr
    have nd := scHig.nd
    refine ⟨_, pss_one (ps_ret (pe_dc (own := [("value", 1), ("_", 2), ("high", 3)]) (g := gTup K 3 (gCons (gName 1) (gCons (gName 2) (gCons (gName 3) gNil)))) (tt := tYes) (tk := tVar 1) (tv := tVar 3) rfl nd (pi_tup (pe_fld (pv 0) rfl)) (blkOk_by (N := nHig) (sc := defScope sHig) (by decide +kernel)) (fun _ _ _ _ _ => pg_tup (by rfl) (pgs_cons (pg_name (i := 1) nd rfl (.inl rfl)) (pgs_cons (pg_name (i := 2) nd rfl (.inl rfl)) (pgs_cons (pg_name (i := 3) nd rfl (.inl rfl)) pgs_nil)))) (fun _ _ _ _ _ => pts_nil)
          (fun _ _ _ _ _ => (pv 1)) (fun _ _ _ _ _ => (pv 3)))), ?_⟩
    have lcf : fs.length = ls.length := by rw [← cf, List.length_map]
    refine ⟨_, rfl, p, C, dx, _, _, rfl, hp, T.cl, T.no _ (by simp), clook2 _ _, u, rfl, ⟨_, .inl (.inl eu)⟩, fun D nD => dc_tup (xs := fs.map fun e => V.ref e.1) (fun i H' => Same H H' ∧ H' D = some (.dK (zK V.int (hiOf (ls.take i))))) ⟨same_new nD, upd_same⟩ (fun i H' _ h => .inl (.inl (h.1 _ _ eu))) ?_ ?_⟩
    · rintro i x0 H2 hx ⟨s2, eD⟩
      rw [List.getElem?_map] at hx
      obtain ⟨e, he, rfl⟩ := Option.map_eq_some_iff.mp hx
      have em := List.mem_of_getElem? he
      have hi := (List.getElem?_eq_some_iff.mp he).1
      have hl : ls[i]? = some e.2 := by rw [← cf, List.getElem?_map, he] <;> rfl
      have hk : (ls.map (·.1))[i]? = some e.2.1 := by rw [List.getElem?_map, hl] <;> rfl
      refine ⟨e.1, _, rfl, .inl (.inl (s2 _ _ (lf e em))), rfl, _, _, rfl, _, _, rfl, _, _, rfl, rfl, rfl, ?_⟩
      refine ⟨_, rfl, _, rfl, _, .inl e.2.1, rfl, eD, by rw [zK_len, hiOf, List.length_map, List.length_take]; exact small1000 (by omega), same_at s2 nD, ?_⟩
      rw [upd_same]
      show some (HO.dK (putK _ (.inl e.2.1) (V.int e.2.2.2))) = _
      rw [zput, putZ_new (by rw [hi_keys, List.map_take]; exact not_take so.1 hk), take_snoc hl]
      unfold hiOf
      rw [List.map_append] <;> rfl
    · rintro H2 ⟨s2, eD⟩
      rw [List.length_map, lcf, List.take_length] at eD
      exact q _ D s2 nD eD
abbrev sLow : Stmt := inClass (topS 24) 7
abbrev nLow : List Str := ["self", "value", "low", "_"]
theorem scLow : FnScope nLow ["self"] (defScope sLow) := ⟨rfl, rfl, rfl, by decide +kernel, rfl, by decide +kernel, by decide +kernel⟩
def spLow (C : Addr) : Sp := fun vs H Q _ => ∃ (p : Addr) (ns : List Str) (ls : List Lim3), vs = [.ref p] ∧ Ct C H p ns ls ∧ Sound ls ∧ ls.length ≤ 100 ∧
  ∀ (H' : Hp) (r : Addr), Same H H' → H r = none → H' r = some (.dK (zK V.int (loOf ls))) → Q (.ref r) H'
theorem ok_Low {f C : Addr} {fd : FuncData} (F : Fun K "_lows" "Counts._lows" sLow f fd) (B : Bt mg) (T : Kls K mg "Counts" C cF) : FnOk P w K mg base CX0 1 f fd ["self"] (spLow C) := by
  refine F.ok scLow (fun vs H Q E h => ?_) (fun cdv A outer s H vs Q E hr h => ?_)
  · obtain ⟨p, ns, ls, rfl, _⟩ := h
    rfl
  · obtain ⟨p, ns, ls, rfl, ⟨dx, t, u, fs, hp, et, eu, lf, cf⟩, so, few, q⟩ := h
    have hu := hu_of hr
    have nd := scLow.nd
    refine ⟨_, pss_one (ps_ret (pe_dc (own := [("value", 1), ("low", 2), ("_", 3)]) (g := gTup K 3 (gCons (gName 1) (gCons (gName 2) (gCons (gName 3) gNil)))) (tt := tYes) (tk := tVar 1) (tv := tVar 2) rfl nd (pi_tup (pe_fld (pv 0) rfl)) (blkOk_by (N := nLow) (sc := defScope sLow) (by decide +kernel)) (fun _ _ _ _ _ => pg_tup (by rfl) (pgs_cons (pg_name (i := 1) nd rfl (.inl rfl)) (pgs_cons (pg_name (i := 2) nd rfl (.inl rfl)) (pgs_cons (pg_name (i := 3) nd rfl (.inl rfl)) pgs_nil)))) (fun _ _ _ _ _ => pts_nil)
          (fun _ _ _ _ _ => (pv 1)) (fun _ _ _ _ _ => (pv 2)))), ?_⟩
    have lcf : fs.length = ls.length := by rw [← cf, List.length_map]
    refine ⟨_, rfl, p, C, dx, _, _, rfl, hp, T.cl, T.no _ (by simp), clook2 _ _, u, rfl, ⟨_, .inl (.inl eu)⟩, fun D nD => dc_tup (xs := fs.map fun e => V.ref e.1) (fun i H' => Same H H' ∧ H' D = some (.dK (zK V.int (loOf (ls.take i))))) ⟨same_new nD, upd_same⟩ (fun i H' _ h => .inl (.inl (h.1 _ _ eu))) ?_ ?_⟩
    · rintro i x0 H2 hx ⟨s2, eD⟩
      rw [List.getElem?_map] at hx
      obtain ⟨e, he, rfl⟩ := Option.map_eq_some_iff.mp hx
      have em := List.mem_of_getElem? he
      have hi := (List.getElem?_eq_some_iff.mp he).1
      have hl : ls[i]? = some e.2 := by rw [← cf, List.getElem?_map, he] <;> rfl
      have hk : (ls.map (·.1))[i]? = some e.2.1 := by rw [List.getElem?_map, hl] <;> rfl
      refine ⟨e.1, _, rfl, .inl (.inl (s2 _ _ (lf e em))), rfl, _, _, rfl, _, _, rfl, _, _, rfl, rfl, rfl, ?_⟩
      refine ⟨_, rfl, _, rfl, _, .inl e.2.1, rfl, eD, by rw [zK_len, loOf, List.length_map, List.length_take]; exact small1000 (by omega), same_at s2 nD, ?_⟩
      rw [upd_same]
      show some (HO.dK (putK _ (.inl e.2.1) (V.int e.2.2.1))) = _
      rw [zput, putZ_new (by rw [lo_keys, List.map_take]; exact not_take so.1 hk), take_snoc hl]
      unfold loOf
      rw [List.map_append] <;> rfl
    · rintro H2 ⟨s2, eD⟩
      rw [List.length_map, lcf, List.take_length] at eD
      exact q _ D s2 nD eD
end
end K22
set_option Elab.async false
set_option linter.all false
set_option maxRecDepth 100000
set_option maxHeartbeats 4000000
namespace K22
open PySem PySem.Spec PyProof.Rows L2 Cs CsX
/-- the sides that a rule is asked of -/
structure Sds (ns : List Str) (S : Str → List Int) : Prop where
  srt : ∀ x ∈ ns, Srt (S x)
  few : ∀ x ∈ ns, (S x).length ≤ 30
theorem flat_le {S : Str → List Int} : ∀ {ns : List Str}, (∀ x ∈ ns, (S x).length ≤ 30) → (ns.flatMap S).length ≤ 30 * ns.length
  | [], _ => Nat.le_refl _
  | x :: ns, h => by
    rw [List.flatMap_cons, List.length_append, List.length_cons]
    have h1 := h x List.mem_cons_self
    have h2 := flat_le (ns := ns) fun y hy => h y (List.mem_cons_of_mem _ hy)
    omega
theorem wd_of {ns : List Str} {S : Str → List Int} {M : List Ent} {ls : List Lim3} (so : Sound ls) (km : M.map (·.1) = ns) (fm : Fit M ns S) (sd : Sds ns S) (few : ns.length ≤ 30) : Wd M S (hiOf ls) (ns.flatMap S) := by
  refine ⟨by rw [km]; exact fm, ?_, fun x hx v hv => List.mem_flatMap.mpr ⟨x, by rw [← km]; exact hx, hv⟩, fun v k hk => ?_⟩
  · have := flat_le sd.few
    omega
  · obtain ⟨l, hl, e⟩ := List.mem_map.mp (zget_mem hk)
    obtain ⟨e1, e2⟩ := Prod.mk.inj e
    obtain ⟨h1, h2⟩ := so.2 l hl
    omega
theorem ct_self {C : Addr} {H : Hp} {p : Addr} {ns : List Str} {ls : List Lim3} (R : Ct C H p ns ls) : ∃ dx fs, H p = some (.ins C dx fs) ∧ fs.lookup ("_highs" : Str) = none ∧ fs.lookup ("_lows" : Str) = none ∧ fs.lookup ("witness" : Str) = none ∧ fs.lookup ("supported" : Str) = none ∧ fs.lookup ("allows" : Str) = none := by
  obtain ⟨dx, t, r, fs, h1, _⟩ := R
  exact ⟨dx, _, h1, ct_no (by decide +kernel) (by decide +kernel) _ _, ct_no (by decide +kernel) (by decide +kernel) _ _, ct_no (by decide +kernel) (by decide +kernel) _ _, ct_no (by decide +kernel) (by decide +kernel) _ _, ct_no (by decide +kernel) (by decide +kernel) _ _⟩
section
variable {P : Program} {w : World} {K : PySem.W.Frag} {mg : Str → Option Value} {base : Heap}
abbrev sWit : Stmt := inClass (topS 24) 2
abbrev nWit : List Str := ["self", "box"]
theorem scWit : FnScope nWit ["self", "box"] (defScope sWit) := ⟨rfl, rfl, rfl, by decide +kernel, rfl, by decide +kernel, by decide +kernel⟩
def spWit (C : Addr) : Sp := fun vs H Q _ => ∃ (p b : Addr) (ns : List Str) (ls : List Lim3) (L : List Ent) (S : Str → List Int), vs = [.ref p, .ref b] ∧ Ct C H p ns ls ∧ Sound ls ∧ ls.length ≤ 100 ∧ ns.Nodup ∧ ns.length ≤ 30 ∧ Bu H b L ∧ Fit L ns S ∧ Sds ns S ∧
  ∀ (H' : Hp) (v : V), Same H H' → FcR (hiOf ls) (loOf ls) ns S H H' v → Q v H'
theorem ok_Wit {f C f0 f1 f2 f3 : Addr} {fd fd0 fd1 fd2 fd3 : FuncData} (F : Fun K "witness" "Counts.witness" sWit f fd) (B : Bt mg) (T : Kls K mg "Counts" C cF) (CRst : Call P w K mg base 1 "restricted" f0 fd0 ["names", "box"] spRst) (CFch : Call P w K mg base 5 "first_choice" f1 fd1 ["box", "highs", "lows"] spFch)
    (Hg : CallM P w K mg base 1 C "_highs" f2 fd2 ["self"] (spHig C)) (Lw : CallM P w K mg base 1 C "_lows" f3 fd3 ["self"] (spLow C)) : FnOk P w K mg base CX0 6 f fd ["self", "box"] (spWit C) := by
  refine F.ok scWit (fun vs H Q E h => ?_) (fun cdv A outer s H vs Q E hr h => ?_)
  · obtain ⟨p, b, ns, ls, L, S, rfl, _⟩ := h
    rfl
  · obtain ⟨p, b, ns, ls, L, S, rfl, ul, so, l100, nn, few, bx, fit, sd, q⟩ := h
    obtain ⟨dx, t, u, fs, hp, et, _⟩ := id ul
    have hu := hu_of hr
    have nd := scWit.nd
    refine ⟨_, pss_one (ps_ret (pe_call CFch.ok (hr.mono (by decide)) (by rfl) CFch.at_ CFch.kp CFch.bd .nil pass0 (pa_cons (pe_call CRst.ok (hr.mono (by decide)) (by rfl) CRst.at_ CRst.kp CRst.bd .nil pass0 (pa_cons (pe_fld (pv 0) rfl) (pa_cons (pv 1) pa_nil))) (pa_cons (pe_meth0 (pv 0) T.cl Hg.mt Hg.ok (hr.mono (by decide)) Hg.bd .nil pass0) (pa_cons (pe_meth0 (pv 0) T.cl Lw.mt Lw.ok (hr.mono (by decide)) Lw.bd .nil pass0) pa_nil))))), ?_⟩
    refine ⟨_, rfl, p, C, dx, _, _, rfl, hp, T.cl, T.no _ (by simp), clook1 _ _, _, rfl, t, b, ns, L, S, rfl, et, nn, few, bx, fit, fun H1 d M s1 ndd bm km fm => ?_⟩
    refine ⟨_, rfl, p, dx, _, rfl, s1 _ _ hp, ct_no (by decide +kernel) (by decide +kernel) _ _, p, ns, ls, rfl, ul.same s1, so, l100, fun H2 hd s2 nh eh => ?_⟩
    have S2 := s1.trans s2
    refine ⟨_, rfl, p, dx, _, rfl, S2 _ _ hp, ct_no (by decide +kernel) (by decide +kernel) _ _, p, ns, ls, rfl, ul.same S2, so, l100, fun H3 lo s3 nlo elo => ?_⟩
    have lM : M.length = ns.length := by rw [← km, List.length_map]
    have bm2 := bm.same' s2
    refine ⟨d, hd, lo, M, hiOf ls, loOf ls, S, ns.flatMap S, rfl, bm2.same' s3, s3 _ _ eh, elo, fun z => ?_, fun z => ?_, by omega, by rw [km]; exact sd.srt, wd_of so km fm sd few, ones_of so, fun H4 v s4 r4 => ?_⟩
    · have := bm.un; rw [z, nh] at this; cases this
    · have := bm2.un; rw [z, nlo] at this; cases this
    rw [km] at r4
    have S3 := S2.trans s3
    refine q _ v (S3.trans s4) ?_
    cases r4 with
    | no n => exact .no n
    | least x c nx ex inj le => exact .least x c (S3.free nx) ex inj le
abbrev sSpd : Stmt := inClass (topS 24) 3
abbrev nSpd : List Str := ["self", "box", "name"]
theorem scSpd : FnScope nSpd ["self", "box", "name"] (defScope sSpd) := ⟨rfl, rfl, rfl, by decide +kernel, rfl, by decide +kernel, by decide +kernel⟩
def spSpd (C : Addr) : Sp := fun vs H Q _ => ∃ (p b : Addr) (x : Str) (ns : List Str) (ls : List Lim3) (L : List Ent) (S : Str → List Int), vs = [.ref p, .ref b, .str x] ∧ Ct C H p ns ls ∧ Sound ls ∧ ls.length ≤ 100 ∧ ns.Nodup ∧ ns.length ≤ 30 ∧ Bu H b L ∧ Fit L ns S ∧ Sds ns S ∧ x ∈ ns ∧
  ∀ (H' : Hp) (r : Addr), Same H H' → H r = none → H' r = some (.lst (((S x).filter fun v => feB (hiOf ls) (loOf ls) ns (nar S x v)).map V.int)) → Q (.ref r) H'
theorem ok_Spd {f C f0 f1 f2 f3 : Addr} {fd fd0 fd1 fd2 fd3 : FuncData} (F : Fun K "supported" "Counts.supported" sSpd f fd) (B : Bt mg) (T : Kls K mg "Counts" C cF) (CRst : Call P w K mg base 1 "restricted" f0 fd0 ["names", "box"] spRst) (CCho : Call P w K mg base 5 "choices" f1 fd1 ["box", "highs", "lows", "name"] spCho)
    (Hg : CallM P w K mg base 1 C "_highs" f2 fd2 ["self"] (spHig C)) (Lw : CallM P w K mg base 1 C "_lows" f3 fd3 ["self"] (spLow C)) : FnOk P w K mg base CX0 6 f fd ["self", "box", "name"] (spSpd C) := by
  refine F.ok scSpd (fun vs H Q E h => ?_) (fun cdv A outer s H vs Q E hr h => ?_)
  · obtain ⟨p, b, x, ns, ls, L, S, rfl, _⟩ := h
    rfl
  · obtain ⟨p, b, x, ns, ls, L, S, rfl, ul, so, l100, nn, few, bx, fit, sd, hx, q⟩ := h
    obtain ⟨dx, t, u, fs, hp, et, _⟩ := id ul
    have hu := hu_of hr
    have nd := scSpd.nd
    refine ⟨_, pss_one (ps_ret (pe_call CCho.ok (hr.mono (by decide)) (by rfl) CCho.at_ CCho.kp CCho.bd .nil pass0 (pa_cons (pe_call CRst.ok (hr.mono (by decide)) (by rfl) CRst.at_ CRst.kp CRst.bd .nil pass0 (pa_cons (pe_fld (pv 0) rfl) (pa_cons (pv 1) pa_nil))) (pa_cons (pe_meth0 (pv 0) T.cl Hg.mt Hg.ok (hr.mono (by decide)) Hg.bd .nil pass0) (pa_cons (pe_meth0 (pv 0) T.cl Lw.mt Lw.ok (hr.mono (by decide)) Lw.bd .nil pass0) (pa_cons (pv 2) pa_nil)))))), ?_⟩
    refine ⟨_, rfl, p, C, dx, _, _, rfl, hp, T.cl, T.no _ (by simp), clook1 _ _, _, rfl, t, b, ns, L, S, rfl, et, nn, few, bx, fit, fun H1 d M s1 ndd bm km fm => ?_⟩
    refine ⟨_, rfl, p, dx, _, rfl, s1 _ _ hp, ct_no (by decide +kernel) (by decide +kernel) _ _, p, ns, ls, rfl, ul.same s1, so, l100, fun H2 hd s2 nh eh => ?_⟩
    have S2 := s1.trans s2
    refine ⟨_, rfl, p, dx, _, rfl, S2 _ _ hp, ct_no (by decide +kernel) (by decide +kernel) _ _, p, ns, ls, rfl, ul.same S2, so, l100, fun H3 lo s3 nlo elo => ?_⟩
    have lM : M.length = ns.length := by rw [← km, List.length_map]
    have bm2 := bm.same' s2
    have fx := sd.few x hx
    refine ⟨_, rfl, d, hd, lo, x, M, hiOf ls, loOf ls, S, ns.flatMap S, rfl, bm2.same' s3, s3 _ _ eh, elo, fun z => ?_, fun z => ?_, by omega, by rw [km]; exact hx, by omega, wd_of so km fm sd few, ones_of so, fun H4 r s4 nr er => ?_⟩
    · have := bm.un; rw [z, nh] at this; cases this
    · have := bm2.un; rw [z, nlo] at this; cases this
    rw [km] at er
    have S3 := S2.trans s3
    exact q _ r (S3.trans s4) (S3.free nr) er
end
end K22
set_option Elab.async false
set_option linter.all false
set_option maxRecDepth 100000
set_option maxHeartbeats 4000000
namespace K22
open PySem PySem.Spec PyProof.Rows L2 Cs CsX
theorem srt_ndI {l : List Int} (s : Srt l) : l.Nodup := s.imp fun {a b} (h : a < b) => (by omega : a ≠ b)
theorem keep_tup' {H H' : Hp} {s b : Addr} {xs : List V} (st : Strm H s) (k : Keep s H H') (h : H b = some (.tup xs)) : H' b = some (.tup xs) := k _ _ (fun z => by
  obtain ⟨x, y, w, e⟩ := st
  rw [z, e] at h; cases h) h
/-- entries in the making -/
structure En (H H' : Hp) (s vl E0 : Addr) (zs : List Int) (es : List LmE) : Prop where
  k : Keep s H H'
  st : Strm H' s
  vs : vl ≠ s
  e0 : E0 ≠ s
  ev : H' vl = some (.lst (zs.map V.int))
  ee : H' E0 = some (.lst (es.map fun e => V.ref e.1))
  lt : LmT H' es
theorem En.oth {H H1 H2 : Hp} {s vl E0 : Addr} {zs : List Int} {es : List LmE} (g : En H H1 s vl E0 zs es) (o : Oth s H1 H2) (st : Strm H2 s) : En H H2 s vl E0 zs es :=
  ⟨g.k.oth o, st, g.vs, g.e0, (o _ g.vs).trans g.ev, (o _ g.e0).trans g.ee, fun e he => keep_tup' g.st ((Keep.refl _ _).oth o) (g.lt e he)⟩
theorem En.new {H H1 : Hp} {s vl E0 t : Addr} {zs : List Int} {es : List LmE} {o : HO} (g : En H H1 s vl E0 zs es) (n : H1 t = none) : En H (upd H1 t o) s vl E0 zs es := by
  have sn := same_new (o := o) n
  obtain ⟨x, y, w, e⟩ := g.st
  exact ⟨g.k.trans (Keep.same sn), ⟨x, y, w, sn _ _ e⟩, g.vs, g.e0, sn _ _ g.ev, sn _ _ g.ee, g.lt.same sn⟩
section
variable {P : Program} {w : World} {K : PySem.W.Frag} {mg : Str → Option Value} {base : Heap}
abbrev sEnt : Stmt := topS 36
abbrev nEnt : List Str := ["_law_stream_here", "_law_pool_here", "_law_values", "_law_entries_here", "_law_value", "_law_fewest", "_law_most"]
theorem scEnt : FnScope nEnt ["_law_stream_here", "_law_pool_here"] (defScope sEnt) := ⟨rfl, rfl, rfl, by decide +kernel, rfl, by decide +kernel, by decide +kernel⟩
def spEnt : Sp := fun vs H Q _ => ∃ (s pl : Addr) (ps : List Int), vs = [.ref s, .ref pl] ∧ Strm H s ∧ H pl = some (.lst (ps.map V.int)) ∧ pl ≠ s ∧ Srt ps ∧ 1 ≤ ps.length ∧ ps.length ≤ 20 ∧
  ∀ (H' : Hp) (l : Addr) (es : List LmE), Keep s H H' → H l = none → Strm H' s → l ≠ s → H' l = some (.lst (es.map fun e => V.ref e.1)) → LmT H' es → Sound (es.map (·.2)) → es.length ≤ 21 → Q (.ref l) H'
theorem ok_Ent {f f0 f1 : Addr} {fd fd0 fd1 : FuncData} (F : Fun K "_law_entries" "_law_entries" sEnt f fd) (B : Bt mg) (zmax : mg "max" = none) (CSf : Call P w K mg base 2 "_law_shuffled" f0 fd0 ["_law_stream_here", "_law_things"] spSf) (D : Call P w K mg base 1 "_law_next" f1 fd1 ["_law_stream_here", "_law_size"] spDraw) :
    FnOk P w K mg base CX0 3 f fd ["_law_stream_here", "_law_pool_here"] spEnt := by
  refine F.ok scEnt (fun vs H Q E h => ?_) (fun cdv A outer s H vs Q E hr h => ?_)
  · obtain ⟨s, pl, ps, rfl, _⟩ := h
    rfl
  · obtain ⟨s, pl, ps, rfl, hs, ep, pls, srt, p1, p20, q⟩ := h
    have hu := hu_of hr
    have nd := scEnt.nd
    refine ⟨_, pss_cons (ps_set (i := 2) nd rfl (.inl rfl) (pe_call CSf.ok (hr.mono (by decide)) (by rfl) CSf.at_ CSf.kp CSf.bd .nil pass0 (pa_cons (pv 0) (pa_cons (pv 1) pa_nil))))
      (pss_cons (ps_if (pt_cmpR op_eq (pe_call D.ok (hr.mono (by decide)) (by rfl) D.at_ D.kp D.bd .nil pass0 (pa_cons (pv 0) (pa_cons pe_int pa_nil))) pe_int rfl)
        (pss_one (ps_expr (pe_bm PySem.F.plainAttrs_list PySem.F.slot_list_append PySem.F.type_list_append mt_append (pv 2) (pa_cons (pe_op op_sub (pe_ix ix_list (pv 1) pe_int (fun _ _ => rfl)) pe_int) pa_nil))))
        pss_nil)
      (pss_cons (ps_set (i := 3) nd rfl (.inl rfl) (pe_lst pa_nil))
      (pss_cons (ps_for PassesOwn.never rfl (pi_list (pv 2)) (pg_name (i := 4) nd rfl (.inl rfl))
        (pss_one (ps_if (pt_cmpR op_gt (pe_call D.ok (hr.mono (by decide)) (by rfl) D.at_ D.kp D.bd .nil pass0 (pa_cons (pv 0) (pa_cons pe_int pa_nil))) pe_int rfl)
            (pss_cons (ps_set (i := 5) nd rfl (.inl rfl) (pe_ix ix_list (pe_lst (pa_cons pe_int (pa_cons pe_int (pa_cons pe_int (pa_cons pe_int (pa_cons pe_int (pa_cons pe_int pa_nil))))))) (pe_call D.ok (hr.mono (by decide)) (by rfl) D.at_ D.kp D.bd .nil pass0 (pa_cons (pv 0) (pa_cons pe_int pa_nil))) (fun _ _ => rfl)))
              (pss_cons (ps_if (pt_cmpR op_eq (pe_call D.ok (hr.mono (by decide)) (by rfl) D.at_ D.kp D.bd .nil pass0 (pa_cons (pv 0) (pa_cons pe_int pa_nil))) pe_int rfl)
                (pss_one (ps_set (i := 5) nd rfl (.inl rfl) (pe_op op_add (pv 5) (pe_call D.ok (hr.mono (by decide)) (by rfl) D.at_ D.kp D.bd .nil pass0 (pa_cons (pv 0) (pa_cons pe_int pa_nil))))))
                pss_nil)
              (pss_cons (ps_set (i := 6) nd rfl (.inl rfl) (pe_op op_add (pv 5) (pe_call D.ok (hr.mono (by decide)) (by rfl) D.at_ D.kp D.bd .nil pass0 (pa_cons (pv 0) (pa_cons (pe_callB (call_max2 rfl) (by rfl) zmax PyProof.Rows.boot_max (pa_cons pe_int (pa_cons (pe_op op_sub pe_int (pv 5)) pa_nil))) pa_nil)))))
              (pss_cons (ps_if (pt_cmpR op_eq (pe_call D.ok (hr.mono (by decide)) (by rfl) D.at_ D.kp D.bd .nil pass0 (pa_cons (pv 0) (pa_cons pe_int pa_nil))) pe_int rfl)
                (pss_one (ps_set (i := 6) nd rfl (.inl rfl) (pe_op op_add (pv 6) pe_int)))
                pss_nil)
              (pss_cons (ps_if (pt_cmpR op_eq (pe_call D.ok (hr.mono (by decide)) (by rfl) D.at_ D.kp D.bd .nil pass0 (pa_cons (pv 0) (pa_cons pe_int pa_nil))) pe_int rfl)
                (pss_one (ps_set (i := 6) nd rfl (.inl rfl) (pe_op op_sub (pe_op op_pow pe_int pe_int) (pe_call D.ok (hr.mono (by decide)) (by rfl) D.at_ D.kp D.bd .nil pass0 (pa_cons (pv 0) (pa_cons pe_int pa_nil))))))
                pss_nil)
              (pss_one (ps_expr (pe_bm PySem.F.plainAttrs_list PySem.F.slot_list_append PySem.F.type_list_append mt_append (pv 3) (pa_cons (pe_tup (pa_cons (pv 4) (pa_cons (pv 5) (pa_cons (pv 6) pa_nil)))) pa_nil)))))))))
            pss_nil)))
      (pss_one (ps_ret (pv 3)))))), ?_⟩
    refine ⟨_, rfl, _, rfl, Int, V.int, s, pl, ps, rfl, hs, ep, by omega, pls.symm, fun H1 vl zs0 k1 nvl st1 evl pmz => ?_⟩
    have vls : vl ≠ s := fun z => hs.some (z ▸ nvl)
    have zn : zs0.Nodup := pmz.nodup_iff.mpr (srt_ndI srt)
    have lz := pmz.length_eq
    refine' with_restS (fun σ H' => ∃ (zs : List Int), σ = [some (.ref s), some (.ref pl), some (.ref vl), none, none, none, none] ∧ Keep s H H' ∧ Strm H' s ∧ H' vl = some (.lst (zs.map V.int)) ∧ zs.Nodup ∧ zs.length ≤ 21) ?r1 (fun rest => ⟨_, rfl, s, 12, rfl, st1, by decide, by decide, fun H2 y o2 st2 y0 y1 => ⟨rfl, _, rfl, ite_both (fun _ => ?g1) fun _ => rest _ _ ⟨zs0, rfl, k1.oth o2, st2, (o2 _ vls).trans evl, zn, by omega⟩⟩⟩)
    case' g1 =>
      obtain ⟨p0, tl, rfl⟩ : ∃ p0 tl, ps = p0 :: tl := by
        cases ps with
        | nil => exact absurd p1 (by decide)
        | cons a b => exact ⟨a, b, rfl⟩
      have k2 := k1.oth o2
      have evl2 := (o2 _ vls).trans evl
      refine ⟨_, rfl, .inl ⟨rfl, _, sl_map evl2⟩, _, rfl, pl, _, _, .int p0, rfl, rfl, sl_map (k2 _ _ pls ep), atI_nat (j := 0) rfl, _, _, rfl, rfl, vl, _, _, rfl, rfl, evl2, by rw [List.length_map]; exact small1000 (by omega), ?_⟩
      refine rest _ _ ⟨zs0 ++ [p0 - 1], rfl, k2.at_ nvl, st2.upd vls.symm, by rw [upd_same, List.map_append] <;> rfl, nd_snoc zn fun m => ?_, by rw [List.length_append]; show zs0.length + 1 ≤ 21; omega⟩
      have m2 := pmz.mem_iff.mp m
      rcases List.mem_cons.mp m2 with h | h
      · omega
      · have := (List.pairwise_cons.mp srt).1 _ h
        omega
    clear zn lz pmz evl st1 k1 H1
    rintro σ H1 ⟨zs, rfl, k1, st1, evl, zn, lz⟩
    refine ⟨by show 0 ≤ sizeLine; decide, fun E0 nE => ?_⟩
    have Es : E0 ≠ s := fun z => st1.some (z ▸ nE)
    have Ev : E0 ≠ vl := fun z => by rw [z, evl] at nE; cases nE
    have nEH := k1.free st1 nE
    have s2 := same_new (o := HO.lst []) nE
    refine ⟨_, rfl, vl, rfl, ⟨_, sl_map (s2 _ _ evl)⟩, for_list (xs := zs.map V.int) (fun i σ H' => ∃ (y4 y5 y6 : Option V) (es : List LmE), σ = [some (.ref s), some (.ref pl), some (.ref vl), some (.ref E0), y4, y5, y6] ∧ Keep s H H' ∧ Strm H' s ∧ H' vl = some (.lst (zs.map V.int)) ∧ H' E0 = some (.lst (es.map fun e => V.ref e.1)) ∧ LmT H' es ∧ Sound (es.map (·.2)) ∧ (∀ e ∈ es, e.2.1 ∈ zs.take i) ∧ es.length ≤ i)
      ⟨none, none, none, [], rfl, k1.at_ nEH, st1.upd Es.symm, s2 _ _ evl, upd_same, (fun _ h => nomatch h), ⟨List.Pairwise.nil, fun _ h => nomatch h⟩, (fun _ h => nomatch h), Nat.le_refl _⟩ (fun i σ H' _ h => by obtain ⟨_, _, _, _, _, _, _, h, _⟩ := h; exact sl_map h) ?_ ?_⟩
    · clear s2 nE evl st1 k1 H1
      rintro i x0 σ H1 hx ⟨y4, y5, y6, es, rfl, k1, st1, evl, eE, lt, so, sub, le⟩
      rw [List.getElem?_map] at hx
      obtain ⟨v, hv, rfl⟩ := Option.map_eq_some_iff.mp hx
      have hi := (List.getElem?_eq_some_iff.mp hv).1
      have g1 : En H H1 s vl E0 zs es := ⟨k1, st1, vls, Es, evl, eE, lt⟩
      clear k1 st1 evl eE lt
      have step : ∀ e ∈ es, e.2.1 ∈ zs.take (i + 1) := fun e he => by rw [take_snoc hv]; exact List.mem_append_left _ (sub e he)
      refine ⟨_, rfl, s, 3, rfl, g1.st, by decide, by decide, fun H2 y o2 st2 _ _ => ⟨_, _, rfl, rfl, _, rfl, ite_both (fun _ => ?_) fun _ => ⟨_, y5, y6, es, rfl, (g1.oth o2 st2).k, st2, (g1.oth o2 st2).ev, (g1.oth o2 st2).ee, (g1.oth o2 st2).lt, so, step, by omega⟩⟩⟩
      have g2 := g1.oth o2 st2
      clear g1 o2 st2
      refine ⟨by show 6 ≤ sizeLine; decide, fun t nt => ?_⟩
      have ts : t ≠ s := fun z => g2.st.some (z ▸ nt)
      have g3 := g2.new (o := HO.lst [V.int 0, .int 0, .int 0, .int 1, .int 1, .int 2]) nt
      have et := upd_same (H := H2) (a := t) (o := HO.lst [V.int 0, .int 0, .int 0, .int 1, .int 1, .int 2])
      refine ⟨_, rfl, s, 6, rfl, g3.st, by decide, by decide, fun H4 y o4 st4 y0 y1 => ?_⟩
      have g4 := g3.oth o4 st4
      obtain ⟨f0, hf, f00, f02⟩ : ∃ f0 : Int, atI [V.int 0, .int 0, .int 0, .int 1, .int 1, .int 2] y = some (.int f0) ∧ 0 ≤ f0 ∧ f0 ≤ 2 := by
        have : y = 0 ∨ y = 1 ∨ y = 2 ∨ y = 3 ∨ y = 4 ∨ y = 5 := by omega
        rcases this with rfl | rfl | rfl | rfl | rfl | rfl
        · exact ⟨0, atI_nat (j := 0) rfl, by decide, by decide⟩
        · exact ⟨0, atI_nat (j := 1) rfl, by decide, by decide⟩
        · exact ⟨0, atI_nat (j := 2) rfl, by decide, by decide⟩
        · exact ⟨1, atI_nat (j := 3) rfl, by decide, by decide⟩
        · exact ⟨1, atI_nat (j := 4) rfl, by decide, by decide⟩
        · exact ⟨2, atI_nat (j := 5) rfl, by decide, by decide⟩
      refine ⟨t, _, y, .int f0, rfl, rfl, sl_map ((o4 t ts).trans et), hf, ?_⟩
      refine' with_restS (fun σ H' => ∃ (f : Int), σ = [some (.ref s), some (.ref pl), some (.ref vl), some (.ref E0), some (.int v), some (.int f), y6] ∧ En H H' s vl E0 zs es ∧ 0 ≤ f ∧ f ≤ 5) ?r2 (fun rest => ⟨_, rfl, s, 12, rfl, g4.st, by decide, by decide, fun H5 z o5 st5 _ _ => ⟨rfl, _, rfl, ite_both (fun _ => ?g2) fun _ => rest _ _ ⟨f0, rfl, g4.oth o5 st5, f00, by omega⟩⟩⟩)
      case' g2 =>
        have g5 := g4.oth o5 st5
        exact ⟨_, rfl, _, rfl, s, 4, rfl, g5.st, by decide, by decide, fun H6 u o6 st6 u0 u1 => ⟨_, _, rfl, rfl, rest _ _ ⟨_, rfl, g5.oth o6 st6, by omega, by omega⟩⟩⟩
      clear hf g4 st4 o4 et g3 g2
      rintro σ H7 ⟨f, rfl, g1, fp, f5⟩
      obtain ⟨mx, hmx, m1, m4⟩ : ∃ mx : Int, (if (4 - f) > 1 then (4 - f) else 1) = mx ∧ 1 ≤ mx ∧ mx ≤ 4 := ⟨_, rfl, by split <;> omega, by split <;> omega⟩
      refine ⟨_, rfl, _, rfl, _, rfl, _, _, rfl, rfl, _, _, rfl, ?_⟩
      refine ⟨s, mx, by rw [← hmx] <;> rfl, g1.st, by omega, by omega, fun H8 y8 o8 st8 y80 y81 => ⟨_, _, rfl, rfl, ?_⟩⟩
      have g8 := g1.oth o8 st8
      refine' with_restS (fun σ H' => ∃ (m : Int), σ = [some (.ref s), some (.ref pl), some (.ref vl), some (.ref E0), some (.int v), some (.int f), some (.int m)] ∧ En H H' s vl E0 zs es ∧ f ≤ m) ?r3 (fun rest => ⟨_, rfl, s, 12, rfl, g8.st, by decide, by decide, fun H9 z o9 st9 _ _ => ⟨rfl, _, rfl, ite_both (fun _ => ?g3) fun _ => rest _ _ ⟨_, rfl, g8.oth o9 st9, by omega⟩⟩⟩)
      case' g3 =>
        exact ⟨_, rfl, _, _, rfl, rfl, rest _ _ ⟨_, rfl, g8.oth o9 st9, by omega⟩⟩
      clear g8 st8 o8 g1
      rintro σ H9 ⟨m, rfl, g9, fm⟩
      refine' with_restS (fun σ H' => ∃ (m : Int), σ = [some (.ref s), some (.ref pl), some (.ref vl), some (.ref E0), some (.int v), some (.int f), some (.int m)] ∧ En H H' s vl E0 zs es ∧ f ≤ m) ?r4 (fun rest => ⟨_, rfl, s, 24, rfl, g9.st, by decide, by decide, fun H10 z o10 st10 _ _ => ⟨rfl, _, rfl, ite_both (fun _ => ?g4) fun _ => rest _ _ ⟨_, rfl, g9.oth o10 st10, fm⟩⟩⟩)
      case' g4 =>
        have g10 := g9.oth o10 st10
        refine ⟨10, 12, rfl, rfl, ⟨by decide, by decide, by decide⟩, _, rfl, s, 3, rfl, g10.st, by decide, by decide, fun H11 u o11 st11 u0 u1 => ⟨_, _, rfl, rfl, rest _ _ ⟨_, rfl, g10.oth o11 st11, ?_⟩⟩⟩
        have e : (10 : Int) ^ (12 : Int).toNat = 1000000000000 := by decide
        rw [e]
        omega
      clear g9 fm m
      rintro σ H10 ⟨m, rfl, g, fm⟩
      refine ⟨_, rfl, .inl ⟨rfl, _, sl_map g.ee⟩, _, rfl, _, rfl, _, rfl, by show 3 ≤ sizeLine; decide, fun t nt => ?_⟩
      have gt := g.new (o := HO.tup [V.int v, .int f, .int m]) nt
      have tE : t ≠ E0 := fun z => by rw [z, g.ee] at nt; cases nt
      refine ⟨E0, _, _, rfl, rfl, gt.ee, by rw [List.length_map]; exact small1000 (by omega), ?_⟩
      have nv : v ∉ (es.map (·.2)).map (·.1) := fun z => by
        rw [List.map_map] at z
        obtain ⟨e, he, e2⟩ := List.mem_map.mp z
        have := sub e he
        rw [show e.2.1 = v from e2] at this
        exact not_take zn hv this
      refine ⟨_, _, _, es ++ [(t, v, f, m)], rfl, gt.k.at_ nEH, gt.st.upd g.e0.symm, ?_, by rw [upd_same, List.map_append] <;> rfl, fun e he => ?_, ?_, fun e he => ?_, by rw [List.length_append]; show es.length + 1 ≤ i + 1; omega⟩
      · rw [upd_ne Ev.symm]; exact gt.ev
      · rcases List.mem_append.mp he with h | h
        · have h1 := gt.lt e h
          rw [upd_ne fun z => by rw [z, gt.ee] at h1; cases h1]; exact h1
        · rw [List.mem_singleton.mp h, upd_ne tE]; exact upd_same
      · rw [List.map_append]
        refine ⟨by rw [List.map_append]; exact nd_snoc so.1 nv, fun l hl => ?_⟩
        rcases List.mem_append.mp hl with h | h
        · exact so.2 l h
        · rw [List.mem_singleton.mp h]; exact ⟨fp, fm⟩
      · rcases List.mem_append.mp he with h | h
        · exact step e h
        · rw [List.mem_singleton.mp h, take_snoc hv]; exact List.mem_append_right _ (List.mem_singleton.mpr rfl)
    · rintro σ H2 ⟨y4, y5, y6, es, rfl, k2, st2, _, eE, lt, so, _, le⟩
      rw [List.length_map] at le
      exact ⟨_, rfl, q _ E0 es k2 nEH st2 Es eE lt so (by omega)⟩
end
end K22
set_option Elab.async false
set_option linter.all false
set_option maxRecDepth 100000
set_option maxHeartbeats 4000000
namespace K22
open PySem PySem.Spec PyProof.Rows L2 Cs CsX
theorem at_eqS {xs : List V} {i : Int} {j : Nat} {v : V} (h : i = (j : Int)) (hx : xs[j]? = some v) : atI xs i = some v := by
  rw [h]; exact atI_nat hx
section
variable {P : Program} {w : World} {K : PySem.W.Frag} {mg : Str → Option Value} {base : Heap}
abbrev sKp : Stmt := topS 43
abbrev nKp : List Str := ["_law_entries_here", "_law_taken", "_law_entry"]
theorem scKp : FnScope nKp ["_law_entries_here", "_law_taken"] (defScope sKp) := ⟨rfl, rfl, rfl, by decide +kernel, rfl, by decide +kernel, by decide +kernel⟩
def spKp : Sp := fun vs H Q _ => ∃ (l t : Addr) (es : List LmE) (r : List Int), vs = [.ref l, .ref t] ∧ H l = some (.lst (es.map fun e => V.ref e.1)) ∧ LmT H es ∧ H t = some (.lst (r.map V.int)) ∧ Q (.bl (keepsL (es.map (·.2)) r)) H
theorem ok_Kp {f  : Addr} {fd  : FuncData} (F : Fun K "_law_keeps" "_law_keeps" sKp f fd) (B : Bt mg) :
    FnOk P w K mg base CX0 1 f fd ["_law_entries_here", "_law_taken"] spKp := by
  refine F.ok scKp (fun vs H Q E h => ?_) (fun cdv A outer s H vs Q E hr h => ?_)
  · obtain ⟨l, t, es, r, rfl, _⟩ := h
    rfl
  · obtain ⟨l, t, es, r, rfl, el, lt, et, q⟩ := h
    have hu := hu_of hr
    have nd := scKp.nd
    refine ⟨_, pss_cons (ps_for PassesOwn.never rfl (pi_list (pv 0)) (pg_name (i := 2) nd rfl (.inl rfl))
        (pss_one (ps_if (PW.pt (pw_or (pt_cmpR op_lt (pe_bm PySem.F.plainAttrs_list PySem.F.slot_list_count PySem.F.type_list_count mt_lcount (pv 1) (pa_cons (pe_ix ix_tup (pv 2) pe_int (fun _ _ => rfl)) pa_nil)) (pe_ix ix_tup (pv 2) pe_int (fun _ _ => rfl)) rfl) (pw_or1 (pt_cmpR op_gt (pe_bm PySem.F.plainAttrs_list PySem.F.slot_list_count PySem.F.type_list_count mt_lcount (pv 1) (pa_cons (pe_ix ix_tup (pv 2) pe_int (fun _ _ => rfl)) pa_nil)) (pe_ix ix_tup (pv 2) pe_int (fun _ _ => rfl)) rfl))))
            (pss_one (ps_ret pe_bl))
            pss_nil)))
      (pss_one (ps_ret pe_bl)), ?_⟩
    refine ⟨_, rfl, l, rfl, ⟨_, sl_map el⟩, for_list (xs := es.map fun e => V.ref e.1) (fun i σ H' => ∃ (y2 : Option V), σ = [some (.ref l), some (.ref t), y2] ∧ H' = H ∧ keepsL ((es.take i).map (·.2)) r = true) ⟨none, rfl, rfl, rfl⟩ (fun i σ H' _ h => by obtain ⟨_, _, h, _⟩ := h; rw [h]; exact sl_map el) ?_ ?_⟩
    · rintro i x0 σ H1 hx ⟨y2, rfl, rfl, kp⟩
      rw [List.getElem?_map] at hx
      obtain ⟨e, he, rfl⟩ := Option.map_eq_some_iff.mp hx
      have em := List.mem_of_getElem? he
      have tu := lt e em
      have no : (decide (e.2.2.1 ≤ (r.count e.2.1 : Int)) && decide ((r.count e.2.1 : Int) ≤ e.2.2.2)) = false → keepsL (es.map (·.2)) r = false := fun h => by
        unfold keepsL
        rw [List.all_eq_false]
        exact ⟨e.2, List.mem_map.mpr ⟨e, em, rfl⟩, by rw [h]; decide⟩
      refine ⟨_, rfl, .inl ⟨rfl, _, sl_map et⟩, _, rfl, e.1, _, _, .int e.2.1, rfl, rfl, .inl (.inl tu), atI_nat (j := 0) rfl, t, r, e.2.1, rfl, rfl, sl_map et, ?_⟩
      refine ⟨_, rfl, e.1, _, _, .int e.2.2.1, rfl, rfl, .inl (.inl tu), atI_nat (j := 1) rfl, _, _, rfl, rfl, _, rfl, ite_both (fun c => ?_) fun c => ?_⟩
      · rw [no (by rw [decide_eq_false (by have := of_decide_eq_true c; omega)] <;> rfl)] at q
        exact q
      refine ⟨_, rfl, .inl ⟨rfl, _, sl_map et⟩, _, rfl, e.1, _, _, .int e.2.1, rfl, rfl, .inl (.inl tu), atI_nat (j := 0) rfl, t, r, e.2.1, rfl, rfl, sl_map et, ?_⟩
      refine ⟨_, rfl, e.1, _, _, .int e.2.2.2, rfl, rfl, .inl (.inl tu), atI_nat (j := 2) rfl, _, _, rfl, rfl, _, rfl, ite_both (fun d => ?_) fun d => ?_⟩
      · rw [no (by rw [decide_eq_false (p := (r.count e.2.1 : Int) ≤ e.2.2.2) (by have := of_decide_eq_true d; omega), Bool.and_false])] at q
        exact q
      refine ⟨_, rfl, rfl, ?_⟩
      unfold keepsL at kp ⊢
      rw [take_snoc he, List.map_append, List.all_append, kp, List.map_cons, List.map_nil, List.all_cons, List.all_nil]
      have h1 := of_decide_eq_false c
      have h2 := of_decide_eq_false d
      rw [decide_eq_true (by omega : e.2.2.1 ≤ (r.count e.2.1 : Int)), decide_eq_true (by omega : (r.count e.2.1 : Int) ≤ e.2.2.2)] <;> rfl
    · rintro σ H1 ⟨y2, rfl, rfl, kp⟩
      rw [List.length_map, List.take_length] at kp
      rw [kp] at q
      exact q
abbrev sNmd : Stmt := topS 45
abbrev nNmd : List Str := ["_law_scope_here", "_law_row", "_law_values", "_law_k"]
theorem scNmd : FnScope nNmd ["_law_scope_here", "_law_row"] (defScope sNmd) := ⟨rfl, rfl, rfl, by decide +kernel, rfl, by decide +kernel, by decide +kernel⟩
def spNmd : Sp := fun vs H Q _ => ∃ (sc rw_ : Addr) (ns : List Str) (g : Str → Int), vs = [.ref sc, .ref rw_] ∧ H sc = some (.lst (ns.map V.str)) ∧ H rw_ = some (.lst ((ns.map g).map V.int)) ∧ ns.Nodup ∧ ns.length ≤ 30 ∧
  ∀ (H' : Hp) (d : Addr), Same H H' → H d = none → H' d = some (.dK (intK (ns.map fun x => (x, g x)))) → Q (.ref d) H'
theorem ok_Nmd {f  : Addr} {fd  : FuncData} (F : Fun K "_law_named" "_law_named" sNmd f fd) (B : Bt mg) :
    FnOk P w K mg base CX0 1 f fd ["_law_scope_here", "_law_row"] spNmd := by
  refine F.ok scNmd (fun vs H Q E h => ?_) (fun cdv A outer s H vs Q E hr h => ?_)
  · obtain ⟨sc, rw_, ns, g, rfl, _⟩ := h
    rfl
  · obtain ⟨sc, rw_, ns, g, rfl, es, er, nn, few, q⟩ := h
    have hu := hu_of hr
    have nd := scNmd.nd
    refine ⟨_, pss_cons (ps_set (i := 2) nd rfl (.inl rfl) pe_dnewK)
      (pss_cons (ps_for PassesOwn.never rfl (pi_range1 (by rfl) B.range (pa_cons (pe_callB call_len_seq (by rfl) B.len PySem.boot_len (pa_cons (pv 0) pa_nil)) pa_nil)) (pg_name (i := 3) nd rfl (.inl rfl))
        (pss_one (ps_dput hu (pv 2) (pe_ix ix_list (pv 0) (pv 3) (fun _ _ => rfl)) (pe_ix ix_list (pv 1) (pv 3) (fun _ _ => rfl)) rfl)))
      (pss_one (ps_ret (pv 2)))), ?_⟩
    refine fun D nD => ?_
    have s0 := same_new (o := HO.dK []) nD
    refine ⟨_, rfl, sc, _, rfl, .inl (sl_map (s0 _ _ es)), _, rfl, by omega, by rw [List.length_map]; omega, for_range (lo := 0) (n := (ns.map V.str).length) (fun i σ H' => ∃ (y3 : Option V), σ = [some (.ref sc), some (.ref rw_), some (.ref D), y3] ∧ Same H H' ∧ H' D = some (.dK (intK ((ns.take i).map fun x => (x, g x))))) ⟨none, rfl, s0, upd_same⟩ ?_ ?_⟩
    · rintro i σ H1 hi ⟨y3, rfl, s1, eD⟩
      rw [List.length_map] at hi
      have hx : ns[i]? = some ns[i] := List.getElem?_eq_getElem hi
      obtain ⟨x, hx'⟩ : ∃ x, ns[i]? = some x := ⟨_, hx⟩
      have hxs : (ns.map V.str)[i]? = some (.str x) := by rw [List.getElem?_map, hx'] <;> rfl
      have hgs : ((ns.map g).map V.int)[i]? = some (.int (g x)) := by rw [List.getElem?_map, List.getElem?_map, hx'] <;> rfl
      refine ⟨_, rfl, _, rfl, rw_, _, _, .int (g x), rfl, rfl, sl_map (s1 _ _ er), at_eqS (by omega) hgs, _, rfl, _, rfl, _, rfl, sc, _, _, .str x, rfl, rfl, sl_map (s1 _ _ es), at_eqS (by omega) hxs, D, _, rfl, DPut.k (k := .inr x) eD (by rw [intK_len, List.length_map, List.length_take]; exact small1000 (by omega)), ?_⟩
      rw [putK_int]
      refine ⟨_, rfl, same_at s1 nD, ?_⟩
      have xn : x ∉ ((ns.take i).map fun x => (x, g x)).map (·.1) := by
        rw [List.map_map]
        intro z
        obtain ⟨y, hy, e2⟩ := List.mem_map.mp z
        exact not_take nn hx' (by rw [← show y = x from e2]; exact hy)
      rw [upd_same, putA_new xn, take_snoc hx', List.map_append] <;> rfl
    · rintro σ H1 ⟨y3, rfl, s1, eD⟩
      rw [List.length_map, List.take_length] at eD
      exact ⟨_, rfl, q _ D s1 nD eD⟩
end
end K22
set_option Elab.async false
set_option linter.all false
set_option maxRecDepth 100000
set_option maxHeartbeats 4000000
namespace K22
open PySem PySem.Spec PyProof.Rows L2 Cs CsX
theorem small1m {n : Nat} (h : n ≤ 1000000) : n < sizeLine := Nat.lt_of_le_of_lt h (by decide)
/-- one row grown by each of the values -/
def gr1 (s : List Int) (r : List Int) : List (List Int) := s.map fun v => r ++ [v]
def grow (s : List Int) (rs : List (List Int)) : List (List Int) := rs.flatMap (gr1 s)
def rowsU (S : Str → List Int) (ws : List Str) : List (List Int) := ws.foldl (fun acc x => grow (S x) acc) [[]]
theorem rowsU_snoc (S : Str → List Int) (ws : List Str) (x : Str) : rowsU S (ws ++ [x]) = grow (S x) (rowsU S ws) := by
  unfold rowsU
  rw [List.foldl_append] <;> rfl
theorem mem_gr1 {s r q : List Int} : q ∈ gr1 s r ↔ ∃ v ∈ s, q = r ++ [v] := by
  unfold gr1
  rw [List.mem_map]
  exact ⟨fun ⟨v, hv, h⟩ => ⟨v, hv, h.symm⟩, fun ⟨v, hv, h⟩ => ⟨v, hv, h.symm⟩⟩
theorem rowsU_mem {S : Str → List Int} {ws : List Str} (nd : ws.Nodup) : ∀ i, i ≤ ws.length → ∀ r, r ∈ rowsU S (ws.take i) ↔ ∃ g : Str → Int, (∀ x ∈ ws.take i, g x ∈ S x) ∧ r = (ws.take i).map g := by
  intro i
  induction i with
  | zero =>
    intro _ r
    constructor
    · intro h
      have : r = [] := List.mem_singleton.mp h
      exact ⟨fun _ => 0, (fun _ h => nomatch h), this⟩
    · rintro ⟨g, _, rfl⟩
      exact List.mem_singleton.mpr rfl
  | succ i ih =>
    intro hi r
    obtain ⟨x, hx⟩ : ∃ x, ws[i]? = some x := ⟨_, List.getElem?_eq_getElem (by omega)⟩
    have xt := not_take nd hx
    rw [take_snoc hx, rowsU_snoc]
    unfold grow
    rw [List.mem_flatMap]
    constructor
    · rintro ⟨r0, h0, h1⟩
      obtain ⟨v, hv, rfl⟩ := mem_gr1.mp h1
      obtain ⟨g, G, rfl⟩ := (ih (by omega) r0).mp h0
      have same : ∀ y ∈ ws.take i, setC g x v y = g y := fun y hy => if_neg fun (z : y = x) => xt (z ▸ hy)
      have atx : setC g x v x = v := if_pos rfl
      refine ⟨setC g x v, fun y hy => ?_, ?_⟩
      · rcases List.mem_append.mp hy with h | h
        · rw [same y h]; exact G y h
        · rw [List.mem_singleton.mp h, atx]; exact hv
      · rw [List.map_append, setC_take nd hx]
        show _ = _ ++ [setC g x v x]
        rw [atx]
    · rintro ⟨g, G, rfl⟩
      exact ⟨(ws.take i).map g, (ih (by omega) _).mpr ⟨g, fun y hy => G y (List.mem_append_left _ hy), rfl⟩, mem_gr1.mpr ⟨g x, G x (List.mem_append_right _ (List.mem_singleton.mpr rfl)), by rw [List.map_append] <;> rfl⟩⟩
theorem keepsL_iff {ls : List Lim3} (so : Sound ls) {r : List Int} : keepsL ls r = true ↔ Okc (hiOf ls) (loOf ls) r := by
  unfold keepsL
  rw [List.all_eq_true]
  constructor
  · intro h
    refine ⟨fun v k hk => ?_, fun v k hk => ?_⟩
    · obtain ⟨l, hl, e⟩ := List.mem_map.mp (zget_mem hk)
      obtain ⟨e1, e2⟩ := Prod.mk.inj e
      have := (Bool.and_eq_true_iff.mp (h l hl)).2
      rw [← e1, ← e2]; exact of_decide_eq_true this
    · obtain ⟨l, hl, e⟩ := List.mem_map.mp (zget_mem hk)
      obtain ⟨e1, e2⟩ := Prod.mk.inj e
      have := (Bool.and_eq_true_iff.mp (h l hl)).1
      rw [← e1, ← e2]; exact of_decide_eq_true this
  · rintro ⟨h1, h2⟩ l hl
    have g1 := h1 l.1 l.2.2 (zget_of (by rw [hi_keys]; exact so.1) (List.mem_map.mpr ⟨l, hl, rfl⟩))
    have g2 := h2 l.1 l.2.1 (zget_of (by rw [lo_keys]; exact so.1) (List.mem_map.mpr ⟨l, hl, rfl⟩))
    rw [decide_eq_true g1, decide_eq_true g2]; rfl
/-- the rows that keep the limits -/
def rowsK (ls : List Lim3) (S : Str → List Int) (ws : List Str) : List (List Int) := (rowsU S ws).filter (keepsL ls)
theorem rowsK_iff {ls : List Lim3} (so : Sound ls) {S : Str → List Int} {ws : List Str} (nd : ws.Nodup) (r : List Int) : r ∈ rowsK ls S ws ↔ ∃ g, Inj (hiOf ls) (loOf ls) ws S g ∧ r = ws.map g := by
  have h := rowsU_mem (S := S) nd ws.length (Nat.le_refl _) r
  rw [List.take_length] at h
  unfold rowsK
  rw [List.mem_filter, h]
  constructor
  · rintro ⟨⟨g, G, rfl⟩, k⟩; exact ⟨g, ⟨G, (keepsL_iff so).mp k⟩, rfl⟩
  · rintro ⟨g, G, rfl⟩; exact ⟨⟨g, G.mem, rfl⟩, (keepsL_iff so).mpr G.inj⟩
theorem lx_last {v w : Int} (h : v < w) : ∀ r : List Int, lxLt (r ++ [v]) (r ++ [w]) = true
  | [] => by
    show lxLt [v] [w] = true
    unfold lxLt
    rw [if_neg (by omega)]; exact decide_eq_true h
  | a :: r => by
    have ih := lx_last h r
    show lxLt (a :: (r ++ [v])) (a :: (r ++ [w])) = true
    unfold lxLt
    rw [if_pos rfl]; exact ih
theorem lx_front {v w : Int} : ∀ {r q : List Int}, r.length = q.length → lxLt r q = true → lxLt (r ++ [v]) (q ++ [w]) = true
  | [], [], _, h => by cases h
  | [], _ :: _, l, _ => by cases l
  | _ :: _, [], l, _ => by cases l
  | a :: r, b :: q, l, h => by
    show lxLt (a :: (r ++ [v])) (b :: (q ++ [w])) = true
    unfold lxLt at h ⊢
    by_cases c : a = b
    · rw [if_pos c] at h ⊢
      exact lx_front (by rw [List.length_cons, List.length_cons] at l; omega) h
    · rw [if_neg c] at h ⊢; exact h
theorem rowsU_sorted {S : Str → List Int} {ws : List Str} (nd : ws.Nodup) (so : ∀ x ∈ ws, Srt (S x)) : ∀ i, i ≤ ws.length → (rowsU S (ws.take i)).Pairwise fun a b => lxLt a b = true := by
  intro i
  induction i with
  | zero => intro _; exact List.pairwise_singleton _ _
  | succ i ih =>
    intro hi
    obtain ⟨x, hx⟩ : ∃ x, ws[i]? = some x := ⟨_, List.getElem?_eq_getElem (by omega)⟩
    rw [take_snoc hx, rowsU_snoc]
    unfold grow
    rw [List.pairwise_flatMap]
    have len : ∀ r ∈ rowsU S (ws.take i), r.length = i := fun r hr => by
      obtain ⟨g, _, rfl⟩ := (rowsU_mem nd i (by omega) r).mp hr
      rw [List.length_map, List.length_take]; omega
    refine ⟨fun r _ => List.pairwise_map.mpr ((so x (List.mem_of_getElem? hx)).imp fun {a b} h => lx_last h r), List.Pairwise.imp_of_mem (fun {a b} ha hb h p hp q hq => ?_) (ih (by omega))⟩
    obtain ⟨v, _, rfl⟩ := mem_gr1.mp hp
    obtain ⟨u, _, rfl⟩ := mem_gr1.mp hq
    exact lx_front ((len a ha).trans (len b hb).symm) h
theorem rowsK_sorted {ls : List Lim3} {S : Str → List Int} {ws : List Str} (nd : ws.Nodup) (so : ∀ x ∈ ws, Srt (S x)) : (rowsK ls S ws).Pairwise fun a b => lxLt a b = true := by
  have h := rowsU_sorted nd so ws.length (Nat.le_refl _)
  rw [List.take_length] at h
  exact h.sublist List.filter_sublist
theorem gr1_len (s r : List Int) : (gr1 s r).length ≤ s.length := by
  unfold gr1
  rw [List.length_map]; exact Nat.le_refl _
theorem grow_len {s : List Int} {k : Nat} (h : s.length ≤ k) : ∀ rs : List (List Int), (grow s rs).length ≤ k * rs.length
  | [] => Nat.zero_le _
  | r :: rs => by
    have ih := grow_len h rs
    have h1 := gr1_len s r
    unfold grow at ih ⊢
    rw [List.flatMap_cons, List.length_append, List.length_cons, Nat.mul_succ]
    omega
theorem rowsU_len {S : Str → List Int} {k : Nat} {ws : List Str} (h : ∀ x ∈ ws, (S x).length ≤ k) : ∀ i, i ≤ ws.length → (rowsU S (ws.take i)).length ≤ k ^ i := by
  intro i
  induction i with
  | zero => intro _; exact Nat.le_refl _
  | succ i ih =>
    intro hi
    obtain ⟨x, hx⟩ : ∃ x, ws[i]? = some x := ⟨_, List.getElem?_eq_getElem (by omega)⟩
    rw [take_snoc hx, rowsU_snoc]
    refine Nat.le_trans (grow_len (h x (List.mem_of_getElem? hx)) _) ?_
    rw [Nat.pow_succ, Nat.mul_comm]
    exact Nat.mul_le_mul_right _ (ih (by omega))
/-- rows in a list -/
structure RLs (H : Hp) (l : Addr) (rs : List (Addr × List Int)) : Prop where
  lst : H l = some (.lst (rs.map fun e => V.ref e.1))
  row : ∀ e ∈ rs, H e.1 = some (.lst (e.2.map V.int))
theorem RLs.same {H H' : Hp} {l : Addr} {rs : List (Addr × List Int)} (r : RLs H l rs) (s : Same H H') : RLs H' l rs := ⟨s _ _ r.lst, fun e he => s _ _ (r.row e he)⟩
abbrev cont (rs : List (Addr × List Int)) : List (List Int) := rs.map (·.2)
theorem take_flat {rs : List (List Int)} {i : Nat} {r : List Int} {f : List Int → List (List Int)} (h : rs[i]? = some r) : (rs.take (i + 1)).flatMap f = (rs.take i).flatMap f ++ f r := by
  rw [take_snoc h, List.flatMap_append]
  simp
section
variable {P : Program} {w : World} {K : PySem.W.Frag} {mg : Str → Option Value} {base : Heap}
abbrev sCr : Stmt := topS 44
abbrev nCr : List Str := ["_law_scope_here", "_law_sides_here", "_law_entries_here", "_law_found", "_law_name", "_law_grown", "_law_row", "_law_value"]
theorem scCr : FnScope nCr ["_law_scope_here", "_law_sides_here", "_law_entries_here"] (defScope sCr) := ⟨rfl, rfl, rfl, by decide +kernel, rfl, by decide +kernel, by decide +kernel⟩
def spCr : Sp := fun vs H Q _ => ∃ (wk b en : Addr) (ws : List Str) (L : List Ent) (es : List LmE) (S : Str → List Int) (k : Nat), vs = [.ref wk, .ref b, .ref en] ∧ H en = some (.lst (es.map fun e => V.ref e.1)) ∧ LmT H es ∧ H wk = some (.lst (ws.map V.str)) ∧ Bu H b L ∧ Fit L ws S ∧ ws.Nodup ∧ ws.length ≤ 30 ∧ (∀ x ∈ ws, (S x).length ≤ k) ∧ 1 ≤ k ∧ k ≤ 30 ∧ k ^ ws.length ≤ 65536 ∧
  ∀ (H' : Hp) (l : Addr) (rs : List (Addr × List Int)), Same H H' → H l = none → RLs H' l rs → cont rs = rowsK (es.map (·.2)) S ws → (∀ e ∈ rs, H e.1 = none) → Q (.ref l) H'
theorem ok_Cr {f f0 : Addr} {fd fd0 : FuncData} (F : Fun K "_law_counted_rows" "_law_counted_rows" sCr f fd) (B : Bt mg) (CKp : Call P w K mg base 1 "_law_keeps" f0 fd0 ["_law_entries_here", "_law_taken"] spKp) :
    FnOk P w K mg base CX0 2 f fd ["_law_scope_here", "_law_sides_here", "_law_entries_here"] spCr := by
  refine F.ok scCr (fun vs H Q E h => ?_) (fun cdv A outer s H vs Q E hr h => ?_)
  · obtain ⟨wk, b, en, ws, L, es, S, k, rfl, _⟩ := h
    rfl
  · obtain ⟨wk, b, en, ws, L, es, S, k, rfl, een, ltm, ew, bx, fit, wn, w30, sk, k0, k30, kb, q⟩ := h
    have hu := hu_of hr
    have nd := scCr.nd
    refine ⟨_, pss_cons (ps_set (i := 3) nd rfl (.inl rfl) (pe_lst (pa_cons (pe_lst pa_nil) pa_nil)))
      (pss_cons (ps_for PassesOwn.never rfl (pi_list (pv 0)) (pg_name (i := 4) nd rfl (.inl rfl))
        (pss_cons (ps_set (i := 5) nd rfl (.inl rfl) (pe_lst pa_nil))
          (pss_cons (ps_for PassesOwn.never rfl (pi_list (pe_callTy call_list_of (by rfl) B.list PyProof.Rows.boot_list (pa_cons (pv 3) pa_nil))) (pg_name (i := 6) nd rfl (.inl rfl))
            (pss_one (ps_for PassesOwn.never rfl (pi_list (pe_dget hu (pv 1) (pv 4) (fun _ _ => rfl))) (pg_name (i := 7) nd rfl (.inl rfl))
                (pss_one (ps_expr (pe_bm PySem.F.plainAttrs_list PySem.F.slot_list_append PySem.F.type_list_append mt_append (pv 5) (pa_cons (pe_op op_cat (pv 6) (pe_lst (pa_cons (pv 7) pa_nil))) pa_nil)))))))
          (pss_one (ps_set (i := 3) nd rfl (.inl rfl) (pv 5))))))
      (pss_one (ps_ret (pe_lc (own := [("_law_row", 6)]) (g := gName 6) (tt := _) (te := tVar 6) rfl nd (pi_list (pv 3)) (blkOk_by (N := nCr) (sc := defScope sCr) (by decide +kernel)) (fun _ _ _ _ _ => pg_name (i := 6) nd rfl (.inl rfl)) (fun _ _ _ _ _ => pts_one (pt_val (pe_call CKp.ok (hr.mono (by decide)) (by rfl) CKp.at_ CKp.kp CKp.bd .nil pass0 (pa_cons (pv 2) (pa_cons (pv 6) pa_nil)))))
          (fun _ _ _ _ _ => (pv 6)))))), ?_⟩
    have few : ∀ i, i ≤ ws.length → (rowsU S (ws.take i)).length ≤ 65536 := fun i hi => Nat.le_trans (rowsU_len sk i hi) (Nat.le_trans (Nat.pow_le_pow_right k0 hi) kb)
    have cl : ∀ {rs : List (Addr × List Int)}, (rs.map fun e => V.ref e.1).length = (cont rs).length := by intro rs; rw [List.length_map, List.length_map]
    refine ⟨by show 0 ≤ sizeLine; decide, fun e0 n0 => ⟨by show 1 ≤ sizeLine; decide, fun l0 nl0 => ?_⟩⟩
    have s0 := same_new (o := HO.lst []) n0
    have s1 := s0.trans (same_new (o := HO.lst [V.ref e0]) nl0)
    have ee0 : (upd (upd H e0 (.lst [])) l0 (.lst [V.ref e0])) e0 = some (.lst (([] : List Int).map V.int)) := (same_new nl0) _ _ upd_same
    have el0 : (upd (upd H e0 (.lst [])) l0 (.lst [V.ref e0])) l0 = some (.lst [V.ref e0]) := upd_same
    have n0H := s0.free nl0
    generalize upd (upd H e0 (.lst [])) l0 (.lst [V.ref e0]) = H0 at s1 ee0 el0 ⊢
    refine ⟨_, rfl, wk, rfl, ⟨_, sl_map (s1 _ _ ew)⟩, for_list (xs := ws.map V.str) (fun i σ H' => ∃ (fo : Addr) (rs : List (Addr × List Int)) (y3 y4 y5 y6 : Option V), σ = [some (.ref wk), some (.ref b), some (.ref en), some (.ref fo), y3, y4, y5, y6] ∧ Same H H' ∧ H fo = none ∧ RLs H' fo rs ∧ cont rs = rowsU S (ws.take i) ∧ ∀ e ∈ rs, H e.1 = none)
      ⟨l0, [(e0, [])], none, none, none, none, rfl, s1, n0H, ⟨el0, fun e he => by rw [List.mem_singleton.mp he]; exact ee0⟩, rfl, fun e he => by rw [List.mem_singleton.mp he]; exact n0⟩ (fun i σ H' _ h => by obtain ⟨_, _, _, _, _, _, _, h, _⟩ := h; exact sl_map (h _ _ ew)) ?_ ?_⟩
    · rintro i x0 σ H1 hx0 ⟨fo, rs, y3, y4, y5, y6, rfl, s1, nfo, rl, eu, fr⟩
      rw [List.getElem?_map] at hx0
      obtain ⟨x, hx, rfl⟩ := Option.map_eq_some_iff.mp hx0
      have xm := List.mem_of_getElem? hx
      have hi := (List.getElem?_eq_some_iff.mp hx).1
      obtain ⟨ent, _, ge⟩ := fit.at_ (b := b) xm
      have rlen : ∀ e ∈ rs, e.2.length ≤ 30 := fun e he => by
        have m : e.2 ∈ rowsU S (ws.take i) := by rw [← eu]; exact List.mem_map.mpr ⟨e, he, rfl⟩
        obtain ⟨g, _, r⟩ := ((rowsU_mem wn i (by omega)) e.2).mp m
        rw [r, List.length_map, List.length_take]; omega
      refine ⟨by show 0 ≤ sizeLine; decide, fun G nG => ?_⟩
      have sG := same_new (o := HO.lst []) nG
      refine ⟨_, rfl, fo, _, rfl, .inl (sl_map (sG _ _ rl.lst)), fun C nC => ?_⟩
      have CG : C ≠ G := fun z => by rw [z, upd_same] at nC; cases nC
      have sC := sG.trans (same_new (o := HO.lst (rs.map fun e => V.ref e.1)) nC)
      have eC0 : (upd (upd H1 G (.lst [])) C (.lst (rs.map fun e => V.ref e.1))) C = some (.lst (rs.map fun e => V.ref e.1)) := upd_same
      have eG0 : (upd (upd H1 G (.lst [])) C (.lst (rs.map fun e => V.ref e.1))) G = some (.lst []) := (same_new nC) _ _ upd_same
      generalize upd (upd H1 G (.lst [])) C (.lst (rs.map fun e => V.ref e.1)) = H2 at sC eC0 eG0 ⊢
      have grf : ∀ {a : Nat}, a ≤ (cont rs).length → (((cont rs).take a).flatMap (gr1 (S x))).length ≤ 65536 * 30 := fun {a} ha => by
        have h1 := grow_len (Nat.le_trans (sk x xm) k30) ((cont rs).take a)
        have h2 := few i (by omega)
        rw [← eu] at h2
        rw [List.length_take] at h1
        unfold grow at h1
        have : 30 * min a (cont rs).length ≤ 30 * 65536 := Nat.mul_le_mul_left _ (by omega)
        omega
      refine ⟨C, rfl, ⟨_, sl_map eC0⟩, for_list (xs := rs.map fun e => V.ref e.1) (fun a σ H' => ∃ (gs : List (Addr × List Int)) (y5 y6 : Option V), σ = [some (.ref wk), some (.ref b), some (.ref en), some (.ref fo), some (.str x), some (.ref G), y5, y6] ∧ Same H1 H' ∧ H' C = some (.lst (rs.map fun e => V.ref e.1)) ∧ RLs H' G gs ∧ (∀ e ∈ gs, e.1 ≠ G ∧ H1 e.1 = none) ∧ cont gs = ((cont rs).take a).flatMap (gr1 (S x)))
        ⟨[], _, _, rfl, sC, eC0, ⟨eG0, (fun _ h => nomatch h)⟩, (fun _ h => nomatch h), rfl⟩ (fun i σ H' _ h => by obtain ⟨_, _, _, _, _, h, _⟩ := h; exact sl_map h) ?_ ?_⟩
      · clear eC0 eG0 sC sG nC y3 y4 y5 y6
        rintro a r0 σ H3 hr0 ⟨gs, y5, y6, rfl, s3, eC, gl, gne, eg⟩
        rw [List.getElem?_map] at hr0
        obtain ⟨r, hr1, rfl⟩ := Option.map_eq_some_iff.mp hr0
        have rm := List.mem_of_getElem? hr1
        have ha := (List.getElem?_eq_some_iff.mp hr1).1
        have lr := rlen r rm
        have hr2 : (cont rs)[a]? = some r.2 := by rw [List.getElem?_map, hr1] <;> rfl
        refine ⟨_, rfl, _, rfl, b, .ref ent.2.1, rfl, (ge (bx.same' (s1.trans s3))).1, ent.2.1, rfl, ⟨_, sl_map (ge (bx.same' (s1.trans s3))).2⟩, for_list (xs := (S x).map V.int) (fun j σ H' => ∃ (gs : List (Addr × List Int)) (y6 : Option V), σ = [some (.ref wk), some (.ref b), some (.ref en), some (.ref fo), some (.str x), some (.ref G), some (.ref r.1), y6] ∧ Same H1 H' ∧ H' C = some (.lst (rs.map fun e => V.ref e.1)) ∧ RLs H' G gs ∧ (∀ e ∈ gs, e.1 ≠ G ∧ H1 e.1 = none) ∧ cont gs = ((cont rs).take a).flatMap (gr1 (S x)) ++ gr1 ((S x).take j) r.2)
          ⟨gs, _, rfl, s3, eC, gl, gne, by rw [eg]; exact (List.append_nil _).symm⟩ (fun j σ H' _ h => by obtain ⟨_, _, _, h, _⟩ := h; exact sl_map (ge (bx.same' (s1.trans h))).2) ?_ ?_⟩
        · clear gl gne eg eC s3 H3 gs y5 y6
          rintro j v0 σ H3 hv0 ⟨gs, y6, rfl, s3, eC, gl, gne, eg⟩
          rw [List.getElem?_map] at hv0
          obtain ⟨v, hv, rfl⟩ := Option.map_eq_some_iff.mp hv0
          have er := s3 _ _ (rl.row r rm)
          have step : gr1 ((S x).take (j + 1)) r.2 = gr1 ((S x).take j) r.2 ++ [r.2 ++ [v]] := by
            unfold gr1
            rw [take_snoc hv, List.map_append] <;> rfl
          refine ⟨_, rfl, .inl ⟨rfl, _, sl_map gl.lst⟩, _, rfl, _, rfl, by show 1 ≤ sizeLine; decide, fun Y nY => ?_⟩
          have sY := same_new (o := HO.lst [V.int v]) nY
          refine ⟨r.1, Y, _, _, rfl, rfl, sY _ _ er, upd_same, by rw [List.length_map]; exact Nat.le_of_lt (small1000 (by show _ + 1 ≤ 1000; omega)), fun Z nZ => ?_⟩
          rw [show r.2.map V.int ++ [V.int v] = (r.2 ++ [v]).map V.int by rw [List.map_append] <;> rfl]
          have sZ := sY.trans (same_new (o := HO.lst ((r.2 ++ [v]).map V.int)) nZ)
          have eZ : (upd (upd H3 Y (.lst [V.int v])) Z (.lst ((r.2 ++ [v]).map V.int))) Z = some (.lst ((r.2 ++ [v]).map V.int)) := upd_same
          generalize upd (upd H3 Y (.lst [V.int v])) Z (.lst ((r.2 ++ [v]).map V.int)) = H4 at sZ eZ ⊢
          have gl4 := gl.same sZ
          have ZG : Z ≠ G := fun z => by have := (same_new (o := HO.lst [V.int v]) nY) _ _ gl.lst; rw [← z, nZ] at this; cases this
          have s4 := s3.trans sZ
          have lg : (gs.map fun e => V.ref e.1).length < sizeLine := by
            have h1 := gr1_len ((S x).take j) r.2
            have h2 := grf (a := a) (by rw [List.length_map]; omega)
            have h3 := sk x xm
            rw [List.length_take] at h1
            rw [cl, eg, List.length_append]
            exact Nat.lt_of_le_of_lt (m := 2000000) (by omega) (by decide)
          refine ⟨G, _, _, rfl, rfl, gl4.lst, lg, gs ++ ([(Z, r.2 ++ [v])] : List (Addr × List Int)), _, rfl, same_at s4 nG, by rw [upd_ne CG]; exact sZ _ _ eC, ⟨by rw [upd_same, List.map_append] <;> rfl, fun e he => ?_⟩, fun e he => ?_, ?_⟩
          · rcases List.mem_append.mp he with h | h
            · rw [upd_ne (gne e h).1]; exact gl4.row e h
            · rw [List.mem_singleton.mp h, upd_ne ZG]; exact eZ
          · rcases List.mem_append.mp he with h | h
            · exact gne e h
            · rw [List.mem_singleton.mp h]; exact ⟨ZG, s3.free (same_new nY |>.free nZ)⟩
          · rw [step, ← List.append_assoc, ← eg]
            show List.map _ (_ ++ _) = _
            rw [List.map_append] <;> rfl
        · clear gl gne eg eC s3 H3 gs y5 y6
          rintro σ H3 ⟨gs, y6, rfl, s3, eC, gl, gne, eg⟩
          rw [List.length_map, List.take_length] at eg
          exact ⟨gs, _, _, rfl, s3, eC, gl, gne, by rw [take_flat hr2]; exact eg⟩
      · clear eC0 eG0 sC sG nC y3 y4 y5 y6
        rintro σ H3 ⟨gs, y5, y6, rfl, s3, eC, gl, gne, eg⟩
        rw [cl, List.take_length] at eg
        refine ⟨_, rfl, G, gs, _, _, _, _, rfl, s1.trans s3, s1.free nG, gl, ?_, fun e he => s1.free (gne e he).2⟩
        rw [take_snoc hx, rowsU_snoc, ← eu]
        exact eg
    · rintro σ H1 ⟨fo, rs, y3, y4, y5, y6, rfl, s1, nfo, rl, eu, fr⟩
      rw [List.length_map, List.take_length] at eu
      refine ⟨_, rfl, fo, rfl, ⟨_, sl_map rl.lst⟩, fun Z nZ => lc_list (xs := rs.map fun e => V.ref e.1) (fun j H' => Same H1 H' ∧ ∃ ts : List (Addr × List Int), RLs H' Z ts ∧ cont ts = ((cont rs).take j).filter (keepsL (es.map (·.2))) ∧ (∀ e ∈ ts, e ∈ rs)) ⟨same_new nZ, [], ⟨upd_same, (fun _ h => nomatch h)⟩, rfl, (fun _ h => nomatch h)⟩ (fun j H' _ h => sl_map (h.1 _ _ rl.lst)) ?_ ?_⟩
      · rintro j x0 H2 hx ⟨s2, ts, tl, ct, sub⟩
        rw [List.getElem?_map] at hx
        obtain ⟨e, he, rfl⟩ := Option.map_eq_some_iff.mp hx
        have em := List.mem_of_getElem? he
        have hj := (List.getElem?_eq_some_iff.mp he).1
        have hc : (cont rs)[j]? = some e.2 := by rw [List.getElem?_map, he] <;> rfl
        have S2 := s1.trans s2
        have er := s2 _ _ (rl.row e em)
        have rZ : ∀ e ∈ rs, e.1 ≠ Z := fun e he z => by have := rl.row e he; rw [z, nZ] at this; cases this
        have sn : (cont rs).take (j + 1) = (cont rs).take j ++ [e.2] := take_snoc hc
        have lrs := few ws.length (Nat.le_refl _)
        rw [List.take_length, ← eu, List.length_map] at lrs
        have lts : ts.length ≤ rs.length := by
          have h1 := congrArg List.length ct
          rw [List.length_map] at h1
          have h2 := List.length_filter_le (keepsL (es.map (·.2))) ((cont rs).take j)
          rw [List.length_take, List.length_map] at h2
          omega
        refine ⟨rfl, _, rfl, _, rfl, en, e.1, es, e.2, rfl, S2 _ _ een, ltm.same S2, er, _, rfl, ite_both (fun c => ?_) fun c => ⟨s2, ts, tl, by rw [sn, List.filter_append, ct]; simp [c], sub⟩⟩
        refine ⟨_, rfl, _, tl.lst, by rw [List.length_map]; exact small1m (by omega), same_at s2 nZ, ts ++ [e], ⟨by rw [upd_same, List.map_append] <;> rfl, fun g hg => ?_⟩, ?_, fun g hg => ?_⟩
        · have gm : g ∈ rs := (List.mem_append.mp hg).elim (sub g) fun h => by rw [List.mem_singleton.mp h]; exact em
          rw [upd_ne (rZ g gm)]; exact s2 _ _ (rl.row g gm)
        · rw [sn, List.filter_append]
          show List.map _ (_ ++ _) = _
          rw [List.map_append]
          show cont ts ++ [e.2] = _
          rw [ct]; simp [c]
        · exact (List.mem_append.mp hg).elim (sub g) fun h => by rw [List.mem_singleton.mp h]; exact em
      · rintro H2 ⟨s2, ts, tl, ct, sub⟩
        rw [List.length_map, show rs.length = (cont rs).length by rw [List.length_map], List.take_length, eu] at ct
        exact q _ Z ts (s1.trans s2) (s1.free nZ) tl ct fun e he => fr e (sub e he)
end
end K22
set_option Elab.async false
set_option linter.all false
set_option maxRecDepth 100000
set_option maxHeartbeats 4000000
namespace K22
open PySem PySem.Spec PyProof.Rows L2 Cs CsX
theorem keep_same {H H1 H2 : Hp} {s : Addr} (a : Same H H1) (k : Keep s H1 H2) (n : H s = none) : Same H H2 := fun b o e => k b o (ne_some' e n) (a b o e)
def sdN (N : List Ent) (x : Str) : List Int := (look N x).getD []
theorem sides_fit {N : List Ent} {ds : List DomE} (nd : (N.map (·.1)).Nodup) (sh : shape N = ds.map fun d => (d.2.1, d.2.2.2)) : Fit N (ds.map (·.2.1)) (sdN N) ∧ (∀ g ∈ N, ∃ d ∈ ds, d.2.1 = g.1 ∧ d.2.2.2 = g.2.2) ∧ ∀ x ∈ ds.map (·.2.1), ∃ g ∈ N, g.1 = x ∧ sdN N x = g.2.2 := by
  have h1 : ∀ g ∈ N, ∃ d ∈ ds, d.2.1 = g.1 ∧ d.2.2.2 = g.2.2 := fun g hg => by
    have m : (g.1, g.2.2) ∈ shape N := List.mem_map.mpr ⟨g, hg, rfl⟩
    rw [sh] at m
    obtain ⟨d, hd, e⟩ := List.mem_map.mp m
    exact ⟨d, hd, (Prod.mk.inj e).1, (Prod.mk.inj e).2⟩
  have h2 : ∀ x ∈ ds.map (·.2.1), ∃ g ∈ N, g.1 = x ∧ sdN N x = g.2.2 := fun x hx => by
    obtain ⟨d, hd, rfl⟩ := List.mem_map.mp hx
    have m : (d.2.1, d.2.2.2) ∈ shape N := by rw [sh]; exact List.mem_map.mpr ⟨d, hd, rfl⟩
    obtain ⟨g, hg, e⟩ := List.mem_map.mp m
    have e1 : g.1 = d.2.1 := (Prod.mk.inj e).1
    refine ⟨g, hg, e1, ?_⟩
    unfold sdN
    rw [← e1, look_ent nd hg] <;> rfl
  refine ⟨fun x hx => ?_, h1, h2⟩
  obtain ⟨g, hg, e1, e2⟩ := h2 x hx
  rw [e2, ← e1, look_ent nd hg]
/-- what a case is made of -/
structure Wrl (H : Hp) (r pl sc b1 b2 : Addr) (ps : List Int) (ns : List Str) (L1 L2 : List Ent) (S1 S2 : Str → List Int) (k : Nat) : Prop where
  er : H r = some (.lst [.ref pl, .ref sc, .ref b1, .ref b2])
  ep : H pl = some (.lst (ps.map V.int))
  sp : Srt ps
  p1 : 1 ≤ ps.length
  p20 : ps.length ≤ 20
  es : H sc = some (.lst (ns.map V.str))
  nn : ns.Nodup
  n1 : 1 ≤ ns.length
  n16 : ns.length ≤ 6
  na : ∀ x ∈ ns, x ≠ "aside"
  bu1 : Bu H b1 L1
  bu2 : Bu H b2 L2
  f1 : Fit L1 ns S1
  f2 : Fit L2 ns S2
  s1 : ∀ g ∈ L1, Srt g.2.2 ∧ g.2.2.length ≤ 30
  s2 : ∀ g ∈ L2, Srt g.2.2 ∧ g.2.2.length ≤ 30
  k1 : ∀ x ∈ ns, (S1 x).length ≤ k
  k2 : ∀ x ∈ ns, (S2 x).length ≤ k
  kb : k ^ ns.length ≤ 65536
  k0 : 1 ≤ k
  k30 : k ≤ 30
theorem Wrl.same {H H' : Hp} {r pl sc b1 b2 : Addr} {ps : List Int} {ns : List Str} {L1 L2 : List Ent} {S1 S2 : Str → List Int} {k : Nat} (W : Wrl H r pl sc b1 b2 ps ns L1 L2 S1 S2 k) (s : Same H H') : Wrl H' r pl sc b1 b2 ps ns L1 L2 S1 S2 k :=
  ⟨s _ _ W.er, s _ _ W.ep, W.sp, W.p1, W.p20, s _ _ W.es, W.nn, W.n1, W.n16, W.na, W.bu1.same' s, W.bu2.same' s, W.f1, W.f2, W.s1, W.s2, W.k1, W.k2, W.kb, W.k0, W.k30⟩
/-- one box out of domains -/
theorem box_of {N : List Ent} {ds : List DomE} {ns : List Str} {k : Nat} (nd : (N.map (·.1)).Nodup) (sh : shape N = ds.map fun d => (d.2.1, d.2.2.2)) (sub : ∀ x ∈ ns, x ∈ ds.map (·.2.1)) (ok : ∀ d ∈ ds, Srt d.2.2.2 ∧ d.2.2.2.length ≤ k) (hk : k ≤ 30) : Fit N ns (sdN N) ∧ (∀ g ∈ N, Srt g.2.2 ∧ g.2.2.length ≤ 30) ∧ ∀ x ∈ ns, (sdN N x).length ≤ k := by
  obtain ⟨h1, h2, h3⟩ := sides_fit nd sh
  refine ⟨fun x hx => h1 x (sub x hx), fun g hg => ?_, fun x hx => ?_⟩
  · obtain ⟨d, hd, _, e⟩ := h2 g hg
    rw [← e]; exact ⟨(ok d hd).1, Nat.le_trans (ok d hd).2 hk⟩
  · obtain ⟨g, hg, _, e⟩ := h3 x (sub x hx)
    obtain ⟨d, hd, _, e2⟩ := h2 g hg
    rw [e, ← e2]; exact (ok d hd).2
section
variable {P : Program} {w : World} {K : PySem.W.Frag} {mg : Str → Option Value} {base : Heap}
abbrev sWor : Stmt := topS 37
abbrev nWor : List Str := ["_law_script", "_law_stream_here", "_law_way", "_law_names_here", "_law_pool_here", "_law_scope_here", "_law_most", "_law_first", "_law_second"]
theorem scWor : FnScope nWor ["_law_script"] (defScope sWor) := ⟨rfl, rfl, rfl, by decide +kernel, rfl, by decide +kernel, by decide +kernel⟩
def spWor (K : PySem.W.Frag) : Sp := fun vs H Q _ => ∃ (a : Addr) (cs : List Int), vs = [.ref a] ∧ SqL K H a (cs.map V.int) ∧
  ∀ (H' : Hp) (r pl sc b1 b2 : Addr) (ps : List Int) (ns : List Str) (L1 L2 : List Ent) (S1 S2 : Str → List Int) (k : Nat), Same H H' → Wrl H' r pl sc b1 b2 ps ns L1 L2 S1 S2 k → Q (.ref r) H'
theorem ok_Wor {f f0 f1 f2 f3 f4 f5 f6 : Addr} {fd fd0 fd1 fd2 fd3 fd4 fd5 fd6 : FuncData} (F : Fun K "_law_world" "_law_world" sWor f fd) (B : Bt mg) (Cst : Call P w K mg base 1 "_law_stream" f0 fd0 ["_law_script", "_law_k"] (spStream K)) (D : Call P w K mg base 1 "_law_next" f1 fd1 ["_law_stream_here", "_law_size"] spDraw) (Cna : Call P w K mg base 2 "_law_names" f2 fd2 ["_law_stream_here", "_law_count"] spNames) (Cpo : Call P w K mg base 2 "_law_pool" f3 fd3 ["_law_stream_here", "_law_count"] spPool) (CSco : Call P w K mg base 2 "_law_scope" f4 fd4 ["_law_stream_here", "_law_names_here", "_law_most"] spSco) (Cdo : Call P w K mg base 2 "_law_domains" f5 fd5 ["_law_stream_here", "_law_names_here", "_law_pool_here", "_law_most"] spDoms) (CSd : Call P w K mg base 1 "_law_sides" f6 fd6 ["_law_domains_here"] spSd) :
    FnOk P w K mg base CX0 3 f fd ["_law_script"] (spWor K) := by
  refine F.ok scWor (fun vs H Q E h => ?_) (fun cdv A outer s H vs Q E hr h => ?_)
  · obtain ⟨a, cs, rfl, _⟩ := h
    rfl
  · obtain ⟨a, cs, rfl, ha, q⟩ := h
    have hu := hu_of hr
    have nd := scWor.nd
    refine ⟨_, pss_cons (ps_set (i := 1) nd rfl (.inl rfl) (pe_call Cst.ok (hr.mono (by decide)) (by rfl) Cst.at_ Cst.kp Cst.bd .nil pass0 (pa_cons (pv 0) (pa_cons pe_int pa_nil))))
      (pss_cons (ps_set (i := 2) nd rfl (.inl rfl) (pe_call D.ok (hr.mono (by decide)) (by rfl) D.at_ D.kp D.bd .nil pass0 (pa_cons (pv 1) (pa_cons pe_int pa_nil))))
      (pss_cons (ps_set (i := 3) nd rfl (.inl rfl) (pe_call Cna.ok (hr.mono (by decide)) (by rfl) Cna.at_ Cna.kp Cna.bd .nil pass0 (pa_cons (pv 1) (pa_cons (pe_ix ix_list (pe_lst (pa_cons (pe_op op_add pe_int (pe_call D.ok (hr.mono (by decide)) (by rfl) D.at_ D.kp D.bd .nil pass0 (pa_cons (pv 1) (pa_cons pe_int pa_nil)))) (pa_cons pe_int pa_nil))) (pe_op op_fdiv (pv 2) pe_int) (fun _ _ => rfl)) pa_nil))))
      (pss_cons (ps_set (i := 4) nd rfl (.inl rfl) (pe_call Cpo.ok (hr.mono (by decide)) (by rfl) Cpo.at_ Cpo.kp Cpo.bd .nil pass0 (pa_cons (pv 1) (pa_cons (pe_ix ix_list (pe_lst (pa_cons (pe_op op_add pe_int (pe_call D.ok (hr.mono (by decide)) (by rfl) D.at_ D.kp D.bd .nil pass0 (pa_cons (pv 1) (pa_cons pe_int pa_nil)))) (pa_cons pe_int pa_nil))) (pe_callTy call_int1 (by rfl) B.int PyProof.Rows.boot_int (pa_cons (pe_cmpR op_eq (pv 2) pe_int rfl) pa_nil)) (fun _ _ => rfl)) pa_nil))))
      (pss_cons (ps_set (i := 5) nd rfl (.inl rfl) (pe_call CSco.ok (hr.mono (by decide)) (by rfl) CSco.at_ CSco.kp CSco.bd .nil pass0 (pa_cons (pv 1) (pa_cons (pv 3) (pa_cons (pe_ix ix_list (pe_lst (pa_cons pe_int (pa_cons pe_int (pa_cons pe_int (pa_cons pe_int (pa_cons pe_int (pa_cons pe_int pa_nil))))))) (pv 2) (fun _ _ => rfl)) pa_nil)))))
      (pss_cons (ps_set (i := 6) nd rfl (.inl rfl) (pe_ix ix_list (pe_lst (pa_cons pe_int (pa_cons pe_int (pa_cons pe_int (pa_cons pe_int (pa_cons pe_int (pa_cons pe_int pa_nil))))))) (pv 2) (fun _ _ => rfl)))
      (pss_cons (ps_set (i := 7) nd rfl (.inl rfl) (pe_call Cdo.ok (hr.mono (by decide)) (by rfl) Cdo.at_ Cdo.kp Cdo.bd .nil pass0 (pa_cons (pe_call Cst.ok (hr.mono (by decide)) (by rfl) Cst.at_ Cst.kp Cst.bd .nil pass0 (pa_cons (pv 0) (pa_cons pe_int pa_nil))) (pa_cons (pv 3) (pa_cons (pv 4) (pa_cons (pv 6) pa_nil))))))
      (pss_cons (ps_set (i := 8) nd rfl (.inl rfl) (pe_call Cdo.ok (hr.mono (by decide)) (by rfl) Cdo.at_ Cdo.kp Cdo.bd .nil pass0 (pa_cons (pe_call Cst.ok (hr.mono (by decide)) (by rfl) Cst.at_ Cst.kp Cst.bd .nil pass0 (pa_cons (pv 0) (pa_cons pe_int pa_nil))) (pa_cons (pv 3) (pa_cons (pv 4) (pa_cons (pv 6) pa_nil))))))
      (pss_one (ps_ret (pe_lst (pa_cons (pv 4) (pa_cons (pv 5) (pa_cons (pe_call CSd.ok (hr.mono (by decide)) (by rfl) CSd.at_ CSd.kp CSd.bd .nil pass0 (pa_cons (pv 7) pa_nil)) (pa_cons (pe_call CSd.ok (hr.mono (by decide)) (by rfl) CSd.at_ CSd.kp CSd.bd .nil pass0 (pa_cons (pv 8) pa_nil)) pa_nil)))))))))))))), ?_⟩
    refine ⟨_, rfl, a, cs, 0, rfl, ha, fun H1 s s1 ns0 st1 => ?_⟩
    refine ⟨_, rfl, s, 6, rfl, st1, by decide, by decide, fun H2 w o2 st2 w0 w6 => ?_⟩
    have S2 : Same H H2 := keep_same s1 ((Keep.refl _ _).oth o2) ns0
    obtain ⟨ms, km, hms, hkm, ms1, ms6, km1, km9, mk⟩ : ∃ ms km : Nat, atI [V.int 4, .int 4, .int 4, .int 4, .int 2, .int 6] w = some (.int (ms : Int)) ∧ atI [V.int 3, .int 3, .int 3, .int 3, .int 9, .int 2] w = some (.int (km : Int)) ∧ 1 ≤ ms ∧ ms ≤ 6 ∧ 1 ≤ km ∧ km ≤ 9 ∧ km ^ ms ≤ 65536 := by
      have : w = 0 ∨ w = 1 ∨ w = 2 ∨ w = 3 ∨ w = 4 ∨ w = 5 := by omega
      rcases this with rfl | rfl | rfl | rfl | rfl | rfl
      · exact ⟨4, 3, atI_nat (j := 0) rfl, atI_nat (j := 0) rfl, by decide, by decide, by decide, by decide, by decide⟩
      · exact ⟨4, 3, atI_nat (j := 1) rfl, atI_nat (j := 1) rfl, by decide, by decide, by decide, by decide, by decide⟩
      · exact ⟨4, 3, atI_nat (j := 2) rfl, atI_nat (j := 2) rfl, by decide, by decide, by decide, by decide, by decide⟩
      · exact ⟨4, 3, atI_nat (j := 3) rfl, atI_nat (j := 3) rfl, by decide, by decide, by decide, by decide, by decide⟩
      · exact ⟨2, 9, atI_nat (j := 4) rfl, atI_nat (j := 4) rfl, by decide, by decide, by decide, by decide, by decide⟩
      · exact ⟨6, 2, atI_nat (j := 5) rfl, atI_nat (j := 5) rfl, by decide, by decide, by decide, by decide, by decide⟩
    refine ⟨_, rfl, _, rfl, s, 5, rfl, st2, by decide, by decide, fun H3 y o3 st3 y0 y1 => ⟨1, y, rfl, rfl, by show 2 ≤ sizeLine; decide, fun t nt => ?_⟩⟩
    have S3 : Same H H3 := keep_same S2 ((Keep.refl _ _).oth o3) ns0
    have s4 := same_new (o := HO.lst [V.int (1 + y), .int 7]) nt
    have st4 : Strm (upd H3 t (.lst [V.int (1 + y), .int 7])) s := by obtain ⟨x, y, w, e⟩ := st3; exact ⟨x, y, w, s4 _ _ e⟩
    obtain ⟨n, hn, n1, n7⟩ : ∃ n : Nat, atI [V.int (1 + y), .int 7] (w / 5) = some (.int (n : Int)) ∧ 1 ≤ n ∧ n ≤ 7 := by
      obtain ⟨u, rfl⟩ : ∃ u : Nat, y = (u : Int) := ⟨y.toNat, by omega⟩
      have : w / 5 = 0 ∨ w / 5 = 1 := by omega
      rcases this with e | e
      · rw [e]; exact ⟨1 + u, by rw [show ((1 + u : Nat) : Int) = 1 + (u : Int) by omega]; exact atI_nat (j := 0) rfl, by omega, by omega⟩
      · rw [e]; exact ⟨7, atI_nat (j := 1) rfl, by decide, by decide⟩
    refine ⟨_, rfl, w, 5, rfl, rfl, ⟨by decide, by decide⟩, t, _, _, .int (n : Int), rfl, rfl, sl_map upd_same, hn, s, n, rfl, st4, by omega, fun H5 nm xs k5 nnm st5 en5 nn lxs nms => ?_⟩
    have S5 : Same H H5 := keep_same (S3.trans s4) k5 ns0
    have nmS : nm ≠ s := fun z => st4.some (z ▸ nnm)
    clear hn s4 st4 st3 o3 S3 k5 nnm
    refine ⟨_, rfl, _, rfl, s, 4, rfl, st5, by decide, by decide, fun H6 y o6 st6 y0 y1 => ⟨2, y, rfl, rfl, by show 2 ≤ sizeLine; decide, fun t nt => ?_⟩⟩
    have S6 : Same H H6 := keep_same S5 ((Keep.refl _ _).oth o6) ns0
    have s7 := same_new (o := HO.lst [V.int (2 + y), .int 9]) nt
    have st7 : Strm (upd H6 t (.lst [V.int (2 + y), .int 9])) s := by obtain ⟨x, y, w, e⟩ := st6; exact ⟨x, y, w, s7 _ _ e⟩
    obtain ⟨pn, hpn, pn2, pn9⟩ : ∃ pn : Nat, atI [V.int (2 + y), .int 9] (if decide (V.int w = V.int 4) = true then 1 else 0) = some (.int (pn : Int)) ∧ 2 ≤ pn ∧ pn ≤ 9 := by
      obtain ⟨u, rfl⟩ : ∃ u : Nat, y = (u : Int) := ⟨y.toNat, by omega⟩
      by_cases c : decide (V.int w = V.int 4) = true
      · rw [if_pos c]; exact ⟨9, atI_nat (j := 1) rfl, by decide, by decide⟩
      · rw [if_neg c]; exact ⟨2 + u, by rw [show ((2 + u : Nat) : Int) = 2 + (u : Int) by omega]; exact atI_nat (j := 0) rfl, by omega, by omega⟩
    have en7 : (upd H6 t (.lst [V.int (2 + y), .int 9])) nm = some (.lst (xs.map V.str)) := s7 _ _ ((o6 _ nmS).trans en5)
    refine ⟨_, rfl, rfl, .inr ⟨_, rfl, t, _, _, .int (pn : Int), rfl, rfl, sl_map upd_same, hpn, s, pn, rfl, st7, by omega, by omega, fun H8 pl ps k8 npl st8 ep8 so lps => ?_⟩⟩
    have S8 : Same H H8 := keep_same (S6.trans s7) k8 ns0
    have en8 : H8 nm = some (.lst (xs.map V.str)) := k8 _ _ nmS en7
    have plS : pl ≠ s := fun z => st7.some (z ▸ npl)
    clear hpn en7 s7 st7 st6 o6 S6 k8 npl en5 st5 S5
    refine ⟨_, rfl, _, rfl, by show 6 ≤ sizeLine; decide, fun t2 nt2 => ?_⟩
    have s9 := same_new (o := HO.lst [V.int 4, .int 4, .int 4, .int 4, .int 2, .int 6]) nt2
    have st9 : Strm (upd H8 t2 (.lst [V.int 4, .int 4, .int 4, .int 4, .int 2, .int 6])) s := by obtain ⟨x, y, w, e⟩ := st8; exact ⟨x, y, w, s9 _ _ e⟩
    refine ⟨_, rfl, t2, _, _, .int (ms : Int), rfl, rfl, sl_map upd_same, hms, s, nm, xs, ms, rfl, st9, s9 _ _ en8, nmS, by omega, by omega, ms1, by omega, nn, fun H10 sc zs k10 nsc st10 esc nnz sub lz1 lz2 => ?_⟩
    have S10 : Same H H10 := keep_same (S8.trans s9) k10 ns0
    have en10 : H10 nm = some (.lst (xs.map V.str)) := k10 _ _ nmS (s9 _ _ en8)
    have ep10 : H10 pl = some (.lst (ps.map V.int)) := k10 _ _ plS (s9 _ _ ep8)
    clear st10 k10 st9 s9 st8 en8 ep8 S8
    refine ⟨by show 6 ≤ sizeLine; decide, fun t3 nt3 => ?_⟩
    have s11 := same_new (o := HO.lst [V.int 3, .int 3, .int 3, .int 3, .int 9, .int 2]) nt3
    refine ⟨_, rfl, t3, _, _, .int (km : Int), rfl, rfl, sl_map upd_same, hkm, ?_⟩
    obtain ⟨H11, e11, S11, en11, ep11, esc11⟩ : ∃ H11, upd H10 t3 (.lst [V.int 3, .int 3, .int 3, .int 3, .int 9, .int 2]) = H11 ∧ Same H H11 ∧ H11 nm = some (.lst (xs.map V.str)) ∧ H11 pl = some (.lst (ps.map V.int)) ∧ H11 sc = some (.lst (zs.map V.str)) := ⟨_, rfl, S10.trans s11, s11 _ _ en10, s11 _ _ ep10, s11 _ _ esc⟩
    rw [e11]
    clear e11 s11 nt3 en10 ep10 esc S10
    refine ⟨_, rfl, a, cs, 1, rfl, S11.seq ha, fun H12 p1 s12 np1 st12 => ⟨_, rfl, _, rfl, _, rfl, p1, nm, pl, xs, ps, km, rfl, st12, s12 _ _ en11, s12 _ _ ep11, (ne_some' en11 np1).symm, (ne_some' ep11 np1).symm, so, by omega, by omega, by omega, fun H13 l1 ds1 k13 nl1 st13 dm13 keys1 ok1 _ => ?_⟩⟩
    have s13 : Same H11 H13 := keep_same s12 k13 np1
    have S13 := S11.trans s13
    have en13 := s13 _ _ en11
    have ep13 := s13 _ _ ep11
    clear st13 k13 st12 s12
    refine ⟨_, rfl, a, cs, 2, rfl, S13.seq ha, fun H14 p2 s14 np2 st14 => ⟨_, rfl, _, rfl, _, rfl, p2, nm, pl, xs, ps, km, rfl, st14, s14 _ _ en13, s14 _ _ ep13, (ne_some' en13 np2).symm, (ne_some' ep13 np2).symm, so, by omega, by omega, by omega, fun H15 l2 ds2 k15 nl2 st15 dm15 keys2 ok2 _ => ?_⟩⟩
    have s15 : Same H13 H15 := keep_same s14 k15 np2
    have S15 := S13.trans s15
    have dn15 := dm13.same s15
    have ln1 : ds1.length ≤ 30 := by have := congrArg List.length keys1; rw [List.length_map] at this; omega
    have ln2 : ds2.length ≤ 30 := by have := congrArg List.length keys2; rw [List.length_map] at this; omega
    refine ⟨_, rfl, _, rfl, _, rfl, l1, ds1, rfl, dn15, ln1, by rw [keys1]; exact nn, fun H16 b1 N1 s16 nb1 sh1 => ?_⟩
    refine ⟨_, rfl, l2, ds2, rfl, dm15.same s16, ln2, by rw [keys2]; exact nn, fun H17 b2 N2 s17 nb2 sh2 => ⟨by show 4 ≤ sizeLine; decide, fun r nr => ?_⟩⟩
    have sr := same_new (o := HO.lst [V.ref pl, .ref sc, .ref b1, .ref b2]) nr
    have s18 := s15.trans (s16.trans (s17.trans sr))
    have mx : max km 1 = km := Nat.max_eq_left (by omega)
    obtain ⟨a1, a2, a3⟩ := box_of (k := km) (ns := zs) nb1.nd sh1 (fun x hx => by rw [keys1]; exact sub x hx) (fun d hd => ⟨(ok1 d hd).1, by have := (ok1 d hd).2.1; rwa [mx] at this⟩) (by omega)
    obtain ⟨c1, c2, c3⟩ := box_of (k := km) (ns := zs) nb2.nd sh2 (fun x hx => by rw [keys2]; exact sub x hx) (fun d hd => ⟨(ok2 d hd).1, by have := (ok2 d hd).2.1; rwa [mx] at this⟩) (by omega)
    exact q _ r pl sc b1 b2 ps zs N1 N2 (sdN N1) (sdN N2) km (S13.trans s18) ⟨upd_same, s18 _ _ ep13, so, by omega, by omega, s18 _ _ (s13 _ _ esc11), nnz, lz1, by omega, fun x hx => nm_aside (nms x (sub x hx)), nb1.toBu.same' (s17.trans sr), nb2.toBu.same' sr, a1, c1, a2, c2, a3, c3, Nat.le_trans (Nat.pow_le_pow_right km1 lz2) mk, km1, by omega⟩
end
end K22
set_option Elab.async false
set_option linter.all false
set_option maxRecDepth 100000
set_option maxHeartbeats 4000000
namespace K22
open PySem PySem.Spec PyProof.Rows L2 Cs CsX
theorem eqV_s (a b : Str) : eqV (.str a) (.str b) = decide (a = b) := by
  unfold eqV
  rw [Bool.eq_iff_iff]
  simp
theorem ix_of {ws : List Str} (nd : ws.Nodup) {x : Str} (hx : x ∈ ws) : ∃ j, ws[j]? = some x ∧ ∀ (m : Nat) (z : V), m < j → (ws.map V.str)[m]? = some z → eqV z (.str x) = false := by
  obtain ⟨j, hj⟩ := List.mem_iff_getElem?.mp hx
  refine ⟨j, hj, fun m z hm hz => ?_⟩
  rw [List.getElem?_map] at hz
  obtain ⟨y, hy, rfl⟩ := Option.map_eq_some_iff.mp hz
  rw [eqV_s]
  refine decide_eq_false fun e => ?_
  rw [e] at hy
  have := nd_ix nd hy hj
  omega
theorem paired_ints {K : PySem.W.Frag} {H : Hp} {n : Nat} : ∀ ks : List Int, Paired (EqV K H (n + 1)) (ks.map V.int) (ks.map V.int)
  | [] => .nil
  | k :: ks => .cons (.inl ⟨rfl, rfl⟩) (paired_ints ks)
theorem paired_strs {K : PySem.W.Frag} {H : Hp} {n : Nat} : ∀ ks : List Str, Paired (EqV K H (n + 1)) (ks.map V.str) (ks.map V.str)
  | [] => .nil
  | k :: ks => .cons (.inl ⟨rfl, rfl⟩) (paired_strs ks)
theorem keys_ent (L : List Ent) : (entK L).map (fun kv => kV kv.1) = (L.map (·.1)).map V.str := by
  unfold entK
  rw [List.map_map, List.map_map] <;> rfl
theorem feB_eq {Hs Lo : List (Int × Int)} {ns : List Str} {S : Str → List Int} {x : Str} {v : Int} (hx : x ∈ ns) (hv : v ∈ S x) {ms : List Int} (hm : ∀ v, v ∈ ms ↔ ∃ g, Inj Hs Lo ns S g ∧ g x = v) : feB Hs Lo ns (nar S x v) = decide (v ∈ ms) := by
  rw [Bool.eq_iff_iff, feB_iff, decide_eq_true_iff, hm v]
  constructor
  · rintro ⟨g, G⟩; exact ⟨g, G.wide hv, G.at_ hx⟩
  · rintro ⟨g, G, rfl⟩; exact ⟨g, G.nar⟩
theorem srt_filter {l : List Int} {p : Int → Bool} (h : Srt l) : Srt (l.filter p) := h.sublist List.filter_sublist
theorem sds_of {L : List Ent} {ns : List Str} {S : Str → List Int} (F : Fit L ns S) (h : ∀ g ∈ L, Srt g.2.2 ∧ g.2.2.length ≤ 30) : Sds ns S := by
  have key : ∀ x ∈ ns, Srt (S x) ∧ (S x).length ≤ 30 := fun x hx => by
    have hl := F x hx
    unfold look at hl
    obtain ⟨e, he, e2⟩ := Option.map_eq_some_iff.mp hl
    rw [← e2]; exact h e (getE_mem he).1
  exact ⟨fun x hx => (key x hx).1, fun x hx => (key x hx).2⟩
section
variable {P : Program} {w : World} {K : PySem.W.Frag} {mg : Str → Option Value} {base : Heap}
abbrev sBh : Stmt := topS 46
abbrev nBh : List Str := ["_law_rule", "_law_scope_here", "_law_rows", "_law_sides_here", "_law_asked", "_law_spoil", "_law_passed", "_law_name", "_law_told", "_law_met", "_law_row", "_law_value"]
theorem scBh : FnScope nBh ["_law_rule", "_law_scope_here", "_law_rows", "_law_sides_here", "_law_asked", "_law_spoil"] (defScope sBh) := ⟨rfl, rfl, rfl, by decide +kernel, rfl, by decide +kernel, by decide +kernel⟩
def spBh (C : Addr) : Sp := fun vs H Q _ => ∃ (p sc l b ak : Addr) (spoil : Bool) (ns as : List Str) (ls : List Lim3) (L : List Ent) (S : Str → List Int) (rs : List (Addr × List Int)), vs = [.ref p, .ref sc, .ref l, .ref b, .ref ak, .bl spoil] ∧ Ct C H p ns ls ∧ Sound ls ∧ ls.length ≤ 100 ∧ H sc = some (.lst (ns.map V.str)) ∧ RLs H l rs ∧ cont rs = rowsK ls S ns ∧ rs.length ≤ 65536 ∧ ns.Nodup ∧ ns.length ≤ 16 ∧ Bu H b L ∧ Fit L ns S ∧ (∀ g ∈ L, Srt g.2.2 ∧ g.2.2.length ≤ 30) ∧ H ak = some (.lst (as.map V.str)) ∧ (∀ x ∈ as, x ∈ ns) ∧
  ∀ H', Same H H' → Q (.bl true) H'
theorem ok_Bh {f C f1 f2 f3 f5 f6 f7 f8 : Addr} {fd fd1 fd2 fd3 fd5 fd6 fd7 fd8 : FuncData} (F : Fun K "_law_box_holds" "_law_box_holds" sBh f fd) (B : Bt mg) (T : Kls K mg "Counts" C cF)
    (Ccp : Call P w K mg base 1 "_law_copied" f1 fd1 ["_law_sides_here"] spCopy) (Su : CallM P w K mg base 6 C "supported" f2 fd2 ["self", "box", "name"] (spSpd C))
    (Cis : Call P w K mg base 2 "_law_is_side" f3 fd3 ["_law_actual"] spIsSide) (Wi : CallM P w K mg base 6 C "witness" f5 fd5 ["self", "box"] (spWit C))
    (CSv : Call P w K mg base 2 "_law_same_values" f6 fd6 ["_law_actual", "_law_expected"] spSV) (CNmd : Call P w K mg base 1 "_law_named" f8 fd8 ["_law_scope_here", "_law_row"] spNmd) (Csa : Call P w K mg base 3 "_law_same_sides" f7 fd7 ["_law_actual", "_law_expected"] spSame) :
    FnOk P w K mg base CX0 7 f fd ["_law_rule", "_law_scope_here", "_law_rows", "_law_sides_here", "_law_asked", "_law_spoil"] (spBh C) := by
  refine F.ok scBh (fun vs H Q E h => ?_) (fun cdv A outer s H vs Q E hr h => ?_)
  · obtain ⟨p, sc, l, b, ak, spoil, ns, as, ls, L, S, rs, rfl, _⟩ := h
    rfl
  · obtain ⟨p, sc, l, b, ak, spoil, ns, as, ls, L, S, rs, rfl, ul, snd, l100, es, rl, eu, lrs, nn, n16, bx, fit, so, ea, sub, q⟩ := h
    have hu := hu_of hr
    have nd := scBh.nd
    refine ⟨_, pss_cons (ps_set (i := 6) nd rfl (.inl rfl) (pe_call Ccp.ok (hr.mono (by decide)) (by rfl) Ccp.at_ Ccp.kp Ccp.bd .nil pass0 (pa_cons (pv 3) pa_nil)))
      (pss_cons (ps_for PassesOwn.never rfl (pi_list (pv 4)) (pg_name (i := 7) nd rfl (.inr rfl))
        (pss_cons (ps_set (i := 8) nd rfl (.inl rfl) (pe_meth (pv 0) T.cl Su.mt Su.ok (hr.mono (by decide)) Su.bd .nil pass0 (pa_cons (pv 6) (pa_cons (pv 7) pa_nil))))
          (pss_cons (ps_set (i := 9) nd rfl (.inr rfl) (pe_lc (own := [("_law_row", 10)]) (g := gName 10) (tt := tYes) (te := tOp (rIxL K) (tVar 10) (tBM K "list" (rIndex K) (tVar 1) (tCons (tVar 7) tNil))) rfl nd (pi_list (pv 2)) (blkOk_by (N := nBh) (sc := defScope sBh) (by decide +kernel)) (fun _ _ _ _ _ => pg_name (i := 10) nd rfl (.inl rfl)) (fun _ _ _ _ _ => pts_nil)
              (fun _ _ _ _ _ => (pe_ix (r := rIxL K) ix_list (pv 10) (pe_bm PySem.F.plainAttrs_list PySem.F.slot_list_index PySem.F.type_list_index mt_index (pv 1) (pa_cons (pv 7) pa_nil)) (fun _ _ => rfl)))))
          (pss_cons (ps_if (PW.pt (pw_or (pt_not (pt_val (pe_call Cis.ok (hr.mono (by decide)) (by rfl) Cis.at_ Cis.kp Cis.bd .nil pass0 (pa_cons (pv 8) pa_nil)))) (pw_or1 (pt_cmpR (op_neV hr.units) (pv 8) (pe_lc (own := [("_law_value", 11)]) (g := gName 11) (tt := _) (te := tVar 11) rfl nd (pi_list (pe_dget hu (pv 3) (pv 7) (fun _ _ => rfl))) (blkOk_by (N := nBh) (sc := defScope sBh) (by decide +kernel)) (fun _ _ _ _ _ => pg_name (i := 11) nd rfl (.inl rfl)) (fun _ _ _ _ _ => pts_one (pt_cmpR (r := rIn K false) op_in_seq (pv 11) (pv 9) rfl))
        (fun _ _ _ _ _ => (pv 11))) rfl))))
            (pss_one (ps_ret pe_bl))
            pss_nil)
          (pss_one (ps_if (pt_val (pv 5))
            (pss_one (ps_expr (pe_bm PySem.F.plainAttrs_list PySem.F.slot_list_append PySem.F.type_list_append mt_append (pv 8) (pa_cons pe_int pa_nil))))
            pss_nil))))))
      (pss_cons (ps_set (i := 8) nd rfl (.inl rfl) (pe_meth (pv 0) T.cl Wi.mt Wi.ok (hr.mono (by decide)) Wi.bd .nil pass0 (pa_cons (pv 6) pa_nil)))
      (pss_cons (ps_if (PW.pt (pw_and (pt_cmpR op_eq (pe_callB call_len_seq (by rfl) B.len PySem.boot_len (pa_cons (pv 2) pa_nil)) pe_int rfl) (pw_and1 (pt_cmp (pc_notN (pv 8))))))
        (pss_one (ps_ret pe_bl))
        pss_nil)
      (pss_cons (ps_if (PW.pt (pw_and (pt_cmpR op_gt (pe_callB call_len_seq (by rfl) B.len PySem.boot_len (pa_cons (pv 2) pa_nil)) pe_int rfl) (pw_and1 (pt_not (pt_val (pe_call CSv.ok (hr.mono (by decide)) (by rfl) CSv.at_ CSv.kp CSv.bd .nil pass0 (pa_cons (pv 8) (pa_cons (pe_call CNmd.ok (hr.mono (by decide)) (by rfl) CNmd.at_ CNmd.kp CNmd.bd .nil pass0 (pa_cons (pv 1) (pa_cons (pe_ix ix_list (pv 2) pe_int (fun _ _ => rfl)) pa_nil))) pa_nil))))))))
        (pss_one (ps_ret pe_bl))
        pss_nil)
      (pss_cons (ps_if (PW.pt (pw_and (pt_cmpR op_gt (pe_callB call_len_seq (by rfl) B.len PySem.boot_len (pa_cons (pv 2) pa_nil)) pe_int rfl) (pw_and1 (pt_val (pv 5)))))
        (pss_one (ps_expr (pe_dclear (pv 8))))
        pss_nil)
      (pss_one (ps_ret (pe_and (pe_call Csa.ok (hr.mono (by decide)) (by rfl) Csa.at_ Csa.kp Csa.bd .nil pass0 (pa_cons (pv 6) (pa_cons (pv 3) pa_nil))) (pe_one (pe_cmpR (op_eqV hr.units) (pe_callTy (call_listD rfl) (by rfl) B.list PyProof.Rows.boot_list (pa_cons (pv 6) pa_nil)) (pe_callTy (call_listD rfl) (by rfl) B.list PyProof.Rows.boot_list (pa_cons (pv 3) pa_nil)) rfl)))))))))), ?_⟩
    refine ⟨_, rfl, b, L, rfl, bx, fun H2 d M s2 nbM sh => ?_⟩
    have fitM : Fit M ns S := fun x hx => (shape_same sh x).trans (fit x hx)
    have sd := sds_of fit so
    have rl2 := rl.same s2
    have rin : ∀ r ∈ rs, ∃ g, Inj (hiOf ls) (loOf ls) ns S g ∧ r.2 = ns.map g := fun r hr => (rowsK_iff snd nn r.2).mp (by rw [← eu]; exact List.mem_map.mpr ⟨r, hr, rfl⟩)
    have rof : ∀ g, Inj (hiOf ls) (loOf ls) ns S g → ∃ r ∈ rs, r.2 = ns.map g := fun g G => by
      have m : ns.map g ∈ cont rs := by rw [eu]; exact (rowsK_iff snd nn _).mpr ⟨g, G, rfl⟩
      obtain ⟨r, hr, e⟩ := List.mem_map.mp m
      exact ⟨r, hr, e⟩
    refine ⟨_, rfl, ak, rfl, ⟨_, sl_map (s2 _ _ ea)⟩, for_list (xs := as.map V.str) (fun i σ H' => ∃ (y7 y8 y9 : Option V), σ = [some (.ref p), some (.ref sc), some (.ref l), some (.ref b), some (.ref ak), some (.bl spoil), some (.ref d), y7, y8, y9, none, none] ∧ Same H2 H')
      ⟨none, none, none, rfl, fun _ _ h => h⟩ (fun i σ H' _ h => by obtain ⟨_, _, _, _, h⟩ := h; exact sl_map (h _ _ (s2 _ _ ea))) ?_ ?_⟩
    · rintro i x0 σ H3 hx0 ⟨y7, y8, y9, rfl, s3⟩
      rw [List.getElem?_map] at hx0
      obtain ⟨x, hx1, rfl⟩ := Option.map_eq_some_iff.mp hx0
      have hx := sub x (List.mem_of_getElem? hx1)
      have S3 := s2.trans s3
      have bM3 := nbM.toBu.same' s3
      obtain ⟨dx, fs, hp, _, _, _, hsu, _⟩ := ct_self (ul.same S3)
      refine ⟨_, rfl, p, dx, _, rfl, hp, hsu, _, rfl, _, rfl, p, d, x, ns, ls, M, S, rfl, ul.same S3, snd, l100, nn, by omega, bM3, fitM, sd, hx, fun H4 tl s4 ntl etl => ?_⟩
      have S4 := S3.trans s4
      have s24 := s3.trans s4
      have rl4 := rl2.same s24
      have es4 := S4 _ _ es
      obtain ⟨kx, hkx, first⟩ := ix_of nn hx
      refine ⟨_, rfl, l, rfl, ⟨_, sl_map rl4.lst⟩, fun Z nZ => lc_list (xs := rs.map fun e => V.ref e.1) (fun j H' => Same H4 H' ∧ ∃ ms : List Int, H' Z = some (.lst (ms.map V.int)) ∧ ms.length = j ∧ ∀ v, v ∈ ms ↔ ∃ r ∈ rs.take j, ∃ g, r.2 = ns.map g ∧ g x = v) ⟨same_new nZ, [], upd_same, rfl, fun v => ⟨(fun h => nomatch h), fun ⟨_, h, _⟩ => nomatch h⟩⟩ (fun j H' _ h => sl_map (h.1 _ _ rl4.lst)) ?_ ?_⟩
      · rintro j x0 H5 hx0 ⟨s5, ms, eZ, lms, mem⟩
        rw [List.getElem?_map] at hx0
        obtain ⟨r, hr1, rfl⟩ := Option.map_eq_some_iff.mp hx0
        have rm := List.mem_of_getElem? hr1
        have hj := (List.getElem?_eq_some_iff.mp hr1).1
        obtain ⟨g, G, eg⟩ := rin r rm
        have hv : (r.2.map V.int)[kx]? = some (.int (g x)) := by rw [eg, List.getElem?_map, List.getElem?_map, hkx] <;> rfl
        have es5 := s5 _ _ es4
        refine ⟨rfl, _, rfl, _, rfl, .inl ⟨rfl, _, sl_map es5⟩, _, rfl, sc, _, .str x, kx, .str x, rfl, rfl, sl_map es5, rfl, flat_strs _, by rw [List.getElem?_map, hkx] <;> rfl, by rw [eqV_s]; exact decide_eq_true rfl, first, r.1, _, _, .int (g x), rfl, rfl, sl_map (s5 _ _ (rl4.row r rm)), atI_nat (j := kx) hv, _, eZ, by rw [List.length_map]; exact small1m (by omega), same_at s5 nZ, ms ++ [g x], by rw [upd_same, List.map_append] <;> rfl, by rw [List.length_append, lms] <;> rfl, fun v => ?_⟩
        rw [List.mem_append, mem v, take_snoc hr1]
        constructor
        · rintro (⟨r', h1, h2⟩ | h)
          · exact ⟨r', List.mem_append_left _ h1, h2⟩
          · exact ⟨r, List.mem_append_right _ (List.mem_singleton.mpr rfl), g, eg, (List.mem_singleton.mp h).symm⟩
        · rintro ⟨r', h1, g', h2, h3⟩
          rcases List.mem_append.mp h1 with h | h
          · exact .inl ⟨r', h, g', h2, h3⟩
          · rw [List.mem_singleton.mp h, eg] at h2
            right
            rw [← h3, ← List.map_inj_left.mp h2 x hx]
            exact List.mem_singleton.mpr rfl
      rintro H5 ⟨s5, ms, eZ, lms, mem⟩
      rw [List.length_map, List.take_length] at mem
      have memS : ∀ v, v ∈ ms ↔ ∃ g, Inj (hiOf ls) (loOf ls) ns S g ∧ g x = v := fun v => by
        rw [mem v]
        constructor
        · rintro ⟨r, hr, g, h1, h2⟩
          obtain ⟨g', G, h3⟩ := rin r hr
          refine ⟨g', G, ?_⟩
          rw [← h2]
          exact (List.map_inj_left.mp (h1.symm.trans h3) x hx).symm
        · rintro ⟨g, G, h⟩
          obtain ⟨r, hr, e⟩ := rof g G
          exact ⟨r, hr, g, e, h⟩
      have S5 := S4.trans s5
      have etl5 := s5 _ _ etl
      have eqf : ((S x).filter fun v => feB (hiOf ls) (loOf ls) ns (nar S x v)) = (S x).filter fun v => decide (v ∈ ms) := List.filter_congr fun v hv => feB_eq hx hv memS
      refine ⟨_, rfl, tl, _, rfl, etl5, srt_filter (sd.srt x hx), Nat.le_trans (List.length_filter_le _ _) (by have := sd.few x hx; omega), fun H6 s6 => ⟨true, rfl, iteF ?_⟩⟩
      have S6 := S5.trans s6
      obtain ⟨ent, _, ge⟩ := fit.at_ (b := b) hx
      refine ⟨_, rfl, _, rfl, _, rfl, b, .ref ent.2.1, rfl, (ge (bx.same' S6)).1, ent.2.1, rfl, ⟨_, sl_map (ge (bx.same' S6)).2⟩, fun Y nY => lc_list (xs := (S x).map V.int) (fun j H' => Same H6 H' ∧ H' Y = some (.lst ((((S x).take j).filter fun v => decide (v ∈ ms)).map V.int))) ⟨same_new nY, upd_same⟩ (fun j H' _ h => sl_map (ge (bx.same' (S6.trans h.1))).2) ?_ ?_⟩
      · rintro j v0 H7 hv0 ⟨s7, eY⟩
        rw [List.getElem?_map] at hv0
        obtain ⟨v, hv, rfl⟩ := Option.map_eq_some_iff.mp hv0
        have fl : (((S x).take j).filter fun v => decide (v ∈ ms)).length ≤ (S x).length := Nat.le_trans (List.length_filter_le _ _) (by rw [List.length_take]; omega)
        have fx := sd.few x hx
        refine ⟨rfl, _, rfl, _, rfl, Z, _, rfl, .inl (sl_map (s7 _ _ (s6 _ _ eZ))), rfl, flat_ints _, ?_⟩
        rw [if_neg (by decide), in_ints]
        refine ⟨_, rfl, ite_both (fun c => ⟨_, rfl, _, eY, by rw [List.length_map]; exact small1000 (by omega), same_at s7 nY, ?_⟩) fun c => ⟨s7, ?_⟩⟩
        · rw [upd_same, filtI_snoc hv, if_pos c, List.map_append] <;> rfl
        · rw [filtI_snoc hv, if_neg (by rw [c]; decide), List.append_nil]; exact eY
      rintro H7 ⟨s7, eY⟩
      rw [List.length_map, List.take_length, ← eqf] at eY
      have etl7 := s7 _ _ (s6 _ _ etl5)
      refine ⟨tl, Y, _, _, rfl, rfl, sl_map etl7, sl_map eY, ⟨1, by decide, paired_ints _⟩, false, rfl, iteF ?_⟩
      have s37 := s5.trans (s6.trans s7)
      have s27 := s24.trans s37
      have ntl2 : H2 tl = none := s3.free ntl
      refine ⟨_, rfl, spoil, rfl, ite_both (fun _ => ?_) fun _ => ⟨_, _, _, rfl, s27⟩⟩
      refine ⟨_, rfl, .inl ⟨rfl, _, sl_map etl7⟩, tl, _, _, rfl, rfl, etl7, ?_, _, _, _, rfl, same_at s27 ntl2⟩
      have h1 := List.length_filter_le (fun v => feB (hiOf ls) (loOf ls) ns (nar S x v)) (S x)
      have h2 := sd.few x hx
      rw [List.length_map]; exact small1000 (by omega)
    · rintro σ H3 ⟨y7, y8, y9, rfl, s3⟩
      have S3 := s2.trans s3
      have bM3 := nbM.toBu.same' s3
      obtain ⟨dx, fs, hp, _, _, hwi, _, _⟩ := ct_self (ul.same S3)
      refine ⟨_, rfl, p, dx, _, rfl, hp, hwi, _, rfl, p, d, ns, ls, M, S, rfl, ul.same S3, snd, l100, nn, by omega, bM3, fitM, sd, fun H4 v s4 fr => ?_⟩
      have S4 := S3.trans s4
      have s34 := s3.trans s4
      have rl4 := rl2.same s34
      have es4 := S4 _ _ es
      have ll : (rs.map fun e => V.ref e.1).length = rs.length := List.length_map _
      cases fr with
      | no n =>
        have e0 : rs = [] := by
          cases rs with
          | nil => rfl
          | cons r t =>
            obtain ⟨g, G, _⟩ := rin r List.mem_cons_self
            exact absurd ⟨g, G⟩ n
        have dz : decide (V.int (((rs.map fun e => V.ref e.1).length : Nat) : Int) = V.int 0) = true := by rw [e0]; rfl
        have dg : decide ((0 : Int) < ((rs.map fun e => V.ref e.1).length : Nat)) = false := by rw [e0]; rfl
        have s26 := s34
        refine ⟨_, rfl, l, _, rfl, .inl (sl_map rl4.lst), rfl, _, rfl, ite_both (fun _ => ⟨_, rfl, _, rfl, ite_both (fun c => absurd c (by simp)) fun _ => ?_⟩) fun c => by rw [dz] at c; cases c⟩
        refine ⟨_, rfl, l, _, rfl, .inl (sl_map rl4.lst), _, _, rfl, rfl, _, rfl, ite_both (fun c => by rw [dg] at c; cases c) fun _ => iteF ?_⟩
        refine ⟨_, rfl, l, _, rfl, .inl (sl_map rl4.lst), _, _, rfl, rfl, _, rfl, ite_both (fun c => by rw [dg] at c; cases c) fun _ => iteF ?_⟩
        have SE := s2.trans s26
        have keysE : L.map (·.1) = M.map (·.1) := (shape_keys sh).symm
        refine ⟨_, rfl, _, rfl, d, b, M, L, rfl, nbM.toBu.same' s26, bx.same' SE, fun x => shape_same sh x, fun g hg => ?_, fun H8 s8 => ⟨true, rfl, ?_⟩⟩
        · have m : (g.1, g.2.2) ∈ shape M := List.mem_map.mpr ⟨g, hg, rfl⟩
          rw [sh] at m
          obtain ⟨e, he, e2⟩ := List.mem_map.mp m
          have h1 := so e he
          rw [show e.2.2 = g.2.2 from (Prod.mk.inj e2).2] at h1
          exact ⟨h1.1, by omega⟩
        have S8 := SE.trans s8
        refine ⟨_, rfl, d, _, rfl, .inl (s8 _ _ (s26 _ _ nbM.un)), fun Z1 nZ1 => ?_⟩
        have t1 := same_new (o := HO.lst ((entK M).map fun kv => kV kv.1)) nZ1
        refine ⟨_, rfl, b, _, rfl, .inl (t1 _ _ (bx.same' S8).un), fun Z2 nZ2 => ?_⟩
        have t2 := t1.trans (same_new (o := HO.lst ((entK L).map fun kv => kV kv.1)) nZ2)
        have e1 := (same_new (o := HO.lst ((entK L).map fun kv => kV kv.1)) nZ2) _ _ (upd_same (H := H8) (a := Z1) (o := HO.lst ((entK M).map fun kv => kV kv.1)))
        exact ⟨1, by decide, .inl ⟨Z1, Z2, _, _, rfl, rfl, sl_map e1, sl_map upd_same, by rw [keys_ent, keys_ent, keysE]; exact paired_strs _⟩, q _ (S8.trans t2)⟩
      | least y h ny ey inj le =>
        obtain ⟨r0, hr0, er0⟩ := rof h inj
        obtain ⟨q0, qs, eq0⟩ : ∃ q0 qs, rs = q0 :: qs := by
          cases rs with
          | nil => cases hr0
          | cons a b => exact ⟨a, b, rfl⟩
        have q0m : q0 ∈ rs := by rw [eq0]; exact List.mem_cons_self
        obtain ⟨g0, G0, eg0⟩ := rin q0 q0m
        have row : ns.map h = ns.map g0 := by
          rw [← er0, ← eg0]
          rw [eq0] at hr0
          rcases List.mem_cons.mp hr0 with z | z
          · rw [z]
          · have pw := rowsK_sorted (ls := ls) (S := S) nn sd.srt
            rw [← eu, eq0] at pw
            have h1 : lxLt q0.2 r0.2 = true := (List.pairwise_cons.mp pw).1 r0.2 (List.mem_map.mpr ⟨r0, z, rfl⟩)
            rw [er0, eg0, le g0 G0] at h1
            cases h1
        have same : (ns.map fun x => (x, h x)) = ns.map fun x => (x, g0 x) := List.map_congr_left fun x hx => by rw [List.map_inj_left.mp row x hx]
        rw [same] at ey
        have hq : (rs.map fun e => V.ref e.1)[0]? = some (.ref q0.1) := by rw [eq0] <;> rfl
        have len : 0 < (rs.map fun e => V.ref e.1).length := by rw [eq0]; exact Nat.succ_pos _
        have dz : decide (V.int (((rs.map fun e => V.ref e.1).length : Nat) : Int) = V.int 0) = false := decide_eq_false fun z => by have := V.int.inj z; omega
        have dg : decide ((0 : Int) < ((rs.map fun e => V.ref e.1).length : Nat)) = true := decide_eq_true (by omega)
        have nk : ((ns.map fun x => (x, g0 x)).map (·.1)).Nodup := by rw [List.map_map]; exact (List.map_id ns).symm ▸ nn
        have lk : (ns.map fun x => (x, g0 x)).length ≤ 40 := by rw [List.length_map]; omega
        refine ⟨_, rfl, l, _, rfl, .inl (sl_map rl4.lst), rfl, _, rfl, ite_both (fun c => by rw [dz] at c; cases c) fun _ => iteF ?_⟩
        have er4 := rl4.row q0 q0m
        rw [eg0] at er4
        refine ⟨_, rfl, l, _, rfl, .inl (sl_map rl4.lst), _, _, rfl, rfl, _, rfl, ite_both (fun _ => ?_) fun c => by rw [dg] at c; cases c⟩
        refine ⟨_, rfl, _, rfl, _, rfl, l, _, _, .ref q0.1, rfl, rfl, sl_map rl4.lst, atI_nat (j := 0) hq, sc, q0.1, ns, g0, rfl, es4, er4, nn, by omega, fun H5 d2 s5 nd2 ed2 => ?_⟩
        have ey5 := s5 _ _ ey
        have yd : y ≠ d2 := fun z => by rw [z, nd2] at ey; cases ey
        refine ⟨y, d2, _, _, rfl, ⟨ey5, nk, lk⟩, ⟨ed2, nk, lk⟩, fun _ => rfl, yd, fun H6 s6 => ⟨true, rfl, iteF ?_⟩⟩
        have s25 := s34.trans (s5.trans s6)
        have ey6 := s6 _ _ ey5
        have ny2 : H2 y = none := s3.free ny
        refine ⟨_, rfl, l, _, rfl, .inl (sl_map ((s5.trans s6) _ _ rl4.lst)), _, _, rfl, rfl, _, rfl, ite_both (fun _ => ?_) fun c => by rw [dg] at c; cases c⟩
        refine ⟨_, rfl, spoil, rfl, ite_both (fun _ => ?_) fun _ => ?_⟩
        · refine ⟨_, rfl, .inr (.inr (.inl ⟨rfl, .inl ⟨_, ey6⟩⟩)), y, _, rfl, rfl, ey6, ?_⟩
          have s26 := same_at (o := HO.dK []) s25 ny2
          have SE := s2.trans s26
          have keysE : L.map (·.1) = M.map (·.1) := (shape_keys sh).symm
          refine ⟨_, rfl, _, rfl, d, b, M, L, rfl, nbM.toBu.same' s26, bx.same' SE, fun x => shape_same sh x, fun g hg => ?_, fun H8 s8 => ⟨true, rfl, ?_⟩⟩
          · have m : (g.1, g.2.2) ∈ shape M := List.mem_map.mpr ⟨g, hg, rfl⟩
            rw [sh] at m
            obtain ⟨e, he, e2⟩ := List.mem_map.mp m
            have h1 := so e he
            rw [show e.2.2 = g.2.2 from (Prod.mk.inj e2).2] at h1
            exact ⟨h1.1, by omega⟩
          have S8 := SE.trans s8
          refine ⟨_, rfl, d, _, rfl, .inl (s8 _ _ (s26 _ _ nbM.un)), fun Z1 nZ1 => ?_⟩
          have t1 := same_new (o := HO.lst ((entK M).map fun kv => kV kv.1)) nZ1
          refine ⟨_, rfl, b, _, rfl, .inl (t1 _ _ (bx.same' S8).un), fun Z2 nZ2 => ?_⟩
          have t2 := t1.trans (same_new (o := HO.lst ((entK L).map fun kv => kV kv.1)) nZ2)
          have e1 := (same_new (o := HO.lst ((entK L).map fun kv => kV kv.1)) nZ2) _ _ (upd_same (H := H8) (a := Z1) (o := HO.lst ((entK M).map fun kv => kV kv.1)))
          exact ⟨1, by decide, .inl ⟨Z1, Z2, _, _, rfl, rfl, sl_map e1, sl_map upd_same, by rw [keys_ent, keys_ent, keysE]; exact paired_strs _⟩, q _ (S8.trans t2)⟩
        · have s26 := s25
          have SE := s2.trans s26
          have keysE : L.map (·.1) = M.map (·.1) := (shape_keys sh).symm
          refine ⟨_, rfl, _, rfl, d, b, M, L, rfl, nbM.toBu.same' s26, bx.same' SE, fun x => shape_same sh x, fun g hg => ?_, fun H8 s8 => ⟨true, rfl, ?_⟩⟩
          · have m : (g.1, g.2.2) ∈ shape M := List.mem_map.mpr ⟨g, hg, rfl⟩
            rw [sh] at m
            obtain ⟨e, he, e2⟩ := List.mem_map.mp m
            have h1 := so e he
            rw [show e.2.2 = g.2.2 from (Prod.mk.inj e2).2] at h1
            exact ⟨h1.1, by omega⟩
          have S8 := SE.trans s8
          refine ⟨_, rfl, d, _, rfl, .inl (s8 _ _ (s26 _ _ nbM.un)), fun Z1 nZ1 => ?_⟩
          have t1 := same_new (o := HO.lst ((entK M).map fun kv => kV kv.1)) nZ1
          refine ⟨_, rfl, b, _, rfl, .inl (t1 _ _ (bx.same' S8).un), fun Z2 nZ2 => ?_⟩
          have t2 := t1.trans (same_new (o := HO.lst ((entK L).map fun kv => kV kv.1)) nZ2)
          have e1 := (same_new (o := HO.lst ((entK L).map fun kv => kV kv.1)) nZ2) _ _ (upd_same (H := H8) (a := Z1) (o := HO.lst ((entK M).map fun kv => kV kv.1)))
          exact ⟨1, by decide, .inl ⟨Z1, Z2, _, _, rfl, rfl, sl_map e1, sl_map upd_same, by rw [keys_ent, keys_ent, keysE]; exact paired_strs _⟩, q _ (S8.trans t2)⟩
end
end K22
set_option Elab.async false
set_option linter.all false
set_option maxRecDepth 100000
set_option maxHeartbeats 4000000
/-! != of two tuples of the same ints and texts -/
namespace Cs
open PySem PySem.Spec PyProof.Rows L2
open AutoSeq1 (wpAny_loadPart')
open MeetsSeq MeetsSeq2 MeetsSeq3 SeqRoads2 SeqAt
def simpV : V → Prop
  | .int _ => True
  | .str _ => True
  | _ => False
def rNeTf (K : PySem.W.Frag) : R2 := fun x y H Q => ∃ a b xs, x = .ref a ∧ y = .ref b ∧ SqT K H a xs ∧ SqT K H b xs ∧ (∀ v ∈ xs, simpV v) ∧ Q (.bl false) H
theorem simp_at {A : Around} {s : Shared} : ∀ {xs : List V} {us ws : List Value}, Vals xs us → Vals xs ws → (∀ v ∈ xs, simpV v) → ∀ j (h1 : j < us.length) (h2 : j < ws.length), EqAt A s us[j] ws[j] true := by
  intro xs us ws r1 r2 hs j h1 h2
  have hx : xs[j]? = some (xs[j]'(by rw [r1.length]; exact h1)) := List.getElem?_eq_getElem _
  generalize xs[j]'(by rw [r1.length]; exact h1) = x at hx
  obtain ⟨u, hu, ru⟩ := r1.get hx
  obtain ⟨v, hv, rv⟩ := r2.get hx
  rw [List.getElem?_eq_getElem h1] at hu
  rw [List.getElem?_eq_getElem h2] at hv
  rw [Option.some.inj hu, Option.some.inj hv]
  have h0 := hs x (List.mem_of_getElem? hx)
  cases x with
  | int i =>
    obtain ⟨t, rfl⟩ := ru
    obtain ⟨u, rfl⟩ := rv
    have := EqAt.int_int (A := A) (s := s) i t i u
    simpa using this
  | str i =>
    obtain ⟨t, rfl⟩ := ru
    obtain ⟨u, rfl⟩ := rv
    have := EqAt.str_str (A := A) (s := s) i t i u
    simpa using this
  | _ => exact False.elim h0
theorem op_neTf {X : Cx} (hu : X.A.units + 64 < cLine) : OpR X (compareOp .NotEq) (rNeTf X.K) := by
  intro pins s σ H x y v u Q I rx ry h
  obtain ⟨a, b, xs, rfl, rfl, ha, hb, fl, q⟩ := h
  cases (show v = Value.ref a from rx)
  cases (show u = Value.ref b from ry)
  obtain ⟨its, r, e, z⟩ := I.tuple ha
  obtain ⟨its2, r2, e2, z2⟩ := I.tuple hb
  obtain ⟨⟨c1, d1, x1, s1⟩, o1, e1, n, f1⟩ := id e
  obtain ⟨⟨c2, d2, x2, s2⟩, o2, e2', m, f2⟩ := id e2
  simp only at e1 f1 e2' f2
  subst e1 f1 e2' f2
  have ta : s.TypeIs (.ref a) "tuple" := ⟨_, o1, rfl⟩
  have tc : s.TypeIs (.ref b) "tuple" := ⟨_, o2, rfl⟩
  have hsz : its.toArray.size = its2.toArray.size := by rw [List.size_toArray, List.size_toArray, ← r.length, ← r2.length]
  have M := tuple_neAt a b its.toArray its2.toArray n m d1 d2 s1 s2 fun _ => true
  refine wpAny_richCompare_same_room (op := .NotEq) ta tc F.slot_tuple_ne (call_meets F.slot_tuple_ne ta F.entry_tuple_ne (F.args_tuple_ne_2 _ _) M
    ⟨o1, o2, fun j h1 h2 => ?_, ?_⟩) (by omega)
  · have := simp_at (A := X.A.in1) (s := s) r r2 fl j (by simpa using h1) (by simpa using h2)
    simpa using this
  · have e : (!((List.range (min its.toArray.size its2.toArray.size)).all (fun _ => true) && its.toArray.size == its2.toArray.size)) = false := by rw [hsz]; simp
    rw [e]
    exact ⟨(fun x => nomatch x), ⟨.bl false, H, I, rfl, q⟩⟩
end Cs
set_option Elab.async false
set_option linter.all false
set_option maxRecDepth 100000
set_option maxHeartbeats 4000000
namespace K22
open PySem PySem.Spec PyProof.Rows L2 Cs CsX
section
variable {P : Program} {w : World} {K : PySem.W.Frag} {mg : Str → Option Value} {base : Heap}
abbrev sSl : Stmt := topS 42
abbrev nSl : List Str := ["_law_actual", "_law_entries_here", "_law_k", "_law_number"]
theorem scSl : FnScope nSl ["_law_actual", "_law_entries_here"] (defScope sSl) := ⟨rfl, rfl, rfl, by decide +kernel, rfl, by decide +kernel, by decide +kernel⟩
def spSl : Sp := fun vs H Q _ => ∃ (u l : Addr) (fs es : List LmE), vs = [.ref u, .ref l] ∧ H u = some (.tup (fs.map fun e => V.ref e.1)) ∧ LmT H fs ∧ H l = some (.lst (es.map fun e => V.ref e.1)) ∧ LmT H es ∧ fs.map (·.2) = es.map (·.2) ∧ es.length ≤ 100 ∧ Q (.bl true) H
theorem ok_Sl {f f0 : Addr} {fd fd0 : FuncData} (F : Fun K "_law_same_limits" "_law_same_limits" sSl f fd) (B : Bt mg) (ztuple : mg "tuple" = none) (Cii : Call P w K mg base 1 "_law_is_integer" f0 fd0 ["_law_actual"] spIsInt) :
    FnOk P w K mg base CX0 2 f fd ["_law_actual", "_law_entries_here"] spSl := by
  refine F.ok scSl (fun vs H Q E h => ?_) (fun cdv A outer s H vs Q E hr h => ?_)
  · obtain ⟨u, l, fs, es, rfl, _⟩ := h
    rfl
  · obtain ⟨u, l, fs, es, rfl, eu, lf, el, lt, cf, few, q⟩ := h
    have hu := hu_of hr
    have nd := scSl.nd
    refine ⟨_, pss_cons (ps_if (PW.pt (pw_or (pt_not (pt_val (pe_callB call_isi (by rfl) B.isi PyProof.Rows.boot_isinstance (pa_cons (pv 0) (pa_cons (pe_bltn (by rfl) ztuple PyProof.Rows.boot_tuple (v := .ty "tuple") rfl) pa_nil))))) (pw_or1 (pt_cmpR op_ne (pe_callB call_len_seq (by rfl) B.len PySem.boot_len (pa_cons (pv 0) pa_nil)) (pe_callB call_len_seq (by rfl) B.len PySem.boot_len (pa_cons (pv 1) pa_nil)) rfl))))
        (pss_one (ps_ret pe_bl))
        pss_nil)
      (pss_cons (ps_for PassesOwn.never rfl (pi_range1 (by rfl) B.range (pa_cons (pe_callB call_len_seq (by rfl) B.len PySem.boot_len (pa_cons (pv 1) pa_nil)) pa_nil)) (pg_name (i := 2) nd rfl (.inl rfl))
        (pss_cons (ps_if (PW.pt (pw_or (pt_not (pt_val (pe_callB call_isi (by rfl) B.isi PyProof.Rows.boot_isinstance (pa_cons (pe_ix ix_tup (pv 0) (pv 2) (fun _ _ => rfl)) (pa_cons (pe_bltn (by rfl) ztuple PyProof.Rows.boot_tuple (v := .ty "tuple") rfl) pa_nil))))) (pw_or1 (pt_cmpR op_ne (pe_callB call_len_seq (by rfl) B.len PySem.boot_len (pa_cons (pe_ix ix_tup (pv 0) (pv 2) (fun _ _ => rfl)) pa_nil)) pe_int rfl))))
            (pss_one (ps_ret pe_bl))
            pss_nil)
          (pss_cons (ps_for PassesOwn.never rfl (pi_tup (pe_ix ix_tup (pv 0) (pv 2) (fun _ _ => rfl))) (pg_name (i := 3) nd rfl (.inl rfl))
            (pss_one (ps_if (pt_not (pt_val (pe_call Cii.ok (hr.mono (by decide)) (by rfl) Cii.at_ Cii.kp Cii.bd .nil pass0 (pa_cons (pv 3) pa_nil))))
                (pss_one (ps_ret pe_bl))
                pss_nil)))
          (pss_one (ps_if (pt_cmpR (op_neTf hr.units) (pe_ix ix_tup (pv 0) (pv 2) (fun _ _ => rfl)) (pe_ix ix_list (pv 1) (pv 2) (fun _ _ => rfl)) rfl)
            (pss_one (ps_ret pe_bl))
            pss_nil)))))
      (pss_one (ps_ret pe_bl))), ?_⟩
    have lens : fs.length = es.length := by have := congrArg List.length cf; rwa [List.length_map, List.length_map] at this
    refine ⟨_, rfl, .ref u, .ty "tuple", .type "tuple", .type "tuple", true, rfl, .ty _, .base (.tup eu), kit_ty (by decide +kernel), true, rfl, iteF ?_⟩
    refine ⟨_, rfl, u, _, rfl, .inr (.inl (.inl eu)), _, rfl, l, _, rfl, .inl (sl_map el), rfl, ?_⟩
    rw [List.length_map, List.length_map, lens, decide_eq_true rfl]
    refine ⟨_, rfl, iteF ?_⟩
    refine ⟨_, rfl, l, _, rfl, .inl (sl_map el), _, rfl, by omega, by rw [List.length_map]; omega, for_range (lo := 0) (n := (es.map fun (e : LmE) => V.ref e.1).length) (fun i σ H' => ∃ (y2 y3 : Option V), σ = [some (.ref u), some (.ref l), y2, y3] ∧ H' = H) ⟨none, none, rfl, rfl⟩ ?_ ?_⟩
    · rintro i σ H1 hi ⟨y2, y3, rfl, rfl⟩
      rw [List.length_map] at hi
      obtain ⟨e, he⟩ : ∃ e, es[i]? = some e := ⟨_, List.getElem?_eq_getElem hi⟩
      obtain ⟨g, hg⟩ : ∃ g, fs[i]? = some g := ⟨_, List.getElem?_eq_getElem (by omega)⟩
      have eg : g.2 = e.2 := by
        have h1 : (fs.map (·.2))[i]? = some g.2 := by rw [List.getElem?_map, hg] <;> rfl
        rw [cf, List.getElem?_map, he] at h1
        exact (Option.some.inj h1).symm
      have te := lt e (List.mem_of_getElem? he)
      have tg := lf g (List.mem_of_getElem? hg)
      rw [eg] at tg
      have ag : (fs.map fun e => V.ref e.1)[i]? = some (.ref g.1) := by rw [List.getElem?_map, hg] <;> rfl
      have ae : (es.map fun e => V.ref e.1)[i]? = some (.ref e.1) := by rw [List.getElem?_map, he] <;> rfl
      refine ⟨_, rfl, _, rfl, u, _, _, .ref g.1, rfl, rfl, .inl (.inl eu), at_eqS (by omega) ag, .ref g.1, .ty "tuple", .type "tuple", .type "tuple", true, rfl, .ty _, .base (.tup tg), kit_ty (by decide +kernel), true, rfl, iteF ?_⟩
      refine ⟨_, rfl, _, rfl, u, _, _, .ref g.1, rfl, rfl, .inl (.inl eu), at_eqS (by omega) ag, g.1, _, rfl, .inr (.inl (.inl tg)), rfl, _, rfl, ite_both (fun c => absurd c (by simp)) fun _ => ?_⟩
      refine ⟨_, rfl, _, rfl, u, _, _, .ref g.1, rfl, rfl, .inl (.inl eu), at_eqS (by omega) ag, g.1, rfl, ⟨_, .inl (.inl tg)⟩, for_tup (xs := [V.int e.2.1, .int e.2.2.1, .int e.2.2.2]) (fun j σ H' => ∃ (y3 : Option V), σ = [some (.ref u), some (.ref l), some (.int (0 + (i : Int))), y3] ∧ H' = H1) ⟨_, rfl, rfl⟩ (fun j σ H' _ h => by obtain ⟨_, _, h⟩ := h; rw [h]; exact .inl (.inl tg)) ?_ ?_⟩
      · rintro j x0 σ H2 hx ⟨y3, rfl, rfl⟩
        obtain ⟨k, rfl⟩ : ∃ k : Int, x0 = .int k := by
          have := List.mem_of_getElem? hx
          simp at this
          rcases this with h | h | h
          · exact ⟨_, h⟩
          · exact ⟨_, h⟩
          · exact ⟨_, h⟩
        exact ⟨_, rfl, k, rfl, true, rfl, iteF ⟨_, rfl, rfl⟩⟩
      · rintro σ H2 ⟨y3, rfl, rfl⟩
        refine ⟨_, rfl, _, rfl, u, _, _, .ref g.1, rfl, rfl, .inl (.inl eu), at_eqS (by omega) ag, _, rfl, _, rfl, l, _, _, .ref e.1, rfl, rfl, sl_map el, at_eqS (by omega) ae, g.1, e.1, _, rfl, rfl, .inl (.inl tg), .inl (.inl te), fun v hv => ?_, false, rfl, iteF ⟨_, _, rfl, rfl⟩⟩
        simp at hv
        rcases hv with h | h | h <;> rw [h] <;> trivial
    · rintro σ H1 ⟨y2, y3, rfl, rfl⟩
      exact q
end
end K22
set_option Elab.async false
set_option linter.all false
set_option maxRecDepth 100000
set_option maxHeartbeats 4000000
namespace K22
open PySem PySem.Spec PyProof.Rows L2 Cs CsX
theorem pick : ∀ {ns : List Str} {L : List Int}, ns.Nodup → ns.length = L.length → ∃ g : Str → Int, ns.map g = L
  | [], [], _, _ => ⟨fun _ => 0, rfl⟩
  | [], _ :: _, _, h => by cases h
  | _ :: _, [], _, h => by cases h
  | x :: ns, u :: L, nn, h => by
    rw [List.nodup_cons] at nn
    obtain ⟨g, hg⟩ := pick (L := L) nn.2 (Nat.succ.inj h)
    refine ⟨fun y => if y = x then u else g y, ?_⟩
    rw [List.map_cons, if_pos rfl, ← hg]
    exact congrArg _ (List.map_congr_left fun y hy => if_neg fun z : y = x => nn.1 (z ▸ hy))
abbrev rLnS (K : PySem.W.Frag) : List V → Hp → VK → Prop := fun xs H Q => ∃ p ys, xs = [.ref p] ∧ (SqL K H p ys ∨ SqT K H p ys) ∧ Q (.int (ys.length : Nat)) H
theorem ct_keep {C : Addr} {H H' : Hp} {p s : Addr} {ns : List Str} {ls : List Lim3} (R : Ct C H p ns ls) (st : Strm H s) (k : Keep s H H') : Ct C H' p ns ls := by
  obtain ⟨dx, t, r, fs, h1, ⟨o, po, h2⟩, h3, h4, h5⟩ := R
  have ne : ∀ {b : Addr} {u : HO}, H b = some u → (∀ xs, u ≠ .lst xs) → b ≠ s := fun h n z => by
    obtain ⟨x, y, w, e⟩ := st
    rw [z, e] at h; exact n _ (Option.some.inj h).symm
  exact ⟨dx, t, r, fs, k _ _ (ne h1 (fun _ z => by cases z)) h1, ⟨o, po, k _ _ (ne h2 (fun _ z => by cases z)) h2⟩, k _ _ (ne h3 (fun _ z => by cases z)) h3, fun e he => keep_tup' st k (h4 e he), h5⟩
section
variable {P : Program} {w : World} {K : PySem.W.Frag} {mg : Str → Option Value} {base : Heap}
abbrev sAh : Stmt := topS 47
abbrev nAh : List Str := ["_law_rule", "_law_scope_here", "_law_entries_here", "_law_rows", "_law_stream_here", "_law_pool_here", "_law_turn", "_law_taken", "_law_values", "_law_passed", "_law_told", "_law_name"]
theorem scAh : FnScope nAh ["_law_rule", "_law_scope_here", "_law_entries_here", "_law_rows", "_law_stream_here", "_law_pool_here"] (defScope sAh) := ⟨rfl, rfl, rfl, by decide +kernel, rfl, by decide +kernel, by decide +kernel⟩
def spAh (C : Addr) : Sp := fun vs H Q _ => ∃ (p sc en l s pl : Addr) (ns : List Str) (es : List LmE) (rs : List (Addr × List Int)) (ps : List Int), vs = [.ref p, .ref sc, .ref en, .ref l, .ref s, .ref pl] ∧ Ct C H p ns (es.map (·.2)) ∧ es.length ≤ 100 ∧ H sc = some (.lst (ns.map V.str)) ∧ sc ≠ s ∧ H en = some (.lst (es.map fun e => V.ref e.1)) ∧ en ≠ s ∧ LmT H es ∧ RLs H l rs ∧ l ≠ s ∧ (∀ e ∈ rs, e.1 ≠ s ∧ e.2.length = ns.length) ∧ rs.length ≤ 65536 ∧ Strm H s ∧ H pl = some (.lst (ps.map V.int)) ∧ pl ≠ s ∧ 1 ≤ ps.length ∧ ps.length ≤ 20 ∧ ns.Nodup ∧ 1 ≤ ns.length ∧ ns.length ≤ 16 ∧ (∀ x ∈ ns, x ≠ "aside") ∧
  ∀ H', Keep s H H' → Strm H' s → Q (.bl true) H'
theorem ok_Ah {f C f0 f1 f2 f3 f4 : Addr} {fd fd0 fd1 fd2 fd3 fd4 : FuncData} (F : Fun K "_law_allowing_holds" "_law_allowing_holds" sAh f fd) (B : Bt mg) (T : Kls K mg "Counts" C cF) (D : Call P w K mg base 1 "_law_next" f1 fd1 ["_law_stream_here", "_law_size"] spDraw)
    (CNmd : Call P w K mg base 1 "_law_named" f0 fd0 ["_law_scope_here", "_law_row"] spNmd) (Al : CallM P w K mg base 2 C "allows" f2 fd2 ["self", "values"] (spAlo C)) (CKp : Call P w K mg base 1 "_law_keeps" f4 fd4 ["_law_entries_here", "_law_taken"] spKp) (CSv : Call P w K mg base 2 "_law_same_values" f3 fd3 ["_law_actual", "_law_expected"] spSV) :
    FnOk P w K mg base CX0 3 f fd ["_law_rule", "_law_scope_here", "_law_entries_here", "_law_rows", "_law_stream_here", "_law_pool_here"] (spAh C) := by
  refine F.ok scAh (fun vs H Q E h => ?_) (fun cdv A outer s H vs Q E hr h => ?_)
  · obtain ⟨p, sc, en, l, s, pl, ns, es, rs, ps, rfl, _⟩ := h
    rfl
  · obtain ⟨p, sc, en, l, s, pl, ns, es, rs, ps, rfl, ct0, e100, es0, scs, en0, ens, lt0, rl0, lS, rok, lrs, hs, ep0, pls, p1, p20, nn, n1, n16, na, q⟩ := h
    have hu := hu_of hr
    have nd := scAh.nd
    refine ⟨_, pss_cons (ps_for PassesOwn.never rfl (pi_range1 (by rfl) B.range (pa_cons pe_int pa_nil)) (pg_name (i := 6) nd rfl (.inl rfl))
        (pss_cons (ps_setLc (i := 7) (own := [("_law_name", 11)]) (g := gName 11) (tt := tYes)  rfl nd rfl rfl (by rfl) (pi_list (pv 1)) (blkOk_by (N := nAh) (sc := defScope sAh) (by decide +kernel)) (fun _ _ _ _ _ => pg_name (i := 11) nd rfl (.inl rfl)) (fun _ _ _ _ _ => pts_nil)
              (fun _ _ _ _ _ => (pe_ix (r := rIxL K) ix_list (pv 5) (pe_call D.ok (hr.mono (by decide)) (by rfl) D.at_ D.kp D.bd .nil pass0 (pa_cons (pv 4) (pa_cons (pe_callB (r := rLnS K) call_len_seq (by rfl) B.len PySem.boot_len (pa_cons (pv 5) pa_nil)) pa_nil))) (fun _ _ => rfl))))
          (pss_cons (ps_if (PW.pt (pw_and (pt_cmpR op_gt (pe_callB call_len_seq (by rfl) B.len PySem.boot_len (pa_cons (pv 3) pa_nil)) pe_int rfl) (pw_and1 (pt_cmpR op_gt (pv 6) pe_int rfl))))
            (pss_one (ps_set (i := 7) nd rfl (.inl rfl) (pe_callTy call_list_of (by rfl) B.list PyProof.Rows.boot_list (pa_cons (pe_ix ix_list (pv 3) (pe_call D.ok (hr.mono (by decide)) (by rfl) D.at_ D.kp D.bd .nil pass0 (pa_cons (pv 4) (pa_cons (pe_callB call_len_seq (by rfl) B.len PySem.boot_len (pa_cons (pv 3) pa_nil)) pa_nil))) (fun _ _ => rfl)) pa_nil))))
            pss_nil)
          (pss_cons (ps_if (pt_cmpR op_gt (pv 6) pe_int rfl)
            (pss_one (ps_asg (pe_ix ix_list (pv 5) (pe_call D.ok (hr.mono (by decide)) (by rfl) D.at_ D.kp D.bd .nil pass0 (pa_cons (pv 4) (pa_cons (pe_callB (r := rLnS K) call_len_seq (by rfl) B.len PySem.boot_len (pa_cons (pv 5) pa_nil)) pa_nil))) (fun _ _ => rfl)) (pg_sub (pv 7) (pe_call D.ok (hr.mono (by decide)) (by rfl) D.at_ D.kp D.bd .nil pass0 (pa_cons (pv 4) (pa_cons (pe_callB call_len_seq (by rfl) B.len PySem.boot_len (pa_cons (pv 1) pa_nil)) pa_nil))) set_list)))
            pss_nil)
          (pss_cons (ps_set (i := 8) nd rfl (.inl rfl) (pe_call CNmd.ok (hr.mono (by decide)) (by rfl) CNmd.at_ CNmd.kp CNmd.bd .nil pass0 (pa_cons (pv 1) (pa_cons (pv 7) pa_nil))))
          (pss_cons (ps_dput hu (pv 8) pe_str (pe_ix ix_list (pv 7) pe_int (fun _ _ => rfl)) rfl)
          (pss_cons (ps_set (i := 9) nd rfl (.inr rfl) (pe_callTy call_dictD (by rfl) B.dict PyProof.Rows.boot_dict (pa_cons (pv 8) pa_nil)))
          (pss_cons (ps_set (i := 10) nd rfl (.inl rfl) (pe_meth (pv 0) T.cl Al.mt Al.ok (hr.mono (by decide)) Al.bd .nil pass0 (pa_cons (pv 9) pa_nil)))
          (pss_cons (ps_if (PW.pt (pw_or (pt_not (pt_val (pe_callB call_isi (by rfl) B.isi PyProof.Rows.boot_isinstance (pa_cons (pv 10) (pa_cons (pe_bltn (by rfl) B.bool PyProof.Rows.boot_bool (v := .ty "bool") rfl) pa_nil))))) (pw_or1 (pt_cmpR (op_ne) (pv 10) (pe_call CKp.ok (hr.mono (by decide)) (by rfl) CKp.at_ CKp.kp CKp.bd .nil pass0 (pa_cons (pv 2) (pa_cons (pv 7) pa_nil))) rfl))))
            (pss_one (ps_ret pe_bl))
            pss_nil)
          (pss_cons (ps_if (pt_not (pt_val (pe_call CSv.ok (hr.mono (by decide)) (by rfl) CSv.at_ CSv.kp CSv.bd .nil pass0 (pa_cons (pv 9) (pa_cons (pv 8) pa_nil)))))
            (pss_one (ps_ret pe_bl))
            pss_nil)
          (pss_cons (ps_dput hu (pv 9) (pe_ix ix_list (pv 1) pe_int (fun _ _ => rfl)) (pe_ix ix_list (pv 5) (pe_call D.ok (hr.mono (by decide)) (by rfl) D.at_ D.kp D.bd .nil pass0 (pa_cons (pv 4) (pa_cons (pe_callB (r := rLnS K) call_len_seq (by rfl) B.len PySem.boot_len (pa_cons (pv 5) pa_nil)) pa_nil))) (fun _ _ => rfl)) rfl)
          (pss_one (ps_if (pt_cmpR (op_ne) (pe_meth (pv 0) T.cl Al.mt Al.ok (hr.mono (by decide)) Al.bd .nil pass0 (pa_cons (pv 9) pa_nil)) (pe_call CKp.ok (hr.mono (by decide)) (by rfl) CKp.at_ CKp.kp CKp.bd .nil pass0 (pa_cons (pv 2) (pa_cons (pe_lc (own := [("_law_name", 11)]) (g := gName 11) (tt := tYes)  rfl nd (pi_list (pv 1)) (blkOk_by (N := nAh) (sc := defScope sAh) (by decide +kernel)) (fun _ _ _ _ _ => pg_name (i := 11) nd rfl (.inl rfl)) (fun _ _ _ _ _ => pts_nil)
        (fun _ _ _ _ _ => (pe_dget hu (pv 9) (pv 11) (fun _ _ => rfl)))) pa_nil))) rfl)
            (pss_one (ps_ret pe_bl))
            pss_nil)))))))))))))
      (pss_one (ps_ret pe_bl)), ?_⟩
    refine ⟨4, rfl, by decide, by decide, for_range (lo := 0) (n := 4) (fun j σ H' => ∃ (y6 y7 y8 y9 y10 y11 : Option V), σ = [some (.ref p), some (.ref sc), some (.ref en), some (.ref l), some (.ref s), some (.ref pl), y6, y7, y8, y9, y10, y11] ∧ Keep s H H' ∧ Strm H' s) ⟨none, none, none, none, none, none, rfl, Keep.refl _ _, hs⟩ ?_ ?_⟩
    · rintro j σ H1 hj ⟨y6, y7, y8, y9, y10, y11, rfl, k1, st1⟩
      refine ⟨_, rfl, sc, rfl, ⟨_, sl_map (k1 _ _ scs es0)⟩, fun T0 nT => ?_⟩
      have Ts : T0 ≠ s := fun z => st1.some (z ▸ nT)
      have nTH : H T0 = none := k1.free st1 nT
      refine lc_list (xs := ns.map V.str) (fun i H' => Keep s H H' ∧ Strm H' s ∧ ∃ ts : List Int, H' T0 = some (.lst (ts.map V.int)) ∧ ts.length = i) ⟨k1.at_ nTH, st1.upd Ts.symm, [], upd_same, rfl⟩ (fun i H' _ h => sl_map (h.1 _ _ scs es0)) ?_ ?_
      · rintro i x0 H2 hx0 ⟨k2, st2, ts, eT, lt⟩
        have hi := (List.getElem?_eq_some_iff.mp hx0).1
        rw [List.length_map] at hi
        refine ⟨rfl, _, rfl, _, rfl, _, rfl, pl, _, rfl, .inl (sl_map (k2 _ _ pls ep0)), s, _, rfl, st2, by rw [List.length_map]; omega, by rw [List.length_map]; omega, fun H3 y o3 st3 y0 y1 => ?_⟩
        rw [List.length_map] at y1
        have k3 := k2.oth o3
        obtain ⟨m, rfl⟩ : ∃ m : Nat, y = (m : Int) := ⟨y.toNat, by omega⟩
        obtain ⟨v, hv⟩ : ∃ v, ps[m]? = some v := ⟨_, List.getElem?_eq_getElem (by omega)⟩
        exact ⟨pl, _, _, .int v, rfl, rfl, sl_map (k3 _ _ pls ep0), atI_nat (j := m) (by rw [List.getElem?_map, hv] <;> rfl), _, (o3 _ Ts).trans eT, by rw [List.length_map]; exact small1000 (by omega), k3.at_ nTH, st3.upd Ts.symm, ts ++ [v], by rw [upd_same, List.map_append] <;> rfl, by rw [List.length_append, lt] <;> rfl⟩
      rintro H2 ⟨k2, st2, ts, eT, lt⟩
      rw [List.length_map] at lt
      refine' with_restS (fun σ H' => ∃ (T : Addr) (ts : List Int), σ = [some (.ref p), some (.ref sc), some (.ref en), some (.ref l), some (.ref s), some (.ref pl), some (.int (0 + (j : Int))), some (.ref T), y8, y9, y10, y11] ∧ Keep s H H' ∧ Strm H' s ∧ H T = none ∧ T ≠ s ∧ H' T = some (.lst (ts.map V.int)) ∧ ts.length = ns.length) ?r1 (fun rest => ⟨_, rfl, l, _, rfl, .inl (sl_map (k2 _ _ lS rl0.lst)), _, _, rfl, rfl, _, rfl, ite_both (fun c => ⟨_, rfl, _, _, rfl, rfl, _, rfl, ite_both (fun _ => ?g1) fun _ => rest _ _ ⟨T0, ts, rfl, k2, st2, nTH, Ts, eT, lt⟩⟩) fun _ => iteF (rest _ _ ⟨T0, ts, rfl, k2, st2, nTH, Ts, eT, lt⟩)⟩)
      case' g1 =>
        have c0 : 0 < rs.length := by
          have := of_decide_eq_true c
          rw [List.length_map] at this
          omega
        refine ⟨_, rfl, _, rfl, _, rfl, l, _, rfl, .inl (sl_map (k2 _ _ lS rl0.lst)), s, _, rfl, st2, by rw [List.length_map]; omega, by rw [List.length_map]; omega, fun H3 y o3 st3 y0 y1 => ?_⟩
        rw [List.length_map] at y1
        have k3 := k2.oth o3
        obtain ⟨m, rfl⟩ : ∃ m : Nat, y = (m : Int) := ⟨y.toNat, by omega⟩
        obtain ⟨e, he⟩ : ∃ e, rs[m]? = some e := ⟨_, List.getElem?_eq_getElem (by omega)⟩
        have em := List.mem_of_getElem? he
        refine ⟨l, _, _, .ref e.1, rfl, rfl, sl_map (k3 _ _ lS rl0.lst), atI_nat (j := m) (by rw [List.getElem?_map, he] <;> rfl), e.1, _, rfl, .inl (sl_map (k3 _ _ (rok e em).1 (rl0.row e em))), fun Y nY => ?_⟩
        exact rest _ _ ⟨Y, e.2, rfl, k3.at_ (k3.free st3 nY), st3.upd (fun z => st3.some (z ▸ nY)), k3.free st3 nY, fun z => st3.some (z ▸ nY), upd_same, (rok e em).2⟩
      clear eT lt nTH Ts nT st2 k2 H2
      rintro σ H2 ⟨T0, ts, rfl, k2, st2, nTH, Ts, eT, lt⟩
      refine' with_restS (fun σ H' => ∃ (ts : List Int), σ = [some (.ref p), some (.ref sc), some (.ref en), some (.ref l), some (.ref s), some (.ref pl), some (.int (0 + (j : Int))), some (.ref T0), y8, y9, y10, y11] ∧ Keep s H H' ∧ Strm H' s ∧ H' T0 = some (.lst (ts.map V.int)) ∧ ts.length = ns.length) ?r2 (fun rest => ⟨_, rfl, _, _, rfl, rfl, _, rfl, ite_both (fun _ => ?g2) fun _ => rest _ _ ⟨ts, rfl, k2, st2, eT, lt⟩⟩)
      case' g2 =>
        refine ⟨_, rfl, _, rfl, _, rfl, pl, _, rfl, .inl (sl_map (k2 _ _ pls ep0)), s, _, rfl, st2, by rw [List.length_map]; omega, by rw [List.length_map]; omega, fun H5 z o5 st5 z0 z1 => ?_⟩
        have k5 := k2.oth o5
        rw [List.length_map] at z1
        obtain ⟨m, rfl⟩ : ∃ m : Nat, z = (m : Int) := ⟨z.toNat, by omega⟩
        obtain ⟨v, hm⟩ : ∃ v, ps[m]? = some v := ⟨_, List.getElem?_eq_getElem (by omega)⟩
        refine ⟨pl, _, _, .int v, rfl, rfl, sl_map (k5 _ _ pls ep0), atI_nat (j := m) (by rw [List.getElem?_map, hm] <;> rfl), ?_⟩
        refine ⟨_, rfl, _, rfl, _, rfl, sc, _, rfl, .inl (sl_map (k5 _ _ scs es0)), s, _, rfl, st5, by rw [List.length_map]; omega, by rw [List.length_map]; omega, fun H6 a o6 st6 a0 a1 => ?_⟩
        have k6 := k5.oth o6
        rw [List.length_map] at a1
        obtain ⟨b, rfl⟩ : ∃ b : Nat, a = (b : Int) := ⟨a.toNat, by omega⟩
        have eT6 := (o6 _ Ts).trans ((o5 _ Ts).trans eT)
        exact ⟨T0, _, _, b, rfl, rfl, eT6, ixN_nat (by rw [List.length_map]; omega), rest _ _ ⟨ts.set b v, rfl, k6.at_ nTH, st6.upd Ts.symm, by rw [upd_same, List.map_set], by rw [List.length_set]; exact lt⟩⟩
      clear eT lt k2 st2 H2 ts
      rintro σ H2 ⟨ts, rfl, k2, st2, eT, lt⟩
      obtain ⟨g, hg⟩ := pick (L := ts) nn lt.symm
      rw [← hg] at eT
      refine ⟨_, rfl, _, rfl, sc, T0, ns, g, rfl, k2 _ _ scs es0, eT, nn, by omega, fun H3 V0 s3 nV eV => ?_⟩
      have k3 := k2.trans (Keep.same s3)
      have st3 : Strm H3 s := by obtain ⟨x, y, w, e⟩ := st2; exact ⟨x, y, w, s3 _ _ e⟩
      have eT3 := s3 _ _ eT
      have V0s : V0 ≠ s := fun z => st2.some (z ▸ nV)
      have V0T : V0 ≠ T0 := fun z => by rw [z, eT] at nV; cases nV
      have nVH : H V0 = none := k2.free st2 nV
      obtain ⟨x0, hx0⟩ : ∃ x0, ns[0]? = some x0 := ⟨_, List.getElem?_eq_getElem (by omega)⟩
      have ht0 : ((ns.map g).map V.int)[0]? = some (.int (g x0)) := by rw [List.getElem?_map, List.getElem?_map, hx0] <;> rfl
      have hx0' : (ns.map V.str)[0]? = some (.str x0) := by rw [List.getElem?_map, hx0] <;> rfl
      have x0n := List.mem_of_getElem? hx0
      refine ⟨_, rfl, T0, _, _, .int (g x0), rfl, rfl, sl_map eT3, atI_nat (j := 0) ht0, _, rfl, V0, _, rfl, DPut.k (k := .inr "aside") eV (by rw [intK_len, List.length_map]; exact small1000 (by omega)), ?_⟩
      rw [putK_int]
      have A0k : (ns.map fun x => (x, g x)).map (·.1) = ns := by rw [List.map_map]; exact List.map_id ns
      have ndA : ((putA (ns.map fun x => (x, g x)) "aside" (g x0)).map (·.1)).Nodup := putA_nd (by rw [A0k]; exact nn)
      have lA : (putA (ns.map fun x => (x, g x)) "aside" (g x0)).length ≤ 17 := by have := putA_len (ns.map fun x => (x, g x)) "aside" (g x0); rw [List.length_map] at this; omega
      have get : ∀ x ∈ ns, aget (putA (ns.map fun x => (x, g x)) "aside" (g x0)) x = some (g x) := fun x hx => by
        rw [aget_put, if_neg fun z => na x hx z.symm, aget_iff (by rw [A0k]; exact nn)]
        exact List.mem_map.mpr ⟨x, hx, rfl⟩
      generalize putA (ns.map fun x => (x, g x)) "aside" (g x0) = A1 at ndA lA get ⊢
      obtain ⟨H4, e4, k4, st4, eT4, eV4⟩ : ∃ H4, upd H3 V0 (.dK (intK A1)) = H4 ∧ Keep s H H4 ∧ Strm H4 s ∧ H4 T0 = some (.lst ((ns.map g).map V.int)) ∧ H4 V0 = some (.dK (intK A1)) := ⟨_, rfl, k3.at_ nVH, st3.upd V0s.symm, by rw [upd_ne V0T.symm]; exact eT3, upd_same⟩
      rw [e4]
      clear e4 eV eT3 st3 k3 s3 nV eT st2 k2
      refine ⟨_, rfl, V0, _, rfl, .inl eV4, fun kp nkp => ?_⟩
      have kps : kp ≠ s := fun z => st4.some (z ▸ nkp)
      have kpV : kp ≠ V0 := fun z => by rw [z, eV4] at nkp; cases nkp
      have nkH : H kp = none := k4.free st4 nkp
      obtain ⟨H5, e5, s5, ek⟩ : ∃ H5, upd H4 kp (.dK (intK A1)) = H5 ∧ Same H4 H5 ∧ H5 kp = some (.dK (intK A1)) := ⟨_, rfl, same_new nkp, upd_same⟩
      rw [e5]
      have k5 := k4.trans (Keep.same s5)
      obtain ⟨dx, fs, hp, _, _, _, _, hal⟩ := ct_self (ct_keep ct0 hs k5)
      refine ⟨_, rfl, p, dx, _, rfl, hp, hal, _, rfl, p, kp, ns, _, A1, g, rfl, ct_keep ct0 hs k5, by rw [List.length_map]; exact e100, ek, by omega, get, fun H6 s6 => ?_⟩
      have s56 := s5.trans s6
      have k6 := k4.trans (Keep.same s56)
      have lt6 : LmT H6 es := fun e he => keep_tup' hs k6 (lt0 e he)
      refine ⟨_, rfl, .bl _, .ty "bool", .type "bool", .type "bool", true, rfl, .ty _, .base (.bl _), kit_ty (by decide +kernel), true, rfl, iteF ?_⟩
      refine ⟨_, rfl, _, rfl, _, rfl, en, T0, es, ns.map g, rfl, k6 _ _ ens en0, lt6, s56 _ _ eT4, rfl, _, rfl, ite_both (fun c => absurd c (by simp)) fun _ => ?_⟩
      have few : A1.length ≤ 40 := by omega
      refine ⟨_, rfl, _, rfl, kp, V0, A1, A1, rfl, ⟨s6 _ _ ek, ndA, few⟩, ⟨s56 _ _ eV4, ndA, few⟩, fun _ => rfl, kpV, fun H7 s7 => ⟨true, rfl, iteF ?_⟩⟩
      have s57 := s56.trans s7
      have k7 := k4.trans (Keep.same s57)
      have st7 : Strm H7 s := by obtain ⟨x, y, w, e⟩ := st4; exact ⟨x, y, w, s57 _ _ e⟩
      have ek7 := s7 _ _ (s6 _ _ ek)
      refine ⟨_, rfl, _, rfl, _, rfl, pl, _, rfl, .inl (sl_map (k7 _ _ pls ep0)), s, _, rfl, st7, by rw [List.length_map]; omega, by rw [List.length_map]; omega, fun H8 z o8 st8 z0 z1 => ?_⟩
      rw [List.length_map] at z1
      have k8 := k7.oth o8
      have ek8 := (o8 _ kps).trans ek7
      obtain ⟨m, rfl⟩ : ∃ m : Nat, z = (m : Int) := ⟨z.toNat, by omega⟩
      obtain ⟨u, hm⟩ : ∃ u, ps[m]? = some u := ⟨_, List.getElem?_eq_getElem (by omega)⟩
      refine ⟨pl, _, _, .int u, rfl, rfl, sl_map (k8 _ _ pls ep0), atI_nat (j := m) (by rw [List.getElem?_map, hm] <;> rfl), ?_⟩
      refine ⟨_, rfl, _, rfl, sc, _, _, .str x0, rfl, rfl, sl_map (k8 _ _ scs es0), atI_nat (j := 0) hx0', kp, _, rfl, DPut.k (k := .inr x0) ek8 (by rw [intK_len]; exact small1000 (by omega)), ?_⟩
      rw [putK_int]
      obtain ⟨H9, e9, k9, st9, ek9⟩ : ∃ H9, upd H8 kp (.dK (intK (putA A1 x0 u))) = H9 ∧ Keep s H H9 ∧ Strm H9 s ∧ H9 kp = some (.dK (intK (putA A1 x0 u))) := ⟨_, rfl, k8.at_ nkH, st8.upd kps.symm, upd_same⟩
      rw [e9]
      have get2 : ∀ x ∈ ns, aget (putA A1 x0 u) x = some ((fun x => if x0 = x then u else g x) x) := fun x hx => by
        rw [aget_put]
        show _ = some (if x0 = x then u else g x)
        by_cases c : x0 = x
        · rw [if_pos c, if_pos c]
        · rw [if_neg c, if_neg c]; exact get x hx
      generalize (fun x => if x0 = x then u else g x) = g2 at get2
      obtain ⟨dx, fs, hp, _, _, _, _, hal⟩ := ct_self (ct_keep ct0 hs k9)
      refine ⟨_, rfl, p, dx, _, rfl, hp, hal, _, rfl, p, kp, ns, _, _, g2, rfl, ct_keep ct0 hs k9, by rw [List.length_map]; exact e100, ek9, by omega, get2, fun H10 s10 => ?_⟩
      have k10 := k9.trans (Keep.same s10)
      have ek10 := s10 _ _ ek9
      refine ⟨_, rfl, _, rfl, sc, rfl, ⟨_, sl_map (k10 _ _ scs es0)⟩, fun Y nY => lc_list (xs := ns.map V.str) (fun i H' => Same H10 H' ∧ H' Y = some (.lst (((ns.take i).map g2).map V.int))) ⟨same_new nY, upd_same⟩ (fun i H' _ h => sl_map (h.1 _ _ (k10 _ _ scs es0))) ?_ ?_⟩
      · rintro i x1 H11 hx ⟨s11, eY⟩
        rw [List.getElem?_map] at hx
        obtain ⟨x, hx2, rfl⟩ := Option.map_eq_some_iff.mp hx
        have hi := (List.getElem?_eq_some_iff.mp hx2).1
        refine ⟨rfl, _, rfl, _, rfl, kp, .int (g2 x), rfl, dgetI (s11 _ _ ek10) (get2 x (List.mem_of_getElem? hx2)), _, eY, by rw [List.length_map, List.length_map, List.length_take]; exact small1000 (by omega), same_at s11 nY, ?_⟩
        rw [upd_same, take_snoc hx2, List.map_append, List.map_append] <;> rfl
      · rintro H11 ⟨s11, eY⟩
        rw [List.length_map, List.take_length] at eY
        have k11 := k10.trans (Keep.same s11)
        have lt11 : LmT H11 es := fun e he => keep_tup' hs k11 (lt0 e he)
        refine ⟨en, Y, es, ns.map g2, rfl, k11 _ _ ens en0, lt11, eY, rfl, _, rfl, ite_both (fun c => absurd c (by simp)) fun _ => ?_⟩
        exact ⟨_, _, _, _, _, _, rfl, k11, by obtain ⟨x, y, w, e⟩ := st9; exact ⟨x, y, w, s11 _ _ (s10 _ _ e)⟩⟩
    · rintro σ H1 ⟨y6, y7, y8, y9, y10, y11, rfl, k1, st1⟩
      exact q _ k1 st1
end
end K22
set_option Elab.async false
set_option linter.all false
set_option maxRecDepth 100000
set_option maxHeartbeats 4000000
namespace K22
open PySem PySem.Spec PyProof.Rows L2 Cs CsX
/-! ### as many names as values -/
theorem pig {ns : List Str} {g : Str → Int} {L : List Int} (G : (ns.map g).Nodup) (sub : ∀ x ∈ ns, g x ∈ L) : ns.length ≤ L.length := by
  have h := List.Nodup.length_le_of_subset G (l₂ := L) fun v hv => by
    obtain ⟨x, hx, rfl⟩ := List.mem_map.mp hv
    exact sub x hx
  rw [List.length_map] at h
  exact h
/-- each value of the pool at most once -/
def onceL (ps : List Int) : List Lim3 := ps.map fun v => (v, 0, 1)
theorem once_sound {ps : List Int} (nd : ps.Nodup) : Sound (onceL ps) := by
  refine ⟨?_, fun l hl => ?_⟩
  · unfold onceL; rw [List.map_map]; exact (List.map_id ps).symm ▸ nd
  · obtain ⟨v, _, rfl⟩ := List.mem_map.mp hl
    exact ⟨(by decide : (0 : Int) ≤ 0), (by decide : (0 : Int) ≤ 1)⟩
theorem once_iff {ps r : List Int} (nd : ps.Nodup) (sub : ∀ v ∈ r, v ∈ ps) : Okc (hiOf (onceL ps)) (loOf (onceL ps)) r ↔ r.Nodup := by
  rw [List.nodup_iff_count]
  constructor
  · intro h v
    by_cases m : v ∈ r
    · have z : zget (hiOf (onceL ps)) v = some 1 := zget_of (by rw [hi_keys]; exact (once_sound nd).1) (List.mem_map.mpr ⟨(v, 0, 1), List.mem_map.mpr ⟨v, sub v m, rfl⟩, rfl⟩)
      have := h.1 v 1 z
      omega
    · rw [List.count_eq_zero.mpr m]; decide
  · intro h
    refine ⟨fun v k hk => ?_, fun v k hk => ?_⟩
    · obtain ⟨l, hl, e⟩ := List.mem_map.mp (zget_mem hk)
      obtain ⟨w, _, rfl⟩ := List.mem_map.mp hl
      obtain ⟨e1, e2⟩ := Prod.mk.inj e
      have := h v
      have e3 : (1 : Int) = k := e2
      omega
    · obtain ⟨l, hl, e⟩ := List.mem_map.mp (zget_mem hk)
      obtain ⟨w, _, rfl⟩ := List.mem_map.mp hl
      obtain ⟨e1, e2⟩ := Prod.mk.inj e
      have e3 : (0 : Int) = k := e2
      omega
/-- all names have the same values but one, which has one more -/
structure Dns (zs : List Str) (S : Str → List Int) (name : Str) (p0 : Int) (tl : List Int) : Prop where
  nn : zs.Nodup
  hn : name ∈ zs
  nd : (p0 :: tl).Nodup
  len : tl.length + 1 = zs.length
  at_ : S name = p0 :: tl
  oth : ∀ x ∈ zs, x ≠ name → S x = tl
theorem Dns.own {zs : List Str} {S : Str → List Int} {name : Str} {p0 : Int} {tl : List Int} (D : Dns zs S name p0 tl) : (S name).filter (fun v => feB (hiOf (onceL (p0 :: tl))) (loOf (onceL (p0 :: tl))) zs (nar S name v)) = [p0] := by
  have yes : feB (hiOf (onceL (p0 :: tl))) (loOf (onceL (p0 :: tl))) zs (nar S name p0) = true := by
    rw [feB_iff]
    have pm := List.perm_cons_erase D.hn
    obtain ⟨g, hg⟩ := pick (ns := name :: zs.erase name) (L := p0 :: tl) (pm.nodup_iff.mp D.nn) (by rw [← pm.length_eq, ← D.len] <;> rfl)
    have pg : (zs.map g).Perm (p0 :: tl) := by rw [← hg]; exact pm.map g
    rw [List.map_cons] at hg
    have h0 := (List.cons.inj hg).1
    have h1 := (List.cons.inj hg).2
    refine ⟨g, fun x hx => ?_, (once_iff D.nd fun v hv => pg.mem_iff.mp hv).mpr (pg.nodup_iff.mpr D.nd)⟩
    by_cases c : x = name
    · rw [c, nar_same, h0]; exact List.mem_singleton.mpr rfl
    · rw [nar_ne c, D.oth x hx c, ← h1]
      exact List.mem_map.mpr ⟨x, (List.mem_erase_of_ne c).mpr hx, rfl⟩
  rw [D.at_, List.filter_cons, if_pos yes]
  rw [List.filter_eq_nil_iff.mpr fun v hv => ?_]
  rw [feB_iff]
  rintro ⟨g, G⟩
  have sub : ∀ x ∈ zs, g x ∈ tl := fun x hx => by
    by_cases c : x = name
    · rw [c, G.at_ D.hn]; exact hv
    · have := G.mem x hx
      rw [nar_ne c, D.oth x hx c] at this
      exact this
  have hl := pig (L := tl) ((once_iff D.nd fun v hv => by
    obtain ⟨x, hx, rfl⟩ := List.mem_map.mp hv
    exact List.mem_cons_of_mem _ (sub x hx)).mp G.inj) sub
  have := D.len
  omega
theorem Dns.other {zs : List Str} {S : Str → List Int} {name o : Str} {p0 : Int} {tl : List Int} (D : Dns zs S name p0 tl) (ho : o ∈ zs) (ne : o ≠ name) : (S o).filter (fun v => feB (hiOf (onceL (p0 :: tl))) (loOf (onceL (p0 :: tl))) zs (nar S o v)) = tl := by
  rw [D.oth o ho ne]
  refine List.filter_eq_self.mpr fun v hv => ?_
  rw [feB_iff]
  have pm1 := List.perm_cons_erase D.hn
  have ho2 : o ∈ zs.erase name := (List.mem_erase_of_ne ne).mpr ho
  have pm2 := List.perm_cons_erase ho2
  have pm : zs.Perm (name :: o :: (zs.erase name).erase o) := pm1.trans (List.Perm.cons _ pm2)
  have pL : (p0 :: tl).Perm (p0 :: v :: tl.erase v) := List.Perm.cons _ (List.perm_cons_erase hv)
  obtain ⟨g, hg⟩ := pick (ns := name :: o :: (zs.erase name).erase o) (L := p0 :: v :: tl.erase v) (pm.nodup_iff.mp D.nn) (by rw [← pm.length_eq, ← pL.length_eq, ← D.len] <;> rfl)
  have pg : (zs.map g).Perm (p0 :: tl) := (pm.map g).trans (by rw [hg]; exact pL.symm)
  rw [List.map_cons, List.map_cons] at hg
  have h0 := (List.cons.inj hg).1
  have h1 := (List.cons.inj (List.cons.inj hg).2).1
  have h2 := (List.cons.inj (List.cons.inj hg).2).2
  refine ⟨g, fun x hx => ?_, (once_iff D.nd fun v hv => pg.mem_iff.mp hv).mpr (pg.nodup_iff.mpr D.nd)⟩
  by_cases c : x = o
  · rw [c, nar_same, h1]; exact List.mem_singleton.mpr rfl
  · rw [nar_ne c]
    by_cases d : x = name
    · rw [d, D.at_, h0]; exact List.mem_cons_self
    · rw [D.oth x hx d]
      have m : g x ∈ tl.erase v := by
        rw [← h2]
        exact List.mem_map.mpr ⟨x, (List.mem_erase_of_ne c).mpr ((List.mem_erase_of_ne d).mpr hx), rfl⟩
      exact List.mem_of_mem_erase m
theorem few_no {zs : List Str} {S : Str → List Int} {p0 : Int} {tl : List Int} (nd : (p0 :: tl).Nodup) (all : ∀ x ∈ zs, S x = tl) (len : tl.length < zs.length) : ¬ Feas (hiOf (onceL (p0 :: tl))) (loOf (onceL (p0 :: tl))) zs S := by
  rintro ⟨g, G⟩
  have sub : ∀ x ∈ zs, g x ∈ tl := fun x hx => by rw [← all x hx]; exact G.mem x hx
  have := pig (L := tl) ((once_iff nd fun v hv => by
    obtain ⟨x, hx, rfl⟩ := List.mem_map.mp hv
    exact List.mem_cons_of_mem _ (sub x hx)).mp G.inj) sub
  omega
theorem few_none {zs : List Str} {S : Str → List Int} {p0 : Int} {tl : List Int} {o : Str} (nd : (p0 :: tl).Nodup) (all : ∀ x ∈ zs, S x = tl) (len : tl.length < zs.length) (ho : o ∈ zs) : (S o).filter (fun v => feB (hiOf (onceL (p0 :: tl))) (loOf (onceL (p0 :: tl))) zs (nar S o v)) = [] := by
  refine List.filter_eq_nil_iff.mpr fun v hv => ?_
  rw [feB_iff]
  rintro ⟨g, G⟩
  exact few_no nd all len ⟨g, G.wide hv⟩
end K22
set_option Elab.async false
set_option linter.all false
set_option maxRecDepth 100000
set_option maxHeartbeats 4000000
namespace K22
open PySem PySem.Spec PyProof.Rows L2 Cs CsX
/-- another side for x, in the same list -/
def repl (M : List Ent) (x : Str) (ks : List Int) : List Ent := M.map fun e => if e.1 = x then (e.1, e.2.1, ks) else e
theorem repl_keys (M : List Ent) (x : Str) (ks : List Int) : (repl M x ks).map (·.1) = M.map (·.1) := by
  unfold repl
  rw [List.map_map]
  refine List.map_congr_left fun e _ => ?_
  show (if e.1 = x then (e.1, e.2.1, ks) else e).1 = e.1
  split <;> rfl
theorem repl_ads (M : List Ent) (x : Str) (ks : List Int) : (repl M x ks).map (·.2.1) = M.map (·.2.1) := by
  unfold repl
  rw [List.map_map]
  refine List.map_congr_left fun e _ => ?_
  show (if e.1 = x then (e.1, e.2.1, ks) else e).2.1 = e.2.1
  split <;> rfl
theorem repl_ent (M : List Ent) (x : Str) (ks : List Int) : entK (repl M x ks) = entK M := by
  unfold entK repl
  rw [List.map_map]
  refine List.map_congr_left fun e _ => ?_
  show (Sum.inr (if e.1 = x then (e.1, e.2.1, ks) else e).1, V.ref (if e.1 = x then (e.1, e.2.1, ks) else e).2.1) = _
  split <;> rfl
theorem repl_repl (M : List Ent) (x : Str) (ks js : List Int) : repl (repl M x ks) x js = repl M x js := by
  unfold repl
  rw [List.map_map]
  refine List.map_congr_left fun e _ => ?_
  by_cases c : e.1 = x <;> simp [c]
theorem repl_mem {M : List Ent} {x : Str} {ks : List Int} {g : Ent} (h : g ∈ repl M x ks) : ∃ e ∈ M, e.1 = g.1 ∧ e.2.1 = g.2.1 ∧ ((e.1 = x ∧ g.2.2 = ks) ∨ (e.1 ≠ x ∧ g = e)) := by
  obtain ⟨e, he, rfl⟩ := List.mem_map.mp h
  refine ⟨e, he, ?_⟩
  by_cases c : e.1 = x
  · rw [if_pos c]; exact ⟨rfl, rfl, .inl ⟨c, rfl⟩⟩
  · rw [if_neg c]; exact ⟨rfl, rfl, .inr ⟨c, rfl⟩⟩
theorem inj_at {α β : Type} {M : List α} {f : α → β} (h : (M.map f).Nodup) {a b : α} (ha : a ∈ M) (hb : b ∈ M) (e : f a = f b) : a = b := by
  obtain ⟨i, hi⟩ := List.mem_iff_getElem?.mp ha
  obtain ⟨j, hj⟩ := List.mem_iff_getElem?.mp hb
  have h1 : (M.map f)[i]? = some (f a) := by rw [List.getElem?_map, hi] <;> rfl
  have h2 : (M.map f)[j]? = some (f a) := by rw [List.getElem?_map, hj, e] <;> rfl
  rw [nd_ix h h1 h2, hj] at hi
  exact (Option.some.inj hi).symm
theorem Nb.repl {H0 H : Hp} {d a : Addr} {M : List Ent} {x : Str} {s ks : List Int} (N : Nb H0 H d M) (hm : (x, a, s) ∈ M) : Nb H0 (upd H a (.lst (ks.map V.int))) d (K22.repl M x ks) := by
  have ad : d ≠ a := fun z => by have h1 := N.un; have h2 := N.sides _ hm; rw [z] at h1; rw [show H a = _ from h2] at h1; cases h1
  have un : (upd H a (.lst (ks.map V.int))) d = some (.dK (entK (K22.repl M x ks))) := by rw [upd_ne ad, repl_ent]; exact N.un
  refine ⟨⟨⟨.inl un, fun g hg => ?_, by rw [repl_keys]; exact N.nd, by unfold K22.repl; rw [List.length_map]; exact N.few⟩, un⟩, N.fresh, fun g hg => ?_, by rw [repl_ads]; exact N.inj⟩
  · obtain ⟨e, he, e1, e2, c⟩ := repl_mem hg
    rcases c with ⟨c1, c2⟩ | ⟨c1, c2⟩
    · have : e = (x, a, s) := inj_at N.nd he hm c1
      rw [← e2, this, c2]; exact upd_same
    · rw [c2]
      have : e.2.1 ≠ a := fun z => c1 (by rw [inj_at N.inj he hm z])
      rw [upd_ne this]; exact N.sides e he
  · obtain ⟨e, he, e1, e2, _⟩ := repl_mem hg
    rw [← e2]; exact N.freshS e he
theorem repl_in {M : List Ent} {x : Str} {a : Addr} {s ks : List Int} (hm : (x, a, s) ∈ M) : (x, a, ks) ∈ repl M x ks := List.mem_map.mpr ⟨_, hm, if_pos rfl⟩
theorem Nb.dget {H0 H : Hp} {d a : Addr} {M : List Ent} {x : Str} {s : List Int} (N : Nb H0 H d M) (hm : (x, a, s) ∈ M) : DGet H d (.str x) (some (.ref a)) ∧ H a = some (.lst (s.map V.int)) := by
  have g := N.toBu.toBx.get x
  rw [getE_of N.nd hm] at g
  exact ⟨g, N.sides _ hm⟩
theorem look_repl {x : Str} {ks : List Int} {y : Str} (n : y ≠ x) : ∀ M : List Ent, look (repl M x ks) y = look M y
  | [] => rfl
  | e :: M => by
    have ih := look_repl n (ks := ks) M
    have hr : repl (e :: M) x ks = (if e.1 = x then (e.1, e.2.1, ks) else e) :: repl M x ks := rfl
    unfold look at ih ⊢
    rw [hr]
    by_cases c : e.1 = y
    · have : e.1 ≠ x := fun z => n (c.symm.trans z)
      rw [if_neg this, getE_pos c, getE_pos c]
    · have c2 : (if e.1 = x then (e.1, e.2.1, ks) else e).1 ≠ y := by
        split <;> exact c
      rw [getE_neg c2, getE_neg c]
      exact ih
theorem look_in {M : List Ent} {x : Str} {a : Addr} {ks : List Int} (nd : (M.map (·.1)).Nodup) (h : (x, a, ks) ∈ M) : look M x = some ks := by
  unfold look
  rw [show getE M x = some (x, a, ks) from getE_of (e := (x, a, ks)) nd h]; rfl
/-! ### the names of the dense rule -/
theorem digits17 : ∀ k ∈ List.range 17, (Str.ofString (toString ((k : Nat) : Int))).length ≤ 2 := by decide +kernel
theorem log17 : ∀ k ∈ List.range 17, ((k : Nat) : Int).natAbs.log2 < 1920 := by decide +kernel
def dnam (i : Nat) : Str := ("n" : Str) ++ Str.ofString (toString (((i * 5) % 17 : Nat) : Int))
theorem dnam_all : ((List.range 13).map dnam).Nodup := by decide +kernel
theorem dnam_nd {m : Nat} (hm : m ≤ 13) : ((List.range m).map dnam).Nodup := by
  have e : List.range m = (List.range 13).take m := by rw [List.take_range, Nat.min_eq_left hm]
  rw [e, List.map_take]
  exact List.Pairwise.sublist (List.take_sublist _ _) dnam_all
theorem onceL_snoc (ps : List Int) (v : Int) : onceL (ps ++ [v]) = onceL ps ++ [(v, 0, 1)] := by
  unfold onceL; rw [List.map_append] <;> rfl
section
variable {P : Program} {w : World} {K : PySem.W.Frag} {mg : Str → Option Value} {base : Heap}
abbrev sDh : Stmt := topS 48
abbrev nDh : List Str := ["_law_stream_here", "_law_count", "_law_names_here", "_law_pool_here", "_law_value", "_law_rule", "_law_name", "_law_other", "_law_lent", "_law_each", "_law_due", "_law_k"]
theorem scDh : FnScope nDh ["_law_stream_here"] (defScope sDh) := ⟨rfl, rfl, rfl, by decide +kernel, rfl, by decide +kernel, by decide +kernel⟩
def spDh : Sp := fun vs H Q _ => ∃ (s : Addr), vs = [.ref s] ∧ Strm H s ∧ ∀ H', Q (.bl true) H'
theorem ok_Dh {f C f0 f1 f3 f4 f5 f6 f7 : Addr} {fd fd0 fd1 fd3 fd4 fd5 fd6 fd7 : FuncData} (F : Fun K "_law_dense_holds" "_law_dense_holds" sDh f fd) (B : Bt mg) (zstr : mg "str" = none) (T : Kls K mg "Counts" C cF) (D : Call P w K mg base 1 "_law_next" f0 fd0 ["_law_stream_here", "_law_size"] spDraw)
    (Cpo : Call P w K mg base 2 "_law_pool" f1 fd1 ["_law_stream_here", "_law_count"] spPool) (CSf : Call P w K mg base 2 "_law_shuffled" f3 fd3 ["_law_stream_here", "_law_things"] spSf)
    (MC : CallN P w K mg base 2 C f4 fd4 ["self", "names", "limits"] (spCin C)) (Wi : CallM P w K mg base 6 C "witness" f5 fd5 ["self", "box"] (spWit C)) (Su : CallM P w K mg base 6 C "supported" f6 fd6 ["self", "box", "name"] (spSpd C)) (Cis : Call P w K mg base 2 "_law_is_side" f7 fd7 ["_law_actual"] spIsSide) :
    FnOk P w K mg base CX0 7 f fd ["_law_stream_here"] spDh := by
  refine F.ok scDh (fun vs H Q E h => ?_) (fun cdv A outer s H vs Q E hr h => ?_)
  · obtain ⟨s, rfl, _⟩ := h
    rfl
  · obtain ⟨s, rfl, hs, q⟩ := h
    have hu := hu_of hr
    have nd := scDh.nd
    refine ⟨_, pss_cons (ps_set (i := 1) nd rfl (.inl rfl) (pe_op op_add pe_int (pe_call D.ok (hr.mono (by decide)) (by rfl) D.at_ D.kp D.bd .nil pass0 (pa_cons (pv 0) (pa_cons pe_int pa_nil)))))
      (pss_cons (ps_setLc (i := 2) (own := [("_law_k", 11)]) (g := gName 11) (tt := tYes)  rfl nd rfl rfl (by rfl) (pi_range1 (by rfl) B.range (pa_cons (pv 1) pa_nil)) (blkOk_by (N := nDh) (sc := defScope sDh) (by decide +kernel)) (fun _ _ _ _ _ => pg_name (i := 11) nd rfl (.inl rfl)) (fun _ _ _ _ _ => pts_nil)
          (fun _ _ _ _ _ => (pe_op op_add_str pe_str (pe_callTy call_str_int (by rfl) zstr PyProof.Rows.boot_str (pa_cons (pe_op op_mod (pe_callTy call_int1 (by rfl) B.int PyProof.Rows.boot_int (pa_cons (pe_op op_mul (pv 11) pe_int) pa_nil)) pe_int) pa_nil)))))
      (pss_cons (ps_set (i := 3) nd rfl (.inl rfl) (pe_call Cpo.ok (hr.mono (by decide)) (by rfl) Cpo.at_ Cpo.kp Cpo.bd .nil pass0 (pa_cons (pv 0) (pa_cons (pv 1) pa_nil))))
      (pss_cons (ps_set (i := 5) nd rfl (.inl rfl) (pe_make MC.mkr MC.ok (hr.mono (by decide)) (by rfl) T.gC MC.bd .nil pass0 (pa_cons (pe_call CSf.ok (hr.mono (by decide)) (by rfl) CSf.at_ CSf.kp CSf.bd .nil pass0 (pa_cons (pv 0) (pa_cons (pv 2) pa_nil))) (pa_cons (pe_lc (own := [("_law_value", 4)]) (g := gName 4) (tt := tYes)  rfl nd (pi_list (pv 3)) (blkOk_by (N := nDh) (sc := defScope sDh) (by decide +kernel)) (fun _ _ _ _ _ => pg_name (i := 4) nd rfl (.inl rfl)) (fun _ _ _ _ _ => pts_nil)
        (fun _ _ _ _ _ => (pe_tup (pa_cons (pv 4) (pa_cons pe_int (pa_cons pe_int pa_nil)))))) pa_nil))))
      (pss_cons (ps_set (i := 6) nd rfl (.inl rfl) (pe_ix ix_list (pv 2) (pe_call D.ok (hr.mono (by decide)) (by rfl) D.at_ D.kp D.bd .nil pass0 (pa_cons (pv 0) (pa_cons (pv 1) pa_nil))) (fun _ _ => rfl)))
      (pss_cons (ps_set (i := 7) nd rfl (.inl rfl) (pe_ix ix_list (pv 2) (pe_call D.ok (hr.mono (by decide)) (by rfl) D.at_ D.kp D.bd .nil pass0 (pa_cons (pv 0) (pa_cons (pv 1) pa_nil))) (fun _ _ => rfl)))
      (pss_cons (ps_set (i := 8) nd rfl (.inl rfl) pe_dnewK)
      (pss_cons (ps_for PassesOwn.never rfl (pi_list (pv 2)) (pg_name (i := 9) nd rfl (.inl rfl))
        (pss_one (ps_dput hu (pv 8) (pv 9) (pe_slice sl_list (pv 3) (po_some pe_int) po_none) rfl)))
      (pss_cons (ps_if (PW.pt (pw_or (pt_cmp (pc_notN (pe_meth (pv 5) T.cl Wi.mt Wi.ok (hr.mono (by decide)) Wi.bd .nil pass0 (pa_cons (pv 8) pa_nil)))) (pw_or1 (pt_cmpR (op_neV hr.units) (pe_meth (pv 5) T.cl Su.mt Su.ok (hr.mono (by decide)) Su.bd .nil pass0 (pa_cons (pv 8) (pa_cons (pv 7) pa_nil))) (pe_lst pa_nil) rfl))))
        (pss_one (ps_ret pe_bl))
        pss_nil)
      (pss_cons (ps_expr (pe_bm0 PySem.F.plainAttrs_list PySem.F.slot_list_clear PySem.F.type_list_clear mt_clear (pe_dget hu (pv 8) (pv 6) (fun _ _ => rfl))))
      (pss_cons (ps_for PassesOwn.never rfl (pi_list (pv 3)) (pg_name (i := 4) nd rfl (.inl rfl))
        (pss_one (ps_expr (pe_bm PySem.F.plainAttrs_list PySem.F.slot_list_append PySem.F.type_list_append mt_append (pe_dget hu (pv 8) (pv 6) (fun _ _ => rfl)) (pa_cons (pv 4) pa_nil)))))
      (pss_cons (ps_set (i := 10) nd rfl (.inl rfl) (pe_slice sl_list (pv 3) (po_some pe_int) po_none))
      (pss_cons (ps_if (pt_cmpR op_eq (pv 7) (pv 6) rfl)
        (pss_one (ps_set (i := 10) nd rfl (.inl rfl) (pe_slice sl_list (pv 3) po_none (po_some pe_int))))
        pss_nil)
      (pss_one (ps_ret (L2.pe_and (pe_call Cis.ok (hr.mono (by decide)) (by rfl) Cis.at_ Cis.kp Cis.bd .nil pass0 (pa_cons (pe_meth (pv 5) T.cl Su.mt Su.ok (hr.mono (by decide)) Su.bd .nil pass0 (pa_cons (pv 8) (pa_cons (pv 7) pa_nil))) pa_nil)) (pe_one (pe_cmpR (op_eqV hr.units) (pe_meth (pv 5) T.cl Su.mt Su.ok (hr.mono (by decide)) Su.bd .nil pass0 (pa_cons (pv 8) (pa_cons (pv 7) pa_nil))) (pv 10) rfl))))))))))))))))), ?_⟩
    refine ⟨_, rfl, s, 4, rfl, hs, by decide, by decide, fun H2 y o2 st2 y0 y1 => ⟨10, y, rfl, rfl, ?_⟩⟩
    obtain ⟨j, rfl⟩ : ∃ j : Nat, y = (j : Int) := ⟨y.toNat, by omega⟩
    obtain ⟨m, hm, m10, m13⟩ : ∃ m : Nat, (10 : Int) + (j : Int) = (m : Int) ∧ 10 ≤ m ∧ m ≤ 13 := ⟨10 + j, by omega, by omega, by omega⟩
    show gName 1 (V.int (10 + (j : Int))) _ _ _
    rw [hm]
    refine ⟨_, rfl, (m : Int), rfl, by omega, by omega, fun R nR => ?_⟩
    have Rs : R ≠ s := fun z => st2.some (z ▸ nR)
    refine lc_range (lo := 0) (fun i H' => Same H2 H' ∧ H' R = some (.lst (((List.range i).map dnam).map V.str))) ⟨same_new nR, upd_same⟩ ?_ ?_
    · rintro i H' hi ⟨sm, eR⟩
      refine ⟨rfl, .int (0 + (i : Int)), rfl, 0 + (i : Int), 5, rfl, rfl, .inr ⟨by decide, by decide⟩, .inl ⟨_, rfl, (0 + (i : Int)) * 5, 17, rfl, rfl, ?_, ?_⟩⟩
      · show (0 : Int) < 17
        decide
      · obtain ⟨k, hk, hk17, hkk⟩ : ∃ k : Nat, ((0 + (i : Int)) * 5) % 17 = (k : Int) ∧ k < 17 ∧ k = (i * 5) % 17 := ⟨(i * 5) % 17, by omega, by omega, rfl⟩
        show ∃ j, [V.int (((0 + (i : Int)) * 5) % 17)] = [V.int j] ∧ _
        rw [hk]
        refine ⟨(k : Int), rfl, log17 k (List.mem_range.mpr hk17), _, _, rfl, rfl, ?_, _, eR, ?_, same_at sm nR, ?_⟩
        · have := digits17 k (List.mem_range.mpr hk17)
          exact Nat.le_trans (Nat.add_le_add (show ("n" : Str).length ≤ 1 by decide +kernel) this) (by decide)
        · rw [List.length_map, List.length_map, List.length_range]
          exact small1000 (by omega)
        · rw [upd_same, List.range_succ, List.map_append, List.map_append]
          unfold dnam
          rw [hkk] <;> rfl
    rintro H3 ⟨sm, eR⟩
    obtain ⟨xs, hxs⟩ : ∃ xs, (List.range ((m : Int)).toNat).map dnam = xs := ⟨_, rfl⟩
    have lxs : xs.length = m := by rw [← hxs, List.length_map, List.length_range]; omega
    have nn : xs.Nodup := by rw [← hxs]; exact dnam_nd (by omega)
    have st3 : Strm H3 s := by obtain ⟨x, y, w, e⟩ := st2; exact ⟨x, y, w, sm _ _ e⟩
    rw [hxs] at eR
    clear hxs nR sm
    refine ⟨_, rfl, _, rfl, s, m, rfl, st3, by omega, by omega, fun H4 pl ps k4 npl st4 ep4 srt lps => ?_⟩
    have pls : pl ≠ s := fun z => st3.some (z ▸ npl)
    have en4 := k4 _ _ Rs eR
    refine ⟨_, rfl, _, rfl, Str, V.str, s, R, xs, rfl, st4, en4, by omega, Rs.symm, fun H5 zl zs k5 nzl st5 ezl pmz => ?_⟩
    have zn : zs.Nodup := pmz.nodup_iff.mpr nn
    have lz := pmz.length_eq
    have en5 := k5 _ _ Rs en4
    have ep5 := k5 _ _ pls ep4
    have ndp := srt_ndI srt
    refine ⟨_, rfl, pl, rfl, ⟨_, sl_map ep5⟩, fun Z nZ => lc_list (xs := ps.map V.int) (fun j H' => Same H5 H' ∧ ∃ es : List LmE, H' Z = some (.lst (es.map fun e => V.ref e.1)) ∧ LmT H' es ∧ es.map (·.2) = onceL (ps.take j)) ⟨same_new nZ, [], upd_same, (fun _ h => nomatch h), rfl⟩ (fun j H' _ h => sl_map (h.1 _ _ ep5)) ?_ ?_⟩
    · rintro j x0 H6 hx ⟨s6, es, eZ, lf, cf⟩
      rw [List.getElem?_map] at hx
      obtain ⟨v, hv, rfl⟩ := Option.map_eq_some_iff.mp hx
      have hj := (List.getElem?_eq_some_iff.mp hv).1
      have les : es.length = j := by have := congrArg List.length cf; unfold onceL at this; rw [List.length_map, List.length_map, List.length_take] at this; omega
      refine ⟨rfl, _, rfl, by show 3 ≤ sizeLine; decide, fun T nT => ?_⟩
      have sT := same_new (o := HO.tup [V.int v, .int 0, .int 1]) nT
      have TZ : T ≠ Z := fun z => by rw [z, eZ] at nT; cases nT
      refine ⟨_, sT _ _ eZ, by rw [List.length_map]; exact small1000 (by omega), same_at (s6.trans sT) nZ, es ++ [(T, v, 0, 1)], by rw [upd_same, List.map_append] <;> rfl, fun g hg => ?_, ?_⟩
      · rcases List.mem_append.mp hg with h | h
        · have h1 := sT _ _ (lf g h)
          have : g.1 ≠ Z := fun z => by have h2 := lf g h; rw [z, eZ] at h2; cases h2
          rw [upd_ne this]; exact h1
        · rw [List.mem_singleton.mp h, upd_ne TZ]; exact upd_same
      · rw [take_snoc hv, List.map_append, cf, onceL_snoc] <;> rfl
    rintro H6 ⟨s6, es, eZ, lf, cf⟩
    rw [List.length_map, List.take_length] at cf
    have les : es.length = ps.length := by have := congrArg List.length cf; unfold onceL at this; rw [List.length_map, List.length_map] at this; exact this
    have snd : Sound (onceL ps) := once_sound ndp
    have l100 : (onceL ps).length ≤ 100 := by unfold onceL; rw [List.length_map]; omega
    refine fun p dx nu ndx ne => ⟨p, dx, zl, Z, zs, es, rfl, upd_same, same_at (same_new ndx) nu _ _ (s6 _ _ ezl), ?_, zn, by omega, same_at (same_new ndx) nu _ _ eZ, lf.same (same_at (same_new ndx) nu), cf ▸ snd, by omega, fun H7 ct kp => ⟨rfl, ?_⟩⟩
    · intro z; rw [z] at lz; have : ([] : List Str).length = 0 := rfl; omega
    rw [cf] at ct
    have s7 : Same H6 H7 := fun b o e => kp b o (ne_some' e nu) (by rw [upd_ne (ne_some' e nu)]; exact same_new ndx _ _ e)
    have S7 := s6.trans s7
    have st7 : Strm H7 s := by obtain ⟨x, y, w, e⟩ := st5; exact ⟨x, y, w, S7 _ _ e⟩
    have en7 := S7 _ _ en5
    have ep7 := S7 _ _ ep5
    clear nZ kp s7 S7 ndx nu ne ezl st5 nzl k5 en5 ep5 en4 ep4 st4 npl k4 eR st3 s6 eZ lf les st2 o2 y0 y1 H5 H4 H3 H2
    refine ⟨_, rfl, _, rfl, _, rfl, s, _, rfl, st7, by omega, by omega, fun H8 y o8 st8 y0 y1 => ?_⟩
    obtain ⟨a, rfl⟩ : ∃ m : Nat, y = (m : Int) := ⟨y.toNat, by omega⟩
    obtain ⟨name, ha⟩ : ∃ n, xs[a]? = some n := ⟨xs[a]'(by omega), List.getElem?_eq_getElem (by omega)⟩
    have en8 := (o8 _ Rs).trans en7
    have ep8 := (o8 _ pls).trans ep7
    have ct8 := ct_keep ct st7 ((Keep.refl _ _).oth o8)
    refine ⟨R, _, _, .str name, rfl, rfl, sl_map en8, atI_nat (j := a) (by rw [List.getElem?_map, ha] <;> rfl), ?_⟩
    refine ⟨_, rfl, _, rfl, _, rfl, s, _, rfl, st8, by omega, by omega, fun H9 y o9 st9 y0 y1 => ?_⟩
    obtain ⟨b, rfl⟩ : ∃ m : Nat, y = (m : Int) := ⟨y.toNat, by omega⟩
    obtain ⟨other, hb⟩ : ∃ n, xs[b]? = some n := ⟨xs[b]'(by omega), List.getElem?_eq_getElem (by omega)⟩
    have en9 := (o9 _ Rs).trans en8
    have ep9 := (o9 _ pls).trans ep8
    have ct9 := ct_keep ct8 st8 ((Keep.refl _ _).oth o9)
    have nin : name ∈ xs := List.mem_of_getElem? ha
    have oin : other ∈ xs := List.mem_of_getElem? hb
    refine ⟨R, _, _, .str other, rfl, rfl, sl_map en9, atI_nat (j := b) (by rw [List.getElem?_map, hb] <;> rfl), ?_⟩
    clear st9 o9 st8 o8 ct8 ep8 en8 H8 ct ep7 en7 st7 H7 y0 y1
    obtain ⟨p0, tl, rfl⟩ : ∃ p0 tl, ps = p0 :: tl := by
      cases ps with
      | nil => have h0 : ([] : List Int).length = 0 := rfl; omega
      | cons a b => exact ⟨a, b, rfl⟩
    have ltl : tl.length + 1 = xs.length := lps.trans lxs.symm
    refine fun d nd0 => ?_
    obtain ⟨H10, e10, s10, nb10⟩ : ∃ H10, upd H9 d (.dK []) = H10 ∧ Same H9 H10 ∧ Nb H9 H10 d [] := ⟨_, rfl, same_new nd0, Nb.nil nd0 upd_same⟩
    rw [e10]
    refine ⟨_, rfl, R, rfl, ⟨_, sl_map (s10 _ _ en9)⟩, for_list (xs := xs.map V.str) (fun i σ H' => ∃ (y9 : Option V) (M : List Ent), σ = [some (.ref s), some (.int (m : Int)), some (.ref R), some (.ref pl), none, some (.ref p), some (.str name), some (.str other), some (.ref d), y9, none, none] ∧ Same H9 H' ∧ Nb H9 H' d M ∧ M.map (·.1) = xs.take i ∧ ∀ e ∈ M, e.2.2 = tl)
      ⟨none, [], rfl, s10, nb10, rfl, fun _ h => nomatch h⟩ (fun i σ H' _ h => by obtain ⟨_, _, _, h, _⟩ := h; exact sl_map (h _ _ en9)) ?_ ?_⟩
    · rintro i x0 σ H1 hx0 ⟨y9, M, rfl, s1, nb1, keys, sd⟩
      rw [List.getElem?_map] at hx0
      obtain ⟨x, hx1, rfl⟩ := Option.map_eq_some_iff.mp hx0
      have hi := (List.getElem?_eq_some_iff.mp hx1).1
      have lM : M.length = i := by have := congrArg List.length keys; rw [List.length_map, List.length_take] at this; omega
      refine ⟨_, rfl, _, rfl, pl, _, rfl, sl_map (s1 _ _ ep9), fun Y nY => ?_⟩
      rw [show cutV ((p0 :: tl).map V.int) (some 1) none = tl.map V.int from (cutV_from ((p0 :: tl).map V.int) 1).trans rfl]
      have s2 := same_new (o := HO.lst (tl.map V.int)) nY
      have nx : x ∉ M.map (·.1) := by rw [keys]; exact not_take nn hx1
      refine ⟨_, rfl, _, rfl, d, _, rfl, DPut.k (k := .inr x) (s2 _ _ nb1.un) (by rw [entK_len]; exact small1000 (by omega)), ?_⟩
      rw [putK_ent]
      refine ⟨_, putE M x Y tl, rfl, ?_, nb1.put (s1.free nY) nY s2 upd_same (by omega), ?_, fun e he => ?_⟩
      · exact same_at (s1.trans s2) nb1.fresh
      · rw [putE_keys, if_neg nx, keys, take_snoc hx1]
      · rcases putE_mem he with h | ⟨h, _⟩
        · rw [h]
        · exact sd e h
    rintro σ H1 ⟨y9, M, rfl, s1, nb1, keys, sd⟩
    rw [List.length_map, List.take_length] at keys
    clear e10 s10 nb10 nd0 H10
    have lM : M.length = xs.length := by rw [← keys, List.length_map]
    have ent : ∀ x ∈ xs, ∃ a, (x, a, tl) ∈ M := fun x hx => by
      rw [← keys] at hx
      obtain ⟨⟨x', a, s'⟩, he, rfl⟩ := List.mem_map.mp hx
      exact ⟨a, by have h := sd _ he; rw [show s' = tl from h] at he; exact he⟩
    have ndK : (M.map (·.1)).Nodup := nb1.nd
    have fit0 : Fit M zs fun _ => tl := fun x hx => by
      obtain ⟨a, ha⟩ := ent x (pmz.mem_iff.mp hx)
      exact look_in ndK ha
    have srtl : Srt tl := (List.pairwise_cons.mp srt).2
    have sds0 : Sds zs fun _ => tl := ⟨fun _ _ => srtl, fun _ _ => by omega⟩
    have ct1 := ct9.same s1
    obtain ⟨dx, fs, hp, _, _, hwi, _, _⟩ := ct_self ct1
    refine ⟨_, rfl, p, dx, _, rfl, hp, hwi, _, rfl, p, d, zs, _, M, _, rfl, ct1, snd, l100, zn, by omega, nb1.toBu, fit0, sds0, fun H2 v s2 fr => ?_⟩
    cases fr with
    | least x c _ _ inj _ => exact absurd ⟨c, inj⟩ (few_no ndp (fun _ _ => rfl) (by omega : tl.length < zs.length))
    | no _ =>
      have nb2 := nb1.push s2
      have S2 := s1.trans s2
      have ct2 := ct9.same S2
      obtain ⟨dx, fs, hp, _, _, _, hsu, _⟩ := ct_self ct2
      refine ⟨_, rfl, ite_both (fun c => absurd c (by simp)) fun _ => ?_⟩
      refine ⟨_, rfl, p, dx, _, rfl, hp, hsu, _, rfl, _, rfl, p, d, other, zs, _, M, _, rfl, ct2, snd, l100, zn, by omega, nb2.toBu, fit0, sds0, pmz.mem_iff.mpr oin, fun H3 r s3 nr er => ?_⟩
      rw [few_none (S := fun _ => tl) ndp (fun _ _ => rfl) (by omega : tl.length < zs.length) (pmz.mem_iff.mpr oin)] at er
      refine ⟨by show 0 ≤ sizeLine; decide, fun t nt => ?_⟩
      have s4 := same_new (o := HO.lst []) nt
      refine ⟨r, t, _, _, rfl, rfl, sl_map (s4 _ _ er), sl_map upd_same, ⟨1, by decide, paired_ints []⟩, false, rfl, iteF ?_⟩
      have S4 := S2.trans (s3.trans s4)
      have nb4 := nb2.push (s3.trans s4)
      obtain ⟨H4, e4⟩ : ∃ H4, upd H3 t (.lst []) = H4 := ⟨_, rfl⟩
      rw [e4] at S4 nb4 ⊢
      clear e4 s4 nt er nr s3 hp ct2 nb2 S2 s2 ct1 nb1 s1
      obtain ⟨a0, hm⟩ := ent name nin
      obtain ⟨ga, ea⟩ := nb4.dget hm
      have a0n : H9 a0 = none := nb4.freshS _ hm
      refine ⟨_, rfl, _, rfl, d, .ref a0, rfl, ga, .inl ⟨rfl, _, sl_map ea⟩, a0, _, rfl, rfl, ea, ?_⟩
      have S5 := same_at (o := HO.lst []) S4 a0n
      have nb5 : Nb H9 (upd H4 a0 (.lst [])) d (repl M name []) := nb4.repl (ks := []) hm
      refine ⟨_, rfl, pl, rfl, ⟨_, sl_map (S5 _ _ ep9)⟩, for_list (xs := (p0 :: tl).map V.int) (fun i σ H' => ∃ (y4 : Option V), σ = [some (.ref s), some (.int (m : Int)), some (.ref R), some (.ref pl), y4, some (.ref p), some (.str name), some (.str other), some (.ref d), y9, none, none] ∧ Same H9 H' ∧ Nb H9 H' d (repl M name ((p0 :: tl).take i)))
        ⟨none, rfl, S5, nb5⟩ (fun i σ H' _ h => by obtain ⟨_, _, h, _⟩ := h; exact sl_map (h _ _ ep9)) ?_ ?_⟩
      · rintro i x0 σ H1 hx0 ⟨y4, rfl, s1, nb⟩
        rw [List.getElem?_map] at hx0
        obtain ⟨v, hv, rfl⟩ := Option.map_eq_some_iff.mp hx0
        have hi := (List.getElem?_eq_some_iff.mp hv).1
        obtain ⟨ga, ea⟩ := nb.dget (repl_in hm)
        refine ⟨_, rfl, _, rfl, d, .ref a0, rfl, ga, .inl ⟨rfl, _, sl_map ea⟩, _, rfl, a0, _, _, rfl, rfl, ea, by rw [List.length_map, List.length_take]; exact small1000 (by omega), _, rfl, same_at s1 a0n, ?_⟩
        have := nb.repl (ks := (p0 :: tl).take (i + 1)) (repl_in hm)
        rw [repl_repl, take_snoc hv, List.map_append] at this
        rw [take_snoc hv]
        exact this
      clear S5 nb5 ga ea S4 nb4 H4
      rintro σ H5 ⟨y4, rfl, s1, nb1⟩
      rw [List.length_map, List.take_length] at nb1
      have mz := fun x => (pmz.mem_iff (a := x))
      have D1 : Dns zs (fun x => if x = name then p0 :: tl else tl) name p0 tl := ⟨zn, (mz _).mpr nin, ndp, by omega, if_pos rfl, fun x _ ne => if_neg ne⟩
      have nd1 : ((repl M name (p0 :: tl)).map (·.1)).Nodup := nb1.nd
      have fit1 : Fit (repl M name (p0 :: tl)) zs (fun x => if x = name then p0 :: tl else tl) := fun x hx => by
        by_cases c : x = name
        · show _ = some (if x = name then p0 :: tl else tl)
          rw [if_pos c, c]; exact look_in nd1 (repl_in hm)
        · show _ = some (if x = name then p0 :: tl else tl)
          rw [if_neg c, look_repl c]; exact fit0 x hx
      have sds1 : Sds zs (fun x => if x = name then p0 :: tl else tl) := by
        have lp : (p0 :: tl).length = tl.length + 1 := rfl
        refine ⟨fun x hx => ?_, fun x hx => ?_⟩
        · show Srt (if x = name then p0 :: tl else tl)
          split
          · exact srt
          · exact srtl
        · show (if x = name then p0 :: tl else tl).length ≤ 30
          split <;> omega
      obtain ⟨U, hU⟩ : ∃ U, U = ((fun x => if x = name then p0 :: tl else tl : Str → List Int) other).filter (fun v => feB (hiOf (onceL (p0 :: tl))) (loOf (onceL (p0 :: tl))) zs (nar (fun x => if x = name then p0 :: tl else tl) other v)) := ⟨_, rfl⟩
      have own : other = name → U = [p0] := fun c => by rw [hU, c]; exact D1.own
      have oth : other ≠ name → U = tl := fun c => by rw [hU]; exact D1.other ((mz _).mpr oin) c
      refine ⟨_, rfl, _, rfl, pl, _, rfl, sl_map (s1 _ _ ep9), fun Y nY => ?_⟩
      rw [show cutV ((p0 :: tl).map V.int) (some 1) none = tl.map V.int from (cutV_from ((p0 :: tl).map V.int) 1).trans rfl]
      have s2 := same_new (o := HO.lst (tl.map V.int)) nY
      refine' with_restS (fun σ H' => ∃ (du : Addr), σ = [some (.ref s), some (.int (m : Int)), some (.ref R), some (.ref pl), y4, some (.ref p), some (.str name), some (.str other), some (.ref d), y9, some (.ref du), none] ∧ Same H5 H' ∧ H' du = some (.lst (U.map V.int))) ?r1 (fun rest => ⟨_, rfl, _, rfl, rfl, _, rfl, ite_both (fun c => ?g1) fun c => rest _ _ ⟨Y, rfl, s2, ?g2⟩⟩)
      case' g2 =>
        rw [oth (fun z => by rw [z] at c; simp at c)]; exact upd_same
      case' g1 =>
        refine ⟨_, rfl, _, rfl, pl, _, rfl, sl_map (s2 _ _ (s1 _ _ ep9)), fun Z nZ => rest _ _ ⟨Z, rfl, s2.trans (same_new nZ), ?_⟩⟩
        rw [show cutV ((p0 :: tl).map V.int) none (some 1) = [p0].map V.int from (cutV_to ((p0 :: tl).map V.int) 1).trans rfl, own (V.str.inj (of_decide_eq_true c))]
        exact upd_same
      rintro σ H6 ⟨du, rfl, s6, eu⟩
      have S6 := s1.trans s6
      have ct6 := ct9.same S6
      obtain ⟨dx, fs, hp, _, _, _, hsu, _⟩ := ct_self ct6
      have nb6 := nb1.push s6
      refine ⟨_, rfl, p, dx, _, rfl, hp, hsu, _, rfl, _, rfl, p, d, other, zs, _, _, _, rfl, ct6, snd, l100, zn, by omega, nb6.toBu, fit1, sds1, (mz _).mpr oin, fun H7 r s7 nr er => ?_⟩
      rw [← hU] at er
      have Rok : Srt U ∧ U.length ≤ 1000 := by
        by_cases c : other = name
        · rw [own c]; exact ⟨List.pairwise_singleton _ _, by show 1 ≤ 1000; decide⟩
        · rw [oth c]; exact ⟨srtl, by omega⟩
      refine ⟨r, U, rfl, er, Rok.1, Rok.2, fun H8' s8 => ?_⟩
      refine ⟨true, rfl, ?_⟩
      rw [if_pos rfl]
      have S8 := S6.trans (s7.trans s8)
      have ct10 := ct9.same S8
      obtain ⟨dx, fs, hp, _, _, _, hsu, _⟩ := ct_self ct10
      have nb8 := nb6.push (s7.trans s8)
      refine ⟨_, rfl, p, dx, _, rfl, hp, hsu, _, rfl, _, rfl, p, d, other, zs, _, _, _, rfl, ct10, snd, l100, zn, by omega, nb8.toBu, fit1, sds1, (mz _).mpr oin, fun H9' r2 s9 nr2 er2 => ?_⟩
      rw [← hU] at er2
      exact ⟨_, rfl, 1, by decide, .inl ⟨r2, du, _, _, rfl, rfl, sl_map er2, sl_map (s9 _ _ (s8 _ _ (s7 _ _ eu))), paired_ints _⟩, q _⟩
end
end K22
set_option Elab.async false
set_option linter.all false
set_option maxRecDepth 100000
set_option maxHeartbeats 4000000
namespace K22
open PySem PySem.Spec PyProof.Rows L2 Cs CsX
structure Lw (C : Addr) (H1 H : Hp) (s p p2 en en2 : Addr) (ns : List Str) (es fs : List LmE) : Prop where
  s1 : Same H1 H
  st : Strm H s
  e1 : H en = some (.lst (es.map fun e => V.ref e.1))
  l1 : LmT H es
  n1 : en ≠ s
  e2 : H en2 = some (.lst (fs.map fun e => V.ref e.1))
  l2 : LmT H fs
  n2 : en2 ≠ s
  u1 : Ct C H p ns (es.map (·.2))
  u2 : Ct C H p2 ns (fs.map (·.2))
theorem Lw.keep {C : Addr} {H1 H H' : Hp} {s p p2 en en2 : Addr} {ns : List Str} {es fs : List LmE} (L : Lw C H1 H s p p2 en en2 ns es fs) (n : H1 s = none) (k : Keep s H H') (st : Strm H' s) : Lw C H1 H' s p p2 en en2 ns es fs :=
  ⟨keep_same L.s1 k n, st, k _ _ L.n1 L.e1, fun e he => keep_tup' L.st k (L.l1 e he), L.n1, k _ _ L.n2 L.e2, fun e he => keep_tup' L.st k (L.l2 e he), L.n2, ct_keep L.u1 L.st k, ct_keep L.u2 L.st k⟩
theorem Lw.same {C : Addr} {H1 H H' : Hp} {s p p2 en en2 : Addr} {ns : List Str} {es fs : List LmE} (L : Lw C H1 H s p p2 en en2 ns es fs) (n : H1 s = none) (k : Same H H') : Lw C H1 H' s p p2 en en2 ns es fs :=
  L.keep n (Keep.same k) (by obtain ⟨x, y, w, e⟩ := L.st; exact ⟨x, y, w, k _ _ e⟩)
theorem ct_upd {C : Addr} {H : Hp} {p l : Addr} {ns : List Str} {ls : List Lim3} {xs : List V} {o : HO} (R : Ct C H p ns ls) (h : H l = some (.lst xs)) : Ct C (upd H l o) p ns ls := by
  obtain ⟨dx, t, r, fs, h1, ⟨o', po, h2⟩, h3, h4, h5⟩ := R
  have ne : ∀ {b : Addr} {u : HO}, H b = some u → (∀ xs, u ≠ .lst xs) → b ≠ l := fun g n z => by
    rw [z, h] at g; exact n _ (Option.some.inj g).symm
  exact ⟨dx, t, r, fs, by rw [upd_ne (ne h1 (fun _ z => by cases z))]; exact h1, ⟨o', po, by rw [upd_ne (ne h2 (fun _ z => by cases z))]; exact h2⟩, by rw [upd_ne (ne h3 (fun _ z => by cases z))]; exact h3, fun e he => by rw [upd_ne (ne (h4 e he) (fun _ z => by cases z))]; exact h4 e he, h5⟩
theorem RLs.keep {H H' : Hp} {s l : Addr} {rs : List (Addr × List Int)} (r : RLs H l rs) (k : Keep s H H') (n : l ≠ s) (m : ∀ e ∈ rs, e.1 ≠ s) : RLs H' l rs := ⟨k _ _ n r.lst, fun e he => k _ _ (m e he) (r.row e he)⟩
theorem rowsK_len {ls : List Lim3} {S : Str → List Int} {k : Nat} {ws : List Str} (h : ∀ x ∈ ws, (S x).length ≤ k) : (rowsK ls S ws).length ≤ k ^ ws.length := by
  have := rowsU_len h ws.length (Nat.le_refl _)
  rw [List.take_length] at this
  exact Nat.le_trans (List.length_filter_le _ _) this
theorem rowsK_row {ls : List Lim3} (so : Sound ls) {S : Str → List Int} {ws : List Str} (nd : ws.Nodup) {r : List Int} (h : r ∈ rowsK ls S ws) : r.length = ws.length := by
  obtain ⟨g, _, rfl⟩ := (rowsK_iff so nd r).mp h
  exact List.length_map _
section
variable {P : Program} {w : World} {K : PySem.W.Frag} {mg : Str → Option Value} {base : Heap}
abbrev sLaw : Stmt := topS 49
abbrev nLaw : List Str := ["_law_script", "_law_world_here", "_law_scope_here", "_law_entries_here", "_law_other_entries", "_law_stream_here", "_law_spoil", "_law_passed", "_law_rule", "_law_other", "_law_rows", "_law_again", "_law_other_rows"]
theorem scLaw : FnScope nLaw ["_law_script"] (defScope sLaw) := ⟨rfl, rfl, rfl, by decide +kernel, rfl, by decide +kernel, by decide +kernel⟩
def spLaw (K : PySem.W.Frag) : Sp := fun vs H Q _ => ∃ (a : Addr) (ns : List Int), vs = [.ref a] ∧ SqL K H a (ns.map V.int) ∧ ns.length ≤ 63 ∧ ∀ H', Q (.bl true) H'
theorem ok_Law {f f0 f1 f2 f3 f4 f5 f6 f7 f8 f9 C : Addr} {fd fd0 fd1 fd2 fd3 fd4 fd5 fd6 fd7 fd8 fd9 : FuncData} (F : Fun K "law" "law" sLaw f fd) (B : Bt mg) (ztuple : mg "tuple" = none) (T : Kls K mg "Counts" C cF)
    (CWor : Call P w K mg base 3 "_law_world" f0 fd0 ["_law_script"] (spWor K)) (Cst : Call P w K mg base 1 "_law_stream" f1 fd1 ["_law_script", "_law_k"] (spStream K)) (D : Call P w K mg base 1 "_law_next" f2 fd2 ["_law_stream_here", "_law_size"] spDraw)
    (MC : CallN P w K mg base 2 C f3 fd3 ["self", "names", "limits"] (spCin C)) (CEnt : Call P w K mg base 3 "_law_entries" f7 fd7 ["_law_stream_here", "_law_pool_here"] spEnt) (CCr : Call P w K mg base 2 "_law_counted_rows" f8 fd8 ["_law_scope_here", "_law_sides_here", "_law_entries_here"] spCr) (CSl : Call P w K mg base 2 "_law_same_limits" f9 fd9 ["_law_actual", "_law_entries_here"] spSl) (CBh : Call P w K mg base 7 "_law_box_holds" f4 fd4 ["_law_rule", "_law_scope_here", "_law_rows", "_law_sides_here", "_law_asked", "_law_spoil"] (spBh C))
    (CAh : Call P w K mg base 3 "_law_allowing_holds" f5 fd5 ["_law_rule", "_law_scope_here", "_law_entries_here", "_law_rows", "_law_stream_here", "_law_pool_here"] (spAh C)) (CDh : Call P w K mg base 7 "_law_dense_holds" f6 fd6 ["_law_stream_here"] spDh) :
    FnOk P w K mg base CX0 8 f fd ["_law_script"] (spLaw K) := by
  refine F.ok scLaw (fun vs H Q E h => ?_) (fun cdv A outer s H vs Q E hr h => ?_)
  · obtain ⟨a, ns, rfl, _⟩ := h
    rfl
  · obtain ⟨a, cs, rfl, ha, ln, q⟩ := h
    have hu := hu_of hr
    have nd := scLaw.nd
    refine ⟨_, pss_cons (ps_set (i := 1) nd rfl (.inl rfl) (pe_call CWor.ok (hr.mono (by decide)) (by rfl) CWor.at_ CWor.kp CWor.bd .nil pass0 (pa_cons (pv 0) pa_nil)))
      (pss_cons (ps_set (i := 2) nd rfl (.inl rfl) (pe_ix ix_list (pv 1) pe_int (fun _ _ => rfl)))
      (pss_cons (ps_set (i := 3) nd rfl (.inl rfl) (pe_call CEnt.ok (hr.mono (by decide)) (by rfl) CEnt.at_ CEnt.kp CEnt.bd .nil pass0 (pa_cons (pe_call Cst.ok (hr.mono (by decide)) (by rfl) Cst.at_ Cst.kp Cst.bd .nil pass0 (pa_cons (pv 0) (pa_cons pe_int pa_nil))) (pa_cons (pe_ix ix_list (pv 1) pe_int (fun _ _ => rfl)) pa_nil))))
      (pss_cons (ps_set (i := 4) nd rfl (.inl rfl) (pe_call CEnt.ok (hr.mono (by decide)) (by rfl) CEnt.at_ CEnt.kp CEnt.bd .nil pass0 (pa_cons (pe_call Cst.ok (hr.mono (by decide)) (by rfl) Cst.at_ Cst.kp Cst.bd .nil pass0 (pa_cons (pv 0) (pa_cons pe_int pa_nil))) (pa_cons (pe_ix ix_list (pv 1) pe_int (fun _ _ => rfl)) pa_nil))))
      (pss_cons (ps_set (i := 5) nd rfl (.inl rfl) (pe_call Cst.ok (hr.mono (by decide)) (by rfl) Cst.at_ Cst.kp Cst.bd .nil pass0 (pa_cons (pv 0) (pa_cons pe_int pa_nil))))
      (pss_cons (ps_set (i := 6) nd rfl (.inl rfl) (pe_cmpR op_eq (pe_call D.ok (hr.mono (by decide)) (by rfl) D.at_ D.kp D.bd .nil pass0 (pa_cons (pv 5) (pa_cons pe_int pa_nil))) pe_int rfl))
      (pss_cons (ps_set (i := 7) nd rfl (.inl rfl) (pe_lst (pa_cons (pe_callTy call_list_of (by rfl) B.list PyProof.Rows.boot_list (pa_cons (pv 2) pa_nil)) (pa_cons (pe_callTy call_list_of (by rfl) B.list PyProof.Rows.boot_list (pa_cons (pv 3) pa_nil)) pa_nil))))
      (pss_cons (ps_set (i := 8) nd rfl (.inl rfl) (pe_make MC.mkr MC.ok (hr.mono (by decide)) (by rfl) T.gC MC.bd .nil pass0 (pa_cons (pe_ix ix_list (pv 7) pe_int (fun _ _ => rfl)) (pa_cons (pe_ix ix_list (pv 7) pe_int (fun _ _ => rfl)) pa_nil))))
      (pss_cons (ps_expr (pe_bm0 PySem.F.plainAttrs_list PySem.F.slot_list_clear PySem.F.type_list_clear mt_clear (pe_ix ix_list (pv 7) pe_int (fun _ _ => rfl))))
      (pss_cons (ps_expr (pe_bm0 PySem.F.plainAttrs_list PySem.F.slot_list_clear PySem.F.type_list_clear mt_clear (pe_ix ix_list (pv 7) pe_int (fun _ _ => rfl))))
      (pss_cons (ps_set (i := 9) nd rfl (.inl rfl) (pe_make MC.mkr MC.ok (hr.mono (by decide)) (by rfl) T.gC MC.bd .nil pass0 (pa_cons (pe_callTy call_list_of (by rfl) B.list PyProof.Rows.boot_list (pa_cons (pv 2) pa_nil)) (pa_cons (pe_callTy call_list_of (by rfl) B.list PyProof.Rows.boot_list (pa_cons (pv 4) pa_nil)) pa_nil))))
      (pss_cons (ps_set (i := 10) nd rfl (.inl rfl) (pe_call CCr.ok (hr.mono (by decide)) (by rfl) CCr.at_ CCr.kp CCr.bd .nil pass0 (pa_cons (pv 2) (pa_cons (pe_ix ix_list (pv 1) pe_int (fun _ _ => rfl)) (pa_cons (pv 3) pa_nil)))))
      (pss_cons (ps_if (pt_not (pt_val (pe_call CBh.ok (hr.mono (by decide)) (by rfl) CBh.at_ CBh.kp CBh.bd .nil pass0 (pa_cons (pv 8) (pa_cons (pv 2) (pa_cons (pv 10) (pa_cons (pe_ix ix_list (pv 1) pe_int (fun _ _ => rfl)) (pa_cons (pv 2) (pa_cons (pv 6) pa_nil)))))))))
        (pss_one (ps_ret pe_bl))
        pss_nil)
      (pss_cons (ps_if (pt_not (pt_val (pe_call CAh.ok (hr.mono (by decide)) (by rfl) CAh.at_ CAh.kp CAh.bd .nil pass0 (pa_cons (pv 8) (pa_cons (pv 2) (pa_cons (pv 3) (pa_cons (pv 10) (pa_cons (pv 5) (pa_cons (pe_ix ix_list (pv 1) pe_int (fun _ _ => rfl)) pa_nil)))))))))
        (pss_one (ps_ret pe_bl))
        pss_nil)
      (pss_cons (ps_set (i := 11) nd rfl (.inl rfl) (pe_lst (pa_cons (pe_ix ix_list (pv 2) (pe_call D.ok (hr.mono (by decide)) (by rfl) D.at_ D.kp D.bd .nil pass0 (pa_cons (pv 5) (pa_cons (pe_callB call_len_seq (by rfl) B.len PySem.boot_len (pa_cons (pv 2) pa_nil)) pa_nil))) (fun _ _ => rfl)) pa_nil)))
      (pss_cons (ps_set (i := 12) nd rfl (.inl rfl) (pe_call CCr.ok (hr.mono (by decide)) (by rfl) CCr.at_ CCr.kp CCr.bd .nil pass0 (pa_cons (pv 2) (pa_cons (pe_ix ix_list (pv 1) pe_int (fun _ _ => rfl)) (pa_cons (pv 4) pa_nil)))))
      (pss_cons (ps_if (pt_not (pt_val (pe_call CBh.ok (hr.mono (by decide)) (by rfl) CBh.at_ CBh.kp CBh.bd .nil pass0 (pa_cons (pv 9) (pa_cons (pv 2) (pa_cons (pv 12) (pa_cons (pe_ix ix_list (pv 1) pe_int (fun _ _ => rfl)) (pa_cons (pv 11) (pa_cons (pv 6) pa_nil)))))))))
        (pss_one (ps_ret pe_bl))
        pss_nil)
      (pss_cons (ps_if (pt_not (pt_val (pe_call CBh.ok (hr.mono (by decide)) (by rfl) CBh.at_ CBh.kp CBh.bd .nil pass0 (pa_cons (pv 8) (pa_cons (pv 2) (pa_cons (pe_call CCr.ok (hr.mono (by decide)) (by rfl) CCr.at_ CCr.kp CCr.bd .nil pass0 (pa_cons (pv 2) (pa_cons (pe_ix ix_list (pv 1) pe_int (fun _ _ => rfl)) (pa_cons (pv 3) pa_nil)))) (pa_cons (pe_ix ix_list (pv 1) pe_int (fun _ _ => rfl)) (pa_cons (pv 11) (pa_cons (pv 6) pa_nil)))))))))
        (pss_one (ps_ret pe_bl))
        pss_nil)
      (pss_cons (ps_if (pt_not (pt_val (pe_call CBh.ok (hr.mono (by decide)) (by rfl) CBh.at_ CBh.kp CBh.bd .nil pass0 (pa_cons (pv 8) (pa_cons (pv 2) (pa_cons (pv 10) (pa_cons (pe_ix ix_list (pv 1) pe_int (fun _ _ => rfl)) (pa_cons (pv 11) (pa_cons (pv 6) pa_nil)))))))))
        (pss_one (ps_ret pe_bl))
        pss_nil)
      (pss_cons (ps_if (PW.pt (pw_or (pt_not (pt_val (pe_callB call_isi (by rfl) B.isi PyProof.Rows.boot_isinstance (pa_cons (pe_fld (pv 8) rfl) (pa_cons (pe_bltn (by rfl) ztuple PyProof.Rows.boot_tuple (v := .ty "tuple") rfl) pa_nil))))) (pw_or1 (pt_cmpR (op_neV hr.units) (pe_callTy call_list_of (by rfl) B.list PyProof.Rows.boot_list (pa_cons (pe_fld (pv 8) rfl) pa_nil)) (pv 2) rfl))))
        (pss_one (ps_ret pe_bl))
        pss_nil)
      (pss_cons (ps_if (pt_not (pt_val (pe_call CSl.ok (hr.mono (by decide)) (by rfl) CSl.at_ CSl.kp CSl.bd .nil pass0 (pa_cons (pe_fld (pv 8) rfl) (pa_cons (pv 3) pa_nil)))))
        (pss_one (ps_ret pe_bl))
        pss_nil)
      (pss_one (ps_ret (L2.pe_or (pe_cmpR op_lt (pe_call D.ok (hr.mono (by decide)) (by rfl) D.at_ D.kp D.bd .nil pass0 (pa_cons (pv 5) (pa_cons pe_int pa_nil))) pe_int rfl) (pe_one (pe_call CDh.ok (hr.mono (by decide)) (by rfl) CDh.at_ CDh.kp CDh.bd .nil pass0 (pa_cons (pv 5) pa_nil)))))))))))))))))))))))))), ?_⟩
    refine ⟨_, rfl, a, cs, rfl, ha, fun H1 r pl sc b1 b2 ps ns L1 L2 S1 S2 k s1 W => ?_⟩
    refine ⟨_, rfl, r, _, _, .ref sc, rfl, rfl, sl_map W.er, atI_nat (j := 1) rfl, ?_⟩
    -- the entries
    refine ⟨_, rfl, a, cs, 3, rfl, s1.seq ha, fun H2 q3 s2 ns3 st2 => ?_⟩
    refine ⟨_, rfl, r, _, _, .ref pl, rfl, rfl, sl_map (s2 _ _ W.er), atI_nat (j := 0) rfl, ?_⟩
    refine ⟨q3, pl, ps, rfl, st2, s2 _ _ W.ep, ne_some' W.ep ns3, W.sp, W.p1, W.p20, fun H3 en es k3 nen st3 enq een lte soe les => ?_⟩
    have S3 : Same H1 H3 := keep_same s2 k3 ns3
    clear enq st3 nen k3 st2
    refine ⟨_, rfl, a, cs, 4, rfl, (s1.trans S3).seq ha, fun H4 q4 s4 ns4 st4 => ?_⟩
    refine ⟨_, rfl, r, _, _, .ref pl, rfl, rfl, sl_map (s4 _ _ (S3 _ _ W.er)), atI_nat (j := 0) rfl, ?_⟩
    refine ⟨q4, pl, ps, rfl, st4, s4 _ _ (S3 _ _ W.ep), ne_some' (S3 _ _ W.ep) ns4, W.sp, W.p1, W.p20, fun H5 en2 fs k5 nen st5 enq een2 ltf sof lfs => ?_⟩
    have S35 : Same H3 H5 := keep_same s4 k5 ns4
    have S5 : Same H1 H5 := S3.trans S35
    replace een := S35 _ _ een
    replace lte := lte.same S35
    clear enq st5 nen k5 st4 s4 ns4 S35 S3 s2 ns3
    refine ⟨_, rfl, a, cs, 5, rfl, (s1.trans S5).seq ha, fun H6 s s6 ns0 st6 => ?_⟩
    refine ⟨_, rfl, s, 2, rfl, st6, by decide, by decide, fun H7 y o7 st7 _ _ => ⟨rfl, ?_⟩⟩
    have S57 : Same H5 H7 := keep_same s6 ((Keep.refl _ _).oth o7) ns0
    have ens : en ≠ s := ne_some' een ns0
    have ens2 : en2 ≠ s := ne_some' een2 ns0
    have W5 := W.same S5
    clear S5 W s1 H1
    replace een := S57 _ _ een
    replace een2 := S57 _ _ een2
    replace lte := lte.same S57
    replace ltf := ltf.same S57
    obtain ⟨spoil, hsp⟩ : ∃ b : Bool, decide (V.int y = V.int 0) = b := ⟨_, rfl⟩
    rw [hsp]
    clear hsp o7 st6 s6 H6
    have h1 := W5.n1
    have h6 := W5.n16
    have W7 := W5.same S57
    -- the rule
    refine ⟨_, rfl, sc, _, rfl, .inl (sl_map W7.es), fun nh nnh => ?_⟩
    have s8 := same_new (o := HO.lst (ns.map V.str)) nnh
    refine ⟨_, rfl, en, _, rfl, .inl (sl_map (s8 _ _ een)), fun lh nlh => ?_⟩
    have s9 := same_new (o := HO.lst (es.map fun e => V.ref e.1)) nlh
    have lhn : lh ≠ nh := fun z => by rw [z, upd_same] at nlh; cases nlh
    have nlh7 : H7 lh = none := s8.free nlh
    have eh9 : (upd (upd H7 nh (.lst (ns.map V.str))) lh (.lst (es.map fun e => V.ref e.1))) nh = some (.lst (ns.map V.str)) := s9 _ _ upd_same
    have el9 : (upd (upd H7 nh (.lst (ns.map V.str))) lh (.lst (es.map fun e => V.ref e.1))) lh = some (.lst (es.map fun e => V.ref e.1)) := upd_same
    have S9 := s8.trans s9
    obtain ⟨H9, e9⟩ : ∃ H9, (upd (upd H7 nh (.lst (ns.map V.str))) lh (.lst (es.map fun e => V.ref e.1))) = H9 := ⟨_, rfl⟩
    rw [e9] at eh9 el9 S9 ⊢
    clear e9 s9 s8 nlh
    refine ⟨by show 2 ≤ sizeLine; decide, fun pp npp => ?_⟩
    have s10 := same_new (o := HO.lst [V.ref nh, V.ref lh]) npp
    have epp : (upd H9 pp (.lst [V.ref nh, V.ref lh])) pp = some (.lst [V.ref nh, V.ref lh]) := upd_same
    have eh10 := s10 _ _ eh9
    have el10 := s10 _ _ el9
    have S10 := S9.trans s10
    obtain ⟨H10, e10⟩ : ∃ H10, upd H9 pp (.lst [V.ref nh, V.ref lh]) = H10 := ⟨_, rfl⟩
    rw [e10] at epp eh10 el10 S10 ⊢
    clear e10 s10 npp eh9 el9 S9 H9
    refine ⟨_, rfl, pp, _, _, .ref nh, rfl, rfl, sl_map epp, atI_nat (j := 0) rfl, _, rfl, pp, _, _, .ref lh, rfl, rfl, sl_map epp, atI_nat (j := 1) rfl, ?_⟩
    refine fun p dx nu ndx ne => ⟨p, dx, nh, lh, ns, es, rfl, upd_same, same_at (same_new ndx) nu _ _ eh10, fun z => by rw [z] at h1; exact absurd h1 (by decide), W5.nn, by omega, same_at (same_new ndx) nu _ _ el10, (lte.same S10).same (same_at (same_new ndx) nu), soe, by omega, fun H11 ct kp => ⟨rfl, ?_⟩⟩
    have s11 : Same H10 H11 := fun b o e => kp b o (ne_some' e nu) (by rw [upd_ne (ne_some' e nu)]; exact same_new ndx _ _ e)
    have S11 := S10.trans s11
    have eh11 := s11 _ _ eh10
    have el11 := s11 _ _ el10
    have ep11 := s11 _ _ epp
    clear kp s11 ndx nu ne eh10 el10 epp S10 H10
    refine ⟨_, rfl, pp, _, _, .ref nh, rfl, rfl, sl_map ep11, atI_nat (j := 0) rfl, .inl ⟨rfl, _, sl_map eh11⟩, nh, _, rfl, rfl, eh11, ?_⟩
    have ppn : pp ≠ nh := fun z => by rw [z, eh11] at ep11; cases ns with
      | nil => exact absurd h1 (by decide)
      | cons => cases ep11
    have S12 := same_at (o := HO.lst []) S11 nnh
    have ct12 : Ct C (upd H11 nh (.lst [])) p ns (es.map (·.2)) := ct_upd ct eh11
    have el12 : (upd H11 nh (.lst [])) lh = some (.lst (es.map fun e => V.ref e.1)) := by rw [upd_ne lhn]; exact el11
    have ep12 : (upd H11 nh (.lst [])) pp = some (.lst [V.ref nh, V.ref lh]) := by rw [upd_ne ppn]; exact ep11
    obtain ⟨H12, e12⟩ : ∃ H12, upd H11 nh (.lst []) = H12 := ⟨_, rfl⟩
    rw [e12] at S12 ct12 el12 ep12 ⊢
    clear e12 ep11 el11 eh11 S11 ct ppn H11
    refine ⟨_, rfl, pp, _, _, .ref lh, rfl, rfl, sl_map ep12, atI_nat (j := 1) rfl, .inl ⟨rfl, _, sl_map el12⟩, lh, _, rfl, rfl, el12, ?_⟩
    have S13 := same_at (o := HO.lst []) S12 nlh7
    have ct13 : Ct C (upd H12 lh (.lst [])) p ns (es.map (·.2)) := ct_upd ct12 el12
    obtain ⟨H13, e13⟩ : ∃ H13, upd H12 lh (.lst []) = H13 := ⟨_, rfl⟩
    rw [e13] at S13 ct13 ⊢
    clear e13 ep12 el12 S12 ct12 lhn nlh7 nnh H12
    have W13 := W7.same S13
    have een13 := S13 _ _ een2
    have ltf13 := ltf.same S13
    -- the other rule
    refine ⟨_, rfl, sc, _, rfl, .inl (sl_map W13.es), fun nh2 nnh => ?_⟩
    have s14 := same_new (o := HO.lst (ns.map V.str)) nnh
    refine ⟨_, rfl, en2, _, rfl, .inl (sl_map (s14 _ _ een13)), fun lh2 nlh => ?_⟩
    have s15 := same_new (o := HO.lst (fs.map fun e => V.ref e.1)) nlh
    have eh15 : (upd (upd H13 nh2 (.lst (ns.map V.str))) lh2 (.lst (fs.map fun e => V.ref e.1))) nh2 = some (.lst (ns.map V.str)) := s15 _ _ upd_same
    have el15 : (upd (upd H13 nh2 (.lst (ns.map V.str))) lh2 (.lst (fs.map fun e => V.ref e.1))) lh2 = some (.lst (fs.map fun e => V.ref e.1)) := upd_same
    have S15 := s14.trans s15
    obtain ⟨H15, e15⟩ : ∃ H15, (upd (upd H13 nh2 (.lst (ns.map V.str))) lh2 (.lst (fs.map fun e => V.ref e.1))) = H15 := ⟨_, rfl⟩
    rw [e15] at eh15 el15 S15 ⊢
    clear e15 s15 s14 nlh nnh
    refine fun p2 dx nu ndx ne => ⟨p2, dx, nh2, lh2, ns, fs, rfl, upd_same, same_at (same_new ndx) nu _ _ eh15, fun z => by rw [z] at h1; exact absurd h1 (by decide), W5.nn, by omega, same_at (same_new ndx) nu _ _ el15, (ltf13.same S15).same (same_at (same_new ndx) nu), sof, by omega, fun H16 ct2 kp => ⟨rfl, ?_⟩⟩
    have s16 : Same H15 H16 := fun b o e => kp b o (ne_some' e nu) (by rw [upd_ne (ne_some' e nu)]; exact same_new ndx _ _ e)
    have S1316 := S15.trans s16
    have S716 := S13.trans S1316
    have L16 : Lw C H5 H16 s p p2 en en2 ns es fs := ⟨S57.trans S716, by obtain ⟨x, y, w, e⟩ := st7; exact ⟨x, y, w, S716 _ _ e⟩, S716 _ _ een, lte.same S716, ens, S716 _ _ een2, ltf.same S716, ens2, ct13.same S1316, ct2⟩
    clear S716 S1316 s16 ct2 kp nu ndx ne S15 eh15 el15 ltf13 een13 W13 ct13 S13 W7 S57 een een2 lte ltf ens ens2 st7
    have W16 := W5.same L16.s1
    have nat_ : ∀ i, i < ns.length → ∃ x ∈ ns, (ns.map V.str)[i]? = some (.str x) := fun i hi => ⟨ns[i], List.getElem_mem hi, by rw [List.getElem?_map, List.getElem?_eq_getElem hi] <;> rfl⟩
    have les1 : (es.map (·.2)).length ≤ 100 := by rw [List.length_map]; omega
    have lfs1 : (fs.map (·.2)).length ≤ 100 := by rw [List.length_map]; omega
    have scs : sc ≠ s := ne_some' W5.es ns0
    have pls : pl ≠ s := ne_some' W5.ep ns0
    -- the rows
    refine ⟨_, rfl, _, rfl, r, _, _, .ref b1, rfl, rfl, sl_map W16.er, atI_nat (j := 2) rfl, _, rfl, sc, b1, en, ns, L1, es, S1, k, rfl, L16.e1, L16.l1, W16.es, W16.bu1, W5.f1, W5.nn, by omega, W5.k1, W5.k0, W5.k30, W5.kb, fun H17 rl rs s17 nrl Rl crs rnew => ?_⟩
    have lrs : ∀ {rs' : List (Addr × List Int)} {ls : List Lim3} {S : Str → List Int}, (∀ x ∈ ns, (S x).length ≤ k) → cont rs' = rowsK ls S ns → rs'.length ≤ 65536 := fun {rs' ls S} hk h => by
      have h2 := rowsK_len (ls := ls) hk
      rw [← h] at h2
      have h3 : (cont rs').length = rs'.length := List.length_map _
      rw [h3] at h2
      exact Nat.le_trans h2 W5.kb
    have rls : rl ≠ s := fun z => L16.st.some (z ▸ nrl)
    have rns : ∀ e ∈ rs, e.1 ≠ s := fun e he z => L16.st.some (z ▸ rnew e he)
    have rok : ∀ e ∈ rs, e.1 ≠ s ∧ e.2.length = ns.length := fun e he => ⟨rns e he, rowsK_row soe W5.nn (by rw [← crs]; exact List.mem_map.mpr ⟨e, he, rfl⟩)⟩
    have L17 := L16.same ns0 s17
    have W17 := W5.same L17.s1
    clear W16 L16 nrl rnew s17
    refine ⟨_, rfl, _, rfl, _, rfl, _, rfl, r, _, _, .ref b1, rfl, rfl, sl_map W17.er, atI_nat (j := 2) rfl, _, rfl, _, rfl, p, sc, rl, b1, sc, spoil, ns, ns, _, L1, S1, rs, rfl, L17.u1, soe, les1, W17.es, Rl, crs, lrs W5.k1 crs, W5.nn, by omega, W17.bu1, W5.f1, W5.s1, W17.es, (fun _ h => h), fun H18 s18 => ⟨true, rfl, iteF ?_⟩⟩
    have L18 := L17.same ns0 s18
    have W18 := W5.same L18.s1
    have Rl18 := Rl.same s18
    refine ⟨_, rfl, _, rfl, _, rfl, _, rfl, _, rfl, _, rfl, r, _, _, .ref pl, rfl, rfl, sl_map W18.er, atI_nat (j := 0) rfl, p, sc, en, rl, s, pl, ns, es, rs, ps, rfl, L18.u1, by omega, W18.es, scs, L18.e1, L18.n1, L18.l1, Rl18, rls, rok, lrs W5.k1 crs, L18.st, W18.ep, pls, W5.p1, W5.p20, W5.nn, W5.n1, by omega, W5.na, fun H19 k19 st19 => ⟨true, rfl, iteF ?_⟩⟩
    have L19 := L18.keep ns0 k19 st19
    have Rl19 := Rl18.keep k19 rls rns
    have W19 := W5.same L19.s1
    clear Rl18 W18 k19 st19 L18 s18 Rl W17 L17
    -- who is asked again
    refine ⟨_, rfl, _, rfl, _, rfl, sc, _, rfl, .inl (sl_map W19.es), s, _, rfl, L19.st, by rw [List.length_map]; omega, by rw [List.length_map]; omega, fun H20 y o20 st20 y0 y1 => ?_⟩
    rw [List.length_map] at y1
    have L20 := L19.keep ns0 ((Keep.refl _ _).oth o20) st20
    have Rl20 := Rl19.keep ((Keep.refl _ _).oth o20) rls rns
    obtain ⟨i, rfl⟩ : ∃ m : Nat, y = (m : Int) := ⟨y.toNat, by omega⟩
    obtain ⟨x1, hx1, ex1⟩ := nat_ i (by omega)
    refine ⟨sc, _, _, .str x1, rfl, rfl, sl_map (W5.same L20.s1).es, atI_nat (j := i) ex1, by show 1 ≤ sizeLine; decide, fun ag nag => ?_⟩
    have s21 := same_new (o := HO.lst [V.str x1]) nag
    have L21 := L20.same ns0 s21
    have Rl21 := Rl20.same s21
    have eag : (upd H20 ag (.lst [V.str x1])) ag = some (.lst ([x1].map V.str)) := upd_same
    obtain ⟨H21, e21⟩ : ∃ H21, upd H20 ag (.lst [V.str x1]) = H21 := ⟨_, rfl⟩
    rw [e21] at L21 Rl21 eag ⊢
    have gsub : ∀ x ∈ [x1], x ∈ ns := fun x hx => by rw [List.mem_singleton.mp hx]; exact hx1
    clear e21 s21 nag Rl20 L20 st20 o20 Rl19 W19 L19
    have W21 := W5.same L21.s1
    refine ⟨_, rfl, _, rfl, r, _, _, .ref b1, rfl, rfl, sl_map W21.er, atI_nat (j := 2) rfl, _, rfl, sc, b1, en2, ns, L1, fs, S1, k, rfl, L21.e2, L21.l2, W21.es, W21.bu1, W5.f1, W5.nn, by omega, W5.k1, W5.k0, W5.k30, W5.kb, fun H22 rl2 rs2 s22 nrl2 Rlo crs2 rnew2 => ?_⟩
    have L22 := L21.same ns0 s22
    have W22 := W5.same L22.s1
    have Rl22 := Rl21.same s22
    have eag22 := s22 _ _ eag
    refine ⟨_, rfl, _, rfl, _, rfl, _, rfl, r, _, _, .ref b1, rfl, rfl, sl_map W22.er, atI_nat (j := 2) rfl, _, rfl, _, rfl, p2, sc, rl2, b1, ag, spoil, ns, [x1], _, L1, S1, rs2, rfl, L22.u2, sof, lfs1, W22.es, Rlo, crs2, lrs W5.k1 crs2, W5.nn, by omega, W22.bu1, W5.f1, W5.s1, eag22, gsub, fun H23 s23 => ⟨true, rfl, iteF ?_⟩⟩
    have L23 := L22.same ns0 s23
    have W23 := W5.same L23.s1
    have Rl23 := Rl22.same s23
    have eag23 := s23 _ _ eag22
    clear eag22 Rl22 W22 L22 s22 nrl2 Rlo rnew2 eag Rl21 W21 L21
    refine ⟨_, rfl, _, rfl, _, rfl, _, rfl, r, _, _, .ref b2, rfl, rfl, sl_map W23.er, atI_nat (j := 3) rfl, _, rfl, sc, b2, en, ns, L2, es, S2, k, rfl, L23.e1, L23.l1, W23.es, W23.bu2, W5.f2, W5.nn, by omega, W5.k2, W5.k0, W5.k30, W5.kb, fun H24 rl3 rs3 s24 nrl3 Rl3 crs3 rnew3 => ?_⟩
    have L24 := L23.same ns0 s24
    have W24 := W5.same L24.s1
    have Rl24 := Rl23.same s24
    have eag24 := s24 _ _ eag23
    refine ⟨_, rfl, r, _, _, .ref b2, rfl, rfl, sl_map W24.er, atI_nat (j := 3) rfl, _, rfl, _, rfl, p, sc, rl3, b2, ag, spoil, ns, [x1], _, L2, S2, rs3, rfl, L24.u1, soe, les1, W24.es, Rl3, crs3, lrs W5.k2 crs3, W5.nn, by omega, W24.bu2, W5.f2, W5.s2, eag24, gsub, fun H25 s25 => ⟨true, rfl, iteF ?_⟩⟩
    have L25 := L24.same ns0 s25
    have W25 := W5.same L25.s1
    have Rl25 := Rl24.same s25
    have eag25 := s25 _ _ eag24
    clear eag24 Rl24 W24 L24 s24 nrl3 Rl3 rnew3 eag23 Rl23 W23 L23
    refine ⟨_, rfl, _, rfl, _, rfl, _, rfl, r, _, _, .ref b1, rfl, rfl, sl_map W25.er, atI_nat (j := 2) rfl, _, rfl, _, rfl, p, sc, rl, b1, ag, spoil, ns, [x1], _, L1, S1, rs, rfl, L25.u1, soe, les1, W25.es, Rl25, crs, lrs W5.k1 crs, W5.nn, by omega, W25.bu1, W5.f1, W5.s1, eag25, gsub, fun H26 s26 => ⟨true, rfl, iteF ?_⟩⟩
    have L26 := L25.same ns0 s26
    obtain ⟨dx, t, u, gs, hp, et, eu, lf, cf⟩ := id L26.u1
    obtain ⟨o, po, et'⟩ := id et
    refine ⟨_, rfl, p, C, dx, _, _, rfl, hp, T.cl, T.no _ (by simp), clook1 _ _, .ref t, .ty "tuple", .type "tuple", .type "tuple", true, rfl, .ty _, .fTuple et', kit_ty (by decide +kernel), true, rfl, iteF ?_⟩
    refine ⟨_, rfl, p, C, dx, _, _, rfl, hp, T.cl, T.no _ (by simp), clook1 _ _, t, _, rfl, .inr et.sq, fun nl nnl => ?_⟩
    have s27 := same_new (o := HO.lst (ns.map V.str)) nnl
    have L27 := L26.same ns0 s27
    refine ⟨_, rfl, nl, sc, _, _, rfl, rfl, sl_map upd_same, sl_map (W5.same L27.s1).es, ⟨1, by decide, paired_strs _⟩, false, rfl, iteF ?_⟩
    refine ⟨_, rfl, p, C, dx, _, _, rfl, s27 _ _ hp, T.cl, T.no _ (by simp), clook2 _ _, _, rfl, u, en, gs, es, rfl, s27 _ _ eu, lf.same s27, L27.e1, L27.l1, cf, by omega, ⟨true, rfl, iteF ?_⟩⟩
    refine ⟨_, rfl, s, 12, rfl, L27.st, by decide, by decide, fun H28 y o28 st28 y0 y1 => ⟨_, _, rfl, rfl, ?_⟩⟩
    exact ⟨_, rfl, ite_both (fun _ => q _) fun _ => ⟨_, rfl, s, rfl, st28, fun H' => q _⟩⟩
end
end K22
set_option Elab.async false
set_option linter.all false
set_option maxRecDepth 100000
set_option maxHeartbeats 4000000
namespace K22
open PySem PySem.Spec PyProof.Rows L2 Cs CsX
/-! ### what the top has written -/
theorem all_mk {l : PySem.W.OpenLaw} {w : World} {K : PySem.W.Frag} {h : Heap} {mg : Str → Option Value} {fa kk0 km0_0 km0_1 km0_2 km0_3 km0_4 km0_5 f1 f2 f3 f4 f5 f6 f7 f8 f9 f10 f11 f12 f13 f14 f15 f16 f17 f18 f19 f20 f21 f22 f23 f24 f25 f26 f27 f28 f29 f30 f31 f32 f33 f34 f35 f36 f37 f38 : Addr} (X : K.In h) (G : h.Ns mainGlobals mg) (hfa : mg "law" = some (.ref fa))
    {od1 an1 od2 an2 od3 an3 od4 an4 od5 an5 od6 an6 od7 an7 od8 an8 od9 an9 od10 an10 od11 an11 od12 an12 od13 an13 od14 an14 od15 an15 od16 an16 od17 an17 od18 an18 od19 an19 od20 an20 od21 an21 od22 an22 od23 an23 od24 an24 od25 an25 od26 an26 od27 an27 od28 an28 od29 an29 od30 an30 od31 an31 od32 an32 od33 an33 od34 an34 od35 an35 od36 an36 od37 an37 od38 an38 : Option Addr} {sl1 sl2 sl3 sl4 sl5 sl6 sl7 sl8 sl9 sl10 sl11 sl12 sl13 sl14 sl15 sl16 sl17 sl18 sl19 sl20 sl21 sl22 sl23 sl24 sl25 sl26 sl27 sl28 sl29 sl30 sl31 sl32 sl33 sl34 sl35 sl36 sl37 sl38 : Array (Option Value)}
    {oc1 kV1 dc1 pm1 cd1 ct1 oc2 kV2 dc2 pm2 cd2 ct2 oc3 kV3 dc3 pm3 cd3 ct3 oc4 kV4 dc4 pm4 cd4 ct4 oc5 kV5 dc5 pm5 cd5 ct5 oc6 kV6 dc6 pm6 cd6 ct6 oc7 kV7 dc7 pm7 cd7 ct7 oc8 kV8 dc8 pm8 cd8 ct8 oc9 kV9 dc9 pm9 cd9 ct9 oc10 kV10 dc10 pm10 cd10 ct10 oc11 kV11 dc11 pm11 cd11 ct11 oc12 kV12 dc12 pm12 cd12 ct12 oc13 kV13 dc13 pm13 cd13 ct13 oc14 kV14 dc14 pm14 cd14 ct14 oc15 kV15 dc15 pm15 cd15 ct15 oc16 kV16 dc16 pm16 cd16 ct16 oc17 kV17 dc17 pm17 cd17 ct17 oc18 kV18 dc18 pm18 cd18 ct18 oc19 kV19 dc19 pm19 cd19 ct19 oc20 kV20 dc20 pm20 cd20 ct20 oc21 kV21 dc21 pm21 cd21 ct21 oc22 kV22 dc22 pm22 cd22 ct22 oc23 kV23 dc23 pm23 cd23 ct23 oc24 kV24 dc24 pm24 cd24 ct24 oc25 kV25 dc25 pm25 cd25 ct25 oc26 kV26 dc26 pm26 cd26 ct26 oc27 kV27 dc27 pm27 cd27 ct27 oc28 kV28 dc28 pm28 cd28 ct28 oc29 kV29 dc29 pm29 cd29 ct29 oc30 kV30 dc30 pm30 cd30 ct30 oc31 kV31 dc31 pm31 cd31 ct31 oc32 kV32 dc32 pm32 cd32 ct32 oc33 kV33 dc33 pm33 cd33 ct33 oc34 kV34 dc34 pm34 cd34 ct34 oc35 kV35 dc35 pm35 cd35 ct35 oc36 kV36 dc36 pm36 cd36 ct36 oc37 kV37 dc37 pm37 cd37 ct37 oc38 kV38 dc38 pm38 cd38 ct38 : Value}
    {km0_0od km0_0an : Option Addr} {km0_0sl : Array (Option Value)} {km0_0oc km0_0kV km0_0dc km0_0pm km0_0cd km0_0ct : Value}
    {km0_1od km0_1an : Option Addr} {km0_1sl : Array (Option Value)} {km0_1oc km0_1kV km0_1dc km0_1pm km0_1cd km0_1ct : Value}
    {km0_2od km0_2an : Option Addr} {km0_2sl : Array (Option Value)} {km0_2oc km0_2kV km0_2dc km0_2pm km0_2cd km0_2ct : Value}
    {km0_3od km0_3an : Option Addr} {km0_3sl : Array (Option Value)} {km0_3oc km0_3kV km0_3dc km0_3pm km0_3cd km0_3ct : Value}
    {km0_4od km0_4an : Option Addr} {km0_4sl : Array (Option Value)} {km0_4oc km0_4kV km0_4dc km0_4pm km0_4cd km0_4ct : Value}
    {km0_5od km0_5an : Option Addr} {km0_5sl : Array (Option Value)} {km0_5oc km0_5kV km0_5dc km0_5pm km0_5cd km0_5ct : Value}
    (a1 : PySem.W.nsIn K mainGlobals "_law_stream" = some (some (.ref f1))) (l1 : K.lookup f1 = some ⟨oc1, od1, .func (PySem.W.fnOf "_law_stream" "_law_stream" (defArgs sStream) (defBody sStream) (defScope sStream) .none kV1 dc1 pm1 an1 cd1 ct1), sl1⟩) (c1 : PySem.W.codeIn K cd1 "_law_stream" = true) (k1 : PySem.W.keepIn K (.ref f1) = true)
    (a2 : PySem.W.nsIn K mainGlobals "_law_next" = some (some (.ref f2))) (l2 : K.lookup f2 = some ⟨oc2, od2, .func (PySem.W.fnOf "_law_next" "_law_next" (defArgs sDraw) (defBody sDraw) (defScope sDraw) .none kV2 dc2 pm2 an2 cd2 ct2), sl2⟩) (c2 : PySem.W.codeIn K cd2 "_law_next" = true) (k2 : PySem.W.keepIn K (.ref f2) = true)
    (a3 : PySem.W.nsIn K mainGlobals "_law_names" = some (some (.ref f3))) (l3 : K.lookup f3 = some ⟨oc3, od3, .func (PySem.W.fnOf "_law_names" "_law_names" (defArgs sNames) (defBody sNames) (defScope sNames) .none kV3 dc3 pm3 an3 cd3 ct3), sl3⟩) (c3 : PySem.W.codeIn K cd3 "_law_names" = true) (k3 : PySem.W.keepIn K (.ref f3) = true)
    (a4 : PySem.W.nsIn K mainGlobals "_law_pool" = some (some (.ref f4))) (l4 : K.lookup f4 = some ⟨oc4, od4, .func (PySem.W.fnOf "_law_pool" "_law_pool" (defArgs sPool) (defBody sPool) (defScope sPool) .none kV4 dc4 pm4 an4 cd4 ct4), sl4⟩) (c4 : PySem.W.codeIn K cd4 "_law_pool" = true) (k4 : PySem.W.keepIn K (.ref f4) = true)
    (a5 : PySem.W.nsIn K mainGlobals "_law_scope" = some (some (.ref f5))) (l5 : K.lookup f5 = some ⟨oc5, od5, .func (PySem.W.fnOf "_law_scope" "_law_scope" (defArgs sSco) (defBody sSco) (defScope sSco) .none kV5 dc5 pm5 an5 cd5 ct5), sl5⟩) (c5 : PySem.W.codeIn K cd5 "_law_scope" = true) (k5 : PySem.W.keepIn K (.ref f5) = true)
    (a6 : PySem.W.nsIn K mainGlobals "_law_domains" = some (some (.ref f6))) (l6 : K.lookup f6 = some ⟨oc6, od6, .func (PySem.W.fnOf "_law_domains" "_law_domains" (defArgs sDoms) (defBody sDoms) (defScope sDoms) .none kV6 dc6 pm6 an6 cd6 ct6), sl6⟩) (c6 : PySem.W.codeIn K cd6 "_law_domains" = true) (k6 : PySem.W.keepIn K (.ref f6) = true)
    (a7 : PySem.W.nsIn K mainGlobals "_law_sides" = some (some (.ref f7))) (l7 : K.lookup f7 = some ⟨oc7, od7, .func (PySem.W.fnOf "_law_sides" "_law_sides" (defArgs sSd) (defBody sSd) (defScope sSd) .none kV7 dc7 pm7 an7 cd7 ct7), sl7⟩) (c7 : PySem.W.codeIn K cd7 "_law_sides" = true) (k7 : PySem.W.keepIn K (.ref f7) = true)
    (a8 : PySem.W.nsIn K mainGlobals "_law_world" = some (some (.ref f8))) (l8 : K.lookup f8 = some ⟨oc8, od8, .func (PySem.W.fnOf "_law_world" "_law_world" (defArgs sWor) (defBody sWor) (defScope sWor) .none kV8 dc8 pm8 an8 cd8 ct8), sl8⟩) (c8 : PySem.W.codeIn K cd8 "_law_world" = true) (k8 : PySem.W.keepIn K (.ref f8) = true)
    (a9 : PySem.W.nsIn K mainGlobals "checked_names" = some (some (.ref f9))) (l9 : K.lookup f9 = some ⟨oc9, od9, .func (PySem.W.fnOf "checked_names" "checked_names" (defArgs sChk) (defBody sChk) (defScope sChk) .none kV9 dc9 pm9 an9 cd9 ct9), sl9⟩) (c9 : PySem.W.codeIn K cd9 "checked_names" = true) (k9 : PySem.W.keepIn K (.ref f9) = true)
    (a10 : PySem.W.nsIn K mainGlobals "_checked_limits" = some (some (.ref f10))) (l10 : K.lookup f10 = some ⟨oc10, od10, .func (PySem.W.fnOf "_checked_limits" "_checked_limits" (defArgs sCl) (defBody sCl) (defScope sCl) .none kV10 dc10 pm10 an10 cd10 ct10), sl10⟩) (c10 : PySem.W.codeIn K cd10 "_checked_limits" = true) (k10 : PySem.W.keepIn K (.ref f10) = true)
    (a11 : PySem.W.nsIn K mainGlobals "_law_shuffled" = some (some (.ref f11))) (l11 : K.lookup f11 = some ⟨oc11, od11, .func (PySem.W.fnOf "_law_shuffled" "_law_shuffled" (defArgs sSf) (defBody sSf) (defScope sSf) .none kV11 dc11 pm11 an11 cd11 ct11), sl11⟩) (c11 : PySem.W.codeIn K cd11 "_law_shuffled" = true) (k11 : PySem.W.keepIn K (.ref f11) = true)
    (a12 : PySem.W.nsIn K mainGlobals "_law_entries" = some (some (.ref f12))) (l12 : K.lookup f12 = some ⟨oc12, od12, .func (PySem.W.fnOf "_law_entries" "_law_entries" (defArgs sEnt) (defBody sEnt) (defScope sEnt) .none kV12 dc12 pm12 an12 cd12 ct12), sl12⟩) (c12 : PySem.W.codeIn K cd12 "_law_entries" = true) (k12 : PySem.W.keepIn K (.ref f12) = true)
    (a13 : PySem.W.nsIn K mainGlobals "_law_keeps" = some (some (.ref f13))) (l13 : K.lookup f13 = some ⟨oc13, od13, .func (PySem.W.fnOf "_law_keeps" "_law_keeps" (defArgs sKp) (defBody sKp) (defScope sKp) .none kV13 dc13 pm13 an13 cd13 ct13), sl13⟩) (c13 : PySem.W.codeIn K cd13 "_law_keeps" = true) (k13 : PySem.W.keepIn K (.ref f13) = true)
    (a14 : PySem.W.nsIn K mainGlobals "_law_counted_rows" = some (some (.ref f14))) (l14 : K.lookup f14 = some ⟨oc14, od14, .func (PySem.W.fnOf "_law_counted_rows" "_law_counted_rows" (defArgs sCr) (defBody sCr) (defScope sCr) .none kV14 dc14 pm14 an14 cd14 ct14), sl14⟩) (c14 : PySem.W.codeIn K cd14 "_law_counted_rows" = true) (k14 : PySem.W.keepIn K (.ref f14) = true)
    (a15 : PySem.W.nsIn K mainGlobals "_law_is_integer" = some (some (.ref f15))) (l15 : K.lookup f15 = some ⟨oc15, od15, .func (PySem.W.fnOf "_law_is_integer" "_law_is_integer" (defArgs sIsInt) (defBody sIsInt) (defScope sIsInt) .none kV15 dc15 pm15 an15 cd15 ct15), sl15⟩) (c15 : PySem.W.codeIn K cd15 "_law_is_integer" = true) (k15 : PySem.W.keepIn K (.ref f15) = true)
    (a16 : PySem.W.nsIn K mainGlobals "_law_same_limits" = some (some (.ref f16))) (l16 : K.lookup f16 = some ⟨oc16, od16, .func (PySem.W.fnOf "_law_same_limits" "_law_same_limits" (defArgs sSl) (defBody sSl) (defScope sSl) .none kV16 dc16 pm16 an16 cd16 ct16), sl16⟩) (c16 : PySem.W.codeIn K cd16 "_law_same_limits" = true) (k16 : PySem.W.keepIn K (.ref f16) = true)
    (a17 : PySem.W.nsIn K mainGlobals "_law_copied" = some (some (.ref f17))) (l17 : K.lookup f17 = some ⟨oc17, od17, .func (PySem.W.fnOf "_law_copied" "_law_copied" (defArgs sCopied) (defBody sCopied) (defScope sCopied) .none kV17 dc17 pm17 an17 cd17 ct17), sl17⟩) (c17 : PySem.W.codeIn K cd17 "_law_copied" = true) (k17 : PySem.W.keepIn K (.ref f17) = true)
    (a18 : PySem.W.nsIn K mainGlobals "restricted" = some (some (.ref f18))) (l18 : K.lookup f18 = some ⟨oc18, od18, .func (PySem.W.fnOf "restricted" "restricted" (defArgs sRst) (defBody sRst) (defScope sRst) .none kV18 dc18 pm18 an18 cd18 ct18), sl18⟩) (c18 : PySem.W.codeIn K cd18 "restricted" = true) (k18 : PySem.W.keepIn K (.ref f18) = true)
    (a19 : PySem.W.nsIn K mainGlobals "_takers" = some (some (.ref f19))) (l19 : K.lookup f19 = some ⟨oc19, od19, .func (PySem.W.fnOf "_takers" "_takers" (defArgs sTk) (defBody sTk) (defScope sTk) .none kV19 dc19 pm19 an19 cd19 ct19), sl19⟩) (c19 : PySem.W.codeIn K cd19 "_takers" = true) (k19 : PySem.W.keepIn K (.ref f19) = true)
    (a20 : PySem.W.nsIn K mainGlobals "_moved_up" = some (some (.ref f20))) (l20 : K.lookup f20 = some ⟨oc20, od20, .func (PySem.W.fnOf "_moved_up" "_moved_up" (defArgs sMu) (defBody sMu) (defScope sMu) .none kV20 dc20 pm20 an20 cd20 ct20), sl20⟩) (c20 : PySem.W.codeIn K cd20 "_moved_up" = true) (k20 : PySem.W.keepIn K (.ref f20) = true)
    (a21 : PySem.W.nsIn K mainGlobals "_with_name" = some (some (.ref f21))) (l21 : K.lookup f21 = some ⟨oc21, od21, .func (PySem.W.fnOf "_with_name" "_with_name" (defArgs sWn) (defBody sWn) (defScope sWn) .none kV21 dc21 pm21 an21 cd21 ct21), sl21⟩) (c21 : PySem.W.codeIn K cd21 "_with_name" = true) (k21 : PySem.W.keepIn K (.ref f21) = true)
    (a22 : PySem.W.nsIn K mainGlobals "_grown" = some (some (.ref f22))) (l22 : K.lookup f22 = some ⟨oc22, od22, .func (PySem.W.fnOf "_grown" "_grown" (defArgs sGr) (defBody sGr) (defScope sGr) .none kV22 dc22 pm22 an22 cd22 ct22), sl22⟩) (c22 : PySem.W.codeIn K cd22 "_grown" = true) (k22 : PySem.W.keepIn K (.ref f22) = true)
    (a23 : PySem.W.nsIn K mainGlobals "_called_up" = some (some (.ref f23))) (l23 : K.lookup f23 = some ⟨oc23, od23, .func (PySem.W.fnOf "_called_up" "_called_up" (defArgs sCu) (defBody sCu) (defScope sCu) .none kV23 dc23 pm23 an23 cd23 ct23), sl23⟩) (c23 : PySem.W.codeIn K cd23 "_called_up" = true) (k23 : PySem.W.keepIn K (.ref f23) = true)
    (a24 : PySem.W.nsIn K mainGlobals "_with_taker" = some (some (.ref f24))) (l24 : K.lookup f24 = some ⟨oc24, od24, .func (PySem.W.fnOf "_with_taker" "_with_taker" (defArgs sWt) (defBody sWt) (defScope sWt) .none kV24 dc24 pm24 an24 cd24 ct24), sl24⟩) (c24 : PySem.W.codeIn K cd24 "_with_taker" = true) (k24 : PySem.W.keepIn K (.ref f24) = true)
    (a25 : PySem.W.nsIn K mainGlobals "_supplied" = some (some (.ref f25))) (l25 : K.lookup f25 = some ⟨oc25, od25, .func (PySem.W.fnOf "_supplied" "_supplied" (defArgs sSpl) (defBody sSpl) (defScope sSpl) .none kV25 dc25 pm25 an25 cd25 ct25), sl25⟩) (c25 : PySem.W.codeIn K cd25 "_supplied" = true) (k25 : PySem.W.keepIn K (.ref f25) = true)
    (a26 : PySem.W.nsIn K mainGlobals "_part_within" = some (some (.ref f26))) (l26 : K.lookup f26 = some ⟨oc26, od26, .func (PySem.W.fnOf "_part_within" "_part_within" (defArgs sPw) (defBody sPw) (defScope sPw) .none kV26 dc26 pm26 an26 cd26 ct26), sl26⟩) (c26 : PySem.W.codeIn K cd26 "_part_within" = true) (k26 : PySem.W.keepIn K (.ref f26) = true)
    (a27 : PySem.W.nsIn K mainGlobals "_fits_near" = some (some (.ref f27))) (l27 : K.lookup f27 = some ⟨oc27, od27, .func (PySem.W.fnOf "_fits_near" "_fits_near" (defArgs sFn) (defBody sFn) (defScope sFn) .none kV27 dc27 pm27 an27 cd27 ct27), sl27⟩) (c27 : PySem.W.codeIn K cd27 "_fits_near" = true) (k27 : PySem.W.keepIn K (.ref f27) = true)
    (a28 : PySem.W.nsIn K mainGlobals "choices" = some (some (.ref f28))) (l28 : K.lookup f28 = some ⟨oc28, od28, .func (PySem.W.fnOf "choices" "choices" (defArgs sCho) (defBody sCho) (defScope sCho) .none kV28 dc28 pm28 an28 cd28 ct28), sl28⟩) (c28 : PySem.W.codeIn K cd28 "choices" = true) (k28 : PySem.W.keepIn K (.ref f28) = true)
    (a29 : PySem.W.nsIn K mainGlobals "_law_is_side" = some (some (.ref f29))) (l29 : K.lookup f29 = some ⟨oc29, od29, .func (PySem.W.fnOf "_law_is_side" "_law_is_side" (defArgs sIsSide) (defBody sIsSide) (defScope sIsSide) .none kV29 dc29 pm29 an29 cd29 ct29), sl29⟩) (c29 : PySem.W.codeIn K cd29 "_law_is_side" = true) (k29 : PySem.W.keepIn K (.ref f29) = true)
    (a30 : PySem.W.nsIn K mainGlobals "first_choice" = some (some (.ref f30))) (l30 : K.lookup f30 = some ⟨oc30, od30, .func (PySem.W.fnOf "first_choice" "first_choice" (defArgs sFch) (defBody sFch) (defScope sFch) .none kV30 dc30 pm30 an30 cd30 ct30), sl30⟩) (c30 : PySem.W.codeIn K cd30 "first_choice" = true) (k30 : PySem.W.keepIn K (.ref f30) = true)
    (a31 : PySem.W.nsIn K mainGlobals "_law_same_values" = some (some (.ref f31))) (l31 : K.lookup f31 = some ⟨oc31, od31, .func (PySem.W.fnOf "_law_same_values" "_law_same_values" (defArgs sSv) (defBody sSv) (defScope sSv) .none kV31 dc31 pm31 an31 cd31 ct31), sl31⟩) (c31 : PySem.W.codeIn K cd31 "_law_same_values" = true) (k31 : PySem.W.keepIn K (.ref f31) = true)
    (a32 : PySem.W.nsIn K mainGlobals "_law_named" = some (some (.ref f32))) (l32 : K.lookup f32 = some ⟨oc32, od32, .func (PySem.W.fnOf "_law_named" "_law_named" (defArgs sNmd) (defBody sNmd) (defScope sNmd) .none kV32 dc32 pm32 an32 cd32 ct32), sl32⟩) (c32 : PySem.W.codeIn K cd32 "_law_named" = true) (k32 : PySem.W.keepIn K (.ref f32) = true)
    (a33 : PySem.W.nsIn K mainGlobals "_law_same_sides" = some (some (.ref f33))) (l33 : K.lookup f33 = some ⟨oc33, od33, .func (PySem.W.fnOf "_law_same_sides" "_law_same_sides" (defArgs sSame) (defBody sSame) (defScope sSame) .none kV33 dc33 pm33 an33 cd33 ct33), sl33⟩) (c33 : PySem.W.codeIn K cd33 "_law_same_sides" = true) (k33 : PySem.W.keepIn K (.ref f33) = true)
    (a34 : PySem.W.nsIn K mainGlobals "_law_box_holds" = some (some (.ref f34))) (l34 : K.lookup f34 = some ⟨oc34, od34, .func (PySem.W.fnOf "_law_box_holds" "_law_box_holds" (defArgs sBh) (defBody sBh) (defScope sBh) .none kV34 dc34 pm34 an34 cd34 ct34), sl34⟩) (c34 : PySem.W.codeIn K cd34 "_law_box_holds" = true) (k34 : PySem.W.keepIn K (.ref f34) = true)
    (a35 : PySem.W.nsIn K mainGlobals "row_of" = some (some (.ref f35))) (l35 : K.lookup f35 = some ⟨oc35, od35, .func (PySem.W.fnOf "row_of" "row_of" (defArgs sRof) (defBody sRof) (defScope sRof) .none kV35 dc35 pm35 an35 cd35 ct35), sl35⟩) (c35 : PySem.W.codeIn K cd35 "row_of" = true) (k35 : PySem.W.keepIn K (.ref f35) = true)
    (a36 : PySem.W.nsIn K mainGlobals "_law_allowing_holds" = some (some (.ref f36))) (l36 : K.lookup f36 = some ⟨oc36, od36, .func (PySem.W.fnOf "_law_allowing_holds" "_law_allowing_holds" (defArgs sAh) (defBody sAh) (defScope sAh) .none kV36 dc36 pm36 an36 cd36 ct36), sl36⟩) (c36 : PySem.W.codeIn K cd36 "_law_allowing_holds" = true) (k36 : PySem.W.keepIn K (.ref f36) = true)
    (a37 : PySem.W.nsIn K mainGlobals "_law_dense_holds" = some (some (.ref f37))) (l37 : K.lookup f37 = some ⟨oc37, od37, .func (PySem.W.fnOf "_law_dense_holds" "_law_dense_holds" (defArgs sDh) (defBody sDh) (defScope sDh) .none kV37 dc37 pm37 an37 cd37 ct37), sl37⟩) (c37 : PySem.W.codeIn K cd37 "_law_dense_holds" = true) (k37 : PySem.W.keepIn K (.ref f37) = true)
    (a38 : PySem.W.nsIn K mainGlobals "law" = some (some (.ref f38))) (l38 : K.lookup f38 = some ⟨oc38, od38, .func (PySem.W.fnOf "law" "law" (defArgs sLaw) (defBody sLaw) (defScope sLaw) .none kV38 dc38 pm38 an38 cd38 ct38), sl38⟩) (c38 : PySem.W.codeIn K cd38 "law" = true) (k38 : PySem.W.keepIn K (.ref f38) = true)
    (kc0 : PySem.W.nsIn K mainGlobals "Counts" = some (some (.ref kk0)))
    (kpg0 : PySem.W.plainGet K kk0 Str.empty = true)
    (khd0 : PySem.W.hasDictIn K kk0 = true)
    (kpo0 : PySem.W.plainOver K kk0 = true)
    (ksa0 : PySem.W.findIn K (.ref kk0) "__setattr__" = some (some (.builtin "object.__setattr__")))
    (kmk0 : PySem.W.makesIn K kk0 = true)
    (kkc0 : PySem.W.keepIn K (.ref kk0) = true)
    (kn0_0 : PySem.W.findIn K (.ref kk0) "names" = some none)
    (kn0_1 : PySem.W.findIn K (.ref kk0) "limits" = some none)
    (km0_0a : PySem.W.findIn K (.ref kk0) "__init__" = some (some (.ref km0_0)))
    (km0_0i : PySem.W.isFn K (.ref km0_0) = true)
    (km0_0l : K.lookup km0_0 = some ⟨km0_0oc, km0_0od, .func (PySem.W.fnOf "__init__" "Counts.__init__" (defArgs sCin) (defBody sCin) (defScope sCin) .none km0_0kV km0_0dc km0_0pm km0_0an km0_0cd km0_0ct), km0_0sl⟩)
    (km0_0c : PySem.W.codeIn K km0_0cd "Counts.__init__" = true)
    (km0_0k : PySem.W.keepIn K (.ref km0_0) = true)
    (km0_1a : PySem.W.findIn K (.ref kk0) "_highs" = some (some (.ref km0_1)))
    (km0_1i : PySem.W.isFn K (.ref km0_1) = true)
    (km0_1l : K.lookup km0_1 = some ⟨km0_1oc, km0_1od, .func (PySem.W.fnOf "_highs" "Counts._highs" (defArgs sHig) (defBody sHig) (defScope sHig) .none km0_1kV km0_1dc km0_1pm km0_1an km0_1cd km0_1ct), km0_1sl⟩)
    (km0_1c : PySem.W.codeIn K km0_1cd "Counts._highs" = true)
    (km0_1k : PySem.W.keepIn K (.ref km0_1) = true)
    (km0_2a : PySem.W.findIn K (.ref kk0) "_lows" = some (some (.ref km0_2)))
    (km0_2i : PySem.W.isFn K (.ref km0_2) = true)
    (km0_2l : K.lookup km0_2 = some ⟨km0_2oc, km0_2od, .func (PySem.W.fnOf "_lows" "Counts._lows" (defArgs sLow) (defBody sLow) (defScope sLow) .none km0_2kV km0_2dc km0_2pm km0_2an km0_2cd km0_2ct), km0_2sl⟩)
    (km0_2c : PySem.W.codeIn K km0_2cd "Counts._lows" = true)
    (km0_2k : PySem.W.keepIn K (.ref km0_2) = true)
    (km0_3a : PySem.W.findIn K (.ref kk0) "supported" = some (some (.ref km0_3)))
    (km0_3i : PySem.W.isFn K (.ref km0_3) = true)
    (km0_3l : K.lookup km0_3 = some ⟨km0_3oc, km0_3od, .func (PySem.W.fnOf "supported" "Counts.supported" (defArgs sSpd) (defBody sSpd) (defScope sSpd) .none km0_3kV km0_3dc km0_3pm km0_3an km0_3cd km0_3ct), km0_3sl⟩)
    (km0_3c : PySem.W.codeIn K km0_3cd "Counts.supported" = true)
    (km0_3k : PySem.W.keepIn K (.ref km0_3) = true)
    (km0_4a : PySem.W.findIn K (.ref kk0) "witness" = some (some (.ref km0_4)))
    (km0_4i : PySem.W.isFn K (.ref km0_4) = true)
    (km0_4l : K.lookup km0_4 = some ⟨km0_4oc, km0_4od, .func (PySem.W.fnOf "witness" "Counts.witness" (defArgs sWit) (defBody sWit) (defScope sWit) .none km0_4kV km0_4dc km0_4pm km0_4an km0_4cd km0_4ct), km0_4sl⟩)
    (km0_4c : PySem.W.codeIn K km0_4cd "Counts.witness" = true)
    (km0_4k : PySem.W.keepIn K (.ref km0_4) = true)
    (km0_5a : PySem.W.findIn K (.ref kk0) "allows" = some (some (.ref km0_5)))
    (km0_5i : PySem.W.isFn K (.ref km0_5) = true)
    (km0_5l : K.lookup km0_5 = some ⟨km0_5oc, km0_5od, .func (PySem.W.fnOf "allows" "Counts.allows" (defArgs sAlo) (defBody sAlo) (defScope sAlo) .none km0_5kV km0_5dc km0_5pm km0_5an km0_5cd km0_5ct), km0_5sl⟩)
    (km0_5c : PySem.W.codeIn K km0_5cd "Counts.allows" = true)
    (km0_5k : PySem.W.keepIn K (.ref km0_5) = true)
    (z1 : PySem.W.nsIn K mainGlobals "sorted" = some none) (z2 : PySem.W.nsIn K mainGlobals "set" = some none) (z3 : PySem.W.nsIn K mainGlobals "len" = some none) (z4 : PySem.W.nsIn K mainGlobals "isinstance" = some none) (z5 : PySem.W.nsIn K mainGlobals "int" = some none) (z6 : PySem.W.nsIn K mainGlobals "bool" = some none) (z7 : PySem.W.nsIn K mainGlobals "list" = some none) (z8 : PySem.W.nsIn K mainGlobals "all" = some none) (z9 : PySem.W.nsIn K mainGlobals "range" = some none) (z10 : PySem.W.nsIn K mainGlobals "dict" = some none) (z11 : PySem.W.nsIn K mainGlobals "max" = some none) (z12 : PySem.W.nsIn K mainGlobals "min" = some none) (z13 : PySem.W.nsIn K mainGlobals "str" = some none) (z14 : PySem.W.nsIn K mainGlobals "tuple" = some none) :
    ∃ fd : FuncData, (∀ (s : Shared) (v : Value), BindsTo s fd ⟨[v], []⟩ [("_law_script", v)]) ∧ ∀ base : Heap, K.In base → base.Ns mainGlobals mg → FnOk l.prog w K mg base CX0 8 fa fd ["_law_script"] (spLaw K) := by
  have e := hfa.symm.trans (PySem.W.mg_of X G a38)
  cases e
  have B : Bt mg := ⟨PySem.W.mg_none_of X G z1, PySem.W.mg_none_of X G z2, PySem.W.mg_none_of X G z3, PySem.W.mg_none_of X G z4, PySem.W.mg_none_of X G z5, PySem.W.mg_none_of X G z6, PySem.W.mg_none_of X G z7, PySem.W.mg_none_of X G z8, PySem.W.mg_none_of X G z9, PySem.W.mg_none_of X G z10⟩
  have F1 := fun_mk (st := sStream) l1 c1 k1
  have b1 := F1.binds (ps := ["_law_script", "_law_k"]) fun _ _ _ _ _ _ us hl => match us, hl with | [_, _], _ => rfl
  have F2 := fun_mk (st := sDraw) l2 c2 k2
  have b2 := F2.binds (ps := ["_law_stream_here", "_law_size"]) fun _ _ _ _ _ _ us hl => match us, hl with | [_, _], _ => rfl
  have F3 := fun_mk (st := sNames) l3 c3 k3
  have b3 := F3.binds (ps := ["_law_stream_here", "_law_count"]) fun _ _ _ _ _ _ us hl => match us, hl with | [_, _], _ => rfl
  have F4 := fun_mk (st := sPool) l4 c4 k4
  have b4 := F4.binds (ps := ["_law_stream_here", "_law_count"]) fun _ _ _ _ _ _ us hl => match us, hl with | [_, _], _ => rfl
  have F5 := fun_mk (st := sSco) l5 c5 k5
  have b5 := F5.binds (ps := ["_law_stream_here", "_law_names_here", "_law_most"]) fun _ _ _ _ _ _ us hl => match us, hl with | [_, _, _], _ => rfl
  have F6 := fun_mk (st := sDoms) l6 c6 k6
  have b6 := F6.binds (ps := ["_law_stream_here", "_law_names_here", "_law_pool_here", "_law_most"]) fun _ _ _ _ _ _ us hl => match us, hl with | [_, _, _, _], _ => rfl
  have F7 := fun_mk (st := sSd) l7 c7 k7
  have b7 := F7.binds (ps := ["_law_domains_here"]) fun _ _ _ _ _ _ us hl => match us, hl with | [_], _ => rfl
  have F8 := fun_mk (st := sWor) l8 c8 k8
  have b8 := F8.binds (ps := ["_law_script"]) fun _ _ _ _ _ _ us hl => match us, hl with | [_], _ => rfl
  have F9 := fun_mk (st := sChk) l9 c9 k9
  have b9 := F9.binds (ps := ["names"]) fun _ _ _ _ _ _ us hl => match us, hl with | [_], _ => rfl
  have F10 := fun_mk (st := sCl) l10 c10 k10
  have b10 := F10.binds (ps := ["limits"]) fun _ _ _ _ _ _ us hl => match us, hl with | [_], _ => rfl
  have F11 := fun_mk (st := sSf) l11 c11 k11
  have b11 := F11.binds (ps := ["_law_stream_here", "_law_things"]) fun _ _ _ _ _ _ us hl => match us, hl with | [_, _], _ => rfl
  have F12 := fun_mk (st := sEnt) l12 c12 k12
  have b12 := F12.binds (ps := ["_law_stream_here", "_law_pool_here"]) fun _ _ _ _ _ _ us hl => match us, hl with | [_, _], _ => rfl
  have F13 := fun_mk (st := sKp) l13 c13 k13
  have b13 := F13.binds (ps := ["_law_entries_here", "_law_taken"]) fun _ _ _ _ _ _ us hl => match us, hl with | [_, _], _ => rfl
  have F14 := fun_mk (st := sCr) l14 c14 k14
  have b14 := F14.binds (ps := ["_law_scope_here", "_law_sides_here", "_law_entries_here"]) fun _ _ _ _ _ _ us hl => match us, hl with | [_, _, _], _ => rfl
  have F15 := fun_mk (st := sIsInt) l15 c15 k15
  have b15 := F15.binds (ps := ["_law_actual"]) fun _ _ _ _ _ _ us hl => match us, hl with | [_], _ => rfl
  have F16 := fun_mk (st := sSl) l16 c16 k16
  have b16 := F16.binds (ps := ["_law_actual", "_law_entries_here"]) fun _ _ _ _ _ _ us hl => match us, hl with | [_, _], _ => rfl
  have F17 := fun_mk (st := sCopied) l17 c17 k17
  have b17 := F17.binds (ps := ["_law_sides_here"]) fun _ _ _ _ _ _ us hl => match us, hl with | [_], _ => rfl
  have F18 := fun_mk (st := sRst) l18 c18 k18
  have b18 := F18.binds (ps := ["names", "box"]) fun _ _ _ _ _ _ us hl => match us, hl with | [_, _], _ => rfl
  have F19 := fun_mk (st := sTk) l19 c19 k19
  have b19 := F19.binds (ps := ["fit", "value"]) fun _ _ _ _ _ _ us hl => match us, hl with | [_, _], _ => rfl
  have F20 := fun_mk (st := sMu) l20 c20 k20
  have b20 := F20.binds (ps := ["fit", "seekers", "value"]) fun _ _ _ _ _ _ us hl => match us, hl with | [_, _, _], _ => rfl
  have F21 := fun_mk (st := sWn) l21 c21 k21
  have b21 := F21.binds (ps := ["box", "highs", "fit", "name"]) fun _ _ _ _ _ _ us hl => match us, hl with | [_, _, _, _], _ => rfl
  have F22 := fun_mk (st := sGr) l22 c22 k22
  have b22 := F22.binds (ps := ["box", "highs", "start"]) fun _ _ _ _ _ _ us hl => match us, hl with | [_, _, _], _ => rfl
  have F23 := fun_mk (st := sCu) l23 c23 k23
  have b23 := F23.binds (ps := ["fit", "callers", "giving", "name"]) fun _ _ _ _ _ _ us hl => match us, hl with | [_, _, _, _], _ => rfl
  have F24 := fun_mk (st := sWt) l24 c24 k24
  have b24 := F24.binds (ps := ["box", "fit", "value"]) fun _ _ _ _ _ _ us hl => match us, hl with | [_, _, _], _ => rfl
  have F25 := fun_mk (st := sSpl) l25 c25 k25
  have b25 := F25.binds (ps := ["box", "lows", "start"]) fun _ _ _ _ _ _ us hl => match us, hl with | [_, _, _], _ => rfl
  have F26 := fun_mk (st := sPw) l26 c26 k26
  have b26 := F26.binds (ps := ["fit", "box"]) fun _ _ _ _ _ _ us hl => match us, hl with | [_, _], _ => rfl
  have F27 := fun_mk (st := sFn) l27 c27 k27
  have b27 := F27.binds (ps := ["box", "highs", "lows", "full", "part"]) fun _ _ _ _ _ _ us hl => match us, hl with | [_, _, _, _, _], _ => rfl
  have F28 := fun_mk (st := sCho) l28 c28 k28
  have b28 := F28.binds (ps := ["box", "highs", "lows", "name"]) fun _ _ _ _ _ _ us hl => match us, hl with | [_, _, _, _], _ => rfl
  have F29 := fun_mk (st := sIsSide) l29 c29 k29
  have b29 := F29.binds (ps := ["_law_actual"]) fun _ _ _ _ _ _ us hl => match us, hl with | [_], _ => rfl
  have F30 := fun_mk (st := sFch) l30 c30 k30
  have b30 := F30.binds (ps := ["box", "highs", "lows"]) fun _ _ _ _ _ _ us hl => match us, hl with | [_, _, _], _ => rfl
  have F31 := fun_mk (st := sSv) l31 c31 k31
  have b31 := F31.binds (ps := ["_law_actual", "_law_expected"]) fun _ _ _ _ _ _ us hl => match us, hl with | [_, _], _ => rfl
  have F32 := fun_mk (st := sNmd) l32 c32 k32
  have b32 := F32.binds (ps := ["_law_scope_here", "_law_row"]) fun _ _ _ _ _ _ us hl => match us, hl with | [_, _], _ => rfl
  have F33 := fun_mk (st := sSame) l33 c33 k33
  have b33 := F33.binds (ps := ["_law_actual", "_law_expected"]) fun _ _ _ _ _ _ us hl => match us, hl with | [_, _], _ => rfl
  have F34 := fun_mk (st := sBh) l34 c34 k34
  have b34 := F34.binds (ps := ["_law_rule", "_law_scope_here", "_law_rows", "_law_sides_here", "_law_asked", "_law_spoil"]) fun _ _ _ _ _ _ us hl => match us, hl with | [_, _, _, _, _, _], _ => rfl
  have F35 := fun_mk (st := sRof) l35 c35 k35
  have b35 := F35.binds (ps := ["names", "values"]) fun _ _ _ _ _ _ us hl => match us, hl with | [_, _], _ => rfl
  have F36 := fun_mk (st := sAh) l36 c36 k36
  have b36 := F36.binds (ps := ["_law_rule", "_law_scope_here", "_law_entries_here", "_law_rows", "_law_stream_here", "_law_pool_here"]) fun _ _ _ _ _ _ us hl => match us, hl with | [_, _, _, _, _, _], _ => rfl
  have F37 := fun_mk (st := sDh) l37 c37 k37
  have b37 := F37.binds (ps := ["_law_stream_here"]) fun _ _ _ _ _ _ us hl => match us, hl with | [_], _ => rfl
  have F38 := fun_mk (st := sLaw) l38 c38 k38
  have T0 : Kls K mg "Counts" kk0 ["names", "limits"] := ⟨⟨kpg0, khd0, kpo0, ksa0⟩, PySem.W.mg_of X G kc0, fun f hf => by
      simp only [List.mem_cons, List.not_mem_nil, or_false] at hf
      rcases hf with rfl | rfl
      · exact kn0_0
      · exact kn0_1⟩
  have Fkm0_0 := fun_mk (st := sCin) km0_0l km0_0c km0_0k
  have bkm0_0 := Fkm0_0.binds (ps := ["self", "names", "limits"]) fun _ _ _ _ _ _ us hl => match us, hl with | [_, _, _], _ => rfl
  have Fkm0_1 := fun_mk (st := sHig) km0_1l km0_1c km0_1k
  have bkm0_1 := Fkm0_1.binds (ps := ["self"]) fun _ _ _ _ _ _ us hl => match us, hl with | [_], _ => rfl
  have Fkm0_2 := fun_mk (st := sLow) km0_2l km0_2c km0_2k
  have bkm0_2 := Fkm0_2.binds (ps := ["self"]) fun _ _ _ _ _ _ us hl => match us, hl with | [_], _ => rfl
  have Fkm0_3 := fun_mk (st := sSpd) km0_3l km0_3c km0_3k
  have bkm0_3 := Fkm0_3.binds (ps := ["self", "box", "name"]) fun _ _ _ _ _ _ us hl => match us, hl with | [_, _, _], _ => rfl
  have Fkm0_4 := fun_mk (st := sWit) km0_4l km0_4c km0_4k
  have bkm0_4 := Fkm0_4.binds (ps := ["self", "box"]) fun _ _ _ _ _ _ us hl => match us, hl with | [_, _], _ => rfl
  have Fkm0_5 := fun_mk (st := sAlo) km0_5l km0_5c km0_5k
  have bkm0_5 := Fkm0_5.binds (ps := ["self", "values"]) fun _ _ _ _ _ _ us hl => match us, hl with | [_, _], _ => rfl
  refine ⟨PySem.W.fnOf "law" "law" (defArgs sLaw) (defBody sLaw) (defScope sLaw) .none kV38 dc38 pm38 an38 cd38 ct38, fun s v => .of_eq rfl, fun base _ _ => ?_⟩
  have Cstream : Call l.prog w K mg base 1 "_law_stream" f1 _ ["_law_script", "_law_k"] (spStream K) := ⟨ok_stream F1 B, PySem.W.mg_of X G a1, k1, b1⟩
  have Cdraw : Call l.prog w K mg base 1 "_law_next" f2 _ ["_law_stream_here", "_law_size"] spDraw := ⟨ok_draw F2 B, PySem.W.mg_of X G a2, k2, b2⟩
  have Cnames : Call l.prog w K mg base 2 "_law_names" f3 _ ["_law_stream_here", "_law_count"] spNames := ⟨ok_names F3 B Cdraw, PySem.W.mg_of X G a3, k3, b3⟩
  have Cpool : Call l.prog w K mg base 2 "_law_pool" f4 _ ["_law_stream_here", "_law_count"] spPool := ⟨ok_pool F4 B Cdraw, PySem.W.mg_of X G a4, k4, b4⟩
  have CSco : Call l.prog w K mg base 2 "_law_scope" f5 _ ["_law_stream_here", "_law_names_here", "_law_most"] spSco := ⟨ok_Sco F5 B (PySem.W.mg_none_of X G z12) Cdraw, PySem.W.mg_of X G a5, k5, b5⟩
  have Cdoms : Call l.prog w K mg base 2 "_law_domains" f6 _ ["_law_stream_here", "_law_names_here", "_law_pool_here", "_law_most"] spDoms := ⟨ok_doms F6 B Cdraw, PySem.W.mg_of X G a6, k6, b6⟩
  have CSd : Call l.prog w K mg base 1 "_law_sides" f7 _ ["_law_domains_here"] spSd := ⟨ok_Sd F7 B, PySem.W.mg_of X G a7, k7, b7⟩
  have CWor : Call l.prog w K mg base 3 "_law_world" f8 _ ["_law_script"] (spWor K) := ⟨ok_Wor F8 B Cstream Cdraw Cnames Cpool CSco Cdoms CSd, PySem.W.mg_of X G a8, k8, b8⟩
  have CChk : Call l.prog w K mg base 1 "checked_names" f9 _ ["names"] spChk := ⟨ok_Chk F9 B (PySem.W.mg_none_of X G z14), PySem.W.mg_of X G a9, k9, b9⟩
  have CCl : Call l.prog w K mg base 1 "_checked_limits" f10 _ ["limits"] spCl := ⟨ok_Cl F10 B (PySem.W.mg_none_of X G z14), PySem.W.mg_of X G a10, k10, b10⟩
  have CCin : CallN l.prog w K mg base 2 kk0 km0_0 _ ["self", "names", "limits"] (spCin kk0) := ⟨ok_Cin Fkm0_0 B T0 CChk CCl, ⟨kmk0, km0_0a, km0_0i, kkc0⟩, bkm0_0⟩
  have CSf : Call l.prog w K mg base 2 "_law_shuffled" f11 _ ["_law_stream_here", "_law_things"] spSf := ⟨ok_Sf F11 B Cdraw, PySem.W.mg_of X G a11, k11, b11⟩
  have CEnt : Call l.prog w K mg base 3 "_law_entries" f12 _ ["_law_stream_here", "_law_pool_here"] spEnt := ⟨ok_Ent F12 B (PySem.W.mg_none_of X G z11) CSf Cdraw, PySem.W.mg_of X G a12, k12, b12⟩
  have CKp : Call l.prog w K mg base 1 "_law_keeps" f13 _ ["_law_entries_here", "_law_taken"] spKp := ⟨ok_Kp F13 B, PySem.W.mg_of X G a13, k13, b13⟩
  have CCr : Call l.prog w K mg base 2 "_law_counted_rows" f14 _ ["_law_scope_here", "_law_sides_here", "_law_entries_here"] spCr := ⟨ok_Cr F14 B CKp, PySem.W.mg_of X G a14, k14, b14⟩
  have CisInt : Call l.prog w K mg base 1 "_law_is_integer" f15 _ ["_law_actual"] spIsInt := ⟨ok_isInt F15 B, PySem.W.mg_of X G a15, k15, b15⟩
  have CSl : Call l.prog w K mg base 2 "_law_same_limits" f16 _ ["_law_actual", "_law_entries_here"] spSl := ⟨ok_Sl F16 B (PySem.W.mg_none_of X G z14) CisInt, PySem.W.mg_of X G a16, k16, b16⟩
  have Ccopied : Call l.prog w K mg base 1 "_law_copied" f17 _ ["_law_sides_here"] spCopy := ⟨ok_copied F17 B, PySem.W.mg_of X G a17, k17, b17⟩
  have CRst : Call l.prog w K mg base 1 "restricted" f18 _ ["names", "box"] spRst := ⟨ok_Rst F18 B, PySem.W.mg_of X G a18, k18, b18⟩
  have CTk : Call l.prog w K mg base 1 "_takers" f19 _ ["fit", "value"] spTk := ⟨ok_Tk F19 B, PySem.W.mg_of X G a19, k19, b19⟩
  have CMu : Call l.prog w K mg base 1 "_moved_up" f20 _ ["fit", "seekers", "value"] spMu := ⟨ok_Mu F20 B, PySem.W.mg_of X G a20, k20, b20⟩
  have CWn : Call l.prog w K mg base 2 "_with_name" f21 _ ["box", "highs", "fit", "name"] spWn := ⟨ok_Wn F21 B CTk CMu, PySem.W.mg_of X G a21, k21, b21⟩
  have CGr : Call l.prog w K mg base 3 "_grown" f22 _ ["box", "highs", "start"] spGr := ⟨ok_Gr F22 B CWn, PySem.W.mg_of X G a22, k22, b22⟩
  have CCu : Call l.prog w K mg base 1 "_called_up" f23 _ ["fit", "callers", "giving", "name"] spCu := ⟨ok_Cu F23 B, PySem.W.mg_of X G a23, k23, b23⟩
  have CWt : Call l.prog w K mg base 2 "_with_taker" f24 _ ["box", "fit", "value"] spWt := ⟨ok_Wt F24 B CCu, PySem.W.mg_of X G a24, k24, b24⟩
  have CSpl : Call l.prog w K mg base 3 "_supplied" f25 _ ["box", "lows", "start"] spSpl := ⟨ok_Spl F25 B CWt CTk, PySem.W.mg_of X G a25, k25, b25⟩
  have CPw : Call l.prog w K mg base 1 "_part_within" f26 _ ["fit", "box"] spPw := ⟨ok_Pw F26 B, PySem.W.mg_of X G a26, k26, b26⟩
  have CFn : Call l.prog w K mg base 4 "_fits_near" f27 _ ["box", "highs", "lows", "full", "part"] spFn := ⟨ok_Fn F27 B CGr CSpl CPw, PySem.W.mg_of X G a27, k27, b27⟩
  have CCho : Call l.prog w K mg base 5 "choices" f28 _ ["box", "highs", "lows", "name"] spCho := ⟨ok_Cho F28 B CFn, PySem.W.mg_of X G a28, k28, b28⟩
  have CHig : CallM l.prog w K mg base 1 kk0 "_highs" km0_1 _ ["self"] (spHig kk0) := ⟨ok_Hig Fkm0_1 B T0, ⟨km0_1a, km0_1i, km0_1k⟩, bkm0_1⟩
  have CLow : CallM l.prog w K mg base 1 kk0 "_lows" km0_2 _ ["self"] (spLow kk0) := ⟨ok_Low Fkm0_2 B T0, ⟨km0_2a, km0_2i, km0_2k⟩, bkm0_2⟩
  have CSpd : CallM l.prog w K mg base 6 kk0 "supported" km0_3 _ ["self", "box", "name"] (spSpd kk0) := ⟨ok_Spd Fkm0_3 B T0 CRst CCho CHig CLow, ⟨km0_3a, km0_3i, km0_3k⟩, bkm0_3⟩
  have CisSide : Call l.prog w K mg base 2 "_law_is_side" f29 _ ["_law_actual"] spIsSide := ⟨ok_isSide F29 B CisInt, PySem.W.mg_of X G a29, k29, b29⟩
  have CFch : Call l.prog w K mg base 5 "first_choice" f30 _ ["box", "highs", "lows"] spFch := ⟨ok_Fch F30 B CFn, PySem.W.mg_of X G a30, k30, b30⟩
  have CWit : CallM l.prog w K mg base 6 kk0 "witness" km0_4 _ ["self", "box"] (spWit kk0) := ⟨ok_Wit Fkm0_4 B T0 CRst CFch CHig CLow, ⟨km0_4a, km0_4i, km0_4k⟩, bkm0_4⟩
  have CSv : Call l.prog w K mg base 2 "_law_same_values" f31 _ ["_law_actual", "_law_expected"] spSV := ⟨ok_Sv F31 B CisInt, PySem.W.mg_of X G a31, k31, b31⟩
  have CNmd : Call l.prog w K mg base 1 "_law_named" f32 _ ["_law_scope_here", "_law_row"] spNmd := ⟨ok_Nmd F32 B, PySem.W.mg_of X G a32, k32, b32⟩
  have Csame : Call l.prog w K mg base 3 "_law_same_sides" f33 _ ["_law_actual", "_law_expected"] spSame := ⟨ok_same F33 B CisSide, PySem.W.mg_of X G a33, k33, b33⟩
  have CBh : Call l.prog w K mg base 7 "_law_box_holds" f34 _ ["_law_rule", "_law_scope_here", "_law_rows", "_law_sides_here", "_law_asked", "_law_spoil"] (spBh kk0) := ⟨ok_Bh F34 B T0 Ccopied CSpd CisSide CWit CSv CNmd Csame, PySem.W.mg_of X G a34, k34, b34⟩
  have CRof : Call l.prog w K mg base 1 "row_of" f35 _ ["names", "values"] spRof := ⟨ok_Rof F35 B (PySem.W.mg_none_of X G z14), PySem.W.mg_of X G a35, k35, b35⟩
  have CAlo : CallM l.prog w K mg base 2 kk0 "allows" km0_5 _ ["self", "values"] (spAlo kk0) := ⟨ok_Alo Fkm0_5 B T0 CRof, ⟨km0_5a, km0_5i, km0_5k⟩, bkm0_5⟩
  have CAh : Call l.prog w K mg base 3 "_law_allowing_holds" f36 _ ["_law_rule", "_law_scope_here", "_law_entries_here", "_law_rows", "_law_stream_here", "_law_pool_here"] (spAh kk0) := ⟨ok_Ah F36 B T0 Cdraw CNmd CAlo CKp CSv, PySem.W.mg_of X G a36, k36, b36⟩
  have CDh : Call l.prog w K mg base 7 "_law_dense_holds" f37 _ ["_law_stream_here"] spDh := ⟨ok_Dh F37 B (PySem.W.mg_none_of X G z13) T0 Cdraw Cpool CSf CCin CWit CSpd CisSide, PySem.W.mg_of X G a37, k37, b37⟩
  exact ok_Law F38 B (PySem.W.mg_none_of X G z14) T0 CWor Cstream Cdraw CCin CEnt CCr CSl CBh CAh CDh
theorem walk {l : PySem.W.OpenLaw} {q : Program} {loose : List Str} {XP : (Str → Option Value) → Heap → Prop} {YP : World → Heap → Prop} {d : DefRec} {K : Params → PySem.W.Frag} (hn : l.most = some 63) (hdf : d.params.defaults = [])
    (hY : ∀ (w : World) (h : Heap), YP w h → (K w.params).In h)
    (F : ∀ (w : World) (mg : Str → Option Value) (fa : Addr) (h : Heap), (K w.params).In h → h.Ns mainGlobals mg → mg d.name = some (.ref fa) →
      ∃ fd : FuncData, (∀ (s : Shared) (u : Value), BindsTo s fd ⟨[u], []⟩ [("_law_script", u)]) ∧ ∀ base : Heap, (K w.params).In base → base.Ns mainGlobals mg → FnOk l.prog w (K w.params) mg base CX0 8 fa fd ["_law_script"] (spLaw (K w.params))) :
    PySem.W.WalkO q loose XP YP l.row.toRowW d [] (fun f vs => PySem.call f vs) :=
  L2.walk_of (n := 63) (k := 8) (x := "_law_script") (CX := fun _ => CX0) (sp := fun w => spLaw (K w.params)) hn (by decide) hdf ⟨rfl, by decide, by decide⟩ hY F (fun _ _ a ns hl _ hS => ⟨a, ns, rfl, hS, hl, fun _ => rfl⟩) fun _ _ _ _ _ z => z
end K22
set_option Elab.async false
set_option linter.all false
open PySem PySem.W PyProof.Rows
set_option maxRecDepth 100000 in
set_option maxHeartbeats 0 in
theorem PySem.Challenge.cw_curbdesk_k22_counts_supported_holds : PySem.Challenge.rw_curbdesk_k22_counts_supported.Holds := by
  w_on; o_law; k_head; (case hw => w_witness2)
  k_fill
  refine K22.walk (l := PySem.Challenge.rw_curbdesk_k22_counts_supported) rfl rfl (fun w h Y => PySem.W.kIn_of Y) ?F
  case F =>
    intro w mg fa h KX G hmg
    refine' K22.all_mk KX G hmg ?a1 ?l1 ?c1 ?k1 ?a2 ?l2 ?c2 ?k2 ?a3 ?l3 ?c3 ?k3 ?a4 ?l4 ?c4 ?k4 ?a5 ?l5 ?c5 ?k5 ?a6 ?l6 ?c6 ?k6 ?a7 ?l7 ?c7 ?k7 ?a8 ?l8 ?c8 ?k8 ?a9 ?l9 ?c9 ?k9 ?a10 ?l10 ?c10 ?k10 ?a11 ?l11 ?c11 ?k11 ?a12 ?l12 ?c12 ?k12 ?a13 ?l13 ?c13 ?k13 ?a14 ?l14 ?c14 ?k14 ?a15 ?l15 ?c15 ?k15 ?a16 ?l16 ?c16 ?k16 ?a17 ?l17 ?c17 ?k17 ?a18 ?l18 ?c18 ?k18 ?a19 ?l19 ?c19 ?k19 ?a20 ?l20 ?c20 ?k20 ?a21 ?l21 ?c21 ?k21 ?a22 ?l22 ?c22 ?k22 ?a23 ?l23 ?c23 ?k23 ?a24 ?l24 ?c24 ?k24 ?a25 ?l25 ?c25 ?k25 ?a26 ?l26 ?c26 ?k26 ?a27 ?l27 ?c27 ?k27 ?a28 ?l28 ?c28 ?k28 ?a29 ?l29 ?c29 ?k29 ?a30 ?l30 ?c30 ?k30 ?a31 ?l31 ?c31 ?k31 ?a32 ?l32 ?c32 ?k32 ?a33 ?l33 ?c33 ?k33 ?a34 ?l34 ?c34 ?k34 ?a35 ?l35 ?c35 ?k35 ?a36 ?l36 ?c36 ?k36 ?a37 ?l37 ?c37 ?k37 ?a38 ?l38 ?c38 ?k38 ?kc0 ?kpg0 ?khd0 ?kpo0 ?ksa0 ?kmk0 ?kkc0 ?kn0_0 ?kn0_1 ?km0_0a ?km0_0i ?km0_0l ?km0_0c ?km0_0k ?km0_1a ?km0_1i ?km0_1l ?km0_1c ?km0_1k ?km0_2a ?km0_2i ?km0_2l ?km0_2c ?km0_2k ?km0_3a ?km0_3i ?km0_3l ?km0_3c ?km0_3k ?km0_4a ?km0_4i ?km0_4l ?km0_4c ?km0_4k ?km0_5a ?km0_5i ?km0_5l ?km0_5c ?km0_5k ?z1 ?z2 ?z3 ?z4 ?z5 ?z6 ?z7 ?z8 ?z9 ?z10 ?z11 ?z12 ?z13 ?z14
    (case a1 => k_is)
    (case l1 => k_is)
    (case c1 => k_is)
    (case k1 => k_is)
    (case a2 => k_is)
    (case l2 => k_is)
    (case c2 => k_is)
    (case k2 => k_is)
    (case a3 => k_is)
    (case l3 => k_is)
    (case c3 => k_is)
    (case k3 => k_is)
    (case a4 => k_is)
    (case l4 => k_is)
    (case c4 => k_is)
    (case k4 => k_is)
    (case a5 => k_is)
    (case l5 => k_is)
    (case c5 => k_is)
    (case k5 => k_is)
    (case a6 => k_is)
    (case l6 => k_is)
    (case c6 => k_is)
    (case k6 => k_is)
    (case a7 => k_is)
    (case l7 => k_is)
    (case c7 => k_is)
    (case k7 => k_is)
    (case a8 => k_is)
    (case l8 => k_is)
    (case c8 => k_is)
    (case k8 => k_is)
    (case a9 => k_is)
    (case l9 => k_is)
    (case c9 => k_is)
    (case k9 => k_is)
    (case a10 => k_is)
    (case l10 => k_is)
    (case c10 => k_is)
    (case k10 => k_is)
    (case a11 => k_is)
    (case l11 => k_is)
    (case c11 => k_is)
    (case k11 => k_is)
    (case a12 => k_is)
    (case l12 => k_is)
    (case c12 => k_is)
    (case k12 => k_is)
    (case a13 => k_is)
    (case l13 => k_is)
    (case c13 => k_is)
    (case k13 => k_is)
    (case a14 => k_is)
    (case l14 => k_is)
    (case c14 => k_is)
    (case k14 => k_is)
    (case a15 => k_is)
    (case l15 => k_is)
    (case c15 => k_is)
    (case k15 => k_is)
    (case a16 => k_is)
    (case l16 => k_is)
    (case c16 => k_is)
    (case k16 => k_is)
    (case a17 => k_is)
    (case l17 => k_is)
    (case c17 => k_is)
    (case k17 => k_is)
    (case a18 => k_is)
    (case l18 => k_is)
    (case c18 => k_is)
    (case k18 => k_is)
    (case a19 => k_is)
    (case l19 => k_is)
    (case c19 => k_is)
    (case k19 => k_is)
    (case a20 => k_is)
    (case l20 => k_is)
    (case c20 => k_is)
    (case k20 => k_is)
    (case a21 => k_is)
    (case l21 => k_is)
    (case c21 => k_is)
    (case k21 => k_is)
    (case a22 => k_is)
    (case l22 => k_is)
    (case c22 => k_is)
    (case k22 => k_is)
    (case a23 => k_is)
    (case l23 => k_is)
    (case c23 => k_is)
    (case k23 => k_is)
    (case a24 => k_is)
    (case l24 => k_is)
    (case c24 => k_is)
    (case k24 => k_is)
    (case a25 => k_is)
    (case l25 => k_is)
    (case c25 => k_is)
    (case k25 => k_is)
    (case a26 => k_is)
    (case l26 => k_is)
    (case c26 => k_is)
    (case k26 => k_is)
    (case a27 => k_is)
    (case l27 => k_is)
    (case c27 => k_is)
    (case k27 => k_is)
    (case a28 => k_is)
    (case l28 => k_is)
    (case c28 => k_is)
    (case k28 => k_is)
    (case a29 => k_is)
    (case l29 => k_is)
    (case c29 => k_is)
    (case k29 => k_is)
    (case a30 => k_is)
    (case l30 => k_is)
    (case c30 => k_is)
    (case k30 => k_is)
    (case a31 => k_is)
    (case l31 => k_is)
    (case c31 => k_is)
    (case k31 => k_is)
    (case a32 => k_is)
    (case l32 => k_is)
    (case c32 => k_is)
    (case k32 => k_is)
    (case a33 => k_is)
    (case l33 => k_is)
    (case c33 => k_is)
    (case k33 => k_is)
    (case a34 => k_is)
    (case l34 => k_is)
    (case c34 => k_is)
    (case k34 => k_is)
    (case a35 => k_is)
    (case l35 => k_is)
    (case c35 => k_is)
    (case k35 => k_is)
    (case a36 => k_is)
    (case l36 => k_is)
    (case c36 => k_is)
    (case k36 => k_is)
    (case a37 => k_is)
    (case l37 => k_is)
    (case c37 => k_is)
    (case k37 => k_is)
    (case a38 => k_is)
    (case l38 => k_is)
    (case c38 => k_is)
    (case k38 => k_is)
    (case kc0 => k_is)
    (case kpg0 => k_is)
    (case khd0 => k_is)
    (case kpo0 => k_is)
    (case ksa0 => k_is)
    (case kmk0 => k_is)
    (case kkc0 => k_is)
    (case kn0_0 => k_is)
    (case kn0_1 => k_is)
    (case km0_0a => k_is)
    (case km0_0i => k_is)
    (case km0_0l => k_is)
    (case km0_0c => k_is)
    (case km0_0k => k_is)
    (case km0_1a => k_is)
    (case km0_1i => k_is)
    (case km0_1l => k_is)
    (case km0_1c => k_is)
    (case km0_1k => k_is)
    (case km0_2a => k_is)
    (case km0_2i => k_is)
    (case km0_2l => k_is)
    (case km0_2c => k_is)
    (case km0_2k => k_is)
    (case km0_3a => k_is)
    (case km0_3i => k_is)
    (case km0_3l => k_is)
    (case km0_3c => k_is)
    (case km0_3k => k_is)
    (case km0_4a => k_is)
    (case km0_4i => k_is)
    (case km0_4l => k_is)
    (case km0_4c => k_is)
    (case km0_4k => k_is)
    (case km0_5a => k_is)
    (case km0_5i => k_is)
    (case km0_5l => k_is)
    (case km0_5c => k_is)
    (case km0_5k => k_is)
    (case z1 => k_is)
    (case z2 => k_is)
    (case z3 => k_is)
    (case z4 => k_is)
    (case z5 => k_is)
    (case z6 => k_is)
    (case z7 => k_is)
    (case z8 => k_is)
    (case z9 => k_is)
    (case z10 => k_is)
    (case z11 => k_is)
    (case z12 => k_is)
    (case z13 => k_is)
    (case z14 => k_is)
