import PyProof.Rows.All
import Wide.All
import OpenK.AllK
import Wide.FinOn
import HandS.ForMost
import HandS.Strs
import HandS.Set
import HandS.SetFor
import HandS.TupSets
import HandS.IsInst
import HandS.Flow
import HandS.Style
import HandS.Zip
import HandS.SortInts
import HandS.DeepEq
import HandS.SetBool
import HandS.SetKeys
import HandS.Walk
import HandS.DictComp
import HandS.ExcInit
import HandS.ExcField
import HandS.ExcOwn
import HandS.WordsExc
import HandS.ExcIs
import KE.KExcIs
import HandS.OwnEq
import HandS.Zip0
import HandS.Small
import HandS.Property
import PySem.Challenge.RW_curbdesk_k56_whole_rings_bare_or_not
set_option Elab.async false
set_option linter.all false
set_option maxRecDepth 100000
/-! Tables of sets that are laid anew, for the masks that merging asks for. -/
namespace Cs
open PySem PySem.Spec PyProof.Rows
def hop (m : Nat) (q : Nat × Nat) : Nat × Nat := SetTable.leap m q.1 q.2
def hops (m : Nat) : Nat → Nat × Nat → Nat × Nat
  | 0, q => q
  | n + 1, q => hops m n (hop m q)
abbrev own (ow : Array (Option Nat)) (j : Nat) : Option Nat := ow.getD j (some 0)
theorem free_step (m : Nat) (ow : Array (Option Nat)) (f : Nat) (q : Nat × Nat) : SetTable.layClean.free m ow (f + 1) q.1 q.2 =
    (match (List.range (SetTable.runEnd m q.1 + 1 - q.1)).find? (fun k => (own ow (q.1 + k)).isNone) with
      | some k => some (q.1 + k)
      | none => SetTable.layClean.free m ow f (hop m q).1 (hop m q).2) := rfl
theorem run_ge (m i : Nat) : i ≤ SetTable.runEnd m i := by
  unfold SetTable.runEnd
  split <;> omega
theorem run_le {m i : Nat} (h : i ≤ m) : SetTable.runEnd m i ≤ m := by
  unfold SetTable.runEnd
  split <;> omega
theorem hop_le (m : Nat) (q : Nat × Nat) : (hop m q).1 ≤ m := Nat.le_of_lt_succ (Nat.mod_lt _ (Nat.succ_pos m))
theorem free_none (m : Nat) (ow : Array (Option Nat)) : ∀ (f : Nat) (q : Nat × Nat), SetTable.layClean.free m ow f q.1 q.2 = none → ∀ n, n < f → (own ow (hops m n q).1).isNone = false
  | 0, _, _, n, h => absurd h (Nat.not_lt_zero n)
  | f + 1, q, e, n, h => by
    rw [free_step] at e
    cases c : (List.range (SetTable.runEnd m q.1 + 1 - q.1)).find? (fun k => (own ow (q.1 + k)).isNone) with
    | some k => rw [c] at e; exact nomatch e
    | none =>
      rw [c] at e
      cases n with
      | zero =>
        have z := List.find?_eq_none.mp c 0 (List.mem_range.mpr (by have := run_ge m q.1; omega))
        have z2 : ¬ ((own ow q.1).isNone = true) := z
        exact Bool.eq_false_iff.mpr z2
      | succ n => exact free_none m ow f (hop m q) e n (by omega)
theorem free_some (m : Nat) (ow : Array (Option Nat)) : ∀ (f : Nat) (q : Nat × Nat) (j : Nat), SetTable.layClean.free m ow f q.1 q.2 = some j → q.1 ≤ m → j ≤ m ∧ (own ow j).isNone = true
  | 0, _, _, e, _ => nomatch e
  | f + 1, q, j, e, hq => by
    rw [free_step] at e
    cases c : (List.range (SetTable.runEnd m q.1 + 1 - q.1)).find? (fun k => (own ow (q.1 + k)).isNone) with
    | some k =>
      rw [c] at e
      have ej : q.1 + k = j := Option.some.inj e
      have h1 := List.mem_of_find?_eq_some c
      have h2 := List.find?_some c
      have h3 := List.mem_range.mp h1
      have h4 := run_le hq
      rw [← ej]
      exact ⟨by omega, h2⟩
    | none =>
      rw [c] at e
      exact free_some m ow f (hop m q) j e (hop_le m q)
theorem hops_back (m : Nat) : ∀ (n : Nat) (q : Nat × Nat), hops m (n + 1) q = hop m (hops m n q)
  | 0, _ => rfl
  | n + 1, q => hops_back m n (hop m q)
theorem hops_add (m : Nat) (a : Nat) : ∀ (k : Nat) (q : Nat × Nat), hops m (a + k) q = hops m k (hops m a q)
  | 0, _ => rfl
  | k + 1, q => by
    rw [show a + (k + 1) = (a + k) + 1 from rfl, hops_back, hops_back, hops_add m a k q]
theorem hops_snd (m : Nat) : ∀ (n : Nat) (q : Nat × Nat), (hops m n q).2 = q.2 / 32 ^ n
  | 0, q => (Nat.div_one q.2).symm
  | n + 1, q => by
    rw [hops_back]
    show (hops m n q).2 / 32 = _
    rw [hops_snd m n q, Nat.div_div_eq_div_mul, Nat.pow_succ]
theorem hops_fst_le (m : Nat) {q : Nat × Nat} (hq : q.1 ≤ m) : ∀ n, (hops m n q).1 ≤ m
  | 0 => hq
  | n + 1 => by rw [hops_back]; exact hop_le m _
theorem hops_zero (m i : Nat) : ∀ k, hops m k (i, 0) = (L2.lcgI m i k, 0)
  | 0 => rfl
  | k + 1 => by
    rw [hops_back, hops_zero m i k]
    show ((L2.lcgI m i k * 5 + 1 + 0 / 32) % (m + 1), 0 / 32) = _
    rw [Nat.zero_div, Nat.add_zero] <;> rfl
def Msk (m : Nat) : Prop := m = 7 ∨ m = 15 ∨ m = 31 ∨ m = 63 ∨ m = 127
/- one round from 0, then the shift -/
theorem all15 : ((List.range 16).all fun j => (List.range 16).any fun b => L2.lcgN 15 b == j) = true := by decide +kernel
theorem all63 : ((List.range 64).all fun j => (List.range 64).any fun b => L2.lcgN 63 b == j) = true := by decide +kernel
theorem round15 : L2.lcgN 15 16 = 0 := by decide +kernel
theorem round63 : L2.lcgN 63 64 = 0 := by decide +kernel
theorem turn_mod {m : Nat} (h : L2.lcgN m (m + 1) = 0) : ∀ k, L2.lcgN m (m + 1 + k) = L2.lcgN m k
  | 0 => h
  | k + 1 => by
    show (L2.lcgN m (m + 1 + k) * 5 + 1) % (m + 1) = (L2.lcgN m k * 5 + 1) % (m + 1)
    rw [turn_mod h k]
theorem lcg_by {m : Nat} (hr : L2.lcgN m (m + 1) = 0) (ha : ((List.range (m + 1)).all fun j => (List.range (m + 1)).any fun b => L2.lcgN m b == j) = true) {i j : Nat} (hi : i ≤ m) (hj : j ≤ m) :
    ∃ k, k ≤ m ∧ L2.lcgI m i k = j := by
  have at0 : ∀ x, x ≤ m → ∃ b, b ≤ m ∧ L2.lcgN m b = x := fun x hx => by
    obtain ⟨b, hb, e⟩ := List.any_eq_true.mp (List.all_eq_true.mp ha x (List.mem_range.mpr (by omega)))
    exact ⟨b, Nat.le_of_lt_succ (List.mem_range.mp hb), eq_of_beq e⟩
  obtain ⟨a, la, ea⟩ := at0 i hi
  obtain ⟨b, lb, eb⟩ := at0 j hj
  subst ea
  by_cases c : a ≤ b
  · exact ⟨b - a, by omega, by rw [L2.lcgN_add, Nat.add_sub_cancel' c]; exact eb⟩
  · refine ⟨m + 1 + b - a, by omega, ?_⟩
    rw [L2.lcgN_add, Nat.add_sub_cancel' (by omega), turn_mod hr]
    exact eb
theorem lcg_meets {m : Nat} (hm : Msk m) {i j : Nat} (hi : i ≤ m) (hj : j ≤ m) : ∃ k, k ≤ m ∧ L2.lcgI m i k = j := by
  rcases hm with e | e | e | e | e
  · exact L2.lcgI_all (.inl e) hi hj
  · subst e; exact lcg_by round15 all15 hi hj
  · exact L2.lcgI_all (.inr (.inl e)) hi hj
  · subst e; exact lcg_by round63 all63 hi hj
  · exact L2.lcgI_all (.inr (.inr e)) hi hj
theorem free_there {m : Nat} (hm : Msk m) (ow : Array (Option Nat)) (h : Int) {j0 : Nat} (hj : j0 ≤ m) (hf : (own ow j0).isNone = true) :
    ∃ j, SetTable.layClean.free m ow (SetTable.turns m) (SetTable.bits h % (m + 1)) (SetTable.bits h) = some j ∧ j ≤ m ∧ (own ow j).isNone = true := by
  have hq : SetTable.bits h % (m + 1) ≤ m := Nat.le_of_lt_succ (Nat.mod_lt _ (Nat.succ_pos m))
  cases e : SetTable.layClean.free m ow (SetTable.turns m) (SetTable.bits h % (m + 1)) (SetTable.bits h) with
  | some j => exact ⟨j, rfl, free_some m ow _ (SetTable.bits h % (m + 1), SetTable.bits h) j e hq⟩
  | none =>
    exfalso
    have all := free_none m ow _ (SetTable.bits h % (m + 1), SetTable.bits h) e
    have z : (hops m 13 (SetTable.bits h % (m + 1), SetTable.bits h)).2 = 0 := by
      rw [hops_snd]
      refine Nat.div_eq_of_lt (Nat.lt_trans (L2.bits_lt h) ?_)
      decide
    have le := hops_fst_le m (q := (SetTable.bits h % (m + 1), SetTable.bits h)) hq 13
    obtain ⟨k, hk, ek⟩ := lcg_meets hm le hj
    have q := all (13 + k) (by show 13 + k < m + 15; omega)
    have e2 : hops m 13 (SetTable.bits h % (m + 1), SetTable.bits h) = ((hops m 13 (SetTable.bits h % (m + 1), SetTable.bits h)).1, 0) := by
      rw [← z]
    rw [hops_add, e2, hops_zero] at q
    rw [ek] at q
    rw [hf] at q
    cases q
/-! ### who sits where -/
theorem put_perm : ∀ (l : List (Option Nat)) (j k : Nat), l[j]? = some none → ((l.set j (some k)).filterMap id).Perm (k :: l.filterMap id)
  | [], j, k, h => by simp at h
  | x :: l, 0, k, h => by
    have e : x = none := by simpa using h
    subst e
    simp
  | x :: l, j + 1, k, h => by
    have ih := put_perm l j k (by simpa using h)
    cases x with
    | none => simpa using ih
    | some y =>
      simp only [List.set_cons_succ, List.filterMap_cons, id]
      exact (ih.cons y).trans (List.Perm.swap k y _)
theorem gap : ∀ l : List (Option Nat), (l.filterMap id).length < l.length → ∃ j : Nat, j < l.length ∧ l[j]? = some none
  | [], h => by simp at h
  | none :: l, h => ⟨0, by simp, rfl⟩
  | some y :: l, h => by
    obtain ⟨j, hj, e⟩ := gap l (by simpa using h)
    exact ⟨j + 1, by simpa using hj, by simpa using e⟩
structure Sit (m k : Nat) (ow : Array (Option Nat)) : Prop where
  sz : ow.size = m + 1
  pm : (ow.toList.filterMap id).Perm (List.range k)
theorem Sit.next {m k : Nat} {ow : Array (Option Nat)} (S : Sit m k ow) (hm : Msk m) (hk : k ≤ m) (h : Int) :
    ∃ j, SetTable.layClean.free m ow (SetTable.turns m) (SetTable.bits h % (m + 1)) (SetTable.bits h) = some j ∧ Sit m (k + 1) (ow.setIfInBounds j (some k)) := by
  have l1 := S.pm.length_eq
  rw [List.length_range] at l1
  obtain ⟨j0, h0, e0⟩ := gap ow.toList (by rw [l1, Array.length_toList, S.sz]; omega)
  rw [Array.length_toList, S.sz] at h0
  have f0 : (own ow j0).isNone = true := by
    have : ow[j0]? = some none := by rw [← Array.getElem?_toList]; exact e0
    simp [own, Array.getD_eq_getD_getElem?, this]
  obtain ⟨j, ej, hj, hn⟩ := free_there hm ow h (by omega) f0
  have hjs : j < ow.size := by rw [S.sz]; omega
  have en : ow.toList[j]? = some none := by
    have : own ow j = none := by simpa using hn
    rw [Array.getElem?_toList]
    simp only [own, Array.getD_eq_getD_getElem?, Array.getElem?_eq_getElem hjs, Option.getD_some] at this
    rw [Array.getElem?_eq_getElem hjs, this]
  refine ⟨j, ej, by rw [Array.size_setIfInBounds]; exact S.sz, ?_⟩
  rw [Array.toList_setIfInBounds]
  refine (put_perm ow.toList j k en).trans ?_
  rw [List.range_succ]
  exact (S.pm.cons k).trans (List.perm_append_singleton k _).symm
end Cs
set_option Elab.async false
set_option linter.all false
set_option maxRecDepth 100000
set_option maxHeartbeats 1000000
namespace Cs
open PySem PySem.Spec PyProof.Rows L2
/-- a set of ints, written out -/
structure SetX (w : World) (h : Heap) (a : Addr) (es : Array (Int × Value)) (ep : Nat) (t : SetTable) : Prop where
  obj : h.get? a = some { cls := .type "set", dict := none, data := .set es ep t, slots := #[] }
  good : ∀ e ∈ es.toList, GoodE e
  nd : (es.toList.map keyOf).Nodup
  few : es.size < scanBound
  fits : t.fits es.size = true
  ris : Ris t.place.toList
  led : w.params.followText "set-order" = true ∨ t.led = true
end Cs
set_option Elab.async false
set_option linter.all false
set_option maxRecDepth 100000
set_option maxHeartbeats 1000000
namespace Cs
open PySem PySem.Spec PyProof.Rows L2
end Cs
set_option Elab.async false
set_option linter.all false
set_option maxRecDepth 100000
set_option maxHeartbeats 1000000
namespace Cs
open PySem PySem.Spec PyProof.Rows L2
end Cs
set_option Elab.async false
set_option linter.all false
set_option maxRecDepth 100000
set_option maxHeartbeats 1000000
namespace Cs
open PySem PySem.Spec PyProof.Rows L2
section
variable {P : Program} {w : World} {A : Around} {E : Value → Shared → Prop} {s : Shared}
abbrev keys (es : Array (Int × Value)) : List Int := es.toList.map keyOf
end
end Cs
set_option Elab.async false
set_option linter.all false
set_option maxRecDepth 100000
set_option maxHeartbeats 1000000
namespace Cs
open PySem PySem.Spec PyProof.Rows L2
section
variable {P : Program} {w : World} {A : Around} {E : Value → Shared → Prop} {s : Shared}
/-! ### the words of the class -/
theorem SetX.ty {h : Heap} {a : Addr} {es : Array (Int × Value)} {ep : Nat} {t : SetTable} (R : SetX w h a es ep t) {s : Shared} (e : s.heap = h) : s.TypeIs (.ref a) "set" :=
  ⟨_, by rw [e]; exact R.obj, rfl⟩
end
end Cs
set_option Elab.async false
set_option linter.all false
set_option maxRecDepth 100000
set_option maxHeartbeats 1000000
namespace Cs
open PySem PySem.Spec PyProof.Rows L2
end Cs
set_option Elab.async false
set_option linter.all false
set_option maxRecDepth 100000
set_option maxHeartbeats 1000000
namespace Cs
open PySem PySem.Spec PyProof.Rows L2
end Cs
set_option Elab.async false
set_option linter.all false
set_option maxRecDepth 100000
set_option maxHeartbeats 2000000
namespace Cs
open PySem PySem.Spec PyProof.Rows L2
end Cs
set_option Elab.async false
set_option linter.all false
set_option maxRecDepth 100000
set_option maxHeartbeats 2000000
namespace Cs
open PySem PySem.Spec PyProof.Rows L2
end Cs
set_option Elab.async false
set_option linter.all false
set_option maxRecDepth 100000
set_option maxHeartbeats 2000000
namespace Cs
open PySem PySem.Spec PyProof.Rows L2
end Cs
set_option Elab.async false
set_option linter.all false
set_option maxRecDepth 100000
set_option maxHeartbeats 3200000
namespace Cs
open PySem PySem.Spec PyProof.Rows L2
end Cs
set_option Elab.async false
set_option linter.all false
set_option maxRecDepth 100000
set_option maxHeartbeats 2000000
namespace Cs
open PySem PySem.Spec PyProof.Rows L2
end Cs
set_option Elab.async false
set_option linter.all false
set_option maxRecDepth 100000
set_option maxHeartbeats 2000000
/-! != of two lists whose items are equal, deep -/
namespace Cs
open PySem PySem.Spec PyProof.Rows L2
open AutoSeq1 (wpAny_loadPart')
open MeetsSeq MeetsSeq2 MeetsSeq3 SeqRoads2 SeqAt
section
variable {prog : Program} {w : World}
abbrev seqO (us : Array Value) (n : Nat) (dd : Option Addr) (sl : Array (Option Value)) : Obj := { cls := .type "list", dict := dd, data := .seq us n, slots := sl }
abbrev AllP (prog : Program) (w : World) (A : Around) (s : Shared) (us ws : Array Value) : Prop := ∀ j (h1 : j < us.size) (h2 : j < ws.size), EqP prog w A s us[j] ws[j] true
theorem ne_stepP (a c : Addr) (us ws : Array Value) (n m : Nat) (d1 d2 : Option Addr) (s1 s2 : Array (Option Value)) (eq : us.size = ws.size) :
    ∀ (k i : Nat), us.size - i = k → MeetsIn prog w (Builtin.«list.__eq__.loop» ⟨[.ref a, .ref c, rawInt i, rawInt 3], []⟩)
      (fun A R s => s.heap.get? a = some (seqO us n d1 s1) ∧ s.heap.get? c = some (seqO ws m d2 s2) ∧ AllP prog w A.in1 s us ws ∧ R (.ok (.ret (.bool false))) s) := by
  intro k
  induction k with
  | zero =>
    intro i le A R s h
    obtain ⟨hp, g, d, tk, os⟩ := s
    obtain ⟨ha, hc, _, q⟩ := h
    wp_walk using wpAny_loadPart' ha, wpAny_loadPart' hc
    rw [show us[((i : Nat) : Int).toNat]? = none by simp; omega, show ws[((i : Nat) : Int).toNat]? = none by simp; omega]
    wp_walk using wpAny_loadPart' ha, wpAny_loadPart' hc
    show R (.ok (.ret (.bool (us.size != ws.size)))) _
    rw [eq]
    simpa using q
  | succ k ih =>
    intro i le A R s h
    obtain ⟨hp, g, d, tk, os⟩ := s
    obtain ⟨ha, hc, al, q⟩ := h
    have i1 : i < us.size := by omega
    have i2 : i < ws.size := by omega
    wp_walk using wpAny_loadPart' ha, wpAny_loadPart' hc
    rw [show us[((i : Nat) : Int).toNat]? = some us[i] by simp [i1], show ws[((i : Nat) : Int).toNat]? = some ws[i] by simp [i2]]
    refine wpAny_bind (al i i1 i2 _ _ ?_)
    wp_walk
    rw [show ((i : Int) + 1) = ((i + 1 : Nat) : Int) by push_cast; rfl]
    refine ⟨plainId_quiet plain_eq_loop _, codeAny_builtin entry_eq_loop ?_⟩
    rw [Around.under_plainId plain_eq_loop _]
    exact ih (i + 1) (by omega) A R _ ⟨ha, hc, al, q⟩
theorem ne_listP (a c : Addr) (us ws : Array Value) (n m : Nat) (d1 d2 : Option Addr) (s1 s2 : Array (Option Value)) (eq : us.size = ws.size) :
    MeetsIn prog w (Builtin.«list.__ne__» ⟨[.ref a, .ref c], []⟩)
      (fun A R s => s.heap.get? a = some (seqO us n d1 s1) ∧ s.heap.get? c = some (seqO ws m d2 s2) ∧ AllP prog w A.in1 s us ws ∧ R (.ok (.ret (.bool false))) s) := by
  intro A R s h
  obtain ⟨hp, g, d, tk, os⟩ := s
  obtain ⟨ha, hc, al, q⟩ := h
  have sub := AutoSeq1.sub_list_list
  have same : ¬ (us.size != ws.size) = true := by simp [eq]
  wp_walk using wpAny_loadPart' ha, wpAny_loadPart' hc
  refine ⟨plainId_quiet plain_eq_loop _, codeAny_builtin entry_eq_loop ?_⟩
  rw [Around.under_plainId plain_eq_loop _]
  exact ne_stepP a c us ws n m d1 d2 s1 s2 eq _ 0 rfl A R _ ⟨ha, hc, al, q⟩
theorem rc_neP {A : Around} {s : Shared} {a c : Addr} {us ws : Array Value} (ha : s.heap.IsList a us) (hc : s.heap.IsList c ws) (eq : us.size = ws.size) (hu : A.units < cLine)
    (al : AllP prog w A.in1 s us ws) (E Q : Value → Shared → Prop) (q : Q (.bool false) s) : wpAny (model prog w) A (richCompare .NotEq (.ref a) (.ref c)) Q E s := by
  obtain ⟨⟨c1, d1, x1, s1⟩, o1, e1, n, f1⟩ := id ha
  obtain ⟨⟨c2, d2, x2, s2⟩, o2, e2, m, f2⟩ := id hc
  simp only at e1 f1 e2 f2
  subst e1 f1 e2 f2
  have ta : s.TypeIs (.ref a) "list" := ⟨_, o1, rfl⟩
  have tc : s.TypeIs (.ref c) "list" := ⟨_, o2, rfl⟩
  exact wpAny_richCompare_same_room (op := .NotEq) ta tc F.slot_list_ne (call_meetsIn F.slot_list_ne ta F.entry_list_ne (F.args_list_ne_2 _ _) (ne_listP a c us ws n m d1 d2 s1 s2 eq)
    ⟨o1, o2, al, show Value.bool false ≠ Value.notImplemented ∧ Q (.bool false) s from ⟨(fun x => nomatch x), q⟩⟩) hu
end
section
variable {X : Cx}
/-- a != b, two lists that are equal -/
def rNeV (K : PySem.W.Frag) : R2 := fun x y H Q => ∃ a b xs ys, x = .ref a ∧ y = .ref b ∧ SqL K H a xs ∧ SqL K H b ys ∧ (∃ n, n ≤ 60 ∧ Paired (EqV K H n) xs ys) ∧ Q (.bl false) H
theorem op_neV (hu : X.A.units + 64 < cLine) : OpR X (compareOp .NotEq) (rNeV X.K) := by
  intro pins s σ H x y v u Q I rx ry h
  obtain ⟨a, b, xs, ys, rfl, rfl, ha, hb, ⟨n, hn, hp⟩, q⟩ := h
  cases (show v = Value.ref a from rx)
  cases (show u = Value.ref b from ry)
  obtain ⟨us, r1, p1, _⟩ := I.list ha
  obtain ⟨ws, r2, p2, _⟩ := I.list hb
  have hsz : us.toArray.size = ws.toArray.size := by
    rw [List.size_toArray, List.size_toArray, ← r1.length, ← r2.length]
    exact Paired.length hp
  refine rc_neP p1.isList p2.isList hsz (by omega) (fun j h1 h2 => ?_) _ _ ⟨.bl false, H, I, rfl, q⟩
  have k := items_run (eqV_run I n X.A.in1 (by show X.A.units + 1 + n < cLine; omega)) hp r1 r2 j (by simpa using h1) (by simpa using h2)
  simpa using k
end
end Cs
set_option Elab.async false
set_option linter.all false
set_option maxRecDepth 100000
set_option maxHeartbeats 4000000
/-! Sets of keys by a comprehension: {x for .. in ..}, the members ints or texts. -/
namespace Cs
open PySem PySem.Spec PyProof.Rows L2 PpSet
end Cs
set_option Elab.async false
set_option linter.all false
set_option maxRecDepth 100000
set_option maxHeartbeats 4000000
namespace K56
open PySem PySem.Spec PyProof.Rows L2 Cs
def topS (i : Nat) : Stmt := PySem.Challenge.pw_curbdesk_k56_whole_rings_bare_or_not.main.body.getD i (.Pass ⟨0, 0, 0, 0⟩)
structure Bt (mg : Str → Option Value) : Prop where
  sorted : mg "sorted" = none
  set : mg "set" = none
  len : mg "len" = none
  isi : mg "isinstance" = none
  int : mg "int" = none
  bool : mg "bool" = none
  list : mg "list" = none
  all : mg "all" = none
  range : mg "range" = none
  dict : mg "dict" = none
abbrev Srt (ms : List Int) : Prop := ms.Pairwise (· < ·)
theorem same_new {H : Hp} {p : Addr} {o : HO} (h : H p = none) : Same H (upd H p o) := fun b x e => by
  rw [upd_ne (ne_of_none e h)]
  exact e
theorem same_at {H H' : Hp} {p : Addr} {o : HO} (s : Same H H') (h : H p = none) : Same H (upd H' p o) := fun b x e => by
  rw [upd_ne (ne_of_none e h)]
  exact s _ _ e
theorem sl_map {K : PySem.W.Frag} {H : Hp} {a : Addr} {xs : List V} (h : H a = some (.lst xs)) : SqL K H a xs := .inl (.inl h)
section
variable {P : Program} {w : World} {K : PySem.W.Frag} {mg : Str → Option Value} {base : Heap}
abbrev sIsInt : Stmt := topS 20
abbrev sStream : Stmt := topS 21
abbrev sDraw : Stmt := topS 22
theorem scIsInt : FnScope ["_law_actual"] ["_law_actual"] (defScope sIsInt) := ⟨rfl, rfl, rfl, by decide +kernel, rfl, by decide +kernel, by decide +kernel⟩
theorem scStream : FnScope ["_law_script", "_law_k", "_law_cell"] ["_law_script", "_law_k"] (defScope sStream) := ⟨rfl, rfl, rfl, by decide +kernel, rfl, by decide +kernel, by decide +kernel⟩
theorem scDraw : FnScope ["_law_stream_here", "_law_size", "_law_digit", "_law_mixed"] ["_law_stream_here", "_law_size"] (defScope sDraw) := ⟨rfl, rfl, rfl, by decide +kernel, rfl, by decide +kernel, by decide +kernel⟩
def spIsInt : Sp := fun vs H Q _ => ∃ k : Int, vs = [.int k] ∧ Q (.bl true) H
theorem ok_isInt {f : Addr} {fd : FuncData} {k : Nat} (F : Fun K "_law_is_integer" "_law_is_integer" sIsInt f fd) (B : Bt mg) : FnOk P w K mg base CX0 (k + 1) f fd ["_law_actual"] spIsInt := by
  refine F.ok scIsInt (fun vs H Q E h => ?_) (fun cdv A outer s H vs Q E hr h => ?_)
  · obtain ⟨a, rfl, _⟩ := h
    rfl
  · obtain ⟨a, rfl, q⟩ := h
    refine ⟨_, pss_one (ps_ret (pe_and (pe_callB call_isi (by rfl) B.isi PyProof.Rows.boot_isinstance (pa_cons (pv 0) (pa_cons (pe_bltn (by rfl) B.int PyProof.Rows.boot_int (v := .ty "int") rfl) pa_nil)))
      (pe_one (pe_not (pe_callB call_isi (by rfl) B.isi PyProof.Rows.boot_isinstance (pa_cons (pv 0) (pa_cons (pe_bltn (by rfl) B.bool PyProof.Rows.boot_bool (v := .ty "bool") rfl) pa_nil))))))), ?_⟩
    refine ⟨.int a, rfl, .int a, .ty "int", .type "int", .type "int", true, rfl, .ty _, .base (.int a), kit_ty (by decide +kernel), true, rfl, iteT ?_⟩
    exact ⟨.int a, rfl, .int a, .ty "bool", .type "int", .type "bool", false, rfl, .ty _, .base (.int a), kit_ty (by decide +kernel), false, rfl, q⟩
/-- a stream: three ints -/
def Strm (H : Hp) (p : Addr) : Prop := ∃ x y z : Int, H p = some (.lst [.int x, .int y, .int z])
def spStream (K : PySem.W.Frag) : Sp := fun vs H Q _ => ∃ (a : Addr) (ns : List Int) (k : Nat), vs = [.ref a, .int (k : Int)] ∧ SqL K H a (ns.map V.int) ∧
  ∀ H' p, Same H H' → H p = none → Strm H' p → Q (.ref p) H'
theorem ok_stream {f : Addr} {fd : FuncData} {k : Nat} (F : Fun K "_law_stream" "_law_stream" sStream f fd) (B : Bt mg) : FnOk P w K mg base CX0 (k + 1) f fd ["_law_script", "_law_k"] (spStream K) := by
  refine F.ok scStream (fun vs H Q E h => ?_) (fun cdv A outer s H vs Q E hr h => ?_)
  · obtain ⟨a, ns, k, rfl, _⟩ := h
    rfl
  · obtain ⟨a, ns, k, rfl, hS, q⟩ := h
    refine ⟨_, pss_cons (ps_set (i := 2) scStream.nd rfl (.inl rfl) pe_int)
      (pss_cons (ps_if (pt_cmpR op_lt (pv 1) (pe_callB call_len_seq (by rfl) B.len PySem.boot_len (pa_cons (pv 0) pa_nil)) (nomark _))
        (pss_one (ps_set (i := 2) scStream.nd rfl (.inl rfl) (pe_ix ix_list (pv 0) (pv 1) (fun _ _ => rfl)))) pss_nil)
      (pss_one (ps_ret (pe_lst (pa_cons (pe_op op_mul (pv 2) (pe_callTy call_int1 (by rfl) B.int PyProof.Rows.boot_int (pa_cons (pe_cmpR op_ge (pv 2) (pe_op op_pow pe_int pe_int) (nomark _)) pa_nil))) (pa_cons pe_int (pa_cons (pv 2) pa_nil))))))), ?_⟩
    have tail : ∀ (c : Int) (b : Bool), -(2 ^ 64) < (if b = true then (1 : Int) else 0) ∧ (if b = true then (1 : Int) else 0) < 2 ^ 64 := fun c b => by cases b <;> decide
    refine ⟨.int k, rfl, .ref a, rfl, a, _, rfl, .inl hS, (k : Int), _, rfl, rfl, _, rfl, ite2 (fun c => ?_) (fun c => ?_)⟩
    · have hk : k < ns.length := by
        have := of_decide_eq_true c
        rw [List.length_map] at this
        omega
      have g : (ns.map V.int)[k]? = some (.int ns[k]) := by
        rw [List.getElem?_map, List.getElem?_eq_getElem hk]
        rfl
      refine ⟨.ref a, rfl, .int k, rfl, a, _, (k : Int), _, rfl, rfl, hS, atI_nat g, ?_⟩
      refine ⟨.int ns[k], rfl, .int ns[k], rfl, 10, 18, rfl, rfl, ⟨by decide, by decide, by decide⟩, ns[k], _, rfl, rfl, .inr ⟨_, rfl, ns[k], _, rfl, rfl, .inr (tail 0 _), .int ns[k], rfl, by show 3 ≤ sizeLine; decide, fun l hl => ?_⟩⟩
      exact q _ l (same_new hl) hl ⟨_, _, _, upd_same⟩
    · refine ⟨.int 0, rfl, .int 0, rfl, 10, 18, rfl, rfl, ⟨by decide, by decide, by decide⟩, 0, _, rfl, rfl, .inr ⟨_, rfl, 0, _, rfl, rfl, .inr (tail 0 _), .int 0, rfl, by show 3 ≤ sizeLine; decide, fun l hl => ?_⟩⟩
      exact q _ l (same_new hl) hl ⟨_, _, _, upd_same⟩
/-- all but the one at p is as it was -/
def Oth (p : Addr) (H H' : Hp) : Prop := ∀ b, b ≠ p → H' b = H b
def spDraw : Sp := fun vs H Q _ => ∃ (p : Addr) (m : Int), vs = [.ref p, .int m] ∧ Strm H p ∧ 0 < m ∧ m < 1073741824 ∧
  ∀ H' d, Oth p H H' → Strm H' p → 0 ≤ d → d < m → Q (.int d) H'
theorem at0 {x y z : V} : atI [x, y, z] (0 : Int) = some x := atI_nat (j := 0) rfl
theorem at1 {x y z : V} : atI [x, y, z] (1 : Int) = some y := atI_nat (j := 1) rfl
theorem at2 {x y z : V} : atI [x, y, z] (2 : Int) = some z := atI_nat (j := 2) rfl
theorem ok_draw {f : Addr} {fd : FuncData} {k : Nat} (F : Fun K "_law_next" "_law_next" sDraw f fd) (B : Bt mg) : FnOk P w K mg base CX0 (k + 1) f fd ["_law_stream_here", "_law_size"] spDraw := by
  refine F.ok scDraw (fun vs H Q E h => ?_) (fun cdv A outer s H vs Q E hr h => ?_)
  · obtain ⟨p, m, rfl, _⟩ := h
    rfl
  · obtain ⟨p, m, rfl, ⟨x, y, z, hp⟩, m0, m1, q⟩ := h
    refine ⟨_, pss_cons (ps_asg (pe_op op_add (pe_ix ix_list (pv 0) pe_int (fun _ _ => rfl)) pe_int) (pg_sub (pv 0) pe_int set_list))
      (pss_cons (ps_if (pt_cmpR op_gt (pe_ix ix_list (pv 0) pe_int (fun _ _ => rfl)) pe_int (nomark _))
        (pss_cons (ps_set (i := 2) scDraw.nd rfl (.inl rfl) (pe_op op_mod (pe_callTy call_int1 (by rfl) B.int PyProof.Rows.boot_int (pa_cons (pe_ix ix_list (pv 0) pe_int (fun _ _ => rfl)) pa_nil)) (pv 1)))
          (pss_cons (ps_asg (pe_op op_fdiv (pe_ix ix_list (pv 0) pe_int (fun _ _ => rfl)) (pv 1)) (pg_sub (pv 0) pe_int set_list))
          (pss_one (ps_ret (pv 2))))) pss_nil)
      (pss_cons (ps_set (i := 3) scDraw.nd rfl (.inl rfl) (pe_op op_mod (pe_callTy call_int1 (by rfl) B.int PyProof.Rows.boot_int (pa_cons
          (pe_op op_add (pe_op op_add (pe_ix ix_list (pv 0) pe_int (fun _ _ => rfl)) (pe_op op_mul pe_int (pe_ix ix_list (pv 0) pe_int (fun _ _ => rfl)))) pe_int) pa_nil)) pe_int))
      (pss_cons (ps_set (i := 3) scDraw.nd rfl (.inl rfl) (pe_op op_mod (pe_callTy call_int1 (by rfl) B.int PyProof.Rows.boot_int (pa_cons
          (pe_op op_mul (pv 3) (pe_op op_add (pv 3) pe_int)) pa_nil)) pe_int))
      (pss_cons (ps_set (i := 3) scDraw.nd rfl (.inl rfl) (pe_op op_mod (pe_callTy call_int1 (by rfl) B.int PyProof.Rows.boot_int (pa_cons
          (pe_op op_add (pe_op op_mul (pv 3) (pe_op op_add (pv 3) pe_int)) (pe_op op_mul pe_int (pe_ix ix_list (pv 0) pe_int (fun _ _ => rfl)))) pa_nil)) pe_int))
      (pss_one (ps_ret (pe_op op_mod (pe_callTy call_int1 (by rfl) B.int PyProof.Rows.boot_int (pa_cons (pe_op op_fdiv (pv 3) pe_int) pa_nil)) (pv 1)))))))), ?_⟩
    have pos1 : (0 : Int) < 2147483647 := by decide
    have pos2 : (0 : Int) < 2147483629 := by decide
    -- stream[1] = stream[1] + 1
    refine ⟨.ref p, rfl, p, _, 1, .int y, rfl, rfl, sl_map hp, at1, y, 1, rfl, rfl, .ref p, rfl, p, _, 1, 1, rfl, rfl, hp, rfl, ?_⟩
    have h1 : ∀ o, (upd H p o) p = some o := fun o => upd_same
    -- if stream[0] > 0
    refine ⟨.ref p, rfl, p, _, 0, .int x, rfl, rfl, sl_map upd_same, at0, x, 0, rfl, rfl, _, rfl, ite2 (fun c => ?_) (fun c => ?_)⟩
    · refine ⟨.ref p, rfl, p, _, 0, .int x, rfl, rfl, sl_map upd_same, at0, .inl ⟨x, rfl, .int m, rfl, x, m, rfl, rfl, m0, ?_⟩⟩
      refine ⟨.ref p, rfl, p, _, 0, .int x, rfl, rfl, sl_map upd_same, at0, .int m, rfl, x, m, rfl, rfl, ⟨m0, m1⟩, .ref p, rfl, p, _, 0, 0, rfl, rfl, upd_same, rfl, ?_⟩
      refine ⟨.int (x % m), rfl, q _ _ (fun b hb => by rw [upd_ne hb, upd_ne hb]) ⟨_, _, _, upd_same⟩ (Int.emod_nonneg _ (by omega)) (Int.emod_lt_of_pos _ m0)⟩
    · refine ⟨.ref p, rfl, p, _, 2, .int z, rfl, rfl, sl_map upd_same, at2, .ref p, rfl, p, _, 1, .int (y + 1), rfl, rfl, sl_map upd_same, at1, 7919, y + 1, rfl, rfl, .inl ⟨by decide, by decide⟩, z, _, rfl, rfl, _, 13, rfl, rfl,
        .inl ⟨_, rfl, _, 2147483647, rfl, rfl, pos1, ?_⟩⟩
      have r1 : ∀ u : Int, 0 ≤ u % 2147483647 ∧ u % 2147483647 < 2147483647 := fun u => ⟨Int.emod_nonneg _ (by decide), Int.emod_lt_of_pos _ (by decide)⟩
      have r2 : ∀ u : Int, 0 ≤ u % 2147483629 ∧ u % 2147483629 < 2147483629 := fun u => ⟨Int.emod_nonneg _ (by decide), Int.emod_lt_of_pos _ (by decide)⟩
      have big : (2147483647 : Int) < 2 ^ 64 := by decide
      have big2 : (-(2 ^ 64) : Int) < 0 := by decide
      have b1 := r1 (z + 7919 * (y + 1) + 13)
      refine ⟨_, rfl, _, rfl, (z + 7919 * (y + 1) + 13) % 2147483647, 48271, rfl, rfl, (z + 7919 * (y + 1) + 13) % 2147483647, _, rfl, rfl, .inl ⟨by omega, by omega⟩, .inl ⟨_, rfl, _, 2147483629, rfl, rfl, pos2, ?_⟩⟩
      have b2 := r2 ((z + 7919 * (y + 1) + 13) % 2147483647 * ((z + 7919 * (y + 1) + 13) % 2147483647 + 48271))
      refine ⟨_, rfl, _, rfl, _, 69621, rfl, rfl, (z + 7919 * (y + 1) + 13) % 2147483647 * ((z + 7919 * (y + 1) + 13) % 2147483647 + 48271) % 2147483629, _, rfl, rfl, .inl ⟨?_, ?_⟩, .ref p, rfl, p, _, 1, .int (y + 1), rfl, rfl, sl_map upd_same, at1, 31, y + 1, rfl, rfl, .inl ⟨by decide, by decide⟩, _, _, rfl, rfl,
        .inl ⟨_, rfl, _, 2147483647, rfl, rfl, pos1, ?_⟩⟩
      · generalize (z + 7919 * (y + 1) + 13) % 2147483647 * ((z + 7919 * (y + 1) + 13) % 2147483647 + 48271) % 2147483629 = v at b2
        omega
      · generalize (z + 7919 * (y + 1) + 13) % 2147483647 * ((z + 7919 * (y + 1) + 13) % 2147483647 + 48271) % 2147483629 = v at b2
        omega
      refine ⟨_, rfl, _, 9, rfl, rfl, ⟨by decide, by decide⟩, .inl ⟨_, rfl, .int m, rfl, _, m, rfl, rfl, m0, ?_⟩⟩
      exact q _ _ (fun b hb => by rw [upd_ne hb]) ⟨_, _, _, upd_same⟩ (Int.emod_nonneg _ (by omega)) (Int.emod_lt_of_pos _ m0)
/-- a def that stands, with its promise -/
structure Call (P : Program) (w : World) (K : PySem.W.Frag) (mg : Str → Option Value) (base : Heap) (k : Nat) (x : Str) (f : Addr) (fd : FuncData) (ps : List Str) (sp : Sp) : Prop where
  ok : FnOk P w K mg base CX0 k f fd ps sp
  at_ : mg x = some (.ref f)
  kp : PySem.W.keepIn K (.ref f) = true
  bd : Binds K fd ps []
abbrev sIsSide : Stmt := topS 32
abbrev nIsSide : List Str := ["_law_actual", "_law_value", "_law_k"]
theorem scIsSide : FnScope nIsSide ["_law_actual"] (defScope sIsSide) := ⟨rfl, rfl, rfl, by decide +kernel, rfl, by decide +kernel, by decide +kernel⟩
def spIsSide : Sp := fun vs H Q _ => ∃ (a : Addr) (ns : List Int), vs = [.ref a] ∧ H a = some (.lst (ns.map V.int)) ∧ Srt ns ∧ ns.length ≤ 1000 ∧ ∀ H', Same H H' → Q (.bl true) H'
theorem all_rep (n : Nat) : (List.replicate n true).all id = true := by simp
theorem ok_isSide {f fI : Addr} {fd fdI : FuncData} (F : Fun K "_law_is_side" "_law_is_side" sIsSide f fd) (B : Bt mg) (I : Call P w K mg base 1 "_law_is_integer" fI fdI ["_law_actual"] spIsInt) :
    FnOk P w K mg base CX0 2 f fd ["_law_actual"] spIsSide := by
  refine F.ok scIsSide (fun vs H Q E h => ?_) (fun cdv A outer s H vs Q E hr h => ?_)
  · obtain ⟨a, ns, rfl, _⟩ := h
    rfl
  · obtain ⟨a, ns, rfl, ha, hs, hl, q⟩ := h
    refine ⟨_, pss_cons (ps_if (PW.pt (pw_or (pt_not (pt_val (pe_callB call_isi (by rfl) B.isi PyProof.Rows.boot_isinstance (pa_cons (pv 0) (pa_cons (pe_bltn (by rfl) B.list PyProof.Rows.boot_list (v := .ty "list") rfl) pa_nil)))))
        (pw_or1 (pt_not (pt_val (pe_callB (cr_all rfl) (by rfl) B.all PyProof.Rows.boot_all (pa_cons
          (pe_lc (own := [("_law_value", 1)]) (g := gName 1) (tt := tYes) rfl scIsSide.nd (pi_list (pv 0)) (blkOk_by (N := nIsSide) (sc := defScope sIsSide) (by decide +kernel)) (fun _ _ _ _ _ => pg_name (i := 1) scIsSide.nd rfl (Or.inl rfl)) (fun _ _ _ _ _ => pts_nil)
            (fun _ _ _ _ _ => pe_call I.ok hr (by rfl) I.at_ I.kp I.bd .nil pass0 (pa_cons (pv 1) pa_nil))) pa_nil)))))))
        (pss_one (ps_ret pe_bl)) pss_nil)
      (pss_one (ps_ret (pe_callB (cr_all rfl) (by rfl) B.all PyProof.Rows.boot_all (pa_cons
          (pe_lc (own := [("_law_k", 2)]) (g := gName 2) (tt := tYes) rfl scIsSide.nd (pi_range1 (by rfl) B.range (pa_cons (pe_op op_sub (pe_callB call_len_seq (by rfl) B.len PySem.boot_len (pa_cons (pv 0) pa_nil)) pe_int) pa_nil))
            (blkOk_by (N := nIsSide) (sc := defScope sIsSide) (by decide +kernel)) (fun _ _ _ _ _ => pg_name (i := 2) scIsSide.nd rfl (Or.inl rfl)) (fun _ _ _ _ _ => pts_nil)
            (fun _ _ _ _ _ => pe_cmpR op_lt (pe_ix (r := rIxL K) ix_list (pv 0) (pv 2) (fun _ _ => rfl)) (pe_ix (r := rIxL K) ix_list (pv 0) (pe_op op_add (pv 2) pe_int) (fun _ _ => rfl)) (nomark _))) pa_nil)))), ?_⟩
    refine ⟨.ref a, rfl, .ref a, .ty "list", .type "list", .type "list", true, rfl, .ty _, .base (.lst ha), kit_ty (by decide +kernel), true, rfl, iteF ?_⟩
    refine ⟨.ref a, rfl, a, rfl, ⟨_, sl_map ha⟩, fun D hD => lc_list (xs := ns.map V.int) (fun i H' => Same H H' ∧ H' D = some (.lst ((List.replicate i true).map V.bl))) ⟨same_new hD, upd_same⟩ (fun i H' _ h => h.1.seq (sl_map ha)) ?_ ?_⟩
    · rintro i x H' hx ⟨sm, hd⟩
      rw [List.getElem?_map] at hx
      obtain ⟨v, hv, rfl⟩ := Option.map_eq_some_iff.mp hx
      have hi : i < ns.length := (List.getElem?_eq_some_iff.mp hv).1
      refine ⟨rfl, ?_⟩
      refine ⟨_, rfl, v, rfl, _, hd, ?_, same_at sm hD, ?_⟩
      · rw [List.length_map, List.length_replicate]
        exact small1000 (by omega)
      · rw [upd_same, List.replicate_succ', List.map_append]
        rfl
    · rintro H' ⟨sm, hd⟩
      rw [List.length_map] at hd
      refine ⟨D, _, rfl, sl_map hd, _, rfl, ?_⟩
      rw [all_rep]
      refine iteF ?_
      -- all([.. < ..])
      refine ⟨.ref a, rfl, a, _, rfl, .inl (sm.seq (sl_map ha)), ((ns.map V.int).length : Int), 1, rfl, rfl, _, rfl, ?_, ?_, fun D2 hD2 => lc_range (lo := 0) (fun i H2 => Same H H2 ∧ H2 D2 = some (.lst ((List.replicate i true).map V.bl))) ⟨same_at sm (sm.free hD2), upd_same⟩ ?_ ?_⟩
      · rw [List.length_map]; omega
      · rw [List.length_map]; omega
      · rintro i H2 hi ⟨sm2, hd2⟩
        rw [List.length_map] at hi
        have h1 : i < ns.length := by omega
        have h2 : i + 1 < ns.length := by omega
        have g1 : (ns.map V.int)[i]? = some (.int ns[i]) := by
          rw [List.getElem?_map, List.getElem?_eq_getElem h1]
          rfl
        have g2 : (ns.map V.int)[i + 1]? = some (.int ns[i + 1]) := by
          rw [List.getElem?_map, List.getElem?_eq_getElem h2]
          rfl
        refine ⟨rfl, ?_⟩
        refine ⟨.ref a, rfl, _, rfl, a, _, _, _, rfl, rfl, sm2.seq (sl_map ha), at_of (by omega) g1, .ref a, rfl, _, rfl, _, 1, rfl, rfl, a, _, _, _, rfl, rfl, sm2.seq (sl_map ha), at_of (j := i + 1) (by omega) g2, _, _, rfl, rfl, _, hd2, ?_, same_at sm2 (sm.free hD2), ?_⟩
        · rw [List.length_map, List.length_replicate]
          exact small1000 (by omega)
        · have lt : ns[i] < ns[i + 1] := List.pairwise_iff_getElem.mp hs i (i + 1) h1 h2 (Nat.lt_succ_self i)
          have e : (fun i j : Int => V.bl (decide (i < j))) ns[i] ns[i + 1] = V.bl true := congrArg V.bl (decide_eq_true lt)
          rw [upd_same, e, List.replicate_succ', List.map_append]
          rfl
      · rintro H2 ⟨sm2, hd2⟩
        refine ⟨D2, _, rfl, sl_map hd2, ?_⟩
        rw [all_rep]
        exact q _ sm2
/-- what was tracked, but for the one at p, is as it was -/
def Keep (p : Addr) (H H' : Hp) : Prop := ∀ b o, b ≠ p → H b = some o → H' b = some o
theorem Keep.refl (p : Addr) (H : Hp) : Keep p H H := fun _ _ _ e => e
theorem Keep.oth {p : Addr} {H H1 H2 : Hp} (k : Keep p H H1) (o : Oth p H1 H2) : Keep p H H2 := fun b u hb e => (o b hb).trans (k b u hb e)
theorem Keep.trans {p : Addr} {H H1 H2 : Hp} (k : Keep p H H1) (k2 : Keep p H1 H2) : Keep p H H2 := fun b u hb e => k2 b u hb (k b u hb e)
theorem Keep.at_ {p q : Addr} {o : HO} {H H1 : Hp} (k : Keep p H H1) (n : H q = none) : Keep p H (upd H1 q o) := fun b u hb e => by
  rw [upd_ne (ne_of_none e n)]
  exact k b u hb e
theorem Keep.same {p : Addr} {H H1 : Hp} (s : Same H H1) : Keep p H H1 := fun b u _ e => s b u e
theorem Strm.some {H : Hp} {p : Addr} (s : Strm H p) : H p ≠ none := fun z => by
  obtain ⟨x, y, z', e⟩ := s
  rw [z] at e
  cases e
theorem Strm.keep {H H' : Hp} {p q : Addr} (s : Strm H p) (k : Keep q H H') (h : p ≠ q) : Strm H' p := by
  obtain ⟨x, y, z, e⟩ := s
  exact ⟨x, y, z, k _ _ h e⟩
theorem Strm.upd {H : Hp} {p q : Addr} {o : HO} (s : Strm H p) (h : p ≠ q) : Strm (upd H q o) p := by
  obtain ⟨x, y, z, e⟩ := s
  exact ⟨x, y, z, by rw [upd_ne h]; exact e⟩
theorem Keep.free {p q : Addr} {H H1 : Hp} (k : Keep p H H1) (s : Strm H1 p) (n : H1 q = none) : H q = none := by
  have hp : q ≠ p := fun z => s.some (z ▸ n)
  cases c : H q with
  | none => rfl
  | some o =>
    rw [k q o hp c] at n
    cases n
end
/-! ### lists of ints as data -/
abbrev dI (ns : List Int) : PyData := .list (ns.map PyData.int)
theorem dp_all {K : PySem.W.Frag} {H : Hp} : ∀ ns : List Int, DpAll K H (ns.map V.int) (ns.map PyData.int)
  | [] => .nil
  | n :: ns => .cons (.int n) (dp_all ns)
theorem dpI {K : PySem.W.Frag} {H : Hp} {a : Addr} {ns : List Int} (h : SqL K H a (ns.map V.int)) : Dp K H (.ref a) (dI ns) := .lst h (dp_all ns)
theorem lay_all : ∀ ns : List Int, PyData.canLayAll0 (ns.map PyData.int) = true
  | [] => rfl
  | n :: ns => by
    show (PyData.canLay0 (.int n) && PyData.canLayAll0 (ns.map PyData.int)) = true
    rw [lay_all ns] <;> rfl
theorem layI (ns : List Int) : (dI ns).canLay0 = true := lay_all ns
theorem deep_all : ∀ ns : List Int, PyData.depthAll (ns.map PyData.int) ≤ 1
  | [] => by simp [PyData.depthAll]
  | n :: ns => by
    have := deep_all ns
    simp only [List.map_cons, PyData.depthAll, PyData.depth]
    omega
theorem deepI (ns : List Int) : (dI ns).depth ≤ 2 := by
  have := deep_all ns
  simp only [dI, PyData.depth]
  omega
theorem shI (ns : List Int) : SeqAt.shaped (dI ns) = true := by
  unfold SeqAt.shaped
  rw [layI]
  have := deepI ns
  simp
  omega
theorem eqI (ns : List Int) : PyData.eqv (dI ns) (dI ns) = true := SeqAt.eqv_refl _ (layI ns)
/-! ### boxes: dicts from texts to lists of ints -/
abbrev Ent := Str × Addr × List Int
def entK (L : List Ent) : List (Key × V) := L.map fun e => (Sum.inr e.1, V.ref e.2.1)
def getE (L : List Ent) (x : Str) : Option Ent := L.find? fun e => decide (e.1 = x)
def look (L : List Ent) (x : Str) : Option (List Int) := (getE L x).map (·.2.2)
theorem getE_pos {e : Ent} {L : List Ent} {x : Str} (h : e.1 = x) : getE (e :: L) x = some e := by simp [getE, List.find?_cons, h]
theorem getE_neg {e : Ent} {L : List Ent} {x : Str} (h : ¬ e.1 = x) : getE (e :: L) x = getE L x := by simp [getE, List.find?_cons, h]
theorem getE_mem {L : List Ent} {x : Str} {e : Ent} (h : getE L x = some e) : e ∈ L ∧ e.1 = x :=
  ⟨List.mem_of_find?_eq_some h, of_decide_eq_true (List.find?_some (p := fun e : Ent => decide (e.1 = x)) h)⟩
theorem getE_of : ∀ {L : List Ent} {e : Ent}, (L.map (·.1)).Nodup → e ∈ L → getE L e.1 = some e
  | [], _, _, h => by cases h
  | a :: L, e, nd, h => by
    rw [List.map_cons, List.nodup_cons] at nd
    rcases List.mem_cons.mp h with z | z
    · rw [z]; exact getE_pos rfl
    · have ne : ¬ a.1 = e.1 := fun q => nd.1 (q ▸ List.mem_map_of_mem z)
      rw [getE_neg ne]
      exact getE_of nd.2 z
theorem getE_none {L : List Ent} {x : Str} : getE L x = none ↔ x ∉ L.map (·.1) := by
  unfold getE
  rw [List.find?_eq_none]
  constructor
  · intro h hx
    obtain ⟨e, he, q⟩ := List.mem_map.mp hx
    exact h e he (decide_eq_true q)
  · intro h e he q
    exact h (of_decide_eq_true q ▸ List.mem_map_of_mem he)
theorem look_mem {L : List Ent} {e : Ent} (nd : (L.map (·.1)).Nodup) (h : e ∈ L) : look L e.1 = some e.2.2 := by
  unfold look
  rw [getE_of nd h]
  rfl
theorem valV_ent (x : Str) : ∀ L : List Ent, valV (entK L) (.inr x) = (getE L x).map fun e => V.ref e.2.1
  | [] => rfl
  | e :: L => by
    by_cases h : e.1 = x
    · rw [getE_pos h]
      exact valV_pos (congrArg Sum.inr h)
    · rw [getE_neg h]
      have : valV (entK (e :: L)) (.inr x) = valV (entK L) (.inr x) := valV_neg (fun z => h (Sum.inr.inj z))
      rw [this]
      exact valV_ent x L
structure Bx (H : Hp) (d : Addr) (L : List Ent) : Prop where
  rd : Rd H d (.dK (entK L))
  sides : ∀ e ∈ L, H e.2.1 = some (.lst (e.2.2.map V.int))
  nd : (L.map (·.1)).Nodup
  few : L.length ≤ 40
theorem Rd.same {H H' : Hp} {a : Addr} {u : HO} (s : Same H H') (r : Rd H a u) : Rd H' a u := r.elim (fun h => .inl (s _ _ h)) fun ⟨o, h⟩ => .inr ⟨o, s _ _ h⟩
theorem Bx.same {H H' : Hp} {d : Addr} {L : List Ent} (B : Bx H d L) (s : Same H H') : Bx H' d L := ⟨Rd.same s B.rd, fun e he => s _ _ (B.sides e he), B.nd, B.few⟩
theorem Bx.get {H : Hp} {d : Addr} {L : List Ent} (B : Bx H d L) (x : Str) : DGet H d (.str x) ((getE L x).map fun e => V.ref e.2.1) := .inl ⟨entK L, .inr x, B.rd, rfl, (valV_ent x L).symm⟩
/-- a locked dict is read as before -/
theorem Bx.lock {H : Hp} {d d' : Addr} {L L' : List Ent} {od : Obj} (B : Bx H d L) (h : H d' = some (.dK (entK L'))) : Bx (upd H d' (.frz od (.dK (entK L')))) d L := by
  refine ⟨?_, fun e he => ?_, B.nd, B.few⟩
  · by_cases z : d = d'
    · subst z
      have : entK L' = entK L := by
        rcases B.rd with q | ⟨o, q⟩
        · rw [h] at q
          exact HO.dK.inj (Option.some.inj q)
        · rw [h] at q; cases q
      rw [← this]
      exact .inr ⟨od, upd_same⟩
    · rcases B.rd with q | ⟨o, q⟩
      · exact .inl (by rw [upd_ne z]; exact q)
      · exact .inr ⟨o, by rw [upd_ne z]; exact q⟩
  · have : e.2.1 ≠ d' := fun z => by have q := B.sides e he; rw [z, h] at q; cases q
    rw [upd_ne this]
    exact B.sides e he
theorem unlock {H H' : Hp} {d : Addr} {u : HO} {od : Obj} (h : H d = some u) (s : Same (upd H d (.frz od u)) H') : Same H (upd H' d u) := fun b o e => by
  by_cases z : b = d
  · subst z
    rw [upd_same]
    exact h.symm.trans e
  · rw [upd_ne z]
    exact s b o (by rw [upd_ne z]; exact e)
/-- put -/
def putE (L : List Ent) (x : Str) (a : Addr) (s : List Int) : List Ent := if (L.any fun e => decide (e.1 = x)) = true then L.map (fun e => if e.1 = x then (x, a, s) else e) else L ++ [(x, a, s)]
theorem any_ent (L : List Ent) (x : Str) : ((entK L).any fun kv => decide (kv.1 = Sum.inr x)) = L.any fun e => decide (e.1 = x) := by
  unfold entK
  rw [List.any_map]
  congr 1
  funext e
  simp
theorem putK_ent (L : List Ent) (x : Str) (a : Addr) (s : List Int) : putK (entK L) (.inr x) (V.ref a) = entK (putE L x a s) := by
  unfold putK putE
  rw [any_ent]
  by_cases h : (L.any fun e => decide (e.1 = x)) = true
  · rw [if_pos h, if_pos h]
    unfold entK
    rw [List.map_map, List.map_map]
    congr 1
    funext e
    by_cases z : e.1 = x
    · simp [z]
    · simp [z]
  · rw [if_neg h, if_neg h]
    unfold entK
    rw [List.map_append]
    rfl
theorem any_iff {L : List Ent} {x : Str} : (L.any fun e => decide (e.1 = x)) = true ↔ x ∈ L.map (·.1) := by
  rw [List.any_eq_true, List.mem_map]
  constructor
  · rintro ⟨e, he, q⟩; exact ⟨e, he, of_decide_eq_true q⟩
  · rintro ⟨e, he, q⟩; exact ⟨e, he, decide_eq_true q⟩
theorem putE_keys (L : List Ent) (x : Str) (a : Addr) (s : List Int) : (putE L x a s).map (·.1) = if x ∈ L.map (·.1) then L.map (·.1) else L.map (·.1) ++ [x] := by
  unfold putE
  by_cases h : (L.any fun e => decide (e.1 = x)) = true
  · rw [if_pos h, if_pos (any_iff.mp h), List.map_map]
    congr 1
    funext e
    by_cases z : e.1 = x
    · simp [z]
    · simp [z]
  · rw [if_neg h, if_neg (fun z => h (any_iff.mpr z)), List.map_append]
    rfl
theorem putE_nd {L : List Ent} {x : Str} {a : Addr} {s : List Int} (nd : (L.map (·.1)).Nodup) : ((putE L x a s).map (·.1)).Nodup := by
  rw [putE_keys]
  split
  · exact nd
  · rename_i h
    rw [List.nodup_append]
    exact ⟨nd, by simp, fun y hy z hz => by rw [List.mem_singleton.mp hz]; exact fun e => h (e ▸ hy)⟩
theorem putE_len (L : List Ent) (x : Str) (a : Addr) (s : List Int) : (putE L x a s).length ≤ L.length + 1 := by
  unfold putE
  split
  · rw [List.length_map]; omega
  · rw [List.length_append]; exact Nat.le_refl _
theorem putE_mem {L : List Ent} {x : Str} {a : Addr} {s : List Int} {e : Ent} (h : e ∈ putE L x a s) : e = (x, a, s) ∨ (e ∈ L ∧ e.1 ≠ x) := by
  unfold putE at h
  split at h
  · obtain ⟨f, hf, q⟩ := List.mem_map.mp h
    by_cases z : f.1 = x
    · rw [if_pos z] at q; exact .inl q.symm
    · rw [if_neg z] at q; exact .inr (q ▸ ⟨hf, z⟩)
  · rename_i g
    rcases List.mem_append.mp h with q | q
    · exact .inr ⟨q, fun z => g (any_iff.mpr (z ▸ List.mem_map_of_mem q))⟩
    · exact .inl (List.mem_singleton.mp q)
/-- two boxes that say the same -/
def SameB (L M : List Ent) : Prop := ∀ x, look L x = look M x
theorem look_isSome {L : List Ent} {x : Str} : (look L x).isSome = true ↔ x ∈ L.map (·.1) := by
  unfold look
  rw [Option.isSome_map]
  cases h : getE L x with
  | none => simp [getE_none.mp h]
  | some e => simp only [Option.isSome_some, true_iff]; obtain ⟨a, b⟩ := getE_mem h; exact b ▸ List.mem_map_of_mem a
theorem len_le {α : Type} [DecidableEq α] : ∀ {l m : List α}, l.Nodup → (∀ x ∈ l, x ∈ m) → l.length ≤ m.length
  | [], _, _, _ => Nat.zero_le _
  | x :: l, m, nd, h => by
    rw [List.nodup_cons] at nd
    have hx := h x List.mem_cons_self
    have ih := len_le (m := m.erase x) nd.2 (fun y hy => (List.mem_erase_of_ne (fun (e : y = x) => nd.1 (by rw [← e]; exact hy))).2 (h y (List.mem_cons_of_mem _ hy)))
    rw [List.length_erase_of_mem hx] at ih
    have : 0 < m.length := List.length_pos_of_mem hx
    rw [List.length_cons]
    omega
theorem SameB.len {L M : List Ent} (s : SameB L M) (n1 : (L.map (·.1)).Nodup) (n2 : (M.map (·.1)).Nodup) : L.length = M.length := by
  have h1 := len_le n1 (fun x hx => look_isSome.mp (by rw [← s x]; exact look_isSome.mpr hx))
  have h2 := len_le n2 (fun x hx => look_isSome.mp (by rw [s x]; exact look_isSome.mpr hx))
  rw [List.length_map, List.length_map] at h1 h2
  omega
section
variable {P : Program} {w : World} {K : PySem.W.Frag} {mg : Str → Option Value} {base : Heap}
/-! ### the program: boxes -/
/-- a box that no walk has locked -/
structure Bu (H : Hp) (d : Addr) (L : List Ent) : Prop extends Bx H d L where
  un : H d = some (.dK (entK L))
theorem Bu.same' {H H' : Hp} {d : Addr} {L : List Ent} (B : Bu H d L) (s : Same H H') : Bu H' d L := ⟨B.toBx.same s, s _ _ B.un⟩
theorem entK_get {L : List Ent} {i : Nat} : (entK L)[i]? = (L[i]?).map fun e => (Sum.inr e.1, V.ref e.2.1) := by
  unfold entK
  rw [List.getElem?_map]
/-! ### holds -/
def intK (A : List (Str × Int)) : List (Key × V) := A.map fun e => (Sum.inr e.1, V.int e.2)
def aget (A : List (Str × Int)) (x : Str) : Option Int := (A.find? fun e => decide (e.1 = x)).map (·.2)
theorem valV_int (x : Str) : ∀ A : List (Str × Int), valV (intK A) (.inr x) = (aget A x).map V.int
  | [] => rfl
  | e :: A => by
    by_cases h : e.1 = x
    · have : aget (e :: A) x = some e.2 := by simp [aget, List.find?_cons, h]
      rw [this]
      exact valV_pos (congrArg Sum.inr h)
    · have : aget (e :: A) x = aget A x := by simp [aget, List.find?_cons, h]
      rw [this]
      have : valV (intK (e :: A)) (.inr x) = valV (intK A) (.inr x) := valV_neg (fun z => h (Sum.inr.inj z))
      rw [this]
      exact valV_int x A
/-- an assignment: a dict from texts to ints -/
structure Ax (H : Hp) (d : Addr) (A : List (Str × Int)) : Prop where
  rd : Rd H d (.dK (intK A))
theorem Ax.same {H H' : Hp} {d : Addr} {A : List (Str × Int)} (B : Ax H d A) (s : Same H H') : Ax H' d A := ⟨Rd.same s B.rd⟩
theorem Ax.get {H : Hp} {d : Addr} {A : List (Str × Int)} (B : Ax H d A) (x : Str) : DGet H d (.str x) ((aget A x).map V.int) := .inl ⟨intK A, .inr x, B.rd, rfl, (valV_int x A).symm⟩
theorem Ax.frz {H : Hp} {v d : Addr} {A : List (Str × Int)} {u : HO} (B : Ax H v A) (h : v ≠ d) : Ax (upd H d u) v A := ⟨B.rd.elim (fun q => .inl (by rw [upd_ne h]; exact q)) fun ⟨o, q⟩ => .inr ⟨o, by rw [upd_ne h]; exact q⟩⟩
theorem entK_len (L : List Ent) : (entK L).length = L.length := by unfold entK; rw [List.length_map]
theorem keys_at {L : List Ent} {i : Nat} {k : Key} {v : V} (h : (entK L)[i]? = some (k, v)) : ∃ e, L[i]? = some e ∧ k = .inr e.1 ∧ v = .ref e.2.1 := by
  rw [entK_get] at h
  obtain ⟨e, he, q⟩ := Option.map_eq_some_iff.mp h
  cases q
  exact ⟨e, he, rfl, rfl⟩
/-! ### box_within -/
end
/-- a new box with sides of its own -/
structure Nb (H0 H : Hp) (d : Addr) (L : List Ent) : Prop extends Bu H d L where
  fresh : H0 d = none
  freshS : ∀ e ∈ L, H0 e.2.1 = none
  inj : (L.map (·.2.1)).Nodup
theorem Nb.push {H0 H1 H2 : Hp} {d : Addr} {L : List Ent} (N : Nb H0 H1 d L) (s : Same H1 H2) : Nb H0 H2 d L := ⟨N.toBu.same' s, N.fresh, N.freshS, N.inj⟩
abbrev shape (L : List Ent) : List (Str × List Int) := L.map fun e => (e.1, e.2.2)
theorem look_shape : ∀ {L M : List Ent}, shape L = shape M → SameB L M
  | [], [], _, _ => rfl
  | [], _ :: _, h, _ => by cases h
  | _ :: _, [], h, _ => by cases h
  | e :: L, f :: M, h, x => by
    simp only [shape, List.map_cons, List.cons.injEq, Prod.mk.injEq] at h
    obtain ⟨⟨h1, h2⟩, h3⟩ := h
    have ih := look_shape (L := L) (M := M) h3 x
    unfold look at ih ⊢
    by_cases z : e.1 = x
    · rw [getE_pos z, getE_pos (h1 ▸ z)]
      exact congrArg some h2
    · rw [getE_neg z, getE_neg (fun q => z (h1.trans q))]
      exact ih
theorem shape_keys {L M : List Ent} (h : shape L = shape M) : L.map (·.1) = M.map (·.1) := by
  have q := congrArg (List.map Prod.fst) h
  unfold shape at q
  rw [List.map_map, List.map_map] at q
  exact q
theorem putE_new {L : List Ent} {x : Str} {a : Addr} {s : List Int} (h : x ∉ L.map (·.1)) : putE L x a s = L ++ [(x, a, s)] := if_neg fun z => h (any_iff.mp z)
theorem nd_snoc {α : Type} {l : List α} {x : α} (nd : l.Nodup) (h : x ∉ l) : (l ++ [x]).Nodup := by
  rw [List.nodup_append]
  exact ⟨nd, by simp, fun y hy z hz => by rw [List.mem_singleton.mp hz]; exact fun e => h (e ▸ hy)⟩
theorem dc_it {J : It} {n : Nat} {G : Hp → Prop} {Y : Nat → Hp → V → Hp → Prop} (w : Walk J n G Y) {g : TG} {tt : TT} {tk tv : TE} {vs : List Nat} {σ : L2.St} {H1 : Hp} {D : Addr} {Qd : Hp → Prop} (Pv : Nat → Hp → Prop) (start : Pv 0 (upd H1 D (.dK []))) (stays : ∀ i H, i ≤ n → Pv i H → G H)
    (turn : ∀ i x H H', i < n → Pv i H → Y i H x H' → g x (wipe σ vs) H' fun σ2 H2 => wipe σ2 vs = wipe σ vs ∧ tt σ2 H2 fun b H3 =>
      if b = true then tk σ2 H3 fun y H4 => tv σ2 H4 fun z H5 => ∃ kvs k, y = kV k ∧ H5 D = some (.dK kvs) ∧ kvs.length < sizeLine ∧ Pv (i + 1) (upd H5 D (.dK (putK kvs k z))) else Pv (i + 1) H3) (after : ∀ H, Pv n H → Qd H) :
    ∃ W : Nat → Nat → Hp → Prop, (∃ m, W 0 m (upd H1 D (.dK []))) ∧ ∀ i m H, W i m H →
      (J.stop i H ∧ Qd H) ∨ (J.go i H ∧ ∃ Nx : Hp → Prop, (∀ H', Nx H' → ∃ m', m' < m ∧ W (i + 1) m' H') ∧ ∀ x H', J.yld i H x H' → g x (wipe σ vs) H' fun σ2 H2 => wipe σ2 vs = wipe σ vs ∧ tt σ2 H2 fun b H3 =>
        if b = true then tk σ2 H3 fun y H4 => tv σ2 H4 fun z H5 => ∃ kvs k, y = kV k ∧ H5 D = some (.dK kvs) ∧ kvs.length < sizeLine ∧ Nx (upd H5 D (.dK (putK kvs k z))) else Nx H3) := by
  refine ⟨fun i m H => m = n - i ∧ i ≤ n ∧ Pv i H, ⟨n, rfl, Nat.zero_le _, start⟩, fun i m H h => ?_⟩
  obtain ⟨em, le, pv⟩ := h
  by_cases lt : i < n
  · exact .inr ⟨w.goes i H lt (stays i H le pv), Pv (i + 1), fun H' p => ⟨n - (i + 1), by omega, rfl, lt, p⟩, fun x H' y => turn i x H H' lt pv (w.yields i H x H' lt (stays i H le pv) y)⟩
  · obtain rfl : i = n := by omega
    exact .inl ⟨w.stops H (stays _ H le pv), after H pv⟩
section
variable {P : Program} {w : World} {K : PySem.W.Frag} {mg : Str → Option Value} {base : Heap}
abbrev rLst (K : PySem.W.Frag) : List V → Hp → VK → Prop := fun xs H Q => ∃ p ys, xs = [.ref p] ∧ (SqL K H p ys ∨ SqT K H p ys) ∧ ∀ l, H l = none → Q (.ref l) (upd H l (.lst ys))
def spCopy : Sp := fun vs H Q _ => ∃ (d : Addr) (L : List Ent), vs = [.ref d] ∧ Bu H d L ∧ ∀ (H' : Hp) (d' : Addr) (M : List Ent), Same H H' → Nb H H' d' M → shape M = shape L → Q (.ref d') H'
end
/-! ### what two sorted lists have together -/
def ins (k : Int) : List Int → List Int
  | [] => [k]
  | x :: l => if k < x then k :: x :: l else if k = x then x :: l else x :: ins k l
theorem take_keys {L : List Ent} {i : Nat} {e : Ent} (nd : (L.map (·.1)).Nodup) (he : L[i]? = some e) : e.1 ∉ (L.take i).map (·.1) := by
  intro z
  obtain ⟨g, hg, eg⟩ := List.mem_map.mp z
  obtain ⟨j, hj⟩ := List.mem_iff_getElem?.mp hg
  rw [List.getElem?_take] at hj
  split at hj
  · rename_i hji
    have a1 : (L.map (·.1))[j]? = some e.1 := by rw [List.getElem?_map, hj]; exact congrArg some eg
    have a2 : (L.map (·.1))[i]? = some e.1 := by rw [List.getElem?_map, he]; rfl
    have := nd_ix nd a1 a2
    omega
  · cases hj
structure Sz (L : List Ent) (n : Nat) : Prop where
  srt : ∀ e ∈ L, Srt e.2.2
  len : ∀ e ∈ L, e.2.2.length ≤ n
theorem look_of {L : List Ent} {x : Str} {s : List Int} (h : look L x = some s) : ∃ e ∈ L, e.1 = x ∧ e.2.2 = s := by
  unfold look at h
  obtain ⟨e, he, q⟩ := Option.map_eq_some_iff.mp h
  obtain ⟨a, b⟩ := getE_mem he
  exact ⟨e, a, b, q⟩
/-- what a new box needs when one more side is put -/
theorem Nb.put {H0 H H3 : Hp} {d l : Addr} {M : List Ent} {x : Str} {s : List Int} (N : Nb H0 H d M) (n0 : H0 l = none) (nl : H l = none) (s3 : Same H H3) (el : H3 l = some (.lst (s.map V.int))) (few : M.length + 1 ≤ 40) :
    Nb H0 (upd H3 d (.dK (entK (putE M x l s)))) d (putE M x l s) := by
  have nld : l ≠ d := fun z => by rw [z, N.un] at nl; cases nl
  have sd : ∀ e ∈ putE M x l s, (upd H3 d (.dK (entK (putE M x l s)))) e.2.1 = some (.lst (e.2.2.map V.int)) := fun e he => by
    rcases putE_mem he with z | ⟨z, _⟩
    · rw [z, upd_ne nld]
      exact el
    · have h1 := N.sides e z
      have h2 : e.2.1 ≠ d := fun w => by rw [w, N.un] at h1; cases h1
      rw [upd_ne h2]
      exact s3 _ _ h1
  refine ⟨⟨⟨.inl upd_same, sd, putE_nd N.nd, by have := putE_len M x l s; omega⟩, upd_same⟩, N.fresh, fun e he => ?_, ?_⟩
  · rcases putE_mem he with z | ⟨z, _⟩
    · rw [z]; exact n0
    · exact N.freshS e z
  · have lM : l ∉ M.map (·.2.1) := fun w => by
      obtain ⟨g, hg, eg⟩ := List.mem_map.mp w
      have eg' : g.2.1 = l := eg
      have h1 := N.sides g hg
      rw [eg', nl] at h1
      cases h1
    unfold putE
    split
    · rw [List.map_map]
      have key : ∀ L : List Ent, (L.map (·.1)).Nodup → (L.map (·.2.1)).Nodup → l ∉ L.map (·.2.1) → (L.map ((fun e : Ent => e.2.1) ∘ fun e => if e.1 = x then (x, l, s) else e)).Nodup ∧ ∀ q ∈ L.map ((fun e : Ent => e.2.1) ∘ fun e => if e.1 = x then (x, l, s) else e), q ∈ L.map (·.2.1) ∨ (q = l ∧ x ∈ L.map (·.1)) := by
        intro L
        induction L with
        | nil => intro _ _ _; exact ⟨List.Pairwise.nil, fun q hq => by cases hq⟩
        | cons e L ih =>
          intro n1 n2 n3
          rw [List.map_cons, List.nodup_cons] at n1 n2
          rw [List.map_cons, List.mem_cons, not_or] at n3
          obtain ⟨i1, i2⟩ := ih n1.2 n2.2 n3.2
          rw [List.map_cons, List.nodup_cons]
          by_cases c : e.1 = x
          · have ef : ((fun e : Ent => e.2.1) ∘ fun e => if e.1 = x then (x, l, s) else e) e = l := by simp [c]
            rw [ef]
            refine ⟨⟨fun w => ?_, i1⟩, fun q hq => ?_⟩
            · rcases i2 l w with z | ⟨_, z⟩
              · exact n3.2 z
              · exact n1.1 (c ▸ z)
            · rcases List.mem_cons.mp hq with z | z
              · exact .inr ⟨z, by rw [List.map_cons, c]; exact List.mem_cons_self⟩
              · rcases i2 q z with y | ⟨y1, y2⟩
                · exact .inl (List.mem_cons_of_mem _ y)
                · exact .inr ⟨y1, List.mem_cons_of_mem _ y2⟩
          · have ef : ((fun e : Ent => e.2.1) ∘ fun e => if e.1 = x then (x, l, s) else e) e = e.2.1 := by simp [c]
            rw [ef]
            refine ⟨⟨fun w => ?_, i1⟩, fun q hq => ?_⟩
            · rcases i2 _ w with z | ⟨z, _⟩
              · exact n2.1 z
              · exact n3.1 z.symm
            · rcases List.mem_cons.mp hq with z | z
              · exact .inl (by rw [z]; exact List.mem_cons_self)
              · rcases i2 q z with y | ⟨y1, y2⟩
                · exact .inl (List.mem_cons_of_mem _ y)
                · exact .inr ⟨y1, List.mem_cons_of_mem _ y2⟩
      exact (key M N.nd N.inj lM).1
    · rw [List.map_append]
      exact nd_snoc N.inj lM
theorem Same.unl {H H' : Hp} {d : Addr} {u : HO} {od : Obj} (h : H d = some u) (s : Same (upd H d (.frz od u)) H') : Same H (upd H' d u) := unlock h s
/-- a new box behind a lock elsewhere -/
theorem Nb.unl {H0 H' : Hp} {b d : Addr} {u : HO} {M : List Ent} {od : Obj} (N : Nb H0 H' d M) (hb : H0 b = some u) (eF : H' b = some (.frz od u)) : Nb H0 (upd H' b u) d M := by
  have db : d ≠ b := fun z => by have := N.un; rw [z, eF] at this; cases this
  have away : ∀ g ∈ M, g.2.1 ≠ b := fun g hg z => by have := N.sides g hg; rw [z, eF] at this; cases this
  exact ⟨⟨⟨.inl (by rw [upd_ne db]; exact N.un), fun g hg => by rw [upd_ne (away g hg)]; exact N.sides g hg, N.nd, N.few⟩, by rw [upd_ne db]; exact N.un⟩, N.fresh, N.freshS, N.inj⟩
theorem ne_some' {H : Hp} {p q : Addr} {o : HO} (h : H p = some o) (n : H q = none) : p ≠ q := fun e => by rw [e, n] at h; cases h
section
variable {P : Program} {w : World} {K : PySem.W.Frag} {mg : Str → Option Value} {base : Heap}
/-! ### the pool, a part of it -/
abbrev sPool : Stmt := topS 24
abbrev sPart : Stmt := topS 27
abbrev nPool : List Str := ["_law_stream_here", "_law_count", "_law_pool_here", "_law_k", "_law_scale", "_law_value"]
abbrev nPart : List Str := ["_law_stream_here", "_law_side", "_law_value"]
theorem scPool : FnScope nPool ["_law_stream_here", "_law_count"] (defScope sPool) := ⟨rfl, rfl, rfl, by decide +kernel, rfl, by decide +kernel, by decide +kernel⟩
theorem scPart : FnScope nPart ["_law_stream_here", "_law_side"] (defScope sPart) := ⟨rfl, rfl, rfl, by decide +kernel, rfl, by decide +kernel, by decide +kernel⟩
theorem srt_snoc {ss : List Int} {v : Int} (s : Srt ss) (h : ∀ k ∈ ss, k < v) : Srt (ss ++ [v]) :=
  List.pairwise_append.mpr ⟨s, List.pairwise_singleton _ _, fun a ha b hb => by rw [List.mem_singleton.mp hb]; exact h a ha⟩
def spPool : Sp := fun vs H Q _ => ∃ (p : Addr) (m : Nat), vs = [.ref p, .int (m : Int)] ∧ Strm H p ∧ 1 ≤ m ∧ m ≤ 100 ∧
  ∀ (H' : Hp) (l : Addr) (ns : List Int), Keep p H H' → H l = none → Strm H' p → H' l = some (.lst (ns.map V.int)) → Srt ns → ns.length = m → Q (.ref l) H'
theorem ok_pool {f fD : Addr} {fd fdD : FuncData} (F : Fun K "_law_pool" "_law_pool" sPool f fd) (B : Bt mg) (D : Call P w K mg base 1 "_law_next" fD fdD ["_law_stream_here", "_law_size"] spDraw) :
    FnOk P w K mg base CX0 2 f fd ["_law_stream_here", "_law_count"] spPool := by
  refine F.ok scPool (fun vs H Q E h => ?_) (fun cdv A outer s H vs Q E hr h => ?_)
  · obtain ⟨p, m, rfl, _⟩ := h
    rfl
  · obtain ⟨p, m, rfl, hp, m0, m1, q⟩ := h
    have nd := scPool.nd
    refine ⟨_, pss_cons (ps_set (i := 2) nd rfl (.inl rfl) (pe_lst (pa_cons (pe_op op_sub (pe_call D.ok hr (by rfl) D.at_ D.kp D.bd .nil pass0 (pa_cons (pv 0) (pa_cons pe_int pa_nil))) pe_int) pa_nil)))
      (pss_cons (ps_for PassesOwn.never rfl (pi_range1 (by rfl) B.range (pa_cons (pe_op op_sub (pv 1) pe_int) pa_nil)) (pg_name (i := 3) nd rfl (.inl rfl))
        (pss_one (ps_expr (pe_bm PySem.F.plainAttrs_list PySem.F.slot_list_append PySem.F.type_list_append mt_append (pv 2) (pa_cons
          (pe_op op_add (pe_op op_add (pe_ix ix_list (pv 2) (pv 3) (fun _ _ => rfl)) pe_int) (pe_op op_mul pe_int (pe_op op_fdiv (pe_call D.ok hr (by rfl) D.at_ D.kp D.bd .nil pass0 (pa_cons (pv 0) (pa_cons pe_int pa_nil))) pe_int))) pa_nil)))))
      (pss_cons (ps_set (i := 4) nd rfl (.inr rfl) (pe_ix ix_list (pe_lst (pa_cons pe_int (pa_cons pe_int (pa_cons pe_int (pa_cons pe_int (pa_cons pe_int (pa_cons pe_int (pa_cons pe_int (pa_cons (pe_op op_pow pe_int pe_int) pa_nil)))))))))
          (pe_call D.ok hr (by rfl) D.at_ D.kp D.bd .nil pass0 (pa_cons (pv 0) (pa_cons pe_int pa_nil))) (fun _ _ => rfl)))
      (pss_one (ps_ret (pe_lc (own := [("_law_value", 5)]) (g := gName 5) (tt := tYes) rfl nd (pi_list (pv 2)) (blkOk_by (N := nPool) (sc := defScope sPool) (by decide +kernel)) (fun _ _ _ _ _ => pg_name (i := 5) nd rfl (Or.inl rfl)) (fun _ _ _ _ _ => pts_nil)
        (fun _ _ _ _ _ => pe_op op_mul (pv 5) (pv 4))))))), ?_⟩
    refine ⟨.ref p, rfl, p, 9, rfl, hp, by decide, by decide, fun H1 d o1 st1 d0 d1 => ⟨d, 4, rfl, rfl, by show 1 ≤ sizeLine; decide, fun l nl1 => ?_⟩⟩
    have npl : p ≠ l := fun z => st1.some (z ▸ nl1)
    have nl : H l = none := by rw [← o1 l npl.symm]; exact nl1
    refine ⟨.int (m : Int), rfl, (m : Int), 1, rfl, rfl, (m : Int) - 1, rfl, by omega, by omega, for_range (lo := 0) (n := ((m : Int) - 1).toNat) (fun i σ H' => ∃ (y3 : Option V) (ns : List Int), σ = [some (.ref p), some (.int (m : Int)), some (.ref l), y3, none, none] ∧ Keep p H H' ∧ Strm H' p ∧ H' l = some (.lst (ns.map V.int)) ∧ Srt ns ∧ ns.length = i + 1 ∧ ∃ z, ns = ns.take i ++ [z])
      ⟨none, [d - 4], rfl, ((Keep.refl p H).oth o1).at_ nl, st1.upd npl, upd_same, List.pairwise_singleton _ _, rfl, d - 4, rfl⟩ ?_ ?_⟩
    · rintro i σ H' hi ⟨y3, ns, rfl, kp, st, el, so, len, z, ez⟩
      have gz : (ns.map V.int)[i]? = some (.int z) := by
        rw [ez, List.map_append, List.getElem?_append_right (by rw [List.length_map, List.length_take]; omega)]
        rw [List.length_map, List.length_take, show i - min i ns.length = 0 by omega]
        rfl
      refine ⟨.ref l, rfl, .inl ⟨rfl, _, sl_map el⟩, .ref l, rfl, .int (0 + (i : Int)), rfl, l, _, _, _, rfl, rfl, sl_map el, at_of (by omega) gz, z, 1, rfl, rfl, .ref p, rfl, p, 4, rfl, st, by decide, by decide, fun H2 e o2 st2 e0 e1 => ?_⟩
      refine ⟨e, 3, rfl, rfl, ⟨by decide, by decide⟩, 2, e / 3, rfl, rfl, .inl ⟨by decide, by decide⟩, z + 1, 2 * (e / 3), rfl, rfl, l, _, _, rfl, rfl, (o2 l npl.symm).trans el, ?_, ?_⟩
      · rw [List.length_map]
        exact small1000 (by omega)
      · have e3 : 0 ≤ e / 3 := Int.ediv_nonneg e0 (by decide)
        refine ⟨_, ns ++ [z + 1 + 2 * (e / 3)], rfl, (kp.oth o2).at_ nl, st2.upd npl, by rw [upd_same, List.map_append]; rfl, srt_snoc so fun k hk => ?_, by rw [List.length_append, len]; rfl, z + 1 + 2 * (e / 3), ?_⟩
        · rw [ez] at hk so
          rcases List.mem_append.mp hk with h | h
          · have := (List.pairwise_append.mp so).2.2 k h z (List.mem_singleton.mpr rfl)
            omega
          · have := List.mem_singleton.mp h
            omega
        · rw [List.take_append_of_le_length (by omega), List.take_of_length_le (by omega)]
    · rintro σ H' ⟨y3, ns, rfl, kp, st, el, so, len, z, ez⟩
      refine ⟨10, 9, rfl, rfl, ⟨by decide, by decide, by decide⟩, by show 8 ≤ sizeLine; decide, fun t nt => ?_⟩
      have npt : p ≠ t := fun e => st.some (e ▸ nt)
      have nlt : l ≠ t := ne_some' el nt
      refine ⟨.ref p, rfl, p, 8, rfl, st.upd npt, by decide, by decide, fun H2 e o2 st2 e0 e1 => ?_⟩
      have et : H2 t = some (.lst [V.int 1, V.int 1, V.int 1, V.int 1, V.int 1, V.int 1, V.int 7, V.int (10 ^ (9 : Int).toNat)]) := (o2 t npt.symm).trans upd_same
      obtain ⟨sc, hsc, sc0, sc1⟩ : ∃ sc : Int, atI [V.int 1, V.int 1, V.int 1, V.int 1, V.int 1, V.int 1, V.int 7, V.int (10 ^ (9 : Int).toNat)] e = some (.int sc) ∧ 0 < sc ∧ sc < 2 ^ 64 := by
        have : e = 0 ∨ e = 1 ∨ e = 2 ∨ e = 3 ∨ e = 4 ∨ e = 5 ∨ e = 6 ∨ e = 7 := by omega
        rcases this with h | h | h | h | h | h | h | h
        · exact ⟨_, by rw [h]; exact atI_nat (j := 0) rfl, by decide, by decide⟩
        · exact ⟨_, by rw [h]; exact atI_nat (j := 1) rfl, by decide, by decide⟩
        · exact ⟨_, by rw [h]; exact atI_nat (j := 2) rfl, by decide, by decide⟩
        · exact ⟨_, by rw [h]; exact atI_nat (j := 3) rfl, by decide, by decide⟩
        · exact ⟨_, by rw [h]; exact atI_nat (j := 4) rfl, by decide, by decide⟩
        · exact ⟨_, by rw [h]; exact atI_nat (j := 5) rfl, by decide, by decide⟩
        · exact ⟨_, by rw [h]; exact atI_nat (j := 6) rfl, by decide, by decide⟩
        · exact ⟨_, by rw [h]; exact atI_nat (j := 7) rfl, by decide, by decide⟩
      refine ⟨t, _, e, .int sc, rfl, rfl, sl_map et, hsc, ?_⟩
      have el2 : H2 l = some (.lst (ns.map V.int)) := by rw [o2 l npl.symm, upd_ne nlt]; exact el
      have kp2 : Keep p H H2 := (kp.at_ (kp.free st nt)).oth o2
      refine ⟨.ref l, rfl, l, rfl, ⟨_, sl_map el2⟩, fun R nR => lc_list (xs := ns.map V.int) (fun i H3 => Same H2 H3 ∧ H3 R = some (.lst (((ns.take i).map (· * sc)).map V.int))) ⟨same_new nR, upd_same⟩ (fun i H3 _ h => h.1.seq (sl_map el2)) ?_ ?_⟩
      · rintro i x H3 hx ⟨sm, eR⟩
        rw [List.getElem?_map] at hx
        obtain ⟨v, hv, rfl⟩ := Option.map_eq_some_iff.mp hx
        have hi := (List.getElem?_eq_some_iff.mp hv).1
        refine ⟨rfl, .int v, rfl, .int sc, rfl, v, sc, rfl, rfl, .inr ⟨by omega, by omega⟩, _, eR, ?_, same_at sm nR, ?_⟩
        · rw [List.length_map, List.length_map, List.length_take]
          exact small1000 (by omega)
        · rw [upd_same, List.take_add_one, hv, List.map_append, List.map_append]
          rfl
      · rintro H3 ⟨sm, eR⟩
        rw [List.length_map, List.take_length] at eR
        refine q H3 R _ (fun b u hb e => sm _ _ (kp2 b u hb e)) (kp2.free st2 nR) (st2.keep (Keep.same (p := R) sm) (fun z => st2.some (z ▸ nR))) eR ?_ ?_
        · unfold Srt
          rw [List.pairwise_map]
          exact so.imp fun h => Int.mul_lt_mul_of_pos_right h sc0
        · rw [List.length_map]
          omega
def spPart (K : PySem.W.Frag) : Sp := fun vs H Q _ => ∃ (p a : Addr) (ns : List Int), vs = [.ref p, .ref a] ∧ Strm H p ∧ H a = some (.lst (ns.map V.int)) ∧ p ≠ a ∧ ns.length ≤ 1000 ∧
  ∀ (H' : Hp) (l : Addr) (ms : List Int), Keep p H H' → H l = none → Strm H' p → H' l = some (.lst (ms.map V.int)) → ms.Sublist ns → Q (.ref l) H'
theorem ok_part {f fD : Addr} {fd fdD : FuncData} (F : Fun K "_law_part" "_law_part" sPart f fd) (B : Bt mg) (D : Call P w K mg base 1 "_law_next" fD fdD ["_law_stream_here", "_law_size"] spDraw) :
    FnOk P w K mg base CX0 2 f fd ["_law_stream_here", "_law_side"] (spPart K) := by
  refine F.ok scPart (fun vs H Q E h => ?_) (fun cdv A outer s H vs Q E hr h => ?_)
  · obtain ⟨p, a, ns, rfl, _⟩ := h
    rfl
  · obtain ⟨p, a, ns, rfl, hp, ha, pa, hl, q⟩ := h
    have nd := scPart.nd
    refine ⟨_, pss_one (ps_ret (pe_lc (own := [("_law_value", 2)]) (g := gName 2) (te := tVar 2) rfl nd (pi_list (pv 1)) (blkOk_by (N := nPart) (sc := defScope sPart) (by decide +kernel)) (fun _ _ _ _ _ => pg_name (i := 2) nd rfl (Or.inl rfl))
        (fun _ _ _ _ _ => pts_one (pt_cmpR op_gt (pe_call D.ok hr (by rfl) D.at_ D.kp D.bd .nil pass0 (pa_cons (pv 0) (pa_cons pe_int pa_nil))) pe_int (nomark _))) (fun _ _ _ _ _ => pv 2))), ?_⟩
    refine ⟨.ref a, rfl, a, rfl, ⟨_, sl_map ha⟩, fun D' nD => ?_⟩
    have npD : p ≠ D' := fun e => hp.some (e ▸ nD)
    have naD : a ≠ D' := ne_some' ha nD
    refine lc_list (xs := ns.map V.int) (fun i H' => Keep p H H' ∧ Strm H' p ∧ H' a = some (.lst (ns.map V.int)) ∧ ∃ ms : List Int, H' D' = some (.lst (ms.map V.int)) ∧ ms.Sublist (ns.take i)) ?_ ?_ ?_ ?_
    · exact ⟨(Keep.refl p H).at_ nD, hp.upd npD, by rw [upd_ne naD]; exact ha, [], upd_same, List.Sublist.refl _⟩
    · rintro i H' _ ⟨_, _, er, _⟩
      exact sl_map er
    · rintro i x H' hx ⟨kp, st, er, ms, eD, sub⟩
      rw [List.getElem?_map] at hx
      obtain ⟨v, hv, rfl⟩ := Option.map_eq_some_iff.mp hx
      have hi := (List.getElem?_eq_some_iff.mp hv).1
      have len := sub.length_le
      rw [List.length_take] at len
      refine ⟨rfl, .ref p, rfl, p, 3, rfl, st, by decide, by decide, fun H2 e o2 st2 e0 e1 => ?_⟩
      refine ⟨e, 0, rfl, rfl, _, rfl, ?_⟩
      have eD2 : H2 D' = some (.lst (ms.map V.int)) := (o2 D' npD.symm).trans eD
      have er2 : H2 a = some (.lst (ns.map V.int)) := (o2 a pa.symm).trans er
      have tk : ns.take (i + 1) = ns.take i ++ [v] := by
        rw [List.take_add_one, hv]
        rfl
      refine ite2 (fun _ => ?_) (fun _ => ?_)
      · refine ⟨.int v, rfl, _, eD2, ?_, (kp.oth o2).at_ nD, st2.upd npD, by rw [upd_ne naD]; exact er2, ms ++ [v], by rw [upd_same, List.map_append]; rfl, by rw [tk]; exact sub.append (List.Sublist.refl _)⟩
        rw [List.length_map]
        exact small1000 (by omega)
      · exact ⟨kp.oth o2, st2, er2, ms, eD2, by rw [tk]; exact sub.trans (List.sublist_append_left _ _)⟩
    · rintro H' ⟨kp, st, er, ms, eD, sub⟩
      rw [List.length_map, List.take_length] at sub
      exact q H' D' ms kp nD st eD sub
end
/-! ### names -/
def plainN : List Str := ["x", "yard", "z", "u", "wide_one", "q", "pp", "t"]
def lettersN : Str := "qwertyuiopasdfghjklzxcvbnm_zyx"
def digitsN : Str := "7305186429"
theorem plain_nodup : ((List.range 8).all fun s => decide (((List.range 8).map fun k => plainN.getD ((k * 3 + s) % 8) "x").Nodup)) = true := by decide +kernel
def isDig (c : Nat) : Bool := decide (48 ≤ c) && decide (c ≤ 57)
def mark (z : Str) : Option Nat := z.cps.toList.find? isDig
theorem letters_none : (lettersN.cps.toList.all fun c => !isDig c) = true := by decide +kernel
theorem digits_are : (digitsN.cps.toList.all isDig) = true := by decide +kernel
theorem digits_nodup : digitsN.cps.toList.Nodup := by decide +kernel
theorem digits_len : digitsN.cps.toList.length = 10 := by decide +kernel
theorem letters_len : lettersN.length = 30 := by decide +kernel
theorem cut_letters (lo hi : Option Int) : ∀ c ∈ (cutS lettersN lo hi).cps.toList, isDig c = false := fun c hc => by
  have h1 : c ∈ lettersN.cps.toList := by
    have : (cutS lettersN lo hi).cps.toList = (lettersN.cps.toList.drop (HT.sIx lettersN.length 0 lo)).take (HT.sIx lettersN.length lettersN.length hi - HT.sIx lettersN.length 0 lo) := by
      unfold cutS
      simp
    rw [this] at hc
    exact List.mem_of_mem_drop (List.mem_of_mem_take hc)
  have := List.all_eq_true.mp letters_none c h1
  simpa using this
theorem cut_len (lo hi : Option Int) : (cutS lettersN lo hi).length ≤ 30 := by
  have h : (cutS lettersN lo hi).cps.toList.length ≤ 30 := by
    unfold cutS
    simp only [List.toList_toArray]
    have l : lettersN.cps.toList.length = 30 := letters_len
    rw [List.length_take, List.length_drop]
    omega
  exact h
theorem mark_of (x t : Str) (c : Nat) (hx : ∀ d ∈ x.cps.toList, isDig d = false) (hc : isDig c = true) : mark (x ++ ⟨#[c]⟩ ++ t) = some c := by
  unfold mark
  have e : (x ++ ⟨#[c]⟩ ++ t).cps.toList = x.cps.toList ++ [c] ++ t.cps.toList := by
    show ((x.cps ++ #[c]) ++ t.cps).toList = _
    simp
  rw [e, List.append_assoc, List.find?_append]
  have : x.cps.toList.find? isDig = none := List.find?_eq_none.mpr fun d hd => by rw [hx d hd]; simp
  rw [this]
  show (([c] ++ t.cps.toList).find? isDig) = some c
  simp [hc]
theorem ok_of {x : Str} (h : ∀ c ∈ x.cps.toList, c < 0x110000) : PyData.strOk x = true := by
  unfold PyData.strOk
  rw [← Array.all_toList]
  exact List.all_eq_true.mpr fun c hc => decide_eq_true (h c hc)
theorem plain_ok : (plainN.all fun x => PyData.strOk x) = true := by decide +kernel
theorem letters_low : (lettersN.cps.toList.all fun c => decide (c < 0x110000)) = true := by decide +kernel
theorem digits_low : (digitsN.cps.toList.all fun c => decide (c < 0x110000)) = true := by decide +kernel
theorem cut_low (lo hi : Option Int) : ∀ c ∈ (cutS lettersN lo hi).cps.toList, c < 0x110000 := fun c hc => by
  have h1 : c ∈ lettersN.cps.toList := by
    have : (cutS lettersN lo hi).cps.toList = (lettersN.cps.toList.drop (HT.sIx lettersN.length 0 lo)).take (HT.sIx lettersN.length lettersN.length hi - HT.sIx lettersN.length 0 lo) := by
      unfold cutS
      simp
    rw [this] at hc
    exact List.mem_of_mem_drop (List.mem_of_mem_take hc)
  exact of_decide_eq_true (List.all_eq_true.mp letters_low c h1)
theorem name_ok (lo hi lo2 hi2 : Option Int) (c : Nat) (hc : c ∈ digitsN.cps.toList) : PyData.strOk (cutS lettersN lo hi ++ ⟨#[c]⟩ ++ cutS lettersN lo2 hi2) = true := ok_of fun d hd => by
  have e : (cutS lettersN lo hi ++ ⟨#[c]⟩ ++ cutS lettersN lo2 hi2).cps.toList = (cutS lettersN lo hi).cps.toList ++ [c] ++ (cutS lettersN lo2 hi2).cps.toList := by
    show (((cutS lettersN lo hi).cps ++ #[c]) ++ (cutS lettersN lo2 hi2).cps).toList = _
    simp
  rw [e] at hd
  rcases List.mem_append.mp hd with h | h
  · rcases List.mem_append.mp h with h | h
    · exact cut_low lo hi d h
    · rw [List.mem_singleton.mp h]
      exact of_decide_eq_true (List.all_eq_true.mp digits_low c hc)
  · exact cut_low lo2 hi2 d h
theorem str_one (c : Nat) : (⟨#[c]⟩ : Str).length = 1 := rfl
theorem len_app (x y : Str) : (x ++ y).length = x.length + y.length := by
  show (x.cps ++ y.cps).size = _
  exact Array.size_append
section
variable {P : Program} {w : World} {K : PySem.W.Frag} {mg : Str → Option Value} {base : Heap}
abbrev sNames : Stmt := topS 23
abbrev nNames : List Str := ["_law_stream_here", "_law_count", "_law_shift", "_law_plain", "_law_k", "_law_letters", "_law_names_here", "_law_at", "_law_size", "_law_tail"]
theorem scNames : FnScope nNames ["_law_stream_here", "_law_count"] (defScope sNames) := ⟨rfl, rfl, rfl, by decide +kernel, rfl, by decide +kernel, by decide +kernel⟩
def spNames : Sp := fun vs H Q _ => ∃ (p : Addr) (m : Nat), vs = [.ref p, .int (m : Int)] ∧ Strm H p ∧ m ≤ 8 ∧
  ∀ (H' : Hp) (l : Addr) (xs : List Str), Keep p H H' → H l = none → Strm H' p → H' l = some (.lst (xs.map V.str)) → xs.Nodup → xs.length = m → (∀ x ∈ xs, PyData.strOk x = true) → Q (.ref l) H'
theorem ok_names {f fD : Addr} {fd fdD : FuncData} (F : Fun K "_law_names" "_law_names" sNames f fd) (B : Bt mg) (D : Call P w K mg base 1 "_law_next" fD fdD ["_law_stream_here", "_law_size"] spDraw) :
    FnOk P w K mg base CX0 2 f fd ["_law_stream_here", "_law_count"] spNames := by
  refine F.ok scNames (fun vs H Q E h => ?_) (fun cdv A outer s H vs Q E hr h => ?_)
  · obtain ⟨p, m, rfl, _⟩ := h
    rfl
  · obtain ⟨p, m, rfl, hp, m8, q⟩ := h
    have nd := scNames.nd
    refine ⟨_, pss_cons (ps_if (pt_cmpR op_eq (pe_call D.ok hr (by rfl) D.at_ D.kp D.bd .nil pass0 (pa_cons (pv 0) (pa_cons pe_int pa_nil))) pe_int (nomark _))
        (pss_cons (ps_set (i := 2) nd rfl (.inr rfl) (pe_call D.ok hr (by rfl) D.at_ D.kp D.bd .nil pass0 (pa_cons (pv 0) (pa_cons pe_int pa_nil))))
        (pss_cons (ps_set (i := 3) nd rfl (.inr rfl) (pe_lst (pa_cons pe_str (pa_cons pe_str (pa_cons pe_str (pa_cons pe_str (pa_cons pe_str (pa_cons pe_str (pa_cons pe_str (pa_cons pe_str pa_nil))))))))))
        (pss_one (ps_ret (pe_lc (own := [("_law_k", 4)]) (g := gName 4) (tt := tYes) rfl nd (pi_range1 (by rfl) B.range (pa_cons (pv 1) pa_nil)) (blkOk_by (N := nNames) (sc := defScope sNames) (by decide +kernel)) (fun _ _ _ _ _ => pg_name (i := 4) nd rfl (Or.inl rfl)) (fun _ _ _ _ _ => pts_nil)
          (fun _ _ _ _ _ => pe_ix (r := rIxL K) ix_list (pv 3) (pe_op op_mod (pe_callTy call_int1 (by rfl) B.int PyProof.Rows.boot_int (pa_cons (pe_op op_add (pe_op op_mul (pv 4) pe_int) (pv 2)) pa_nil)) pe_int) (fun _ _ => rfl))))))) pss_nil)
      (pss_cons (ps_set (i := 5) nd rfl (.inl rfl) pe_str)
      (pss_cons (ps_set (i := 6) nd rfl (.inl rfl) (pe_lst pa_nil))
      (pss_cons (ps_for PassesOwn.never rfl (pi_range1 (by rfl) B.range (pa_cons (pv 1) pa_nil)) (pg_name (i := 4) nd rfl (.inl rfl))
        (pss_cons (ps_set (i := 7) nd rfl (.inl rfl) (pe_call D.ok hr (by rfl) D.at_ D.kp D.bd .nil pass0 (pa_cons (pv 0) (pa_cons pe_int pa_nil))))
        (pss_cons (ps_set (i := 8) nd rfl (.inl rfl) (pe_op op_add pe_int (pe_call D.ok hr (by rfl) D.at_ D.kp D.bd .nil pass0 (pa_cons (pv 0) (pa_cons pe_int pa_nil)))))
        (pss_cons (ps_set (i := 9) nd rfl (.inl rfl) (pe_slice sl_str (pv 5) (po_some (pe_op op_sub pe_int (pe_call D.ok hr (by rfl) D.at_ D.kp D.bd .nil pass0 (pa_cons (pv 0) (pa_cons pe_int pa_nil))))) (po_some pe_int)))
        (pss_one (ps_expr (pe_bm PySem.F.plainAttrs_list PySem.F.slot_list_append PySem.F.type_list_append mt_append (pv 6) (pa_cons
          (pe_op op_add_str (pe_op op_add_str (pe_slice sl_str (pv 5) (po_some (pv 7)) (po_some (pe_op op_add (pv 7) (pv 8)))) (pe_ix ix_str pe_str (pv 4) (fun _ _ => rfl))) (pv 9)) pa_nil))))))))
      (pss_one (ps_ret (pv 6)))))), ?_⟩
    refine ⟨.ref p, rfl, p, 3, rfl, hp, by decide, by decide, fun H1 d o1 st1 d0 d1 => ⟨rfl, _, rfl, ite2 (fun c => ?_) (fun c => ?_)⟩⟩
    · -- the plain names
      refine ⟨.ref p, rfl, p, 8, rfl, st1, by decide, by decide, fun H2 s o2 st2 s0 s1 => ?_⟩
      refine ⟨by show 8 ≤ sizeLine; decide, fun pl npl => ?_⟩
      have npp : p ≠ pl := fun z => st2.some (z ▸ npl)
      have epl : (upd H2 pl (.lst (plainN.map V.str))) pl = some (.lst (plainN.map V.str)) := upd_same
      refine ⟨.int (m : Int), rfl, (m : Int), rfl, by omega, by omega, fun R nR => ?_⟩
      have fin : ∀ k : Nat, k < m → (plainN.map V.str)[(k * 3 + s.toNat) % 8]? = some (.str (plainN.getD ((k * 3 + s.toNat) % 8) "x")) := fun k hk => by
        have : (k * 3 + s.toNat) % 8 < plainN.length := Nat.mod_lt _ (by decide)
        rw [List.getElem?_map, List.getD_eq_getElem?_getD, List.getElem?_eq_getElem this]
        rfl
      refine lc_range (lo := 0) (fun i H' => Same (upd H2 pl (.lst (plainN.map V.str))) H' ∧ H' R = some (.lst (((List.range i).map fun k => plainN.getD ((k * 3 + s.toNat) % 8) "x").map V.str))) ⟨same_new nR, upd_same⟩ ?_ ?_
      · rintro i H' hi ⟨sm, eR⟩
        have hi' : i < m := by omega
        refine ⟨rfl, .ref pl, rfl, .int (0 + (i : Int)), rfl, 0 + (i : Int), 3, rfl, rfl, .inr ⟨by decide, by decide⟩, .int s, rfl, (0 + (i : Int)) * 3, s, rfl, rfl, .inl ⟨_, rfl, (0 + (i : Int)) * 3 + s, 8, rfl, rfl, ?_, ?_⟩⟩
        · show (0 : Int) < 8
          decide
        · refine ⟨pl, _, _, _, rfl, rfl, sl_map (sm _ _ epl), at_of (j := (i * 3 + s.toNat) % 8) (by omega) (fin i hi'), _, eR, ?_, same_at sm nR, ?_⟩
          · rw [List.length_map, List.length_map, List.length_range]
            exact small1000 (by omega)
          · rw [upd_same, List.range_succ, List.map_append, List.map_append]
            rfl
      · rintro H' ⟨sm, eR⟩
        have smH : Keep p H2 H' := fun b u hb e => sm _ _ (by rw [upd_ne (ne_of_none e npl)]; exact e)
        have nR2 : H2 R = none := (same_new npl).free nR
        have st' : Strm H' p := by
          obtain ⟨x, y, z, e⟩ := st2
          exact ⟨x, y, z, sm _ _ (by rw [upd_ne npp]; exact e)⟩
        refine q H' R _ ((((Keep.refl p H).oth o1).oth o2).trans smH) ((((Keep.refl p H).oth o1).oth o2).free st2 nR2) st' eR ?_ ?_ ?_
        · have h8 := List.all_eq_true.mp plain_nodup s.toNat (List.mem_range.mpr (by omega))
          have h9 := of_decide_eq_true h8
          have e8 : (List.range (m : Int).toNat) = (List.range 8).take m := by
            rw [List.take_range, show min m 8 = (m : Int).toNat by omega]
          rw [e8, List.map_take]
          exact List.Pairwise.sublist (List.take_sublist _ _) h9
        · rw [List.length_map, List.length_range]
          omega
        · intro x hx
          obtain ⟨k, _, rfl⟩ := List.mem_map.mp hx
          have lt : (k * 3 + s.toNat) % 8 < plainN.length := Nat.mod_lt _ (by decide)
          rw [List.getD_eq_getElem?_getD, List.getElem?_eq_getElem lt]
          exact List.all_eq_true.mp plain_ok _ (List.getElem_mem lt)
    · -- letters, a digit, letters
      refine ⟨Nat.zero_le _, fun l nl1 => ?_⟩
      have npl : p ≠ l := fun z => st1.some (z ▸ nl1)
      have nl : H l = none := by rw [← o1 l npl.symm]; exact nl1
      refine ⟨.int (m : Int), rfl, (m : Int), rfl, by omega, by omega, for_range (lo := 0) (n := ((m : Int)).toNat) (fun i σ H' => ∃ (y4 y7 y8 y9 : Option V) (xs : List Str), σ = [some (.ref p), some (.int (m : Int)), none, none, y4, some (.str lettersN), some (.ref l), y7, y8, y9] ∧ Keep p H H' ∧ Strm H' p ∧ H' l = some (.lst (xs.map V.str)) ∧ xs.length = i ∧ (∀ x ∈ xs, PyData.strOk x = true) ∧ ∀ j x, xs[j]? = some x → mark x = digitsN.cps.toList[j]?)
        ⟨none, none, none, none, [], rfl, ((Keep.refl p H).oth o1).at_ nl, st1.upd npl, upd_same, rfl, (fun _ h => nomatch h), fun j x h => absurd ((List.getElem?_nil (α := Str) (i := j)).symm.trans h) (by simp)⟩ ?_ ?_⟩
      · rintro i σ H' hi ⟨y4, y7, y8, y9, xs, rfl, kp, st, el, len, sok, mk⟩
        have hi' : i < m := by omega
        refine ⟨.ref p, rfl, p, 26, rfl, st, by decide, by decide, fun H2 a o2 st2 a0 a1 => ?_⟩
        refine ⟨.ref p, rfl, p, 3, rfl, st2, by decide, by decide, fun H3 b o3 st3 b0 b1 => ⟨1, b, rfl, rfl, ?_⟩⟩
        refine ⟨_, rfl, .ref p, rfl, p, 3, rfl, st3, by decide, by decide, fun H4 t o4 st4 t0 t1 => ⟨26, t, rfl, rfl, _, rfl, 26, rfl, lettersN, rfl, by decide +kernel, ?_⟩⟩
        have el4 : H4 l = some (.lst (xs.map V.str)) := by rw [o4 l npl.symm, o3 l npl.symm, o2 l npl.symm]; exact el
        have hd : i < digitsN.cps.toList.length := by rw [digits_len]; omega
        have gd : digitsN.cps.toList[i]? = some digitsN.cps.toList[i] := List.getElem?_eq_getElem hd
        refine ⟨.ref l, rfl, .inl ⟨rfl, _, sl_map el4⟩, _, rfl, .int a, rfl, a, rfl, .int a, rfl, _, rfl, a, _, rfl, rfl, _, rfl, lettersN, rfl, by decide +kernel, .int (0 + (i : Int)), rfl, digitsN, _, digitsN.cps.toList[i], rfl, rfl, by decide +kernel, (by rw [show (0 : Int) + (i : Int) = ((i : Nat) : Int) by omega]; exact atI_nat gd), _, _, rfl, rfl, ?_, _, rfl, _, _, rfl, rfl, ?_, l, _, _, rfl, rfl, el4, ?_, ?_⟩
        · exact by have := cut_len (some a) (some (a + (1 + b))); rw [str_one]; exact Nat.le_trans (Nat.add_le_add_right this 1) (by decide)
        · exact by have := cut_len (some a) (some (a + (1 + b))); have h2 := cut_len (some (26 - t)) (some 26); rw [len_app, str_one]; exact Nat.le_trans (Nat.add_le_add (Nat.add_le_add_right this 1) h2) (by decide)
        · rw [List.length_map]
          exact small1000 (by omega)
        · have dg : isDig digitsN.cps.toList[i] = true := List.all_eq_true.mp digits_are _ (List.getElem_mem hd)
          refine ⟨_, _, _, _, xs ++ [cutS lettersN (some a) (some (a + (1 + b))) ++ ⟨#[digitsN.cps.toList[i]]⟩ ++ cutS lettersN (some (26 - t)) (some 26)], rfl, (((kp.oth o2).oth o3).oth o4).at_ nl, st4.upd npl, ?_, ?_, ?_, ?_⟩
          · rw [upd_same, List.map_append]
            rfl
          · rw [List.length_append, len]
            rfl
          · intro x hx
            rcases List.mem_append.mp hx with h | h
            · exact sok x h
            · rw [List.mem_singleton.mp h]
              exact name_ok _ _ _ _ _ (List.getElem_mem hd)
          · intro j x hj
            rcases Nat.lt_or_ge j i with c | c
            · rw [List.getElem?_append_left (by omega)] at hj
              exact mk j x hj
            · rw [List.getElem?_append_right (by omega)] at hj
              have ej : j = i := by
                have := (List.getElem?_eq_some_iff.mp hj).1
                rw [List.length_singleton] at this
                omega
              subst ej
              rw [show j - xs.length = 0 by omega] at hj
              have : _ = x := Option.some.inj hj
              rw [← this, gd]
              exact mark_of _ _ _ (cut_letters _ _) dg
      · rintro σ H' ⟨y4, y7, y8, y9, xs, rfl, kp, st, el, len, sok, mk⟩
        refine ⟨_, rfl, q H' l xs kp nl st el ?_ (by omega) sok⟩
        refine List.pairwise_iff_getElem.mpr fun j k hj hk hjk he => ?_
        have e1 := mk j _ (List.getElem?_eq_getElem hj)
        have e2 := mk k _ (List.getElem?_eq_getElem hk)
        rw [he] at e1
        have hk' : k < digitsN.cps.toList.length := by rw [digits_len]; omega
        have hj' : j < digitsN.cps.toList.length := by rw [digits_len]; omega
        have e3 := e1.symm.trans e2
        rw [List.getElem?_eq_getElem hj', List.getElem?_eq_getElem hk'] at e3
        exact List.pairwise_iff_getElem.mp digits_nodup j k hj' hk' hjk (Option.some.inj e3)
end
section
variable {P : Program} {w : World} {K : PySem.W.Frag} {mg : Str → Option Value} {base : Heap}
/-! ### a copy, by a loop -/
theorem Nb.nil {H H' : Hp} {D : Addr} (n : H D = none) (h : H' D = some (.dK [])) : Nb H H' D [] := ⟨⟨⟨.inl h, (fun _ he => nomatch he), .nil, Nat.zero_le _⟩, h⟩, n, (fun _ he => nomatch he), .nil⟩
theorem shape_len {L M : List Ent} (h : shape L = shape M) : L.length = M.length := by have := congrArg List.length h; simpa [shape] using this
theorem shape_take {L M : List Ent} {i : Nat} {e : Ent} {l : Addr} (h : shape M = shape (L.take i)) (he : L[i]? = some e) : shape (M ++ [(e.1, l, e.2.2)]) = shape (L.take (i + 1)) := by
  rw [List.take_add_one, he]
  unfold shape at h ⊢
  rw [List.map_append, List.map_append, h]
  rfl
/-! ### _law_holds, _law_within, _law_is -/
end
/-- all that was there, but what stands at one of these -/
def KeepL (as : List Addr) (H H' : Hp) : Prop := ∀ b o, b ∉ as → H b = some o → H' b = some o
theorem KeepL.refl (as : List Addr) (H : Hp) : KeepL as H H := fun _ _ _ e => e
theorem KeepL.same {as : List Addr} {H H1 H2 : Hp} (k : KeepL as H H1) (s : Same H1 H2) : KeepL as H H2 := fun b o h e => s _ _ (k b o h e)
theorem KeepL.trans {as : List Addr} {H H1 H2 : Hp} (k : KeepL as H H1) (s : KeepL as H1 H2) : KeepL as H H2 := fun b o h e => s b o h (k b o h e)
abbrev big : Int := 10 ^ (13 : Int).toNat
theorem SameB.get {L M : List Ent} (s : SameB L M) {e : Ent} (nd : (M.map (·.1)).Nodup) (h : e ∈ M) : ∃ t ∈ L, t.1 = e.1 ∧ t.2.2 = e.2.2 ∧ getE L e.1 = some t := by
  have q := s e.1
  rw [look_mem nd h] at q
  unfold look at q
  obtain ⟨t, ht, eq⟩ := Option.map_eq_some_iff.mp q
  obtain ⟨m1, m2⟩ := getE_mem ht
  exact ⟨t, m1, m2, eq, ht⟩
section
variable {P : Program} {w : World} {K : PySem.W.Frag} {mg : Str → Option Value} {base : Heap}
abbrev sSame : Stmt := topS 33
abbrev nSame : List Str := ["_law_actual", "_law_expected", "_law_found", "_law_name"]
theorem scSame : FnScope nSame ["_law_actual", "_law_expected"] (defScope sSame) := ⟨rfl, rfl, rfl, by decide +kernel, rfl, by decide +kernel, by decide +kernel⟩
def spSame : Sp := fun vs H Q _ => ∃ (a e : Addr) (M E : List Ent), vs = [.ref a, .ref e] ∧ Bu H a M ∧ Bu H e E ∧ SameB M E ∧ (∀ g ∈ M, Srt g.2.2 ∧ g.2.2.length ≤ 1000) ∧ ∀ H', Same H H' → Q (.bl true) H'
theorem ok_same {f fI : Addr} {fd fdI : FuncData} (F : Fun K "_law_same_sides" "_law_same_sides" sSame f fd) (B : Bt mg) (I : Call P w K mg base 2 "_law_is_side" fI fdI ["_law_actual"] spIsSide) :
    FnOk P w K mg base CX0 3 f fd ["_law_actual", "_law_expected"] spSame := by
  refine F.ok scSame (fun vs H Q E h => ?_) (fun cdv A outer s H vs Q E hr h => ?_)
  · obtain ⟨a, e, M, E, rfl, _⟩ := h
    rfl
  · obtain ⟨a, e, M, X, rfl, bm, be, same, ok, q⟩ := h
    have hu := hu_of hr
    have hu64 : (A.deeper (envOfC "_law_same_sides" (defScope sSame) s.heap.objs.size f cdv)).units + 64 < cLine := by have := hr.un; omega
    have nd := scSame.nd
    refine ⟨_, pss_cons (ps_if (PW.pt (pw_or (pt_not (pt_val (pe_callB call_isi (by rfl) B.isi PyProof.Rows.boot_isinstance (pa_cons (pv 0) (pa_cons (pe_bltn (by rfl) B.dict PyProof.Rows.boot_dict (v := .ty "dict") rfl) pa_nil)))))
        (pw_or1 (pt_cmpR op_ne (pe_callB call_lenD (by rfl) B.len PySem.boot_len (pa_cons (pv 0) pa_nil)) (pe_callB call_lenD (by rfl) B.len PySem.boot_len (pa_cons (pv 1) pa_nil)) rfl)))) (pss_one (ps_ret pe_bl)) pss_nil)
      (pss_cons (ps_lock (ps_setLc (i := 2) (own := [("_law_name", 3)]) (g := gName 3) (te := tVar 3) rfl nd rfl rfl (by rfl) (pi_keys (pv 1)) (blkOk_by (N := nSame) (sc := defScope sSame) (by decide +kernel)) (fun _ _ _ _ _ => pg_name (i := 3) nd rfl (Or.inl rfl))
          (fun _ _ _ _ _ => pts_one (PW.pt (pw_and (pt_cmp (pc_din hu (pv 3) (pv 0))) (pw_and1 (pt_val (pe_call I.ok hr (by rfl) I.at_ I.kp I.bd .nil pass0 (pa_cons (pe_dget hu (pv 0) (pv 3) (fun _ _ => rfl)) pa_nil))))))) (fun _ _ _ _ _ => pv 3)))
      (pss_one (ps_ret (pe_and (pe_cmpR op_eq (pe_callB call_len_seq (by rfl) B.len PySem.boot_len (pa_cons (pv 2) pa_nil)) (pe_callB call_lenD (by rfl) B.len PySem.boot_len (pa_cons (pv 1) pa_nil)) rfl)
        (pe_one (pe_callB (cr_all rfl) (by rfl) B.all PyProof.Rows.boot_all (pa_cons
          (pe_lc (own := [("_law_name", 3)]) (g := gName 3) (tt := tYes) rfl nd (pi_list (pv 2)) (blkOk_by (N := nSame) (sc := defScope sSame) (by decide +kernel)) (fun _ _ _ _ _ => pg_name (i := 3) nd rfl (Or.inl rfl)) (fun _ _ _ _ _ => pts_nil)
            (fun _ _ _ _ _ => pe_cmpR (r := rEqD K) (op_eqD hu64) (pe_dget hu (pv 0) (pv 3) (fun _ _ => rfl)) (pe_dget hu (pv 1) (pv 3) (fun _ _ => rfl)) rfl)) pa_nil))))))), ?_⟩
    have lens : M.length = X.length := same.len bm.nd be.nd
    refine ⟨.ref a, rfl, .ref a, .ty "dict", .type "dict", .type "dict", true, rfl, .ty _, .base (.dK bm.un), kit_ty (by decide +kernel), true, rfl, iteF ?_⟩
    refine ⟨.ref a, rfl, a, _, rfl, bm.un, .ref e, rfl, e, _, rfl, be.un, rfl, ?_⟩
    rw [entK_len, entK_len, lens, decide_eq_true rfl]
    refine ⟨false, rfl, iteF ?_⟩
    refine ⟨e, _, be.un, trivial, fun od => ?_⟩
    have bel := be.toBx.lock (od := od) be.un
    have bml := bm.toBx.lock (od := od) be.un
    refine ⟨.ref e, rfl, e, od, rfl, .inl ⟨entK X, upd_same, fun D nD => lc_it walk_keys (fun i H' => Same (upd H e (.frz od (.dK (entK X)))) H' ∧ H' D = some (.lst (((X.take i).map (·.1)).map V.str))) ⟨same_new nD, upd_same⟩ (fun i H' _ h => h.1 _ _ upd_same) ?_ ?_⟩⟩
    · rintro i x Hz H' hi ⟨sm, eD⟩ ⟨rfl, k1, v1, hk, rfl⟩
      obtain ⟨x, hx, rfl, rfl⟩ := keys_at hk
      have xm := List.mem_of_getElem? hx
      obtain ⟨g, gm, g1, g2, g3⟩ := same.get be.nd xm
      have gv := (bml.same sm).get x.1
      rw [g3] at gv
      obtain ⟨so, ln⟩ := ok g gm
      have isu : H' a = some (.dK (entK M)) ∨ H' a = some (.frz od (.dK (entK X))) := by
        by_cases z : a = e
        · right; rw [z]; exact sm _ _ upd_same
        · left; exact sm _ _ (by rw [upd_ne z]; exact bm.un)
      refine ⟨rfl, .str x.1, rfl, .ref a, rfl, a, _, rfl, gv, true, rfl, iteT ?_⟩
      refine ⟨.ref a, rfl, .str x.1, rfl, a, .ref g.2.1, rfl, gv, g.2.1, g.2.2, rfl, sm _ _ (bml.sides g gm), so, ln, fun H4 s4 => ⟨true, rfl, iteT ⟨.str x.1, rfl, _, s4 _ _ eD, ?_, same_at (sm.trans s4) nD, ?_⟩⟩⟩
      · rw [List.length_map, List.length_map, List.length_take]
        have := be.few
        exact small1000 (by omega)
      · rw [upd_same, List.take_add_one, hx, List.map_append, List.map_append]
        rfl
    · rintro H' ⟨sm, eD⟩
      rw [entK_len, List.take_length] at eD
      have eF := sm _ _ (upd_same (H := H) (a := e) (o := HO.frz od (.dK (entK X))))
      have nDe : D ≠ e := fun z => by rw [z, eF] at eD; cases eD
      refine ⟨eF, ?_⟩
      have s2 : Same H (upd H' e (.dK (entK X))) := unlock be.un sm
      have eD2 : (upd H' e (.dK (entK X))) D = some (.lst ((X.map (·.1)).map V.str)) := by rw [upd_ne nDe]; exact eD
      generalize upd H' e (.dK (entK X)) = H2 at s2 eD2 ⊢
      clear sm eD eF H'
      refine ⟨.ref D, rfl, D, _, rfl, .inl (sl_map eD2), .ref e, rfl, e, _, rfl, s2 _ _ be.un, rfl, ?_⟩
      rw [entK_len, List.length_map, List.length_map, decide_eq_true rfl]
      refine ⟨true, rfl, iteT ?_⟩
      refine ⟨.ref D, rfl, D, rfl, ⟨_, sl_map eD2⟩, fun R nR => lc_list (xs := (X.map (·.1)).map V.str) (fun i H' => Same H2 H' ∧ H' R = some (.lst ((List.replicate i true).map V.bl))) ⟨same_new nR, upd_same⟩ (fun i H' _ h => h.1.seq (sl_map eD2)) ?_ ?_⟩
      · rintro i z H' hz ⟨sm, hd⟩
        rw [List.getElem?_map, List.getElem?_map] at hz
        obtain ⟨v, hv, rfl⟩ := Option.map_eq_some_iff.mp hz
        obtain ⟨x, hx, rfl⟩ := Option.map_eq_some_iff.mp hv
        have xm := List.mem_of_getElem? hx
        obtain ⟨g, gm, g1, g2, g3⟩ := same.get be.nd xm
        have s3 := s2.trans sm
        have gv := (bm.toBx.same s3).get x.1
        rw [g3] at gv
        have ev := (be.toBx.same s3).get x.1
        rw [getE_of be.nd xm] at ev
        have few := be.few
        have hi := (List.getElem?_eq_some_iff.mp hx).1
        have e1 := s3 _ _ (bm.sides g gm)
        rw [g2] at e1
        refine ⟨rfl, .ref a, rfl, .str x.1, rfl, a, .ref g.2.1, rfl, gv, .ref e, rfl, .str x.1, rfl, e, .ref x.2.1, rfl, ev, dI x.2.2, dI x.2.2, dpI (sl_map e1), dpI (sl_map (s3 _ _ (be.sides x xm))), shI _, shI _, ?_⟩
        rw [eqI]
        refine ⟨_, hd, ?_, same_at sm nR, ?_⟩
        · rw [List.length_map, List.length_replicate]
          exact small1000 (by omega)
        · rw [upd_same, List.replicate_succ', List.map_append]
          rfl
      · rintro H' ⟨sm, hd⟩
        refine ⟨R, _, rfl, sl_map hd, ?_⟩
        rw [all_rep]
        exact q _ (s2.trans sm)
end
theorem cutV_to (xs : List V) (j : Nat) : cutV xs none (some (j : Int)) = xs.take j := by
  unfold cutV
  rw [HT.sIx_none, HT.sIx_nat, List.drop_zero, Nat.sub_zero]
  by_cases h : j ≤ xs.length
  · rw [Nat.min_eq_left h]
  · rw [Nat.min_eq_right (by omega), List.take_of_length_le (Nat.le_refl _), List.take_of_length_le (by omega)]
theorem Nb.keep {H0 H H' : Hp} {p d : Addr} {M : List Ent} (N : Nb H0 H d M) (hp : H0 p ≠ none) (k : Keep p H H') : Nb H0 H' d M := by
  have pd : d ≠ p := fun z => hp (z ▸ N.fresh)
  have away : ∀ g ∈ M, g.2.1 ≠ p := fun g hg z => hp (z ▸ N.freshS g hg)
  exact ⟨⟨⟨.inl (k _ _ pd N.un), fun g hg => k _ _ (away g hg) (N.sides g hg), N.nd, N.few⟩, k _ _ pd N.un⟩, N.fresh, N.freshS, N.inj⟩
theorem Bu.keep {H H' : Hp} {p d : Addr} {M : List Ent} (N : Bu H d M) (s : Strm H p) (k : Keep p H H') (away : ∀ g ∈ M, g.2.1 ≠ p) : Bu H' d M := by
  have pd : d ≠ p := fun z => by
    obtain ⟨x, y, w, e⟩ := s
    have := N.un
    rw [z, e] at this
    cases this
  exact ⟨⟨.inl (k _ _ pd N.un), fun g hg => k _ _ (away g hg) (N.sides g hg), N.nd, N.few⟩, k _ _ pd N.un⟩
theorem Bu.aput {H : Hp} {d l : Addr} {M : List Ent} {x : Str} {s : List Int} (B : Bu H d M) (el : H l = some (.lst (s.map V.int))) (few : M.length + 1 ≤ 40) : Bu (upd H d (.dK (entK (putE M x l s)))) d (putE M x l s) := by
  have ld : ∀ {c : Addr} {ys : List V}, H c = some (.lst ys) → c ≠ d := fun h z => by rw [z, B.un] at h; cases h
  refine ⟨⟨.inl upd_same, fun e he => ?_, putE_nd B.nd, by have := putE_len M x l s; omega⟩, upd_same⟩
  rcases putE_mem he with z | ⟨z, _⟩
  · rw [z, upd_ne (ld el)]
    exact el
  · have h1 := B.sides e z
    rw [upd_ne (ld h1)]
    exact h1
/-! ### equal boxes, deep -/
theorem shape_same {L M : List Ent} (h : shape L = shape M) : SameB L M := look_shape h
/-! ### what the meet and the join hold -/
theorem Sz.mono {L : List Ent} {n m : Nat} (z : Sz L n) (h : n ≤ m) : Sz L m := ⟨z.srt, fun e he => Nat.le_trans (z.len e he) h⟩
theorem sq_keep {K : PySem.W.Frag} {H H' : Hp} {a p : Addr} {xs : List V} (h : SqL K H a xs) (np : H p = none) (k : Keep p H H') : SqL K H' a xs := by
  have ap : ∀ o, H a = some o → a ≠ p := fun o e z => by rw [z, np] at e; cases e
  rcases h with (h | ⟨o, h⟩) | h
  · exact .inl (.inl (k _ _ (ap _ h) h))
  · exact .inl (.inr ⟨o, k _ _ (ap _ h) h⟩)
  · exact .inr h
/-! ### domains: a list of pairs of a name and a side -/
abbrev DomE := Addr × Ent
structure Doms (H : Hp) (l : Addr) (ds : List DomE) : Prop where
  lst : H l = some (.lst (ds.map fun d => V.ref d.1))
  tup : ∀ d ∈ ds, H d.1 = some (.tup [V.str d.2.1, V.ref d.2.2.1])
  side : ∀ d ∈ ds, H d.2.2.1 = some (.lst (d.2.2.2.map V.int))
theorem Doms.same {H H' : Hp} {l : Addr} {ds : List DomE} (D : Doms H l ds) (s : Same H H') : Doms H' l ds := ⟨s _ _ D.lst, fun d h => s _ _ (D.tup d h), fun d h => s _ _ (D.side d h)⟩
theorem Srt.sub {a b : List Int} (s : Srt b) (h : a.Sublist b) : Srt a := List.Pairwise.sublist h s
theorem Doms.keep {H H' : Hp} {p l : Addr} {ds : List DomE} (D : Doms H l ds) (k : Keep p H H') (hl : l ≠ p) (h : ∀ d ∈ ds, d.1 ≠ p ∧ d.2.2.1 ≠ p) : Doms H' l ds :=
  ⟨k _ _ hl D.lst, fun d hd => k _ _ (h d hd).1 (D.tup d hd), fun d hd => k _ _ (h d hd).2 (D.side d hd)⟩
theorem refs_ints {ds : List DomE} {ns : List Int} (h : (ds.map fun d => V.ref d.1) = ns.map V.int) : ds = [] := by
  cases ds with
  | nil => rfl
  | cons d ds =>
    cases ns with
    | nil => cases h
    | cons n ns =>
      rw [List.map_cons, List.map_cons] at h
      cases (List.cons.inj h).1
/-- a pair more -/
theorem Doms.snoc {H : Hp} {l T Z : Addr} {ds : List DomE} {x : Str} {zs : List Int} (D : Doms H l ds) (hT : H T = some (.tup [V.str x, V.ref Z])) (hZ : H Z = some (.lst (zs.map V.int))) (nZ : Z ≠ l) :
    Doms (upd H l (.lst ((ds.map fun d => V.ref d.1) ++ [V.ref T]))) l (ds ++ [(T, x, Z, zs)]) := by
  have tl : ∀ {c : Addr} {vs : List V}, H c = some (.tup vs) → c ≠ l := fun h z => by rw [z, D.lst] at h; cases h
  refine ⟨by rw [upd_same, List.map_append]; rfl, fun d hd => ?_, fun d hd => ?_⟩
  · rcases List.mem_append.mp hd with h | h
    · rw [upd_ne (tl (D.tup d h))]
      exact D.tup d h
    · rw [List.mem_singleton.mp h, upd_ne (tl hT)]
      exact hT
  · rcases List.mem_append.mp hd with h | h
    · have q := D.side d h
      have : d.2.2.1 ≠ l := fun z => by
        rw [z, D.lst] at q
        have e := refs_ints (HO.lst.inj (Option.some.inj q))
        rw [e] at h
        cases h
      rw [upd_ne this]
      exact q
    · rw [List.mem_singleton.mp h, upd_ne nZ]
      exact hZ
theorem with_restA {α : Type} {R : α → Hp → Prop} {G : Prop} (C : α → Hp → Prop) (r : ∀ a H, C a H → R a H) (g : (∀ a H, C a H → R a H) → G) : G := g r
section
variable {P : Program} {w : World} {K : PySem.W.Frag} {mg : Str → Option Value} {base : Heap}
abbrev sDoms : Stmt := topS 25
abbrev nDoms : List Str := ["_law_stream_here", "_law_names_here", "_law_pool_here", "_law_most", "_law_domains_here", "_law_name", "_law_side", "_law_value"]
theorem scDoms : FnScope nDoms ["_law_stream_here", "_law_names_here", "_law_pool_here", "_law_most"] (defScope sDoms) := ⟨rfl, rfl, rfl, by decide +kernel, rfl, by decide +kernel, by decide +kernel⟩
def spDoms : Sp := fun vs H Q _ => ∃ (p nm pl : Addr) (xs : List Str) (ns : List Int) (m : Nat), vs = [.ref p, .ref nm, .ref pl, .int (m : Int)] ∧ Strm H p ∧ H nm = some (.lst (xs.map V.str)) ∧ H pl = some (.lst (ns.map V.int)) ∧ p ≠ nm ∧ p ≠ pl ∧ Srt ns ∧ 1 ≤ ns.length ∧ ns.length ≤ 100 ∧ xs.length ≤ 100 ∧
  ∀ (H' : Hp) (l : Addr) (ds : List DomE), Keep p H H' → H l = none → Strm H' p → Doms H' l ds → ds.map (·.2.1) = xs → (∀ d ∈ ds, Srt d.2.2.2 ∧ d.2.2.2.length ≤ max m 1 ∧ H d.1 = none ∧ H d.2.2.1 = none ∧ ∀ v ∈ d.2.2.2, v ∈ ns) → (ds.map (·.2.2.1)).Nodup → Q (.ref l) H'
theorem ok_doms {f fD : Addr} {fd fdD : FuncData} (F : Fun K "_law_domains" "_law_domains" sDoms f fd) (B : Bt mg) (D : Call P w K mg base 1 "_law_next" fD fdD ["_law_stream_here", "_law_size"] spDraw) :
    FnOk P w K mg base CX0 2 f fd ["_law_stream_here", "_law_names_here", "_law_pool_here", "_law_most"] spDoms := by
  refine F.ok scDoms (fun vs H Q E h => ?_) (fun cdv A outer s H vs Q E hr h => ?_)
  · obtain ⟨p, nm, pl, xs, ns, m, rfl, _⟩ := h
    rfl
  · obtain ⟨p, nm, pl, xs, ns, m, rfl, hp, enm, epl, pnm, ppl, so, n1, nl, xl, q⟩ := h
    have nd := scDoms.nd
    refine ⟨_, pss_cons (ps_set (i := 4) nd rfl (.inl rfl) (pe_lst pa_nil))
      (pss_cons (ps_for PassesOwn.never rfl (pi_list (pv 1)) (pg_name (i := 5) nd rfl (.inl rfl))
        (pss_cons (ps_set (i := 6) nd rfl (.inl rfl) (pe_slice sl_list (pe_lc (own := [("_law_value", 7)]) (g := gName 7) (te := tVar 7) rfl nd (pi_list (pv 2)) (blkOk_by (N := nDoms) (sc := defScope sDoms) (by decide +kernel)) (fun _ _ _ _ _ => pg_name (i := 7) nd rfl (Or.inl rfl))
            (fun _ _ _ _ _ => pts_one (pt_cmpR op_gt (pe_call D.ok hr (by rfl) D.at_ D.kp D.bd .nil pass0 (pa_cons (pv 0) (pa_cons pe_int pa_nil))) pe_int (nomark _))) (fun _ _ _ _ _ => pv 7)) po_none (po_some (pv 3))))
        (pss_cons (ps_if (pt_cmpR op_eq (pe_callB call_len_seq (by rfl) B.len PySem.boot_len (pa_cons (pv 6) pa_nil)) pe_int rfl)
          (pss_one (ps_set (i := 6) nd rfl (.inl rfl) (pe_lst (pa_cons (pe_ix ix_list (pv 2) (pe_call D.ok hr (by rfl) D.at_ D.kp D.bd .nil pass0 (pa_cons (pv 0) (pa_cons (pe_callB call_len_seq (by rfl) B.len PySem.boot_len (pa_cons (pv 2) pa_nil)) pa_nil))) (fun _ _ => rfl)) pa_nil)))) pss_nil)
        (pss_one (ps_expr (pe_bm PySem.F.plainAttrs_list PySem.F.slot_list_append PySem.F.type_list_append mt_append (pv 4) (pa_cons (pe_tup (pa_cons (pv 5) (pa_cons
          (pe_slice sl_list (pv 6) po_none (po_some (pe_op op_mul (pe_callB call_len_seq (by rfl) B.len PySem.boot_len (pa_cons (pv 6) pa_nil))
            (pe_callTy call_int1 (by rfl) B.int PyProof.Rows.boot_int (pa_cons (pe_cmpR op_ne (pe_call D.ok hr (by rfl) D.at_ D.kp D.bd .nil pass0 (pa_cons (pv 0) (pa_cons pe_int pa_nil))) pe_int (nomark _)) pa_nil))))) pa_nil))) pa_nil)))))))
      (pss_one (ps_ret (pv 4)))), ?_⟩
    refine ⟨by show 0 ≤ sizeLine; decide, fun l nl0 => ?_⟩
    have npl : p ≠ l := fun z => hp.some (z ▸ nl0)
    have hpn : H p ≠ none := hp.some
    refine ⟨.ref nm, rfl, nm, rfl, ⟨_, sl_map (same_new nl0 _ _ enm)⟩, for_list (xs := xs.map V.str) (fun i σ H' => ∃ (ds : List DomE) (y5 y6 : Option V), σ = [some (.ref p), some (.ref nm), some (.ref pl), some (.int (m : Int)), some (.ref l), y5, y6, none] ∧ Keep p H H' ∧ Strm H' p ∧ Doms H' l ds ∧ ds.map (·.2.1) = xs.take i ∧ (∀ d ∈ ds, Srt d.2.2.2 ∧ d.2.2.2.length ≤ max m 1 ∧ H d.1 = none ∧ H d.2.2.1 = none ∧ ∀ v ∈ d.2.2.2, v ∈ ns) ∧ (ds.map (·.2.2.1)).Nodup)
      ⟨[], none, none, rfl, (Keep.refl p H).at_ nl0, hp.upd npl, ⟨upd_same, (fun _ h => nomatch h), (fun _ h => nomatch h)⟩, rfl, (fun _ h => nomatch h), List.Pairwise.nil⟩ (fun i σ H' _ h => by obtain ⟨ds, y5, y6, _, k, _⟩ := h; exact sl_map (k _ _ pnm.symm enm)) ?_ ?_⟩
    · rintro i x σ H' hx ⟨ds, y5, y6, rfl, kp, st, dm, keys, ok, inj⟩
      rw [List.getElem?_map] at hx
      obtain ⟨x, hv, rfl⟩ := Option.map_eq_some_iff.mp hx
      have hi := (List.getElem?_eq_some_iff.mp hv).1
      have ld : ds.length = i := by
        have := congrArg List.length keys
        rw [List.length_map, List.length_take] at this
        omega
      have er : H' pl = some (.lst (ns.map V.int)) := kp _ _ ppl.symm epl
      refine ⟨.ref pl, rfl, pl, rfl, ⟨_, sl_map er⟩, fun R nR => ?_⟩
      have npR : p ≠ R := fun z => st.some (z ▸ nR)
      have apart : ∀ d ∈ ds, d.1 ≠ p ∧ d.2.2.1 ≠ p := fun d hd => ⟨fun z => hpn (z ▸ (ok d hd).2.2.1), fun z => hpn (z ▸ (ok d hd).2.2.2.1)⟩
      refine lc_list (xs := ns.map V.int) (fun j H1 => Keep p H' H1 ∧ Strm H1 p ∧ ∃ ms : List Int, H1 R = some (.lst (ms.map V.int)) ∧ ms.Sublist (ns.take j)) ?_ ?_ ?_ ?_
      · exact ⟨(Keep.refl p H').at_ nR, st.upd npR, [], upd_same, List.Sublist.refl _⟩
      · rintro j H1 _ ⟨k, _⟩
        exact sl_map (k _ _ ppl.symm er)
      · rintro j v H1 hv1 ⟨k1, st1, ms, eR, sub⟩
        rw [List.getElem?_map] at hv1
        obtain ⟨v, hv2, rfl⟩ := Option.map_eq_some_iff.mp hv1
        have hj := (List.getElem?_eq_some_iff.mp hv2).1
        have len := sub.length_le
        rw [List.length_take] at len
        refine ⟨rfl, .ref p, rfl, p, 4, rfl, st1, by decide, by decide, fun H2 e o2 st2 e0 e1 => ?_⟩
        refine ⟨e, 0, rfl, rfl, _, rfl, ?_⟩
        have eR2 : H2 R = some (.lst (ms.map V.int)) := (o2 R npR.symm).trans eR
        have tk : ns.take (j + 1) = ns.take j ++ [v] := by rw [List.take_add_one, hv2]; rfl
        refine ite2 (fun _ => ?_) (fun _ => ?_)
        · refine ⟨.int v, rfl, _, eR2, ?_, fun b o hb e => ?_, st2.upd npR, ms ++ [v], by rw [upd_same, List.map_append]; rfl, by rw [tk]; exact sub.append (List.Sublist.refl _)⟩
          · rw [List.length_map]
            exact small1000 (by omega)
          · have : b ≠ R := fun z => by rw [z, nR] at e; cases e
            rw [upd_ne this]
            exact (k1.oth o2) b o hb e
        · exact ⟨k1.oth o2, st2, ms, eR2, by rw [tk]; exact sub.trans (List.sublist_append_left _ _)⟩
      · rintro H1 ⟨k1, st1, ms, eR, sub⟩
        rw [List.length_map, List.take_length] at sub
        have K1 : Keep p H H1 := kp.trans k1
        have nR0 : H R = none := kp.free st nR
        have dm1 : Doms H1 l ds := dm.keep k1 npl.symm apart
        refine' with_restA (fun S' H3 => ∃ ts : List Int, Keep p H H3 ∧ Strm H3 p ∧ Doms H3 l ds ∧ H3 S' = some (.lst (ts.map V.int)) ∧ H S' = none ∧ Srt ts ∧ ts.length ≤ max m 1 ∧ ts.length ≤ 100 ∧ ∀ v ∈ ts, v ∈ ns) ?r (fun rest => ⟨_, rfl, _, rfl, R, _, rfl, sl_map eR, fun S nS => ?k⟩)
        case' k =>
          have ec : cutV (ms.map V.int) none (some (m : Int)) = (ms.take m).map V.int := by rw [cutV_to, List.map_take]
          rw [ec]
          have sS := same_new (o := HO.lst ((ms.take m).map V.int)) nS
          have npS : p ≠ S := fun z => st1.some (z ▸ nS)
          have subS : (ms.take m).Sublist ns := (List.take_sublist m ms).trans sub
          have er2 : (upd H1 S (HO.lst ((ms.take m).map V.int))) pl = some (.lst (ns.map V.int)) := sS _ _ (k1 _ _ ppl.symm er)
          have eS0 := upd_same (H := H1) (a := S) (o := HO.lst ((ms.take m).map V.int))
          have stS := st1.upd (o := HO.lst ((ms.take m).map V.int)) npS
          have dmS := dm1.same sS
          have KS := K1.at_ (o := HO.lst ((ms.take m).map V.int)) (K1.free st1 nS)
          have nS0 : H S = none := K1.free st1 nS
          generalize upd H1 S (HO.lst ((ms.take m).map V.int)) = G1 at er2 eS0 stS dmS KS ⊢
          clear sS
          refine ⟨.ref S, rfl, S, _, rfl, .inl (sl_map eS0), rfl, _, rfl, ite2 (fun c => ?g) (fun c => rest S G1 ?h)⟩
          case h =>
            refine ⟨ms.take m, KS, stS, dmS, eS0, nS0, so.sub subS, ?_, ?_, fun v hv => subS.subset hv⟩
            · rw [List.length_take]; omega
            · have := subS.length_le; omega
          case g =>
            refine ⟨.ref pl, rfl, .ref p, rfl, .ref pl, rfl, pl, _, rfl, .inl (sl_map er2), p, _, rfl, stS, ?_, ?_, fun H2 e o2 st2 e0 e1 => ?_⟩
            · rw [List.length_map]; omega
            · rw [List.length_map]; omega
            rw [List.length_map] at e1
            obtain ⟨e, rfl⟩ : ∃ n : Nat, e = (n : Int) := ⟨e.toNat, by omega⟩
            have he : e < ns.length := by omega
            have ge : (ns.map V.int)[e]? = some (.int ns[e]) := by rw [List.getElem?_map, List.getElem?_eq_getElem he]; rfl
            have er3 : H2 pl = some (.lst (ns.map V.int)) := (o2 pl ppl.symm).trans er2
            have K2 : Keep p H H2 := KS.oth o2
            have dm2 : Doms H2 l ds := dmS.keep ((Keep.refl p _).oth o2) npl.symm apart
            refine ⟨pl, _, _, .int ns[e], rfl, rfl, sl_map er3, atI_nat (j := e) ge, by show 1 ≤ sizeLine; decide, fun Z nZ => rest Z _ ⟨[ns[e]], K2.at_ (K2.free st2 nZ), st2.upd (fun z => st2.some (z ▸ nZ)), dm2.same (same_new nZ), upd_same, K2.free st2 nZ, List.pairwise_singleton _ _, by show 1 ≤ max m 1; omega, by show 1 ≤ 100; omega, fun v hv => ?_⟩⟩
            rw [List.mem_singleton.mp hv]
            exact List.getElem_mem he
        case r =>
          rintro S' H3 ⟨ts, K3, st3, dm3, eS, nS', soT, l1, l2, mem⟩
          have npS' : p ≠ S' := fun z => hpn (z ▸ nS')
          refine ⟨.ref l, rfl, .inl ⟨rfl, _, sl_map dm3.lst⟩, .str x, rfl, .ref S', rfl, .ref S', rfl, S', _, rfl, .inl (sl_map eS), .ref p, rfl, p, 60, rfl, st3, by decide, by decide, fun H4 e o4 st4 e0 e1 => ?_⟩
          have eS4 : H4 S' = some (.lst (ts.map V.int)) := (o4 S' npS'.symm).trans eS
          have tail : ∀ (b : Bool), -(2 ^ 64) < (if b = true then (1 : Int) else 0) ∧ (if b = true then (1 : Int) else 0) < 2 ^ 64 := fun b => by cases b <;> decide
          refine ⟨rfl, .inr ⟨_, rfl, _, _, rfl, rfl, .inr (tail _), _, rfl, S', _, rfl, sl_map eS4, fun Z nZ => ?_⟩⟩
          generalize (!decide (V.int e = V.int 7)) = bit
          have ez : cutV (ts.map V.int) none (some (((ts.map V.int).length : Int) * (if bit = true then (1 : Int) else 0))) = ((if bit = true then ts else []).map V.int) := by
            cases bit with
            | true =>
              rw [if_pos rfl, if_pos rfl, Int.mul_one, cutV_to, List.take_length]
            | false =>
              rw [if_neg Bool.false_ne_true, if_neg Bool.false_ne_true, Int.mul_zero]
              exact cutV_to _ 0
          rw [ez]
          have hz : (if bit = true then ts else []).Sublist ts := by cases bit with
            | true => exact List.Sublist.refl _
            | false => exact List.nil_sublist _
          generalize (if bit = true then ts else []) = zs at hz
          have K4 := K3.oth o4
          have npZ : p ≠ Z := fun z => st4.some (z ▸ nZ)
          have sZ := same_new (o := HO.lst (zs.map V.int)) nZ
          have nZ0 : H Z = none := K4.free st4 nZ
          have dm4 : Doms H4 l ds := dm3.keep ((Keep.refl p _).oth o4) npl.symm apart
          refine ⟨by show 2 ≤ sizeLine; decide, fun T nT => ?_⟩
          have npT : p ≠ T := fun z => st4.some (z ▸ sZ.free nT)
          have sT := same_new (o := HO.tup [V.str x, V.ref Z]) nT
          have nT0 : H T = none := K4.free st4 (sZ.free nT)
          have nZl : Z ≠ l := fun z => by rw [z, dm4.lst] at nZ; cases nZ
          have dmT := (dm4.same sZ).same sT
          have hsub := hz.length_le
          have newZ : Z ∉ ds.map (·.2.2.1) := fun z => by
            obtain ⟨d, hd, e⟩ := List.mem_map.mp z
            have e' : d.2.2.1 = Z := e
            have := dm4.side d hd
            rw [e', nZ] at this
            cases this
          refine ⟨l, _, _, rfl, rfl, dmT.lst, ?_, ds ++ [(T, x, Z, zs)], _, _, rfl, ((K4.at_ nZ0).at_ nT0).at_ nl0, ((st4.upd npZ).upd npT).upd npl, dmT.snoc upd_same (sT _ _ upd_same) nZl, ?_, fun d hd => ?_, ?_⟩
          · rw [List.length_map]
            exact small1000 (by omega)
          · rw [List.map_append, keys, List.take_add_one, hv]
            rfl
          · rcases List.mem_append.mp hd with h | h
            · exact ok d h
            · rw [List.mem_singleton.mp h]
              exact ⟨soT.sub hz, Nat.le_trans hsub l1, nT0, nZ0, fun v hv => mem v (hz.subset hv)⟩
          · rw [List.map_append]
            exact nd_snoc inj newZ
    · rintro σ H' ⟨ds, y5, y6, rfl, kp, st, dm, keys, ok, inj⟩
      rw [List.length_map, List.take_length] at keys
      exact ⟨_, rfl, q H' l ds kp nl0 st dm keys ok inj⟩
end
end K56
set_option Elab.async false
set_option linter.all false
set_option maxRecDepth 100000
set_option maxHeartbeats 4000000
/-! Exceptions of own classes with fields: made, raised while a dict is walked, caught, asked for their class. -/
namespace CsX
open PySem PySem.Spec PyProof.Rows L2
/-- a block that is not reached -/
theorem pss_any {X : Cx} {l : List Stmt} : PSs X l (fun _ _ _ => False) := ⟨fun _ _ _ _ _ _ h => h.elim⟩
/-- a raise while the thing at d is locked -/
theorem Takes.lock {X : Cx} {W : WX} {d : Addr} (tk : Takes X W) (hn : ∀ o' u', X.H_0 d ≠ some (.frz o' u')) : Takes X (fun cls dd σ H => ∃ od u, H d = some (.frz od u) ∧ W cls dd σ (upd H d u)) :=
  fun u s' ⟨a, B, sI, pins, σ, H, cls, dd, e, I, nb, up, sky, na, os, ag, od, uu, hd, w⟩ =>
    tk u s' ⟨a, B, sI, pins, σ, upd H d uu, cls, dd, e, I.unlock hd hn, nb, up, sky, (by rw [upd_ne (fun z => by rw [z, hd] at na; cases na)]; exact na), os, ag, w⟩
end CsX
set_option Elab.async false
set_option linter.all false
set_option maxRecDepth 100000
set_option maxHeartbeats 4000000
namespace K56
open PySem PySem.Spec PyProof.Rows L2 Cs CsX
/-! ### facts of the heap, for grind; small helpers -/
@[grind =] theorem g_upd (H : Hp) (a b : Addr) (o : HO) : upd H a o b = if b = a then some o else H b := rfl
@[grind =] theorem g_same (H H' : Hp) : Same H H' ↔ (∀ a o, H a = some o → H' a = some o) ∧ ∀ a, H' a = none → H a = none := ⟨fun s => ⟨s, fun a h => s.free h⟩, fun h => h.1⟩
@[grind =] theorem g_keep (p : Addr) (H H' : Hp) : Keep p H H' ↔ (∀ a o, a ≠ p → H a = some o → H' a = some o) ∧ ∀ a, a ≠ p → H' a = none → H a = none := ⟨fun s => ⟨s, fun a hp h => by
  cases c : H a with
  | none => rfl
  | some o => rw [s a o hp c] at h; cases h⟩, fun h => h.1⟩
@[grind =] theorem g_oth (p : Addr) (H H' : Hp) : Oth p H H' ↔ ∀ a, a ≠ p → H' a = H a := Iff.rfl
@[grind =] theorem g_strm (H : Hp) (p : Addr) : Strm H p ↔ ∃ x y z : Int, H p = some (.lst [.int x, .int y, .int z]) := Iff.rfl
theorem g_new {H : Hp} {q : Addr} {o : HO} (n : H q = none) : Same H (upd H q o) := same_new n
grind_pattern g_new => upd H q o
@[grind =] theorem g_keepL (as : List Addr) (H H' : Hp) : KeepL as H H' ↔ ∀ b o, b ∉ as → H b = some o → H' b = some o := Iff.rfl
theorem ite_both {A B : Prop} {c : Bool} (h1 : c = true → A) (h2 : c = false → B) : if c = true then A else B := by
  cases c with
  | true => rw [if_pos rfl]; exact h1 rfl
  | false => rw [if_neg (by decide)]; exact h2 rfl
theorem at_int {xs : List V} {i : Int} {v : V} (h0 : 0 ≤ i) (h : xs[i.toNat]? = some v) : atI xs i = some v := by
  have := atI_nat h
  rw [show ((i.toNat : Nat) : Int) = i by omega] at this
  exact this
theorem at_eq {xs : List V} {i : Int} {j : Nat} {v : V} (h : i = (j : Int)) (hx : xs[j]? = some v) : atI xs i = some v := by
  rw [h]; exact atI_nat hx
theorem at_in {ns : List Int} {d : Int} (h0 : 0 ≤ d) (h1 : d < (ns.length : Nat)) : ∃ v ∈ ns, atI (ns.map V.int) d = some (.int v) := by
  have h : d.toNat < ns.length := by omega
  exact ⟨ns[d.toNat], List.getElem_mem h, at_int h0 (by rw [List.getElem?_map, List.getElem?_eq_getElem h] <;> rfl)⟩
theorem at_inS {ns : List Str} {d : Int} (h0 : 0 ≤ d) (h1 : d < (ns.length : Nat)) : ∃ v ∈ ns, atI (ns.map V.str) d = some (.str v) := by
  have h : d.toNat < ns.length := by omega
  exact ⟨ns[d.toNat], List.getElem_mem h, at_int h0 (by rw [List.getElem?_map, List.getElem?_eq_getElem h] <;> rfl)⟩
theorem with_restS {R : L2.St → Hp → Prop} {G : Prop} (C : L2.St → Hp → Prop) (r : ∀ σ H, C σ H → R σ H) (g : (∀ σ H, C σ H → R σ H) → G) : G := g r
theorem nd_ix {α : Type} {l : List α} (nd : l.Nodup) {i j : Nat} {x : α} (hi : l[i]? = some x) (hj : l[j]? = some x) : i = j :=
  (List.getElem?_inj (List.getElem?_eq_some_iff.mp hi).1 nd).mp (hi.trans hj.symm)
theorem not_take {α : Type} {l : List α} (nd : l.Nodup) {i : Nat} {x : α} (hi : l[i]? = some x) : x ∉ l.take i := fun z => by
  obtain ⟨j, hj⟩ := List.mem_iff_getElem?.mp z
  rw [List.getElem?_take] at hj
  split at hj
  · next c => exact absurd (nd_ix nd hj hi) (by omega)
  · cases hj
theorem filter_snoc {α : Type} {s : List α} {j : Nat} {v : α} {p : α → Bool} (h : s[j]? = some v) : (s.take (j + 1)).filter p = (s.take j).filter p ++ (if p v = true then [v] else []) := by
  rw [List.take_add_one, h, List.filter_append]
  congr 1
  show List.filter p [v] = _
  rw [List.filter_cons] <;> rfl
theorem filter_len {α : Type} (s : List α) (p : α → Bool) (j : Nat) : ((s.take j).filter p).length ≤ s.length := by
  have h1 := List.length_filter_le p (s.take j)
  rw [List.length_take] at h1
  omega
theorem take_snoc {α : Type} {s : List α} {j : Nat} {v : α} (h : s[j]? = some v) : s.take (j + 1) = s.take j ++ [v] := by
  rw [List.take_add_one, h] <;> rfl
theorem in_strs (ks : List Str) (v : Str) : inV (.str v) (ks.map V.str) = decide (v ∈ ks) := by
  unfold inV
  induction ks with
  | nil => simp
  | cons k ks ih =>
    rw [List.map_cons, List.any_cons, ih]
    have e : eqV (.str k) (.str v) = decide (k = v) := by
      by_cases c : k = v
      · subst c; simp [eqV]
      · simp [eqV, c]
    rw [e]
    by_cases c : k = v
    · subst c; simp
    · have : ¬ v = k := fun z => c z.symm
      simp [c, this]
theorem flats_str (xs : List Str) : (xs.map V.str).all flatV = true := by
  rw [List.all_eq_true]
  intro v hv
  obtain ⟨x, _, rfl⟩ := List.mem_map.mp hv
  rfl
/-! ### dicts of values -/
def putA (A : List (Str × Int)) (x : Str) (v : Int) : List (Str × Int) := if (A.any fun e => decide (e.1 = x)) = true then A.map (fun e => if e.1 = x then (x, v) else e) else A ++ [(x, v)]
theorem any_int (A : List (Str × Int)) (x : Str) : ((intK A).any fun kv => decide (kv.1 = Sum.inr x)) = A.any fun e => decide (e.1 = x) := by
  unfold intK
  rw [List.any_map]
  congr 1
  funext e
  simp
theorem putK_int (A : List (Str × Int)) (x : Str) (v : Int) : putK (intK A) (.inr x) (V.int v) = intK (putA A x v) := by
  unfold putK putA
  rw [any_int]
  by_cases h : (A.any fun e => decide (e.1 = x)) = true
  · rw [if_pos h, if_pos h]
    unfold intK
    rw [List.map_map, List.map_map]
    congr 1
    funext e
    by_cases z : e.1 = x
    · simp [z]
    · simp [z]
  · rw [if_neg h, if_neg h]
    unfold intK
    rw [List.map_append]
    rfl
theorem anyA {A : List (Str × Int)} {x : Str} : (A.any fun e => decide (e.1 = x)) = true ↔ x ∈ A.map (·.1) := by
  rw [List.any_eq_true, List.mem_map]
  constructor
  · rintro ⟨e, he, h⟩; exact ⟨e, he, of_decide_eq_true h⟩
  · rintro ⟨e, he, h⟩; exact ⟨e, he, decide_eq_true h⟩
theorem putA_new {A : List (Str × Int)} {x : Str} {v : Int} (h : x ∉ A.map (·.1)) : putA A x v = A ++ [(x, v)] := if_neg fun z => h (anyA.mp z)
theorem putA_keys {A : List (Str × Int)} {x : Str} {v : Int} (h : x ∈ A.map (·.1)) : (putA A x v).map (·.1) = A.map (·.1) := by
  unfold putA
  rw [if_pos (anyA.mpr h), List.map_map]
  refine List.map_congr_left fun e _ => ?_
  show (if e.1 = x then (x, v) else e).1 = e.1
  split
  · next z => exact z.symm
  · rfl
theorem aget_cons (e : Str × Int) (A : List (Str × Int)) (y : Str) : aget (e :: A) y = if e.1 = y then some e.2 else aget A y := by
  unfold aget
  rw [List.find?_cons]
  by_cases h : e.1 = y
  · simp [h]
  · simp [h]
theorem aget_app {A : List (Str × Int)} {x : Str} {v : Int} (h : x ∉ A.map (·.1)) (y : Str) : aget (A ++ [(x, v)]) y = if x = y then some v else aget A y := by
  induction A with
  | nil => rw [List.nil_append, aget_cons] <;> rfl
  | cons e A ih =>
    rw [List.cons_append, aget_cons, aget_cons, ih fun z => h (List.mem_cons_of_mem _ z)]
    by_cases c : e.1 = y
    · rw [if_pos c, if_pos c]
      by_cases d : x = y
      · exact absurd (by rw [d, ← c]; exact List.mem_cons_self) h
      · rw [if_neg d]
    · rw [if_neg c, if_neg c]
theorem aget_rep (x : Str) (v : Int) (y : Str) : ∀ A : List (Str × Int), aget (A.map fun e => if e.1 = x then (x, v) else e) y = if x = y then (if x ∈ A.map (·.1) then some v else none) else aget A y
  | [] => by split <;> rfl
  | e :: A => by
    rw [List.map_cons, aget_cons, aget_cons, aget_rep x v y A]
    by_cases c : e.1 = x
    · rw [if_pos c]
      by_cases d : x = y
      · rw [if_pos d, if_pos d, if_pos (by rw [List.map_cons, c]; exact List.mem_cons_self)]
      · have h1 : ¬ e.1 = y := fun z => d (c.symm.trans z)
        simp [d, h1]
    · rw [if_neg c]
      by_cases d : x = y
      · have h1 : ¬ e.1 = y := fun z => c (z.trans d.symm)
        rw [if_neg h1, if_pos d, if_pos d]
        have : x ∈ (e :: A).map (·.1) ↔ x ∈ A.map (·.1) := by
          rw [List.map_cons, List.mem_cons]
          exact ⟨fun h => h.elim (fun z => absurd z.symm c) id, .inr⟩
        by_cases m : x ∈ A.map (·.1)
        · rw [if_pos m, if_pos (this.mpr m)]
        · rw [if_neg m, if_neg fun z => m (this.mp z)]
      · rw [if_neg d, if_neg d]
theorem aget_put {A : List (Str × Int)} {x : Str} {v : Int} (y : Str) : aget (putA A x v) y = if x = y then some v else aget A y := by
  by_cases h : x ∈ A.map (·.1)
  · unfold putA
    rw [if_pos (anyA.mpr h), aget_rep, if_pos h]
  · rw [putA_new h, aget_app h]
theorem aget_mem {A : List (Str × Int)} {x : Str} : (aget A x).isSome = true ↔ x ∈ A.map (·.1) := by
  induction A with
  | nil => simp [aget]
  | cons e A ih =>
    rw [aget_cons, List.map_cons, List.mem_cons, ← ih]
    by_cases c : e.1 = x
    · rw [if_pos c]; simp [c]
    · rw [if_neg c]; simp [Ne.symm c]
/-- a dict of values -/
structure Vd (H : Hp) (d : Addr) (A : List (Str × Int)) : Prop where
  un : H d = some (.dK (intK A))
  nd : (A.map (·.1)).Nodup
  few : A.length ≤ 40
theorem Vd.same {H H' : Hp} {d : Addr} {A : List (Str × Int)} (B : Vd H d A) (s : Same H H') : Vd H' d A := ⟨s _ _ B.un, B.nd, B.few⟩
theorem Vd.ax {H : Hp} {d : Addr} {A : List (Str × Int)} (B : Vd H d A) : Ax H d A := ⟨.inl B.un⟩
theorem intK_len (A : List (Str × Int)) : (intK A).length = A.length := by unfold intK; rw [List.length_map]
theorem aget_iff {A : List (Str × Int)} (nd : (A.map (·.1)).Nodup) (x : Str) (v : Int) : aget A x = some v ↔ (x, v) ∈ A := by
  induction A with
  | nil => simp [aget]
  | cons e A ih =>
    obtain ⟨n1, n2⟩ := List.nodup_cons.mp nd
    rw [aget_cons, List.mem_cons]
    by_cases c : e.1 = x
    · rw [if_pos c]
      constructor
      · intro h
        left
        have := Option.some.inj h
        rw [← c, ← this]
      · rintro (h | h)
        · rw [← h]
        · rw [← c] at h
          exact absurd (List.mem_map_of_mem (f := fun e : Str × Int => e.1) h) n1
    · rw [if_neg c, ih n2]
      constructor
      · exact .inr
      · rintro (h | h)
        · exact absurd (congrArg Prod.fst h).symm c
        · exact h
def SameA (L M : List (Str × Int)) : Prop := ∀ x, aget L x = aget M x
theorem SameA.keys {L M : List (Str × Int)} (s : SameA L M) {x : Str} (h : x ∈ L.map (·.1)) : x ∈ M.map (·.1) := by
  rw [← aget_mem] at h ⊢
  rw [← s x]
  exact h
theorem SameA.len {L M : List (Str × Int)} (s : SameA L M) (n1 : (L.map (·.1)).Nodup) (n2 : (M.map (·.1)).Nodup) : L.length = M.length := by
  have h1 := List.Nodup.length_le_of_subset n1 fun x hx => s.keys hx
  have h2 := List.Nodup.length_le_of_subset n2 fun x hx => SameA.keys (fun y => (s y).symm) hx
  rw [List.length_map, List.length_map] at h1 h2
  omega
theorem keysI {L : List (Str × Int)} {i : Nat} {k : Key} {v : V} (h : (intK L)[i]? = some (k, v)) : ∃ e, L[i]? = some e ∧ k = .inr e.1 ∧ v = .int e.2 := by
  unfold intK at h
  rw [List.getElem?_map] at h
  obtain ⟨e, he, q⟩ := Option.map_eq_some_iff.mp h
  exact ⟨e, he, (Prod.mk.inj q).1.symm, (Prod.mk.inj q).2.symm⟩
theorem all_repl (n : Nat) : (List.replicate n true).all id = true := by simp
end K56
set_option Elab.async false
set_option linter.all false
set_option maxRecDepth 100000
set_option maxHeartbeats 4000000
/-! == of two tuples that are equal, deep. -/
namespace Cs
open PySem PySem.Spec PyProof.Rows L2
end Cs
set_option Elab.async false
set_option linter.all false
set_option maxRecDepth 100000
set_option maxHeartbeats 4000000
/-! name = {k: v for ..} as a statement. -/
namespace Cs
open PySem PySem.Spec PyProof.Rows L2
section
variable {X : Cx}
theorem ps_setDc {i : Nat} {y : Str} {py : Pos} {kx vx tg it : Expr} {cs : List Expr} {scope : Scope} {own : List (PySem.Str × Nat)} {pos spos : Pos} {wi : TI} {g : TG} {tt : TT} {tk tv : TE} (hc : X.calm = true) (hN : X.N.Nodup) (hy : X.N[i]? = some y) (hyl : X.env.scope.names.lookup y = some .local)
    (hsw : swapsWith (.DictComp kx vx [⟨tg, it, cs, 0⟩] scope pos) (some (.Name y py)) spos.line X.env = pure true) (hi : PI X tg it wi) (ok : BlkOk X.N X.env.scope scope own)
    (hg : ∀ (s : Shared) (H : Hp) (C : Addr) (cl : List (PySem.Str × Addr)) (fp : List Addr), PG (X.blk s H scope (compEnvC scope cl C X.env) fp) tg g)
    (ht : ∀ (s : Shared) (H : Hp) (C : Addr) (cl : List (PySem.Str × Addr)) (fp : List Addr), PTs (X.blk s H scope (compEnvC scope cl C X.env) fp) cs tt)
    (hk : ∀ (s : Shared) (H : Hp) (C : Addr) (cl : List (PySem.Str × Addr)) (fp : List Addr), PE (X.blk s H scope (compEnvC scope cl C X.env) fp) kx tk)
    (he : ∀ (s : Shared) (H : Hp) (C : Addr) (cl : List (PySem.Str × Addr)) (fp : List Addr), PE (X.blk s H scope (compEnvC scope cl C X.env) fp) vx tv)
    (hs : ∀ x, foldedSetIterable it X.env x = pure x := by intro _; rfl) :
    PS X (.Assign [.Name y py] (.DictComp kx vx [⟨tg, it, cs, 0⟩] scope pos) spos) (tAsg (tDc wi g tt tk tv (own.map (·.2))) (gName i)) := by
  refine ⟨fun pins s σ H D I h => ?_⟩
  rw [exec_Assign_Name_used _ _ _ _ hsw]
  refine wpAny_bind (wpAny_standAt (wpAny_bind ?_))
  have h : tDc wi g tt tk tv (own.map (·.2)) σ H (fun x H1 => gName i x σ H1 D.nx) := h
  refine wpAny_bind (thn (dc_core (Qf := fun _ s' => SP X pins D .next s') hc hN I hi ok hg ht hk he hs h fun L C s' m H' I' q hn f => ?_) fun _ s' hq => wpAny_pure (wpAny_pure hq))
  obtain ⟨f0, f1, f2, f3, f4, f5⟩ := f
  show wpAny _ _ (assign (.Name y py) X.env (.ref L)) _ _ _
  refine wpAny_assign_Name (store_ok2 (v := V.ref L) I' hN hy (.inl hyl) rfl (fun s2 I2 ⟨a, sb, ha⟩ => ?_) (.inr hyl))
  have apart : C ≠ a := ha.elim (fun z => z ▸ f1) fun z e => f4 y a z e.symm
  exact ⟨m, hn.sameBut sb apart, fun h3 sb3 => ⟨_, H', I2.turned (t' := s2.toks) (fun b o hb e => (sb3.2 b hb).trans e) f0 f1 f3 f4 f5, q⟩⟩
end
end Cs
set_option Elab.async false
set_option linter.all false
set_option maxRecDepth 100000
set_option maxHeartbeats 4000000
/-! Twins: two values that are equal all the way down, through lists, dicts and tuples; == and != of them. -/
namespace Cs
open PySem PySem.Spec PyProof.Rows L2
/-- twins, of nesting below n; all that they are made of stands at addresses F -/
def Twn (F : Addr → Prop) (H : Hp) : Nat → V → V → Prop
  | 0 => fun _ _ => False
  | n + 1 => fun x y => (x = y ∧ flatB x = true) ∨ (∃ a, x = .ref a ∧ y = .ref a) ∨
      (∃ a b xs ys, x = .ref a ∧ y = .ref b ∧ F a ∧ F b ∧ H a = some (.lst xs) ∧ H b = some (.lst ys) ∧ Paired (Twn F H n) xs ys) ∨
      (∃ a b ks ls, x = .ref a ∧ y = .ref b ∧ F a ∧ F b ∧ H a = some (.dK ks) ∧ H b = some (.dK ls) ∧ ks.length = ls.length ∧ ∀ p ∈ ks, ∃ u, valV ls p.1 = some u ∧ Twn F H n p.2 u) ∨
      (∃ a b xs ys, x = .ref a ∧ y = .ref b ∧ F a ∧ F b ∧ H a = some (.tup xs) ∧ H b = some (.tup ys) ∧ Paired (Twn F H n) xs ys)
theorem paired_imp {α β : Type} {F G : α → β → Prop} (h : ∀ x y, F x y → G x y) {xs : List α} {ys : List β} (p : Paired F xs ys) : Paired G xs ys := by
  induction p with
  | nil => exact .nil
  | cons a _ ih => exact .cons (h _ _ a) ih
theorem Twn.imp {F G : Addr → Prop} {H H' : Hp} (f : ∀ a, F a → G a) (s : ∀ a o, F a → H a = some o → H' a = some o) : ∀ {n m : Nat} {x y : V}, n ≤ m → Twn F H n x y → Twn G H' m x y
  | 0, _, _, _, _, h => (show False from h).elim
  | n + 1, 0, _, _, l, _ => absurd l (by omega)
  | n + 1, m + 1, x, y, l, h => by
    have up : ∀ x y, Twn F H n x y → Twn G H' m x y := fun x y h => Twn.imp f s (by omega) h
    rcases h with h | h | ⟨a, b, xs, ys, e1, e2, fa, fb, ha, hb, p⟩ | ⟨a, b, ks, ls, e1, e2, fa, fb, ha, hb, hl, p⟩ | ⟨a, b, xs, ys, e1, e2, fa, fb, ha, hb, p⟩
    · exact .inl h
    · exact .inr (.inl h)
    · exact .inr (.inr (.inl ⟨a, b, xs, ys, e1, e2, f a fa, f b fb, s _ _ fa ha, s _ _ fb hb, paired_imp up p⟩))
    · exact .inr (.inr (.inr (.inl ⟨a, b, ks, ls, e1, e2, f a fa, f b fb, s _ _ fa ha, s _ _ fb hb, hl, fun q hq => let ⟨u, z, t⟩ := p q hq; ⟨u, z, up _ _ t⟩⟩)))
    · exact .inr (.inr (.inr (.inr ⟨a, b, xs, ys, e1, e2, f a fa, f b fb, s _ _ fa ha, s _ _ fb hb, paired_imp up p⟩)))
theorem Twn.same {F : Addr → Prop} {H H' : Hp} {n : Nat} {x y : V} (t : Twn F H n x y) (s : Same H H') : Twn F H' n x y := t.imp (fun _ h => h) (fun a o _ e => s a o e) (Nat.le_refl n)
theorem Twn.up {F : Addr → Prop} {H : Hp} {n m : Nat} {x y : V} (t : Twn F H n x y) (l : n ≤ m) : Twn F H m x y := t.imp (fun _ h => h) (fun _ _ _ e => e) l
theorem Twn.upd {F : Addr → Prop} {H : Hp} {n : Nat} {x y : V} {b : Addr} {u : HO} (t : Twn F H n x y) (h : ¬ F b) : Twn F (upd H b u) n x y := t.imp (fun _ h => h) (fun a o fa e => by rw [upd_ne (fun z : a = b => h (by rw [← z]; exact fa))]; exact e) (Nat.le_refl n)
theorem Twn.list {F : Addr → Prop} {H : Hp} {n : Nat} {a b : Addr} {xs ys : List V} (fa : F a) (fb : F b) (ha : H a = some (.lst xs)) (hb : H b = some (.lst ys)) (p : Paired (Twn F H n) xs ys) : Twn F H (n + 1) (.ref a) (.ref b) := .inr (.inr (.inl ⟨a, b, xs, ys, rfl, rfl, fa, fb, ha, hb, p⟩))
theorem Twn.tup {F : Addr → Prop} {H : Hp} {n : Nat} {a b : Addr} {xs ys : List V} (fa : F a) (fb : F b) (ha : H a = some (.tup xs)) (hb : H b = some (.tup ys)) (p : Paired (Twn F H n) xs ys) : Twn F H (n + 1) (.ref a) (.ref b) := .inr (.inr (.inr (.inr ⟨a, b, xs, ys, rfl, rfl, fa, fb, ha, hb, p⟩)))
theorem Twn.dict {F : Addr → Prop} {H : Hp} {n : Nat} {a b : Addr} {ks ls : List (Key × V)} (fa : F a) (fb : F b) (ha : H a = some (.dK ks)) (hb : H b = some (.dK ls)) (hl : ks.length = ls.length) (p : ∀ p ∈ ks, ∃ u, valV ls p.1 = some u ∧ Twn F H n p.2 u) : Twn F H (n + 1) (.ref a) (.ref b) := .inr (.inr (.inr (.inl ⟨a, b, ks, ls, rfl, rfl, fa, fb, ha, hb, hl, p⟩)))
end Cs
set_option Elab.async false
set_option linter.all false
set_option maxRecDepth 100000
set_option maxHeartbeats 4000000
/-! for i, x in enumerate(t), t a tuple. -/
namespace Cs
open PySem PySem.Spec PyProof.Rows L2
open AutoSeq1 (wpAny_loadPart')
section
variable {prog : Program} {w : World} {A : Around} {E : Value → Shared → Prop} {s : Shared}
/-- one turn of enumerate, whatever it walks over: In says how the inner iterator stands behind it -/
theorem enum_turn {e it : Addr} {i : Nat} {x old : Value} {In : Heap → Prop} {Q : Value → Shared → Prop} (he : IsEnum s.heap e it i old) (ne : e ≠ it)
    (ext : ∀ {h h' : Heap} {b : Addr}, b ≠ it → Heap.ExtBut b h h' → In h → In h') (new : ∀ {h : Heap} {o : Obj}, In h → In (h.push o))
    (inner : ∀ R : Value → Shared → Prop, (∀ h', In h' → Heap.SameBut it s.heap h' → R x { s with heap := h' }) → wpAny (model prog w) A (Builtin.SmallTypes.nextOf (.ref it)) R E s)
    (hQ : ∀ h', IsEnumOut h' e it ((i : Int) + 1) x s.heap.objs.size → In h' → h'.get? s.heap.objs.size = some { cls := .type "tuple", data := .seq #[.int i s.toks, x] } →
      (∀ b o, b ≠ e → b ≠ it → s.heap.get? b = some o → h'.get? b = some o) → Q (.ref s.heap.objs.size) { s with heap := h', toks := s.toks + 1 }) :
    wpAny (model prog w) A (Builtin.«enumerate.__next__» ⟨[.ref e], []⟩) (fun fin s' => ∃ v, fin = .done (.ret v) ∧ Q v s') E s := by
  obtain ⟨hp, g, d, tk, os⟩ := s
  have low : e < hp.objs.size := Heap.lt_size he
  show wpAny _ _ (field (.ref e) 2 >>= _) _ _ _
  refine wpAny_bind (wpAny_field he rfl (x := .ref it) rfl (wpAny_bind (inner _ fun h1 in1 only1 => ?_)))
  replace only1 : Heap.SameBut it hp h1 := only1
  have he1 : IsEnum h1 e it i old := (only1.2 e ne).trans he
  show wpAny _ _ (field (.ref e) 3 >>= _) _ _ ⟨h1, g, d, tk, os⟩
  refine wpAny_bind (wpAny_field he1 rfl (x := rawInt i) rfl ?_)
  show wpAny _ _ (field (.ref e) 4 >>= _) _ _ ⟨h1, g, d, tk, os⟩
  refine wpAny_bind (wpAny_field he1 rfl (x := .none) rfl ?_)
  show wpAny _ _ (mkInt i >>= _) _ _ ⟨h1, g, d, tk, os⟩
  refine wpAny_bind (wpAny_mkInt ?_)
  show wpAny _ _ (setField (.ref e) 3 (rawInt ((i : Int) + 1)) >>= _) _ _ ⟨h1, g, d, tk + 1, os⟩
  refine wpAny_bind (wpAny_setField_rec he1 (by simp) fun h2 he2 only2 => ?_)
  replace he2 : IsEnum h2 e it ((i : Int) + 1) old := he2
  replace only2 : Heap.SameBut e h1 h2 := only2
  show wpAny _ _ (setField (.ref e) 4 .none >>= _) _ _ ⟨h2, g, d, tk + 1, os⟩
  refine wpAny_bind (wpAny_setField_rec he2 (by simp) fun h3 he3 only3 => ?_)
  replace he3 : IsEnum h3 e it ((i : Int) + 1) old := he3
  replace only3 : Heap.SameBut e h2 h3 := only3
  have size3 : h3.objs.size = hp.objs.size := by rw [only3.1, only2.1, only1.1]
  have in3 : In h3 := ext ne only3.extBut (ext ne only2.extBut in1)
  have old3 : ∀ b o, b ≠ e → b ≠ it → hp.get? b = some o → h3.get? b = some o := fun b o hbe hbi hb => only3.extBut b o hbe (only2.extBut b o hbe (only1.extBut b o hbi hb))
  show wpAny _ _ (newTuple [.int i tk, x] >>= _) _ _ ⟨h3, g, d, tk + 1, os⟩
  refine wpAny_bind (wpAny_newTuple ?_)
  generalize e4 : h3.push { cls := .type "tuple", data := .seq #[.int i tk, x] } = h4
  have he4 : IsEnum h4 e it ((i : Int) + 1) old := by rw [← e4]; exact Heap.get?_push_of_some _ he3
  have in4 : In h4 := by rw [← e4]; exact new in3
  have at4 : h4.get? hp.objs.size = some { cls := .type "tuple", data := .seq #[.int i tk, x] } := by rw [← e4, ← size3]; exact Heap.get?_push_size _ rfl
  have old4 : ∀ b o, b ≠ e → b ≠ it → hp.get? b = some o → h4.get? b = some o := fun b o hbe hbi hb => by rw [← e4]; exact Heap.get?_push_of_some _ (old3 b o hbe hbi hb)
  show wpAny _ _ (Builtin.SmallTypes.ownedTupleIsFree (.ref e) >>= _) _ _ ⟨h4, g, d, tk + 1, os⟩
  rw [size3]
  refine wpAny_bind ?_
  unfold Builtin.SmallTypes.ownedTupleIsFree
  refine wpAny_bind (wpAny_field he4 rfl (x := .none) rfl (wpAny_pure ?_))
  simp only [if_true]
  refine wpAny_bind (wpAny_rule (wpAny_bind (wpAny_field he4 rfl (x := old) rfl (wpAny_bind (wpAny_setField_rec he4 (by simp) fun h5 he5 only5 => ?_)))))
  replace he5 : IsEnum h5 e it ((i : Int) + 1) x := he5
  replace only5 : Heap.SameBut e h4 h5 := only5
  show wpAny _ _ (Builtin.SmallTypes.ownedTupleHandOut (.ref e) (.ref hp.objs.size) >>= _) _ _ ⟨h5, g, d, tk + 1, os⟩
  refine wpAny_bind ?_
  unfold Builtin.SmallTypes.ownedTupleHandOut
  refine wpAny_bind (wpAny_setField_rec he5 (by simp) fun h6 he6 only6 => ?_)
  replace he6 : IsEnumOut h6 e it ((i : Int) + 1) x hp.objs.size := he6
  replace only6 : Heap.SameBut e h5 h6 := only6
  refine wpAny_setField_rec he6 (by simp) fun h7 he7 only7 => ?_
  replace he7 : IsEnumOut h7 e it ((i : Int) + 1) x hp.objs.size := he7
  replace only7 : Heap.SameBut e h6 h7 := only7
  have keep : ∀ b o, b ≠ e → h4.get? b = some o → h7.get? b = some o := fun b o hb q => only7.extBut b o hb (only6.extBut b o hb (only5.extBut b o hb q))
  exact wpAny_bind (wpAny_letGo (wpAny_pure ⟨_, rfl, hQ h7 he7 (ext ne only7.extBut (ext ne only6.extBut (ext ne only5.extBut in4))) (keep _ _ (Nat.ne_of_gt low) at4) fun b o hbe hbi hb => keep b o hbe (old4 b o hbe hbi hb)⟩))
theorem enumT_item {e it l : Addr} {i : Nat} {items : Array Value} {x old : Value} {Q : Option Value → Shared → Prop}
    (he : IsEnum s.heap e it i old) (hit : s.heap.IsTupleIter it l i) (hl : s.heap.IsTuple l items) (hx : items[i]? = some x) (ne : e ≠ it)
    (hQ : ∀ h', IsEnumOut h' e it ((i : Int) + 1) x s.heap.objs.size → h'.IsTupleIter it l (i + 1) → h'.get? s.heap.objs.size = some { cls := .type "tuple", data := .seq #[.int i s.toks, x] } →
      (∀ b o, b ≠ e → b ≠ it → s.heap.get? b = some o → h'.get? b = some o) → Q (some (.ref s.heap.objs.size)) { s with heap := h', toks := s.toks + 1 }) :
    wpAny (model prog w) A (pyNext (.ref e)) Q E s := by
  have hT : s.TypeIs (.ref e) "enumerate" := ⟨_, he, rfl⟩
  unfold pyNext
  refine wpAny_bind (wpAny_attempt (wpAny_callSpecial?_slot (name := Str.ofString "__next__") hT F.slot_enumerate_next (wpAny_call_entry F.slot_enumerate_next hT F.entry_enumerate_next ?_ (F.args_enumerate_next_1 _))))
  exact enum_turn (In := fun h => h.IsTupleIter it l (i + 1)) he ne (fun {h h' b} hb k q => q.extBut k hb.symm) (fun {h o} q => let ⟨a, b, c⟩ := q; ⟨a, Heap.get?_push_of_some _ b, c⟩)
    (fun R hR => RZ.nextOf_tuple_item hit hl hx fun h' a b => hR h' a b) fun h' a b c k => wpAny_pure (hQ h' a b c k)
theorem enumT_end {e it l : Addr} {i : Nat} {items : Array Value} {old : Value} {Q : Option Value → Shared → Prop} (hh : A.handled = none)
    (he : IsEnum s.heap e it i old) (hit : s.heap.IsTupleIter it l i) (hl : s.heap.IsTuple l items) (hx : items[i]? = none)
    (hQ : ∀ h', Heap.ExtBut it s.heap h' → Q none { s with heap := h' }) : wpAny (model prog w) A (pyNext (.ref e)) Q E s := by
  have hT : s.TypeIs (.ref e) "enumerate" := ⟨_, he, rfl⟩
  unfold pyNext
  refine wpAny_bind (wpAny_attempt (wpAny_callSpecial?_slot (name := Str.ofString "__next__") hT F.slot_enumerate_next
    (wpAny_call_entry F.slot_enumerate_next hT F.entry_enumerate_next ?_ (F.args_enumerate_next_1 _))))
  show wpAny _ _ (field (.ref e) 2 >>= _) _ _ _
  refine wpAny_bind (wpAny_field he rfl (x := .ref it) rfl ?_)
  refine wpAny_bind (RZ.nextOf_tuple_end hh hit hl hx fun h' x k hx' => ?_)
  obtain ⟨o, ho, hc⟩ := hx'
  exact wpAny_bind (wpAny_isInstance (T := "StopIteration") (b := true) ⟨o, ho, hc⟩ isSubtype_stop (wpAny_pure (hQ _ k)))
theorem meets_enumT (l : Addr) (items : Array Value) (n : Nat) (dct : Option Addr) (sl : Array (Option Value)) :
    Meets (Builtin.«enumerate.__new__» ⟨[.type "enumerate", .ref l], []⟩) (fun _ R s => s.heap.get? l = some { cls := .type "tuple", dict := dct, data := .seq items n, slots := sl } ∧
      R (.ok (.ret (.ref (s.heap.push { cls := .type "tuple_iterator", data := .fields #[.ref l, .int 0 0] }).objs.size)))
        { s with heap := (s.heap.push { cls := .type "tuple_iterator", data := .fields #[.ref l, .int 0 0] }).push { cls := .type "enumerate", data := .fields #[.none, .bool false, .ref s.heap.objs.size, rawInt 0, .none, .none] } }) :=
  .of_wp fun prog w A R s h => by
    obtain ⟨hp, g, d, tk, os⟩ := s
    obtain ⟨hl, h⟩ := h
    have sub := sub_enumerate
    have hL : Heap.IsTuple (Shared.heap ⟨hp, g, d, tk, os⟩) l items := ⟨_, hl, rfl, n, rfl⟩
    wp_walk using wpAny_loadPart' hl
    refine wpAny_stack_any fun st => wpAny_pure ?_
    split
    · rename_i c _ _ _ _ _
      cases (c == Value.type "enumerate")
      · wp_walk using wpAny_loadPart' hl, wpAny_pyIter_tuple hL
        exact ⟨_, rfl, h⟩
      · wp_walk using wpAny_loadPart' hl, wpAny_pyIter_tuple hL
        exact ⟨_, rfl, h⟩
    · wp_walk using wpAny_loadPart' hl, wpAny_pyIter_tuple hL
      exact ⟨_, rfl, h⟩
theorem call_enumT {l : Addr} {items : Array Value} {Q : Value → Shared → Prop} (hL : s.heap.IsTuple l items)
    (h : ∀ h', IsEnum h' (s.heap.objs.size + 1) s.heap.objs.size 0 .none → h'.IsTupleIter s.heap.objs.size l 0 →
      (∀ b o, s.heap.get? b = some o → h'.get? b = some o) → Q (.ref (s.heap.objs.size + 1)) { s with heap := h' }) :
    wpAny (model prog w) A (call (.type "enumerate") [.ref l]) Q E s := by
  obtain ⟨⟨c, dct, dt, sl⟩, hl, hc, n, hd⟩ := hL
  replace hc : c = .type "tuple" := hc
  replace hd : dt = .seq items n := hd
  subst hc hd
  refine callType_new F.called_enumerate (by decide) (F.typeCall_enumerate_1 _) (F.newCall_enumerate_1 _) (fun obj => F.args_object_init_2 obj _) F.entry_enumerate_new
    (meets_enumT l items n dct sl) ⟨hl, ?_⟩
  have hz : (s.heap.push { cls := .type "tuple_iterator", data := .fields #[.ref l, .int 0 0] }).objs.size = s.heap.objs.size + 1 := Heap.size_push ..
  show _ ∧ _
  rw [hz]
  have he : IsEnum ((s.heap.push { cls := .type "tuple_iterator", data := .fields #[.ref l, .int 0 0] }).push
      { cls := .type "enumerate", data := .fields #[.none, .bool false, .ref s.heap.objs.size, rawInt 0, .none, .none] }) (s.heap.objs.size + 1) s.heap.objs.size 0 .none := by
    have := Heap.get?_push_size (s.heap.push { cls := .type "tuple_iterator", data := .fields #[.ref l, .int 0 0] })
      (o := { cls := .type "enumerate", data := .fields #[.none, .bool false, .ref s.heap.objs.size, rawInt 0, .none, .none] }) rfl
    rw [hz] at this
    exact this
  exact ⟨⟨_, he, rfl⟩, h _ he ⟨_, Heap.get?_push_of_some _ (Heap.get?_push_size _ rfl), rfl, rfl⟩ fun b o x => Heap.get?_push_of_some _ (Heap.get?_push_of_some _ x)⟩
end
/-- the tuple at a, each item in a new pair -/
def IteT (K : PySem.W.Frag) (a : Addr) : It :=
  ⟨fun i H => ∃ (xs : List V) (x : V), SqT K H a xs ∧ xs[i]? = some x, fun i H v H' => ∃ T x, v = .ref T ∧ H T = none ∧ H' = upd H T (.tup [.int (i : Nat), x]) ∧ ∀ xs, SqT K H a xs → xs[i]? = some x, fun i H => ∃ xs : List V, SqT K H a xs ∧ xs.length ≤ i⟩
theorem turn_enumT {P : Program} {w : World} {K : PySem.W.Frag} {elts : List Expr} {kk : Nat} {tpos : Pos} (a e it : Addr) :
    Turn P w K (.Tuple elts kk tpos) (IteT K a) [e, it] e (fun i h => (∃ old, IsEnum h e it ((i : Nat) : Int) old) ∧ h.IsTupleIter it a i ∧ e ≠ it) where
  mem := by simp
  obj := fun i h st b hb => by
    obtain ⟨⟨old, he⟩, ⟨o, ho, hc, hd⟩, _⟩ := st
    have e' : b = e ∨ b = it := by simpa using hb
    rcases e' with z | z
    · rw [z]; exact ⟨_, he, fun v q => nomatch q⟩
    · rw [z]; exact ⟨o, ho, fun v q => by rw [hd] at q; cases q⟩
  keep := fun i h h' st k => let ⟨⟨old, he⟩, hi, hne⟩ := st; ⟨⟨old, k e (by simp) _ he⟩, hi.at fun o q => k it (by simp) o q, hne⟩
  item := by
    intro X hP hw hK hc i pins s σ H E I hf st hg
    subst hP hw hK
    obtain ⟨⟨old, he⟩, hit, hne⟩ := st
    obtain ⟨xs, x, hq, hx⟩ := hg
    obtain ⟨its, rv, p, hz⟩ := I.tuple hq
    obtain ⟨u, hu, ru⟩ := rv.get hx
    have hel : e < s.heap.objs.size := Heap.lt_size he
    have hil : it < s.heap.objs.size := by obtain ⟨_, q, _⟩ := hit; exact Heap.lt_size q
    refine enumT_item he hit p (x := u) (by simpa using hu) hne fun h' ho hit' hT hk => ?_
    refine ⟨_, rfl, wpAny_letOwnedTupleGo_enum (s := { s with heap := h', toks := s.toks + 1 }) ho fun h'' he' sb => ?_⟩
    have hT2 : h''.get? s.heap.objs.size = some { cls := .type "tuple", data := .seq #[.int i s.toks, u] } := (sb.2 _ (Nat.ne_of_gt hel)).trans hT
    have new : ObjOk X.prog X.w (upd H s.heap.objs.size (.tup [.int (i : Nat), x])) h'' s.heap.objs.size (.tup [.int (i : Nat), x]) :=
      ⟨by show 2 ≤ sizeLine; decide, [.int i s.toks, u], .cons ⟨_, rfl⟩ (.cons ru .nil), ⟨_, hT2, rfl, _, rfl⟩⟩
    have I1 : Inv X pins σ (upd H s.heap.objs.size (.tup [.int (i : Nat), x])) { s with heap := h'', toks := s.toks + 1 } :=
      I.turnedNew (ch := [e, it]) (fun b ob hb q => (sb.2 b (fun z => hb (by simp [z]))).trans (hk b ob (fun z => hb (by simp [z])) (fun z => hb (by simp [z])) q)) hf (Nat.le_refl _) new
    refine ⟨.ref s.heap.objs.size, _, I1, rfl, ⟨_, x, rfl, I.hok.fresh (Nat.le_refl _), rfl, fun ys hy => by rw [I.tuple_inj hy hq]; exact hx⟩, ⟨⟨u, ?_⟩, hit'.at fun o q => (sb.2 it (Ne.symm hne)).trans q, hne⟩, fun b hb => ?_⟩
    · have e1 : ((i + 1 : Nat) : Int) = (i : Int) + 1 := by omega
      rw [e1]; exact he'
    · have hb' : b < s.heap.objs.size := by
        have e' : b = e ∨ b = it := by simpa using hb
        rcases e' with z | z
        · rw [z]; exact hel
        · rw [z]; exact hil
      rw [upd_ne (Nat.ne_of_lt hb')]
      exact (hf b hb).1
  done := by
    intro X hP hw hK hc i pins s σ H E I hf st hg
    subst hP hw hK
    obtain ⟨⟨old, he⟩, hit, hne⟩ := st
    obtain ⟨xs, hq, hx⟩ := hg
    obtain ⟨its, rv, p, hz⟩ := I.tuple hq
    obtain ⟨f0, f1, f2, f3, f4, f5⟩ := hf it (by simp)
    have hl := rv.length
    exact enumT_end (I.ok.hd hc) he hit p (by simp; omega) fun h' eb => ⟨rfl, I.turned (t' := s.toks) (fun b o hb q => eb b o hb q) f0 f1 f3 f4 f5⟩
  self := fun A i s Q E st h => let ⟨⟨_, he⟩, _⟩ := st; wpAny_pyIter_enum he h
def iEnumT (K : PySem.W.Frag) (ta : TA) : TI := fun σ H R => ta σ H fun vs H1 => ∃ a xs, vs = [.ref a] ∧ SqT K H1 a xs ∧ R (IteT K a) H1
theorem pi_enumT {X : Cx} {e : Expr} {ta : TA} {p pos tpos : Pos} {elts : List Expr} {kk : Nat} (hg : Gl X "enumerate") (hm : X.mg "enumerate" = none) (ha : PA X [e] ta) (hs : starEach [e] X.env = [(false, eval e X.env)] := by rfl) :
    PI X (.Tuple elts kk tpos) (.Call (.Name "enumerate" p) [e] [] pos) (iEnumT X.K ta) := by
  refine ⟨fun pins s σ H R I h => ?_⟩
  refine Call_ (ld_blt I hg hm boot_enumerate (PyProof.Rows.callWith_type1 (thn (ha.run pos pins s σ H _ I h) fun us s1 ⟨vs, H1, I1, r1, q1⟩ => ?_) hs rfl))
  obtain ⟨a, xs, ex, hq, q⟩ := q1
  subst ex
  cases r1 with
  | cons r rr =>
    cases rr
    cases r
    obtain ⟨its, rv, p', hz⟩ := I1.tuple hq
    refine call_enumT p' fun h' he hit hk => wpAny_pyIter_enum he ?_
    have I2 : Inv X pins σ H1 { s1 with heap := h' } := I1.kept (t' := s1.toks) hk
    refine ⟨s1.heap.objs.size + 1, [s1.heap.objs.size + 1, s1.heap.objs.size], _, _, H1, rfl, I2, turn_enumT a (s1.heap.objs.size + 1) s1.heap.objs.size, ⟨⟨.none, he⟩, hit, Nat.succ_ne_self _⟩, fun b hb => ?_, q⟩
    have e' : b = s1.heap.objs.size + 1 ∨ b = s1.heap.objs.size := by simpa using hb
    have hle : s1.heap.objs.size ≤ b := by
      rcases e' with z | z
      · rw [z]; exact Nat.le_add_right _ _
      · rw [z]; exact Nat.le_refl _
    exact I1.fpOk hle (I1.hok.fresh hle)
theorem walk_enumT {K : PySem.W.Frag} {a : Addr} {xs : List V} : Walk (IteT K a) xs.length (fun H => SqT K H a xs) (YPair (fun i => some (.int (i : Nat))) (fun i => xs[i]?)) := by
  refine ⟨fun i _ hi q => ⟨xs, xs[i], q, by simp [hi]⟩, fun _ q => ⟨xs, q, Nat.le_refl _⟩, fun i H v H' _ q y => ?_⟩
  obtain ⟨T, x, h1, h2, h3, h4⟩ := y
  exact ⟨T, .int (i : Nat), x, h1, h2, h3, rfl, h4 xs q⟩
end Cs
set_option Elab.async false
set_option linter.all false
set_option maxRecDepth 100000
set_option maxHeartbeats 4000000
namespace K56
open PySem PySem.Spec PyProof.Rows L2 Cs CsX
/-! ### edges, their names -/
abbrev Edg := Str × Str × Int
def eg (es : List Edg) (i : Nat) : Edg := es.getD i ("", "", 0)
theorem eg_of {es : List Edg} {i : Nat} {e : Edg} (h : es[i]? = some e) : eg es i = e := by unfold eg; rw [List.getD_eq_getElem?_getD, h] <;> rfl
def addN (ns : List Str) (x : Str) : List Str := if x ∈ ns then ns else ns ++ [x]
def addE (ns : List Str) (e : Edg) : List Str := addN (addN ns e.1) e.2.1
def enames (es : List Edg) : List Str := es.foldl addE []
theorem addN_mem {ns : List Str} {x y : Str} : y ∈ addN ns x ↔ y ∈ ns ∨ y = x := by
  unfold addN
  split
  · next h => exact ⟨.inl, fun h' => h'.elim id fun z => z ▸ h⟩
  · rw [List.mem_append, List.mem_singleton]
theorem addN_nd {ns : List Str} {x : Str} (h : ns.Nodup) : (addN ns x).Nodup := by
  unfold addN
  split
  · exact h
  · next c => exact nd_snoc h c
theorem addN_len (ns : List Str) (x : Str) : (addN ns x).length ≤ ns.length + 1 := by
  unfold addN
  split
  · omega
  · rw [List.length_append] <;> exact Nat.le_refl _
theorem addE_mem {ns : List Str} {e : Edg} {y : Str} : y ∈ addE ns e ↔ y ∈ ns ∨ y = e.1 ∨ y = e.2.1 := by
  unfold addE
  rw [addN_mem, addN_mem, or_assoc]
theorem enames_snoc {es : List Edg} {i : Nat} {e : Edg} (h : es[i]? = some e) : enames (es.take (i + 1)) = addE (enames (es.take i)) e := by
  unfold enames
  rw [take_snoc h, List.foldl_append] <;> rfl
theorem fold_mem (es : List Edg) : ∀ (ns : List Str) (y : Str), y ∈ es.foldl addE ns ↔ y ∈ ns ∨ ∃ e ∈ es, y = e.1 ∨ y = e.2.1 := by
  induction es with
  | nil => simp
  | cons e es ih =>
    intro ns y
    rw [List.foldl_cons, ih, addE_mem]
    simp [or_assoc]
theorem enames_mem {es : List Edg} {y : Str} : y ∈ enames es ↔ ∃ e ∈ es, y = e.1 ∨ y = e.2.1 := by
  unfold enames
  rw [fold_mem]
  simp
theorem fold_nd (es : List Edg) : ∀ (ns : List Str), ns.Nodup → (es.foldl addE ns).Nodup := by
  induction es with
  | nil => exact fun _ h => h
  | cons e es ih => exact fun ns h => ih _ (addN_nd (addN_nd h))
theorem enames_nd (es : List Edg) : (enames es).Nodup := fold_nd es [] List.Pairwise.nil
theorem fold_len (es : List Edg) : ∀ (ns : List Str), (es.foldl addE ns).length ≤ ns.length + 2 * es.length := by
  induction es with
  | nil => intro ns; exact Nat.le_refl _
  | cons e es ih =>
    intro ns
    have h1 := ih (addE ns e)
    have h2 := addN_len (addN ns e.1) e.2.1
    have h3 := addN_len ns e.1
    rw [List.foldl_cons, List.length_cons]
    unfold addE at h1 ⊢
    omega
theorem enames_len (es : List Edg) : (enames es).length ≤ 2 * es.length := by
  have := fold_len es []
  rw [List.length_nil, Nat.zero_add] at this
  exact this
/-- a list of edges -/
structure EdL (H : Hp) (l : Addr) (ts : List (Addr × Edg)) : Prop where
  lst : H l = some (.lst (ts.map fun t => V.ref t.1))
  tup : ∀ t ∈ ts, H t.1 = some (.tup [.str t.2.1, .str t.2.2.1, .int t.2.2.2])
/-- a tuple of edges -/
structure EdT (H : Hp) (l : Addr) (ts : List (Addr × Edg)) : Prop where
  lst : H l = some (.tup (ts.map fun t => V.ref t.1))
  tup : ∀ t ∈ ts, H t.1 = some (.tup [.str t.2.1, .str t.2.2.1, .int t.2.2.2])
theorem EdT.same {H H' : Hp} {l : Addr} {ts : List (Addr × Edg)} (B : EdT H l ts) (s : Same H H') : EdT H' l ts := ⟨s _ _ B.lst, fun b h => s _ _ (B.tup b h)⟩
theorem EdL.same {H H' : Hp} {l : Addr} {ts : List (Addr × Edg)} (B : EdL H l ts) (s : Same H H') : EdL H' l ts := ⟨s _ _ B.lst, fun b h => s _ _ (B.tup b h)⟩
abbrev eds (ts : List (Addr × Edg)) : List Edg := ts.map (·.2)
theorem eds_at {ts : List (Addr × Edg)} {i : Nat} {t : Addr × Edg} (h : ts[i]? = some t) : (eds ts)[i]? = some t.2 := by unfold eds; rw [List.getElem?_map, h] <;> rfl
theorem enames_take {es : List Edg} (i : Nat) : (enames (es.take i)).length ≤ 2 * es.length := by
  have h := enames_len (es.take i)
  rw [List.length_take] at h
  omega
/-! ### the climb -/
def nxv (s : List Int) (k : Int) : Option Int := s.find? fun v => decide (k ≤ v)
theorem nxv_some {s : List Int} (h : Srt s) {k v : Int} (e : nxv s k = some v) : v ∈ s ∧ k ≤ v ∧ ∀ w ∈ s, k ≤ w → v ≤ w := by
  induction s with
  | nil => cases e
  | cons x s ih =>
    obtain ⟨h1, h2⟩ := List.pairwise_cons.mp h
    unfold nxv at e ih
    rw [List.find?_cons] at e
    split at e
    · next c =>
      obtain rfl := Option.some.inj e
      refine ⟨List.mem_cons_self, of_decide_eq_true c, fun w hw _ => ?_⟩
      rcases List.mem_cons.mp hw with z | z
      · omega
      · exact Int.le_of_lt (h1 w z)
    · next c =>
      obtain ⟨i1, i2, i3⟩ := ih h2 e
      refine ⟨List.mem_cons_of_mem _ i1, i2, fun w hw k1 => ?_⟩
      rcases List.mem_cons.mp hw with z | z
      · subst z; exact absurd k1 (of_decide_eq_false c)
      · exact i3 w z k1
theorem nxv_none {s : List Int} {k : Int} : nxv s k = none ↔ ∀ w ∈ s, w < k := by
  unfold nxv
  rw [List.find?_eq_none]
  constructor
  · intro h w hw
    have := h w hw
    simp at this
    omega
  · intro h w hw
    have := h w hw
    simp
    omega
theorem nxv_self {s : List Int} (h : Srt s) {k : Int} (m : k ∈ s) : nxv s k = some k := by
  cases e : nxv s k with
  | none => have := nxv_none.mp e k m; omega
  | some v =>
    obtain ⟨h1, h2, h3⟩ := nxv_some h e
    have := h3 k m (Int.le_refl _)
    rw [show v = k by omega]
section
variable (es : List Edg) (S : Str → List Int)
def hd0 (x : Str) : Int := (S x).headD 0
def due (v : Str → Int) (e : Edg) : Int := v e.1 - e.2.2
def put (v : Str → Int) (x : Str) (k : Int) : Str → Int := fun y => if y = x then k else v y
def bump (v : Str → Int) (i : Nat) : Str → Int := put v (eg es i).2.1 ((nxv (S (eg es i).2.1) (due v (eg es i))).getD 0)
def vals (st : List Nat) : Str → Int := st.foldl (bump es S) (hd0 S)
/-- the edge is broken at v -/
def Brk (v : Str → Int) (e : Edg) : Prop := v e.2.1 < due v e
/-- the steps are steps -/
def Good (st : List Nat) : Prop := ∀ k i, st[k]? = some i → i < es.length ∧ Brk (vals es S (st.take k)) (eg es i) ∧ (nxv (S (eg es i).2.1) (due (vals es S (st.take k)) (eg es i))).isSome = true
def Alw (a : Str → Int) : Prop := (∀ x ∈ enames es, a x ∈ S x) ∧ ∀ e ∈ es, a e.1 ≤ a e.2.1 + e.2.2
def Lst (f : Str → Int) : Prop := Alw es S f ∧ ∀ a, Alw es S a → ∀ x ∈ enames es, f x ≤ a x
structure Low (v : Str → Int) : Prop where
  inS : ∀ x ∈ enames es, v x ∈ S x
  low : ∀ a, Alw es S a → ∀ x ∈ enames es, v x ≤ a x
structure Wd : Prop where
  srt : ∀ x ∈ enames es, Srt (S x)
  ne : ∀ x ∈ enames es, S x ≠ []
  few : ∀ x ∈ enames es, (S x).length ≤ 16
  nam : (enames es).length ≤ 12
end
theorem eg_mem {es : List Edg} {i : Nat} (h : i < es.length) : eg es i ∈ es := by rw [eg_of (List.getElem?_eq_getElem h)]; exact List.getElem_mem h
theorem ends {es : List Edg} {e : Edg} (h : e ∈ es) : e.1 ∈ enames es ∧ e.2.1 ∈ enames es := ⟨enames_mem.mpr ⟨e, h, .inl rfl⟩, enames_mem.mpr ⟨e, h, .inr rfl⟩⟩
theorem vals_snoc (es : List Edg) (S : Str → List Int) (st : List Nat) (i : Nat) : vals es S (st ++ [i]) = bump es S (vals es S st) i := by unfold vals; rw [List.foldl_append] <;> rfl
theorem Good.snoc {es : List Edg} {S : Str → List Int} {st : List Nat} {i : Nat} (g : Good es S st) (h1 : i < es.length) (h2 : Brk (vals es S st) (eg es i)) (h3 : (nxv (S (eg es i).2.1) (due (vals es S st) (eg es i))).isSome = true) : Good es S (st ++ [i]) := by
  intro k j hk
  rcases Nat.lt_or_ge k st.length with c | c
  · rw [List.getElem?_append_left c] at hk
    rw [List.take_append_of_le_length (by omega)]
    exact g k j hk
  · rw [List.getElem?_append_right c] at hk
    have hl := (List.getElem?_eq_some_iff.mp hk).1
    rw [List.length_singleton] at hl
    have hj : j = i := by
      rw [show k - st.length = 0 by omega] at hk
      exact (Option.some.inj hk).symm
    rw [show k = st.length by omega, List.take_append_of_le_length (Nat.le_refl _), List.take_length, hj]
    exact ⟨h1, h2, h3⟩
theorem Low.start {es : List Edg} {S : Str → List Int} (W : Wd es S) : Low es S (hd0 S) := by
  have key : ∀ x ∈ enames es, hd0 S x ∈ S x ∧ ∀ w ∈ S x, hd0 S x ≤ w := fun x hx => by
    have h1 := W.srt x hx
    have h2 := W.ne x hx
    unfold hd0
    cases e : S x with
    | nil => exact absurd e h2
    | cons y s =>
      rw [e] at h1
      refine ⟨List.mem_cons_self, fun w hw => ?_⟩
      rcases List.mem_cons.mp hw with z | z
      · rw [z]; exact Int.le_refl _
      · exact Int.le_of_lt ((List.pairwise_cons.mp h1).1 w z)
  exact ⟨fun x hx => (key x hx).1, fun a ha x hx => (key x hx).2 _ (ha.1 x hx)⟩
theorem Low.dueLe {es : List Edg} {S : Str → List Int} {v : Str → Int} (L : Low es S v) {e : Edg} (he : e ∈ es) {a : Str → Int} (ha : Alw es S a) : due v e ≤ a e.2.1 := by
  have h1 := L.low a ha e.1 (ends he).1
  have h2 := ha.2 e he
  unfold due
  omega
theorem Low.put {es : List Edg} {S : Str → List Int} {v : Str → Int} (L : Low es S v) (W : Wd es S) {e : Edg} (he : e ∈ es) {k : Int} (hk : nxv (S e.2.1) (due v e) = some k) : Low es S (put v e.2.1 k) := by
  obtain ⟨h1, h2, h3⟩ := nxv_some (W.srt _ (ends he).2) hk
  refine ⟨fun x hx => ?_, fun a ha x hx => ?_⟩
  · unfold K56.put
    split
    · next c => rw [c]; exact h1
    · exact L.inS x hx
  · unfold K56.put
    split
    · next c => rw [c]; exact h3 _ (ha.1 _ (ends he).2) (L.dueLe he ha)
    · exact L.low a ha x hx
theorem Low.none {es : List Edg} {S : Str → List Int} {v : Str → Int} (L : Low es S v) {e : Edg} (he : e ∈ es) (hk : nxv (S e.2.1) (due v e) = none) (a : Str → Int) : ¬ Alw es S a := fun ha => by
  have h1 := nxv_none.mp hk _ (ha.1 _ (ends he).2)
  have h2 := L.dueLe he ha
  omega
/-- the program's step: the first value from the greater of the two -/
theorem step_is {es : List Edg} {S : Str → List Int} {v : Str → Int} (L : Low es S v) (W : Wd es S) {e : Edg} (he : e ∈ es) : nxv (S e.2.1) (max (v e.2.1) (due v e)) = if v e.2.1 < due v e then nxv (S e.2.1) (due v e) else some (v e.2.1) := by
  split
  · rw [show max (v e.2.1) (due v e) = due v e by omega]
  · rw [show max (v e.2.1) (due v e) = v e.2.1 by omega]
    exact nxv_self (W.srt _ (ends he).2) (L.inS _ (ends he).2)
/-! ### how often -/
def cntA (S : Str → List Int) (v : Str → Int) (x : Str) : Nat := ((S x).filter fun k => decide (v x < k)).length
def tot (S : Str → List Int) (v : Str → Int) : List Str → Nat
  | [] => 0
  | x :: xs => cntA S v x + tot S v xs
theorem cnt_lt {s : List Int} {a b : Int} (h : a < b) (m : b ∈ s) : (s.filter fun k => decide (b < k)).length < (s.filter fun k => decide (a < k)).length := by
  induction s with
  | nil => cases m
  | cons x s ih =>
    have le : (s.filter fun k => decide (b < k)).length ≤ (s.filter fun k => decide (a < k)).length := by
      clear ih m
      induction s with
      | nil => exact Nat.le_refl _
      | cons y s ih2 =>
        rw [List.filter_cons, List.filter_cons]
        by_cases c : b < y
        · rw [if_pos (decide_eq_true c), if_pos (decide_eq_true (by omega)), List.length_cons, List.length_cons]; omega
        · rw [if_neg (by simpa using c)]
          split
          · rw [List.length_cons]; omega
          · exact ih2
    rw [List.filter_cons, List.filter_cons]
    by_cases c : b < x
    · rw [if_pos (decide_eq_true c), if_pos (decide_eq_true (by omega)), List.length_cons, List.length_cons]
      rcases List.mem_cons.mp m with z | z
      · omega
      · have := ih z; omega
    · rw [if_neg (by simpa using c)]
      rcases List.mem_cons.mp m with z | z
      · rw [if_pos (decide_eq_true (by omega)), List.length_cons]; omega
      · have := ih z
        split
        · rw [List.length_cons]; omega
        · exact this
theorem tot_out {S : Str → List Int} {v : Str → Int} {y : Str} {k : Int} : ∀ {xs : List Str}, y ∉ xs → tot S (put v y k) xs = tot S v xs
  | [], _ => rfl
  | x :: xs, h => by
    have h1 : x ≠ y := fun z => h (by rw [z]; exact List.mem_cons_self)
    show cntA S _ x + tot S _ xs = _ + _
    rw [tot_out fun z => h (List.mem_cons_of_mem _ z)]
    unfold cntA put
    rw [if_neg h1]
theorem tot_lt {S : Str → List Int} {v : Str → Int} {y : Str} {k : Int} (lt : v y < k) (m : k ∈ S y) : ∀ {xs : List Str}, xs.Nodup → y ∈ xs → tot S (put v y k) xs < tot S v xs
  | [], _, h => nomatch h
  | x :: xs, nd, h => by
    obtain ⟨n1, n2⟩ := List.nodup_cons.mp nd
    show cntA S _ x + tot S _ xs < cntA S _ x + tot S _ xs
    by_cases c : x = y
    · subst c
      rw [tot_out n1]
      have := cnt_lt lt m
      unfold cntA put
      rw [if_pos rfl]
      omega
    · rcases List.mem_cons.mp h with z | z
      · exact absurd z.symm c
      · have := tot_lt lt m n2 z
        unfold cntA put at *
        rw [if_neg c]
        omega
theorem tot_le {S : Str → List Int} {v : Str → Int} : ∀ {xs : List Str}, (∀ x ∈ xs, v x ∈ S x ∧ (S x).length ≤ 16) → tot S v xs ≤ 15 * xs.length
  | [], _ => Nat.le_refl _
  | x :: xs, h => by
    obtain ⟨h1, h2⟩ := h x List.mem_cons_self
    have h3 := tot_le fun y hy => h y (List.mem_cons_of_mem x hy)
    have h4 := List.length_filter_lt_length_iff_exists.mpr (⟨v x, h1, by simp⟩ : ∃ z ∈ S x, ¬ decide (v x < z) = true)
    show cntA S _ x + tot S _ xs ≤ _
    unfold cntA
    rw [List.length_cons]
    omega
end K56
set_option Elab.async false
set_option linter.all false
set_option maxRecDepth 100000
set_option maxHeartbeats 4000000
namespace K56
open PySem PySem.Spec PyProof.Rows L2 Cs CsX
/-! ### the waiting names -/
abbrev Wt := List Str × List Nat
section
variable (es : List Edg) (S : Str → List Int)
def outs (x : Str) : List Nat := (List.range es.length).filter fun i => decide ((eg es i).1 = x)
def outN (x : Str) (n : Nat) : List Nat := (List.range n).filter fun i => decide ((eg es i).1 = x)
def stp (s : Wt) (i : Nat) : Option Wt :=
  if vals es S s.2 (eg es i).2.1 < due (vals es S s.2) (eg es i) then (nxv (S (eg es i).2.1) (due (vals es S s.2) (eg es i))).map fun _ => (addN s.1 (eg es i).2.1, s.2 ++ [i]) else some s
def fol (s : Wt) : List Nat → List Nat ⊕ Wt
  | [] => .inr s
  | i :: is => match stp es S s i with
    | none => .inl (s.2 ++ [i])
    | some t => fol t is
inductive Run : Wt → List Nat ⊕ List Nat → Prop
  | stop (st : List Nat) : Run ([], st) (.inr st)
  | over {x : Str} {w : List Str} {st r : List Nat} : fol es S (w, st) (outs es x) = .inl r → Run (x :: w, st) (.inl r)
  | more {x : Str} {w : List Str} {st : List Nat} {t : Wt} {r : List Nat ⊕ List Nat} : fol es S (w, st) (outs es x) = .inr t → Run t r → Run (x :: w, st) r
structure Inv (pend : List Nat) (s : Wt) : Prop where
  low : Low es S (vals es S s.2)
  good : Good es S s.2
  nd : s.1.Nodup
  sub : ∀ x ∈ s.1, x ∈ enames es
  met : ∀ i e, es[i]? = some e → ¬ Brk (vals es S s.2) e ∨ e.1 ∈ s.1 ∨ i ∈ pend
  few : s.2.length + tot S (vals es S s.2) (enames es) ≤ 180
def mu (s : Wt) : Nat := 2 * tot S (vals es S s.2) (enames es) + s.1.length
def Broken (st : List Nat) : Prop := ∃ t i, st = t ++ [i] ∧ t.length ≤ 180 ∧ Good es S t ∧ i < es.length ∧ Brk (vals es S t) (eg es i) ∧ nxv (S (eg es i).2.1) (due (vals es S t) (eg es i)) = none
end
variable {es : List Edg} {S : Str → List Int}
theorem Run.one {s : Wt} {r q : List Nat ⊕ List Nat} (a : Run es S s r) (b : Run es S s q) : r = q := by
  induction a with
  | stop st => cases b; rfl
  | over h =>
    cases b with
    | over h2 => rw [h] at h2; injection h2 with h3; rw [h3]
    | more h2 _ => rw [h] at h2; cases h2
  | more h _ ih =>
    cases b with
    | over h2 => rw [h] at h2; cases h2
    | more h2 r2 => rw [h] at h2; injection h2 with h3; subst h3; exact ih r2
theorem Inv.start (W : Wd es S) {N : List Str} (nd : N.Nodup) (sub : ∀ x ∈ N, x ∈ enames es) (met : ∀ e ∈ es, e.1 ∉ N → ¬ Brk (hd0 S) e) : Inv es S [] (N, []) := by
  refine ⟨Low.start W, fun k i h => (by cases h), nd, sub, fun i e he => ?_, ?_⟩
  · by_cases c : e.1 ∈ N
    · exact .inr (.inl c)
    · exact .inl (met e (List.mem_of_getElem? he) c)
  have h1 := tot_le (S := S) (v := hd0 S) (xs := enames es) fun x hx => ⟨(Low.start W).inS x hx, W.few x hx⟩
  have h2 := W.nam
  show 0 + tot S (hd0 S) (enames es) ≤ 180
  omega
theorem outs_mem {x : Str} {i : Nat} : i ∈ outs es x ↔ i < es.length ∧ (eg es i).1 = x := by
  unfold outs
  rw [List.mem_filter, List.mem_range]
  simp
theorem Inv.pop {x : Str} {w : List Str} {st : List Nat} (I : Inv es S [] (x :: w, st)) : Inv es S (outs es x) (w, st) := by
  refine ⟨I.low, I.good, (List.nodup_cons.mp I.nd).2, fun y hy => I.sub y (List.mem_cons_of_mem _ hy), fun i e he => ?_, I.few⟩
  rcases I.met i e he with h | h | h
  · exact .inl h
  · rcases List.mem_cons.mp h with z | z
    · exact .inr (.inr (outs_mem.mpr ⟨(List.getElem?_eq_some_iff.mp he).1, by rw [eg_of he]; exact z⟩))
    · exact .inr (.inl z)
  · cases h
theorem Inv.skip {p : List Nat} {s : Wt} {i : Nat} (I : Inv es S (i :: p) s) (h : ¬ Brk (vals es S s.2) (eg es i)) : Inv es S p s := by
  refine ⟨I.low, I.good, I.nd, I.sub, fun j e he => ?_, I.few⟩
  rcases I.met j e he with z | z | z
  · exact .inl z
  · exact .inr (.inl z)
  · rcases List.mem_cons.mp z with w | w
    · subst w; rw [eg_of he] at h; exact .inl h
    · exact .inr (.inr w)
theorem bump_is {st : List Nat} {i : Nat} {k : Int} (h : nxv (S (eg es i).2.1) (due (vals es S st) (eg es i)) = some k) : vals es S (st ++ [i]) = put (vals es S st) (eg es i).2.1 k := by
  rw [vals_snoc]
  unfold bump
  rw [h] <;> rfl
theorem Inv.raise (W : Wd es S) {p : List Nat} {s : Wt} {i : Nat} {k : Int} (I : Inv es S (i :: p) s) (hi : i < es.length) (b : Brk (vals es S s.2) (eg es i)) (h : nxv (S (eg es i).2.1) (due (vals es S s.2) (eg es i)) = some k) :
    Inv es S p (addN s.1 (eg es i).2.1, s.2 ++ [i]) ∧ mu es S (addN s.1 (eg es i).2.1, s.2 ++ [i]) ≤ mu es S s ∧ vals es S (s.2 ++ [i]) = put (vals es S s.2) (eg es i).2.1 k ∧ vals es S s.2 (eg es i).2.1 < k := by
  have hv := bump_is h
  have he := eg_mem hi
  obtain ⟨e1, e2⟩ := ends he
  obtain ⟨h1, h2, h3⟩ := nxv_some (W.srt _ e2) h
  have lt : vals es S s.2 (eg es i).2.1 < k := by unfold Brk at b; omega
  have tl := tot_lt (S := S) lt h1 (enames_nd es) e2
  have al := addN_len s.1 (eg es i).2.1
  refine ⟨⟨?_, ?_, addN_nd I.nd, fun x hx => ?_, fun j e hj => ?_, ?_⟩, ?_, hv, lt⟩
  · show Low es S (vals es S (s.2 ++ [i]))
    rw [hv]; exact I.low.put W he h
  · exact I.good.snoc hi b (by rw [h] <;> rfl)
  · rcases addN_mem.mp hx with z | z
    · exact I.sub x z
    · rw [z]; exact e2
  · show ¬ Brk (vals es S (s.2 ++ [i])) e ∨ e.1 ∈ addN s.1 _ ∨ _
    rw [hv, addN_mem]
    by_cases c : e.1 = (eg es i).2.1
    · exact .inr (.inl (.inr c))
    · have keep : vals es S s.2 e.2.1 ≤ put (vals es S s.2) (eg es i).2.1 k e.2.1 := by
        unfold put
        split
        · next z => rw [z]; omega
        · exact Int.le_refl _
      have same : put (vals es S s.2) (eg es i).2.1 k e.1 = vals es S s.2 e.1 := if_neg c
      rcases I.met j e hj with z | z | z
      · left
        unfold Brk due at z ⊢
        rw [same]; omega
      · exact .inr (.inl (.inl z))
      · rcases List.mem_cons.mp z with w | w
        · subst w
          rw [eg_of hj] at same ⊢ h2
          left
          unfold Brk
          have : put (vals es S s.2) e.2.1 k e.2.1 = k := if_pos rfl
          rw [this]
          unfold due at h2 ⊢
          rw [same]; omega
        · exact .inr (.inr w)
  · show (s.2 ++ [i]).length + tot S (vals es S (s.2 ++ [i])) (enames es) ≤ 180
    rw [hv, List.length_append, List.length_singleton]
    have := I.few
    omega
  · unfold mu
    show 2 * tot S (vals es S (s.2 ++ [i])) (enames es) + (addN s.1 _).length ≤ _
    rw [hv]; omega
theorem Inv.done {st : List Nat} (I : Inv es S [] ([], st)) : Lst es S (vals es S st) := by
  refine ⟨⟨I.low.inS, fun e he => ?_⟩, I.low.low⟩
  obtain ⟨i, hi⟩ := List.mem_iff_getElem?.mp he
  rcases I.met i e hi with z | z | z
  · unfold Brk due at z
    have z' : ¬ vals es S st e.2.1 < vals es S st e.1 - e.2.2 := z
    omega
  · cases z
  · cases z
theorem Inv.over {p : List Nat} {s : Wt} {i : Nat} (I : Inv es S (i :: p) s) (hi : i < es.length) (b : Brk (vals es S s.2) (eg es i)) (h : nxv (S (eg es i).2.1) (due (vals es S s.2) (eg es i)) = none) : Broken es S (s.2 ++ [i]) ∧ ∀ a, ¬ Alw es S a :=
  ⟨⟨s.2, i, rfl, by have := I.few; omega, I.good, hi, b, h⟩, I.low.none (eg_mem hi) h⟩
theorem fol_skip {s : Wt} {i : Nat} {is : List Nat} (h : ¬ Brk (vals es S s.2) (eg es i)) : fol es S s (i :: is) = fol es S s is := by
  show (match stp es S s i with | none => _ | some t => _) = _
  unfold Brk at h
  unfold stp
  rw [if_neg h]
theorem fol_raise {s : Wt} {i : Nat} {k : Int} {is : List Nat} (b : Brk (vals es S s.2) (eg es i)) (h : nxv (S (eg es i).2.1) (due (vals es S s.2) (eg es i)) = some k) : fol es S s (i :: is) = fol es S (addN s.1 (eg es i).2.1, s.2 ++ [i]) is := by
  show (match stp es S s i with | none => _ | some t => _) = _
  unfold Brk at b
  unfold stp
  rw [if_pos b, h] <;> rfl
theorem fol_over {s : Wt} {i : Nat} {is : List Nat} (b : Brk (vals es S s.2) (eg es i)) (h : nxv (S (eg es i).2.1) (due (vals es S s.2) (eg es i)) = none) : fol es S s (i :: is) = .inl (s.2 ++ [i]) := by
  show (match stp es S s i with | none => _ | some t => _) = _
  unfold Brk at b
  unfold stp
  rw [if_pos b, h] <;> rfl
theorem outN_succ (x : Str) (n : Nat) : outN es x (n + 1) = if (eg es n).1 = x then outN es x n ++ [n] else outN es x n := by
  unfold outN
  rw [List.range_succ, List.filter_append, List.filter_cons]
  by_cases c : (eg es n).1 = x
  · rw [if_pos (decide_eq_true c), if_pos c] <;> rfl
  · rw [if_neg (by simpa using c), if_neg c]; exact List.append_nil _
theorem outN_len (x : Str) (n : Nat) : (outN es x n).length ≤ n := by
  unfold outN
  have := List.length_filter_le (fun i => decide ((eg es i).1 = x)) (List.range n)
  rwa [List.length_range] at this
/-! ### kept values -/
def kp (S : Str → List Int) (f : Str → Int) (x : Str) : List Int := (S x).filter fun k => decide (f x ≤ k)
theorem fil_hd (s : List Int) (d : Int) : (s.filter fun k => decide (d ≤ k))[0]? = nxv s d := by
  rw [← List.head?_eq_getElem?, List.head?_filter] <;> rfl
theorem fil_nil {s : List Int} {d : Int} : (s.filter fun k => decide (d ≤ k)).length = 0 ↔ nxv s d = none := by
  rw [← fil_hd, List.getElem?_eq_none_iff]
  omega
/-- the passes of the law -/
structure Ps (C : Nat) (j : Nat) (ch : Bool) (f : Str → Int) : Prop where
  low : Low es S f
  same : ch = false → tot S f (enames es) ≤ C ∧ ∀ i e, i < j → es[i]? = some e → ¬ Brk f e
  less : ch = true → tot S f (enames es) + 1 ≤ C
theorem Ps.skip {C j : Nat} {ch : Bool} {f : Str → Int} {e : Edg} (P : Ps (es := es) (S := S) C j ch f) (he : es[j]? = some e) (h : ¬ Brk f e) : Ps (es := es) (S := S) C (j + 1) ch f := by
  refine ⟨P.low, fun z => ⟨(P.same z).1, fun i g hi hg => ?_⟩, P.less⟩
  rcases Nat.lt_or_ge i j with c | c
  · exact (P.same z).2 i g c hg
  · rw [show i = j by omega] at hg
    obtain rfl := Option.some.inj (he.symm.trans hg)
    exact h
theorem Ps.put (W : Wd es S) {C j : Nat} {ch : Bool} {f : Str → Int} {e : Edg} {k : Int} (P : Ps (es := es) (S := S) C j ch f) (he : es[j]? = some e) (b : Brk f e) (h : nxv (S e.2.1) (due f e) = some k) : Ps (es := es) (S := S) C (j + 1) true (K56.put f e.2.1 k) := by
  have hm := List.mem_of_getElem? he
  obtain ⟨h1, h2, h3⟩ := nxv_some (W.srt _ (ends hm).2) h
  have lt : f e.2.1 < k := by unfold Brk at b; omega
  have tl := tot_lt (S := S) lt h1 (enames_nd es) (ends hm).2
  refine ⟨P.low.put W hm h, (fun z => nomatch z), fun _ => ?_⟩
  cases ch with
  | true => have := P.less rfl; omega
  | false => have := (P.same rfl).1; omega
/-! ### the sides from f on -/
def cut (S : Str → List Int) (f : Str → Int) (x : Str) : List Int := (S x).filter fun k => decide (f x ≤ k)
theorem cut_mem {f : Str → Int} {x : Str} {k : Int} : k ∈ cut S f x ↔ k ∈ S x ∧ f x ≤ k := by
  unfold cut
  rw [List.mem_filter, decide_eq_true_iff]
theorem cut_alw {f a : Str → Int} : Alw es (cut S f) a ↔ Alw es S a ∧ ∀ x ∈ enames es, f x ≤ a x :=
  ⟨fun h => ⟨⟨fun x hx => (cut_mem.mp (h.1 x hx)).1, h.2⟩, fun x hx => (cut_mem.mp (h.1 x hx)).2⟩, fun h => ⟨fun x hx => cut_mem.mpr ⟨h.1.1 x hx, h.2 x hx⟩, h.1.2⟩⟩
/-- f is a solution, and the least of those that have at least its value at n -/
structure Lea (es : List Edg) (S : Str → List Int) (n : Str) (f : Str → Int) : Prop where
  alw : Alw es S f
  low : ∀ a, Alw es S a → f n ≤ a n → ∀ x ∈ enames es, f x ≤ a x
/-- the value is taken -/
def Tak (es : List Edg) (S : Str → List Int) (n : Str) (v : Int) : Prop := ∃ a, Alw es S a ∧ a n = v
theorem Lea.ge (W : Wd es S) {n : Str} (hn : n ∈ enames es) {f : Str → Int} (L : Lea es S n f) {k : Int} (hk : nxv (S n) (f n + 1) = some k) {a : Str → Int} (ha : Alw es S a) (lt : f n < a n) : ∀ x ∈ enames es, put f n k x ≤ a x := by
  obtain ⟨h1, h2, h3⟩ := nxv_some (W.srt n hn) hk
  intro x hx
  unfold put
  split
  · next c => rw [c]; exact h3 _ (ha.1 n hn) (by omega)
  · exact L.low a ha (by omega) x hx
theorem Lea.over (W : Wd es S) {n : Str} (hn : n ∈ enames es) {f : Str → Int} (L : Lea es S n f) {k : Int} (hk : nxv (S n) (f n + 1) = some k) (no : ∀ a, ¬ Alw es (cut S (put f n k)) a) {v : Int} (t : Tak es S n v) : v ≤ f n := by
  obtain ⟨a, ha, rfl⟩ := t
  by_cases c : f n < a n
  · exact absurd (cut_alw.mpr ⟨ha, L.ge W hn hk ha c⟩) (no a)
  · omega
theorem Lea.next (W : Wd es S) {n : Str} (hn : n ∈ enames es) {f g : Str → Int} (L : Lea es S n f) {k : Int} (hk : nxv (S n) (f n + 1) = some k) (l : Lst es (cut S (put f n k)) g) : Lea es S n g ∧ f n < g n ∧ ∀ v, Tak es S n v → v < g n → v ≤ f n := by
  obtain ⟨h1, h2, h3⟩ := nxv_some (W.srt n hn) hk
  obtain ⟨g1, g2⟩ := cut_alw.mp l.1
  have gn := g2 n hn
  unfold put at gn
  rw [if_pos rfl] at gn
  refine ⟨⟨g1, fun a ha hl => l.2 a (cut_alw.mpr ⟨ha, L.ge W hn hk ha (by omega)⟩)⟩, by omega, fun v t lt => ?_⟩
  obtain ⟨a, ha, rfl⟩ := t
  by_cases c : f n < a n
  · have := l.2 a (cut_alw.mpr ⟨ha, L.ge W hn hk ha c⟩) n hn
    omega
  · omega
end K56
set_option Elab.async false
set_option linter.all false
set_option maxRecDepth 100000
set_option maxHeartbeats 4000000
namespace K56
open PySem PySem.Spec PyProof.Rows L2 Cs CsX
/-- the box gives each of the names its side -/
def Fit (L : List Ent) (ns : List Str) (S : Str → List Int) : Prop := ∀ x ∈ ns, look L x = some (S x)
theorem Fit.get {H : Hp} {b : Addr} {L : List Ent} {ns : List Str} {S : Str → List Int} (B : Bu H b L) (F : Fit L ns S) {x : Str} (hx : x ∈ ns) : ∃ a, DGet H b (.str x) (some (.ref a)) ∧ H a = some (.lst ((S x).map V.int)) := by
  have h := F x hx
  unfold look at h
  obtain ⟨e, he, e2⟩ := Option.map_eq_some_iff.mp h
  have g := B.get x
  rw [he] at g
  refine ⟨e.2.1, g, ?_⟩
  rw [← e2]; exact B.sides e (getE_mem he).1
structure VF (A : List (Str × Int)) (names : List Str) (f : Str → Int) : Prop where
  keys : A.map (·.1) = names
  val : ∀ x ∈ names, aget A x = some (f x)
theorem VF.put {A : List (Str × Int)} {names : List Str} {f : Str → Int} {x : Str} {v : Int} (h : VF A names f) (hx : x ∈ names) : VF (putA A x v) names (K56.put f x v) := by
  refine ⟨by rw [putA_keys (by rw [h.keys]; exact hx), h.keys], fun y hy => ?_⟩
  rw [aget_put]
  unfold K56.put
  by_cases c : x = y
  · rw [if_pos c, if_pos c.symm]
  · rw [if_neg c, if_neg fun z => c z.symm]; exact h.val y hy
theorem VF.few {A : List (Str × Int)} {names : List Str} {f : Str → Int} (h : VF A names f) : A.length = names.length := by rw [← h.keys, List.length_map]
theorem dgetI {H : Hp} {d : Addr} {A : List (Str × Int)} {x : Str} {v : Int} (h : H d = some (.dK (intK A))) (hv : aget A x = some v) : DGet H d (.str x) (some (.int v)) := by
  have := Ax.get (H := H) (d := d) (A := A) ⟨.inl h⟩ x
  rwa [hv] at this
/-- names, each with an object -/
def refK (ns : List Str) (ad : Str → Addr) : List (Key × V) := ns.map fun x => (Sum.inr x, V.ref (ad x))
theorem refK_val (ad : Str → Addr) (x : Str) : ∀ ns : List Str, valV (refK ns ad) (.inr x) = if x ∈ ns then some (.ref (ad x)) else none
  | [] => rfl
  | y :: ns => by
    have ih := refK_val ad x ns
    unfold valV refK at *
    rw [List.map_cons, List.find?_cons]
    by_cases c : y = x
    · subst c; simp
    · have c' : ¬ x = y := fun z => c z.symm
      simp only [List.mem_cons, c', false_or]
      rw [show decide ((Sum.inr y : Key) = Sum.inr x) = false by simp [c]]
      exact ih
theorem refK_get {H : Hp} {d : Addr} {ns : List Str} {ad : Str → Addr} {x : Str} (h : H d = some (.dK (refK ns ad))) (hx : x ∈ ns) : DGet H d (.str x) (some (.ref (ad x))) :=
  .inl ⟨refK ns ad, .inr x, .inl h, rfl, by rw [refK_val, if_pos hx]⟩
theorem refK_len (ns : List Str) (ad : Str → Addr) : (refK ns ad).length = ns.length := by unfold refK; rw [List.length_map]
theorem refK_put (ns : List Str) (ad : Str → Addr) (x : Str) (l : Addr) : putK (refK ns ad) (.inr x) (V.ref l) = refK (addN ns x) (fun y => if y = x then l else ad y) := by
  have an : ((refK ns ad).any fun kv => decide (kv.1 = Sum.inr x)) = decide (x ∈ ns) := by
    unfold refK
    rw [List.any_map]
    by_cases c : x ∈ ns
    · rw [decide_eq_true c, List.any_eq_true]; exact ⟨x, c, by simp⟩
    · rw [decide_eq_false c, List.any_eq_false]
      intro y hy
      simp only [Function.comp, decide_eq_true_eq, Sum.inr.injEq]
      intro z; rw [z] at hy; exact c hy
  unfold putK addN
  rw [an]
  by_cases c : x ∈ ns
  · rw [if_pos (decide_eq_true c), if_pos c]
    unfold refK
    rw [List.map_map]
    refine List.map_congr_left fun y hy => ?_
    by_cases z : y = x
    · simp [z]
    · simp [z]
  · rw [if_neg (by simpa using c), if_neg c]
    unfold refK
    rw [List.map_append]
    congr 1
    · refine List.map_congr_left fun y hy => ?_
      have ne : ¬ y = x := fun z => by rw [z] at hy; exact c hy
      show (Sum.inr y, V.ref (ad y)) = (Sum.inr y, V.ref (if y = x then l else ad y))
      rw [if_neg ne]
    · simp
section
variable {P : Program} {w : World} {K : PySem.W.Frag} {mg : Str → Option Value} {base : Heap}
abbrev sNxt : Stmt := topS 2
abbrev nNxt : List Str := ["side", "least", "value"]
theorem scNxt : FnScope nNxt ["side", "least"] (defScope sNxt) := ⟨rfl, rfl, rfl, by decide +kernel, rfl, by decide +kernel, by decide +kernel⟩
def spNext (K : PySem.W.Frag) : Sp := fun vs H Q _ => ∃ (a : Addr) (ns : List Int) (z : Int), vs = [.ref a, .int z] ∧ SqL K H a (ns.map V.int) ∧
  Q (match nxv ns z with | some v => .int v | none => .non) H
theorem ok_Nxt {f  : Addr} {fd  : FuncData} (F : Fun K "next_value" "next_value" sNxt f fd) (B : Bt mg) :
    FnOk P w K mg base CX0 1 f fd ["side", "least"] (spNext K) := by
  refine F.ok scNxt (fun vs H Q E h => ?_) (fun cdv A outer s H vs Q E hr h => ?_)
  · obtain ⟨a, ns, z, rfl, _⟩ := h
    rfl
  · obtain ⟨a, ns, z, rfl, hS, q⟩ := h
    have nd := scNxt.nd
    refine ⟨_, pss_cons (ps_for PassesOwn.never rfl (pi_list (pv 0)) (pg_name (i := 2) nd rfl (.inl rfl))
        (pss_one (ps_if (pt_cmpR op_ge (pv 2) (pv 1) rfl)
            (pss_one (ps_ret (pv 2)))
            pss_nil)))
      (pss_one (ps_ret pe_non)), ?_⟩
    refine ⟨.ref a, rfl, a, rfl, ⟨_, hS⟩, for_list (xs := ns.map V.int) (fun i σ H' => H' = H ∧ (∃ y, σ = [some (.ref a), some (.int z), y]) ∧ (ns.take i).find? (fun v => decide (z ≤ v)) = none) ⟨rfl, ⟨none, rfl⟩, rfl⟩ (fun i σ H' _ h => h.1 ▸ hS) ?_ ?_⟩
    · rintro i x σ H' hx ⟨rfl, ⟨y, rfl⟩, hn⟩
      rw [List.getElem?_map] at hx
      obtain ⟨v, hv, rfl⟩ := Option.map_eq_some_iff.mp hx
      refine ⟨_, rfl, _, rfl, v, z, rfl, rfl, _, rfl, ite2 (fun c => ?_) (fun c => ?_)⟩
      · have e : nxv ns z = some v := by
          have h2 : ns = ns.take i ++ v :: ns.drop (i + 1) := by
            have h3 := List.getElem?_eq_some_iff.mp hv
            obtain ⟨h4, h5⟩ := h3
            rw [← h5, List.getElem_cons_drop, List.take_append_drop]
          unfold nxv
          rw [h2, List.find?_append, hn, List.find?_cons, c]
          rfl
        rw [e] at q
        exact ⟨_, rfl, q⟩
      · refine ⟨rfl, ⟨_, rfl⟩, ?_⟩
        rw [List.take_add_one, hv, List.find?_append, hn]
        have c' : decide (z ≤ v) = false := Bool.eq_false_iff.mpr c
        simp [c']
    · rintro σ H' ⟨rfl, _, hn⟩
      rw [List.length_map, List.take_length] at hn
      have hn' : nxv ns z = none := hn
      rw [hn'] at q
      exact q
abbrev sEdn : Stmt := topS 4
abbrev nEdn : List Str := ["edges", "names", "first", "second", "_", "name"]
theorem scEdn : FnScope nEdn ["edges"] (defScope sEdn) := ⟨rfl, rfl, rfl, by decide +kernel, rfl, by decide +kernel, by decide +kernel⟩
def spEdn : Sp := fun vs H Q _ => ∃ (l : Addr) (ts : List (Addr × Edg)), vs = [.ref l] ∧ EdL H l ts ∧ ts.length ≤ 400 ∧
  ∀ (H' : Hp) (r : Addr), Same H H' → H r = none → H' r = some (.lst ((enames (eds ts)).map V.str)) → Q (.ref r) H'
theorem ok_Edn {f  : Addr} {fd  : FuncData} (F : Fun K "edge_names" "edge_names" sEdn f fd) (B : Bt mg) :
    FnOk P w K mg base CX0 1 f fd ["edges"] spEdn := by
  refine F.ok scEdn (fun vs H Q E h => ?_) (fun cdv A outer s H vs Q E hr h => ?_)
  · obtain ⟨l, ts, rfl, _⟩ := h
    rfl
  · obtain ⟨l, ts, rfl, el, few, q⟩ := h
    have nd := scEdn.nd
    refine ⟨_, pss_cons (ps_set (i := 1) nd rfl (.inl rfl) (pe_lst pa_nil))
      (pss_cons (ps_for PassesOwn.never rfl (pi_list (pv 0)) (pg_tup (by rfl) (pgs_cons (pg_name (i := 2) nd rfl (.inl rfl)) (pgs_cons (pg_name (i := 3) nd rfl (.inl rfl)) (pgs_cons (pg_name (i := 4) nd rfl (.inl rfl)) pgs_nil))))
        (pss_one (ps_for PassesOwn.never rfl (pi_tup (pe_tup (pa_cons (pv 2) (pa_cons (pv 3) pa_nil)))) (pg_name (i := 5) nd rfl (.inl rfl))
            (pss_one (ps_if (pt_cmpR (r := rIn K true) op_notIn_seq (pv 5) (pv 1) rfl)
                (pss_one (ps_expr (pe_bm PySem.F.plainAttrs_list PySem.F.slot_list_append PySem.F.type_list_append mt_append (pv 1) (pa_cons (pv 5) pa_nil))))
                pss_nil)))))
      (pss_one (ps_ret (pv 1)))), ?_⟩
    refine ⟨by show 0 ≤ sizeLine; decide, fun R nR => ?_⟩
    refine ⟨.ref l, rfl, l, rfl, ⟨_, sl_map (el.same (same_new nR)).lst⟩, for_list (xs := ts.map fun t => V.ref t.1) (fun i σ H' => ∃ (y2 y3 y4 y5 : Option V), σ = [some (.ref l), some (.ref R), y2, y3, y4, y5] ∧ Same H H' ∧ H' R = some (.lst ((enames ((eds ts).take i)).map V.str)))
      ⟨none, none, none, none, rfl, same_new nR, upd_same⟩ (fun i σ H' _ h => by obtain ⟨_, _, _, _, _, s, _⟩ := h; exact sl_map (el.same s).lst) ?_ ?_⟩
    · rintro i x σ H1 hx ⟨y2, y3, y4, y5, rfl, s1, eR⟩
      rw [List.getElem?_map] at hx
      obtain ⟨t, ht, rfl⟩ := Option.map_eq_some_iff.mp hx
      have hi := (List.getElem?_eq_some_iff.mp ht).1
      have et := (el.same s1).tup t (List.mem_of_getElem? ht)
      have sn := enames_snoc (eds_at ht)
      have le := enames_take (es := eds ts) i
      have la := addN_len (enames ((eds ts).take i)) t.2.1
      rw [show (eds ts).length = ts.length from List.length_map _] at le
      refine ⟨t.1, _, rfl, .inl (.inl et), rfl, _, _, rfl, _, _, rfl, _, _, rfl, rfl, ?_⟩
      refine ⟨_, rfl, _, rfl, by show 2 ≤ sizeLine; decide, fun T nT => ?_⟩
      have nTR : T ≠ R := fun z => by rw [z, eR] at nT; cases nT
      have sT := same_new (o := HO.tup [V.str t.2.1, V.str t.2.2.1]) nT
      obtain ⟨g, hg⟩ : ∃ g : Nat → List Str, g = fun j => if j = 0 then enames ((eds ts).take i) else if j = 1 then addN (enames ((eds ts).take i)) t.2.1 else addE (enames ((eds ts).take i)) t.2 := ⟨_, rfl⟩
      refine ⟨T, rfl, ⟨_, .inl (.inl upd_same)⟩, for_tup (xs := [V.str t.2.1, V.str t.2.2.1]) (fun j σ H' => ∃ (y5 : Option V), σ = [some (.ref l), some (.ref R), some (.str t.2.1), some (.str t.2.2.1), some (.int t.2.2.2), y5] ∧ Same H H' ∧ H' T = some (.tup [V.str t.2.1, V.str t.2.2.1]) ∧ H' R = some (.lst ((g j).map V.str)))
        ⟨_, rfl, s1.trans sT, upd_same, by rw [hg]; exact sT _ _ eR⟩ (fun j σ H' _ h => by obtain ⟨_, _, _, h, _⟩ := h; exact .inl (.inl h)) ?_ ?_⟩
      · rintro j x σ H2 hx ⟨y5, rfl, s2, eT, eR2⟩
        obtain ⟨z, hz, gz, gl⟩ : ∃ z, x = .str z ∧ g (j + 1) = addN (g j) z ∧ (g j).length ≤ 801 := by
          rw [hg]
          match j, hx with
          | 0, hx => exact ⟨t.2.1, (Option.some.inj hx).symm, rfl, by show (enames ((eds ts).take i)).length ≤ 801; omega⟩
          | 1, hx => exact ⟨t.2.2.1, (Option.some.inj hx).symm, rfl, by show (addN (enames ((eds ts).take i)) t.2.1).length ≤ 801; omega⟩
          | k + 2, hx => cases hx
        subst hz
        refine ⟨_, rfl, _, rfl, R, _, rfl, .inl (sl_map eR2), rfl, flats_str _, _, rfl, ?_⟩
        rw [if_pos rfl, in_strs]
        refine ite_both (fun c => ⟨_, rfl, .inl ⟨rfl, _, sl_map eR2⟩, _, rfl, R, _, _, rfl, rfl, eR2, by rw [List.length_map]; exact small1000 (by omega), _, rfl, same_at s2 nR, by rw [upd_ne nTR]; exact eT, ?_⟩) fun c => ⟨_, rfl, s2, eT, ?_⟩
        · rw [upd_same, gz]
          unfold addN
          rw [if_neg (by simpa using c), List.map_append] <;> rfl
        · rw [gz]
          unfold addN
          rw [if_pos (by simpa using c)]; exact eR2
      · rintro σ H2 ⟨y5, rfl, s2, eT, eR2⟩
        rw [hg] at eR2
        exact ⟨_, _, _, _, rfl, s2, by rw [sn]; exact eR2⟩
    · rintro σ H1 ⟨y2, y3, y4, y5, rfl, s1, eR⟩
      rw [List.length_map, show ts.length = (eds ts).length from (List.length_map _).symm, List.take_length] at eR
      exact ⟨_, rfl, q H1 R s1 nR eR⟩
def spEdnT : Sp := fun vs H Q _ => ∃ (l : Addr) (ts : List (Addr × Edg)), vs = [.ref l] ∧ EdT H l ts ∧ ts.length ≤ 400 ∧
  ∀ (H' : Hp) (r : Addr), Same H H' → H r = none → H' r = some (.lst ((enames (eds ts)).map V.str)) → Q (.ref r) H'
theorem ok_EdnT {f : Addr} {fd : FuncData} (F : Fun K "edge_names" "edge_names" sEdn f fd) (B : Bt mg) :
    FnOk P w K mg base CX0 1 f fd ["edges"] spEdnT := by
  refine F.ok scEdn (fun vs H Q E h => ?_) (fun cdv A outer s H vs Q E hr h => ?_)
  · obtain ⟨l, ts, rfl, _⟩ := h
    rfl
  · obtain ⟨l, ts, rfl, el, few, q⟩ := h
    have nd := scEdn.nd
    refine ⟨_, pss_cons (ps_set (i := 1) nd rfl (.inl rfl) (pe_lst pa_nil))
      (pss_cons (ps_for PassesOwn.never rfl (pi_tup (pv 0)) (pg_tup (by rfl) (pgs_cons (pg_name (i := 2) nd rfl (.inl rfl)) (pgs_cons (pg_name (i := 3) nd rfl (.inl rfl)) (pgs_cons (pg_name (i := 4) nd rfl (.inl rfl)) pgs_nil))))
        (pss_one (ps_for PassesOwn.never rfl (pi_tup (pe_tup (pa_cons (pv 2) (pa_cons (pv 3) pa_nil)))) (pg_name (i := 5) nd rfl (.inl rfl))
            (pss_one (ps_if (pt_cmpR (r := rIn K true) op_notIn_seq (pv 5) (pv 1) rfl)
                (pss_one (ps_expr (pe_bm PySem.F.plainAttrs_list PySem.F.slot_list_append PySem.F.type_list_append mt_append (pv 1) (pa_cons (pv 5) pa_nil))))
                pss_nil)))))
      (pss_one (ps_ret (pv 1)))), ?_⟩
    refine ⟨by show 0 ≤ sizeLine; decide, fun R nR => ?_⟩
    refine ⟨.ref l, rfl, l, rfl, ⟨_, .inl (.inl (el.same (same_new nR)).lst)⟩, for_tup (xs := ts.map fun t => V.ref t.1) (fun i σ H' => ∃ (y2 y3 y4 y5 : Option V), σ = [some (.ref l), some (.ref R), y2, y3, y4, y5] ∧ Same H H' ∧ H' R = some (.lst ((enames ((eds ts).take i)).map V.str)))
      ⟨none, none, none, none, rfl, same_new nR, upd_same⟩ (fun i σ H' _ h => by obtain ⟨_, _, _, _, _, s, _⟩ := h; exact .inl (.inl (el.same s).lst)) ?_ ?_⟩
    · rintro i x σ H1 hx ⟨y2, y3, y4, y5, rfl, s1, eR⟩
      rw [List.getElem?_map] at hx
      obtain ⟨t, ht, rfl⟩ := Option.map_eq_some_iff.mp hx
      have hi := (List.getElem?_eq_some_iff.mp ht).1
      have et := (el.same s1).tup t (List.mem_of_getElem? ht)
      have sn := enames_snoc (eds_at ht)
      have le := enames_take (es := eds ts) i
      have la := addN_len (enames ((eds ts).take i)) t.2.1
      rw [show (eds ts).length = ts.length from List.length_map _] at le
      refine ⟨t.1, _, rfl, .inl (.inl et), rfl, _, _, rfl, _, _, rfl, _, _, rfl, rfl, ?_⟩
      refine ⟨_, rfl, _, rfl, by show 2 ≤ sizeLine; decide, fun T nT => ?_⟩
      have nTR : T ≠ R := fun z => by rw [z, eR] at nT; cases nT
      have sT := same_new (o := HO.tup [V.str t.2.1, V.str t.2.2.1]) nT
      obtain ⟨g, hg⟩ : ∃ g : Nat → List Str, g = fun j => if j = 0 then enames ((eds ts).take i) else if j = 1 then addN (enames ((eds ts).take i)) t.2.1 else addE (enames ((eds ts).take i)) t.2 := ⟨_, rfl⟩
      refine ⟨T, rfl, ⟨_, .inl (.inl upd_same)⟩, for_tup (xs := [V.str t.2.1, V.str t.2.2.1]) (fun j σ H' => ∃ (y5 : Option V), σ = [some (.ref l), some (.ref R), some (.str t.2.1), some (.str t.2.2.1), some (.int t.2.2.2), y5] ∧ Same H H' ∧ H' T = some (.tup [V.str t.2.1, V.str t.2.2.1]) ∧ H' R = some (.lst ((g j).map V.str)))
        ⟨_, rfl, s1.trans sT, upd_same, by rw [hg]; exact sT _ _ eR⟩ (fun j σ H' _ h => by obtain ⟨_, _, _, h, _⟩ := h; exact .inl (.inl h)) ?_ ?_⟩
      · rintro j x σ H2 hx ⟨y5, rfl, s2, eT, eR2⟩
        obtain ⟨z, hz, gz, gl⟩ : ∃ z, x = .str z ∧ g (j + 1) = addN (g j) z ∧ (g j).length ≤ 801 := by
          rw [hg]
          match j, hx with
          | 0, hx => exact ⟨t.2.1, (Option.some.inj hx).symm, rfl, by show (enames ((eds ts).take i)).length ≤ 801; omega⟩
          | 1, hx => exact ⟨t.2.2.1, (Option.some.inj hx).symm, rfl, by show (addN (enames ((eds ts).take i)) t.2.1).length ≤ 801; omega⟩
          | k + 2, hx => cases hx
        subst hz
        refine ⟨_, rfl, _, rfl, R, _, rfl, .inl (sl_map eR2), rfl, flats_str _, _, rfl, ?_⟩
        rw [if_pos rfl, in_strs]
        refine ite_both (fun c => ⟨_, rfl, .inl ⟨rfl, _, sl_map eR2⟩, _, rfl, R, _, _, rfl, rfl, eR2, by rw [List.length_map]; exact small1000 (by omega), _, rfl, same_at s2 nR, by rw [upd_ne nTR]; exact eT, ?_⟩) fun c => ⟨_, rfl, s2, eT, ?_⟩
        · rw [upd_same, gz]
          unfold addN
          rw [if_neg (by simpa using c), List.map_append] <;> rfl
        · rw [gz]
          unfold addN
          rw [if_pos (by simpa using c)]; exact eR2
      · rintro σ H2 ⟨y5, rfl, s2, eT, eR2⟩
        rw [hg] at eR2
        exact ⟨_, _, _, _, rfl, s2, by rw [sn]; exact eR2⟩
    · rintro σ H1 ⟨y2, y3, y4, y5, rfl, s1, eR⟩
      rw [List.length_map, show ts.length = (eds ts).length from (List.length_map _).symm, List.take_length] at eR
      exact ⟨_, rfl, q H1 R s1 nR eR⟩
abbrev sLvs : Stmt := topS 5
abbrev nLvs : List Str := ["names", "box", "name"]
theorem scLvs : FnScope nLvs ["names", "box"] (defScope sLvs) := ⟨rfl, rfl, rfl, by decide +kernel, rfl, by decide +kernel, by decide +kernel⟩
def spLvs : Sp := fun vs H Q _ => ∃ (m b : Addr) (ns : List Str) (L : List Ent) (S : Str → List Int), vs = [.ref m, .ref b] ∧ H m = some (.lst (ns.map V.str)) ∧ ns.Nodup ∧ ns.length ≤ 40 ∧ Bu H b L ∧ Fit L ns S ∧ (∀ x ∈ ns, S x ≠ []) ∧
  ∀ (H' : Hp) (d : Addr) (A : List (Str × Int)), Same H H' → H d = none → H' d = some (.dK (intK A)) → VF A ns (hd0 S) → Q (.ref d) H'
theorem ok_Lvs {f  : Addr} {fd  : FuncData} (F : Fun K "least_values" "least_values" sLvs f fd) (B : Bt mg) :
    FnOk P w K mg base CX0 1 f fd ["names", "box"] spLvs := by
  refine F.ok scLvs (fun vs H Q E h => ?_) (fun cdv A outer s H vs Q E hr h => ?_)
  · obtain ⟨m, b, ns, L, S, rfl, _⟩ := h
    rfl
  · obtain ⟨m, b, ns, L, S, rfl, em, nn, few, B1, F1, ne, q⟩ := h
    have hu := hu_of hr
    have nd := scLvs.nd
    refine ⟨_, pss_one (ps_ret (pe_dc (own := [("name", 2)]) (g := gName 2) (tt := tYes) (tk := tVar 2) rfl nd (pi_list (pv 0)) (blkOk_by (N := nLvs) (sc := defScope sLvs) (by decide +kernel)) (fun _ _ _ _ _ => pg_name (i := 2) nd rfl (.inl rfl)) (fun _ _ _ _ _ => pts_nil)
          (fun _ _ _ _ _ => (pv 2)) (fun _ _ _ _ _ => (pe_ix (r := rIxL K) ix_list (pe_dget hu (pv 1) (pv 2) (fun _ _ => rfl)) pe_int (fun _ _ => rfl))))), ?_⟩
    refine ⟨.ref m, rfl, m, rfl, ⟨_, sl_map em⟩, fun d nd1 => dc_it (walk_list (xs := ns.map V.str)) (fun i H' => Same H H' ∧ H' d = some (.dK (intK ((ns.take i).map fun x => (x, hd0 S x))))) ⟨same_new nd1, upd_same⟩ (fun i H' _ h => sl_map (h.1 _ _ em)) ?_ ?_⟩
    · rintro i x H2 H3 hi ⟨s2, ed⟩ ⟨rfl, hx0⟩
      rw [List.getElem?_map] at hx0
      obtain ⟨x, hx, rfl⟩ := Option.map_eq_some_iff.mp hx0
      have hi' := (List.getElem?_eq_some_iff.mp hx).1
      have xm := List.mem_of_getElem? hx
      have xn : x ∉ ((ns.take i).map fun x => (x, hd0 S x)).map (·.1) := by
        rw [List.map_map]
        intro z
        obtain ⟨y, hy, e⟩ := List.mem_map.mp z
        exact not_take nn hx (by rw [← show y = x from e]; exact hy)
      obtain ⟨a, ga, ea⟩ := Fit.get (B1.same' s2) F1 xm
      have h0 : (S x)[0]? = some (hd0 S x) := by
        have := ne x xm
        unfold hd0
        cases c : S x with
        | nil => exact absurd c this
        | cons y s => rfl
      refine ⟨rfl, .str x, rfl, _, rfl, _, rfl, b, .ref a, rfl, ga, a, _, _, .int (hd0 S x), rfl, rfl, sl_map ea, atI_nat (j := 0) (by rw [List.getElem?_map, h0] <;> rfl), _, .inr x, rfl, ed, by rw [intK_len, List.length_map, List.length_take]; exact small1000 (by omega), same_at s2 nd1, ?_⟩
      rw [upd_same]
      show some (HO.dK (putK _ (.inr x) (V.int (hd0 S x)))) = _
      rw [putK_int, putA_new xn, take_snoc hx, List.map_append] <;> rfl
    · rintro H2 ⟨s2, ed⟩
      rw [List.length_map, List.take_length] at ed
      refine q _ _ _ s2 nd1 ed ⟨by rw [List.map_map] <;> exact List.map_id _, fun x hx => ?_⟩
      exact (aget_iff (by rw [List.map_map]; exact (List.map_id ns).symm ▸ nn) x _).mpr (List.mem_map.mpr ⟨x, hx, rfl⟩)
abbrev sSpv : Stmt := topS 6
abbrev nSpv : List Str := ["edge", "values", "box", "first", "second", "gap"]
theorem scSpv : FnScope nSpv ["edge", "values", "box"] (defScope sSpv) := ⟨rfl, rfl, rfl, by decide +kernel, rfl, by decide +kernel, by decide +kernel⟩
def spSpv : Sp := fun vs H Q _ => ∃ (T d b : Addr) (e : Edg) (A : List (Str × Int)) (ns : List Str) (f : Str → Int) (L : List Ent) (S : Str → List Int), vs = [.ref T, .ref d, .ref b] ∧ H T = some (.tup [.str e.1, .str e.2.1, .int e.2.2]) ∧ H d = some (.dK (intK A)) ∧ VF A ns f ∧ Bu H b L ∧ Fit L ns S ∧ e.1 ∈ ns ∧ e.2.1 ∈ ns ∧
  Q (match nxv (S e.2.1) (max (f e.2.1) (due f e)) with | some v => .int v | none => .non) H
theorem ok_Spv {f f0 : Addr} {fd fd0 : FuncData} (F : Fun K "step_value" "step_value" sSpv f fd) (B : Bt mg) (zmax : mg "max" = none) (CNxt : Call P w K mg base 1 "next_value" f0 fd0 ["side", "least"] (spNext K)) :
    FnOk P w K mg base CX0 2 f fd ["edge", "values", "box"] spSpv := by
  refine F.ok scSpv (fun vs H Q E h => ?_) (fun cdv A outer s H vs Q E hr h => ?_)
  · obtain ⟨T, d, b, e, A, ns, f, L, S, rfl, _⟩ := h
    rfl
  · obtain ⟨T, d, b, e, A, ns, f, L, S, rfl, eT, ed, vf, B1, F1, h1, h2, q⟩ := h
    have hu := hu_of hr
    have nd := scSpv.nd
    refine ⟨_, pss_cons (ps_asg (pv 0) (pg_tup (by rfl) (pgs_cons (pg_name (i := 3) nd rfl (.inl rfl)) (pgs_cons (pg_name (i := 4) nd rfl (.inl rfl)) (pgs_cons (pg_name (i := 5) nd rfl (.inl rfl)) pgs_nil)))))
      (pss_one (ps_ret (pe_call CNxt.ok (hr.mono (by decide)) (by rfl) CNxt.at_ CNxt.kp CNxt.bd .nil pass0 (pa_cons (pe_dget hu (pv 2) (pv 4) (fun _ _ => rfl)) (pa_cons (pe_callB (call_max2 rfl) (by rfl) zmax PyProof.Rows.boot_max (pa_cons (pe_dget hu (pv 1) (pv 4) (fun _ _ => rfl)) (pa_cons (pe_op op_sub (pe_dget hu (pv 1) (pv 3) (fun _ _ => rfl)) (pv 5)) pa_nil))) pa_nil))))), ?_⟩
    have g1 := dgetI ed (vf.val _ h1)
    have g2 := dgetI ed (vf.val _ h2)
    obtain ⟨a, ga, ea⟩ := Fit.get B1 F1 h2
    refine ⟨_, rfl, T, _, rfl, .inl (.inl eT), rfl, _, _, rfl, _, _, rfl, _, _, rfl, rfl, ?_⟩
    refine ⟨_, rfl, _, rfl, b, .ref a, rfl, ga, _, rfl, _, rfl, d, .int (f e.2.1), rfl, g2, _, rfl, _, rfl, d, .int (f e.1), rfl, g1, _, rfl, _, _, rfl, rfl, _, _, rfl, ?_⟩
    have mx : max (f e.2.1) (due f e) = if f e.1 - e.2.2 > f e.2.1 then f e.1 - e.2.2 else f e.2.1 := by
      unfold due
      split <;> omega
    rw [mx] at q
    exact ⟨a, _, _, rfl, sl_map ea, q⟩
end
end K56
set_option Elab.async false
set_option linter.all false
set_option maxRecDepth 100000
set_option maxHeartbeats 4000000
namespace K56
open PySem PySem.Spec PyProof.Rows L2 Cs CsX
/-- a dict from names to lists of its own -/
structure Lv (H0 H : Hp) (D : Addr) (ns : List Str) (ad : Str → Addr) (g : Str → List Int) : Prop where
  dict : H D = some (.dK (refK ns ad))
  lst : ∀ x ∈ ns, H (ad x) = some (.lst ((g x).map V.int))
  inj : ∀ x ∈ ns, ∀ y ∈ ns, ad x = ad y → x = y
  fre : ∀ x ∈ ns, H0 (ad x) = none
  freD : H0 D = none
section
variable {H0 H H' : Hp} {D l q : Addr} {ns : List Str} {ad : Str → Addr} {g : Str → List Int} {o : HO} {x : Str} {s : List Int}
theorem Lv.same (h : Lv H0 H D ns ad g) (s : Same H H') : Lv H0 H' D ns ad g := ⟨s _ _ h.dict, fun x hx => s _ _ (h.lst x hx), h.inj, h.fre, h.freD⟩
theorem Lv.old (h : Lv H0 H D ns ad g) (hq : H0 q ≠ none) : Lv H0 (upd H q o) D ns ad g :=
  ⟨by rw [upd_ne fun z => hq (by rw [← z]; exact h.freD)]; exact h.dict, fun x hx => by rw [upd_ne fun z => hq (by rw [← z]; exact h.fre x hx)]; exact h.lst x hx, h.inj, h.fre, h.freD⟩
theorem Lv.oth (h : Lv H0 H D ns ad g) (h1 : D ≠ q) (h2 : ∀ x ∈ ns, ad x ≠ q) : Lv H0 (upd H q o) D ns ad g :=
  ⟨by rw [upd_ne h1]; exact h.dict, fun x hx => by rw [upd_ne (h2 x hx)]; exact h.lst x hx, h.inj, h.fre, h.freD⟩
theorem Lv.congr {g' : Str → List Int} (h : Lv H0 H D ns ad g) (e : ∀ x ∈ ns, g x = g' x) : Lv H0 H D ns ad g' := ⟨h.dict, fun x hx => by rw [← e x hx]; exact h.lst x hx, h.inj, h.fre, h.freD⟩
theorem Lv.nil (h : H D = some (.dK [])) (h0 : H0 D = none) : Lv H0 H D [] ad g := ⟨h, (fun _ h => nomatch h), (fun _ h => nomatch h), (fun _ h => nomatch h), h0⟩
theorem Lv.set (h : Lv H0 H D ns ad g) (h0 : H0 l = none) (hl : H l = some (.lst (s.map V.int))) (ne : ∀ x ∈ ns, ad x ≠ l) :
    Lv H0 (upd H D (.dK (refK (addN ns x) fun y => if y = x then l else ad y))) D (addN ns x) (fun y => if y = x then l else ad y) (fun y => if y = x then s else g y) := by
  have lD : l ≠ D := fun z => by rw [z, h.dict] at hl; cases hl
  have aD : ∀ y ∈ ns, ad y ≠ D := fun y hy z => by have := h.lst y hy; rw [z, h.dict] at this; cases this
  have mem : ∀ y ∈ addN ns x, y ≠ x → y ∈ ns := fun y hy n => (addN_mem.mp hy).resolve_right n
  refine ⟨upd_same, fun y hy => ?_, fun y hy z hz => ?_, fun y hy => ?_, h.freD⟩
  · by_cases c : y = x
    · show upd H D _ (if y = x then l else ad y) = some (.lst ((if y = x then s else g y).map V.int))
      rw [if_pos c, if_pos c, upd_ne lD]; exact hl
    · show upd H D _ (if y = x then l else ad y) = some (.lst ((if y = x then s else g y).map V.int))
      rw [if_neg c, if_neg c, upd_ne (aD y (mem y hy c))]; exact h.lst y (mem y hy c)
  · show (if y = x then l else ad y) = (if z = x then l else ad z) → y = z
    by_cases c : y = x
    · by_cases d : z = x
      · intro _; rw [c, d]
      · rw [if_pos c, if_neg d]
        intro e; exact absurd e.symm (ne z (mem z hz d))
    · by_cases d : z = x
      · rw [if_neg c, if_pos d]
        intro e; exact absurd e (ne y (mem y hy c))
      · rw [if_neg c, if_neg d]
        exact h.inj y (mem y hy c) z (mem z hz d)
  · show H0 (if y = x then l else ad y) = none
    by_cases c : y = x
    · rw [if_pos c]; exact h0
    · rw [if_neg c]; exact h.fre y (mem y hy c)
theorem Lv.app (h : Lv H0 H D ns ad g) (hx : x ∈ ns) : Lv H0 (upd H (ad x) (.lst (s.map V.int))) D ns ad (fun y => if y = x then s else g y) := by
  have aD : D ≠ ad x := fun z => by have := h.lst x hx; rw [← z, h.dict] at this; cases this
  refine ⟨by rw [upd_ne aD]; exact h.dict, fun y hy => ?_, h.inj, h.fre, h.freD⟩
  show upd H (ad x) _ (ad y) = some (.lst ((if y = x then s else g y).map V.int))
  by_cases c : y = x
  · subst c; rw [upd_same, if_pos rfl]
  · rw [upd_ne fun z => c (h.inj y hy x hx z), if_neg c]; exact h.lst y hy
theorem Lv.ne_of (h : Lv H0 H D ns ad g) (hq : H q = none) : D ≠ q ∧ ∀ x ∈ ns, ad x ≠ q := ⟨(fun z => by have := h.dict; rw [z, hq] at this; cases this), fun x hx z => by have := h.lst x hx; rw [z, hq] at this; cases this⟩
end
abbrev natV (st : List Nat) : List V := (st.map fun n : Nat => (n : Int)).map V.int
theorem natV_at {st : List Nat} {j i : Nat} (h : st[j]? = some i) : (natV st)[j]? = some (.int (i : Int)) := by
  unfold natV
  rw [List.getElem?_map, List.getElem?_map, h] <;> rfl
theorem natV_len (st : List Nat) : (natV st).length = st.length := by unfold natV; rw [List.length_map, List.length_map]
theorem natV_snoc (st : List Nat) (i : Nat) : natV (st ++ [i]) = natV st ++ [.int (i : Int)] := by unfold natV; rw [List.map_append, List.map_append] <;> rfl
def outI (es : List Edg) (x : Str) (n : Nat) : List Int := (outN es x n).map fun n : Nat => (n : Int)
theorem outI_succ (es : List Edg) (x : Str) (n : Nat) : outI es x (n + 1) = if (eg es n).1 = x then outI es x n ++ [(n : Int)] else outI es x n := by
  unfold outI
  rw [outN_succ]
  split
  · rw [List.map_append] <;> rfl
  · rfl
/-- the climb at work -/
structure Cl (H H' : Hp) (D Va W R : Addr) (es : List Edg) (ad : Str → Addr) (A : List (Str × Int)) (f : Str → Int) (w : List Str) (st : List Nat) : Prop where
  same : Same H H'
  lv : Lv H H' D (enames es) ad (fun x => outI es x es.length)
  ev : H' Va = some (.dK (intK A))
  vf : VF A (enames es) f
  ew : H' W = some (.lst (w.map V.str))
  er : H' R = some (.lst (natV st))
  nv : H Va = none
  nw : H W = none
  nr : H R = none
  dV : D ≠ Va
  wR : W ≠ R
  aW : ∀ x ∈ enames es, ad x ≠ W
  aR : ∀ x ∈ enames es, ad x ≠ R
section
variable {H H' : Hp} {D Va W R : Addr} {es : List Edg} {ad : Str → Addr} {A : List (Str × Int)} {f : Str → Int} {w : List Str} {st : List Nat}
theorem Cl.d (C : Cl H H' D Va W R es ad A f w st) : D ≠ W ∧ D ≠ R ∧ Va ≠ W ∧ Va ≠ R ∧ ∀ x ∈ enames es, ad x ≠ Va := by
  refine ⟨fun z => ?_, fun z => ?_, fun z => ?_, fun z => ?_, fun x hx z => ?_⟩
  · have := C.lv.dict; rw [z, C.ew] at this; cases this
  · have := C.lv.dict; rw [z, C.er] at this; cases this
  · have := C.ev; rw [z, C.ew] at this; cases this
  · have := C.ev; rw [z, C.er] at this; cases this
  · have := C.lv.lst x hx; rw [z, C.ev] at this; cases this
theorem Cl.putV {A2 : List (Str × Int)} {f2 : Str → Int} (C : Cl H H' D Va W R es ad A f w st) (vf : VF A2 (enames es) f2) : Cl H (upd H' Va (.dK (intK A2))) D Va W R es ad A2 f2 w st := by
  obtain ⟨d1, d2, d3, d4, d5⟩ := C.d
  exact ⟨same_at C.same C.nv, C.lv.oth C.dV d5, upd_same, vf, by rw [upd_ne d3.symm]; exact C.ew, by rw [upd_ne d4.symm]; exact C.er, C.nv, C.nw, C.nr, C.dV, C.wR, C.aW, C.aR⟩
theorem Cl.putW {w2 : List Str} (C : Cl H H' D Va W R es ad A f w st) : Cl H (upd H' W (.lst (w2.map V.str))) D Va W R es ad A f w2 st := by
  obtain ⟨d1, d2, d3, d4, d5⟩ := C.d
  exact ⟨same_at C.same C.nw, C.lv.oth d1 C.aW, by rw [upd_ne d3]; exact C.ev, C.vf, upd_same, by rw [upd_ne C.wR.symm]; exact C.er, C.nv, C.nw, C.nr, C.dV, C.wR, C.aW, C.aR⟩
theorem Cl.putR {st2 : List Nat} (C : Cl H H' D Va W R es ad A f w st) : Cl H (upd H' R (.lst (natV st2))) D Va W R es ad A f w st2 := by
  obtain ⟨d1, d2, d3, d4, d5⟩ := C.d
  exact ⟨same_at C.same C.nr, C.lv.oth d2 C.aR, by rw [upd_ne d4]; exact C.ev, C.vf, by rw [upd_ne C.wR]; exact C.ew, upd_same, C.nv, C.nw, C.nr, C.dV, C.wR, C.aW, C.aR⟩
theorem Cl.more {H2 : Hp} (C : Cl H H' D Va W R es ad A f w st) (s : Same H' H2) : Cl H H2 D Va W R es ad A f w st := ⟨C.same.trans s, C.lv.same s, s _ _ C.ev, C.vf, s _ _ C.ew, s _ _ C.er, C.nv, C.nw, C.nr, C.dV, C.wR, C.aW, C.aR⟩
end
theorem seq0 (x : Str) (w : List Str) : seqIndex? 0 ((x :: w).map V.str).length = some 0 := by
  rw [List.length_map, List.length_cons]
  unfold seqIndex?
  simp
  try omega
theorem drop_at {α : Type} {xs : List α} {j : Nat} {a : α} (h : xs[j]? = some a) : xs.drop j = a :: xs.drop (j + 1) := by
  obtain ⟨h1, h2⟩ := List.getElem?_eq_some_iff.mp h
  rw [List.drop_eq_getElem_cons h1, h2]
theorem hd0_le {es : List Edg} {S : Str → List Int} (W : Wd es S) {x : Str} (hx : x ∈ enames es) {w : Int} (h : w ∈ S x) : hd0 S x ≤ w := by
  have h1 := W.srt x hx
  unfold hd0
  cases e : S x with
  | nil => rw [e] at h; cases h
  | cons y s =>
    rw [e] at h1 h
    rcases List.mem_cons.mp h with z | z
    · rw [z]; exact Int.le_refl _
    · exact Int.le_of_lt ((List.pairwise_cons.mp h1).1 w z)
section
variable {P : Program} {w : World} {K : PySem.W.Frag} {mg : Str → Option Value} {base : Heap}
abbrev sClb : Stmt := topS 7
abbrev nClb : List Str := ["edges", "box", "start", "moved", "name", "leaving", "position", "edge", "values", "waiting", "steps", "second", "value"]
theorem scClb : FnScope nClb ["edges", "box", "start", "moved"] (defScope sClb) := ⟨rfl, rfl, rfl, by decide +kernel, rfl, by decide +kernel, by decide +kernel⟩
def spClb : Sp := fun vs H Q _ => ∃ (l b d m : Addr) (ts : List (Addr × Edg)) (L : List Ent) (A : List (Str × Int)) (S S1 : Str → List Int) (N : List Str), vs = [.ref l, .ref b, .ref d, .ref m] ∧ EdT H l ts ∧ ts.length ≤ 400 ∧ Bu H b L ∧ Fit L (enames (eds ts)) S1 ∧ Wd (eds ts) S ∧ (∀ x ∈ enames (eds ts), ∀ k, hd0 S x ≤ k → nxv (S1 x) k = nxv (S x) k) ∧ N.Nodup ∧ (∀ x ∈ N, x ∈ enames (eds ts)) ∧ (∀ e ∈ eds ts, e.1 ∉ N → ¬ Brk (hd0 S) e) ∧ H d = some (.dK (intK A)) ∧ VF A (enames (eds ts)) (hd0 S) ∧ H m = some (.lst (N.map V.str)) ∧
  (∀ (H' : Hp) (T r : Addr) (st : List Nat), Same H H' → H T = none → H' T = some (.tup [.non, .ref r]) → H r = none → H' r = some (.lst (natV st)) → Run (eds ts) S (N, []) (.inl st) → Broken (eds ts) S st → (∀ a, ¬ Alw (eds ts) S a) → Q (.ref T) H') ∧
  (∀ (H' : Hp) (T d' r : Addr) (A' : List (Str × Int)) (st : List Nat), Same H H' → H T = none → H' T = some (.tup [.ref d', .ref r]) → H d' = none → H' d' = some (.dK (intK A')) → VF A' (enames (eds ts)) (vals (eds ts) S st) → Lst (eds ts) S (vals (eds ts) S st) → Q (.ref T) H')
theorem ok_Clb {f f0 : Addr} {fd fd0 : FuncData} (F : Fun K "climbed" "climbed" sClb f fd) (B : Bt mg) (zenum : mg "enumerate" = none) (CSpv : Call P w K mg base 2 "step_value" f0 fd0 ["edge", "values", "box"] spSpv) :
    FnOk P w K mg base CX0 3 f fd ["edges", "box", "start", "moved"] spClb := by
  refine F.ok scClb (fun vs H Q E h => ?_) (fun cdv A outer s H vs Q E hr h => ?_)
  · obtain ⟨l, b, d, m, ts, L, A, S, S1, N, rfl, _⟩ := h
    rfl
  · obtain ⟨l, b, d, m, ts, L, A', S, S1, N, rfl, el, few, B1, F1, W, hS, nN, sN, bN, ed, vf, em, q1, q2⟩ := h
    have hu := hu_of hr
    have nd := scClb.nd
    refine ⟨_, pss_cons (ps_lock (ps_setDc (i := 5) (own := [("name", 4)]) (g := gName 4) (tt := tYes) (tk := tVar 4) rfl nd rfl rfl (by rfl) (pi_keys (pv 2)) (blkOk_by (N := nClb) (sc := defScope sClb) (by decide +kernel)) (fun _ _ _ _ _ => pg_name (i := 4) nd rfl (.inl rfl)) (fun _ _ _ _ _ => pts_nil)
          (fun _ _ _ _ _ => (pv 4)) (fun _ _ _ _ _ => (pe_lst pa_nil))))
      (pss_cons (ps_for PassesOwn.never rfl (pi_enumT (by rfl) zenum (pa_cons (pv 0) pa_nil)) (pg_tup (by rfl) (pgs_cons (pg_name (i := 6) nd rfl (.inl rfl)) (pgs_cons (pg_name (i := 7) nd rfl (.inl rfl)) pgs_nil)))
        (pss_one (ps_expr (pe_bm PySem.F.plainAttrs_list PySem.F.slot_list_append PySem.F.type_list_append mt_append (pe_dget hu (pv 5) (pe_ix ix_tup (pv 7) pe_int (fun _ _ => rfl)) (fun _ _ => rfl)) (pa_cons (pv 6) pa_nil)))))
      (pss_cons (ps_set (i := 8) nd rfl (.inl rfl) (pe_callTy call_dictD (by rfl) B.dict PyProof.Rows.boot_dict (pa_cons (pv 2) pa_nil)))
      (pss_cons (ps_set (i := 9) nd rfl (.inl rfl) (pe_callTy call_list_of (by rfl) B.list PyProof.Rows.boot_list (pa_cons (pv 3) pa_nil)))
      (pss_cons (ps_set (i := 10) nd rfl (.inl rfl) (pe_lst pa_nil))
      (pss_cons (ps_while PassesOwn.never (pt_cmpR op_gt (pe_callB call_len_seq (by rfl) B.len PySem.boot_len (pa_cons (pv 9) pa_nil)) pe_int rfl)
        (pss_cons (ps_set (i := 4) nd rfl (.inl rfl) (pe_bm PySem.F.plainAttrs_list PySem.F.slot_list_pop PySem.F.type_list_pop mt_popAt (pv 9) (pa_cons pe_int pa_nil)))
          (pss_one (ps_for PassesOwn.never rfl (pi_list (pe_dget hu (pv 5) (pv 4) (fun _ _ => rfl))) (pg_name (i := 6) nd rfl (.inl rfl))
            (pss_cons (ps_set (i := 11) nd rfl (.inl rfl) (pe_ix ix_tup (pe_ix ix_tup (pv 0) (pv 6) (fun _ _ => rfl)) pe_int (fun _ _ => rfl)))
              (pss_cons (ps_set (i := 12) nd rfl (.inl rfl) (pe_call CSpv.ok (hr.mono (by decide)) (by rfl) CSpv.at_ CSpv.kp CSpv.bd .nil pass0 (pa_cons (pe_ix ix_tup (pv 0) (pv 6) (fun _ _ => rfl)) (pa_cons (pv 8) (pa_cons (pv 1) pa_nil)))))
              (pss_cons (ps_if (pt_cmp (pc_isN (pv 12)))
                (pss_one (ps_ret (pe_tup (pa_cons pe_non (pa_cons (pe_op op_cat (pv 10) (pe_lst (pa_cons (pv 6) pa_nil))) pa_nil)))))
                pss_nil)
              (pss_one (ps_if (pt_cmpR op_gt (pv 12) (pe_dget hu (pv 8) (pv 11) (fun _ _ => rfl)) rfl)
                (pss_cons (ps_dput hu (pv 8) (pv 11) (pv 12) rfl)
                  (pss_cons (ps_expr (pe_bm PySem.F.plainAttrs_list PySem.F.slot_list_append PySem.F.type_list_append mt_append (pv 10) (pa_cons (pv 6) pa_nil)))
                  (pss_one (ps_if (pt_cmpR (r := rIn K true) op_notIn_seq (pv 11) (pv 9) rfl)
                    (pss_one (ps_expr (pe_bm PySem.F.plainAttrs_list PySem.F.slot_list_append PySem.F.type_list_append mt_append (pv 9) (pa_cons (pv 11) pa_nil))))
                    pss_nil))))
                pss_nil)))))))))
      (pss_one (ps_ret (pe_tup (pa_cons (pv 8) (pa_cons (pv 10) pa_nil)))))))))), ?_⟩
    have nn := enames_nd (eds ts)
    have n12 := W.nam
    have ets : ∀ {i : Nat} {t : Addr × Edg}, ts[i]? = some t → t.2.1 ∈ enames (eds ts) ∧ t.2.2.1 ∈ enames (eds ts) := fun {i t} ht => ends (List.mem_of_getElem? (eds_at ht))
    obtain ⟨ns, hns⟩ : ∃ ns, ns = enames (eds ts) := ⟨_, rfl⟩
    have fA := vf.few
    refine ⟨d, _, ed, trivial, fun od => ?_⟩
    refine ⟨.ref d, rfl, d, od, rfl, .inl ⟨intK A', upd_same, fun D nD => dc_it walk_keys (fun i H' => ∃ ad, Same (upd H d (.frz od (.dK (intK A')))) H' ∧ Lv (upd H d (.frz od (.dK (intK A')))) H' D (ns.take i) ad fun _ => []) ⟨fun _ => 0, same_new nD, Lv.nil upd_same nD⟩ (fun i H' _ h => by obtain ⟨_, h, _⟩ := h; exact h _ _ upd_same) ?_ ?_⟩⟩
    · rintro i x H2 H3 hi ⟨ad, s2, lv⟩ ⟨rfl, k1, v1, hk, rfl⟩
      obtain ⟨e, he, rfl, rfl⟩ := keysI hk
      have hx : ns[i]? = some e.1 := by rw [hns, ← vf.keys, List.getElem?_map, he] <;> rfl
      have nx := not_take (by rw [hns]; exact nn) hx
      refine ⟨rfl, .str e.1, rfl, by show 0 ≤ sizeLine; decide, fun p np => ?_⟩
      have s3 := same_at s2 (s2.free np) (o := HO.lst [])
      have lv3 := lv.same (same_new np (o := HO.lst []))
      have hi' := (List.getElem?_eq_some_iff.mp hx).1
      refine ⟨_, .inr e.1, rfl, lv3.dict, by rw [refK_len, List.length_take, hns]; exact small1000 (by omega), fun y => if y = e.1 then p else ad y, same_at s3 lv3.freD, ?_⟩
      rw [refK_put]
      have := lv3.set (x := e.1) (s := []) (s2.free np) upd_same (lv.ne_of np).2
      rw [show addN (ns.take i) e.1 = ns.take (i + 1) by rw [take_snoc hx]; exact if_neg nx] at this ⊢
      exact this.congr fun y hy => by split <;> rfl
    rintro H2 ⟨ad, s2, lv⟩
    rw [intK_len, fA, ← hns, List.take_length] at lv
    have eF := s2 _ _ (upd_same (H := H) (a := d) (o := HO.frz od (.dK (intK A'))))
    have dne : (upd H d (.frz od (.dK (intK A')))) d ≠ none := by rw [upd_same]; exact fun z => nomatch z
    refine ⟨eF, ?_⟩
    have lv2 : Lv H (upd H2 d (.dK (intK A'))) D ns ad fun _ => [] := by
      have := lv.old dne (o := HO.dK (intK A'))
      have un : ∀ {a}, (upd H d (.frz od (.dK (intK A')))) a = none → H a = none := fun {a} h => by
        by_cases c : a = d
        · rw [c, upd_same] at h; cases h
        · rwa [upd_ne c] at h
      exact ⟨this.dict, this.lst, this.inj, fun x hx => un (this.fre x hx), un this.freD⟩
    have s3 := unlock ed s2
    generalize upd H2 d (.dK (intK A')) = H3 at lv2 s3 ⊢
    clear s2 lv eF dne
    refine ⟨.ref l, rfl, l, _, rfl, (.inl (.inl (el.same s3).lst)), for_it walk_enumT (fun j σ H' => ∃ (y6 y7 : Option V), σ = [some (.ref l), some (.ref b), some (.ref d), some (.ref m), none, some (.ref D), y6, y7, none, none, none, none, none] ∧ Same H H' ∧ Lv H H' D ns ad fun x => outI (eds ts) x j)
      ⟨none, none, rfl, s3, lv2⟩ (fun j σ H' _ h => by obtain ⟨_, _, _, h, _⟩ := h; exact .inl (.inl (el.same h).lst)) ?_ ?_⟩
    · rintro j z σ H5 H6 hj ⟨y6, y7, rfl, s5, lv5⟩ ⟨T, x1, x2, rfl, nT, rfl, g1, g2⟩
      replace g2 : (ts.map fun t => V.ref t.1)[j]? = some x2 := g2
      rw [List.getElem?_map] at g2
      obtain ⟨t, ht, rfl⟩ := Option.map_eq_some_iff.mp g2
      obtain rfl := Option.some.inj g1
      have sT := same_new (o := HO.tup [V.int (j : Nat), V.ref t.1]) nT
      have s6 := s5.trans sT
      have et := (el.same s6).tup t (List.mem_of_getElem? ht)
      have lv6 := lv5.same sT
      obtain ⟨u1, u2⟩ := ets ht
      rw [← hns] at u1 u2
      have hj' := (List.getElem?_eq_some_iff.mp ht).1
      have gd := refK_get lv6.dict u1
      have ea := lv6.lst _ u1
      have ol := outN_len (es := eds ts) t.2.1 j
      refine ⟨T, _, rfl, .inl (.inl upd_same), rfl, _, _, rfl, _, _, rfl, rfl, ?_⟩
      refine ⟨_, rfl, _, rfl, t.1, _, _, .str t.2.1, rfl, rfl, .inl (.inl et), atI_nat (j := 0) rfl, D, .ref (ad t.2.1), rfl, gd, .inl ⟨rfl, _, sl_map ea⟩, _, rfl, ad t.2.1, _, _, rfl, rfl, ea, by rw [List.length_map]; unfold outI; rw [List.length_map]; exact small1000 (by omega), _, _, rfl, same_at s6 (lv6.fre _ u1), ?_⟩
      have := lv6.app (s := outI (eds ts) t.2.1 j ++ [(j : Int)]) u1
      rw [List.map_append] at this
      refine this.congr fun y hy => ?_
      rw [outI_succ, eg_of (eds_at ht)]
      by_cases c : y = t.2.1
      · rw [if_pos c, if_pos c.symm, c]
      · rw [if_neg c, if_neg fun z => c z.symm]
    rintro σ H4 ⟨y6, y7, rfl, s4, lv4⟩
    have el4 := el.same s4
    rw [List.length_map, show ts.length = (eds ts).length from (List.length_map _).symm] at lv4
    refine ⟨_, rfl, d, _, rfl, .inl (s4 _ _ ed), fun Va nV => ?_⟩
    have t1 := same_new (o := HO.dK (intK A')) nV
    refine ⟨_, rfl, m, _, rfl, .inl (sl_map (t1 _ _ (s4 _ _ em))), fun Wt nW => ?_⟩
    have t2 := same_new (o := HO.lst (N.map V.str)) nW
    refine ⟨by show 0 ≤ sizeLine; decide, fun R nR => ?_⟩
    have t3 := same_new (o := HO.lst []) nR
    rw [hns] at lv4
    have cl0 : Cl H (upd (upd (upd H4 Va (.dK (intK A'))) Wt (.lst (N.map V.str))) R (.lst [])) D Va Wt R (eds ts) ad A' (hd0 S) N [] := by
      have nW4 := t1.free nW
      have nR4 := t1.free (t2.free nR)
      have wv : Va ≠ Wt := fun z => by rw [← z, upd_same] at nW; cases nW
      have rw' : R ≠ Wt := fun z => by rw [z, upd_same] at nR; cases nR
      exact ⟨s4.trans (t1.trans (t2.trans t3)), lv4.same (t1.trans (t2.trans t3)), t3 _ _ (t2 _ _ upd_same), vf, t3 _ _ upd_same, upd_same, s4.free nV, s4.free nW4, s4.free nR4, (lv4.ne_of nV).1, rw'.symm, (lv4.ne_of nW4).2, (lv4.ne_of nR4).2⟩
    generalize upd (upd (upd H4 Va (.dK (intK A'))) Wt (.lst ((enames (eds ts)).map V.str))) R (.lst []) = H5 at cl0 ⊢
    clear t1 t2 t3 nV nW nR lv4 lv2 el4 s4 s3
    refine ⟨fun n σ H' => ∃ (w : List Str) (st : List Nat) (A : List (Str × Int)) (y4 y6 y7 y11 y12 : Option V), n = mu (eds ts) S (w, st) ∧ σ = [some (.ref l), some (.ref b), some (.ref d), some (.ref m), y4, some (.ref D), y6, y7, some (.ref Va), some (.ref Wt), some (.ref R), y11, y12] ∧ Cl H H' D Va Wt R (eds ts) ad A (vals (eds ts) S st) w st ∧ Inv (eds ts) S [] (w, st) ∧ ∀ r, Run (eds ts) S (w, st) r → Run (eds ts) S (N, []) r,
      ⟨_, N, [], A', none, y6, y7, none, none, rfl, rfl, cl0, Inv.start W nN sN bN, fun r h => h⟩, ?_⟩
    rintro n σ H1 ⟨w, st, A1, y4, y6, y7, y11, y12, rfl, rfl, cl, iv, run⟩
    refine ⟨_, rfl, Wt, _, rfl, .inl (sl_map cl.ew), _, _, rfl, rfl, _, rfl, ite_both (fun c => ?_) fun c => ?_⟩
    · cases w with
      | nil => exact absurd (of_decide_eq_true c) (by decide)
      | cons x w =>
      clear c
      refine ⟨fun σ' H' => ∃ (w' : List Str) (st' : List Nat) (A : List (Str × Int)) (y4 y6 y7 y11 y12 : Option V), mu (eds ts) S (w', st') < mu (eds ts) S (x :: w, st) ∧ σ' = [some (.ref l), some (.ref b), some (.ref d), some (.ref m), y4, some (.ref D), y6, y7, some (.ref Va), some (.ref Wt), some (.ref R), y11, y12] ∧ Cl H H' D Va Wt R (eds ts) ad A (vals (eds ts) S st') w' st' ∧ Inv (eds ts) S [] (w', st') ∧ ∀ r, Run (eds ts) S (w', st') r → Run (eds ts) S (N, []) r, ?_, ?_⟩
      · rintro σ' H' ⟨w', st', A2, y4, y6, y7, y11, y12, h1, h2, h3, h4, h5⟩
        exact ⟨_, h1, w', st', A2, y4, y6, y7, y11, y12, rfl, h2, h3, h4, h5⟩
      have hx := iv.sub x List.mem_cons_self
      refine ⟨_, rfl, .inl ⟨rfl, _, sl_map cl.ew⟩, Wt, _, 0, 0, .str x, rfl, rfl, cl.ew, by decide, by decide, seq0 _ _, rfl, ?_⟩
      have cl2 : Cl H (upd H1 Wt (.lst (((x :: w).map V.str).eraseIdx 0))) D Va Wt R (eds ts) ad A1 (vals (eds ts) S st) w st := cl.putW
      generalize upd H1 Wt (.lst (((x :: w).map V.str).eraseIdx 0)) = H2 at cl2 ⊢
      have iv2 := iv.pop
      have gd := refK_get cl2.lv.dict hx
      have ea := cl2.lv.lst x hx
      have ea' : H2 (ad x) = some (.lst (natV (outs (eds ts) x))) := ea
      have mu2 : mu (eds ts) S (w, st) + 1 = mu (eds ts) S (x :: w, st) := by
        show 2 * tot S (vals (eds ts) S st) (enames (eds ts)) + w.length + 1 = 2 * tot S (vals (eds ts) S st) (enames (eds ts)) + (x :: w).length
        rw [List.length_cons]; omega
      refine ⟨_, rfl, _, rfl, D, .ref (ad x), rfl, gd, ad x, rfl, ⟨_, sl_map ea'⟩, for_list (xs := natV (outs (eds ts) x)) (fun j σ' H' => ∃ (w' : List Str) (st' : List Nat) (A : List (Str × Int)) (y6 y7 y11 y12 : Option V), σ' = [some (.ref l), some (.ref b), some (.ref d), some (.ref m), some (.str x), some (.ref D), y6, y7, some (.ref Va), some (.ref Wt), some (.ref R), y11, y12] ∧ Cl H H' D Va Wt R (eds ts) ad A (vals (eds ts) S st') w' st' ∧ Inv (eds ts) S ((outs (eds ts) x).drop j) (w', st') ∧ mu (eds ts) S (w', st') ≤ mu (eds ts) S (w, st) ∧ fol (eds ts) S (w, st) (outs (eds ts) x) = fol (eds ts) S (w', st') ((outs (eds ts) x).drop j))
        ⟨w, st, A1, y6, y7, y11, y12, rfl, cl2, iv2, Nat.le_refl _, rfl⟩ (fun j σ' H' _ h => by obtain ⟨_, _, _, _, _, _, _, _, h, _⟩ := h; exact sl_map (h.lv.lst x hx)) ?_ ?_⟩
      · rintro j z σ3 H3 hz ⟨w', st', A2, y6, y7, y11, y12, rfl, cl3, iv3, le3, fo3⟩
        have jl := (List.getElem?_eq_some_iff.mp hz).1
        rw [natV_len] at jl
        have hi := List.getElem?_eq_getElem jl
        obtain ⟨i, hi'⟩ : ∃ i, (outs (eds ts) x)[j]? = some i := ⟨_, hi⟩
        obtain rfl := Option.some.inj ((natV_at hi').symm.trans hz)
        rw [drop_at hi'] at iv3 fo3
        obtain ⟨il, ix⟩ := outs_mem.mp (List.mem_of_getElem? hi')
        have il' := il
        rw [List.length_map] at il'
        obtain ⟨t, ht⟩ : ∃ t, ts[i]? = some t := ⟨_, List.getElem?_eq_getElem il'⟩
        have te := eg_of (eds_at ht)
        have el3 := el.same cl3.same
        have et := el3.tup t (List.mem_of_getElem? ht)
        obtain ⟨u1, u2⟩ := ets ht
        have lat : (ts.map fun t => V.ref t.1)[i]? = some (.ref t.1) := by rw [List.getElem?_map, ht] <;> rfl
        have gv := dgetI cl3.ev (cl3.vf.val _ u2)
        refine ⟨_, rfl, _, rfl, l, _, _, .ref t.1, rfl, rfl, .inl (.inl el3.lst), atI_nat lat, t.1, _, _, .str t.2.2.1, rfl, rfl, .inl (.inl et), atI_nat (j := 1) rfl, ?_⟩
        refine ⟨_, rfl, _, rfl, l, _, _, .ref t.1, rfl, rfl, .inl (.inl el3.lst), atI_nat lat, _, rfl, _, rfl, t.1, Va, b, t.2, A2, enames (eds ts), vals (eds ts) S st', L, S1, rfl, et, cl3.ev, cl3.vf, B1.same' cl3.same, F1, u1, u2, ?_⟩
        rw [hS _ u2 _ (Int.le_trans (hd0_le W u2 (iv3.low.inS _ u2)) (Int.le_max_left _ _)), step_is iv3.low W (List.mem_of_getElem? (eds_at ht))]
        have lws : w'.length ≤ (enames (eds ts)).length := len_le iv3.nd iv3.sub
        have sts : st'.length + tot S (vals (eds ts) S st') (enames (eds ts)) ≤ 180 := iv3.few
        by_cases b : Brk (vals (eds ts) S st') (eg (eds ts) i)
        · have b' : vals (eds ts) S st' t.2.2.1 < due (vals (eds ts) S st') t.2 := by unfold Brk at b; rw [te] at b; exact b
          rw [if_pos b']
          cases hk : nxv (S t.2.2.1) (due (vals (eds ts) S st') t.2) with
          | none =>
            have hk' : nxv (S (eg (eds ts) i).2.1) (due (vals (eds ts) S st') (eg (eds ts) i)) = none := by rw [te]; exact hk
            refine ⟨_, rfl, _, rfl, ite_both (fun _ => ?_) fun c => absurd (decide_eq_true rfl) (by rw [c]; decide)⟩
            obtain ⟨br, no⟩ := iv3.over il b hk'
            have fo4 := fo3.trans (fol_over b hk')
            refine ⟨_, rfl, _, rfl, by show 1 ≤ sizeLine; decide, fun Z nZ => ?_⟩
            have cl4 := cl3.more (same_new nZ (o := HO.lst [V.int (i : Int)]))
            refine ⟨R, Z, _, _, rfl, rfl, cl4.er, upd_same, ?_, fun Y nY => ?_⟩
            · rw [natV_len]
              have := small1000 (n := st'.length + 1) (by omega)
              exact Nat.le_of_lt this
            · have cl5 := cl4.more (same_new nY (o := HO.lst (natV st' ++ [V.int (i : Int)])))
              refine ⟨by show 2 ≤ sizeLine; decide, fun T nT => ?_⟩
              have cl6 := cl5.more (same_new nT (o := HO.tup [.non, .ref Y]))
              refine q1 _ T Y (st' ++ [i]) cl6.same (cl5.same.free nT) upd_same (cl4.same.free nY) ?_ (run _ (.over fo4)) br no
              refine same_new nT _ _ ?_
              rw [upd_same, natV_snoc]
          | some k =>
            have hk' : nxv (S (eg (eds ts) i).2.1) (due (vals (eds ts) S st') (eg (eds ts) i)) = some k := by rw [te]; exact hk
            obtain ⟨iv4, mu4, va4, lt4⟩ := iv3.raise W il b hk'
            have fo4 := fo3.trans (fol_raise b hk')
            rw [te] at iv4 mu4 va4 lt4 fo4
            refine ⟨_, rfl, _, rfl, ite_both (fun c => absurd (of_decide_eq_true c) (fun z => nomatch z)) fun _ => ?_⟩
            refine ⟨_, rfl, _, rfl, _, rfl, Va, .int (vals (eds ts) S st' t.2.2.1), rfl, gv, _, _, rfl, rfl, _, rfl, ite_both (fun _ => ?_) fun c => absurd (decide_eq_true lt4) (by rw [c]; decide)⟩
            refine ⟨_, rfl, _, rfl, _, rfl, Va, _, rfl, DPut.k (k := .inr t.2.2.1) cl3.ev (by rw [intK_len, cl3.vf.few]; exact small1000 (by omega)), ?_⟩
            rw [putK_int]
            have cl4 := cl3.putV (cl3.vf.put u2 (v := k))
            rw [← va4] at cl4
            generalize upd H3 Va (HO.dK (intK (putA A2 t.2.2.1 k))) = H4 at cl4 ⊢
            refine ⟨_, rfl, .inl ⟨rfl, _, sl_map cl4.er⟩, _, rfl, R, _, _, rfl, rfl, cl4.er, by rw [natV_len]; exact small1000 (by omega), ?_⟩
            rw [← natV_snoc]
            have cl5 := cl4.putR (st2 := st' ++ [i])
            generalize upd H4 R (HO.lst (natV (st' ++ [i]))) = H5 at cl5 ⊢
            refine ⟨_, rfl, _, rfl, Wt, _, rfl, .inl (sl_map cl5.ew), rfl, flats_str _, _, rfl, ?_⟩
            rw [if_pos rfl, in_strs]
            refine ite_both (fun c => ?_) fun c => ?_
            · have nw : t.2.2.1 ∉ w' := by simpa using c
              refine ⟨_, rfl, .inl ⟨rfl, _, sl_map cl5.ew⟩, _, rfl, Wt, _, _, rfl, rfl, cl5.ew, by rw [List.length_map]; exact small1000 (by omega), ?_⟩
              refine ⟨addN w' t.2.2.1, st' ++ [i], putA A2 t.2.2.1 k, _, y7, _, _, rfl, ?_, iv4, Nat.le_trans mu4 le3, fo4⟩
              have := cl5.putW (w2 := addN w' t.2.2.1)
              unfold addN at this ⊢
              rw [if_neg nw] at this ⊢
              rw [List.map_append] at this
              exact this
            · have nw : t.2.2.1 ∈ w' := by simpa using c
              refine ⟨addN w' t.2.2.1, st' ++ [i], putA A2 t.2.2.1 k, _, y7, _, _, rfl, ?_, iv4, Nat.le_trans mu4 le3, fo4⟩
              unfold addN
              rw [if_pos nw]
              exact cl5
        · have b' : ¬ vals (eds ts) S st' t.2.2.1 < due (vals (eds ts) S st') t.2 := by unfold Brk at b; rw [te] at b; exact b
          rw [if_neg b']
          refine ⟨_, rfl, _, rfl, ite_both (fun c => absurd (of_decide_eq_true c) (fun z => nomatch z)) fun _ => ?_⟩
          refine ⟨_, rfl, _, rfl, _, rfl, Va, .int (vals (eds ts) S st' t.2.2.1), rfl, gv, _, _, rfl, rfl, _, rfl, ite_both (fun c => absurd (of_decide_eq_true c) (Int.lt_irrefl _)) fun _ => ?_⟩
          exact ⟨w', st', A2, _, y7, _, _, rfl, cl3, iv3.skip b, le3, fo3.trans (fol_skip b)⟩
      · rintro σ3 H3 ⟨w', st', A2, y6, y7, y11, y12, rfl, cl3, iv3, le3, fo3⟩
        rw [natV_len, List.drop_length] at iv3 fo3
        exact ⟨w', st', A2, _, y6, y7, y11, y12, by omega, rfl, cl3, iv3, fun r h => run r (.more fo3 h)⟩
    · cases w with
      | cons x w => exact absurd (of_decide_eq_false c) (by rw [List.length_map, List.length_cons]; omega)
      | nil =>
      refine ⟨_, rfl, _, rfl, by show 2 ≤ sizeLine; decide, fun T nT => ?_⟩
      have cl2 := cl.more (same_new nT (o := HO.tup [.ref Va, .ref R]))
      exact q2 _ T Va R A1 st cl2.same (cl.same.free nT) upd_same cl.nv cl2.ev cl2.vf iv.done
end
end K56
set_option Elab.async false
set_option linter.all false
set_option maxRecDepth 100000
set_option maxHeartbeats 4000000
namespace K56
open PySem PySem.Spec PyProof.Rows L2 Cs CsX
theorem VF.mono {A : List (Str × Int)} {ns : List Str} {f g : Str → Int} (h : VF A ns f) (e : ∀ x ∈ ns, f x = g x) : VF A ns g := ⟨h.keys, fun x hx => by rw [← e x hx]; exact h.val x hx⟩
section
variable {P : Program} {w : World} {K : PySem.W.Frag} {mg : Str → Option Value} {base : Heap}
abbrev sLcl : Stmt := topS 8
abbrev nLcl : List Str := ["edges", "box", "names", "values", "steps"]
theorem scLcl : FnScope nLcl ["edges", "box"] (defScope sLcl) := ⟨rfl, rfl, rfl, by decide +kernel, rfl, by decide +kernel, by decide +kernel⟩
def spLcl : Sp := fun vs H Q _ => ∃ (l b : Addr) (ts : List (Addr × Edg)) (L : List Ent) (S : Str → List Int), vs = [.ref l, .ref b] ∧ EdT H l ts ∧ ts.length ≤ 400 ∧ Bu H b L ∧ Fit L (enames (eds ts)) S ∧ Wd (eds ts) S ∧
  (∀ (H' : Hp) (T r : Addr) (st : List Nat), Same H H' → H T = none → H' T = some (.tup [.str "over", .ref r]) → H r = none → H' r = some (.lst (natV st)) → Run (eds ts) S (enames (eds ts), []) (.inl st) → Broken (eds ts) S st → (∀ a, ¬ Alw (eds ts) S a) → Q (.ref T) H') ∧
  (∀ (H' : Hp) (T d' : Addr) (A' : List (Str × Int)) (f : Str → Int), Same H H' → H T = none → H' T = some (.tup [.str "least", .ref d']) → H d' = none → H' d' = some (.dK (intK A')) → VF A' (enames (eds ts)) f → Lst (eds ts) S f → Q (.ref T) H')
theorem ok_Lcl {f f0 f1 f2 : Addr} {fd fd0 fd1 fd2 : FuncData} (F : Fun K "least_climb" "least_climb" sLcl f fd) (B : Bt mg) (CEdnT : Call P w K mg base 1 "edge_names" f0 fd0 ["edges"] spEdnT) (CClb : Call P w K mg base 3 "climbed" f1 fd1 ["edges", "box", "start", "moved"] spClb) (CLvs : Call P w K mg base 1 "least_values" f2 fd2 ["names", "box"] spLvs) :
    FnOk P w K mg base CX0 4 f fd ["edges", "box"] spLcl := by
  refine F.ok scLcl (fun vs H Q E h => ?_) (fun cdv A outer s H vs Q E hr h => ?_)
  · obtain ⟨l, b, ts, L, S, rfl, _⟩ := h
    rfl
  · obtain ⟨l, b, ts, L, S, rfl, el, few, B1, F1, W, q1, q2⟩ := h
    have nd := scLcl.nd
    refine ⟨_, pss_cons (ps_set (i := 2) nd rfl (.inl rfl) (pe_call CEdnT.ok (hr.mono (by decide)) (by rfl) CEdnT.at_ CEdnT.kp CEdnT.bd .nil pass0 (pa_cons (pv 0) pa_nil)))
      (pss_cons (ps_asg (pe_call CClb.ok (hr.mono (by decide)) (by rfl) CClb.at_ CClb.kp CClb.bd .nil pass0 (pa_cons (pv 0) (pa_cons (pv 1) (pa_cons (pe_call CLvs.ok (hr.mono (by decide)) (by rfl) CLvs.at_ CLvs.kp CLvs.bd .nil pass0 (pa_cons (pv 2) (pa_cons (pv 1) pa_nil))) (pa_cons (pv 2) pa_nil))))) (pg_tup (by rfl) (pgs_cons (pg_name (i := 3) nd rfl (.inl rfl)) (pgs_cons (pg_name (i := 4) nd rfl (.inl rfl)) pgs_nil))))
      (pss_cons (ps_if (pt_cmp (pc_isN (pv 3)))
        (pss_one (ps_ret (pe_tup (pa_cons pe_str (pa_cons (pv 4) pa_nil)))))
        pss_nil)
      (pss_one (ps_ret (pe_tup (pa_cons pe_str (pa_cons (pv 3) pa_nil))))))), ?_⟩
    have n12 := W.nam
    refine ⟨_, rfl, l, ts, rfl, el, few, fun H1 m s1 nm em => ?_⟩
    refine ⟨_, rfl, _, rfl, _, rfl, _, rfl, m, b, enames (eds ts), L, S, rfl, em, enames_nd _, by omega, B1.same' s1, F1, W.ne, fun H2 d A s2 nd2 ed vf => ?_⟩
    have S2 := s1.trans s2
    refine ⟨_, rfl, l, b, d, m, ts, L, A, S, S, enames (eds ts), rfl, el.same S2, few, B1.same' S2, F1, W, fun _ _ _ _ => rfl, enames_nd _, fun _ h => h, fun e he n => absurd (ends he).1 n, ed, vf, s2 _ _ em, fun H3 T r st s3 nT eT nr er run br no => ?_, fun H3 T d' r A2 st s3 nT eT nd3 ed2 vf2 lst => ?_⟩
    · have S3 := S2.trans s3
      refine ⟨T, _, rfl, .inl (.inl eT), rfl, _, _, rfl, _, _, rfl, rfl, ?_⟩
      refine ⟨_, rfl, _, rfl, iteT ?_⟩
      refine ⟨_, rfl, by show 2 ≤ sizeLine; decide, fun Y nY => ?_⟩
      have t := same_new (o := HO.tup [.str "over", .ref r]) nY
      exact q1 _ Y r st (S3.trans t) (S3.free nY) upd_same (S2.free nr) (t _ _ er) run br no
    · have S3 := S2.trans s3
      refine ⟨T, _, rfl, .inl (.inl eT), rfl, _, _, rfl, _, _, rfl, rfl, ?_⟩
      refine ⟨_, rfl, _, rfl, iteF ?_⟩
      refine ⟨_, rfl, by show 2 ≤ sizeLine; decide, fun Y nY => ?_⟩
      have t := same_new (o := HO.tup [.str "least", .ref d']) nY
      exact q2 _ Y d' A2 _ (S3.trans t) (S3.free nY) upd_same (S2.free nd3) (t _ _ ed2) vf2 lst
abbrev sCpy : Stmt := topS 35
abbrev nCpy : List Str := ["_law_sides_here", "_law_copied", "_law_name"]
theorem scCpy : FnScope nCpy ["_law_sides_here"] (defScope sCpy) := ⟨rfl, rfl, rfl, by decide +kernel, rfl, by decide +kernel, by decide +kernel⟩
theorem ok_Cpy {f  : Addr} {fd  : FuncData} (F : Fun K "_law_copy" "_law_copy" sCpy f fd) (B : Bt mg) :
    FnOk P w K mg base CX0 1 f fd ["_law_sides_here"] spCopy := by
  refine F.ok scCpy (fun vs H Q E h => ?_) (fun cdv A outer s H vs Q E hr h => ?_)
  · obtain ⟨d, L, rfl, _⟩ := h
    rfl
  · obtain ⟨d, L, rfl, bx, q⟩ := h
    have hu := hu_of hr
    have nd := scCpy.nd
    refine ⟨_, pss_cons (ps_set (i := 1) nd rfl (.inl rfl) pe_dnewK)
      (pss_cons (ps_lock (ps_for PassesOwn.never rfl (pi_keys (pv 0)) (pg_name (i := 2) nd rfl (.inl rfl))
        (pss_one (ps_dput hu (pv 1) (pv 2) (pe_callTy call_list_of (by rfl) B.list PyProof.Rows.boot_list (pa_cons (pe_dget hu (pv 0) (pv 2) (fun _ _ => rfl)) pa_nil)) rfl))))
      (pss_one (ps_ret (pv 1)))), ?_⟩
    intro D nD
    have s0 := same_new (o := HO.dK []) nD
    have bx0 := bx.same' s0
    refine ⟨d, _, bx0.un, trivial, fun od => ?_⟩
    have hd : H d ≠ none := by rw [bx.un]; exact fun z => by cases z
    have nDd : D ≠ d := fun z => hd (z ▸ nD)
    refine ⟨.ref d, rfl, d, od, rfl, .inl ⟨entK L, upd_same, for_it walk_keys (fun i σ H' => ∃ (M : List Ent) (y : Option V), σ = [some (.ref d), some (.ref D), y] ∧ Same (upd H d (.frz od (.dK (entK L)))) H' ∧ Nb H H' D M ∧ shape M = shape (L.take i))
      ⟨[], none, rfl, ?_, ?_, rfl⟩ (fun i σ H' _ h => by obtain ⟨M, y, _, e, _⟩ := h; exact e _ _ upd_same) ?_ ?_⟩⟩
    · intro b o e
      by_cases z : b = d
      · rw [z, upd_same] at e ⊢; exact e
      · rw [upd_ne z] at e ⊢
        exact s0 _ _ e
    · exact Nb.nil nD (by rw [upd_ne nDd]; exact upd_same)
    · rintro i x σ H' H'' hi ⟨M, y, rfl, sm, nb, sh⟩ ⟨rfl, k1, v1, hk, rfl⟩
      obtain ⟨e, he, rfl, rfl⟩ := keys_at hk
      have em := List.mem_of_getElem? he
      have bl := (bx.toBx.lock (od := od) bx.un).same sm
      have gv := bl.get e.1
      rw [getE_of bx.nd em] at gv
      rw [entK_len] at hi
      have few := bx.few
      have lM := shape_len sh
      rw [List.length_take] at lM
      refine ⟨.ref d, rfl, .str e.1, rfl, d, .ref e.2.1, rfl, gv, e.2.1, _, rfl, .inl (sl_map (bl.sides e em)), fun l nl => ?_⟩
      have sl := same_new (o := HO.lst (e.2.2.map V.int)) nl
      have nl0 : H l = none := by
        have := sm.free nl
        cases c : H l with
        | none => rfl
        | some o =>
          by_cases z : l = d
          · rw [z, upd_same] at this; cases this
          · rw [upd_ne z, c] at this; cases this
      have xnew : e.1 ∉ M.map (·.1) := by rw [shape_keys sh]; exact take_keys bx.nd he
      refine ⟨.ref D, rfl, .str e.1, rfl, D, _, rfl, DPut.k (k := .inr e.1) (sl _ _ nb.un) (by rw [entK_len]; exact small1000 (by omega)), ?_⟩
      refine ⟨putE M e.1 l e.2.2, some (.str e.1), rfl, ?_, ?_, ?_⟩
      · refine same_at (sm.trans sl) ?_
        rw [upd_ne nDd]
        exact nD
      · rw [putK_ent (s := e.2.2)]
        exact nb.put nl0 nl sl upd_same (by omega)
      · rw [putE_new xnew]
        exact shape_take sh he
    · rintro σ H' ⟨M, y, rfl, sm, nb, sh⟩
      rw [entK_len, List.take_length] at sh
      have eF := sm _ _ (upd_same (H := H) (a := d) (o := HO.frz od (.dK (entK L))))
      exact ⟨eF, _, rfl, q _ D M (unlock bx.un sm) (nb.unl bx.un eF) sh⟩
end
end K56
set_option Elab.async false
set_option linter.all false
set_option maxRecDepth 100000
set_option maxHeartbeats 4000000
namespace K56
open PySem PySem.Spec PyProof.Rows L2 Cs CsX
theorem enames_two {es : List Edg} {i : Nat} {e : Edg} (h : es[i]? = some e) : ∃ g : Nat → List Str, g 0 = enames (es.take i) ∧ g 2 = enames (es.take (i + 1)) ∧ (∀ j, j < 2 → ∃ z, [V.str e.1, .str e.2.1, .int e.2.2][j]? = some (V.str z) ∧ g (j + 1) = addN (g j) z ∧ z ∈ enames es ∧ (g j).length ≤ 2 * es.length + 1) := by
  have hm := ends (List.mem_of_getElem? h)
  have le := enames_take (es := es) i
  have la := addN_len (enames (es.take i)) e.1
  refine ⟨fun j => if j = 0 then enames (es.take i) else if j = 1 then addN (enames (es.take i)) e.1 else addE (enames (es.take i)) e, rfl, (enames_snoc h).symm, fun j hj => ?_⟩
  match j, hj with
  | 0, _ => exact ⟨e.1, rfl, rfl, hm.1, by show (enames (es.take i)).length ≤ _; omega⟩
  | 1, _ => exact ⟨e.2.1, rfl, rfl, hm.2, by show (addN (enames (es.take i)) e.1).length ≤ _; omega⟩
theorem filter_snocI {s : List Int} {j : Nat} {v d : Int} (h : s[j]? = some v) : (s.take (j + 1)).filter (fun w => decide (d ≤ w)) = (s.take j).filter (fun w => decide (d ≤ w)) ++ (if d ≤ v then [v] else []) := by
  rw [filter_snoc h]
  by_cases c : d ≤ v
  · rw [if_pos c, if_pos (decide_eq_true c)]
  · rw [if_neg c, if_neg (by simpa using c)]
end K56
set_option Elab.async false
set_option linter.all false
set_option maxRecDepth 100000
set_option maxHeartbeats 4000000
namespace CsX
open PySem PySem.Spec PyProof.Rows L2
end CsX
/-! ### an own error without fields; classes, methods, properties -/
namespace CsX
open PySem PySem.Spec PyProof.Rows L2
/-- a class of the program: its text, its name, its attributes (no class attribute has the name) -/
structure Kls (K : PySem.W.Frag) (mg : Str → Option Value) (x : Str) (C : Addr) (fs : List Str) : Prop where
  cl : Cls K C
  gC : mg x = some (.ref C)
  no : ∀ f ∈ fs, NoAttr K C f
/-- its __init__ -/
structure CallN (P : Program) (w : World) (K : PySem.W.Frag) (mg : Str → Option Value) (base : Heap) (k : Nat) (C f : Addr) (fd : FuncData) (ps : List Str) (sp : Sp) : Prop where
  ok : FnOk P w K mg base CX0 k f fd ps sp
  mkr : Mk K C f
  bd : Binds K fd ps []
/-- a method -/
structure CallM (P : Program) (w : World) (K : PySem.W.Frag) (mg : Str → Option Value) (base : Heap) (k : Nat) (C : Addr) (m : Str) (f : Addr) (fd : FuncData) (ps : List Str) (sp : Sp) : Prop where
  ok : FnOk P w K mg base CX0 k f fd ps sp
  mt : Meth K C m f
  bd : Binds K fd ps []
end CsX
set_option Elab.async false
set_option linter.all false
set_option maxRecDepth 100000
set_option maxHeartbeats 4000000
namespace CsX
open PySem PySem.Spec PyProof.Rows L2
end CsX
set_option Elab.async false
set_option linter.all false
set_option maxRecDepth 100000
set_option maxHeartbeats 4000000
namespace K56
open PySem PySem.Spec PyProof.Rows L2 Cs CsX
/-- the first name whose side is empty -/
def fe (S : Str → List Int) (ns : List Str) : Option Str := ns.find? fun x => (S x).isEmpty
theorem fe_none {S : Str → List Int} {ns : List Str} : fe S ns = none ↔ ∀ x ∈ ns, S x ≠ [] := by
  unfold fe
  rw [List.find?_eq_none]
  constructor
  · intro h x hx e
    exact h x hx (by rw [e] <;> rfl)
  · intro h x hx e
    exact h x hx (List.isEmpty_iff.mp e)
theorem fe_some {S : Str → List Int} {ns : List Str} {x : Str} (h : fe S ns = some x) : x ∈ ns ∧ S x = [] := by
  unfold fe at h
  exact ⟨List.mem_of_find?_eq_some h, List.isEmpty_iff.mp (List.find?_some (p := fun x => (S x).isEmpty) h)⟩
theorem fe_at {S : Str → List Int} {ns : List Str} {i : Nat} {x : Str} (h : ns[i]? = some x) (e : S x = []) (n : ∀ y ∈ ns.take i, S y ≠ []) : fe S ns = some x := by
  obtain ⟨hi, ex⟩ := List.getElem?_eq_some_iff.mp h
  unfold fe
  rw [← List.take_append_drop i ns, List.find?_append, List.find?_eq_none.mpr (fun y hy z => n y hy (List.isEmpty_iff.mp z)), List.drop_eq_getElem_cons hi, ex]
  rw [Option.none_or, List.find?_cons, e] <;> rfl
section
variable {P : Program} {w : World} {K : PySem.W.Frag} {mg : Str → Option Value} {base : Heap}
/-! ### checked_names, of names that are all right -/
abbrev sChk : Stmt := topS 14
abbrev nChk : List Str := ["names", "earlier", "name"]
theorem scChk : FnScope nChk ["names"] (defScope sChk) := ⟨rfl, rfl, rfl, by decide +kernel, rfl, by decide +kernel, by decide +kernel⟩
def spChk : Sp := fun vs H Q _ => ∃ (a : Addr) (xs : List Str), vs = [.ref a] ∧ H a = some (.lst (xs.map V.str)) ∧ xs ≠ [] ∧ xs.Nodup ∧ xs.length ≤ 1000 ∧
  ∀ (H' : Hp) (t : Addr), Same H H' → (∀ b, H' b = none → H b = none) → H t = none → H' t = some (.tup (xs.map V.str)) → Q (.ref t) H'
theorem ok_Chk {f : Addr} {fd : FuncData} (F : Fun K "checked_names" "checked_names" sChk f fd) (B : Bt mg) (ztuple : mg "tuple" = none) : FnOk P w K mg base CX0 1 f fd ["names"] spChk := by
  refine F.ok scChk (fun vs H Q E h => ?_) (fun cdv A outer s H vs Q E hr h => ?_)
  · obtain ⟨a, xs, rfl, _⟩ := h
    rfl
  · obtain ⟨a, xs, rfl, ha, ne, nd0, few, k⟩ := h
    have nd := scChk.nd
    refine ⟨_, pss_cons (ps_if (pt_cmpR op_eq (pe_callB call_len_seq (by rfl) B.len PySem.boot_len (pa_cons (pv 0) pa_nil)) pe_int rfl) pss_any pss_nil)
      (pss_cons (ps_set (i := 1) nd rfl (.inl rfl) (pe_callTy0 cr_set0K (by rfl) B.set PyProof.Rows.boot_set))
      (pss_cons (ps_for PassesOwn.never rfl (pi_list (pv 0)) (pg_name (i := 2) nd rfl (.inl rfl))
        (pss_cons (ps_if (pt_cmpR or_sinK (pv 2) (pv 1) rfl) pss_any pss_nil)
        (pss_one (ps_expr (pe_saddK (pv 1) (pa_cons (pv 2) pa_nil))))))
      (pss_one (ps_ret (pe_callTy call_tuple_of (by rfl) ztuple PyProof.Rows.boot_tuple (pa_cons (pv 0) pa_nil)))))), ?_⟩
    refine ⟨_, rfl, a, _, rfl, .inl (sl_map ha), rfl, _, rfl, ite_both (fun c => ?_) fun _ => ?_⟩
    · have := V.int.inj (of_decide_eq_true c)
      rw [List.length_map] at this
      cases xs with
      | nil => exact absurd rfl ne
      | cons x xs => rw [List.length_cons] at this; omega
    refine ⟨rfl, fun D nD => ?_⟩
    have s0 := same_new (o := SetK P w D (fun _ => false) 0) nD
    refine ⟨.ref a, rfl, a, rfl, ⟨_, sl_map (s0 _ _ ha)⟩, for_list (xs := xs.map V.str) (fun i σ H' => ∃ (S : Key → Bool) (n : Nat) (y2 : Option V), σ = [some (.ref a), some (.ref D), y2] ∧ Same H H' ∧ (∀ b, H' b = none → H b = none) ∧ H' D = some (SetK P w D S n) ∧ n ≤ i ∧ ∀ x, S (.inr x) = true → x ∈ xs.take i)
      ⟨_, 0, none, rfl, s0, (fun b e => by grind only [= g_upd]), upd_same, Nat.le_refl _, (fun _ h => nomatch h)⟩ (fun i σ H' _ h => by obtain ⟨_, _, _, _, h, _⟩ := h; exact sl_map (h _ _ ha)) ?_ ?_⟩
    · rintro i x σ H' hx ⟨S, n, y2, rfl, sm, fr, hD, ni, hS⟩
      rw [List.getElem?_map] at hx
      obtain ⟨x, hv, rfl⟩ := Option.map_eq_some_iff.mp hx
      obtain ⟨hi, ex⟩ := List.getElem?_eq_some_iff.mp hv
      have out : S (.inr x) = false := by
        cases e : S (.inr x) with
        | false => rfl
        | true =>
          obtain ⟨j, hj, ej⟩ := List.mem_iff_getElem.mp (hS x e)
          rw [List.length_take] at hj
          rw [List.getElem_take] at ej
          have := (List.getElem_inj nd0).mp (ej.trans ex.symm)
          omega
      refine ⟨_, rfl, _, rfl, .inr x, D, S, n, rfl, rfl, hD, _, rfl, ite_both (fun c => ?_) fun _ => ?_⟩
      · have c' : S (.inr x) = true := c
        rw [out] at c'; cases c'
      refine ⟨_, rfl, ⟨D, S, n, rfl, hD⟩, _, rfl, D, .inr x, S, n, rfl, rfl, hD, by show n + 1 < 4096; omega, ?_⟩
      refine ⟨_, _, _, rfl, fun b o e => ?_, fun b e => ?_, upd_same, ?_, fun z hz => ?_⟩
      · have : b ≠ D := fun q => by rw [q, nD] at e; cases e
        rw [upd_ne this]; exact sm b o e
      · by_cases q : b = D
        · rw [q, upd_same] at e; cases e
        · rw [upd_ne q] at e; exact fr b e
      · rw [out]; show n + 1 ≤ i + 1; omega
      · rw [take_snoc hv]
        rcases Bool.or_eq_true_iff.mp hz with q | q
        · exact List.mem_append_left _ (hS z q)
        · have := Sum.inr.inj (of_decide_eq_true q)
          rw [this]; exact List.mem_append_right _ (List.mem_singleton.mpr rfl)
    · rintro σ H' ⟨S, n, y2, rfl, sm, fr, hD, _, _⟩
      refine ⟨_, rfl, a, _, rfl, .inl ⟨sl_map (sm _ _ ha), fun l nl => k _ l (fun b o e => ?_) (fun b e => ?_) (fr l nl) upd_same⟩⟩
      · have : b ≠ l := fun q => by rw [q, fr l nl] at e; cases e
        rw [upd_ne this]; exact sm b o e
      · by_cases q : b = l
        · rw [q, upd_same] at e; cases e
        · rw [upd_ne q] at e; exact fr b e
abbrev sFem : Stmt := topS 15
abbrev nFem : List Str := ["names", "box", "name"]
theorem scFem : FnScope nFem ["names", "box"] (defScope sFem) := ⟨rfl, rfl, rfl, by decide +kernel, rfl, by decide +kernel, by decide +kernel⟩
def spFem : Sp := fun vs H Q _ => ∃ (t b : Addr) (ns : List Str) (L : List Ent) (S : Str → List Int), vs = [.ref t, .ref b] ∧ H t = some (.tup (ns.map V.str)) ∧ Bu H b L ∧ Fit L ns S ∧
  ((∀ x ∈ ns, S x ≠ []) → Q .non H) ∧ (∀ x ∈ ns, S x = [] → fe S ns = some x → Q (.str x) H)
theorem ok_Fem {f  : Addr} {fd  : FuncData} (F : Fun K "first_empty" "first_empty" sFem f fd) (B : Bt mg) :
    FnOk P w K mg base CX0 1 f fd ["names", "box"] spFem := by
  refine F.ok scFem (fun vs H Q E h => ?_) (fun cdv A outer s H vs Q E hr h => ?_)
  · obtain ⟨t, b, ns, L, S, rfl, _⟩ := h
    rfl
  · obtain ⟨t, b, ns, L, S, rfl, et, B1, F1, q1, q2⟩ := h
    have hu := hu_of hr
    have nd := scFem.nd
    refine ⟨_, pss_cons (ps_for PassesOwn.never rfl (pi_tup (pv 0)) (pg_name (i := 2) nd rfl (.inl rfl))
        (pss_one (ps_if (pt_cmpR op_eq (pe_callB call_len_seq (by rfl) B.len PySem.boot_len (pa_cons (pe_dget hu (pv 1) (pv 2) (fun _ _ => rfl)) pa_nil)) pe_int rfl)
            (pss_one (ps_ret (pv 2)))
            pss_nil)))
      (pss_one (ps_ret pe_non)), ?_⟩
    refine ⟨.ref t, rfl, t, rfl, ⟨_, .inl (.inl et)⟩, for_tup (xs := ns.map V.str) (fun i σ H' => H' = H ∧ (∃ y, σ = [some (.ref t), some (.ref b), y]) ∧ ∀ x ∈ ns.take i, S x ≠ []) ⟨rfl, ⟨none, rfl⟩, (fun _ h => nomatch h)⟩ (fun i σ H' _ h => by obtain ⟨rfl, _⟩ := h; exact .inl (.inl et)) ?_ ?_⟩
    · rintro i x σ H' hx ⟨rfl, ⟨y, rfl⟩, hn⟩
      rw [List.getElem?_map] at hx
      obtain ⟨x, hv, rfl⟩ := Option.map_eq_some_iff.mp hx
      have xm := List.mem_of_getElem? hv
      obtain ⟨a, ga, ea⟩ := Fit.get B1 F1 xm
      refine ⟨_, rfl, _, rfl, b, .ref a, rfl, ga, a, _, rfl, .inl (sl_map ea), rfl, _, rfl, ite_both (fun c => ?_) fun c => ?_⟩
      · have := V.int.inj (of_decide_eq_true c)
        rw [List.length_map] at this
        exact ⟨_, rfl, q2 x xm (List.length_eq_zero_iff.mp (by omega)) (fe_at hv (List.length_eq_zero_iff.mp (by omega)) hn)⟩
      · refine ⟨rfl, ⟨_, rfl⟩, fun y hy => ?_⟩
        rw [take_snoc hv] at hy
        rcases List.mem_append.mp hy with z | z
        · exact hn y z
        · intro e
          rw [List.mem_singleton.mp z] at e
          exact of_decide_eq_false c (by rw [e] <;> rfl)
    · rintro σ H' ⟨rfl, _, hn⟩
      rw [List.length_map, List.take_length] at hn
      exact q1 hn
/-! ### Ring -/
abbrev sRin : Stmt := inClass (topS 18) 0
theorem scRin : FnScope ["self", "edges", "first", "second", "gap"] ["self", "edges"] (defScope sRin) := ⟨rfl, rfl, rfl, by decide +kernel, rfl, by decide +kernel, by decide +kernel⟩
abbrev rF : List Str := ["names", "edges"]
def rflds (t e : Addr) : List (Str × V) := [("names", V.ref t), ("edges", V.ref e)]
theorem rn12 : ¬ (("names" : Str) = "edges") := by decide +kernel
theorem rlook1 (t e : Addr) : (rflds t e).lookup ("names" : Str) = some (.ref t) := by
  unfold rflds
  simp [List.lookup]
theorem rlook2 (t e : Addr) : (rflds t e).lookup ("edges" : Str) = some (.ref e) := by
  unfold rflds
  have : (("edges" : Str) == "names") = false := beq_eq_false_iff_ne.mpr fun z => rn12 z.symm
  simp only [List.lookup, this, beq_self_eq_true]
theorem rput (t e : Addr) : putF "edges" (.ref e) (putF "names" (.ref t) []) = rflds t e := by
  show (if ("names" : Str) = "edges" then _ else (("names" : Str), V.ref t) :: [("edges", V.ref e)]) = _
  rw [if_neg rn12] <;> rfl
/-- a Ring of these edges stands at p -/
def Rg (C : Addr) (H : Hp) (p : Addr) (es : List Edg) : Prop := ∃ (dx t e : Addr) (ts : List (Addr × Edg)), H p = some (.ins C dx (rflds t e)) ∧ H t = some (.tup ((enames es).map V.str)) ∧ EdT H e ts ∧ eds ts = es
theorem Rg.same {C : Addr} {H H' : Hp} {p : Addr} {es : List Edg} (R : Rg C H p es) (s : Same H H') : Rg C H' p es := by
  obtain ⟨dx, t, e, ts, h1, h2, h3, h4⟩ := R
  exact ⟨dx, t, e, ts, s _ _ h1, s _ _ h2, h3.same s, h4⟩
theorem eds_len (ts : List (Addr × Edg)) : (eds ts).length = ts.length := List.length_map _
def spRin (C : Addr) : Sp := fun vs H Q _ => ∃ (p dx l : Addr) (ts : List (Addr × Edg)), vs = [.ref p, .ref l] ∧ H p = some (.ins C dx []) ∧ EdL H l ts ∧ ts.length ≤ 400 ∧ 1 ≤ ts.length ∧
  ∀ (H' : Hp), Rg C H' p (eds ts) → (∀ b o, b ≠ p → H b = some o → H' b = some o) → Q .non H'
theorem ok_Rin {f C fC fE : Addr} {fd fdC fdE : FuncData} (F : Fun K "__init__" "Ring.__init__" sRin f fd) (B : Bt mg) (ztuple : mg "tuple" = none) (T : Kls K mg "Ring" C rF) (Ck : Call P w K mg base 1 "checked_names" fC fdC ["names"] spChk)
    (CEdn : Call P w K mg base 1 "edge_names" fE fdE ["edges"] spEdn) : FnOk P w K mg base CX0 2 f fd ["self", "edges"] (spRin C) := by
  refine F.ok scRin (fun vs H Q E h => ?_) (fun cdv A outer s H vs Q E hr h => ?_)
  · obtain ⟨p, dx, l, ts, rfl, _⟩ := h
    rfl
  · obtain ⟨p, dx, l, ts, rfl, hp, el, few, one, k⟩ := h
    have nd := scRin.nd
    refine ⟨_, pss_cons (ps_fld (pv 0) (pe_call Ck.ok (hr.mono (by decide)) (by rfl) Ck.at_ Ck.kp Ck.bd .nil pass0 (pa_cons (pe_call CEdn.ok (hr.mono (by decide)) (by rfl) CEdn.at_ CEdn.kp CEdn.bd .nil pass0 (pa_cons (pv 1) pa_nil)) pa_nil)) rfl)
      (pss_one (ps_fld (pv 0) (pe_callTy call_tuple_of (by rfl) ztuple PyProof.Rows.boot_tuple (pa_cons
        (pe_lc (own := [("first", 2), ("second", 3), ("gap", 4)]) (g := gTup K 3 (gCons (gName 2) (gCons (gName 3) (gCons (gName 4) gNil)))) (tt := tYes) rfl nd (pi_list (pv 1)) (blkOk_by (N := ["self", "edges", "first", "second", "gap"]) (sc := defScope sRin) (by decide +kernel)) (fun _ _ _ _ _ => pg_tup rfl (pgs_cons (pg_name (i := 2) nd rfl (.inl rfl)) (pgs_cons (pg_name (i := 3) nd rfl (.inl rfl)) (pgs_cons (pg_name (i := 4) nd rfl (.inl rfl)) pgs_nil)))) (fun _ _ _ _ _ => pts_nil)
          (fun _ _ _ _ _ => pe_tup (pa_cons (pv 2) (pa_cons (pv 3) (pa_cons (pv 4) pa_nil))))) pa_nil)) rfl)), ?_⟩
    refine ⟨_, rfl, l, ts, rfl, el, few, fun H1 r s1 nr er => ?_⟩
    have ln := enames_len (eds ts)
    rw [eds_len] at ln
    refine ⟨r, enames (eds ts), rfl, er, ?_, enames_nd _, by omega, fun H2 t s2 fr2 nt et => ?_⟩
    · obtain ⟨u, hu⟩ : ∃ u, ts[0]? = some u := ⟨_, List.getElem?_eq_getElem (by omega)⟩
      intro z
      have := (ends (List.mem_of_getElem? (eds_at hu))).1
      rw [z] at this; cases this
    have S2 := s1.trans s2
    have tp : t ≠ p := fun q => by rw [q, s1 _ _ hp] at nt; cases nt
    refine ⟨_, rfl, p, C, dx, _, rfl, S2 _ _ hp, T.cl, T.no _ (by simp), by show 0 < 1000; decide, ?_⟩
    obtain ⟨H3, k3, e3, r3⟩ : ∃ H3, (∀ b o, b ≠ p → H2 b = some o → H3 b = some o) ∧ H3 p = some (.ins C dx (putF "names" (.ref t) [])) ∧ upd H2 p (.ins C dx (putF "names" (.ref t) [])) = H3 := ⟨_, fun b o n e => by rw [upd_ne n]; exact e, upd_same, rfl⟩
    rw [r3]
    clear r3
    have el3 : EdL H3 l ts := by
      refine ⟨k3 _ _ (fun z => ?_) (S2 _ _ el.lst), fun u hu => k3 _ _ (fun z => ?_) (S2 _ _ (el.tup u hu))⟩
      · have := el.lst; rw [z, hp] at this; cases this
      · have := el.tup u hu; rw [z, hp] at this; cases this
    refine ⟨.ref l, rfl, l, rfl, ⟨_, sl_map el3.lst⟩, fun Z nZ => lc_list (xs := ts.map fun t => V.ref t.1) (fun i H' => ∃ ws : List (Addr × Edg), Same H3 H' ∧ EdL H' Z ws ∧ eds ws = (eds ts).take i) ⟨[], same_new nZ, ⟨upd_same, (fun _ h => nomatch h)⟩, rfl⟩ (fun i H' _ h => by obtain ⟨_, h, _⟩ := h; exact sl_map (h _ _ el3.lst)) ?_ ?_⟩
    · rintro i x H' hx ⟨ws, s4, ew, ewe⟩
      rw [List.getElem?_map] at hx
      obtain ⟨u, hv, rfl⟩ := Option.map_eq_some_iff.mp hx
      have et4 := (el3.same s4).tup u (List.mem_of_getElem? hv)
      have lw : ws.length ≤ ts.length := by rw [← eds_len ws, ewe, List.length_take, eds_len]; omega
      refine ⟨u.1, _, rfl, .inl (.inl et4), rfl, _, _, rfl, _, _, rfl, _, _, rfl, rfl, rfl, _, rfl, _, rfl, _, rfl, by show 3 ≤ sizeLine; decide, fun Y nY => ?_⟩
      have sY := same_new (o := HO.tup [V.str u.2.1, .str u.2.2.1, .int u.2.2.2]) nY
      have ew2 := ew.same sY
      refine ⟨_, ew2.lst, by rw [List.length_map]; exact small1000 (by omega), ws ++ [(Y, u.2)], same_at (s4.trans sY) nZ, ?_, ?_⟩
      · refine ⟨by rw [upd_same, List.map_append] <;> rfl, fun v hv2 => ?_⟩
        have ne : ∀ {a : Addr} {xs : List V}, (upd H' Y (.tup [V.str u.2.1, .str u.2.2.1, .int u.2.2.2])) a = some (.tup xs) → a ≠ Z := fun h z => by rw [z, ew2.lst] at h; cases h
        rcases List.mem_append.mp hv2 with z | z
        · rw [upd_ne (ne (ew2.tup v z))]; exact ew2.tup v z
        · rw [List.mem_singleton.mp z, upd_ne (ne upd_same)]; exact upd_same
      · show eds (ws ++ [(Y, u.2)]) = _
        rw [take_snoc (eds_at hv), ← ewe, eds, List.map_append] <;> rfl
    rintro H4 ⟨ws, s4, ew, ewe⟩
    rw [List.length_map, ← eds_len, List.take_length] at ewe
    refine ⟨Z, _, rfl, .inl ⟨sl_map ew.lst, fun e ne => ?_⟩⟩
    have s5 := same_new (o := HO.tup (ws.map fun t => V.ref t.1)) ne
    have ep : e ≠ p := fun z => by rw [z, s4 _ _ e3] at ne; cases ne
    refine ⟨_, rfl, p, C, dx, _, rfl, s5 _ _ (s4 _ _ e3), T.cl, T.no _ (by simp), by show 1 < 1000; decide, ?_⟩
    refine k _ ⟨dx, t, e, ws, ?_, ?_, ⟨?_, fun v hv => ?_⟩, ewe⟩ fun b o h1 h2 => ?_
    · rw [upd_same, rput]
    · rw [upd_ne tp]; exact s5 _ _ (s4 _ _ (k3 _ _ tp et))
    · rw [upd_ne ep]; exact upd_same
    · have h1 := s5 _ _ (ew.tup v hv)
      rw [upd_ne fun z => by rw [z, s5 _ _ (s4 _ _ e3)] at h1; cases h1]; exact h1
    · rw [upd_ne h1]; exact s5 _ _ (s4 _ _ (k3 _ _ h1 (S2 _ _ h2)))
end
end K56
set_option Elab.async false
set_option linter.all false
set_option maxRecDepth 100000
set_option maxHeartbeats 4000000
namespace K56
open PySem PySem.Spec PyProof.Rows L2 Cs CsX
/-- sides that may be empty -/
structure Wd0 (es : List Edg) (S : Str → List Int) : Prop where
  srt : ∀ x ∈ enames es, Srt (S x)
  few : ∀ x ∈ enames es, (S x).length ≤ 16
  nam : (enames es).length ≤ 12
theorem alw_empty {es : List Edg} {S : Str → List Int} {x : Str} (hx : x ∈ enames es) (h : S x = []) (a : Str → Int) : ¬ Alw es S a := fun ha => by
  have := ha.1 x hx
  rw [h] at this; cases this
section
variable {P : Program} {w : World} {K : PySem.W.Frag} {mg : Str → Option Value} {base : Heap}
abbrev sWit : Stmt := inClass (topS 18) 2
abbrev nWit : List Str := ["self", "box", "word", "content"]
theorem scWit : FnScope nWit ["self", "box"] (defScope sWit) := ⟨rfl, rfl, rfl, by decide +kernel, rfl, by decide +kernel, by decide +kernel⟩
/-- what witness tells -/
inductive Wto (es : List Edg) (S : Str → List Int) (H H1 : Hp) : V → Prop
  | none (no : ∀ a, ¬ Alw es S a) : Wto es S H H1 .non
  | least (d : Addr) (A : List (Str × Int)) (f : Str → Int) (nd : H d = Option.none) (ed : H1 d = some (.dK (intK A))) (vf : VF A (enames es) f) (lst : Lst es S f) : Wto es S H H1 (.ref d)
def spWit (C : Addr) : Sp := fun vs H Q _ => ∃ (p b : Addr) (es : List Edg) (L : List Ent) (S : Str → List Int), vs = [.ref p, .ref b] ∧ Rg C H p es ∧ es.length ≤ 400 ∧ Bu H b L ∧ Fit L (enames es) S ∧ Wd0 es S ∧
  ∀ (H' : Hp) (v : V), Same H H' → Wto es S H H' v → Q v H'
theorem ok_Wit {f C fF fL : Addr} {fd fdF fdL : FuncData} (F : Fun K "witness" "Ring.witness" sWit f fd) (B : Bt mg) (T : Kls K mg "Ring" C rF) (CFem : Call P w K mg base 1 "first_empty" fF fdF ["names", "box"] spFem)
    (CLcl : Call P w K mg base 4 "least_climb" fL fdL ["edges", "box"] spLcl) : FnOk P w K mg base CX0 5 f fd ["self", "box"] (spWit C) := by
  refine F.ok scWit (fun vs H Q E h => ?_) (fun cdv A outer s H vs Q E hr h => ?_)
  · obtain ⟨p, b, es, L, S, rfl, _⟩ := h
    rfl
  · obtain ⟨p, b, es, L, S, rfl, ⟨dx, t, e, ts, hp, ht, el, rfl⟩, few, B1, F1, W0, q⟩ := h
    have hu := hu_of hr
    have nd := scWit.nd
    rw [eds_len] at few
    refine ⟨_, pss_cons (ps_if (pt_cmp (pc_notN (pe_call CFem.ok (hr.mono (by decide)) (by rfl) CFem.at_ CFem.kp CFem.bd .nil pass0 (pa_cons (pe_fld (pv 0) rfl) (pa_cons (pv 1) pa_nil)))))
        (pss_one (ps_ret pe_non))
        pss_nil)
      (pss_cons (ps_asg (pe_call CLcl.ok (hr.mono (by decide)) (by rfl) CLcl.at_ CLcl.kp CLcl.bd .nil pass0 (pa_cons (pe_fld (pv 0) rfl) (pa_cons (pv 1) pa_nil))) (pg_tup (by rfl) (pgs_cons (pg_name (i := 2) nd rfl (.inl rfl)) (pgs_cons (pg_name (i := 3) nd rfl (.inl rfl)) pgs_nil))))
      (pss_one (ps_ret (pe_ifExp (pt_cmpR op_eq (pv 2) pe_str rfl) (pv 3) pe_non)))), ?_⟩
    refine ⟨_, rfl, p, C, dx, _, _, rfl, hp, T.cl, T.no _ (by simp), rlook1 _ _, _, rfl, t, b, enames (eds ts), L, S, rfl, ht, B1, F1, fun ne => ?_, fun x hx ex _ => ?_⟩
    · refine ⟨_, rfl, iteF ?_⟩
      refine ⟨_, rfl, p, C, dx, _, _, rfl, hp, T.cl, T.no _ (by simp), rlook2 _ _, _, rfl, e, b, ts, L, S, rfl, el, few, B1, F1, ⟨W0.srt, ne, W0.few, W0.nam⟩, fun H1 Y r st s1 nY eY nr er run br no => ?_, fun H1 Y d A1 g s1 nY eY nd1 ed vf lst => ?_⟩
      · refine ⟨Y, _, rfl, .inl (.inl eY), rfl, _, _, rfl, _, _, rfl, rfl, ?_⟩
        exact ⟨_, rfl, rfl, _, rfl, ite_both (fun c => absurd (of_decide_eq_true c) (by decide +kernel)) fun _ => q _ _ s1 (.none no)⟩
      · refine ⟨Y, _, rfl, .inl (.inl eY), rfl, _, _, rfl, _, _, rfl, rfl, ?_⟩
        exact ⟨_, rfl, rfl, _, rfl, ite_both (fun _ => ⟨_, rfl, q _ _ s1 (.least d A1 g nd1 ed vf lst)⟩) fun c => absurd rfl (of_decide_eq_false c)⟩
    · refine ⟨_, rfl, iteT ?_⟩
      exact q _ _ (fun _ _ h => h) (.none (alw_empty hx ex))
theorem wit_no {m : Str} (h1 : ("names" : Str) ≠ m) (h2 : ("edges" : Str) ≠ m) (t e : Addr) : (rflds t e).lookup m = none := by
  unfold rflds
  have h1' : (m == ("names" : Str)) = false := beq_eq_false_iff_ne.mpr fun z => h1 z.symm
  have h2' : (m == ("edges" : Str)) = false := beq_eq_false_iff_ne.mpr fun z => h2 z.symm
  simp only [List.lookup, h1', h2']
end
end K56
set_option Elab.async false
set_option linter.all false
set_option maxRecDepth 100000
set_option maxHeartbeats 4000000
namespace K56
open PySem PySem.Spec PyProof.Rows L2 Cs CsX
theorem EdL.keep {H H' : Hp} {p l : Addr} {ts : List (Addr × Edg)} (B : EdL H l ts) (st : Strm H p) (hl : l ≠ p) (k : Keep p H H') : EdL H' l ts :=
  ⟨k _ _ hl B.lst, fun t ht => k _ _ (fun z => by
    obtain ⟨x, y, w, e⟩ := st
    have := B.tup t ht
    rw [z, e] at this
    cases this) (B.tup t ht)⟩
theorem EdL.push {H : Hp} {l T : Addr} {ts : List (Addr × Edg)} {e : Edg} (B : EdL H l ts) (hT : H T = some (.tup [.str e.1, .str e.2.1, .int e.2.2])) : EdL (upd H l (.lst ((ts.map fun t => V.ref t.1) ++ [.ref T]))) l (ts ++ [(T, e)]) := by
  have ne : ∀ {a : Addr} {xs : List V}, H a = some (.tup xs) → a ≠ l := fun h z => by rw [z, B.lst] at h; cases h
  refine ⟨by rw [upd_same, List.map_append] <;> rfl, fun t ht => ?_⟩
  rcases List.mem_append.mp ht with h | h
  · rw [upd_ne (ne (B.tup t h))]; exact B.tup t h
  · rw [List.mem_singleton.mp h, upd_ne (ne hT)]; exact hT
theorem EdL.other {H : Hp} {l q : Addr} {o : HO} {ys : List V} {ts : List (Addr × Edg)} (B : EdL H l ts) (hq : H q = some (.lst ys)) (h : l ≠ q) : EdL (upd H q o) l ts :=
  ⟨by rw [upd_ne h]; exact B.lst, fun t ht => by
    have h1 := B.tup t ht
    have : t.1 ≠ q := fun z => by rw [z, hq] at h1; cases h1
    rw [upd_ne this]; exact h1⟩
theorem EdL.new {H : Hp} {l q : Addr} {o : HO} {ts : List (Addr × Edg)} (B : EdL H l ts) (hq : H q = none) : EdL (upd H q o) l ts := B.same (same_new hq)
theorem EdL.oth {H H' : Hp} {p l : Addr} {ts : List (Addr × Edg)} (B : EdL H l ts) (st : Strm H p) (hl : l ≠ p) (k : Oth p H H') : EdL H' l ts := B.keep st hl ((Keep.refl p H).oth k)
theorem enames_sub {ts : List (Addr × Edg)} {xs : List Str} (h : ∀ t ∈ ts, t.2.1 ∈ xs ∧ t.2.2.1 ∈ xs) : ∀ x ∈ enames (eds ts), x ∈ xs := fun x hx => by
  obtain ⟨e, he, c⟩ := enames_mem.mp hx
  obtain ⟨t, ht, rfl⟩ := List.mem_map.mp he
  rcases c with rfl | rfl
  · exact (h t ht).1
  · exact (h t ht).2
/-- what a case is made of -/
structure CaseOk (ts : List (Addr × Edg)) (M : List Ent) : Prop where
  few : ts.length ≤ 20
  nam : (enames (eds ts)).length ≤ 12
  key : ∀ x ∈ enames (eds ts), x ∈ M.map (·.1)
  ok : ∀ g ∈ M, Srt g.2.2 ∧ g.2.2.length ≤ 16
  ne : ∀ g ∈ M, g.1 ∈ enames (eds ts) → g.2.2 ≠ []
def sd (M : List Ent) (x : Str) : List Int := (look M x).getD []
theorem CaseOk.get {ts : List (Addr × Edg)} {M : List Ent} (C : CaseOk ts M) {x : Str} (hx : x ∈ enames (eds ts)) : ∃ g ∈ M, g.1 = x ∧ look M x = some (sd M x) ∧ sd M x = g.2.2 := by
  cases e : look M x with
  | none =>
    have := look_isSome.mpr (C.key x hx)
    rw [e] at this; cases this
  | some s =>
    obtain ⟨g, hg, h1, h2⟩ := look_of e
    have : sd M x = s := by unfold sd; rw [e] <;> rfl
    exact ⟨g, hg, h1, by rw [this], by rw [this, h2]⟩
theorem CaseOk.fit {ts : List (Addr × Edg)} {M : List Ent} (C : CaseOk ts M) : Fit M (enames (eds ts)) (sd M) := fun x hx => by
  obtain ⟨g, _, _, h, _⟩ := C.get hx
  exact h
theorem CaseOk.wd {ts : List (Addr × Edg)} {M : List Ent} (C : CaseOk ts M) : Wd (eds ts) (sd M) := by
  refine ⟨fun x hx => ?_, fun x hx => ?_, fun x hx => ?_, C.nam⟩
  · obtain ⟨g, h1, h2, _, h3⟩ := C.get hx
    rw [h3]; exact (C.ok g h1).1
  · obtain ⟨g, h1, h2, _, h3⟩ := C.get hx
    rw [h3]; exact C.ne g h1 (by rw [h2]; exact hx)
  · obtain ⟨g, h1, h2, _, h3⟩ := C.get hx
    rw [h3]; exact (C.ok g h1).2
/-- the sides in the making -/
structure Ch (H : Hp) (p nm ed d : Addr) (xs : List Str) (ts : List (Addr × Edg)) (M : List Ent) : Prop where
  st : Strm H p
  enm : H nm = some (.lst (xs.map V.str))
  n1 : nm ≠ p
  el : EdL H ed ts
  n2 : ed ≠ p
  bu : Bu H d M
  aw : ∀ g ∈ M, g.2.1 ≠ p
section
variable {H H' : Hp} {p nm ed d z : Addr} {xs : List Str} {ts : List (Addr × Edg)} {M : List Ent} {x : Str} {s : List Int}
theorem Ch.keep (C : Ch H p nm ed d xs ts M) (k : Keep p H H') (st : Strm H' p) : Ch H' p nm ed d xs ts M := ⟨st, k _ _ C.n1 C.enm, C.n1, C.el.keep C.st C.n2 k, C.n2, C.bu.keep C.st k C.aw, C.aw⟩
theorem Ch.put (C : Ch H p nm ed d xs ts M) (ez : H z = some (.lst (s.map V.int))) (zp : z ≠ p) (few : M.length + 1 ≤ 40) : Ch (upd H d (.dK (entK (putE M x z s)))) p nm ed d xs ts (putE M x z s) := by
  have pd : p ≠ d := fun e => by
    obtain ⟨a, b, c, h⟩ := C.st
    have := C.bu.un
    rw [← e, h] at this; cases this
  have nd : nm ≠ d := fun e => by have := C.bu.un; rw [← e, C.enm] at this; cases this
  have ed' : ed ≠ d := fun e => by have := C.bu.un; rw [← e, C.el.lst] at this; cases this
  refine ⟨C.st.upd pd, by rw [upd_ne nd]; exact C.enm, C.n1, ⟨by rw [upd_ne ed']; exact C.el.lst, fun t ht => ?_⟩, C.n2, C.bu.aput ez few, fun g hg => ?_⟩
  · have h1 := C.el.tup t ht
    have : t.1 ≠ d := fun e => by have := C.bu.un; rw [← e, h1] at this; cases this
    rw [upd_ne this]; exact h1
  · rcases putE_mem hg with e | ⟨e, _⟩
    · rw [e]; exact zp
    · exact C.aw g e
end
theorem putE_has (M : List Ent) (x y : Str) (z : Addr) (s : List Int) : y ∈ (putE M x z s).map (·.1) ↔ y = x ∨ y ∈ M.map (·.1) := by
  rw [putE_keys]
  split
  · next c => exact ⟨.inr, fun h => h.elim (fun e => e ▸ c) id⟩
  · rw [List.mem_append, List.mem_singleton]
    exact ⟨fun h => h.symm, fun h => h.symm⟩
theorem at_ixS {ns : List Str} {d : Int} {i : Nat} (h0 : d = (i : Int)) (h1 : i < ns.length) : ∃ v, ns[i]? = some v ∧ atI (ns.map V.str) d = some (.str v) := by
  subst h0
  exact ⟨ns[i], List.getElem?_eq_getElem h1, atI_nat (by rw [List.getElem?_map, List.getElem?_eq_getElem h1] <;> rfl)⟩
end K56
set_option Elab.async false
set_option linter.all false
set_option maxRecDepth 100000
set_option maxHeartbeats 4000000
namespace K56
open PySem PySem.Spec PyProof.Rows L2 Cs CsX
theorem VF.add {A : List (Str × Int)} {ns : List Str} {f : Str → Int} {x : Str} (h : VF A ns f) : VF (putA A x (f x)) (addN ns x) f := by
  have val : ∀ y ∈ addN ns x, aget (putA A x (f x)) y = some (f y) := fun y hy => by
    rw [aget_put]
    by_cases c : x = y
    · rw [if_pos c, c]
    · rw [if_neg c]
      rcases addN_mem.mp hy with z | z
      · exact h.val y z
      · exact absurd z.symm c
  refine ⟨?_, val⟩
  unfold addN
  by_cases c : x ∈ ns
  · rw [if_pos c, putA_keys (by rw [h.keys]; exact c), h.keys]
  · rw [if_neg c, putA_new (by rw [h.keys]; exact c), List.map_append, h.keys] <;> rfl
theorem VF.grow {A : List (Str × Int)} {ns : List Str} {f : Str → Int} {x : Str} {v : Int} (h : VF A ns f) (hx : x ∉ ns) : VF (putA A x v) (ns ++ [x]) (K56.put f x v) := by
  have h1 : VF A ns (K56.put f x v) := h.mono fun y hy => by
    unfold K56.put
    rw [if_neg fun z => hx (by rw [← z]; exact hy)]
  have h2 := h1.add (x := x)
  unfold addN at h2
  rw [if_neg hx] at h2
  have e : K56.put f x v x = v := if_pos rfl
  rw [e] at h2
  exact h2
theorem Fit.get0 {H : Hp} {b : Addr} {L : List Ent} {ns : List Str} {S : Str → List Int} (B : Bu H b L) (F : Fit L ns S) {x : Str} (hx : x ∈ ns) : ∃ a, H a = some (.lst ((S x).map V.int)) ∧ ∀ {H' : Hp}, Same H H' → DGet H' b (.str x) (some (.ref a)) := by
  have h := F x hx
  unfold look at h
  obtain ⟨e, he, e2⟩ := Option.map_eq_some_iff.mp h
  refine ⟨e.2.1, by rw [← e2]; exact B.sides e (getE_mem he).1, fun {H'} s => ?_⟩
  have g := (B.same' s).get x
  rw [he] at g
  exact g
abbrev Asg := List (Str × Int)
/-- all choices, in order -/
def ext (S : Str → List Int) (x : Str) (A : Asg) : List Asg := (S x).map fun v => A ++ [(x, v)]
def rows (S : Str → List Int) (ns : List Str) : List Asg := ns.foldl (fun ds x => ds.flatMap (ext S x)) [[]]
theorem rows_snoc (S : Str → List Int) (P : List Str) (x : Str) : rows S (P ++ [x]) = (rows S P).flatMap (ext S x) := by unfold rows; rw [List.foldl_append] <;> rfl
def LexA (A B : Asg) : Prop := ∃ (i : Nat) (x : Str) (a b : Int), A[i]? = some (x, a) ∧ B[i]? = some (x, b) ∧ a < b
theorem rows_lex {S : Str → List Int} {ns : List Str} (so : ∀ x ∈ ns, Srt (S x)) : ∀ n, (rows S (ns.take n)).Pairwise LexA
  | 0 => by rw [List.take_zero]; exact List.pairwise_singleton _ _
  | n + 1 => by
    cases c : ns[n]? with
    | none =>
      have e : ns.take (n + 1) = ns.take n := by rw [List.take_add_one, c] <;> exact List.append_nil _
      rw [e]; exact rows_lex so n
    | some x =>
      rw [take_snoc c, rows_snoc, List.pairwise_flatMap]
      refine ⟨fun A hA => ?_, (rows_lex so n).imp fun {A B} h => ?_⟩
      · unfold ext
        refine List.pairwise_map.mpr ((so x (List.mem_of_getElem? c)).imp fun {a b} lt => ⟨A.length, x, a, b, ?_, ?_, lt⟩)
        · rw [List.getElem?_append_right (Nat.le_refl _), Nat.sub_self] <;> rfl
        · rw [List.getElem?_append_right (Nat.le_refl _), Nat.sub_self] <;> rfl
      · intro A2 h1 B2 h2
        obtain ⟨v, _, rfl⟩ := List.mem_map.mp h1
        obtain ⟨u, _, rfl⟩ := List.mem_map.mp h2
        obtain ⟨i, y, a, b, e1, e2, lt⟩ := h
        exact ⟨i, y, a, b, by rw [List.getElem?_append_left (List.getElem?_eq_some_iff.mp e1).1]; exact e1, by rw [List.getElem?_append_left (List.getElem?_eq_some_iff.mp e2).1]; exact e2, lt⟩
/-- the rows of all choices -/
structure Rws (H0 H : Hp) (ds : List (Addr × Asg)) (ns : List Str) (S : Str → List Int) : Prop where
  at_ : ∀ p ∈ ds, H p.1 = some (.dK (intK p.2))
  sound : ∀ p ∈ ds, ∃ f, VF p.2 ns f ∧ ∀ x ∈ ns, f x ∈ S x
  full : ∀ f : Str → Int, (∀ x ∈ ns, f x ∈ S x) → ∃ p ∈ ds, VF p.2 ns f
  exact_ : ds.map (·.2) = rows S ns
  fre : ∀ p ∈ ds, H0 p.1 = none
/-- the rows in the making -/
structure Mkr (H0 H : Hp) (gs ds : List (Addr × Asg)) (P : List Str) (x : Str) (S : Str → List Int) (j t : Nat) : Prop where
  at_ : ∀ p ∈ gs, H p.1 = some (.dK (intK p.2))
  sound : ∀ p ∈ gs, ∃ f, VF p.2 (P ++ [x]) f ∧ ∀ y ∈ P ++ [x], f y ∈ S y
  full : ∀ (f : Str → Int) (i : Nat) (d : Addr × Asg), ds[i]? = some d → VF d.2 P f → (∀ y ∈ P ++ [x], f y ∈ S y) → (i < j ∨ (i = j ∧ f x ∈ (S x).take t)) → ∃ p ∈ gs, VF p.2 (P ++ [x]) f
  exact_ : gs.map (·.2) = ((ds.take j).flatMap fun d => ext S x d.2) ++ (ds[j]?.toList.flatMap fun d => ((S x).take t).map fun v => d.2 ++ [(x, v)])
  fre : ∀ p ∈ gs, H0 p.1 = none
theorem Mkr.mono {H0 H H' : Hp} {gs ds : List (Addr × Asg)} {P : List Str} {x : Str} {S : Str → List Int} {j t : Nat} (m : Mkr H0 H gs ds P x S j t) (h : ∀ b kvs, H b = some (.dK kvs) → H' b = some (.dK kvs)) : Mkr H0 H' gs ds P x S j t := ⟨fun p hp => h _ _ (m.at_ p hp), m.sound, m.full, m.exact_, m.fre⟩
theorem Rws.mono {H0 H H' : Hp} {ds : List (Addr × Asg)} {P : List Str} {S : Str → List Int} (m : Rws H0 H ds P S) (h : ∀ b kvs, H b = some (.dK kvs) → H' b = some (.dK kvs)) : Rws H0 H' ds P S := ⟨fun p hp => h _ _ (m.at_ p hp), m.sound, m.full, m.exact_, m.fre⟩
theorem Mkr.next {H0 H : Hp} {gs ds : List (Addr × Asg)} {P : List Str} {x : Str} {S : Str → List Int} {j : Nat} (m : Mkr H0 H gs ds P x S j (S x).length) {d0 : Addr × Asg} (h0 : ds[j]? = some d0) : Mkr H0 H gs ds P x S (j + 1) 0 := by
  refine ⟨m.at_, m.sound, fun f i d hd vf hf c => m.full f i d hd vf hf ?_, ?_, m.fre⟩
  rotate_left
  · have e := m.exact_
    rw [h0, List.take_length] at e
    rw [e, take_snoc h0, List.flatMap_append, List.take_zero]
    simp [ext]
  rcases c with c | ⟨_, c⟩
  · rcases Nat.lt_or_ge i j with z | z
    · exact .inl z
    · exact .inr ⟨by omega, by rw [List.take_length]; exact hf x (List.mem_append_right _ (List.mem_singleton.mpr rfl))⟩
  · rw [List.take_zero] at c; cases c
theorem Mkr.rws {H0 H : Hp} {gs ds : List (Addr × Asg)} {P : List Str} {x : Str} {S : Str → List Int} (m : Mkr H0 H gs ds P x S ds.length 0) (r : ∀ f : Str → Int, (∀ x ∈ P, f x ∈ S x) → ∃ p ∈ ds, VF p.2 P f) (r2 : ds.map (·.2) = rows S P) : Rws H0 H gs (P ++ [x]) S := by
  refine ⟨m.at_, m.sound, fun f hf => ?_, ?_, m.fre⟩
  rotate_left
  · have e := m.exact_
    rw [List.take_length, List.getElem?_eq_none (Nat.le_refl _)] at e
    rw [e, rows_snoc, ← r2, List.flatMap_map]
    simp
  obtain ⟨p, hp, vf⟩ := r f fun y hy => hf y (List.mem_append_left _ hy)
  obtain ⟨i, hi⟩ := List.mem_iff_getElem?.mp hp
  exact m.full f i p hi vf hf (.inl (List.getElem?_eq_some_iff.mp hi).1)
theorem Mkr.add {H0 H H' : Hp} {gs ds : List (Addr × Asg)} {P : List Str} {x : Str} {S : Str → List Int} {j t : Nat} (m : Mkr H0 H gs ds P x S j t) {d : Addr × Asg} {D : Addr} {v : Int} (hd : ds[j]? = some d) (sd : ∃ f, VF d.2 P f ∧ ∀ y ∈ P, f y ∈ S y) (hv : (S x)[t]? = some v) (hx : x ∉ P)
    (k : ∀ b kvs, H b = some (.dK kvs) → H' b = some (.dK kvs)) (eD : H' D = some (.dK (intK (putA d.2 x v)))) (nD0 : H0 D = none) : Mkr H0 H' (gs ++ [(D, putA d.2 x v)]) ds P x S j (t + 1) := by
  obtain ⟨f0, vf0, in0⟩ := sd
  refine ⟨fun p hp => ?_, fun p hp => ?_, fun f i g hg vf hf c => ?_, ?_, fun p hp => (List.mem_append.mp hp).elim (m.fre p) fun z => by rw [List.mem_singleton.mp z]; exact nD0⟩
  rotate_right
  · have e := m.exact_
    rw [hd] at e
    rw [List.map_append, e, hd, take_snoc hv, putA_new (by rw [vf0.keys]; exact hx)]
    simp
  · rcases List.mem_append.mp hp with z | z
    · exact k _ _ (m.at_ p z)
    · rw [List.mem_singleton.mp z]; exact eD
  · rcases List.mem_append.mp hp with z | z
    · exact m.sound p z
    · rw [List.mem_singleton.mp z]
      refine ⟨_, vf0.grow hx, fun y hy => ?_⟩
      unfold K56.put
      split
      · next c => rw [c]; exact List.mem_of_getElem? hv
      · next c =>
        rcases List.mem_append.mp hy with q | q
        · exact in0 y q
        · exact absurd (List.mem_singleton.mp q) c
  · have old : (i < j ∨ (i = j ∧ f x ∈ (S x).take t)) → ∃ p ∈ gs ++ [(D, putA d.2 x v)], VF p.2 (P ++ [x]) f := fun c => by
      obtain ⟨p, hp, h⟩ := m.full f i g hg vf hf c
      exact ⟨p, List.mem_append_left _ hp, h⟩
    rcases c with c | ⟨c, c2⟩
    · exact old (.inl c)
    · rw [take_snoc hv] at c2
      rcases List.mem_append.mp c2 with z | z
      · exact old (.inr ⟨c, z⟩)
      · subst c
        obtain rfl := Option.some.inj (hd.symm.trans hg)
        refine ⟨_, List.mem_append_right _ (List.mem_singleton.mpr rfl), (vf.grow hx).mono fun y hy => ?_⟩
        unfold K56.put
        split
        · next q => rw [q]; exact (List.mem_singleton.mp z).symm
        · rfl
section
variable {P : Program} {w : World} {K : PySem.W.Frag} {mg : Str → Option Value} {base : Heap}
abbrev sAsg : Stmt := topS 30
abbrev nAsg : List Str := ["_law_names_here", "_law_sides_here", "_law_found", "_law_name", "_law_grown", "_law_values", "_law_value", "_law_more"]
theorem scAsg : FnScope nAsg ["_law_names_here", "_law_sides_here"] (defScope sAsg) := ⟨rfl, rfl, rfl, by decide +kernel, rfl, by decide +kernel, by decide +kernel⟩
def spAsg : Sp := fun vs H Q _ => ∃ (nm sd : Addr) (ns : List Str) (L : List Ent) (S : Str → List Int) (m : Nat), vs = [.ref nm, .ref sd] ∧ H nm = some (.lst (ns.map V.str)) ∧ ns.Nodup ∧ Bu H sd L ∧ Fit L ns S ∧ 1 ≤ m ∧ (∀ x ∈ ns, (S x).length ≤ m) ∧ m ^ ns.length ≤ 1000 ∧ ns.length ≤ 40 ∧
  ∀ (H' : Hp) (l : Addr) (ds : List (Addr × Asg)), Same H H' → H' l = some (.lst (ds.map fun p => V.ref p.1)) → Rws H H' ds ns S → ds.length ≤ 1000 → Q (.ref l) H'
theorem ok_Asg {f  : Addr} {fd  : FuncData} (F : Fun K "_law_assignments" "_law_assignments" sAsg f fd) (B : Bt mg) :
    FnOk P w K mg base CX0 1 f fd ["_law_names_here", "_law_sides_here"] spAsg := by
  refine F.ok scAsg (fun vs H Q E h => ?_) (fun cdv A outer s H vs Q E hr h => ?_)
  · obtain ⟨nm, sd, ns, L, S, m, rfl, _⟩ := h
    rfl
  · obtain ⟨nm, sd, ns, L, S, m, rfl, enm, nn, bw, F1, m1, lm, m1000, n40, q⟩ := h
    have hu := hu_of hr
    have nd := scAsg.nd
    refine ⟨_, pss_cons (ps_set (i := 2) nd rfl (.inl rfl) (pe_lst (pa_cons pe_dnewK pa_nil)))
      (pss_cons (ps_for PassesOwn.never rfl (pi_list (pv 0)) (pg_name (i := 3) nd rfl (.inl rfl))
        (pss_cons (ps_set (i := 4) nd rfl (.inl rfl) (pe_lst pa_nil))
          (pss_cons (ps_for PassesOwn.never rfl (pi_list (pe_callTy call_list_of (by rfl) B.list PyProof.Rows.boot_list (pa_cons (pv 2) pa_nil))) (pg_name (i := 5) nd rfl (.inl rfl))
            (pss_one (ps_for PassesOwn.never rfl (pi_list (pe_dget hu (pv 1) (pv 3) (fun _ _ => rfl))) (pg_name (i := 6) nd rfl (.inl rfl))
                (pss_cons (ps_set (i := 7) nd rfl (.inl rfl) (pe_callTy call_dictD (by rfl) B.dict PyProof.Rows.boot_dict (pa_cons (pv 5) pa_nil)))
                  (pss_cons (ps_dput hu (pv 7) (pv 3) (pv 6) rfl)
                  (pss_one (ps_expr (pe_bm PySem.F.plainAttrs_list PySem.F.slot_list_append PySem.F.type_list_append mt_append (pv 4) (pa_cons (pv 7) pa_nil)))))))))
          (pss_one (ps_set (i := 2) nd rfl (.inl rfl) (pv 4))))))
      (pss_one (ps_ret (pv 2)))), ?_⟩
    intro d0 n0
    refine ⟨by show 1 ≤ sizeLine; decide, fun f0 nf0 => ?_⟩
    have t1 := same_new (o := HO.dK []) n0
    have t2 := t1.trans (same_new (o := HO.lst [V.ref d0]) nf0)
    have n12 : d0 ≠ f0 := fun z => by rw [← z, upd_same] at nf0; cases nf0
    refine ⟨.ref nm, rfl, nm, rfl, ⟨_, sl_map (t2 _ _ enm)⟩, for_list (xs := ns.map V.str) (fun i σ H' => ∃ (f : Addr) (ds : List (Addr × Asg)) (y3 y4 y5 y6 y7 : Option V), σ = [some (.ref nm), some (.ref sd), some (.ref f), y3, y4, y5, y6, y7] ∧ Same H H' ∧ H' f = some (.lst (ds.map fun p => V.ref p.1)) ∧ Rws H H' ds (ns.take i) S ∧ ds.length ≤ m ^ i)
      ⟨f0, [(d0, [])], none, none, none, none, none, rfl, t2, upd_same, ⟨fun p hp => ?_, fun p hp => ?_, fun f _ => ⟨(d0, []), List.mem_singleton.mpr rfl, rfl, (fun _ h => nomatch h)⟩, rfl, fun p hp => by rw [List.mem_singleton.mp hp]; exact n0⟩, Nat.le_refl _⟩ (fun i σ H' _ h => by obtain ⟨f, ds, y3, y4, y5, y6, y7, _, s, _⟩ := h; exact sl_map (s _ _ enm)) ?_ ?_⟩
    · rw [List.mem_singleton.mp hp, upd_ne n12]; exact upd_same
    · rw [List.mem_singleton.mp hp]; exact ⟨fun _ => 0, ⟨rfl, (fun _ h => nomatch h)⟩, (fun _ h => nomatch h)⟩
    · rintro i x σ H' hx ⟨f, ds, y3, y4, y5, y6, y7, rfl, sm, ef, as, len⟩
      rw [List.getElem?_map] at hx
      obtain ⟨x, hv, rfl⟩ := Option.map_eq_some_iff.mp hx
      have xm := List.mem_of_getElem? hv
      have hi := (List.getElem?_eq_some_iff.mp hv).1
      have sl := lm x xm
      have pi1 : m ^ i * m ≤ 1000 := by
        rw [← Nat.pow_succ]
        exact Nat.le_trans (Nat.pow_le_pow_right m1 hi) m1000
      have lm1 : ds.length * m ≤ 1000 := Nat.le_trans (Nat.mul_le_mul_right m len) pi1
      have ld : ds.length ≤ 1000 := Nat.le_trans (by have := Nat.mul_le_mul_left ds.length m1; omega) lm1
      have xnew := not_take nn hv
      refine ⟨by show 0 ≤ sizeLine; decide, fun g ng => ?_⟩
      have ng0 : H g = none := sm.free ng
      have sg := same_new (o := HO.lst ([] : List V)) ng
      refine ⟨.ref f, rfl, f, _, rfl, .inl (sl_map (sg _ _ ef)), fun c nc => ?_⟩
      have ncg : c ≠ g := fun z => by rw [z, upd_same] at nc; cases nc
      have sc := sg.trans (same_new (o := HO.lst (ds.map fun p => V.ref p.1)) nc)
      refine ⟨c, rfl, ⟨_, sl_map upd_same⟩, for_list (xs := ds.map fun p => V.ref p.1) (fun j σ H2 => ∃ (gs : List (Addr × Asg)) (y5 y6 y7 : Option V), σ = [some (.ref nm), some (.ref sd), some (.ref f), some (.str x), some (.ref g), y5, y6, y7] ∧ Same H H2 ∧ H2 c = some (.lst (ds.map fun p => V.ref p.1)) ∧ (∀ p ∈ ds, H2 p.1 = some (.dK (intK p.2))) ∧ H2 g = some (.lst (gs.map fun p => V.ref p.1)) ∧ Mkr H H2 gs ds (ns.take i) x S j 0 ∧ gs.length ≤ j * m)
        ⟨[], y5, y6, y7, rfl, sm.trans sc, upd_same, fun p hp => sc _ _ (as.at_ p hp), by rw [upd_ne ncg.symm]; exact upd_same, ⟨(fun _ h => nomatch h), (fun _ h => nomatch h), (fun _ _ _ _ _ _ z => z.elim (fun z => nomatch z) fun z => nomatch z.2), by simp, (fun _ h => nomatch h)⟩, Nat.zero_le _⟩ (fun j σ H2 _ h => by obtain ⟨gs, y5, y6, y7, _, _, h, _⟩ := h; exact sl_map h) ?_ ?_⟩
      · rintro j x0 σ H2 hx2 ⟨gs, y5, y6, y7, rfl, sm2, ec, as2, eg, mk, lg⟩
        rw [List.getElem?_map] at hx2
        obtain ⟨⟨a, A0⟩, hv2, rfl⟩ := Option.map_eq_some_iff.mp hx2
        have am := List.mem_of_getElem? hv2
        have hj := (List.getElem?_eq_some_iff.mp hv2).1
        have jm : j * m + m ≤ 1000 := by
          have := Nat.mul_le_mul_right m (show j + 1 ≤ ds.length by omega)
          rw [Nat.succ_mul] at this
          omega
        obtain ⟨sa, e0, ga0⟩ := Fit.get0 bw F1 xm
        have ga := ga0 sm2
        have ea := sm2 _ _ e0
        refine ⟨.ref sd, rfl, .str x, rfl, sd, .ref sa, rfl, ga, sa, rfl, ⟨_, sl_map ea⟩, for_list (xs := (S x).map V.int) (fun t σ H3 => ∃ (gs : List (Addr × Asg)) (y6 y7 : Option V), σ = [some (.ref nm), some (.ref sd), some (.ref f), some (.str x), some (.ref g), some (.ref a), y6, y7] ∧ Same H H3 ∧ H3 sa = some (.lst ((S x).map V.int)) ∧ H3 c = some (.lst (ds.map fun p => V.ref p.1)) ∧ (∀ p ∈ ds, H3 p.1 = some (.dK (intK p.2))) ∧ H3 g = some (.lst (gs.map fun p => V.ref p.1)) ∧ Mkr H H3 gs ds (ns.take i) x S j t ∧ gs.length ≤ j * m + t)
          ⟨gs, y6, y7, rfl, sm2, ea, ec, as2, eg, mk, lg⟩ (fun t σ H3 _ h => by obtain ⟨gs, y6, y7, _, _, h, _⟩ := h; exact sl_map h) ?_ ?_⟩
        · clear mk lg eg as2 ec sm2 gs ea
          rintro t x0 σ H3 hx3 ⟨gs, y6, y7, rfl, sm3, ea, ec, as3, eg, mk, lg⟩
          rw [List.getElem?_map] at hx3
          obtain ⟨v, hv3, rfl⟩ := Option.map_eq_some_iff.mp hx3
          have ht := (List.getElem?_eq_some_iff.mp hv3).1
          have e1 : H3 a = some (.dK (intK A0)) := as3 _ am
          obtain ⟨fa, vfa, ina⟩ := as.sound _ am
          refine ⟨.ref a, rfl, a, _, rfl, .inl e1, fun D nD => ?_⟩
          have nDg : g ≠ D := fun z => by rw [← z, eg] at nD; cases nD
          have nDc : c ≠ D := fun z => by rw [← z, ec] at nD; cases nD
          have sD := same_new (o := HO.dK (intK A0)) nD
          refine ⟨.int v, rfl, .ref D, rfl, .str x, rfl, D, _, rfl, DPut.k (k := .inr x) upd_same (by rw [intK_len, vfa.few, List.length_take]; exact small1000 (by omega)), ?_⟩
          rw [putK_int]
          have sD2 : Same H3 (upd (upd H3 D (.dK (intK A0))) D (.dK (intK (putA A0 x v)))) := same_at sD nD
          have eg2 := sD2 _ _ eg
          refine ⟨.ref g, rfl, .inl ⟨rfl, _, sl_map eg2⟩, .ref D, rfl, g, _, _, rfl, rfl, eg2, by rw [List.length_map]; exact small1000 (by omega), ?_⟩
          have mono : ∀ b kvs, H3 b = some (.dK kvs) → (upd (upd (upd H3 D (.dK (intK A0))) D (.dK (intK (putA A0 x v)))) g (.lst ((gs.map fun p => V.ref p.1) ++ [V.ref D]))) b = some (.dK kvs) := fun b kvs h => by
            have h1 : b ≠ g := fun z => by rw [z, eg] at h; cases h
            rw [upd_ne h1]
            exact sD2 _ _ h
          have sag : sa ≠ g := fun z => by
            rw [z, ng0] at e0; cases e0
          refine ⟨gs ++ [(D, putA A0 x v)], _, _, rfl, same_at (sm3.trans sD2) ng0, ?_, ?_, fun p hp => mono _ _ (as3 p hp), by rw [upd_same, List.map_append] <;> rfl, ?_, by rw [List.length_append, List.length_singleton]; omega⟩
          · rw [upd_ne sag]; exact sD2 _ _ ea
          · rw [upd_ne ncg]; exact sD2 _ _ ec
          · exact mk.add (d := (a, A0)) hv2 ⟨fa, vfa, ina⟩ hv3 xnew mono (by rw [upd_ne nDg.symm]; exact upd_same) (sm3.free nD)
        · clear mk lg eg as2 ec sm2 gs ea
          rintro σ H3 ⟨gs, y6, y7, rfl, sm3, ea, ec, as3, eg, mk, lg⟩
          rw [List.length_map] at lg mk
          exact ⟨gs, _, _, _, rfl, sm3, ec, as3, eg, mk.next hv2, by rw [Nat.succ_mul]; omega⟩
      · rintro σ H2 ⟨gs, y5, y6, y7, rfl, sm2, ec, as2, eg, mk, lg⟩
        rw [List.length_map] at lg mk
        refine ⟨_, rfl, g, gs, _, _, _, _, _, rfl, sm2, eg, by rw [take_snoc hv]; exact mk.rws as.full as.exact_, ?_⟩
        rw [Nat.pow_succ]
        exact Nat.le_trans lg (Nat.mul_le_mul_right m len)
    · rintro σ H' ⟨f, ds, y3, y4, y5, y6, y7, rfl, sm, ef, as, len⟩
      rw [List.length_map] at as len
      rw [List.take_length] at as
      exact ⟨_, rfl, q H' f ds sm ef as (by omega)⟩
end
end K56
set_option Elab.async false
set_option linter.all false
set_option maxRecDepth 100000
set_option maxHeartbeats 4000000
namespace K56
open PySem PySem.Spec PyProof.Rows L2 Cs CsX
/-- the ring's data -/
def Dt (H : Hp) (T : Addr) (es : List Edg) : Prop := ∃ (nm l : Addr) (ts : List (Addr × Edg)), H T = some (.tup [.str "ring", .ref nm, .ref l]) ∧ H nm = some (.lst ((enames es).map V.str)) ∧ EdL H l ts ∧ eds ts = es
theorem Dt.same {H H' : Hp} {T : Addr} {es : List Edg} (D : Dt H T es) (s : Same H H') : Dt H' T es := by
  obtain ⟨nm, l, ts, h1, h2, h3, h4⟩ := D
  exact ⟨nm, l, ts, s _ _ h1, s _ _ h2, h3.same s, h4⟩
def alwB (es : List Edg) (f : Str → Int) : Bool := es.all fun e => decide (f e.1 - f e.2.1 ≤ e.2.2)
theorem alwB_iff {es : List Edg} {f : Str → Int} : alwB es f = true ↔ ∀ e ∈ es, f e.1 ≤ f e.2.1 + e.2.2 := by
  unfold alwB
  rw [List.all_eq_true]
  constructor
  · intro h e he
    have := of_decide_eq_true (h e he)
    omega
  · intro h e he
    have := h e he
    exact decide_eq_true (by omega)
section
variable {P : Program} {w : World} {K : PySem.W.Frag} {mg : Str → Option Value} {base : Heap}
abbrev sAlw : Stmt := topS 29
abbrev nAlw : List Str := ["_law_data", "_law_values", "_law_taken", "_law_total", "_law_name", "_law_entry", "_law_term", "_law_edge"]
theorem scAlw : FnScope nAlw ["_law_data", "_law_values"] (defScope sAlw) := ⟨rfl, rfl, rfl, by decide +kernel, rfl, by decide +kernel, by decide +kernel⟩
def spAlw : Sp := fun vs H Q _ => ∃ (T d : Addr) (es : List Edg) (A : Asg) (f : Str → Int), vs = [.ref T, .ref d] ∧ Dt H T es ∧ es.length ≤ 400 ∧ (enames es).length ≤ 12 ∧ H d = some (.dK (intK A)) ∧ (∀ x ∈ enames es, aget A x = some (f x)) ∧ ∀ H', Same H H' → Q (.bl (alwB es f)) H'
theorem ok_Alw {f  : Addr} {fd  : FuncData} (F : Fun K "_law_allows" "_law_allows" sAlw f fd) (B : Bt mg) (ztuple : mg "tuple" = none) (zsum : mg "sum" = none) :
    FnOk P w K mg base CX0 1 f fd ["_law_data", "_law_values"] spAlw := by
  refine F.ok scAlw (fun vs H Q E h => ?_) (fun cdv A outer s H vs Q E hr h => ?_)
  · obtain ⟨T, d, es, A, f, rfl, _⟩ := h
    rfl
  · obtain ⟨T, d, es, A, f, rfl, ⟨nm, l, ts, hT, enm, el, rfl⟩, few, n12, ed, vf, q⟩ := h
    rw [eds_len] at few
    have hu := hu_of hr
    have nd := scAlw.nd
    refine ⟨_, pss_cons (ps_set (i := 2) nd rfl (.inr rfl) (pe_lc (own := [("_law_name", 4)]) (g := gName 4) (tt := tYes)  rfl nd (pi_list (pe_ix ix_tup (pv 0) pe_int (fun _ _ => rfl))) (blkOk_by (N := nAlw) (sc := defScope sAlw) (by decide +kernel)) (fun _ _ _ _ _ => pg_name (i := 4) nd rfl (.inl rfl)) (fun _ _ _ _ _ => pts_nil)
              (fun _ _ _ _ _ => (pe_dget hu (pv 1) (pv 4) (fun _ _ => rfl)))))
          (pss_cons (ps_if (PW.pt (pw_or (pt_cmpR op_eq (pe_ix ix_tup (pv 0) pe_int (fun _ _ => rfl)) pe_str rfl) (pw_or1 (pt_cmpR op_eq (pe_ix ix_tup (pv 0) pe_int (fun _ _ => rfl)) pe_str rfl))))
            pss_any
            pss_nil)
          (pss_cons (ps_if (pt_cmpR op_eq (pe_ix ix_tup (pv 0) pe_int (fun _ _ => rfl)) pe_str rfl)
            pss_any
            pss_nil)
          (pss_cons (ps_if (pt_cmpR op_eq (pe_ix ix_tup (pv 0) pe_int (fun _ _ => rfl)) pe_str rfl)
            (pss_one (ps_ret (pe_callB (cr_all rfl) (by rfl) B.all PyProof.Rows.boot_all (pa_cons (pe_lc (own := [("_law_edge", 7)]) (g := gName 7) (tt := tYes)  rfl nd (pi_list (pe_ix ix_tup (pv 0) pe_int (fun _ _ => rfl))) (blkOk_by (N := nAlw) (sc := defScope sAlw) (by decide +kernel)) (fun _ _ _ _ _ => pg_name (i := 7) nd rfl (.inl rfl)) (fun _ _ _ _ _ => pts_nil)
                  (fun _ _ _ _ _ => (pe_cmpR op_le (pe_op op_sub (pe_dget hu (pv 1) (pe_ix (r := rIxT K) ix_tup (pv 7) pe_int (fun _ _ => rfl)) (fun _ _ => rfl)) (pe_dget hu (pv 1) (pe_ix (r := rIxT K) ix_tup (pv 7) pe_int (fun _ _ => rfl)) (fun _ _ => rfl))) (pe_ix (r := rIxT K) ix_tup (pv 7) pe_int (fun _ _ => rfl)) rfl))) pa_nil))))
            pss_nil)
          pss_any))), ?_⟩
    refine ⟨_, rfl, T, _, _, .ref nm, rfl, rfl, .inl (.inl hT), atI_nat (j := 1) rfl, nm, rfl, ⟨_, sl_map enm⟩, fun Z nZ => lc_list (xs := (enames (eds ts)).map V.str) (fun i H' => Same H H' ∧ H' Z = some (.lst (((enames (eds ts)).take i).map fun x => V.int (f x)))) ⟨same_new nZ, upd_same⟩ (fun i H' _ h => sl_map (h.1 _ _ enm)) ?_ ?_⟩
    · rintro i x H2 hx ⟨s2, eZ⟩
      rw [List.getElem?_map] at hx
      obtain ⟨x, hv, rfl⟩ := Option.map_eq_some_iff.mp hx
      refine ⟨rfl, _, rfl, _, rfl, d, .int (f x), rfl, dgetI (s2 _ _ ed) (vf x (List.mem_of_getElem? hv)), _, eZ, by rw [List.length_map, List.length_take]; exact small1000 (by omega), same_at s2 nZ, ?_⟩
      rw [upd_same, take_snoc hv, List.map_append] <;> rfl
    rintro H2 ⟨s2, eZ⟩
    have hT2 := s2 _ _ hT
    have el2 := el.same s2
    have ed2 := s2 _ _ ed
    refine ⟨_, rfl, T, _, _, .str "ring", rfl, rfl, .inl (.inl hT2), atI_nat (j := 0) rfl, rfl, _, rfl, ite_both (fun c => absurd (of_decide_eq_true c) (by decide +kernel)) fun _ => ?_⟩
    refine ⟨_, rfl, T, _, _, .str "ring", rfl, rfl, .inl (.inl hT2), atI_nat (j := 0) rfl, rfl, _, rfl, ite_both (fun c => absurd (of_decide_eq_true c) (by decide +kernel)) fun _ => ?_⟩
    refine ⟨_, rfl, T, _, _, .str "ring", rfl, rfl, .inl (.inl hT2), atI_nat (j := 0) rfl, rfl, _, rfl, ite_both (fun c => absurd (of_decide_eq_true c) (by decide +kernel)) fun _ => ?_⟩
    refine ⟨_, rfl, T, _, _, .str "ring", rfl, rfl, .inl (.inl hT2), atI_nat (j := 0) rfl, rfl, _, rfl, ite_both (fun _ => ?_) fun c => absurd rfl (of_decide_eq_false c)⟩
    refine ⟨_, rfl, T, _, _, .ref l, rfl, rfl, .inl (.inl hT2), atI_nat (j := 2) rfl, l, rfl, ⟨_, sl_map el2.lst⟩, fun Y nY => lc_list (xs := ts.map fun t => V.ref t.1) (fun i H' => Same H2 H' ∧ H' Y = some (.lst ((((eds ts).take i).map fun e => decide (f e.1 - f e.2.1 ≤ e.2.2)).map V.bl))) ⟨same_new nY, upd_same⟩ (fun i H' _ h => sl_map (h.1 _ _ el2.lst)) ?_ ?_⟩
    · rintro i x H3 hx ⟨s3, eY⟩
      rw [List.getElem?_map] at hx
      obtain ⟨t, ht, rfl⟩ := Option.map_eq_some_iff.mp hx
      have et := (el2.same s3).tup t (List.mem_of_getElem? ht)
      obtain ⟨u1, u2⟩ := ends (List.mem_of_getElem? (eds_at ht))
      have ed3 := s3 _ _ ed2
      refine ⟨rfl, _, rfl, _, rfl, t.1, _, _, .str t.2.1, rfl, rfl, .inl (.inl et), atI_nat (j := 0) rfl, d, .int (f t.2.1), rfl, dgetI ed3 (vf _ u1), _, rfl, _, rfl, t.1, _, _, .str t.2.2.1, rfl, rfl, .inl (.inl et), atI_nat (j := 1) rfl, d, .int (f t.2.2.1), rfl, dgetI ed3 (vf _ u2), _, _, rfl, rfl, _, rfl, t.1, _, _, .int t.2.2.2, rfl, rfl, .inl (.inl et), atI_nat (j := 2) rfl, _, _, rfl, rfl, ?_⟩
      refine ⟨_, eY, by rw [List.length_map, List.length_map, List.length_take]; have := (List.getElem?_eq_some_iff.mp ht).1; exact small1000 (by omega), same_at s3 nY, ?_⟩
      rw [upd_same, take_snoc (eds_at ht), List.map_append, List.map_append] <;> rfl
    rintro H3 ⟨s3, eY⟩
    rw [List.length_map, ← eds_len, List.take_length] at eY
    refine ⟨Y, _, rfl, sl_map eY, ?_⟩
    have e : (((eds ts).map fun e => decide (f e.1 - f e.2.1 ≤ e.2.2)).all id) = alwB (eds ts) f := by
      unfold alwB
      rw [List.all_map] <;> rfl
    rw [e]
    exact q _ (s2.trans s3)
end
end K56
set_option Elab.async false
set_option linter.all false
set_option maxRecDepth 100000
set_option maxHeartbeats 4000000
namespace K56
open PySem PySem.Spec PyProof.Rows L2 Cs CsX
/-- the values that a row holds -/
def fA (A : Asg) (x : Str) : Int := (aget A x).getD 0
theorem VF.fA {A : Asg} {ns : List Str} {f : Str → Int} (h : VF A ns f) : ∀ x ∈ ns, f x = fA A x := fun x hx => by
  unfold K56.fA
  rw [h.val x hx] <;> rfl
theorem alwB_congr {es : List Edg} {f g : Str → Int} (h : ∀ x ∈ enames es, f x = g x) : alwB es f = alwB es g := by
  rw [Bool.eq_iff_iff, alwB_iff, alwB_iff]
  exact ⟨fun a e he => by rw [← h _ (ends he).1, ← h _ (ends he).2]; exact a e he, fun a e he => by rw [h _ (ends he).1, h _ (ends he).2]; exact a e he⟩
/-- the rows of the solutions -/
structure Sol (H0 H : Hp) (ds : List (Addr × Asg)) (es : List Edg) (S : Str → List Int) : Prop where
  at_ : ∀ p ∈ ds, H p.1 = some (.dK (intK p.2))
  sound : ∀ p ∈ ds, VF p.2 (enames es) (fA p.2) ∧ Alw es S (fA p.2)
  full : ∀ f : Str → Int, Alw es S f → ∃ p ∈ ds, VF p.2 (enames es) f
  first : ∀ d rest, ds = d :: rest → ∀ f, Lst es S f → VF d.2 (enames es) f
  fre : ∀ p ∈ ds, H0 p.1 = none
theorem Sol.same {H0 H H' : Hp} {ds : List (Addr × Asg)} {es : List Edg} {S : Str → List Int} (o : Sol H0 H ds es S) (s : Same H H') : Sol H0 H' ds es S := ⟨fun p hp => s _ _ (o.at_ p hp), o.sound, o.full, o.first, o.fre⟩
theorem Sol.of {H0 H : Hp} {ds : List (Addr × Asg)} {es : List Edg} {S : Str → List Int} (r : Rws H0 H ds (enames es) S) (so : ∀ x ∈ enames es, Srt (S x)) : Sol H0 H (ds.filter fun p => alwB es (fA p.2)) es S := by
  have sound : ∀ p ∈ ds.filter fun p => alwB es (fA p.2), VF p.2 (enames es) (fA p.2) ∧ Alw es S (fA p.2) := fun p hp => by
    obtain ⟨h1, h2⟩ := List.mem_filter.mp hp
    obtain ⟨f, vf, inS⟩ := r.sound p h1
    have e := vf.fA
    exact ⟨vf.mono e, fun x hx => by rw [← e x hx]; exact inS x hx, alwB_iff.mp h2⟩
  have full : ∀ f : Str → Int, Alw es S f → ∃ p ∈ ds.filter fun p => alwB es (fA p.2), VF p.2 (enames es) f := fun f hf => by
    obtain ⟨p, hp, vf⟩ := r.full f hf.1
    exact ⟨p, List.mem_filter.mpr ⟨hp, by rw [← alwB_congr vf.fA]; exact alwB_iff.mpr hf.2⟩, vf⟩
  refine ⟨fun p hp => r.at_ p (List.mem_filter.mp hp).1, sound, full, fun d rest hd f lst => ?_, fun p hp => r.fre p (List.mem_filter.mp hp).1⟩
  have px : (ds.map (·.2)).Pairwise LexA := by
    rw [r.exact_]
    have := rows_lex (S := S) (ns := enames es) so (enames es).length
    rwa [List.take_length] at this
  have px2 := (List.pairwise_map.mp px).filter fun p => alwB es (fA p.2)
  obtain ⟨p, hp, vf⟩ := full f lst.1
  have hd' : d ∈ ds.filter fun p => alwB es (fA p.2) := by rw [hd]; exact List.mem_cons_self
  obtain ⟨vd, ad⟩ := sound d hd'
  rw [hd] at px2 hp
  rcases List.mem_cons.mp hp with z | z
  · rw [z] at vf; exact vf
  · obtain ⟨i, y, a, b, e1, e2, lt⟩ := (List.pairwise_cons.mp px2).1 p z
    have n1 : (d.2.map (·.1)).Nodup := by rw [vd.keys]; exact enames_nd _
    have n2 : (p.2.map (·.1)).Nodup := by rw [vf.keys]; exact enames_nd _
    have hy : y ∈ enames es := by rw [← vd.keys]; exact List.mem_map.mpr ⟨(y, a), List.mem_of_getElem? e1, rfl⟩
    have g1 := (aget_iff n1 y a).mpr (List.mem_of_getElem? e1)
    have g2 := (aget_iff n2 y b).mpr (List.mem_of_getElem? e2)
    have h1 : fA d.2 y = a := by unfold fA; rw [g1] <;> rfl
    have h2 : f y = b := Option.some.inj ((vf.val y hy).symm.trans g2)
    have := lst.2 _ ad y hy
    omega
section
variable {P : Program} {w : World} {K : PySem.W.Frag} {mg : Str → Option Value} {base : Heap}
abbrev sAld : Stmt := topS 31
abbrev nAld : List Str := ["_law_data", "_law_sides_here", "_law_values"]
theorem scAld : FnScope nAld ["_law_data", "_law_sides_here"] (defScope sAld) := ⟨rfl, rfl, rfl, by decide +kernel, rfl, by decide +kernel, by decide +kernel⟩
def spAld : Sp := fun vs H Q _ => ∃ (T sd : Addr) (es : List Edg) (L : List Ent) (S : Str → List Int) (m : Nat), vs = [.ref T, .ref sd] ∧ Dt H T es ∧ es.length ≤ 400 ∧ (enames es).length ≤ 12 ∧ Bu H sd L ∧ Fit L (enames es) S ∧ (∀ x ∈ enames es, Srt (S x)) ∧ 1 ≤ m ∧ (∀ x ∈ enames es, (S x).length ≤ m) ∧ m ^ (enames es).length ≤ 1000 ∧
  ∀ (H' : Hp) (l : Addr) (ds : List (Addr × Asg)), Same H H' → H' l = some (.lst (ds.map fun p => V.ref p.1)) → Sol H H' ds es S → ds.length ≤ 1000 → Q (.ref l) H'
theorem ok_Ald {f f0 f1 : Addr} {fd fd0 fd1 : FuncData} (F : Fun K "_law_allowed" "_law_allowed" sAld f fd) (B : Bt mg) (CAsg : Call P w K mg base 1 "_law_assignments" f0 fd0 ["_law_names_here", "_law_sides_here"] spAsg) (CAlw : Call P w K mg base 1 "_law_allows" f1 fd1 ["_law_data", "_law_values"] spAlw) :
    FnOk P w K mg base CX0 2 f fd ["_law_data", "_law_sides_here"] spAld := by
  refine F.ok scAld (fun vs H Q E h => ?_) (fun cdv A outer s H vs Q E hr h => ?_)
  · obtain ⟨T, sd, es, L, S, m, rfl, _⟩ := h
    rfl
  · obtain ⟨T, sd, es, L, S, m, rfl, D0, few, n12, B1, F1, so, m1, lm, m1000, q⟩ := h
    have nd := scAld.nd
    refine ⟨_, pss_one (ps_ret (pe_lc (own := [("_law_values", 2)]) (g := gName 2) (tt := _) (te := tVar 2) rfl nd (pi_list (pe_call CAsg.ok (hr.mono (by decide)) (by rfl) CAsg.at_ CAsg.kp CAsg.bd .nil pass0 (pa_cons (pe_ix ix_tup (pv 0) pe_int (fun _ _ => rfl)) (pa_cons (pv 1) pa_nil)))) (blkOk_by (N := nAld) (sc := defScope sAld) (by decide +kernel)) (fun _ _ _ _ _ => pg_name (i := 2) nd rfl (.inl rfl)) (fun _ _ _ _ _ => pts_one (pt_val (pe_call CAlw.ok (hr.mono (by decide)) (by rfl) CAlw.at_ CAlw.kp CAlw.bd .nil pass0 (pa_cons (pv 0) (pa_cons (pv 2) pa_nil)))))
          (fun _ _ _ _ _ => (pv 2)))), ?_⟩
    obtain ⟨nm, l, ts, hT, enm, el, e0⟩ := D0
    refine ⟨_, rfl, T, _, _, .ref nm, rfl, rfl, .inl (.inl hT), atI_nat (j := 1) rfl, _, rfl, nm, sd, enames es, L, S, m, rfl, enm, enames_nd es, B1, F1, m1, lm, m1000, by omega, fun H1 l0 ds s1 el0 rws ld => ?_⟩
    have D1 : Dt H1 T es := ⟨nm, l, ts, s1 _ _ hT, s1 _ _ enm, el.same s1, e0⟩
    refine ⟨l0, rfl, ⟨_, sl_map el0⟩, fun Z nZ => lc_list (xs := ds.map fun p => V.ref p.1) (fun i H' => Same H1 H' ∧ H' Z = some (.lst (((ds.take i).filter fun p => alwB es (fA p.2)).map fun p => V.ref p.1))) ⟨same_new nZ, upd_same⟩ (fun i H' _ h => sl_map (h.1 _ _ el0)) ?_ ?_⟩
    · rintro i x H2 hx ⟨s2, eZ⟩
      rw [List.getElem?_map] at hx
      obtain ⟨p, hp, rfl⟩ := Option.map_eq_some_iff.mp hx
      have pm := List.mem_of_getElem? hp
      obtain ⟨f, vf, inS⟩ := rws.sound p pm
      have fs := filter_snoc (p := fun p : Addr × Asg => alwB es (fA p.2)) hp
      have fl := filter_len ds (fun p : Addr × Asg => alwB es (fA p.2)) i
      refine ⟨rfl, _, rfl, _, rfl, T, p.1, es, p.2, fA p.2, rfl, D1.same s2, few, n12, s2 _ _ (rws.at_ p pm), (vf.mono vf.fA).val, fun H3 s3 => ?_⟩
      refine ⟨_, rfl, ite_both (fun c => ?_) fun c => ?_⟩
      · refine ⟨_, rfl, _, s3 _ _ eZ, by rw [List.length_map]; exact small1000 (by omega), same_at (s2.trans s3) nZ, ?_⟩
        rw [upd_same, fs, if_pos c, List.map_append] <;> rfl
      · refine ⟨s2.trans s3, ?_⟩
        rw [fs, c, if_neg (by decide), List.append_nil]
        exact s3 _ _ eZ
    rintro H2 ⟨s2, eZ⟩
    rw [List.length_map, List.take_length] at eZ
    exact q _ Z _ (s1.trans s2) eZ (Sol.of (rws.mono fun b kvs h => s2 _ _ h) so) (Nat.le_trans (List.length_filter_le _ _) ld)
abbrev sLen : Stmt := topS 36
abbrev nLen : List Str := ["_law_edges", "_law_names_here", "_law_edge", "_law_k"]
theorem scLen : FnScope nLen ["_law_edges"] (defScope sLen) := ⟨rfl, rfl, rfl, by decide +kernel, rfl, by decide +kernel, by decide +kernel⟩
theorem ok_Len {f  : Addr} {fd  : FuncData} (F : Fun K "_law_edge_names" "_law_edge_names" sLen f fd) (B : Bt mg) :
    FnOk P w K mg base CX0 1 f fd ["_law_edges"] spEdn := by
  refine F.ok scLen (fun vs H Q E h => ?_) (fun cdv A outer s H vs Q E hr h => ?_)
  · obtain ⟨l, ts, rfl, _⟩ := h
    rfl
  · obtain ⟨l, ts, rfl, el, few, q⟩ := h
    have nd := scLen.nd
    refine ⟨_, pss_cons (ps_set (i := 1) nd rfl (.inl rfl) (pe_lst pa_nil))
      (pss_cons (ps_for PassesOwn.never rfl (pi_list (pv 0)) (pg_name (i := 2) nd rfl (.inl rfl))
        (pss_one (ps_for PassesOwn.never rfl (pi_range1 (by rfl) B.range (pa_cons pe_int pa_nil)) (pg_name (i := 3) nd rfl (.inl rfl))
            (pss_one (ps_if (pt_cmpR (r := rIn K true) op_notIn_seq (pe_ix ix_tup (pv 2) (pv 3) (fun _ _ => rfl)) (pv 1) rfl)
                (pss_one (ps_expr (pe_bm PySem.F.plainAttrs_list PySem.F.slot_list_append PySem.F.type_list_append mt_append (pv 1) (pa_cons (pe_ix ix_tup (pv 2) (pv 3) (fun _ _ => rfl)) pa_nil))))
                pss_nil)))))
      (pss_one (ps_ret (pv 1)))), ?_⟩
    refine ⟨by show 0 ≤ sizeLine; decide, fun R nR => ?_⟩
    refine ⟨.ref l, rfl, l, rfl, ⟨_, sl_map (el.same (same_new nR)).lst⟩, for_list (xs := ts.map fun t => V.ref t.1) (fun i σ H' => ∃ (y2 y3 : Option V), σ = [some (.ref l), some (.ref R), y2, y3] ∧ Same H H' ∧ H' R = some (.lst ((enames ((eds ts).take i)).map V.str)))
      ⟨none, none, rfl, same_new nR, upd_same⟩ (fun i σ H' _ h => by obtain ⟨_, _, _, s, _⟩ := h; exact sl_map (el.same s).lst) ?_ ?_⟩
    · rintro i x σ H1 hx ⟨y2, y3, rfl, s1, eR⟩
      rw [List.getElem?_map] at hx
      obtain ⟨t, ht, rfl⟩ := Option.map_eq_some_iff.mp hx
      obtain ⟨g, g0, g2, gs⟩ := enames_two (eds_at ht)
      rw [← g0] at eR
      refine ⟨2, rfl, by decide, by decide, for_range (lo := 0) (n := 2) (fun j σ H' => ∃ (y3 : Option V), σ = [some (.ref l), some (.ref R), some (.ref t.1), y3] ∧ Same H H' ∧ H' R = some (.lst ((g j).map V.str))) ⟨_, rfl, s1, eR⟩ ?_ ?_⟩
      · rintro j σ H2 hj ⟨y3, rfl, s2, eR2⟩
        have et := (el.same s2).tup t (List.mem_of_getElem? ht)
        obtain ⟨z, hz, gz, zm, gl⟩ := gs j hj
        rw [eds_len] at gl
        refine ⟨_, rfl, _, rfl, t.1, _, _, .str z, rfl, rfl, .inl (.inl et), at_eq (by omega) hz, _, rfl, R, _, rfl, .inl (sl_map eR2), rfl, flats_str _, _, rfl, ?_⟩
        rw [if_pos rfl, in_strs]
        refine ite_both (fun c => ⟨_, rfl, .inl ⟨rfl, _, sl_map eR2⟩, _, rfl, _, rfl, t.1, _, _, .str z, rfl, rfl, .inl (.inl et), at_eq (by omega) hz, R, _, _, rfl, rfl, eR2, by rw [List.length_map]; exact small1000 (by omega), _, rfl, same_at s2 nR, ?_⟩) fun c => ⟨_, rfl, s2, ?_⟩
        · rw [upd_same, gz]
          unfold addN
          rw [if_neg (by simpa using c), List.map_append] <;> rfl
        · rw [gz]
          unfold addN
          rw [if_pos (by simpa using c)]; exact eR2
      · rintro σ H2 ⟨y3, rfl, s2, eR2⟩
        rw [g2] at eR2
        exact ⟨_, _, rfl, s2, eR2⟩
    · rintro σ H1 ⟨y2, y3, rfl, s1, eR⟩
      rw [List.length_map, show ts.length = (eds ts).length from (List.length_map _).symm, List.take_length] at eR
      exact ⟨_, rfl, q H1 R s1 nR eR⟩
end
end K56
set_option Elab.async false
set_option linter.all false
set_option maxRecDepth 100000
set_option maxHeartbeats 4000000
namespace K56
open PySem PySem.Spec PyProof.Rows L2 Cs CsX
section
variable {P : Program} {w : World} {K : PySem.W.Frag} {mg : Str → Option Value} {base : Heap}
abbrev sRda : Stmt := topS 28
abbrev nRda : List Str := ["_law_stream_here", "_law_scope", "_law_pool_here", "_law_edges", "_law_names_here", "_law_k", "_law_at", "_law_step", "_law_gap", "_law_name"]
theorem scRda : FnScope nRda ["_law_stream_here", "_law_scope", "_law_pool_here"] (defScope sRda) := ⟨rfl, rfl, rfl, by decide +kernel, rfl, by decide +kernel, by decide +kernel⟩
def spRda : Sp := fun vs H Q _ => ∃ (s nm pl : Addr) (xs : List Str) (ns : List Int), vs = [.ref s, .ref nm, .ref pl] ∧ Strm H s ∧ H nm = some (.lst (xs.map V.str)) ∧ H pl = some (.lst (ns.map V.int)) ∧ nm ≠ s ∧ pl ≠ s ∧ 1 ≤ xs.length ∧ xs.length ≤ 8 ∧ 1 ≤ ns.length ∧ ns.length ≤ 100 ∧
  ∀ (H' : Hp) (T z l : Addr) (ts : List (Addr × Edg)), Keep s H H' → H l = none → Strm H' s → H' T = some (.tup [.str "ring", .ref z, .ref l]) → EdL H' l ts → 1 ≤ ts.length → ts.length ≤ 4 → (∀ t ∈ ts, t.2.1 ∈ xs ∧ t.2.2.1 ∈ xs) → Q (.ref T) H'
theorem ok_Rda {f f0 : Addr} {fd fd0 : FuncData} (F : Fun K "_law_ring_data" "_law_ring_data" sRda f fd) (B : Bt mg) (zmax : mg "max" = none) (D : Call P w K mg base 1 "_law_next" f0 fd0 ["_law_stream_here", "_law_size"] spDraw) :
    FnOk P w K mg base CX0 2 f fd ["_law_stream_here", "_law_scope", "_law_pool_here"] spRda := by
  refine F.ok scRda (fun vs H Q E h => ?_) (fun cdv A outer s H vs Q E hr h => ?_)
  · obtain ⟨s, nm, pl, xs, ns, rfl, _⟩ := h
    rfl
  · obtain ⟨s, nm, pl, xs, ns, rfl, hs, enm, epl, nms, pls, x1, x8, n1, n100, q⟩ := h
    have nd := scRda.nd
    refine ⟨_, pss_cons (ps_set (i := 3) nd rfl (.inl rfl) (pe_lst pa_nil))
      (pss_cons (ps_set (i := 4) nd rfl (.inl rfl) (pe_lst pa_nil))
      (pss_cons (ps_for PassesOwn.never rfl (pi_range1 (by rfl) B.range (pa_cons (pe_op op_add pe_int (pe_call D.ok (hr.mono (by decide)) (by rfl) D.at_ D.kp D.bd .nil pass0 (pa_cons (pv 0) (pa_cons pe_int pa_nil)))) pa_nil)) (pg_name (i := 5) nd rfl (.inl rfl))
        (pss_cons (ps_set (i := 6) nd rfl (.inl rfl) (pe_call D.ok (hr.mono (by decide)) (by rfl) D.at_ D.kp D.bd .nil pass0 (pa_cons (pv 0) (pa_cons (pe_callB call_len_seq (by rfl) B.len PySem.boot_len (pa_cons (pv 1) pa_nil)) pa_nil))))
          (pss_cons (ps_set (i := 7) nd rfl (.inl rfl) (pe_op op_sub (pe_op op_add pe_int (pe_call D.ok (hr.mono (by decide)) (by rfl) D.at_ D.kp D.bd .nil pass0 (pa_cons (pv 0) (pa_cons (pe_callB (call_max2 rfl) (by rfl) zmax PyProof.Rows.boot_max (pa_cons pe_int (pa_cons (pe_op op_sub (pe_callB call_len_seq (by rfl) B.len PySem.boot_len (pa_cons (pv 1) pa_nil)) pe_int) pa_nil))) pa_nil)))) (pe_callTy call_int1 (by rfl) B.int PyProof.Rows.boot_int (pa_cons (pe_cmpR op_eq (pe_call D.ok (hr.mono (by decide)) (by rfl) D.at_ D.kp D.bd .nil pass0 (pa_cons (pv 0) (pa_cons pe_int pa_nil))) pe_int rfl) pa_nil))))
          (pss_cons (ps_set (i := 8) nd rfl (.inl rfl) (pe_op op_sub (pe_op op_add (pe_ix ix_list (pv 2) (pe_call D.ok (hr.mono (by decide)) (by rfl) D.at_ D.kp D.bd .nil pass0 (pa_cons (pv 0) (pa_cons (pe_callB call_len_seq (by rfl) B.len PySem.boot_len (pa_cons (pv 2) pa_nil)) pa_nil))) (fun _ _ => rfl)) (pe_call D.ok (hr.mono (by decide)) (by rfl) D.at_ D.kp D.bd .nil pass0 (pa_cons (pv 0) (pa_cons pe_int pa_nil)))) pe_int))
          (pss_cons (ps_set (i := 8) nd rfl (.inl rfl) (pe_op op_sub (pv 8) (pe_ix ix_list (pv 2) (pe_call D.ok (hr.mono (by decide)) (by rfl) D.at_ D.kp D.bd .nil pass0 (pa_cons (pv 0) (pa_cons (pe_callB call_len_seq (by rfl) B.len PySem.boot_len (pa_cons (pv 2) pa_nil)) pa_nil))) (fun _ _ => rfl))))
          (pss_cons (ps_expr (pe_bm PySem.F.plainAttrs_list PySem.F.slot_list_append PySem.F.type_list_append mt_append (pv 3) (pa_cons (pe_tup (pa_cons (pe_ix ix_list (pv 1) (pv 6) (fun _ _ => rfl)) (pa_cons (pe_ix ix_list (pv 1) (pe_op op_mod (pe_callTy call_int1 (by rfl) B.int PyProof.Rows.boot_int (pa_cons (pe_op op_add (pv 6) (pv 7)) pa_nil)) (pe_callB call_len_seq (by rfl) B.len PySem.boot_len (pa_cons (pv 1) pa_nil))) (fun _ _ => rfl)) (pa_cons (pv 8) pa_nil)))) pa_nil)))
          (pss_one (ps_for PassesOwn.never rfl (pi_tup (pe_slice sl_tup (pe_ix ix_list (pv 3) (pv 5) (fun _ _ => rfl)) po_none (po_some pe_int))) (pg_name (i := 9) nd rfl (.inl rfl))
            (pss_one (ps_if (pt_cmpR (r := rIn K true) op_notIn_seq (pv 9) (pv 4) rfl)
                (pss_one (ps_expr (pe_bm PySem.F.plainAttrs_list PySem.F.slot_list_append PySem.F.type_list_append mt_append (pv 4) (pa_cons (pv 9) pa_nil))))
                pss_nil))))))))))
      (pss_one (ps_ret (pe_tup (pa_cons pe_str (pa_cons (pv 4) (pa_cons (pv 3) pa_nil)))))))), ?_⟩
    refine ⟨by show 0 ≤ sizeLine; decide, fun l nl => ?_⟩
    have ls : l ≠ s := fun z => hs.some (z ▸ nl)
    refine ⟨by show 0 ≤ sizeLine; decide, fun z nz => ?_⟩
    have lz : l ≠ z := fun e => by rw [← e, upd_same] at nz; cases nz
    have nz0 : H z = none := by rw [upd_ne lz.symm] at nz; exact nz
    have zs : z ≠ s := fun e => hs.some (e ▸ nz0)
    refine ⟨_, rfl, s, 4, rfl, (hs.upd ls.symm).upd zs.symm, by decide, by decide, fun H0 c o0 st0 c0 c1 => ⟨_, _, rfl, rfl, ?_⟩⟩
    have k0 : Keep s H H0 := (((Keep.refl s H).at_ nl).at_ nz0).oth o0
    have el0 : EdL H0 l [] := ⟨by rw [o0 l ls, upd_ne lz, upd_same] <;> rfl, (fun _ h => nomatch h)⟩
    have ez0 : H0 z = some (.lst (([] : List Str).map V.str)) := by rw [o0 z zs, upd_same] <;> rfl
    clear o0
    obtain ⟨m, rfl⟩ : ∃ m : Nat, c = (m : Int) := ⟨c.toNat, by omega⟩
    have ei : (1 : Int) + (m : Int) = ((m + 1 : Nat) : Int) := by omega
    refine ⟨((m + 1 : Nat) : Int), congrArg (fun k => [V.int k]) ei, by omega, by omega, for_range (lo := 0) (n := m + 1) (fun i σ H' => ∃ (y5 y6 y7 y8 y9 : Option V) (ws : List (Addr × Edg)) (us : List Str), σ = [some (.ref s), some (.ref nm), some (.ref pl), some (.ref l), some (.ref z), y5, y6, y7, y8, y9] ∧ Keep s H H' ∧ Strm H' s ∧ EdL H' l ws ∧ ws.length = i ∧ (∀ t ∈ ws, t.2.1 ∈ xs ∧ t.2.2.1 ∈ xs) ∧ H' z = some (.lst (us.map V.str)) ∧ us.length ≤ 2 * i)
      ⟨none, none, none, none, none, [], [], rfl, k0, st0, el0, rfl, (fun _ h => nomatch h), ez0, Nat.zero_le _⟩ ?_ ?_⟩
    · rintro i σ H1 hi ⟨y5, y6, y7, y8, y9, ws, us, rfl, k1, st1, el1, lw, sub, ez1, lu⟩
      have kk : ∀ {H'}, Keep s H H' → H' nm = some (.lst (xs.map V.str)) ∧ H' pl = some (.lst (ns.map V.int)) := fun k => ⟨k _ _ nms enm, k _ _ pls epl⟩
      refine ⟨_, rfl, _, rfl, nm, _, rfl, .inl (sl_map (kk k1).1), s, _, rfl, st1, by rw [List.length_map]; omega, by rw [List.length_map]; omega, fun H2 a o2 st2 a0 a1 => ?_⟩
      rw [List.length_map] at a1
      have k2 := k1.oth o2
      have el2 := el1.oth st1 ls o2
      have ez2 := (o2 z zs).trans ez1
      refine ⟨_, rfl, _, rfl, nm, _, rfl, .inl (sl_map (kk k2).1), _, _, rfl, rfl, _, _, rfl, ?_⟩
      have dm : ∀ {z : Int}, z = (if ((List.map V.str xs).length : Int) - 1 > 1 then ((List.map V.str xs).length : Int) - 1 else 1) → 0 < z ∧ z < 1073741824 := fun {z} h => by
        rw [h, List.length_map]
        split <;> omega
      refine ⟨s, _, rfl, st2, (dm rfl).1, (dm rfl).2, fun H3 b o3 st3 b0 b1 => ⟨_, _, rfl, rfl, ?_⟩⟩
      clear b0 b1 dm
      have k3 := k2.oth o3
      have el3 := el2.oth st2 ls o3
      have ez3 := (o3 z zs).trans ez2
      refine ⟨_, rfl, s, 12, rfl, st3, by decide, by decide, fun H4 e o4 st4 e0 e1 => ⟨rfl, .inr ⟨_, rfl, _, _, rfl, rfl, ?_⟩⟩⟩
      have k4 := k3.oth o4
      have el4 := el3.oth st3 ls o4
      have ez4 := (o4 z zs).trans ez3
      obtain ⟨stp, hst⟩ : ∃ stp : Int, stp = 1 + b - (if decide (V.int e = V.int 0) = true then 1 else 0) := ⟨_, rfl⟩
      refine ⟨_, rfl, _, rfl, _, rfl, pl, _, rfl, .inl (sl_map (kk k4).2), s, _, rfl, st4, by rw [List.length_map]; omega, by rw [List.length_map]; omega, fun H5 g o5 st5 g0 g1 => ?_⟩
      rw [List.length_map] at g1
      have k5 := k4.oth o5
      have el5 := el4.oth st4 ls o5
      have ez5 := (o5 z zs).trans ez4
      obtain ⟨u, _, au⟩ := at_in (ns := ns) g0 g1
      refine ⟨pl, _, _, .int u, rfl, rfl, sl_map (kk k5).2, au, _, rfl, s, 3, rfl, st5, by decide, by decide, fun H6 v o6 st6 v0 v1 => ⟨_, _, rfl, rfl, _, _, rfl, rfl, ?_⟩⟩
      have k6 := k5.oth o6
      have el6 := el5.oth st5 ls o6
      have ez6 := (o6 z zs).trans ez5
      refine ⟨_, rfl, _, rfl, _, rfl, _, rfl, pl, _, rfl, .inl (sl_map (kk k6).2), s, _, rfl, st6, by rw [List.length_map]; omega, by rw [List.length_map]; omega, fun H7 h o7 st7 h0 h1 => ?_⟩
      rw [List.length_map] at h1
      have k7 := k6.oth o7
      have el7 := el6.oth st6 ls o7
      have ez7 := (o7 z zs).trans ez6
      obtain ⟨u2, _, au2⟩ := at_in (ns := ns) h0 h1
      refine ⟨pl, _, _, .int u2, rfl, rfl, sl_map (kk k7).2, au2, _, _, rfl, rfl, ?_⟩
      obtain ⟨xa, xam, axa⟩ := at_inS (ns := xs) a0 a1
      refine ⟨_, rfl, .inl ⟨rfl, _, sl_map el7.lst⟩, _, rfl, _, rfl, nm, _, _, .str xa, rfl, rfl, sl_map (kk k7).1, axa, _, rfl, _, rfl, _, rfl, _, _, rfl, rfl, .inl ⟨_, rfl, _, rfl, nm, _, rfl, .inl (sl_map (kk k7).1), _, _, rfl, rfl, by rw [List.length_map]; omega, ?_⟩⟩
      have o0 : 0 ≤ (a + stp) % ((List.map V.str xs).length : Int) := Int.emod_nonneg _ (by rw [List.length_map]; omega)
      have o1 : (a + stp) % ((List.map V.str xs).length : Int) < (xs.length : Nat) := by
        have := Int.emod_lt_of_pos (a + stp) (show (0 : Int) < (xs.length : Int) by omega)
        rw [List.length_map]; exact this
      obtain ⟨xb, xbm, axb⟩ := at_inS (ns := xs) o0 o1
      refine ⟨nm, _, _, .str xb, rfl, rfl, sl_map (kk k7).1, hst ▸ axb, _, rfl, by show 3 ≤ sizeLine; decide, fun T nT => ?_⟩
      have elT := el7.new (o := HO.tup [V.str xa, .str xb, .int (u + v - 1 - u2)]) nT
      have sT : s ≠ T := fun e => st7.some (e ▸ nT)
      have zT : z ≠ T := fun e => by rw [← e, ez7] at nT; cases nT
      have lT : l ≠ T := fun e => by have := el7.lst; rw [e, nT] at this; cases this
      refine ⟨l, _, _, rfl, rfl, elT.lst, by rw [List.length_map]; exact small1000 (by omega), ?_⟩
      have el8 := elT.push (T := T) (e := (xa, xb, u + v - 1 - u2)) upd_same
      have k8 : Keep s H (upd (upd H7 T (.tup [V.str xa, .str xb, .int (u + v - 1 - u2)])) l (.lst ((ws.map fun t => V.ref t.1) ++ [.ref T]))) := (k7.at_ (k7.free st7 nT)).at_ nl
      have st8 : Strm (upd (upd H7 T (.tup [V.str xa, .str xb, .int (u + v - 1 - u2)])) l (.lst ((ws.map fun t => V.ref t.1) ++ [.ref T]))) s := (st7.upd sT).upd ls.symm
      have ez8 : (upd (upd H7 T (.tup [V.str xa, .str xb, .int (u + v - 1 - u2)])) l (.lst ((ws.map fun t => V.ref t.1) ++ [.ref T]))) z = some (.lst (us.map V.str)) := by rw [upd_ne lz.symm, upd_ne zT]; exact ez7
      have eT8 : (upd (upd H7 T (.tup [V.str xa, .str xb, .int (u + v - 1 - u2)])) l (.lst ((ws.map fun t => V.ref t.1) ++ [.ref T]))) T = some (.tup [V.str xa, .str xb, .int (u + v - 1 - u2)]) := by rw [upd_ne lT.symm, upd_same]
      generalize upd (upd H7 T (.tup [V.str xa, .str xb, .int (u + v - 1 - u2)])) l (.lst ((ws.map fun t => V.ref t.1) ++ [.ref T])) = H8 at el8 k8 st8 ez8 eT8 ⊢
      have atk : atI ((ws ++ [(T, ((xa, xb, u + v - 1 - u2) : Edg))]).map fun t => V.ref t.1) (0 + (i : Int)) = some (.ref T) := at_int (by omega) (by rw [show (0 + (i : Int)).toNat = ws.length by omega, List.getElem?_map, List.getElem?_append_right (Nat.le_refl _), Nat.sub_self] <;> rfl)
      refine ⟨_, rfl, _, rfl, l, _, _, .ref T, rfl, rfl, sl_map el8.lst, atk, ?_⟩
      refine ⟨_, rfl, T, _, rfl, .inl (.inl eT8), fun z => absurd z.2 (by show ¬ (2 = 3); decide), fun p np => ?_⟩
      have ec : cutV [V.str xa, .str xb, .int (u + v - 1 - u2)] none (some 2) = [V.str xa, V.str xb] := rfl
      rw [ec]
      have pz : z ≠ p := fun e => by rw [← e, ez8] at np; cases np
      have sp : s ≠ p := fun e => st8.some (e ▸ np)
      refine ⟨p, rfl, ⟨_, .inl (.inl upd_same)⟩, for_tup (xs := [V.str xa, V.str xb]) (fun j σ H' => ∃ (y9 : Option V) (us : List Str), σ = [some (.ref s), some (.ref nm), some (.ref pl), some (.ref l), some (.ref z), some (.int (0 + (i : Int))), some (.int a), some (.int (1 + b - (if decide (V.int e = V.int 0) = true then 1 else 0))), some (.int (u + v - 1 - u2)), y9] ∧ Keep s H H' ∧ Strm H' s ∧ EdL H' l (ws ++ [(T, (xa, xb, u + v - 1 - u2))]) ∧ H' p = some (.tup [V.str xa, V.str xb]) ∧ H' z = some (.lst (us.map V.str)) ∧ us.length ≤ 2 * i + j)
        ⟨_, us, rfl, k8.at_ (k8.free st8 np), st8.upd sp, el8.new np, upd_same, by rw [upd_ne pz]; exact ez8, lu⟩ (fun j σ H' _ h => by obtain ⟨_, _, _, _, _, _, h, _⟩ := h; exact .inl (.inl h)) ?_ ?_⟩
      · clear ez8 k8 st8 el8 eT8 np lu ez1 ez2 ez3 ez4 ez5 ez6 ez7 us y9
        rintro j x0 σ H9 hx0 ⟨y9, us, rfl, k9, st9, el9, ep, ez9, lu⟩
        obtain ⟨w, rfl, hj⟩ : ∃ w : Str, x0 = .str w ∧ j < 2 := by
          match j, hx0 with
          | 0, hx => exact ⟨xa, (Option.some.inj hx).symm, by omega⟩
          | 1, hx => exact ⟨xb, (Option.some.inj hx).symm, by omega⟩
          | k + 2, hx => cases hx
        refine ⟨_, rfl, _, rfl, z, _, rfl, .inl (sl_map ez9), rfl, flats_str _, _, rfl, ?_⟩
        rw [if_pos rfl, in_strs]
        have lz9 : l ≠ z := lz
        refine ite_both (fun c => ⟨_, rfl, .inl ⟨rfl, _, sl_map ez9⟩, _, rfl, z, _, _, rfl, rfl, ez9, by rw [List.length_map]; exact small1000 (by omega), _, us ++ [w], rfl, k9.at_ nz0, st9.upd zs.symm, ?_, ?_, by rw [upd_same, List.map_append] <;> rfl, by rw [List.length_append]; show us.length + 1 ≤ _; omega⟩) fun c => ⟨_, us, rfl, k9, st9, el9, ep, ez9, by omega⟩
        · exact el9.other ez9 lz
        · have : p ≠ z := pz.symm
          rw [upd_ne this]; exact ep
      · clear ez8 k8 st8 el8 eT8 np lu ez1 ez2 ez3 ez4 ez5 ez6 ez7 us y9
        rintro σ H9 ⟨y9, us, rfl, k9, st9, el9, ep, ez9, lu⟩
        refine ⟨_, _, _, _, _, _, us, rfl, k9, st9, el9, by rw [List.length_append, lw] <;> rfl, fun t ht => ?_, ez9, lu⟩
        rcases List.mem_append.mp ht with h | h
        · exact sub t h
        · rw [List.mem_singleton.mp h]; exact ⟨xam, xbm⟩
    · rintro σ H1 ⟨y5, y6, y7, y8, y9, ws, us, rfl, k1, st1, el1, lw, sub, ez1, lu⟩
      refine ⟨_, rfl, _, rfl, by show 3 ≤ sizeLine; decide, fun T nT => ?_⟩
      have sT : s ≠ T := fun e => st1.some (e ▸ nT)
      exact q _ T z l ws (k1.at_ (k1.free st1 nT)) nl (st1.upd sT) upd_same (el1.new nT) (by omega) (by omega) sub
end
end K56
set_option Elab.async false
set_option linter.all false
set_option maxRecDepth 100000
set_option maxHeartbeats 4000000
namespace K56
open PySem PySem.Spec PyProof.Rows L2 Cs CsX
theorem keep_same {H Hc Hn : Hp} {p : Addr} (s : Same H Hc) (k : Keep p Hc Hn) (n : H p = none) : Same H Hn := fun b o e => k b o (fun z => by rw [z, n] at e; cases e) (s b o e)
theorem EdL.cat {H : Hp} {l1 l2 Y : Addr} {ts us : List (Addr × Edg)} (a : EdL H l1 ts) (b : EdL H l2 us) (n : H Y = none) : EdL (upd H Y (.lst ((ts.map fun t => V.ref t.1) ++ us.map fun t => V.ref t.1))) Y (ts ++ us) :=
  ⟨by rw [upd_same, List.map_append], fun t ht => by
    have h : H t.1 = some (.tup [.str t.2.1, .str t.2.2.1, .int t.2.2.2]) := (List.mem_append.mp ht).elim (a.tup t) (b.tup t)
    rw [upd_ne fun z => by rw [z, n] at h; cases h]; exact h⟩
theorem ne_of_none0 {H : Hp} {l s : Addr} (n : H l = none) (st : Strm H s) : l ≠ s := fun z => st.some (by rw [← z]; exact n)
/-- what a case is made of -/
structure CaseB (xs : List Str) (ex : Str) (ns : List Int) (ts : List (Addr × Edg)) (m : Nat) : Prop where
  nd : xs.Nodup
  ex : ex ∉ xs
  x1 : 1 ≤ xs.length
  x5 : xs.length ≤ 5
  srt : Srt ns
  n1 : 1 ≤ ns.length
  n14 : ns.length ≤ 14
  m1 : 1 ≤ m
  m14 : m ≤ 14
  pw : m ^ xs.length ≤ 1000
  t1 : 1 ≤ ts.length
  t10 : ts.length ≤ 10
  sub : ∀ t ∈ ts, t.2.1 ∈ xs ∧ t.2.2.1 ∈ xs
structure Drw (H : Hp) (r e sc pl : Addr) (xs : List Str) (ex : Str) (ns : List Int) (ts : List (Addr × Edg)) (m : Nat) : Prop where
  er : H r = some (.lst [.ref e, .ref sc, .str ex, .ref pl, .int (m : Int)])
  el : EdL H e ts
  esc : H sc = some (.lst (xs.map V.str))
  epl : H pl = some (.lst (ns.map V.int))
theorem Drw.same {H H' : Hp} {r e sc pl : Addr} {xs : List Str} {ex : Str} {ns : List Int} {ts : List (Addr × Edg)} {m : Nat} (d : Drw H r e sc pl xs ex ns ts m) (s : Same H H') : Drw H' r e sc pl xs ex ns ts m := ⟨s _ _ d.er, d.el.same s, s _ _ d.esc, s _ _ d.epl⟩
section
variable {P : Program} {w : World} {K : PySem.W.Frag} {mg : Str → Option Value} {base : Heap}
abbrev sRcs : Stmt := topS 37
abbrev nRcs : List Str := ["_law_script", "_law_stream_here", "_law_count", "_law_shape", "_law_most", "_law_names_here", "_law_size", "_law_pool_here", "_law_scope", "_law_second", "_law_edges", "_law_at", "_law_other", "_law_gap", "_law_slack"]
theorem scRcs : FnScope nRcs ["_law_script"] (defScope sRcs) := ⟨rfl, rfl, rfl, by decide +kernel, rfl, by decide +kernel, by decide +kernel⟩
def spRcs (K : PySem.W.Frag) : Sp := fun vs H Q _ => ∃ (a : Addr) (cs : List Int), vs = [.ref a] ∧ SqL K H a (cs.map V.int) ∧
  ∀ (H' : Hp) (r e sc pl : Addr) (xs : List Str) (ex : Str) (ns : List Int) (ts : List (Addr × Edg)) (m : Nat), Same H H' → Drw H' r e sc pl xs ex ns ts m → CaseB xs ex ns ts m → Q (.ref r) H'
theorem ok_Rcs {f f0 f1 f2 f3 f4 : Addr} {fd fd0 fd1 fd2 fd3 fd4 : FuncData} (F : Fun K "_law_ring_case" "_law_ring_case" sRcs f fd) (B : Bt mg) (Cst : Call P w K mg base 1 "_law_stream" f0 fd0 ["_law_script", "_law_k"] (spStream K)) (D : Call P w K mg base 1 "_law_next" f1 fd1 ["_law_stream_here", "_law_size"] spDraw) (Cna : Call P w K mg base 2 "_law_names" f2 fd2 ["_law_stream_here", "_law_count"] spNames) (Cpo : Call P w K mg base 2 "_law_pool" f3 fd3 ["_law_stream_here", "_law_count"] spPool) (CRda : Call P w K mg base 2 "_law_ring_data" f4 fd4 ["_law_stream_here", "_law_scope", "_law_pool_here"] spRda) :
    FnOk P w K mg base CX0 3 f fd ["_law_script"] (spRcs K) := by
  refine F.ok scRcs (fun vs H Q E h => ?_) (fun cdv A outer s H vs Q E hr h => ?_)
  · obtain ⟨a, cs, rfl, _⟩ := h
    rfl
  · obtain ⟨a, cs, rfl, ha, q⟩ := h
    have nd := scRcs.nd
    refine ⟨_, pss_cons (ps_set (i := 1) nd rfl (.inl rfl) (pe_call Cst.ok (hr.mono (by decide)) (by rfl) Cst.at_ Cst.kp Cst.bd .nil pass0 (pa_cons (pv 0) (pa_cons pe_int pa_nil))))
      (pss_cons (ps_set (i := 2) nd rfl (.inl rfl) (pe_op op_add pe_int (pe_call D.ok (hr.mono (by decide)) (by rfl) D.at_ D.kp D.bd .nil pass0 (pa_cons (pv 1) (pa_cons pe_int pa_nil)))))
      (pss_cons (ps_set (i := 3) nd rfl (.inl rfl) (pe_call D.ok (hr.mono (by decide)) (by rfl) D.at_ D.kp D.bd .nil pass0 (pa_cons (pv 1) (pa_cons pe_int pa_nil))))
      (pss_cons (ps_set (i := 4) nd rfl (.inl rfl) pe_int)
      (pss_cons (ps_if (pt_cmpR op_eq (pv 3) pe_int rfl)
        (pss_cons (ps_set (i := 2) nd rfl (.inl rfl) pe_int)
          (pss_one (ps_set (i := 4) nd rfl (.inl rfl) pe_int)))
        pss_nil)
      (pss_cons (ps_if (pt_cmpR op_eq (pv 3) pe_int rfl)
        (pss_cons (ps_set (i := 2) nd rfl (.inl rfl) pe_int)
          (pss_one (ps_set (i := 4) nd rfl (.inl rfl) pe_int)))
        pss_nil)
      (pss_cons (ps_set (i := 5) nd rfl (.inl rfl) (pe_call Cna.ok (hr.mono (by decide)) (by rfl) Cna.at_ Cna.kp Cna.bd .nil pass0 (pa_cons (pv 1) (pa_cons (pe_op op_add (pv 2) pe_int) pa_nil))))
      (pss_cons (ps_set (i := 6) nd rfl (.inl rfl) (pe_op op_add pe_int (pe_call D.ok (hr.mono (by decide)) (by rfl) D.at_ D.kp D.bd .nil pass0 (pa_cons (pv 1) (pa_cons pe_int pa_nil)))))
      (pss_cons (ps_if (pt_cmpR op_eq (pv 3) pe_int rfl)
        (pss_one (ps_set (i := 6) nd rfl (.inl rfl) pe_int))
        pss_nil)
      (pss_cons (ps_set (i := 7) nd rfl (.inl rfl) (pe_call Cpo.ok (hr.mono (by decide)) (by rfl) Cpo.at_ Cpo.kp Cpo.bd .nil pass0 (pa_cons (pv 1) (pa_cons (pv 6) pa_nil))))
      (pss_cons (ps_set (i := 8) nd rfl (.inl rfl) (pe_slice sl_list (pv 5) po_none (po_some (pv 2))))
      (pss_cons (ps_set (i := 9) nd rfl (.inl rfl) (pe_call Cst.ok (hr.mono (by decide)) (by rfl) Cst.at_ Cst.kp Cst.bd .nil pass0 (pa_cons (pv 0) (pa_cons pe_int pa_nil))))
      (pss_cons (ps_set (i := 10) nd rfl (.inl rfl) (pe_ix ix_tup (pe_call CRda.ok (hr.mono (by decide)) (by rfl) CRda.at_ CRda.kp CRda.bd .nil pass0 (pa_cons (pv 9) (pa_cons (pv 8) (pa_cons (pv 7) pa_nil)))) pe_int (fun _ _ => rfl)))
      (pss_cons (ps_if (PW.pt (pw_or (pt_cmpR op_eq (pe_call D.ok (hr.mono (by decide)) (by rfl) D.at_ D.kp D.bd .nil pass0 (pa_cons (pv 9) (pa_cons pe_int pa_nil))) pe_int rfl) (pw_or1 (pt_cmpR op_eq (pv 2) pe_int rfl))))
        (pss_one (ps_set (i := 10) nd rfl (.inl rfl) (pe_op op_cat (pv 10) (pe_ix ix_tup (pe_call CRda.ok (hr.mono (by decide)) (by rfl) CRda.at_ CRda.kp CRda.bd .nil pass0 (pa_cons (pv 9) (pa_cons (pv 8) (pa_cons (pv 7) pa_nil)))) pe_int (fun _ _ => rfl)))))
        pss_nil)
      (pss_cons (ps_if (PW.pt (pw_and (pt_cmpR op_gt (pv 2) pe_int rfl) (pw_and1 (pt_cmpR op_eq (pe_call D.ok (hr.mono (by decide)) (by rfl) D.at_ D.kp D.bd .nil pass0 (pa_cons (pv 9) (pa_cons pe_int pa_nil))) pe_int rfl))))
        (pss_cons (ps_set (i := 11) nd rfl (.inl rfl) (pe_call D.ok (hr.mono (by decide)) (by rfl) D.at_ D.kp D.bd .nil pass0 (pa_cons (pv 9) (pa_cons (pv 2) pa_nil))))
          (pss_cons (ps_set (i := 12) nd rfl (.inl rfl) (pe_op op_mod (pe_callTy call_int1 (by rfl) B.int PyProof.Rows.boot_int (pa_cons (pe_op op_add (pe_op op_add (pv 11) pe_int) (pe_call D.ok (hr.mono (by decide)) (by rfl) D.at_ D.kp D.bd .nil pass0 (pa_cons (pv 9) (pa_cons (pe_op op_sub (pv 2) pe_int) pa_nil)))) pa_nil)) (pv 2)))
          (pss_cons (ps_set (i := 13) nd rfl (.inl rfl) (pe_op op_sub (pe_ix ix_list (pv 7) (pe_call D.ok (hr.mono (by decide)) (by rfl) D.at_ D.kp D.bd .nil pass0 (pa_cons (pv 9) (pa_cons (pe_callB call_len_seq (by rfl) B.len PySem.boot_len (pa_cons (pv 7) pa_nil)) pa_nil))) (fun _ _ => rfl)) (pe_ix ix_list (pv 7) (pe_call D.ok (hr.mono (by decide)) (by rfl) D.at_ D.kp D.bd .nil pass0 (pa_cons (pv 9) (pa_cons (pe_callB call_len_seq (by rfl) B.len PySem.boot_len (pa_cons (pv 7) pa_nil)) pa_nil))) (fun _ _ => rfl))))
          (pss_cons (ps_set (i := 14) nd rfl (.inl rfl) (pe_ix ix_list (pe_lst (pa_cons pe_int (pa_cons pe_int (pa_cons (pe_un un_neg pe_int) (pa_cons pe_int pa_nil))))) (pe_call D.ok (hr.mono (by decide)) (by rfl) D.at_ D.kp D.bd .nil pass0 (pa_cons (pv 9) (pa_cons pe_int pa_nil))) (fun _ _ => rfl)))
          (pss_one (ps_set (i := 10) nd rfl (.inl rfl) (pe_op op_cat (pv 10) (pe_lst (pa_cons (pe_tup (pa_cons (pe_ix ix_list (pv 5) (pv 11) (fun _ _ => rfl)) (pa_cons (pe_ix ix_list (pv 5) (pv 12) (fun _ _ => rfl)) (pa_cons (pv 13) pa_nil)))) (pa_cons (pe_tup (pa_cons (pe_ix ix_list (pv 5) (pv 12) (fun _ _ => rfl)) (pa_cons (pe_ix ix_list (pv 5) (pv 11) (fun _ _ => rfl)) (pa_cons (pe_op op_sub (pv 14) (pv 13)) pa_nil)))) pa_nil))))))))))
        pss_nil)
      (pss_one (ps_ret (pe_lst (pa_cons (pv 10) (pa_cons (pv 8) (pa_cons (pe_ix ix_list (pv 5) (pv 2) (fun _ _ => rfl)) (pa_cons (pv 7) (pa_cons (pv 4) pa_nil)))))))))))))))))))))), ?_⟩
    refine ⟨_, rfl, a, cs, 0, rfl, ha, fun H1 p s1 np st1 => ?_⟩
    refine ⟨_, rfl, p, 3, rfl, st1, by decide, by decide, fun H2 c o2 st2 c0 c1 => ⟨_, _, rfl, rfl, ?_⟩⟩
    obtain ⟨c, rfl⟩ : ∃ j : Nat, c = (j : Int) := ⟨c.toNat, by omega⟩
    have k2 : Keep p H H2 := (Keep.same s1).oth o2
    refine ⟨_, rfl, p, 8, rfl, st2, by decide, by decide, fun H3 sh o3 st3 g0 g1 => ?_⟩
    have k3 := k2.oth o3
    clear o3 o2 st2 k2 st1 s1 g0 g1
    refine' with_restS (fun σ H' => ∃ (n m : Nat), σ = [some (.ref a), some (.ref p), some (.int (n : Int)), some (.int sh), some (.int (m : Int)), none, none, none, none, none, none, none, none, none, none] ∧ Keep p H H' ∧ Strm H' p ∧ 1 ≤ n ∧ n ≤ 5 ∧ 1 ≤ m ∧ m ≤ 14 ∧ m ^ n ≤ 1000) ?r1
      (fun rest => ⟨_, rfl, rfl, _, rfl, ite_both (fun c1 => ?b1) (fun _ => ⟨_, rfl, rfl, _, rfl, ite_both (fun _ => ?b2) fun _ => rest _ _ ⟨1 + c, 4, ?g1, k3, st3, by omega, by omega, by decide, by decide, ?g2⟩⟩)⟩)
    case b1 => exact ⟨_, rfl, rfl, _, rfl, ite_both (fun _ => rest _ _ ⟨2, 14, rfl, k3, st3, by decide, by decide, by decide, by decide, by decide⟩) fun _ => rest _ _ ⟨5, 2, rfl, k3, st3, by decide, by decide, by decide, by decide, by decide⟩⟩
    case b2 => exact rest _ _ ⟨2, 14, rfl, k3, st3, by decide, by decide, by decide, by decide, by decide⟩
    case g1 => exact congrArg (fun k : Int => [some (V.ref a), some (V.ref p), some (.int k), some (.int sh), some (.int 4), none, none, none, none, none, none, none, none, none, none]) (by omega)
    case g2 =>
      have : 4 ^ (1 + c) ≤ 4 ^ 3 := Nat.pow_le_pow_right (by decide) (by omega)
      omega
    clear st3 k3 H3 c0 c1 H2 H1 c
    rintro σ H3 ⟨n, m, rfl, k3, st3, n1, n5, m1, m14, pw⟩
    have hnI : ((n : Int) + 1) = ((n + 1 : Nat) : Int) := by omega
    refine ⟨_, rfl, _, rfl, _, _, rfl, rfl, p, n + 1, congrArg (fun k => [V.ref p, V.int k]) hnI, st3, by omega, fun H4 nm xs k4 nnm st4 enm xnd lx _ => ?_⟩
    have pnm : p ≠ nm := fun z => st3.some (z ▸ nnm)
    have k4' := k3.trans k4
    clear k4 nnm st3 k3 H3
    refine' with_restS (fun σ H' => ∃ (z : Nat), σ = [some (.ref a), some (.ref p), some (.int (n : Int)), some (.int sh), some (.int (m : Int)), some (.ref nm), some (.int (z : Int)), none, none, none, none, none, none, none, none] ∧ Keep p H H' ∧ Strm H' p ∧ H' nm = some (.lst (xs.map V.str)) ∧ 2 ≤ z ∧ z ≤ 14) ?r2
      (fun rest => ⟨_, rfl, p, 4, rfl, st4, by decide, by decide, fun H5 e o5 st5 e0 e1 => ⟨_, _, rfl, rfl, _, rfl, rfl, _, rfl, ite_both (fun _ => ?b1) fun _ => rest _ _ ?b2⟩⟩)
    case b1 => exact rest _ _ ⟨14, rfl, k4'.oth o5, st5, (o5 nm pnm.symm).trans enm, by decide, by decide⟩
    case b2 => exact ⟨(2 + e).toNat, congrArg (fun k : Int => [some (V.ref a), some (V.ref p), some (V.int (n : Int)), some (V.int sh), some (V.int (m : Int)), some (V.ref nm), some (V.int k), none, none, none, none, none, none, none, none]) (by omega), k4'.oth o5, st5, (o5 nm pnm.symm).trans enm, by omega, by omega⟩
    clear enm st4 k4' H4
    rintro σ H5 ⟨z, rfl, k5, st5, enm, z2, z14⟩
    refine ⟨_, rfl, _, rfl, p, z, rfl, st5, by omega, by omega, fun H6 pl ns k6 npl st6 epl srt lns => ?_⟩
    have ppl : p ≠ pl := fun z => st5.some (z ▸ npl)
    have enm6 : H6 nm = some (.lst (xs.map V.str)) := k6 _ _ pnm.symm enm
    have ka6 : Keep p H H6 := k5.trans k6
    refine ⟨_, rfl, _, rfl, _, rfl, nm, _, rfl, sl_map enm6, fun sc nsc => ?_⟩
    rw [cutV_to, ← List.map_take]
    obtain ⟨ys, hys⟩ : ∃ ys, ys = xs.take n := ⟨_, rfl⟩
    rw [← hys]
    have lys : ys.length = n := by rw [hys, List.length_take]; omega
    have s7 := same_new (o := HO.lst (ys.map V.str)) nsc
    have psc : p ≠ sc := fun z => st6.some (z ▸ nsc)
    have esc : (upd H6 sc (.lst (ys.map V.str))) sc = some (.lst (ys.map V.str)) := upd_same
    have st7 : Strm (upd H6 sc (.lst (ys.map V.str))) p := st6.upd psc
    have ka7 := ka6.at_ (ka6.free st6 nsc) (o := .lst (ys.map V.str))
    have enm7 := s7 _ _ enm6
    have epl7 := s7 _ _ epl
    generalize upd H6 sc (.lst (ys.map V.str)) = H7 at esc st7 ka7 enm7 epl7 ⊢
    clear s7 nsc ka6 enm6 epl st6 k6 npl st5 k5 enm H6 H5
    refine ⟨_, rfl, a, cs, 1, rfl, sq_keep ha np ka7, fun H8 s s8 ns8 st8 => ?_⟩
    have sm8 : Same H H8 := (Same.trans (fun b o e => ka7 b o (fun z => by rw [z, np] at e; cases e) e) s8)
    have scs : sc ≠ s := ne_some' esc ns8
    have nms : nm ≠ s := ne_some' enm7 ns8
    have pls : pl ≠ s := ne_some' epl7 ns8
    have sN : H s = none := by
      cases e : H s with
      | none => rfl
      | some o => exact absurd (ka7 s o (fun z => st7.some (z ▸ ns8)) e) (by rw [ns8]; exact fun z => nomatch z)
    have esc8 := s8 _ _ esc
    have enm8 := s8 _ _ enm7
    have epl8 := s8 _ _ epl7
    clear ns8 s8 st7 ka7 enm7 epl7 esc H7
    refine ⟨_, rfl, _, rfl, _, rfl, s, sc, pl, ys, ns, rfl, st8, esc8, epl8, scs, pls, by omega, by omega, by omega, by omega, fun H9 T0 z0 l ts k9 nl st9 eT el t1 t4 sub => ⟨T0, _, _, .ref l, rfl, rfl, .inl (.inl eT), atI_nat (j := 2) rfl, ?_⟩⟩
    have sm9 := keep_same sm8 k9 sN
    have kk : ∀ {H'}, Keep s H8 H' → H' sc = some (.lst (ys.map V.str)) ∧ H' pl = some (.lst (ns.map V.int)) ∧ H' nm = some (.lst (xs.map V.str)) := fun k => ⟨k _ _ scs esc8, k _ _ pls epl8, k _ _ nms enm8⟩
    have ls : l ≠ s := ne_of_none0 nl st8
    clear eT
    refine' with_restS (fun σ H' => ∃ (e : Addr) (us : List (Addr × Edg)), σ = [some (.ref a), some (.ref p), some (.int (n : Int)), some (.int sh), some (.int (m : Int)), some (.ref nm), some (.int (z : Int)), some (.ref pl), some (.ref sc), some (.ref s), some (.ref e), none, none, none, none] ∧ Keep s H8 H' ∧ Strm H' s ∧ EdL H' e us ∧ e ≠ s ∧ 1 ≤ us.length ∧ us.length ≤ 8 ∧ ∀ t ∈ us, t.2.1 ∈ ys ∧ t.2.2.1 ∈ ys) ?r3
      (fun rest => ⟨_, rfl, s, 3, rfl, st9, by decide, by decide, fun H10 g o10 st10 g0 g1 => ⟨rfl, _, rfl, ite_both (fun _ => ?b3) fun _ => ⟨_, rfl, rfl, _, rfl, ite_both (fun _ => ?b4) fun _ => rest _ _ ⟨l, ts, rfl, k9.oth o10, st10, el.oth st9 ls o10, ls, t1, by omega, sub⟩⟩⟩⟩)
    case b3 =>
      have k10 := k9.oth o10
      have el10 := el.oth st9 ls o10
      refine ⟨_, rfl, _, rfl, _, rfl, _, rfl, s, sc, pl, ys, ns, rfl, st10, (kk k10).1, (kk k10).2.1, scs, pls, by omega, by omega, by omega, by omega, fun H11 T1 z1 l2 ts2 k11 nl2 st11 eT2 el2 t21 t24 sub2 => ⟨T1, _, _, .ref l2, rfl, rfl, .inl (.inl eT2), atI_nat (j := 2) rfl, l, l2, _, _, rfl, rfl, (el10.keep st10 ls k11).lst, el2.lst, by rw [List.length_map, List.length_map]; exact Nat.le_of_lt (small1000 (by omega)), fun Y nY => rest _ _ ⟨Y, ts ++ ts2, rfl, (k10.trans k11).at_ ((k10.trans k11).free st11 nY), st11.upd (fun e => st11.some (e ▸ nY)), (el10.keep st10 ls k11).cat el2 nY, fun e => st11.some (e ▸ nY), by rw [List.length_append]; omega, by rw [List.length_append]; omega, fun t ht => (List.mem_append.mp ht).elim (sub t) (sub2 t)⟩⟩⟩
    case b4 =>
      have k10 := k9.oth o10
      have el10 := el.oth st9 ls o10
      refine ⟨_, rfl, _, rfl, _, rfl, _, rfl, s, sc, pl, ys, ns, rfl, st10, (kk k10).1, (kk k10).2.1, scs, pls, by omega, by omega, by omega, by omega, fun H11 T1 z1 l2 ts2 k11 nl2 st11 eT2 el2 t21 t24 sub2 => ⟨T1, _, _, .ref l2, rfl, rfl, .inl (.inl eT2), atI_nat (j := 2) rfl, l, l2, _, _, rfl, rfl, (el10.keep st10 ls k11).lst, el2.lst, by rw [List.length_map, List.length_map]; exact Nat.le_of_lt (small1000 (by omega)), fun Y nY => rest _ _ ⟨Y, ts ++ ts2, rfl, (k10.trans k11).at_ ((k10.trans k11).free st11 nY), st11.upd (fun e => st11.some (e ▸ nY)), (el10.keep st10 ls k11).cat el2 nY, fun e => st11.some (e ▸ nY), by rw [List.length_append]; omega, by rw [List.length_append]; omega, fun t ht => (List.mem_append.mp ht).elim (sub t) (sub2 t)⟩⟩⟩
    clear nl st9 el t1 t4 sub k9 sm9 ls l ts H9 T0 z0
    rintro σ H9 ⟨l, ts, rfl, k9, st9, el, ls, t1, t8, sub⟩
    refine' with_restS (fun σ H' => ∃ (e : Addr) (us : List (Addr × Edg)) (y11 y12 y13 y14 : Option V), σ = [some (.ref a), some (.ref p), some (.int (n : Int)), some (.int sh), some (.int (m : Int)), some (.ref nm), some (.int (z : Int)), some (.ref pl), some (.ref sc), some (.ref s), some (.ref e), y11, y12, y13, y14] ∧ Keep s H8 H' ∧ Strm H' s ∧ EdL H' e us ∧ 1 ≤ us.length ∧ us.length ≤ 10 ∧ ∀ t ∈ us, t.2.1 ∈ ys ∧ t.2.2.1 ∈ ys) ?r4
      (fun rest => ⟨_, rfl, _, _, rfl, rfl, _, rfl, ite_both (fun c1 => ?b5) fun _ => iteF (rest _ _ ⟨l, ts, none, none, none, none, rfl, k9, st9, el, t1, by omega, sub⟩)⟩)
    case b5 =>
      have n2 : 1 < n := by have := of_decide_eq_true c1; omega
      refine ⟨_, rfl, s, 2, rfl, st9, by decide, by decide, fun H10 g o10 st10 g0 g1 => ⟨rfl, _, rfl, ite_both (fun _ => ?_) fun _ => rest _ _ ⟨l, ts, none, none, none, none, rfl, k9.oth o10, st10, el.oth st9 ls o10, t1, by omega, sub⟩⟩⟩
      clear g0 g1
      have k10 := k9.oth o10
      have el10 := el.oth st9 ls o10
      have inY : ∀ {i : Nat} {x : Str}, i < n → xs[i]? = some x → x ∈ ys := fun {i x} hi h => by
        rw [hys]
        exact List.mem_of_getElem? (i := i) (by rw [List.getElem?_take, if_pos hi]; exact h)
      refine ⟨_, rfl, _, rfl, s, n, rfl, st10, by omega, by omega, fun H11 b o11 st11 b0 b1 => ?_⟩
      have k11 := k10.oth o11
      have el11 := el10.oth st10 ls o11
      refine ⟨_, rfl, _, _, rfl, rfl, _, rfl, _, rfl, _, _, rfl, rfl, s, _, rfl, st11, by omega, by omega, fun H12 d o12 st12 d0 d1 => ⟨_, _, rfl, rfl, .inl ⟨_, rfl, _, rfl, _, _, rfl, rfl, by omega, ?_⟩⟩⟩
      have k12 := k11.oth o12
      have el12 := el11.oth st11 ls o12
      have ot0 : 0 ≤ (b + 1 + d) % (n : Int) := Int.emod_nonneg _ (by omega)
      have ot1 : (b + 1 + d) % (n : Int) < n := Int.emod_lt_of_pos (b + 1 + d) (show (0 : Int) < (n : Int) by omega)
      obtain ⟨xa, xai, axa⟩ := at_ixS (ns := xs) (d := b) (i := b.toNat) (by omega) (by omega)
      obtain ⟨xb, xbi, axb⟩ := at_ixS (ns := xs) (d := (b + 1 + d) % (n : Int)) (i := ((b + 1 + d) % (n : Int)).toNat) (by omega) (by omega)
      have xam := inY (by omega) xai
      have xbm := inY (by omega) xbi
      refine ⟨_, rfl, _, rfl, _, rfl, pl, _, rfl, .inl (sl_map (kk k12).2.1), s, _, rfl, st12, by rw [List.length_map]; omega, by rw [List.length_map]; omega, fun H13 g o13 st13 g0 g1 => ?_⟩
      rw [List.length_map] at g1
      have k13 := k12.oth o13
      have el13 := el12.oth st12 ls o13
      obtain ⟨u, _, au⟩ := at_in (ns := ns) g0 g1
      refine ⟨pl, _, _, .int u, rfl, rfl, sl_map (kk k13).2.1, au, ?_⟩
      refine ⟨_, rfl, _, rfl, _, rfl, pl, _, rfl, .inl (sl_map (kk k13).2.1), s, _, rfl, st13, by rw [List.length_map]; omega, by rw [List.length_map]; omega, fun H14 h o14 st14 h0 h1 => ?_⟩
      rw [List.length_map] at h1
      have k14 := k13.oth o14
      have el14 := el13.oth st13 ls o14
      obtain ⟨v, _, av⟩ := at_in (ns := ns) h0 h1
      refine ⟨pl, _, _, .int v, rfl, rfl, sl_map (kk k14).2.1, av, _, _, rfl, rfl, ?_⟩
      clear g0 g1 h0 h1 au av
      refine ⟨_, rfl, by show 4 ≤ sizeLine; decide, fun M nM => ?_⟩
      have sM : s ≠ M := fun e => st14.some (e ▸ nM)
      have k15 := k14.at_ (k14.free st14 nM) (o := .lst [.int 0, .int 0, .int (-1), .int 1])
      refine ⟨_, rfl, s, 4, rfl, st14.upd sM, by decide, by decide, fun H16 w o16 st16 w0 w1 => ?_⟩
      obtain ⟨sl, _, asl⟩ := at_in (ns := [0, 0, -1, 1]) w0 w1
      have eM : H16 M = some (.lst (([0, 0, -1, 1] : List Int).map V.int)) := by rw [o16 M sM.symm, upd_same] <;> rfl
      have k16 := k15.oth o16
      have el16 := (el14.new (o := .lst [.int 0, .int 0, .int (-1), .int 1]) nM).oth (st14.upd sM) ls o16
      refine ⟨M, _, _, .int sl, rfl, rfl, sl_map eM, asl, ?_⟩
      refine ⟨_, rfl, _, rfl, _, rfl, nm, _, _, .str xa, rfl, rfl, sl_map (kk k16).2.2, axa, _, rfl, _, rfl, nm, _, _, .str xb, rfl, rfl, sl_map (kk k16).2.2, axb, _, rfl, by show 3 ≤ sizeLine; decide, fun T1 nT1 => ?_⟩
      have t17 := same_new (o := HO.tup [V.str xa, .str xb, .int (u - v)]) nT1
      have sT1 : s ≠ T1 := fun e => st16.some (e ▸ nT1)
      have k17 := k16.at_ (k16.free st16 nT1) (o := .tup [V.str xa, .str xb, .int (u - v)])
      refine ⟨_, rfl, _, rfl, nm, _, _, .str xb, rfl, rfl, sl_map (kk k17).2.2, axb, _, rfl, _, rfl, nm, _, _, .str xa, rfl, rfl, sl_map (kk k17).2.2, axa, _, rfl, _, rfl, _, _, rfl, rfl, by show 3 ≤ sizeLine; decide, fun T2 nT2 => ?_⟩
      have t18 := t17.trans (same_new (o := HO.tup [V.str xb, .str xa, .int (sl - (u - v))]) nT2)
      refine ⟨by show 2 ≤ sizeLine; decide, fun Z nZ => ?_⟩
      have t19 := t18.trans (same_new (o := HO.lst [.ref T1, .ref T2]) nZ)
      have eZ := upd_same (H := upd (upd H16 T1 (.tup [V.str xa, .str xb, .int (u - v)])) T2 (.tup [V.str xb, .str xa, .int (sl - (u - v))])) (a := Z) (o := HO.lst [V.ref T1, .ref T2])
      have e1 := same_new (o := HO.lst [.ref T1, .ref T2]) nZ _ _ (same_new (o := HO.tup [V.str xb, .str xa, .int (sl - (u - v))]) nT2 _ _ (upd_same (H := H16) (a := T1) (o := HO.tup [V.str xa, .str xb, .int (u - v)])))
      have e2 := same_new (o := HO.lst [.ref T1, .ref T2]) nZ _ _ (upd_same (H := upd H16 T1 (.tup [V.str xa, .str xb, .int (u - v)])) (a := T2) (o := HO.tup [V.str xb, .str xa, .int (sl - (u - v))]))
      have elZ : EdL (upd (upd (upd H16 T1 (.tup [V.str xa, .str xb, .int (u - v)])) T2 (.tup [V.str xb, .str xa, .int (sl - (u - v))])) Z (.lst [V.ref T1, .ref T2])) Z [(T1, (xa, xb, u - v)), (T2, (xb, xa, sl - (u - v)))] := ⟨eZ, fun t ht => by
        simp only [List.mem_cons, List.not_mem_nil, or_false] at ht
        rcases ht with rfl | rfl
        · exact e1
        · exact e2⟩
      have kZ := k16.trans (Keep.same (p := s) t19)
      have stZ : Strm (upd (upd (upd H16 T1 (.tup [V.str xa, .str xb, .int (u - v)])) T2 (.tup [V.str xb, .str xa, .int (sl - (u - v))])) Z (.lst [V.ref T1, .ref T2])) s := by
        obtain ⟨x1, x2, x3, e⟩ := st16
        exact ⟨x1, x2, x3, t19 _ _ e⟩
      have elL := el16.same t19
      clear e1 e2 t18 t17
      generalize upd (upd (upd H16 T1 (.tup [V.str xa, .str xb, .int (u - v)])) T2 (.tup [V.str xb, .str xa, .int (sl - (u - v))])) Z (.lst [V.ref T1, .ref T2]) = H19 at elZ kZ stZ elL eZ ⊢
      refine ⟨l, Z, _, _, rfl, rfl, elL.lst, eZ, by rw [List.length_map]; exact Nat.le_of_lt (small1000 (by show ts.length + 2 ≤ 1000; omega)), fun Y nY => rest _ _ ⟨Y, ts ++ [(T1, (xa, xb, u - v)), (T2, (xb, xa, sl - (u - v)))], _, _, _, _, rfl, kZ.at_ (kZ.free stZ nY), stZ.upd (fun e => stZ.some (e ▸ nY)), elL.cat elZ nY, by rw [List.length_append]; omega, by rw [List.length_append]; show ts.length + 2 ≤ 10; omega, fun t ht => (List.mem_append.mp ht).elim (sub t) fun ht => ?_⟩⟩
      simp only [List.mem_cons, List.not_mem_nil, or_false] at ht
      rcases ht with rfl | rfl
      · exact ⟨xam, xbm⟩
      · exact ⟨xbm, xam⟩
    case r4 =>
      clear st9 el t1 t8 sub k9 ls l ts H9
      rintro σ H9 ⟨e, ts, y11, y12, y13, y14, rfl, k9, st9, el, t1, t10, sub⟩
      obtain ⟨ex, exi, axe⟩ := at_ixS (ns := xs) (d := (n : Int)) (i := n) rfl (by omega)
      have exn : ex ∉ ys := by rw [hys]; exact not_take xnd exi
      refine ⟨_, rfl, _, rfl, _, rfl, _, rfl, nm, _, _, .str ex, rfl, rfl, sl_map (kk k9).2.2, axe, _, rfl, _, rfl, by show 5 ≤ sizeLine; decide, fun r nr => ?_⟩
      have sN2 := same_new (o := HO.lst [.ref e, .ref sc, .str ex, .ref pl, .int (m : Int)]) nr
      refine q _ r e sc pl ys ex ns ts m ((keep_same sm8 k9 sN).trans sN2) ⟨upd_same, el.same sN2, sN2 _ _ (kk k9).1, sN2 _ _ (kk k9).2.1⟩ ⟨by rw [hys]; exact xnd.sublist (List.take_sublist _ _), exn, by omega, by omega, srt, by omega, by omega, m1, m14, by rw [lys]; exact pw, t1, t10, sub⟩
end
end K56
set_option Elab.async false
set_option linter.all false
set_option maxRecDepth 100000
set_option maxHeartbeats 4000000
namespace K56
open PySem PySem.Spec PyProof.Rows L2 Cs CsX
/-- a box of a case -/
structure BoxO (N : List Ent) (xs : List Str) (m : Nat) : Prop where
  key : ∀ x ∈ xs, x ∈ N.map (·.1)
  srt : ∀ g ∈ N, Srt g.2.2 ∧ g.2.2.length ≤ 100
  few : ∀ g ∈ N, g.1 ∈ xs → g.2.2.length ≤ m
  len : N.length ≤ 10
theorem BoxO.get {N : List Ent} {xs : List Str} {m : Nat} (O : BoxO N xs m) {x : Str} (hx : x ∈ xs) : ∃ g ∈ N, g.1 = x ∧ look N x = some (sd N x) ∧ sd N x = g.2.2 := by
  cases e : look N x with
  | none =>
    have := look_isSome.mpr (O.key x hx)
    rw [e] at this; cases this
  | some s =>
    obtain ⟨g, hg, h1, h2⟩ := look_of e
    have : sd N x = s := by unfold sd; rw [e] <;> rfl
    exact ⟨g, hg, h1, by rw [this], by rw [this, h2]⟩
theorem BoxO.fit {N : List Ent} {xs ys : List Str} {m : Nat} (O : BoxO N xs m) (h : ∀ x ∈ ys, x ∈ xs) : Fit N ys (sd N) := fun x hx => by
  obtain ⟨g, _, _, h, _⟩ := O.get (h x hx)
  exact h
theorem BoxO.lm {N : List Ent} {xs : List Str} {m : Nat} (O : BoxO N xs m) : ∀ x ∈ xs, (sd N x).length ≤ m := fun x hx => by
  obtain ⟨g, h1, h2, _, h3⟩ := O.get hx
  rw [h3]; exact O.few g h1 (by rw [h2]; exact hx)
theorem BoxO.so {N : List Ent} {xs : List Str} {m : Nat} (O : BoxO N xs m) : ∀ x ∈ xs, Srt (sd N x) := fun x hx => by
  obtain ⟨g, h1, h2, _, h3⟩ := O.get hx
  rw [h3]; exact (O.srt g h1).1
theorem CaseB.names {xs : List Str} {ex : Str} {ns : List Int} {ts : List (Addr × Edg)} {m : Nat} (C : CaseB xs ex ns ts m) : ∀ x ∈ enames (eds ts), x ∈ xs := enames_sub C.sub
theorem CaseB.few {xs : List Str} {ex : Str} {ns : List Int} {ts : List (Addr × Edg)} {m : Nat} (C : CaseB xs ex ns ts m) : (enames (eds ts)).length ≤ xs.length := len_le (enames_nd _) C.names
theorem CaseB.pow {xs : List Str} {ex : Str} {ns : List Int} {ts : List (Addr × Edg)} {m : Nat} (C : CaseB xs ex ns ts m) : m ^ (enames (eds ts)).length ≤ 1000 := Nat.le_trans (Nat.pow_le_pow_right C.m1 C.few) C.pw
theorem CaseB.wd {xs : List Str} {ex : Str} {ns : List Int} {ts : List (Addr × Edg)} {m : Nat} (C : CaseB xs ex ns ts m) {N : List Ent} (O : BoxO N xs m) : Wd0 (eds ts) (sd N) :=
  ⟨fun x hx => O.so x (C.names x hx), fun x hx => (by have := O.lm x (C.names x hx); have := C.m14; omega), (by have := C.few; have := C.x5; omega)⟩
/-- the box in the making -/
structure Bz (H : Hp) (s b : Addr) (N : List Ent) : Prop where
  st : Strm H s
  bu : Bu H b N
  aw : ∀ g ∈ N, g.2.1 ≠ s
theorem Bz.ne {H : Hp} {s b : Addr} {N : List Ent} (z : Bz H s b N) : s ≠ b := fun e => by
  obtain ⟨x, y, w, h⟩ := z.st
  have := z.bu.un
  rw [← e, h] at this; cases this
theorem Bz.keep {H H' : Hp} {s b : Addr} {N : List Ent} (z : Bz H s b N) (k : Keep s H H') (st : Strm H' s) : Bz H' s b N := ⟨st, z.bu.keep z.st k z.aw, z.aw⟩
theorem Bz.put {H : Hp} {s b a : Addr} {N : List Ent} {x : Str} {ks : List Int} (z : Bz H s b N) (e : H a = some (.lst (ks.map V.int))) (h : a ≠ s) (few : N.length + 1 ≤ 40) : Bz (upd H b (.dK (entK (putE N x a ks)))) s b (putE N x a ks) :=
  ⟨z.st.upd z.ne, z.bu.aput e few, fun g hg => by
    rcases putE_mem hg with q | ⟨q, _⟩
    · rw [q]; exact h
    · exact z.aw g q⟩
theorem BoxO.put {N : List Ent} {xs : List Str} {m : Nat} (O : BoxO N xs m) {x : Str} {a : Addr} {ks : List Int} (s : Srt ks) (l : ks.length ≤ 100) (f : x ∈ xs → ks.length ≤ m) (h : x ∈ N.map (·.1) ∨ N.length < 10) : BoxO (putE N x a ks) xs m := by
  refine ⟨fun y hy => by rw [putE_has]; exact .inr (O.key y hy), fun g hg => ?_, fun g hg hx => ?_, ?_⟩
  · rcases putE_mem hg with q | ⟨q, _⟩
    · rw [q]; exact ⟨s, l⟩
    · exact O.srt g q
  · rcases putE_mem hg with q | ⟨q, _⟩
    · rw [q] at hx ⊢; exact f hx
    · exact O.few g q hx
  · rcases h with h | h
    · have := congrArg List.length (putE_keys N x a ks)
      rw [if_pos h, List.length_map, List.length_map] at this
      have := O.len
      omega
    · have := putE_len N x a ks
      omega
theorem put_len {N : List Ent} {x : Str} {a : Addr} {ks : List Int} (h : x ∈ N.map (·.1)) : (putE N x a ks).length = N.length := by
  have := congrArg List.length (putE_keys N x a ks)
  rw [if_pos h, List.length_map, List.length_map] at this
  exact this
section
variable {P : Program} {w : World} {K : PySem.W.Frag} {mg : Str → Option Value} {base : Heap}
abbrev sSd : Stmt := topS 26
abbrev nSd : List Str := ["_law_domains_here", "_law_sides_here", "_law_domain"]
theorem scSd : FnScope nSd ["_law_domains_here"] (defScope sSd) := ⟨rfl, rfl, rfl, by decide +kernel, rfl, by decide +kernel, by decide +kernel⟩
def spSd : Sp := fun vs H Q _ => ∃ (dl : Addr) (ds : List DomE), vs = [.ref dl] ∧ Doms H dl ds ∧ ds.length ≤ 30 ∧ (ds.map (·.2.1)).Nodup ∧
  ∀ (H' : Hp) (b : Addr) (N : List Ent), Same H H' → H b = none → Bu H' b N → (∀ g ∈ N, H g.2.1 = none) → shape N = ds.map (fun d => (d.2.1, d.2.2.2)) → Q (.ref b) H'
theorem ok_Sd {f  : Addr} {fd  : FuncData} (F : Fun K "_law_sides" "_law_sides" sSd f fd) (B : Bt mg) :
    FnOk P w K mg base CX0 1 f fd ["_law_domains_here"] spSd := by
  refine F.ok scSd (fun vs H Q E h => ?_) (fun cdv A outer s H vs Q E hr h => ?_)
  · obtain ⟨dl, ds, rfl, _⟩ := h
    rfl
  · obtain ⟨dl, ds, rfl, dm, dlen, dnd, q⟩ := h
    have hu := hu_of hr
    have nd := scSd.nd
    refine ⟨_, pss_cons (ps_set (i := 1) nd rfl (.inl rfl) pe_dnewK)
      (pss_cons (ps_for PassesOwn.never rfl (pi_list (pv 0)) (pg_name (i := 2) nd rfl (.inl rfl))
        (pss_one (ps_dput hu (pv 1) (pe_ix ix_tup (pv 2) pe_int (fun _ _ => rfl)) (pe_callTy call_list_of (by rfl) B.list PyProof.Rows.boot_list (pa_cons (pe_ix ix_tup (pv 2) pe_int (fun _ _ => rfl)) pa_nil)) rfl)))
      (pss_one (ps_ret (pv 1)))), ?_⟩
    intro D nD
    have s0 := same_new (o := HO.dK []) nD
    refine ⟨.ref dl, rfl, dl, rfl, ⟨_, sl_map (s0 _ _ dm.lst)⟩, for_list (xs := ds.map fun d : DomE => V.ref d.1) (fun i σ H' => ∃ (N : List Ent) (y2 : Option V), σ = [some (.ref dl), some (.ref D), y2] ∧ Same H H' ∧ Bu H' D N ∧ (∀ g ∈ N, H g.2.1 = none) ∧ shape N = (ds.take i).map (fun d => (d.2.1, d.2.2.2)))
      ⟨[], none, rfl, s0, ⟨⟨.inl upd_same, (fun _ h => nomatch h), List.Pairwise.nil, Nat.zero_le _⟩, upd_same⟩, (fun _ h => nomatch h), rfl⟩ (fun i σ H' _ h => by obtain ⟨_, _, _, h, _⟩ := h; exact sl_map (h _ _ dm.lst)) ?_ ?_⟩
    · rintro i x σ H' hx ⟨N, y2, rfl, sm, nb, fr, sh⟩
      rw [List.getElem?_map] at hx
      obtain ⟨d, hv, rfl⟩ := Option.map_eq_some_iff.mp hx
      have dmem := List.mem_of_getElem? hv
      have hi := (List.getElem?_eq_some_iff.mp hv).1
      have lN : N.length ≤ i := by
        have := congrArg List.length sh
        rw [List.length_map, List.length_map, List.length_take] at this
        omega
      have tt : SqT K H' d.1 [V.str d.2.1, V.ref d.2.2.1] := .inl (.inl (sm _ _ (dm.tup d dmem)))
      have sd := sl_map (K := K) (sm _ _ (dm.side d dmem))
      refine ⟨.ref d.1, rfl, d.1, _, _, .ref d.2.2.1, rfl, rfl, tt, atI_nat (j := 1) rfl, d.2.2.1, _, rfl, .inl sd, fun l nl => ?_⟩
      have sl := same_new (o := HO.lst (d.2.2.2.map V.int)) nl
      have nb2 := nb.same' sl
      have tt2 : SqT K (upd H' l (HO.lst (d.2.2.2.map V.int))) d.1 [V.str d.2.1, V.ref d.2.2.1] := .inl (.inl (sl _ _ (sm _ _ (dm.tup d dmem))))
      refine ⟨.ref D, rfl, .ref d.1, rfl, d.1, _, _, .str d.2.1, rfl, rfl, tt2, atI_nat (j := 0) rfl, D, _, rfl, DPut.k (k := .inr d.2.1) nb2.un (by rw [entK_len]; exact small1000 (by omega)), ?_⟩
      rw [putK_ent (s := d.2.2.2)]
      have xn : d.2.1 ∉ N.map (·.1) := by
        have h1 : N.map (·.1) = (ds.take i).map (·.2.1) := by
          have := congrArg (List.map (·.1)) sh
          rw [List.map_map, List.map_map] at this
          exact this
        rw [h1, List.map_take]
        exact not_take dnd (by rw [List.getElem?_map, hv] <;> rfl)
      refine ⟨putE N d.2.1 l d.2.2.2, _, rfl, same_at (sm.trans sl) nD, nb2.aput upd_same (by omega), fun g hg => ?_, ?_⟩
      · rcases putE_mem hg with z | ⟨z, _⟩
        · rw [z]; exact sm.free nl
        · exact fr g z
      · rw [putE_new xn, take_snoc hv]
        unfold shape at sh ⊢
        rw [List.map_append, List.map_append, sh] <;> rfl
    · rintro σ H' ⟨N, y2, rfl, sm, nb, fr, sh⟩
      rw [List.length_map, List.take_length] at sh
      exact ⟨_, rfl, q H' D N sm nD nb fr sh⟩
abbrev sBxx : Stmt := topS 38
abbrev nBxx : List Str := ["_law_stream_here", "_law_drawn", "_law_sides_here", "_law_turn"]
theorem scBxx : FnScope nBxx ["_law_stream_here", "_law_drawn"] (defScope sBxx) := ⟨rfl, rfl, rfl, by decide +kernel, rfl, by decide +kernel, by decide +kernel⟩
def spBxx : Sp := fun vs H Q _ => ∃ (s r e sc pl : Addr) (xs : List Str) (ex : Str) (ns : List Int) (ts : List (Addr × Edg)) (m : Nat), vs = [.ref s, .ref r] ∧ Strm H s ∧ r ≠ s ∧ sc ≠ s ∧ pl ≠ s ∧ Drw H r e sc pl xs ex ns ts m ∧ CaseB xs ex ns ts m ∧
  ∀ (H' : Hp) (b : Addr) (N : List Ent), Keep s H H' → Strm H' s → Bu H' b N → BoxO N xs m → Q (.ref b) H'
theorem ok_Bxx {f f0 f1 f2 f3 : Addr} {fd fd0 fd1 fd2 fd3 : FuncData} (F : Fun K "_law_box" "_law_box" sBxx f fd) (B : Bt mg) (CSd : Call P w K mg base 1 "_law_sides" f0 fd0 ["_law_domains_here"] spSd) (Cdo : Call P w K mg base 2 "_law_domains" f1 fd1 ["_law_stream_here", "_law_names_here", "_law_pool_here", "_law_most"] spDoms) (D : Call P w K mg base 1 "_law_next" f2 fd2 ["_law_stream_here", "_law_size"] spDraw) (Cpa : Call P w K mg base 2 "_law_part" f3 fd3 ["_law_stream_here", "_law_side"] (spPart K)) :
    FnOk P w K mg base CX0 3 f fd ["_law_stream_here", "_law_drawn"] spBxx := by
  refine F.ok scBxx (fun vs H Q E h => ?_) (fun cdv A outer s H vs Q E hr h => ?_)
  · obtain ⟨s, r, e, sc, pl, xs, ex, ns, ts, m, rfl, _⟩ := h
    rfl
  · obtain ⟨s, r, e, sc, pl, xs, ex, ns, ts, m, rfl, hs, rs, scs, pls, dr, cb, q⟩ := h
    have hu := hu_of hr
    have nd := scBxx.nd
    refine ⟨_, pss_cons (ps_set (i := 2) nd rfl (.inl rfl) (pe_call CSd.ok (hr.mono (by decide)) (by rfl) CSd.at_ CSd.kp CSd.bd .nil pass0 (pa_cons (pe_call Cdo.ok (hr.mono (by decide)) (by rfl) Cdo.at_ Cdo.kp Cdo.bd .nil pass0 (pa_cons (pv 0) (pa_cons (pe_ix ix_list (pv 1) pe_int (fun _ _ => rfl)) (pa_cons (pe_ix ix_list (pv 1) pe_int (fun _ _ => rfl)) (pa_cons (pe_ix ix_list (pv 1) pe_int (fun _ _ => rfl)) pa_nil))))) pa_nil)))
      (pss_cons (ps_for PassesOwn.never rfl (pi_range1 (by rfl) B.range (pa_cons (pe_ix ix_list (pe_lst (pa_cons pe_int (pa_cons pe_int (pa_cons pe_int (pa_cons pe_int (pa_cons pe_int (pa_cons pe_int (pa_cons pe_int (pa_cons pe_int (pa_cons pe_int (pa_cons pe_int pa_nil))))))))))) (pe_call D.ok (hr.mono (by decide)) (by rfl) D.at_ D.kp D.bd .nil pass0 (pa_cons (pv 0) (pa_cons pe_int pa_nil))) (fun _ _ => rfl)) pa_nil)) (pg_name (i := 3) nd rfl (.inl rfl))
        (pss_one (ps_dput hu (pv 2) (pe_ix ix_list (pe_ix ix_list (pv 1) pe_int (fun _ _ => rfl)) (pe_call D.ok (hr.mono (by decide)) (by rfl) D.at_ D.kp D.bd .nil pass0 (pa_cons (pv 0) (pa_cons (pe_callB call_len_seq (by rfl) B.len PySem.boot_len (pa_cons (pe_ix ix_list (pv 1) pe_int (fun _ _ => rfl)) pa_nil)) pa_nil))) (fun _ _ => rfl)) (pe_lst pa_nil) rfl)))
      (pss_cons (ps_if (pt_cmpR op_eq (pe_call D.ok (hr.mono (by decide)) (by rfl) D.at_ D.kp D.bd .nil pass0 (pa_cons (pv 0) (pa_cons pe_int pa_nil))) pe_int rfl)
        (pss_one (ps_dput hu (pv 2) (pe_ix ix_list (pv 1) pe_int (fun _ _ => rfl)) (pe_call Cpa.ok (hr.mono (by decide)) (by rfl) Cpa.at_ Cpa.kp Cpa.bd .nil pass0 (pa_cons (pv 0) (pa_cons (pe_ix ix_list (pv 1) pe_int (fun _ _ => rfl)) pa_nil))) rfl))
        pss_nil)
      (pss_one (ps_ret (pv 2))))), ?_⟩
    have x5 := cb.x5; have x1 := cb.x1; have n14 := cb.n14; have n1 := cb.n1; have m14 := cb.m14; have m1 := cb.m1
    have kk : ∀ {H'}, Keep s H H' → H' r = some (.lst [.ref e, .ref sc, .str ex, .ref pl, .int (m : Int)]) ∧ H' sc = some (.lst (xs.map V.str)) ∧ H' pl = some (.lst (ns.map V.int)) := fun k => ⟨k _ _ rs dr.er, k _ _ scs dr.esc, k _ _ pls dr.epl⟩
    have kr := Keep.refl s H
    have at1 : atI [V.ref e, .ref sc, .str ex, .ref pl, .int (m : Int)] (1 : Int) = some (.ref sc) := atI_nat (j := 1) rfl
    have at2 : atI [V.ref e, .ref sc, .str ex, .ref pl, .int (m : Int)] (2 : Int) = some (.str ex) := atI_nat (j := 2) rfl
    have at3 : atI [V.ref e, .ref sc, .str ex, .ref pl, .int (m : Int)] (3 : Int) = some (.ref pl) := atI_nat (j := 3) rfl
    have at4 : atI [V.ref e, .ref sc, .str ex, .ref pl, .int (m : Int)] (4 : Int) = some (.int (m : Int)) := atI_nat (j := 4) rfl
    refine ⟨_, rfl, _, rfl, r, _, _, _, rfl, rfl, sl_map (kk kr).1, at1, _, rfl, r, _, _, _, rfl, rfl, sl_map (kk kr).1, at3, _, rfl, r, _, _, _, rfl, rfl, sl_map (kk kr).1, at4, ?_⟩
    refine ⟨s, sc, pl, xs, ns, m, rfl, hs, (kk kr).2.1, (kk kr).2.2, scs.symm, pls.symm, cb.srt, n1, by omega, by omega, fun H1 dl ds k1 ndl st1 dm nms dok _ => ?_⟩
    have lds : ds.length = xs.length := by rw [← nms, List.length_map]
    refine ⟨dl, ds, rfl, dm, by omega, by rw [nms]; exact cb.nd, fun H2 b N s2 nb bu fr sh => ?_⟩
    have k2 := k1.trans (Keep.same (p := s) s2)
    have st2 : Strm H2 s := by
      obtain ⟨y1, y2, y3, e⟩ := st1
      exact ⟨y1, y2, y3, s2 _ _ e⟩
    have z2 : Bz H2 s b N := ⟨st2, bu, fun g hg e => st1.some (by rw [← e]; exact fr g hg)⟩
    have nb0 : H b = none := k1.free st1 nb
    have keys : N.map (·.1) = xs := by
      have := congrArg (List.map (·.1)) sh
      rw [List.map_map, List.map_map] at this
      exact this.trans nms
    have lN : N.length = xs.length := by rw [← keys, List.length_map]
    have o2 : BoxO N xs m := by
      have ok : ∀ g ∈ N, Srt g.2.2 ∧ g.2.2.length ≤ m := fun g hg => by
        have h1 : (g.1, g.2.2) ∈ shape N := List.mem_map.mpr ⟨g, hg, rfl⟩
        rw [sh] at h1
        obtain ⟨d, hd, e⟩ := List.mem_map.mp h1
        obtain ⟨a1, a2, _⟩ := dok d hd
        rw [← (Prod.mk.inj e).2]
        exact ⟨a1, by omega⟩
      exact ⟨fun x hx => by rw [keys]; exact hx, fun g hg => ⟨(ok g hg).1, by have := (ok g hg).2; omega⟩, fun g hg _ => (ok g hg).2, by omega⟩
    clear sh keys fr bu nb s2 dok nms dm ndl k1 st1 st2
    refine ⟨by show 10 ≤ sizeLine; decide, fun M nM => ?_⟩
    have sM : s ≠ M := fun e => z2.st.some (e ▸ nM)
    have z3 := z2.keep ((Keep.refl s H2).at_ nM (o := .lst ([0, 0, 0, 0, 0, 0, 0, 0, 1, 2].map V.int))) (z2.st.upd sM)
    have k3 := k2.at_ (k2.free z2.st nM) (o := .lst ([0, 0, 0, 0, 0, 0, 0, 0, 1, 2].map V.int))
    refine ⟨_, rfl, s, 10, rfl, z3.st, by decide, by decide, fun H4 w o4 st4 w0 w1 => ?_⟩
    have k4 := k3.oth o4
    have z4 := z3.keep ((Keep.refl s _).oth o4) st4
    obtain ⟨v, vm, av⟩ := at_in (ns := [0, 0, 0, 0, 0, 0, 0, 0, 1, 2]) w0 w1
    have eM : H4 M = some (.lst (([0, 0, 0, 0, 0, 0, 0, 0, 1, 2] : List Int).map V.int)) := by rw [o4 M sM.symm, upd_same] <;> rfl
    have v02 : 0 ≤ v ∧ v ≤ 2 := by
      simp only [List.mem_cons, List.not_mem_nil, or_false] at vm
      omega
    obtain ⟨j, rfl⟩ : ∃ j : Nat, v = (j : Int) := ⟨v.toNat, by omega⟩
    refine ⟨M, _, _, .int (j : Int), rfl, rfl, sl_map eM, av, _, rfl, by omega, by omega, for_range (lo := 0) (n := j) (fun i σ H' => ∃ (N : List Ent) (y3 : Option V), σ = [some (.ref s), some (.ref r), some (.ref b), y3] ∧ Keep s H H' ∧ Bz H' s b N ∧ BoxO N xs m ∧ N.length = xs.length)
      ⟨N, none, rfl, k4, z4, o2, lN⟩ ?_ ?_⟩
    · clear eM av vm w0 w1 st4 o4 k3 z3 sM nM k2 z4 k4 z2 o2 lN N
      rintro i σ H5 hi ⟨N, y3, rfl, k5, z5, o5, lN⟩
      refine ⟨by show 0 ≤ sizeLine; decide, fun Z nZ => ?_⟩
      have sZ : s ≠ Z := fun e => z5.st.some (e ▸ nZ)
      have z6 := z5.keep ((Keep.refl s H5).at_ nZ (o := .lst [])) (z5.st.upd sZ)
      have k6 := k5.at_ (k5.free z5.st nZ) (o := .lst [])
      have eZ : (upd H5 Z (.lst [])) Z = some (.lst (([] : List Int).map V.int)) := upd_same
      generalize upd H5 Z (.lst []) = H6 at z6 k6 eZ ⊢
      refine ⟨_, rfl, _, rfl, r, _, _, _, rfl, rfl, sl_map (kk k6).1, at1, _, rfl, _, rfl, r, _, _, _, rfl, rfl, sl_map (kk k6).1, at1, sc, _, rfl, .inl (sl_map (kk k6).2.1), s, _, rfl, z6.st, by rw [List.length_map]; omega, by rw [List.length_map]; omega, fun H7 a o7 st7 a0 a1 => ?_⟩
      rw [List.length_map] at a1
      have k7 := k6.oth o7
      have z7 := z6.keep ((Keep.refl s _).oth o7) st7
      have eZ7 : H7 Z = some (.lst (([] : List Int).map V.int)) := (o7 Z sZ.symm).trans eZ
      obtain ⟨x, xm, ax⟩ := at_inS (ns := xs) a0 a1
      have hk := o5.key x xm
      refine ⟨sc, _, _, .str x, rfl, rfl, sl_map (kk k7).2.1, ax, b, _, rfl, DPut.k (k := .inr x) z7.bu.un (by rw [entK_len]; exact small1000 (by omega)), ?_⟩
      rw [putK_ent (s := [])]
      exact ⟨putE N x Z [], _, rfl, k7.at_ nb0, z7.put eZ7 sZ.symm (by omega), o5.put List.Pairwise.nil (Nat.zero_le _) (fun _ => Nat.zero_le _) (.inl hk), by rw [put_len hk]; exact lN⟩
    · clear eM av vm w0 w1 st4 o4 k3 z3 sM nM k2 z4 k4 z2 o2 lN N
      rintro σ H5 ⟨N, y3, rfl, k5, z5, o5, lN⟩
      refine ⟨_, rfl, s, 2, rfl, z5.st, by decide, by decide, fun H6 a o6 st6 a0 a1 => ⟨rfl, _, rfl, ite_both (fun _ => ?_) fun _ => ?_⟩⟩
      · have k6 := k5.oth o6
        have z6 := z5.keep ((Keep.refl s _).oth o6) st6
        refine ⟨_, rfl, _, rfl, r, _, _, _, rfl, rfl, sl_map (kk k6).1, at3, s, pl, ns, rfl, st6, (kk k6).2.2, pls.symm, by omega, fun H7 Z ms k7 nZ st7 eZ sub => ?_⟩
        have z7 := z6.keep k7 st7
        have k7' := k6.trans k7
        have lms := sub.length_le
        refine ⟨_, rfl, _, rfl, r, _, _, _, rfl, rfl, sl_map (kk k7').1, at2, b, _, rfl, DPut.k (k := .inr ex) z7.bu.un (by rw [entK_len]; exact small1000 (by omega)), ?_⟩
        rw [putK_ent (s := ms)]
        have z8 := z7.put (x := ex) eZ (fun e => st6.some (by rw [← e]; exact nZ)) (by omega)
        exact ⟨_, rfl, q _ b _ (k7'.at_ nb0) z8.st z8.bu (o5.put (cb.srt.sub sub) (by omega) (fun h => absurd h cb.ex) (.inr (by omega)))⟩
      · have k6 := k5.oth o6
        have z6 := z5.keep ((Keep.refl s _).oth o6) st6
        exact ⟨_, rfl, q _ b _ k6 z6.st z6.bu o5⟩
end
end K56
set_option Elab.async false
set_option linter.all false
set_option maxRecDepth 100000
set_option maxHeartbeats 4000000
namespace K56
open PySem PySem.Spec PyProof.Rows L2 Cs CsX
/-! ### steps that break at the last one, and not before -/
def brkW (es : List Edg) (S : Str → List Int) : (Str → Int) → List Int → Bool
  | _, [] => false
  | v, k :: ks => if k < 0 ∨ (es.length : Int) ≤ k then false else
      match nxv (S (eg es k.toNat).2.1) (max (v (eg es k.toNat).2.1) (due v (eg es k.toNat))) with
      | none => ks.isEmpty
      | some w => brkW es S (put v (eg es k.toNat).2.1 w) ks
theorem brkW_out {es : List Edg} {S : Str → List Int} {v : Str → Int} {k : Int} {ks : List Int} (h : k < 0 ∨ (es.length : Int) ≤ k) : brkW es S v (k :: ks) = false := by
  show (if _ then _ else _) = _
  rw [if_pos h]
theorem brkW_none {es : List Edg} {S : Str → List Int} {v : Str → Int} {k : Int} {i : Nat} {ks : List Int} (hk : k = (i : Int)) (hi : i < es.length) (h : nxv (S (eg es i).2.1) (max (v (eg es i).2.1) (due v (eg es i))) = none) : brkW es S v (k :: ks) = ks.isEmpty := by
  subst hk
  show (if _ then _ else _) = _
  rw [if_neg (by omega), Int.toNat_natCast, h]
theorem brkW_some {es : List Edg} {S : Str → List Int} {v : Str → Int} {k : Int} {i : Nat} {w : Int} {ks : List Int} (hk : k = (i : Int)) (hi : i < es.length) (h : nxv (S (eg es i).2.1) (max (v (eg es i).2.1) (due v (eg es i))) = some w) : brkW es S v (k :: ks) = brkW es S (put v (eg es i).2.1 w) ks := by
  subst hk
  show (if _ then _ else _) = _
  rw [if_neg (by omega), Int.toNat_natCast, h]
theorem brkW_congr {es : List Edg} {S : Str → List Int} : ∀ (ks : List Int) {f g : Str → Int}, (∀ x ∈ enames es, f x = g x) → brkW es S f ks = brkW es S g ks
  | [], _, _, _ => rfl
  | k :: ks, f, g, h => by
    by_cases c : k < 0 ∨ (es.length : Int) ≤ k
    · rw [brkW_out c, brkW_out c]
    · have hi : k.toNat < es.length := by omega
      have hk : k = (k.toNat : Int) := by omega
      obtain ⟨e1, e2⟩ := ends (eg_mem hi)
      have ed : due f (eg es k.toNat) = due g (eg es k.toNat) := by unfold due; rw [h _ e1]
      have em : max (f (eg es k.toNat).2.1) (due f (eg es k.toNat)) = max (g (eg es k.toNat).2.1) (due g (eg es k.toNat)) := by rw [ed, h _ e2]
      cases hn : nxv (S (eg es k.toNat).2.1) (max (g (eg es k.toNat).2.1) (due g (eg es k.toNat))) with
      | none => rw [brkW_none hk hi hn, brkW_none hk hi (by rw [em]; exact hn)]
      | some w =>
        rw [brkW_some hk hi hn, brkW_some hk hi (by rw [em]; exact hn)]
        refine brkW_congr ks fun x hx => ?_
        unfold put
        split
        · rfl
        · exact h x hx
abbrev zis (st : List Nat) : List Int := st.map fun (i : Nat) => (i : Int)
theorem broken_run {es : List Edg} {S : Str → List Int} {t : List Nat} {i : Nat} (g : Good es S t) : ∀ n, n ≤ t.length → brkW es S (hd0 S) (zis (t ++ [i])) = brkW es S (vals es S (t.take n)) (zis ((t ++ [i]).drop n))
  | 0, _ => by rw [List.take_zero, List.drop_zero] <;> rfl
  | n + 1, h => by
    rw [broken_run g n (by omega)]
    have hn : n < t.length := by omega
    have hj : t[n]? = some t[n] := List.getElem?_eq_getElem hn
    generalize t[n] = j at hj
    obtain ⟨a1, a2, a3⟩ := g n j hj
    have d1 : (t ++ [i]).drop n = j :: (t ++ [i]).drop (n + 1) := drop_at (by rw [List.getElem?_append_left hn]; exact hj)
    rw [d1]
    show brkW es S _ ((j : Int) :: zis _) = _
    obtain ⟨w, hw⟩ := Option.isSome_iff_exists.mp a3
    unfold Brk at a2
    have em : max (vals es S (t.take n) (eg es j).2.1) (due (vals es S (t.take n)) (eg es j)) = due (vals es S (t.take n)) (eg es j) := by omega
    rw [brkW_some rfl a1 (by rw [em]; exact hw), ← bump_is hw, take_snoc hj]
theorem broken_brk {es : List Edg} {S : Str → List Int} {st : List Nat} (b : Broken es S st) : brkW es S (hd0 S) (zis st) = true := by
  obtain ⟨t, i, rfl, _, g, hi, bk, hn⟩ := b
  rw [broken_run g t.length (Nat.le_refl _), List.take_length, List.drop_left]
  unfold Brk at bk
  have em : max (vals es S t (eg es i).2.1) (due (vals es S t) (eg es i)) = due (vals es S t) (eg es i) := by omega
  show brkW es S _ ((i : Int) :: []) = _
  rw [brkW_none rfl hi (by rw [em]; exact hn)] <;> rfl
theorem step_max {es : List Edg} {S : Str → List Int} {v : Str → Int} {y : Str} (srt : Srt (S y)) (m : v y ∈ S y) (d : Int) : nxv (S y) (max (v y) d) = if v y < d then nxv (S y) d else some (v y) := by
  split
  · rw [show max (v y) d = d by omega]
  · rw [show max (v y) d = v y by omega]
    exact nxv_self srt m
section
variable {P : Program} {w : World} {K : PySem.W.Frag} {mg : Str → Option Value} {base : Heap}
abbrev sShw : Stmt := topS 16
abbrev nShw : List Str := ["names", "box", "name"]
theorem scShw : FnScope nShw ["names", "box", "name"] (defScope sShw) := ⟨rfl, rfl, rfl, by decide +kernel, rfl, by decide +kernel, by decide +kernel⟩
def spShw : Sp := fun vs H Q _ => ∃ (t b : Addr) (x : Str) (ns : List Str) (L : List Ent) (S : Str → List Int), vs = [.ref t, .ref b, .str x] ∧ H t = some (.tup (ns.map V.str)) ∧ Bu H b L ∧ Fit L ns S ∧ Q (.bl (decide (x ∈ ns ∧ S x = []))) H
theorem ok_Shw {f  : Addr} {fd  : FuncData} (F : Fun K "shows_empty" "shows_empty" sShw f fd) (B : Bt mg) :
    FnOk P w K mg base CX0 1 f fd ["names", "box", "name"] spShw := by
  refine F.ok scShw (fun vs H Q E h => ?_) (fun cdv A outer s H vs Q E hr h => ?_)
  · obtain ⟨t, b, x, ns, L, S, rfl, _⟩ := h
    rfl
  · obtain ⟨t, b, x, ns, L, S, rfl, et, B1, F1, q⟩ := h
    have hu := hu_of hr
    have nd := scShw.nd
    refine ⟨_, pss_one (ps_ret (pe_and (pe_cmpR (r := rIn K false) op_in_seq (pv 2) (pv 0) rfl) (pe_one (pe_cmpR op_eq (pe_callB call_len_seq (by rfl) B.len PySem.boot_len (pa_cons (pe_dget hu (pv 1) (pv 2) (fun _ _ => rfl)) pa_nil)) pe_int rfl)))), ?_⟩
    refine ⟨_, rfl, _, rfl, t, _, rfl, .inr (.inl (.inl et)), rfl, flats_str _, ?_⟩
    rw [if_neg (by decide), in_strs]
    by_cases hx : x ∈ ns
    · rw [decide_eq_true hx]
      obtain ⟨a, ga, ea⟩ := Fit.get B1 F1 hx
      refine ⟨true, rfl, iteT ⟨_, rfl, _, rfl, b, .ref a, rfl, ga, a, _, rfl, .inl (sl_map ea), rfl, ?_⟩⟩
      have e : decide (V.int (((S x).map V.int).length : Nat) = V.int 0) = decide (x ∈ ns ∧ S x = []) := by
        rw [Bool.eq_iff_iff, decide_eq_true_iff, decide_eq_true_iff, List.length_map]
        constructor
        · intro z; exact ⟨hx, List.length_eq_zero_iff.mp (by have := V.int.inj z; omega)⟩
        · intro z; rw [z.2] <;> rfl
      rw [e]
      exact q
    · rw [decide_eq_false hx]
      refine ⟨false, rfl, iteF ?_⟩
      rw [decide_eq_false fun z => hx z.1] at q
      exact q
abbrev sCer : Stmt := inClass (topS 18) 5
abbrev nCer : List Str := ["self", "box", "name", "word", "content"]
theorem scCer : FnScope nCer ["self", "box"] (defScope sCer) := ⟨rfl, rfl, rfl, by decide +kernel, rfl, by decide +kernel, by decide +kernel⟩
/-- what certificate tells -/
inductive Cto (es : List Edg) (S : Str → List Int) (H H1 : Hp) : V → Prop
  | none (f : Str → Int) (n : fe S (enames es) = Option.none) (lst : Lst es S f) : Cto es S H H1 .non
  | empty (T : Addr) (x : Str) (n : fe S (enames es) = some x) (nT : H T = Option.none) (eT : H1 T = some (.tup [.str "empty", .str x])) : Cto es S H H1 (.ref T)
  | climb (T r : Addr) (st : List Nat) (n : fe S (enames es) = Option.none) (nT : H T = Option.none) (eT : H1 T = some (.tup [.str "climb", .ref r])) (nr : H r = Option.none) (er : H1 r = some (.lst (natV st))) (run : Run es S (enames es, []) (.inl st)) (bk : Broken es S st) (no : ∀ a, ¬ Alw es S a) : Cto es S H H1 (.ref T)
def spCer (C : Addr) : Sp := fun vs H Q _ => ∃ (p b : Addr) (es : List Edg) (L : List Ent) (S : Str → List Int), vs = [.ref p, .ref b] ∧ Rg C H p es ∧ es.length ≤ 400 ∧ Bu H b L ∧ Fit L (enames es) S ∧ Wd0 es S ∧
  ∀ (H' : Hp) (v : V), Same H H' → Cto es S H H' v → Q v H'
theorem ok_Cer {f C fF fL : Addr} {fd fdF fdL : FuncData} (F : Fun K "certificate" "Ring.certificate" sCer f fd) (B : Bt mg) (T : Kls K mg "Ring" C rF) (CFem : Call P w K mg base 1 "first_empty" fF fdF ["names", "box"] spFem)
    (CLcl : Call P w K mg base 4 "least_climb" fL fdL ["edges", "box"] spLcl) : FnOk P w K mg base CX0 5 f fd ["self", "box"] (spCer C) := by
  refine F.ok scCer (fun vs H Q E h => ?_) (fun cdv A outer s H vs Q E hr h => ?_)
  · obtain ⟨p, b, es, L, S, rfl, _⟩ := h
    rfl
  · obtain ⟨p, b, es, L, S, rfl, ⟨dx, t, e, ts, hp, ht, el, rfl⟩, few, B1, F1, W0, q⟩ := h
    have hu := hu_of hr
    have nd := scCer.nd
    rw [eds_len] at few
    refine ⟨_, pss_cons (ps_set (i := 2) nd rfl (.inl rfl) (pe_call CFem.ok (hr.mono (by decide)) (by rfl) CFem.at_ CFem.kp CFem.bd .nil pass0 (pa_cons (pe_fld (pv 0) rfl) (pa_cons (pv 1) pa_nil))))
      (pss_cons (ps_if (pt_cmp (pc_notN (pv 2)))
        (pss_one (ps_ret (pe_tup (pa_cons pe_str (pa_cons (pv 2) pa_nil)))))
        pss_nil)
      (pss_cons (ps_asg (pe_call CLcl.ok (hr.mono (by decide)) (by rfl) CLcl.at_ CLcl.kp CLcl.bd .nil pass0 (pa_cons (pe_fld (pv 0) rfl) (pa_cons (pv 1) pa_nil))) (pg_tup (by rfl) (pgs_cons (pg_name (i := 3) nd rfl (.inl rfl)) (pgs_cons (pg_name (i := 4) nd rfl (.inl rfl)) pgs_nil))))
      (pss_one (ps_ret (pe_ifExp (pt_cmpR op_eq (pv 3) pe_str rfl) (pe_tup (pa_cons pe_str (pa_cons (pv 4) pa_nil))) pe_non))))), ?_⟩
    refine ⟨_, rfl, p, C, dx, _, _, rfl, hp, T.cl, T.no _ (by simp), rlook1 _ _, _, rfl, t, b, enames (eds ts), L, S, rfl, ht, B1, F1, fun ne => ?_, fun x hx ex fx => ?_⟩
    · refine ⟨_, rfl, _, rfl, iteF ?_⟩
      refine ⟨_, rfl, p, C, dx, _, _, rfl, hp, T.cl, T.no _ (by simp), rlook2 _ _, _, rfl, e, b, ts, L, S, rfl, el, few, B1, F1, ⟨W0.srt, ne, W0.few, W0.nam⟩, fun H1 Y r st s1 nY eY nr er run br no => ?_, fun H1 Y d A1 g s1 nY eY nd1 ed vf lst => ?_⟩
      · refine ⟨Y, _, rfl, .inl (.inl eY), rfl, _, _, rfl, _, _, rfl, rfl, ?_⟩
        refine ⟨_, rfl, rfl, _, rfl, iteT ?_⟩
        refine ⟨_, rfl, by show 2 ≤ sizeLine; decide, fun Z nZ => ?_⟩
        have sZ := same_new (o := HO.tup [V.str "climb", .ref r]) nZ
        exact q _ _ (s1.trans sZ) (.climb Z r st (fe_none.mpr ne) (s1.free nZ) upd_same nr (sZ _ _ er) run br no)
      · refine ⟨Y, _, rfl, .inl (.inl eY), rfl, _, _, rfl, _, _, rfl, rfl, ?_⟩
        exact ⟨_, rfl, rfl, _, rfl, iteF (q _ _ s1 (.none g (fe_none.mpr ne) lst))⟩
    · refine ⟨_, rfl, _, rfl, iteT ?_⟩
      refine ⟨_, rfl, by show 2 ≤ sizeLine; decide, fun Z nZ => ?_⟩
      exact q _ _ (same_new nZ) (.empty Z x fx nZ upd_same)
end
end K56
set_option Elab.async false
set_option linter.all false
set_option maxRecDepth 100000
set_option maxHeartbeats 4000000
namespace K56
open PySem PySem.Spec PyProof.Rows L2 Cs CsX
section
variable {P : Program} {w : World} {K : PySem.W.Frag} {mg : Str → Option Value} {base : Heap}
def spLvsT : Sp := fun vs H Q _ => ∃ (m b : Addr) (ns : List Str) (L : List Ent) (S : Str → List Int), vs = [.ref m, .ref b] ∧ H m = some (.tup (ns.map V.str)) ∧ ns.Nodup ∧ ns.length ≤ 40 ∧ Bu H b L ∧ Fit L ns S ∧ (∀ x ∈ ns, S x ≠ []) ∧
  ∀ (H' : Hp) (d : Addr) (A : List (Str × Int)), Same H H' → H d = none → H' d = some (.dK (intK A)) → VF A ns (hd0 S) → Q (.ref d) H'
theorem ok_LvsT {f  : Addr} {fd  : FuncData} (F : Fun K "least_values" "least_values" sLvs f fd) (B : Bt mg) :
    FnOk P w K mg base CX0 1 f fd ["names", "box"] spLvsT := by
  refine F.ok scLvs (fun vs H Q E h => ?_) (fun cdv A outer s H vs Q E hr h => ?_)
  · obtain ⟨m, b, ns, L, S, rfl, _⟩ := h
    rfl
  · obtain ⟨m, b, ns, L, S, rfl, em, nn, few, B1, F1, ne, q⟩ := h
    have hu := hu_of hr
    have nd := scLvs.nd
    refine ⟨_, pss_one (ps_ret (pe_dc (own := [("name", 2)]) (g := gName 2) (tt := tYes) (tk := tVar 2) rfl nd (pi_tup (pv 0)) (blkOk_by (N := nLvs) (sc := defScope sLvs) (by decide +kernel)) (fun _ _ _ _ _ => pg_name (i := 2) nd rfl (.inl rfl)) (fun _ _ _ _ _ => pts_nil)
          (fun _ _ _ _ _ => (pv 2)) (fun _ _ _ _ _ => (pe_ix (r := rIxL K) ix_list (pe_dget hu (pv 1) (pv 2) (fun _ _ => rfl)) pe_int (fun _ _ => rfl))))), ?_⟩
    refine ⟨.ref m, rfl, m, rfl, ⟨_, .inl (.inl em)⟩, fun d nd1 => dc_it (walk_tup (xs := ns.map V.str)) (fun i H' => Same H H' ∧ H' d = some (.dK (intK ((ns.take i).map fun x => (x, hd0 S x))))) ⟨same_new nd1, upd_same⟩ (fun i H' _ h => .inl (.inl (h.1 _ _ em))) ?_ ?_⟩
    · rintro i x H2 H3 hi ⟨s2, ed⟩ ⟨rfl, hx0⟩
      rw [List.getElem?_map] at hx0
      obtain ⟨x, hx, rfl⟩ := Option.map_eq_some_iff.mp hx0
      have hi' := (List.getElem?_eq_some_iff.mp hx).1
      have xm := List.mem_of_getElem? hx
      have xn : x ∉ ((ns.take i).map fun x => (x, hd0 S x)).map (·.1) := by
        rw [List.map_map]
        intro z
        obtain ⟨y, hy, e⟩ := List.mem_map.mp z
        exact not_take nn hx (by rw [← show y = x from e]; exact hy)
      obtain ⟨a, ga, ea⟩ := Fit.get (B1.same' s2) F1 xm
      have h0 : (S x)[0]? = some (hd0 S x) := by
        have := ne x xm
        unfold hd0
        cases c : S x with
        | nil => exact absurd c this
        | cons y s => rfl
      refine ⟨rfl, .str x, rfl, _, rfl, _, rfl, b, .ref a, rfl, ga, a, _, _, .int (hd0 S x), rfl, rfl, sl_map ea, atI_nat (j := 0) (by rw [List.getElem?_map, h0] <;> rfl), _, .inr x, rfl, ed, by rw [intK_len, List.length_map, List.length_take]; exact small1000 (by omega), same_at s2 nd1, ?_⟩
      rw [upd_same]
      show some (HO.dK (putK _ (.inr x) (V.int (hd0 S x)))) = _
      rw [putK_int, putA_new xn, take_snoc hx, List.map_append] <;> rfl
    · rintro H2 ⟨s2, ed⟩
      rw [List.length_map, List.take_length] at ed
      refine q _ _ _ s2 nd1 ed ⟨by rw [List.map_map] <;> exact List.map_id _, fun x hx => ?_⟩
      exact (aget_iff (by rw [List.map_map]; exact (List.map_id ns).symm ▸ nn) x _).mpr (List.mem_map.mpr ⟨x, hx, rfl⟩)
abbrev sBrk : Stmt := inClass (topS 18) 7
abbrev nBrk : List Str := ["self", "box", "steps", "values", "place", "position", "value"]
theorem scBrk : FnScope nBrk ["self", "box", "steps"] (defScope sBrk) := ⟨rfl, rfl, rfl, by decide +kernel, rfl, by decide +kernel, by decide +kernel⟩
/-- what these steps show -/
def bare (es : List Edg) (S : Str → List Int) (cs : List Int) : Bool := (fe S (enames es)).isNone && brkW es S (hd0 S) cs
def spBrk (C : Addr) : Sp := fun vs H Q _ => ∃ (p b c : Addr) (es : List Edg) (L : List Ent) (S : Str → List Int) (cs : List Int), vs = [.ref p, .ref b, .ref c] ∧ Rg C H p es ∧ es.length ≤ 400 ∧ Bu H b L ∧ Fit L (enames es) S ∧ Wd0 es S ∧ H c = some (.lst (cs.map V.int)) ∧ cs.length ≤ 1000 ∧
  ∀ H', Same H H' → Q (.bl (bare es S cs)) H'
theorem ok_Brk {f C fF fL fS : Addr} {fd fdF fdL fdS : FuncData} (F : Fun K "_breaks" "Ring._breaks" sBrk f fd) (B : Bt mg) (zenum : mg "enumerate" = none) (T : Kls K mg "Ring" C rF) (CFem : Call P w K mg base 1 "first_empty" fF fdF ["names", "box"] spFem)
    (CLvsT : Call P w K mg base 1 "least_values" fL fdL ["names", "box"] spLvsT) (CSpv : Call P w K mg base 2 "step_value" fS fdS ["edge", "values", "box"] spSpv) : FnOk P w K mg base CX0 3 f fd ["self", "box", "steps"] (spBrk C) := by
  refine F.ok scBrk (fun vs H Q E h => ?_) (fun cdv A outer s H vs Q E hr h => ?_)
  · obtain ⟨p, b, c, es, L, S, cs, rfl, _⟩ := h
    rfl
  · obtain ⟨p, b, c, es, L, S, cs, rfl, ⟨dx, t, e, ts, hp, ht, el, rfl⟩, few, B1, F1, W0, hc, lc, q⟩ := h
    have hu := hu_of hr
    have nd := scBrk.nd
    rw [eds_len] at few
    refine ⟨_, pss_cons (ps_if (pt_cmp (pc_notN (pe_call CFem.ok (hr.mono (by decide)) (by rfl) CFem.at_ CFem.kp CFem.bd .nil pass0 (pa_cons (pe_fld (pv 0) rfl) (pa_cons (pv 1) pa_nil)))))
        (pss_one (ps_ret pe_bl))
        pss_nil)
      (pss_cons (ps_set (i := 3) nd rfl (.inl rfl) (pe_call CLvsT.ok (hr.mono (by decide)) (by rfl) CLvsT.at_ CLvsT.kp CLvsT.bd .nil pass0 (pa_cons (pe_fld (pv 0) rfl) (pa_cons (pv 1) pa_nil))))
      (pss_cons (ps_for PassesOwn.never rfl (pi_enum (by rfl) zenum (pa_cons (pv 2) pa_nil)) (pg_tup (by rfl) (pgs_cons (pg_name (i := 4) nd rfl (.inl rfl)) (pgs_cons (pg_name (i := 5) nd rfl (.inl rfl)) pgs_nil)))
        (pss_cons (ps_if (PW.pt (pw_or (pt_cmpR op_lt (pv 5) pe_int rfl) (pw_or1 (pt_cmpR op_ge (pv 5) (pe_callB call_len_seq (by rfl) B.len PySem.boot_len (pa_cons (pe_fld (pv 0) rfl) pa_nil)) rfl))))
            (pss_one (ps_ret pe_bl))
            pss_nil)
          (pss_cons (ps_set (i := 6) nd rfl (.inl rfl) (pe_call CSpv.ok (hr.mono (by decide)) (by rfl) CSpv.at_ CSpv.kp CSpv.bd .nil pass0 (pa_cons (pe_ix ix_tup (pe_fld (pv 0) rfl) (pv 5) (fun _ _ => rfl)) (pa_cons (pv 3) (pa_cons (pv 1) pa_nil)))))
          (pss_cons (ps_if (pt_cmp (pc_isN (pv 6)))
            (pss_one (ps_ret (pe_cmpR op_eq (pe_op op_add (pv 4) pe_int) (pe_callB call_len_seq (by rfl) B.len PySem.boot_len (pa_cons (pv 2) pa_nil)) rfl)))
            pss_nil)
          (pss_one (ps_dput hu (pv 3) (pe_ix ix_tup (pe_ix ix_tup (pe_fld (pv 0) rfl) (pv 5) (fun _ _ => rfl)) pe_int (fun _ _ => rfl)) (pv 6) rfl))))))
      (pss_one (ps_ret pe_bl)))), ?_⟩
    refine ⟨_, rfl, p, C, dx, _, _, rfl, hp, T.cl, T.no _ (by simp), rlook1 _ _, _, rfl, t, b, enames (eds ts), L, S, rfl, ht, B1, F1, fun ne => ?_, fun x hx ex fx => ?_⟩
    rotate_left
    · refine ⟨_, rfl, iteT ?_⟩
      have := q H fun _ _ h => h
      unfold bare at this
      rw [fx] at this
      exact this
    refine ⟨_, rfl, iteF ?_⟩
    have W : Wd (eds ts) S := ⟨W0.srt, ne, W0.few, W0.nam⟩
    have q1 : ∀ H', Same H H' → Q (.bl (brkW (eds ts) S (hd0 S) cs)) H' := fun H' s => by
      have := q H' s
      unfold bare at this
      rw [fe_none.mpr ne] at this
      exact this
    have nn := enames_nd (eds ts)
    have n12 := W.nam
    refine ⟨_, rfl, p, C, dx, _, _, rfl, hp, T.cl, T.no _ (by simp), rlook1 _ _, _, rfl, t, b, enames (eds ts), L, S, rfl, ht, nn, by omega, B1, F1, ne, fun H1 d A s1 nd1 ed vf => ?_⟩
    refine ⟨.ref c, rfl, c, _, rfl, sl_map (s1 _ _ hc), for_it walk_enum (fun j σ H' => ∃ (y4 y5 y6 : Option V) (A : List (Str × Int)) (g : Str → Int), σ = [some (.ref p), some (.ref b), some (.ref c), some (.ref d), y4, y5, y6] ∧ Same H H' ∧ H' d = some (.dK (intK A)) ∧ VF A (enames (eds ts)) g ∧ (∀ x ∈ enames (eds ts), g x ∈ S x) ∧ brkW (eds ts) S (hd0 S) cs = brkW (eds ts) S g (cs.drop j))
      ⟨none, none, none, A, hd0 S, rfl, s1, ed, vf, (Low.start W).inS, by rw [List.drop_zero]⟩ (fun j σ H' _ h => by obtain ⟨_, _, _, _, _, _, h, _⟩ := h; exact sl_map (h _ _ hc)) ?_ ?_⟩
    · rintro j z σ H5 H6 hj ⟨y4, y5, y6, A, g, rfl, s5, ed, vf, inS, eq⟩ ⟨Tp, x1, x2, rfl, nT, rfl, g1, g2⟩
      replace g2 : (cs.map V.int)[j]? = some x2 := g2
      rw [List.getElem?_map] at g2
      obtain ⟨k, hk, rfl⟩ := Option.map_eq_some_iff.mp g2
      obtain rfl := Option.some.inj g1
      rw [drop_at hk] at eq
      have jl := (List.getElem?_eq_some_iff.mp hk).1
      have sT := same_new (o := HO.tup [V.int (j : Nat), V.int k]) nT
      have s6 := s5.trans sT
      have ed6 := sT _ _ ed
      have dT : d ≠ Tp := fun z => by rw [← z, ed] at nT; cases nT
      obtain ⟨H7, r7⟩ : ∃ H7, upd H5 Tp (.tup [V.int (j : Nat), V.int k]) = H7 := ⟨_, rfl⟩
      have eT := upd_same (H := H5) (a := Tp) (o := HO.tup [V.int (j : Nat), V.int k])
      rw [r7] at sT s6 ed6 eT ⊢
      refine ⟨Tp, _, rfl, .inl (.inl eT), rfl, _, _, rfl, _, _, rfl, rfl, ?_⟩
      have el6 := el.same s6
      refine ⟨_, rfl, _, _, rfl, rfl, _, rfl, ite_both (fun c1 => ?_) fun c1 => ?_⟩
      · have h1 := of_decide_eq_true c1
        have := q1 _ s6
        rw [eq, brkW_out (.inl h1)] at this
        exact this
      refine ⟨_, rfl, _, rfl, p, C, dx, _, _, rfl, s6 _ _ hp, T.cl, T.no _ (by simp), rlook2 _ _, e, _, rfl, .inr (.inl (.inl el6.lst)), _, _, rfl, rfl, _, rfl, ite_both (fun c2 => ?_) fun c2 => ?_⟩
      · have h2 := of_decide_eq_true c2
        have := q1 _ s6
        rw [List.length_map, ← eds_len] at h2
        rw [eq, brkW_out (.inr h2)] at this
        exact this
      have h1 := of_decide_eq_false c1
      have h2 := of_decide_eq_false c2
      rw [List.length_map, ← eds_len] at h2
      obtain ⟨i, hi⟩ : ∃ i : Nat, k = (i : Int) := ⟨k.toNat, by omega⟩
      have il : i < (eds ts).length := by omega
      have il2 : i < ts.length := by rw [← eds_len]; exact il
      obtain ⟨u, hu1⟩ : ∃ u, ts[i]? = some u := ⟨_, List.getElem?_eq_getElem il2⟩
      have te := eg_of (eds_at hu1)
      have et := el6.tup u (List.mem_of_getElem? hu1)
      obtain ⟨u1, u2⟩ := ends (List.mem_of_getElem? (eds_at hu1))
      have lat : (ts.map fun t => V.ref t.1)[i]? = some (.ref u.1) := by rw [List.getElem?_map, hu1] <;> rfl
      refine ⟨_, rfl, p, C, dx, _, _, rfl, s6 _ _ hp, T.cl, T.no _ (by simp), rlook2 _ _, _, rfl, e, _, _, .ref u.1, rfl, rfl, .inl (.inl el6.lst), at_eq hi lat, _, rfl, _, rfl, u.1, d, b, u.2, A, enames (eds ts), g, L, S, rfl, et, ed6, vf, B1.same' s6, F1, u1, u2, ?_⟩
      have lv := vf.few
      have d1 : (cs.drop (j + 1)).length = cs.length - (j + 1) := List.length_drop
      cases hn : nxv (S u.2.2.1) (max (g u.2.2.1) (due g u.2)) with
      | none =>
        refine ⟨_, rfl, _, rfl, iteT ?_⟩
        refine ⟨_, rfl, _, _, rfl, rfl, _, rfl, c, _, rfl, .inl (sl_map (s6 _ _ hc)), rfl, ?_⟩
        have := q1 _ s6
        rw [eq, brkW_none hi il (by rw [te]; exact hn)] at this
        have e : decide (V.int ((j : Nat) + 1) = V.int (((cs.map V.int).length : Nat) : Int)) = (cs.drop (j + 1)).isEmpty := by
          rw [Bool.eq_iff_iff, decide_eq_true_iff, List.isEmpty_iff, ← List.length_eq_zero_iff, d1, List.length_map]
          constructor
          · intro z; have := V.int.inj z; omega
          · intro z; rw [show (cs.length : Nat) = j + 1 by omega] <;> rfl
        rw [e]
        exact this
      | some w =>
        have hm := (nxv_some (W.srt _ u2) hn).1
        refine ⟨_, rfl, _, rfl, iteF ?_⟩
        refine ⟨_, rfl, _, rfl, _, rfl, p, C, dx, _, _, rfl, s6 _ _ hp, T.cl, T.no _ (by simp), rlook2 _ _, _, rfl, e, _, _, .ref u.1, rfl, rfl, .inl (.inl el6.lst), at_eq hi lat, u.1, _, _, .str u.2.2.1, rfl, rfl, .inl (.inl et), atI_nat (j := 1) rfl, d, _, rfl, DPut.k (k := .inr u.2.2.1) ed6 (by rw [intK_len, lv]; exact small1000 (by omega)), ?_⟩
        rw [putK_int]
        refine ⟨_, _, _, putA A u.2.2.1 w, K56.put g u.2.2.1 w, rfl, same_at s6 nd1, upd_same, vf.put u2, fun x hx => ?_, ?_⟩
        · unfold K56.put
          split
          · next z => rw [z]; exact hm
          · exact inS x hx
        · rw [eq, brkW_some hi il (by rw [te]; exact hn), te]
    rintro σ H5 ⟨y4, y5, y6, A, g, rfl, s5, ed, vf, inS, eq⟩
    rw [List.length_map, List.drop_length] at eq
    have := q1 _ s5
    rw [eq] at this
    exact this
abbrev sAcc : Stmt := inClass (topS 18) 6
abbrev nAcc : List Str := ["self", "box", "certificate", "word", "content"]
theorem scAcc : FnScope nAcc ["self", "box", "certificate"] (defScope sAcc) := ⟨rfl, rfl, rfl, by decide +kernel, rfl, by decide +kernel, by decide +kernel⟩
/-- a certificate, and whether it shows that the box is bare -/
inductive Crt (es : List Edg) (S : Str → List Int) (H : Hp) : Str → V → Bool → Prop
  | empty (x : Str) : Crt es S H "empty" (.str x) (decide (x ∈ enames es ∧ S x = []))
  | climb (l : Addr) (cs : List Int) (el : H l = some (.lst (cs.map V.int))) (few : cs.length ≤ 1000) : Crt es S H "climb" (.ref l) (bare es S cs)
  | other (w : Str) (c : V) (h1 : w ≠ "empty") (h2 : w ≠ "climb") : Crt es S H w c false
theorem Crt.same {es : List Edg} {S : Str → List Int} {H H' : Hp} {w : Str} {c : V} {b : Bool} (h : Crt es S H w c b) (s : Same H H') : Crt es S H' w c b := by
  cases h with
  | empty x => exact .empty x
  | climb l cs el few => exact .climb l cs (s _ _ el) few
  | other w c h1 h2 => exact .other w c h1 h2
def spAcc (C : Addr) : Sp := fun vs H Q _ => ∃ (p b T : Addr) (es : List Edg) (L : List Ent) (S : Str → List Int) (w : Str) (c : V) (r : Bool), vs = [.ref p, .ref b, .ref T] ∧ Rg C H p es ∧ es.length ≤ 400 ∧ Bu H b L ∧ Fit L (enames es) S ∧ Wd0 es S ∧ H T = some (.tup [.str w, c]) ∧ Crt es S H w c r ∧
  ∀ H', Same H H' → Q (.bl r) H'
theorem ok_Acc {f C fS fB : Addr} {fd fdS fdB : FuncData} (F : Fun K "accepts" "Ring.accepts" sAcc f fd) (B : Bt mg) (T : Kls K mg "Ring" C rF) (CShw : Call P w K mg base 1 "shows_empty" fS fdS ["names", "box", "name"] spShw)
    (Br : CallM P w K mg base 3 C "_breaks" fB fdB ["self", "box", "steps"] (spBrk C)) : FnOk P w K mg base CX0 4 f fd ["self", "box", "certificate"] (spAcc C) := by
  refine F.ok scAcc (fun vs H Q E h => ?_) (fun cdv A outer s H vs Q E hr h => ?_)
  · obtain ⟨p, b, T0, es, L, S, w, c, r, rfl, _⟩ := h
    rfl
  · obtain ⟨p, b, T0, es, L, S, w, c, r, rfl, rg, few, B1, F1, W0, eT, cr, q⟩ := h
    have nd := scAcc.nd
    obtain ⟨dx, t, e, ts, hp, ht, el, e1⟩ := id rg
    refine ⟨_, pss_cons (ps_asg (pv 2) (pg_tup (by rfl) (pgs_cons (pg_name (i := 3) nd rfl (.inl rfl)) (pgs_cons (pg_name (i := 4) nd rfl (.inl rfl)) pgs_nil))))
      (pss_cons (ps_if (pt_cmpR op_eq (pv 3) pe_str rfl)
        (pss_one (ps_ret (pe_call CShw.ok (hr.mono (by decide)) (by rfl) CShw.at_ CShw.kp CShw.bd .nil pass0 (pa_cons (pe_fld (pv 0) rfl) (pa_cons (pv 1) (pa_cons (pv 4) pa_nil))))))
        pss_nil)
      (pss_one (ps_ret (pe_and (pe_cmpR op_eq (pv 3) pe_str rfl) (pe_one (pe_meth (pv 0) T.cl Br.mt Br.ok (hr.mono (by decide)) Br.bd .nil pass0 (pa_cons (pv 1) (pa_cons (pv 4) pa_nil)))))))), ?_⟩
    refine ⟨_, rfl, T0, _, rfl, .inl (.inl eT), rfl, _, _, rfl, _, _, rfl, rfl, ?_⟩
    cases cr with
    | empty x =>
      refine ⟨_, rfl, rfl, _, rfl, iteT ?_⟩
      exact ⟨_, rfl, p, C, dx, _, _, rfl, hp, T.cl, T.no _ (by simp), rlook1 _ _, _, rfl, _, rfl, t, b, x, enames es, L, S, rfl, ht, B1, F1, q _ fun _ _ h => h⟩
    | climb l cs ec fc =>
      refine ⟨_, rfl, rfl, _, rfl, iteF ?_⟩
      refine ⟨_, rfl, rfl, _, rfl, iteT ?_⟩
      exact ⟨_, rfl, p, dx, _, rfl, hp, wit_no (by decide +kernel) (by decide +kernel) _ _, _, rfl, _, rfl, p, b, l, es, L, S, cs, rfl, rg, few, B1, F1, W0, ec, fc, q⟩
    | other w c h1 h2 =>
      refine ⟨_, rfl, rfl, _, rfl, ite_both (fun z => absurd (V.str.inj (of_decide_eq_true z)) h1) fun _ => ?_⟩
      refine ⟨_, rfl, rfl, _, rfl, ite_both (fun z => absurd (V.str.inj (of_decide_eq_true z)) h2) fun _ => ?_⟩
      exact q _ fun _ _ h => h
abbrev sLfe : Stmt := topS 39
abbrev nLfe : List Str := ["_law_names_here", "_law_sides_here", "_law_name"]
theorem scLfe : FnScope nLfe ["_law_names_here", "_law_sides_here"] (defScope sLfe) := ⟨rfl, rfl, rfl, by decide +kernel, rfl, by decide +kernel, by decide +kernel⟩
def spLfe : Sp := fun vs H Q _ => ∃ (t b : Addr) (ns : List Str) (L : List Ent) (S : Str → List Int), vs = [.ref t, .ref b] ∧ H t = some (.lst (ns.map V.str)) ∧ Bu H b L ∧ Fit L ns S ∧ Q (match fe S ns with | some x => .str x | none => .non) H
theorem ok_Lfe {f  : Addr} {fd  : FuncData} (F : Fun K "_law_first_empty" "_law_first_empty" sLfe f fd) (B : Bt mg) :
    FnOk P w K mg base CX0 1 f fd ["_law_names_here", "_law_sides_here"] spLfe := by
  refine F.ok scLfe (fun vs H Q E h => ?_) (fun cdv A outer s H vs Q E hr h => ?_)
  · obtain ⟨t, b, ns, L, S, rfl, _⟩ := h
    rfl
  · obtain ⟨t, b, ns, L, S, rfl, et, B1, F1, q⟩ := h
    have hu := hu_of hr
    have nd := scLfe.nd
    refine ⟨_, pss_cons (ps_for PassesOwn.never rfl (pi_list (pv 0)) (pg_name (i := 2) nd rfl (.inl rfl))
        (pss_one (ps_if (pt_cmpR op_eq (pe_callB call_len_seq (by rfl) B.len PySem.boot_len (pa_cons (pe_dget hu (pv 1) (pv 2) (fun _ _ => rfl)) pa_nil)) pe_int rfl)
            (pss_one (ps_ret (pv 2)))
            pss_nil)))
      (pss_one (ps_ret pe_non)), ?_⟩
    refine ⟨.ref t, rfl, t, rfl, ⟨_, sl_map et⟩, for_list (xs := ns.map V.str) (fun i σ H' => H' = H ∧ (∃ y, σ = [some (.ref t), some (.ref b), y]) ∧ ∀ x ∈ ns.take i, S x ≠ []) ⟨rfl, ⟨none, rfl⟩, (fun _ h => nomatch h)⟩ (fun i σ H' _ h => by obtain ⟨rfl, _⟩ := h; exact sl_map et) ?_ ?_⟩
    · rintro i x σ H' hx ⟨rfl, ⟨y, rfl⟩, hn⟩
      rw [List.getElem?_map] at hx
      obtain ⟨x, hv, rfl⟩ := Option.map_eq_some_iff.mp hx
      have xm := List.mem_of_getElem? hv
      obtain ⟨a, ga, ea⟩ := Fit.get B1 F1 xm
      refine ⟨_, rfl, _, rfl, b, .ref a, rfl, ga, a, _, rfl, .inl (sl_map ea), rfl, _, rfl, ite_both (fun c => ?_) fun c => ?_⟩
      · have := V.int.inj (of_decide_eq_true c)
        rw [List.length_map] at this
        have e := fe_at hv (List.length_eq_zero_iff.mp (show (S x).length = 0 by omega)) hn
        rw [e] at q
        exact ⟨_, rfl, q⟩
      · refine ⟨rfl, ⟨_, rfl⟩, fun y hy => ?_⟩
        rw [take_snoc hv] at hy
        rcases List.mem_append.mp hy with z | z
        · exact hn y z
        · intro e
          rw [List.mem_singleton.mp z] at e
          exact of_decide_eq_false c (by rw [e] <;> rfl)
    · rintro σ H' ⟨rfl, _, hn⟩
      rw [List.length_map, List.take_length] at hn
      rw [fe_none.mpr hn] at q
      exact q
end
end K56
set_option Elab.async false
set_option linter.all false
set_option maxRecDepth 100000
set_option maxHeartbeats 4000000
namespace K56
open PySem PySem.Spec PyProof.Rows L2 Cs CsX
section
variable {P : Program} {w : World} {K : PySem.W.Frag} {mg : Str → Option Value} {base : Heap}
abbrev sLbk : Stmt := topS 40
abbrev nLbk : List Str := ["_law_edges", "_law_sides_here", "_law_climb", "_law_values", "_law_edge", "_law_k", "_law_due_here", "_law_later", "_law_value"]
theorem scLbk : FnScope nLbk ["_law_edges", "_law_sides_here", "_law_climb"] (defScope sLbk) := ⟨rfl, rfl, rfl, by decide +kernel, rfl, by decide +kernel, by decide +kernel⟩
def spLbk : Sp := fun vs H Q _ => ∃ (l b c : Addr) (ts : List (Addr × Edg)) (L : List Ent) (S : Str → List Int) (cs : List Int), vs = [.ref l, .ref b, .ref c] ∧ EdL H l ts ∧ ts.length ≤ 400 ∧ Bu H b L ∧ Fit L (enames (eds ts)) S ∧ Wd (eds ts) S ∧ H c = some (.lst (cs.map V.int)) ∧ cs.length ≤ 1000 ∧
  ∀ H', Same H H' → Q (.bl (brkW (eds ts) S (hd0 S) cs)) H'
theorem ok_Lbk {f f0 : Addr} {fd fd0 : FuncData} (F : Fun K "_law_breaks" "_law_breaks" sLbk f fd) (B : Bt mg) (Cii : Call P w K mg base 1 "_law_is_integer" f0 fd0 ["_law_actual"] spIsInt) :
    FnOk P w K mg base CX0 2 f fd ["_law_edges", "_law_sides_here", "_law_climb"] spLbk := by
  refine F.ok scLbk (fun vs H Q E h => ?_) (fun cdv A outer s H vs Q E hr h => ?_)
  · obtain ⟨l, b, c, ts, L, S, cs, rfl, _⟩ := h
    rfl
  · obtain ⟨l, b, c, ts, L, S, cs, rfl, el, few, B1, F1, W, hc, lc, q⟩ := h
    have hu := hu_of hr
    have nd := scLbk.nd
    refine ⟨_, pss_cons (ps_if (pt_not (pt_val (pe_callB call_isi (by rfl) B.isi PyProof.Rows.boot_isinstance (pa_cons (pv 2) (pa_cons (pe_bltn (by rfl) B.list PyProof.Rows.boot_list (v := .ty "list") rfl) pa_nil)))))
        (pss_one (ps_ret pe_bl))
        pss_nil)
      (pss_cons (ps_set (i := 3) nd rfl (.inl rfl) pe_dnewK)
      (pss_cons (ps_for PassesOwn.never rfl (pi_list (pv 0)) (pg_name (i := 4) nd rfl (.inl rfl))
        (pss_one (ps_for PassesOwn.never rfl (pi_range1 (by rfl) B.range (pa_cons pe_int pa_nil)) (pg_name (i := 5) nd rfl (.inl rfl))
            (pss_one (ps_dput hu (pv 3) (pe_ix ix_tup (pv 4) (pv 5) (fun _ _ => rfl)) (pe_ix ix_list (pe_dget hu (pv 1) (pe_ix ix_tup (pv 4) (pv 5) (fun _ _ => rfl)) (fun _ _ => rfl)) pe_int (fun _ _ => rfl)) rfl)))))
      (pss_cons (ps_for PassesOwn.never rfl (pi_range1 (by rfl) B.range (pa_cons (pe_callB call_len_seq (by rfl) B.len PySem.boot_len (pa_cons (pv 2) pa_nil)) pa_nil)) (pg_name (i := 5) nd rfl (.inl rfl))
        (pss_cons (ps_if (PW.pt (pw_or (pt_not (pt_val (pe_call Cii.ok (hr.mono (by decide)) (by rfl) Cii.at_ Cii.kp Cii.bd .nil pass0 (pa_cons (pe_ix ix_list (pv 2) (pv 5) (fun _ _ => rfl)) pa_nil)))) (pw_or (pt_cmpR op_lt (pe_ix ix_list (pv 2) (pv 5) (fun _ _ => rfl)) pe_int rfl) (pw_or1 (pt_cmpR op_ge (pe_ix ix_list (pv 2) (pv 5) (fun _ _ => rfl)) (pe_callB call_len_seq (by rfl) B.len PySem.boot_len (pa_cons (pv 0) pa_nil)) rfl)))))
            (pss_one (ps_ret pe_bl))
            pss_nil)
          (pss_cons (ps_set (i := 4) nd rfl (.inl rfl) (pe_ix ix_list (pv 0) (pe_ix ix_list (pv 2) (pv 5) (fun _ _ => rfl)) (fun _ _ => rfl)))
          (pss_cons (ps_set (i := 6) nd rfl (.inr rfl) (pe_op op_sub (pe_dget hu (pv 3) (pe_ix ix_tup (pv 4) pe_int (fun _ _ => rfl)) (fun _ _ => rfl)) (pe_ix ix_tup (pv 4) pe_int (fun _ _ => rfl))))
          (pss_one (ps_if (pt_cmpR op_lt (pe_dget hu (pv 3) (pe_ix ix_tup (pv 4) pe_int (fun _ _ => rfl)) (fun _ _ => rfl)) (pv 6) rfl)
            (pss_cons (ps_setLc (i := 7) (own := [("_law_value", 8)]) (g := gName 8) (tt := _) (te := tVar 8) rfl nd rfl rfl (by rfl) (pi_list (pe_dget hu (pv 1) (pe_ix ix_tup (pv 4) pe_int (fun _ _ => rfl)) (fun _ _ => rfl))) (blkOk_by (N := nLbk) (sc := defScope sLbk) (by decide +kernel)) (fun _ _ _ _ _ => pg_name (i := 8) nd rfl (.inl rfl)) (fun _ _ _ _ _ => pts_one (pt_cmpR op_ge (pv 8) (pv 6) rfl))
                  (fun _ _ _ _ _ => (pv 8)))
              (pss_cons (ps_if (pt_cmpR op_eq (pe_callB call_len_seq (by rfl) B.len PySem.boot_len (pa_cons (pv 7) pa_nil)) pe_int rfl)
                (pss_one (ps_ret (pe_cmpR op_eq (pv 5) (pe_op op_sub (pe_callB call_len_seq (by rfl) B.len PySem.boot_len (pa_cons (pv 2) pa_nil)) pe_int) rfl)))
                pss_nil)
              (pss_one (ps_dput hu (pv 3) (pe_ix ix_tup (pv 4) pe_int (fun _ _ => rfl)) (pe_ix ix_list (pv 7) pe_int (fun _ _ => rfl)) rfl))))
            pss_nil))))))
      (pss_one (ps_ret pe_bl))))), ?_⟩
    have nn := enames_nd (eds ts)
    have n12 := W.nam
    have tl : (eds ts).length = ts.length := List.length_map _
    refine ⟨.ref c, rfl, .ref c, .ty "list", .type "list", .type "list", true, rfl, .ty _, .base (.lst hc), kit_ty (by decide +kernel), true, rfl, iteF ?_⟩
    intro D nD
    refine ⟨.ref l, rfl, l, rfl, ⟨_, sl_map (el.same (same_new nD)).lst⟩, for_list (xs := ts.map fun t => V.ref t.1) (fun i σ H' => ∃ (y4 y5 : Option V) (A : Asg), σ = [some (.ref l), some (.ref b), some (.ref c), some (.ref D), y4, y5, none, none, none] ∧ Same H H' ∧ H' D = some (.dK (intK A)) ∧ VF A (enames ((eds ts).take i)) (hd0 S))
      ⟨none, none, [], rfl, same_new nD, upd_same, rfl, (fun _ h => nomatch h)⟩ (fun i σ H' _ h => by obtain ⟨_, _, _, _, s, _⟩ := h; exact sl_map (el.same s).lst) ?_ ?_⟩
    · rintro i x σ H1 hx ⟨y4, y5, A, rfl, s1, eD, vf⟩
      rw [List.getElem?_map] at hx
      obtain ⟨t, ht, rfl⟩ := Option.map_eq_some_iff.mp hx
      obtain ⟨g, g0, g2, gs⟩ := enames_two (eds_at ht)
      rw [← g0] at vf
      refine ⟨2, rfl, by decide, by decide, for_range (lo := 0) (n := 2) (fun j σ H' => ∃ (y5 : Option V) (A : Asg), σ = [some (.ref l), some (.ref b), some (.ref c), some (.ref D), some (.ref t.1), y5, none, none, none] ∧ Same H H' ∧ H' D = some (.dK (intK A)) ∧ VF A (g j) (hd0 S))
        ⟨_, A, rfl, s1, eD, vf⟩ ?_ ?_⟩
      · rintro j σ H2 hj ⟨y5, A, rfl, s2, eD, vf⟩
        have et := (el.same s2).tup t (List.mem_of_getElem? ht)
        obtain ⟨z, hz, gz, zm, gl⟩ := gs j hj
        rw [eds_len] at gl
        obtain ⟨a, ga, ea⟩ := Fit.get (B1.same' s2) F1 zm
        have h0 : (S z)[0]? = some (hd0 S z) := by
          have := W.ne z zm
          unfold hd0
          cases c : S z with
          | nil => exact absurd c this
          | cons y s => rfl
        have lv := vf.few
        refine ⟨_, rfl, _, rfl, _, rfl, t.1, _, _, .str z, rfl, rfl, .inl (.inl et), at_eq (by omega) hz, b, .ref a, rfl, ga, a, _, _, .int (hd0 S z), rfl, rfl, sl_map ea, atI_nat (j := 0) (by rw [List.getElem?_map, h0] <;> rfl), _, rfl, _, rfl, _, rfl, t.1, _, _, .str z, rfl, rfl, .inl (.inl et), at_eq (by omega) hz, D, _, rfl, DPut.k (k := .inr z) eD (by rw [intK_len, lv]; exact small1000 (by omega)), ?_⟩
        rw [putK_int]
        exact ⟨_, _, rfl, same_at s2 nD, upd_same, by rw [gz]; exact vf.add⟩
      · rintro σ H2 ⟨y5, A, rfl, s2, eD, vf⟩
        rw [g2] at vf
        exact ⟨_, _, A, rfl, s2, eD, vf⟩
    rintro σ H1 ⟨y4, y5, A, rfl, s1, eD, vf⟩
    rw [List.length_map, ← tl, List.take_length] at vf
    refine ⟨_, rfl, c, _, rfl, .inl (sl_map (s1 _ _ hc)), _, rfl, by omega, by rw [List.length_map]; omega, for_range (lo := 0) (n := (cs.map V.int).length) (fun j σ H' => ∃ (y4 y5 y6 y7 : Option V) (A : Asg) (g : Str → Int), σ = [some (.ref l), some (.ref b), some (.ref c), some (.ref D), y4, y5, y6, y7, none] ∧ Same H H' ∧ H' D = some (.dK (intK A)) ∧ VF A (enames (eds ts)) g ∧ (∀ x ∈ enames (eds ts), g x ∈ S x) ∧ brkW (eds ts) S (hd0 S) cs = brkW (eds ts) S g (cs.drop j))
      ⟨_, _, none, none, A, hd0 S, rfl, s1, eD, vf, (Low.start W).inS, by rw [List.drop_zero]⟩ ?_ ?_⟩
    · clear eD vf A y4 y5 s1 H1
      rintro j σ H1 hj ⟨y4, y5, y6, y7, A, g, rfl, s1, eD, vf, inS, eq⟩
      rw [List.length_map] at hj
      obtain ⟨k, hk⟩ : ∃ k, cs[j]? = some k := ⟨_, List.getElem?_eq_getElem hj⟩
      rw [drop_at hk] at eq
      have hk2 : (cs.map V.int)[j]? = some (.int k) := by rw [List.getElem?_map, hk] <;> rfl
      have hc1 := s1 _ _ hc
      have el1 := el.same s1
      refine ⟨_, rfl, _, rfl, c, _, _, .int k, rfl, rfl, sl_map hc1, at_eq (by omega) hk2, _, rfl, true, rfl, iteF ?_⟩
      refine ⟨_, rfl, _, rfl, c, _, _, .int k, rfl, rfl, sl_map hc1, at_eq (by omega) hk2, _, _, rfl, rfl, _, rfl, ite_both (fun c1 => ?_) fun c1 => ?_⟩
      · have h1 := of_decide_eq_true c1
        have := q _ s1
        rw [eq, brkW_out (.inl h1)] at this
        exact this
      refine ⟨_, rfl, _, rfl, c, _, _, .int k, rfl, rfl, sl_map hc1, at_eq (by omega) hk2, _, rfl, l, _, rfl, .inl (sl_map el1.lst), _, _, rfl, rfl, _, rfl, ite_both (fun c2 => ?_) fun c2 => ?_⟩
      · have h2 := of_decide_eq_true c2
        have := q _ s1
        rw [List.length_map, ← eds_len] at h2
        rw [eq, brkW_out (.inr h2)] at this
        exact this
      have h1 := of_decide_eq_false c1
      have h2 := of_decide_eq_false c2
      rw [List.length_map, ← eds_len] at h2
      obtain ⟨i, hi⟩ : ∃ i : Nat, k = (i : Int) := ⟨k.toNat, by omega⟩
      have il : i < (eds ts).length := by omega
      have il2 : i < ts.length := by rw [← eds_len]; exact il
      obtain ⟨u, hu1⟩ : ∃ u, ts[i]? = some u := ⟨_, List.getElem?_eq_getElem il2⟩
      have te := eg_of (eds_at hu1)
      have et := el1.tup u (List.mem_of_getElem? hu1)
      obtain ⟨u1, u2⟩ := ends (List.mem_of_getElem? (eds_at hu1))
      have lat : (ts.map fun t => V.ref t.1)[i]? = some (.ref u.1) := by rw [List.getElem?_map, hu1] <;> rfl
      have sm := step_max (es := eds ts) (W.srt _ u2) (inS _ u2) (due g u.2)
      have lv := vf.few
      have d1 : (cs.drop (j + 1)).length = cs.length - (j + 1) := List.length_drop
      refine ⟨_, rfl, _, rfl, _, rfl, c, _, _, .int k, rfl, rfl, sl_map hc1, at_eq (by omega) hk2, l, _, _, .ref u.1, rfl, rfl, sl_map el1.lst, at_eq hi lat, ?_⟩
      refine ⟨_, rfl, _, rfl, u.1, _, _, .str u.2.1, rfl, rfl, .inl (.inl et), atI_nat (j := 0) rfl, D, .int (g u.2.1), rfl, dgetI eD (vf.val _ u1), _, rfl, u.1, _, _, .int u.2.2.2, rfl, rfl, .inl (.inl et), atI_nat (j := 2) rfl, _, _, rfl, rfl, ?_⟩
      refine ⟨_, rfl, _, rfl, u.1, _, _, .str u.2.2.1, rfl, rfl, .inl (.inl et), atI_nat (j := 1) rfl, D, .int (g u.2.2.1), rfl, dgetI eD (vf.val _ u2), _, rfl, _, _, rfl, rfl, _, rfl, ite_both (fun c3 => ?_) fun c3 => ?_⟩
      rotate_left
      · have h3 : ¬ g u.2.2.1 < due g u.2 := of_decide_eq_false c3
        rw [if_neg h3] at sm
        refine ⟨_, _, _, _, A, g, rfl, s1, eD, vf, inS, ?_⟩
        rw [eq, brkW_some hi il (by rw [te]; exact sm), te]
        refine brkW_congr _ fun x hx => ?_
        unfold K56.put
        split
        · next z => rw [z]
        · rfl
      have h3 : g u.2.2.1 < due g u.2 := of_decide_eq_true c3
      rw [if_pos h3] at sm
      obtain ⟨a, ga, ea⟩ := Fit.get (B1.same' s1) F1 u2
      have l16 := W.few _ u2
      refine ⟨_, rfl, _, rfl, u.1, _, _, .str u.2.2.1, rfl, rfl, .inl (.inl et), atI_nat (j := 1) rfl, b, .ref a, rfl, ga, a, rfl, ⟨_, sl_map ea⟩, fun Z nZ => lc_list (xs := (S u.2.2.1).map V.int) (fun t H' => Same H1 H' ∧ H' Z = some (.lst ((((S u.2.2.1).take t).filter fun w => decide (due g u.2 ≤ w)).map V.int))) ⟨same_new nZ, upd_same⟩ (fun t H' _ h => sl_map (h.1 _ _ ea)) ?_ ?_⟩
      · rintro t x0 H2 hx0 ⟨s2, eZ⟩
        rw [List.getElem?_map] at hx0
        obtain ⟨v, hv, rfl⟩ := Option.map_eq_some_iff.mp hx0
        have fs := filter_snocI (d := due g u.2) hv
        have fl := filter_len (S u.2.2.1) (fun w => decide (due g u.2 ≤ w)) t
        refine ⟨rfl, _, rfl, _, rfl, _, _, rfl, rfl, _, rfl, ite_both (fun c => ?_) fun c => ?_⟩
        · have ge : due g u.2 ≤ v := of_decide_eq_true c
          refine ⟨_, rfl, _, eZ, by rw [List.length_map]; exact small1000 (by omega), same_at s2 nZ, ?_⟩
          rw [upd_same, fs, if_pos ge, List.map_append] <;> rfl
        · have lt : ¬ due g u.2 ≤ v := of_decide_eq_false c
          refine ⟨s2, ?_⟩
          rw [fs, if_neg lt, List.append_nil]
          exact eZ
      rintro H2 ⟨s2, eZ⟩
      rw [List.length_map, List.take_length] at eZ
      have S2 := s1.trans s2
      have hd := fil_hd (S u.2.2.1) (due g u.2)
      cases hn : nxv (S u.2.2.1) (due g u.2) with
      | none =>
        have l0 := fil_nil.mpr hn
        refine ⟨_, rfl, Z, _, rfl, .inl (sl_map eZ), rfl, _, rfl, ite_both (fun _ => ?_) fun c => absurd (by rw [List.length_map, l0] <;> rfl) (of_decide_eq_false c)⟩
        refine ⟨_, rfl, _, rfl, c, _, rfl, .inl (sl_map (S2 _ _ hc)), _, _, rfl, rfl, rfl, ?_⟩
        have := q _ S2
        rw [eq, brkW_none hi il (by rw [te]; exact sm.trans hn)] at this
        have e : decide (V.int (0 + (j : Int)) = V.int ((((cs.map V.int).length : Nat) : Int) - 1)) = (cs.drop (j + 1)).isEmpty := by
          rw [Bool.eq_iff_iff, decide_eq_true_iff, List.isEmpty_iff, ← List.length_eq_zero_iff, d1, List.length_map]
          constructor
          · intro z; have := V.int.inj z; omega
          · intro z; rw [show (0 : Int) + (j : Int) = (cs.length : Int) - 1 by omega] <;> rfl
        rw [e]
        exact this
      | some w =>
        rw [hn] at hd sm
        have hm := (nxv_some (W.srt _ u2) hn).1
        have l0 : ((S u.2.2.1).filter fun w => decide (due g u.2 ≤ w)).length ≠ 0 := fun z => by rw [fil_nil.mp z] at hn; cases hn
        refine ⟨_, rfl, Z, _, rfl, .inl (sl_map eZ), rfl, _, rfl, ite_both (fun c => absurd (V.int.inj (of_decide_eq_true c)) (by rw [List.length_map]; omega)) fun _ => ?_⟩
        refine ⟨_, rfl, Z, _, _, .int w, rfl, rfl, sl_map eZ, atI_nat (j := 0) (by rw [List.getElem?_map, hd] <;> rfl), ?_⟩
        refine ⟨_, rfl, _, rfl, u.1, _, _, .str u.2.2.1, rfl, rfl, .inl (.inl (s2 _ _ et)), atI_nat (j := 1) rfl, D, _, rfl, DPut.k (k := .inr u.2.2.1) (s2 _ _ eD) (by rw [intK_len, lv]; exact small1000 (by omega)), ?_⟩
        rw [putK_int]
        refine ⟨_, _, _, _, putA A u.2.2.1 w, K56.put g u.2.2.1 w, rfl, same_at S2 nD, upd_same, vf.put u2, fun x hx => ?_, ?_⟩
        · unfold K56.put
          split
          · next z => rw [z]; exact hm
          · exact inS x hx
        · rw [eq, brkW_some hi il (by rw [te]; exact sm), te]
    rintro σ H1 ⟨y4, y5, y6, y7, A, g, rfl, s1, eD, vf, inS, eq⟩
    rw [List.length_map, List.drop_length] at eq
    have := q _ s1
    rw [eq] at this
    exact this
end
end K56
set_option Elab.async false
set_option linter.all false
set_option maxRecDepth 100000
set_option maxHeartbeats 4000000
namespace K56
open PySem PySem.Spec PyProof.Rows L2 Cs CsX
/-- the climb that is told -/
def Clim (es : List Edg) (S : Str → List Int) (c : List Int) : Prop :=
  (∃ x, fe S (enames es) = some x ∧ c = []) ∨ (fe S (enames es) = none ∧ (∃ f, Lst es S f) ∧ c = []) ∨ (fe S (enames es) = none ∧ ∃ st, Run es S (enames es, []) (.inl st) ∧ Broken es S st ∧ (∀ a, ¬ Alw es S a) ∧ c = zis st)
theorem Clim.one {es : List Edg} {S : Str → List Int} {c c' : List Int} (a : Clim es S c) (b : Clim es S c') : c = c' := by
  rcases a with ⟨x, a1, a2⟩ | ⟨a1, ⟨f, af⟩, a2⟩ | ⟨a1, st, a2, a3, a4, a5⟩ <;> rcases b with ⟨y, b1, b2⟩ | ⟨b1, ⟨g, bf⟩, b2⟩ | ⟨b1, st', b2, b3, b4, b5⟩
  · rw [a2, b2]
  · rw [a1] at b1; cases b1
  · rw [a1] at b1; cases b1
  · rw [a1] at b1; cases b1
  · rw [a2, b2]
  · exact absurd af.1 (b4 f)
  · rw [a1] at b1; cases b1
  · exact absurd bf.1 (a4 g)
  · have := Run.one a2 b2
    rw [a5, b5, Sum.inl.inj this]
theorem Clim.few {es : List Edg} {S : Str → List Int} {c : List Int} (a : Clim es S c) : c.length ≤ 181 := by
  rcases a with ⟨x, a1, rfl⟩ | ⟨a1, ⟨f, af⟩, rfl⟩ | ⟨a1, st, a2, ⟨t, i, rfl, ht, _⟩, a4, rfl⟩
  · exact Nat.zero_le _
  · exact Nat.zero_le _
  · rw [List.length_map, List.length_append, List.length_singleton]; omega
theorem natV_zis (st : List Nat) : natV st = (zis st).map V.int := rfl
theorem sameA_of {A B : Asg} {ns ms : List Str} {f : Str → Int} (a : VF A ns f) (b : VF B ms f) (e : ∀ x, x ∈ ns ↔ x ∈ ms) : SameA A B := fun x => by
  by_cases c : x ∈ ns
  · rw [a.val x c, b.val x ((e x).mp c)]
  · have h1 : aget A x = none := by
      cases h : aget A x with
      | none => rfl
      | some v => exact absurd (by rw [← a.keys, ← aget_mem, h] <;> rfl) c
    have h2 : aget B x = none := by
      cases h : aget B x with
      | none => rfl
      | some v => exact absurd ((e x).mpr (by rw [← b.keys, ← aget_mem, h] <;> rfl)) c
    rw [h1, h2]
theorem VF.vd {H : Hp} {d : Addr} {A : Asg} {ns : List Str} {f : Str → Int} (v : VF A ns f) (h : H d = some (.dK (intK A))) (nd : ns.Nodup) (few : ns.length ≤ 40) : Vd H d A := ⟨h, by rw [v.keys]; exact nd, by rw [v.few]; exact few⟩
theorem fe_alw {es : List Edg} {S : Str → List Int} {x : Str} (h : fe S (enames es) = some x) (a : Str → Int) : ¬ Alw es S a := by
  obtain ⟨h1, h2⟩ := fe_some h
  exact alw_empty h1 h2 a
section
variable {P : Program} {w : World} {K : PySem.W.Frag} {mg : Str → Option Value} {base : Heap}
abbrev sSv : Stmt := topS 34
abbrev nSv : List Str := ["_law_actual", "_law_expected", "_law_found", "_law_name"]
theorem scSv : FnScope nSv ["_law_actual", "_law_expected"] (defScope sSv) := ⟨rfl, rfl, rfl, by decide +kernel, rfl, by decide +kernel, by decide +kernel⟩
def spSV : Sp := fun vs H Q _ => ∃ (a e : Addr) (M X : List (Str × Int)), vs = [.ref a, .ref e] ∧ Vd H a M ∧ Vd H e X ∧ SameA M X ∧ a ≠ e ∧ ∀ H', Same H H' → Q (.bl true) H'
theorem ok_Sv {f f0 : Addr} {fd fd0 : FuncData} (F : Fun K "_law_same_values" "_law_same_values" sSv f fd) (B : Bt mg) (Cii : Call P w K mg base 1 "_law_is_integer" f0 fd0 ["_law_actual"] spIsInt) :
    FnOk P w K mg base CX0 2 f fd ["_law_actual", "_law_expected"] spSV := by
  refine F.ok scSv (fun vs H Q E h => ?_) (fun cdv A outer s H vs Q E hr h => ?_)
  · obtain ⟨a, e, M, E, rfl, _⟩ := h
    rfl
  · obtain ⟨a, e, M, X, rfl, bm, be, same, nae, q⟩ := h
    have hu := hu_of hr
    have nd := scSv.nd
    refine ⟨_, pss_cons (ps_if (PW.pt (pw_or (pt_not (pt_val (pe_callB call_isi (by rfl) B.isi PyProof.Rows.boot_isinstance (pa_cons (pv 0) (pa_cons (pe_bltn (by rfl) B.dict PyProof.Rows.boot_dict (v := .ty "dict") rfl) pa_nil)))))
        (pw_or1 (pt_cmpR op_ne (pe_callB call_lenD (by rfl) B.len PySem.boot_len (pa_cons (pv 0) pa_nil)) (pe_callB call_lenD (by rfl) B.len PySem.boot_len (pa_cons (pv 1) pa_nil)) rfl)))) (pss_one (ps_ret pe_bl)) pss_nil)
      (pss_cons (ps_lock (ps_setLc (i := 2) (own := [("_law_name", 3)]) (g := gName 3) (te := tVar 3) rfl nd rfl rfl (by rfl) (pi_keys (pv 1)) (blkOk_by (N := nSv) (sc := defScope sSv) (by decide +kernel)) (fun _ _ _ _ _ => pg_name (i := 3) nd rfl (Or.inl rfl))
          (fun _ _ _ _ _ => pts_one (PW.pt (pw_and (pt_cmp (pc_din hu (pv 3) (pv 0))) (pw_and1 (pt_val (pe_call Cii.ok (hr.mono (by decide)) (by rfl) Cii.at_ Cii.kp Cii.bd .nil pass0 (pa_cons (pe_dget hu (pv 0) (pv 3) (fun _ _ => rfl)) pa_nil))))))) (fun _ _ _ _ _ => pv 3)))
      (pss_one (ps_ret (pe_and (pe_cmpR op_eq (pe_callB call_len_seq (by rfl) B.len PySem.boot_len (pa_cons (pv 2) pa_nil)) (pe_callB call_lenD (by rfl) B.len PySem.boot_len (pa_cons (pv 1) pa_nil)) rfl)
        (pe_one (pe_callB (cr_all rfl) (by rfl) B.all PyProof.Rows.boot_all (pa_cons
          (pe_lc (own := [("_law_name", 3)]) (g := gName 3) (tt := tYes) (te := tOp rEq (tDGet (tVar 0) (tVar 3)) (tDGet (tVar 1) (tVar 3))) rfl nd (pi_list (pv 2)) (blkOk_by (N := nSv) (sc := defScope sSv) (by decide +kernel)) (fun _ _ _ _ _ => pg_name (i := 3) nd rfl (Or.inl rfl)) (fun _ _ _ _ _ => pts_nil)
            (fun _ _ _ _ _ => pe_cmpR (r := rEq) op_eq (pe_dget hu (pv 0) (pv 3) (fun _ _ => rfl)) (pe_dget hu (pv 1) (pv 3) (fun _ _ => rfl)) rfl)) pa_nil))))))), ?_⟩
    have lens : M.length = X.length := same.len bm.nd be.nd
    refine ⟨.ref a, rfl, .ref a, .ty "dict", .type "dict", .type "dict", true, rfl, .ty _, .base (.dK bm.un), kit_ty (by decide +kernel), true, rfl, iteF ?_⟩
    refine ⟨.ref a, rfl, a, _, rfl, bm.un, .ref e, rfl, e, _, rfl, be.un, rfl, ?_⟩
    rw [intK_len, intK_len, lens, decide_eq_true rfl]
    refine ⟨false, rfl, iteF ?_⟩
    refine ⟨e, _, be.un, trivial, fun od => ?_⟩
    have ax0 : (upd H e (.frz od (.dK (intK X)))) a = some (.dK (intK M)) := by rw [upd_ne nae]; exact bm.un
    refine ⟨.ref e, rfl, e, od, rfl, .inl ⟨intK X, upd_same, fun D nD => lc_it walk_keys (fun i H' => Same (upd H e (.frz od (.dK (intK X)))) H' ∧ H' D = some (.lst (((X.take i).map (·.1)).map V.str))) ⟨same_new nD, upd_same⟩ (fun i H' _ h => h.1 _ _ upd_same) ?_ ?_⟩⟩
    · rintro i x Hz H' hi ⟨sm, eD⟩ ⟨rfl, k1, v1, hk, rfl⟩
      obtain ⟨x, hx, rfl, rfl⟩ := keysI hk
      have xm := List.mem_of_getElem? hx
      have gx := (aget_iff be.nd x.1 x.2).mpr xm
      have gv := (Ax.get (H := H') (d := a) (A := M) ⟨.inl (sm _ _ ax0)⟩ x.1)
      rw [same x.1, gx] at gv
      refine ⟨rfl, .str x.1, rfl, .ref a, rfl, a, _, rfl, gv, true, rfl, iteT ?_⟩
      refine ⟨.ref a, rfl, .str x.1, rfl, a, .int x.2, rfl, gv, x.2, rfl, true, rfl, iteT ⟨.str x.1, rfl, _, eD, ?_, same_at sm nD, ?_⟩⟩
      · rw [List.length_map, List.length_map, List.length_take]
        have := be.few
        exact small1000 (by omega)
      · rw [upd_same, List.take_add_one, hx, List.map_append, List.map_append]
        rfl
    · rintro H' ⟨sm, eD⟩
      rw [intK_len, List.take_length] at eD
      have eF := sm _ _ (upd_same (H := H) (a := e) (o := HO.frz od (.dK (intK X))))
      have nDe : D ≠ e := fun z => by rw [z, eF] at eD; cases eD
      refine ⟨eF, ?_⟩
      have s2 : Same H (upd H' e (.dK (intK X))) := unlock be.un sm
      have eD2 : (upd H' e (.dK (intK X))) D = some (.lst ((X.map (·.1)).map V.str)) := by rw [upd_ne nDe]; exact eD
      generalize upd H' e (.dK (intK X)) = H2 at s2 eD2 ⊢
      clear sm eD eF H'
      refine ⟨.ref D, rfl, D, _, rfl, .inl (sl_map eD2), .ref e, rfl, e, _, rfl, s2 _ _ be.un, rfl, ?_⟩
      rw [intK_len, List.length_map, List.length_map, decide_eq_true rfl]
      refine ⟨true, rfl, iteT ?_⟩
      refine ⟨.ref D, rfl, D, rfl, ⟨_, sl_map eD2⟩, fun R nR => lc_list (xs := (X.map (·.1)).map V.str) (fun i H' => Same H2 H' ∧ H' R = some (.lst ((List.replicate i true).map V.bl))) ⟨same_new nR, upd_same⟩ (fun i H' _ h => h.1.seq (sl_map eD2)) ?_ ?_⟩
      · rintro i z H' hz ⟨sm, hd⟩
        rw [List.getElem?_map, List.getElem?_map] at hz
        obtain ⟨v, hv, rfl⟩ := Option.map_eq_some_iff.mp hz
        obtain ⟨x, hx, rfl⟩ := Option.map_eq_some_iff.mp hv
        have xm := List.mem_of_getElem? hx
        have gx := (aget_iff be.nd x.1 x.2).mpr xm
        have s3 := s2.trans sm
        have gv := (bm.same s3).ax.get x.1
        rw [same x.1, gx] at gv
        have ev := (be.same s3).ax.get x.1
        rw [gx] at ev
        have few := be.few
        have hi := (List.getElem?_eq_some_iff.mp hx).1
        refine ⟨rfl, .ref a, rfl, .str x.1, rfl, a, .int x.2, rfl, gv, .ref e, rfl, .str x.1, rfl, e, .int x.2, rfl, ev, rfl, ?_⟩
        rw [decide_eq_true rfl]
        refine ⟨_, hd, ?_, same_at sm nR, ?_⟩
        · rw [List.length_map, List.length_replicate]
          exact small1000 (by omega)
        · rw [upd_same, List.replicate_succ', List.map_append]
          rfl
      · rintro H' ⟨sm, hd⟩
        refine ⟨R, _, rfl, sl_map hd, ?_⟩
        rw [all_repl]
        exact q _ (s2.trans sm)
abbrev sAsk : Stmt := topS 41
abbrev nAsk : List Str := ["_law_rule", "_law_data", "_law_sides_here", "_law_lent", "_law_found", "_law_told", "_law_allowed_here", "_law_empty", "_law_steps", "_law_climb"]
theorem scAsk : FnScope nAsk ["_law_rule", "_law_data", "_law_sides_here", "_law_lent"] (defScope sAsk) := ⟨rfl, rfl, rfl, by decide +kernel, rfl, by decide +kernel, by decide +kernel⟩
def spAsk (C : Addr) : Sp := fun vs H Q _ => ∃ (p T b d : Addr) (es : List Edg) (L M : List Ent) (S : Str → List Int) (m : Nat), vs = [.ref p, .ref T, .ref b, .ref d] ∧ Rg C H p es ∧ Dt H T es ∧ es.length ≤ 400 ∧ Bu H b L ∧ Fit L (enames es) S ∧ Bu H d M ∧ SameB M L ∧ Wd0 es S ∧ 1 ≤ m ∧ (∀ x ∈ enames es, (S x).length ≤ m) ∧ m ^ (enames es).length ≤ 1000 ∧ (∀ g ∈ M, Srt g.2.2 ∧ g.2.2.length ≤ 100) ∧
  ∀ (H' : Hp) (l : Addr) (c : List Int), Same H H' → H l = none → H' l = some (.lst (c.map V.int)) → Clim es S c → Q (.ref l) H'
theorem ok_Ask {f f0 f1 f2 f3 f4 f5 f6 C : Addr} {fd fd0 fd1 fd2 fd3 fd4 fd5 fd6 : FuncData} (F : Fun K "_law_asked" "_law_asked" sAsk f fd) (B : Bt mg) (ztuple : mg "tuple" = none) (zstr : mg "str" = none) (T : Kls K mg "Ring" C rF)
    (CAld : Call P w K mg base 2 "_law_allowed" f0 fd0 ["_law_data", "_law_sides_here"] spAld) (CSv : Call P w K mg base 2 "_law_same_values" f1 fd1 ["_law_actual", "_law_expected"] spSV)
    (Csa : Call P w K mg base 3 "_law_same_sides" f2 fd2 ["_law_actual", "_law_expected"] spSame) (Wi : CallM P w K mg base 5 C "witness" f3 fd3 ["self", "box"] (spWit C)) (Ce : CallM P w K mg base 5 C "certificate" f4 fd4 ["self", "box"] (spCer C))
    (CLfe : Call P w K mg base 1 "_law_first_empty" f5 fd5 ["_law_names_here", "_law_sides_here"] spLfe) (CLbk : Call P w K mg base 2 "_law_breaks" f6 fd6 ["_law_edges", "_law_sides_here", "_law_climb"] spLbk) :
    FnOk P w K mg base CX0 6 f fd ["_law_rule", "_law_data", "_law_sides_here", "_law_lent"] (spAsk C) := by
  refine F.ok scAsk (fun vs H Q E h => ?_) (fun cdv A outer s H vs Q E hr h => ?_)
  · obtain ⟨p, T, b, d, es, L, M, S, m, rfl, _⟩ := h
    rfl
  · obtain ⟨p, T0, b, d, es, L, M, S, m, rfl, rg, dt, few, bb, F1, bd, same, W0, m1, lm, m1000, ok, q⟩ := h
    have hu := hu_of hr
    have nd := scAsk.nd
    refine ⟨_, pss_cons (ps_set (i := 4) nd rfl (.inl rfl) (pe_meth (pv 0) T.cl Wi.mt Wi.ok (hr.mono (by decide)) Wi.bd .nil pass0 (pa_cons (pv 3) pa_nil)))
      (pss_cons (ps_set (i := 5) nd rfl (.inl rfl) (pe_meth (pv 0) T.cl Ce.mt Ce.ok (hr.mono (by decide)) Ce.bd .nil pass0 (pa_cons (pv 3) pa_nil)))
      (pss_cons (ps_set (i := 6) nd rfl (.inl rfl) (pe_call CAld.ok (hr.mono (by decide)) (by rfl) CAld.at_ CAld.kp CAld.bd .nil pass0 (pa_cons (pv 1) (pa_cons (pv 2) pa_nil))))
      (pss_cons (ps_if (pt_not (pt_val (pe_call Csa.ok (hr.mono (by decide)) (by rfl) Csa.at_ Csa.kp Csa.bd .nil pass0 (pa_cons (pv 3) (pa_cons (pv 2) pa_nil)))))
        (pss_one (ps_ret pe_non))
        pss_nil)
      (pss_cons (ps_if (pt_cmpR op_gt (pe_callB call_len_seq (by rfl) B.len PySem.boot_len (pa_cons (pv 6) pa_nil)) pe_int rfl)
        (pss_cons (ps_if (PW.pt (pw_and (pt_cmp (pc_isN (pv 5))) (pw_and1 (pt_val (pe_call CSv.ok (hr.mono (by decide)) (by rfl) CSv.at_ CSv.kp CSv.bd .nil pass0 (pa_cons (pv 4) (pa_cons (pe_ix ix_list (pv 6) pe_int (fun _ _ => rfl)) pa_nil)))))))
            (pss_one (ps_ret (pe_lst pa_nil)))
            pss_nil)
          (pss_one (ps_ret pe_non)))
        pss_nil)
      (pss_cons (ps_if (PW.pt (pw_or (pt_cmp (pc_notN (pv 4))) (pw_or (pt_not (pt_val (pe_callB call_isi (by rfl) B.isi PyProof.Rows.boot_isinstance (pa_cons (pv 5) (pa_cons (pe_bltn (by rfl) ztuple PyProof.Rows.boot_tuple (v := .ty "tuple") rfl) pa_nil))))) (pw_or (pt_cmpR op_ne (pe_callB call_len_seq (by rfl) B.len PySem.boot_len (pa_cons (pv 5) pa_nil)) pe_int rfl) (pw_or1 (pt_not (pt_val (pe_callB call_isi (by rfl) B.isi PyProof.Rows.boot_isinstance (pa_cons (pe_ix ix_tup (pv 5) pe_int (fun _ _ => rfl)) (pa_cons (pe_bltn (by rfl) zstr PyProof.Rows.boot_str (v := .ty "str") rfl) pa_nil))))))))))
        (pss_one (ps_ret pe_non))
        pss_nil)
      (pss_cons (ps_set (i := 7) nd rfl (.inl rfl) (pe_call CLfe.ok (hr.mono (by decide)) (by rfl) CLfe.at_ CLfe.kp CLfe.bd .nil pass0 (pa_cons (pe_ix ix_tup (pv 1) pe_int (fun _ _ => rfl)) (pa_cons (pv 2) pa_nil))))
      (pss_cons (ps_if (pt_cmp (pc_notN (pv 7)))
        (pss_cons (ps_if (PW.pt (pw_and (pt_cmpR op_eq (pe_ix ix_tup (pv 5) pe_int (fun _ _ => rfl)) pe_str rfl) (pw_and (pt_val (pe_callB call_isi (by rfl) B.isi PyProof.Rows.boot_isinstance (pa_cons (pe_ix ix_tup (pv 5) pe_int (fun _ _ => rfl)) (pa_cons (pe_bltn (by rfl) zstr PyProof.Rows.boot_str (v := .ty "str") rfl) pa_nil)))) (pw_and1 (pt_cmpR op_eq (pe_ix ix_tup (pv 5) pe_int (fun _ _ => rfl)) (pv 7) rfl)))))
            (pss_one (ps_ret (pe_lst pa_nil)))
            pss_nil)
          (pss_one (ps_ret pe_non)))
        pss_nil)
      (pss_cons (ps_if (PW.pt (pw_or (pt_cmpR op_ne (pe_ix ix_tup (pv 5) pe_int (fun _ _ => rfl)) pe_str rfl) (pw_or1 (pt_not (pt_val (pe_call CLbk.ok (hr.mono (by decide)) (by rfl) CLbk.at_ CLbk.kp CLbk.bd .nil pass0 (pa_cons (pe_ix ix_tup (pv 1) pe_int (fun _ _ => rfl)) (pa_cons (pv 2) (pa_cons (pe_ix ix_tup (pv 5) pe_int (fun _ _ => rfl)) pa_nil)))))))))
        (pss_one (ps_ret pe_non))
        pss_nil)
      (pss_cons (ps_set (i := 8) nd rfl (.inl rfl) (pe_ix ix_tup (pv 5) pe_int (fun _ _ => rfl)))
      (pss_cons (ps_set (i := 9) nd rfl (.inl rfl) (pe_callTy call_list_of (by rfl) B.list PyProof.Rows.boot_list (pa_cons (pv 8) pa_nil)))
      (pss_cons (ps_expr (pe_bm0 PySem.F.plainAttrs_list PySem.F.slot_list_clear PySem.F.type_list_clear mt_clear (pv 8)))
      (pss_one (ps_ret (pv 9)))))))))))))), ?_⟩
    have FM : Fit M (enames es) S := fun x hx => (same x).trans (F1 x hx)
    have n12 := W0.nam
    have nn := enames_nd es
    obtain ⟨dx, t0, e0', ts0, hp, _⟩ := id rg
    refine ⟨_, rfl, p, dx, _, rfl, hp, wit_no (by decide +kernel) (by decide +kernel) _ _, ?_⟩
    refine ⟨_, rfl, p, d, es, M, S, rfl, rg, few, bd, FM, W0, fun H1 v4 s1 wt => ?_⟩
    refine ⟨_, rfl, p, dx, _, rfl, s1 _ _ hp, wit_no (by decide +kernel) (by decide +kernel) _ _, ?_⟩
    refine ⟨_, rfl, p, d, es, M, S, rfl, rg.same s1, few, bd.same' s1, FM, W0, fun H2 v5 s2 ct => ?_⟩
    have S2 := s1.trans s2
    refine ⟨_, rfl, _, rfl, T0, b, es, L, S, m, rfl, dt.same S2, few, n12, bb.same' S2, F1, W0.srt, m1, lm, m1000, fun H3 l ds s3 el sol ld => ?_⟩
    have S3 := S2.trans s3
    refine ⟨_, rfl, _, rfl, d, b, M, L, rfl, bd.same' S3, bb.same' S3, same, fun g hg => ⟨(ok g hg).1, by have := (ok g hg).2; omega⟩, fun H4 s4 => ⟨true, rfl, iteF ?_⟩⟩
    have S4 := S3.trans s4
    have el4 := s4 _ _ el
    have s24 := s3.trans s4
    refine ⟨_, rfl, l, _, rfl, .inl (sl_map el4), _, _, rfl, rfl, _, rfl, ite_both (fun c => ?_) fun c => ?_⟩
    · -- there are solutions
      obtain ⟨d0, rest0, hd0⟩ : ∃ d0 rest0, ds = d0 :: rest0 := by
        cases h : ds with
        | nil => rw [h] at c; exact absurd (of_decide_eq_true c) (by decide)
        | cons a b => exact ⟨a, b, rfl⟩
      have d0m : d0 ∈ ds := by rw [hd0]; exact List.mem_cons_self
      have a0 := (sol.sound d0 d0m).2
      cases ct with
      | empty Tp x n nT eT => exact absurd a0 (fe_alw n _)
      | climb Tp r st n nT eT nr er run bk no => exact absurd a0 (no _)
      | none g n lstg =>
      cases wt with
      | none no => exact absurd a0 (no _)
      | least a A f na ea va lst =>
      refine ⟨_, rfl, true, rfl, iteT ?_⟩
      have v0 := sol.first d0 rest0 hd0 f lst
      have e04 := s4 _ _ (sol.at_ d0 d0m)
      have at0 : atI (ds.map fun p => V.ref p.1) (0 : Int) = some (.ref d0.1) := atI_nat (j := 0) (by rw [hd0] <;> rfl)
      refine ⟨_, rfl, _, rfl, l, _, _, .ref d0.1, rfl, rfl, sl_map el4, at0, a, d0.1, A, d0.2, rfl, va.vd ((s2.trans s24) _ _ ea) nn (by omega), v0.vd e04 nn (by omega), sameA_of va v0 fun _ => Iff.rfl, fun z => ?_, fun H5 s5 => ⟨true, rfl, iteT ?_⟩⟩
      · have := sol.fre d0 d0m
        rw [← z, s2 _ _ ea] at this; cases this
      refine ⟨by show 0 ≤ sizeLine; decide, fun Z nZ => ?_⟩
      have S5 := S4.trans s5
      exact q _ Z [] (S5.trans (same_new nZ)) (S5.free nZ) upd_same (.inr (.inl ⟨n, ⟨g, lstg⟩, rfl⟩))
    · have l0 : ds = [] := by
        have := of_decide_eq_false c
        rw [List.length_map] at this
        exact List.length_eq_zero_iff.mp (by omega)
      have none_ : ∀ a, ¬ Alw es S a := fun a ha => by
        obtain ⟨p, hp, _⟩ := sol.full a ha
        rw [l0] at hp; cases hp
      have e4 : v4 = .non := by
        cases wt with
        | none no => rfl
        | least d A f nd ed vf lst => exact absurd lst.1 (none_ f)
      subst e4
      obtain ⟨nm, l1, us, hT, enm, ed, e2⟩ := id dt
      cases ct with
      | none g n lstg => exact absurd lstg.1 (none_ g)
      | empty Tp x n nT eT =>
        have eT4 := s24 _ _ eT
        refine ⟨_, rfl, false, rfl, iteF ⟨_, rfl, .ref Tp, .ty "tuple", .type "tuple", .type "tuple", true, rfl, .ty _, .base (.tup eT4), kit_ty (by decide +kernel), true, rfl, iteF ⟨_, rfl, Tp, _, rfl, .inr (.inl (.inl eT4)), rfl, _, rfl, ite_both (fun c => absurd c (by simp)) fun _ => ?_⟩⟩⟩
        refine ⟨_, rfl, Tp, _, _, .str "empty", rfl, rfl, .inl (.inl eT4), atI_nat (j := 0) rfl, .str "empty", .ty "str", .type "str", .type "str", true, rfl, .ty _, .base (.str _), kit_ty (by decide +kernel), true, rfl, iteF ?_⟩
        refine ⟨_, rfl, T0, _, _, .ref nm, rfl, rfl, .inl (.inl (S4 _ _ hT)), atI_nat (j := 1) rfl, _, rfl, nm, b, enames es, L, S, rfl, S4 _ _ enm, bb.same' S4, F1, ?_⟩
        rw [n]
        refine ⟨_, rfl, _, rfl, iteT ?_⟩
        refine ⟨_, rfl, Tp, _, _, .str "empty", rfl, rfl, .inl (.inl eT4), atI_nat (j := 0) rfl, rfl, _, rfl, iteT ?_⟩
        refine ⟨_, rfl, Tp, _, _, .str x, rfl, rfl, .inl (.inl eT4), atI_nat (j := 1) rfl, .str x, .ty "str", .type "str", .type "str", true, rfl, .ty _, .base (.str _), kit_ty (by decide +kernel), true, rfl, iteT ?_⟩
        refine ⟨_, rfl, Tp, _, _, .str x, rfl, rfl, .inl (.inl eT4), atI_nat (j := 1) rfl, _, rfl, rfl, _, rfl, ite_both (fun _ => ?_) fun c => absurd rfl (of_decide_eq_false c)⟩
        refine ⟨by show 0 ≤ sizeLine; decide, fun Z nZ => ?_⟩
        exact q _ Z [] (S4.trans (same_new nZ)) (S4.free nZ) upd_same (.inl ⟨x, n, rfl⟩)
      | climb Tp r st n nT eT nr er run bk no =>
        have eT4 := s24 _ _ eT
        have er4 := s24 _ _ er
        rw [natV_zis] at er4
        have lc : (zis st).length ≤ 181 := Clim.few (.inr (.inr ⟨n, st, run, bk, no, rfl⟩))
        refine ⟨_, rfl, false, rfl, iteF ⟨_, rfl, .ref Tp, .ty "tuple", .type "tuple", .type "tuple", true, rfl, .ty _, .base (.tup eT4), kit_ty (by decide +kernel), true, rfl, iteF ⟨_, rfl, Tp, _, rfl, .inr (.inl (.inl eT4)), rfl, _, rfl, ite_both (fun c => absurd c (by simp)) fun _ => ?_⟩⟩⟩
        refine ⟨_, rfl, Tp, _, _, .str "climb", rfl, rfl, .inl (.inl eT4), atI_nat (j := 0) rfl, .str "climb", .ty "str", .type "str", .type "str", true, rfl, .ty _, .base (.str _), kit_ty (by decide +kernel), true, rfl, iteF ?_⟩
        refine ⟨_, rfl, T0, _, _, .ref nm, rfl, rfl, .inl (.inl (S4 _ _ hT)), atI_nat (j := 1) rfl, _, rfl, nm, b, enames es, L, S, rfl, S4 _ _ enm, bb.same' S4, F1, ?_⟩
        rw [n]
        refine ⟨_, rfl, _, rfl, iteF ?_⟩
        refine ⟨_, rfl, Tp, _, _, .str "climb", rfl, rfl, .inl (.inl eT4), atI_nat (j := 0) rfl, rfl, _, rfl, iteF ?_⟩
        have el4' := ed.same S4
        refine ⟨_, rfl, T0, _, _, .ref l1, rfl, rfl, .inl (.inl (S4 _ _ hT)), atI_nat (j := 2) rfl, _, rfl, _, rfl, Tp, _, _, .ref r, rfl, rfl, .inl (.inl eT4), atI_nat (j := 1) rfl, l1, b, r, us, L, S, zis st, rfl, el4', by rw [← eds_len, e2]; exact few, bb.same' S4, by rw [e2]; exact F1, by rw [e2]; exact ⟨W0.srt, fe_none.mp n, W0.few, W0.nam⟩, er4, by omega, fun H5 s5 => ?_⟩
        rw [e2, broken_brk bk]
        refine ⟨true, rfl, iteF ?_⟩
        have S5 := S4.trans s5
        have eT5 := s5 _ _ eT4
        have er5 := s5 _ _ er4
        refine ⟨_, rfl, Tp, _, _, .ref r, rfl, rfl, .inl (.inl eT5), atI_nat (j := 1) rfl, ?_⟩
        refine ⟨_, rfl, r, _, rfl, .inl (sl_map er5), fun Z nZ => ?_⟩
        have sZ := same_new (o := HO.lst ((zis st).map V.int)) nZ
        have Zr : Z ≠ r := fun z => by rw [z, er5] at nZ; cases nZ
        refine ⟨_, rfl, .inl ⟨rfl, _, sl_map (sZ _ _ er5)⟩, r, _, rfl, rfl, sZ _ _ er5, ?_⟩
        exact ⟨_, rfl, q _ Z (zis st) (same_at (S5.trans sZ) (s1.free nr)) (S5.free nZ) (by rw [upd_ne Zr]; exact upd_same) (.inr (.inr ⟨n, st, run, bk, no, rfl⟩))⟩
end
end K56
set_option Elab.async false
set_option linter.all false
set_option maxRecDepth 100000
set_option maxHeartbeats 4000000
namespace K56
open PySem PySem.Spec PyProof.Rows L2 Cs CsX
theorem cut_ints (cs : List Int) (lo hi : Option Int) : ∃ ks : List Int, cutV (cs.map V.int) lo hi = ks.map V.int ∧ ks.length ≤ cs.length := by
  refine ⟨(cs.drop (HT.sIx (cs.map V.int).length 0 lo)).take (HT.sIx (cs.map V.int).length (cs.map V.int).length hi - HT.sIx (cs.map V.int).length 0 lo), ?_, ?_⟩
  · unfold cutV
    rw [← List.map_drop, ← List.map_take]
  · rw [List.length_take, List.length_drop]; omega
/-- lists of steps in the making -/
structure Sg (H Hn : Hp) (s c r : Addr) (cs : List Int) (ls : List (Addr × List Int)) (n : Nat) : Prop where
  keep : Keep s H Hn
  st : Strm Hn s
  ec : Hn c = some (.lst (cs.map V.int))
  cs_ : c ≠ s
  er : Hn r = some (.lst (ls.map fun e => V.ref e.1))
  rs : r ≠ s
  cr : c ≠ r
  nr : H r = none
  el : ∀ e ∈ ls, Hn e.1 = some (.lst (e.2.map V.int)) ∧ e.2.length ≤ 900 ∧ e.1 ≠ r ∧ e.1 ≠ s ∧ H e.1 = none
  few : ls.length ≤ n
section
variable {H Hn H' : Hp} {s c r q : Addr} {cs ks : List Int} {ls : List (Addr × List Int)} {n : Nat} {o : HO}
theorem Sg.alloc (g : Sg H Hn s c r cs ls n) (nq : Hn q = none) : Sg H (upd Hn q o) s c r cs ls n := by
  have sm := same_new nq (o := o)
  exact ⟨g.keep.at_ (g.keep.free g.st nq), g.st.upd (fun z => g.st.some (z ▸ nq)), sm _ _ g.ec, g.cs_, sm _ _ g.er, g.rs, g.cr, g.nr, fun e he => ⟨sm _ _ (g.el e he).1, (g.el e he).2⟩, g.few⟩
theorem Sg.draw (g : Sg H Hn s c r cs ls n) (ot : Oth s Hn H') (st : Strm H' s) : Sg H H' s c r cs ls n :=
  ⟨g.keep.oth ot, st, (ot _ g.cs_).trans g.ec, g.cs_, (ot _ g.rs).trans g.er, g.rs, g.cr, g.nr, fun e he => ⟨(ot _ (g.el e he).2.2.2.1).trans (g.el e he).1, (g.el e he).2⟩, g.few⟩
theorem Sg.push (g : Sg H Hn s c r cs ls n) (eq : Hn q = some (.lst (ks.map V.int))) (lk : ks.length ≤ 900) (qr : q ≠ r) (qs : q ≠ s) (nq : H q = none) : Sg H (upd Hn r (.lst ((ls.map fun e => V.ref e.1) ++ [.ref q]))) s c r cs (ls ++ [(q, ks)]) (n + 1) := by
  refine ⟨g.keep.at_ g.nr, g.st.upd g.rs.symm, by rw [upd_ne g.cr]; exact g.ec, g.cs_, by rw [upd_same, List.map_append] <;> rfl, g.rs, g.cr, g.nr, fun e he => ?_, by rw [List.length_append]; have := g.few; show ls.length + 1 ≤ _; omega⟩
  rcases List.mem_append.mp he with h | h
  · obtain ⟨a1, a2, a3, a4⟩ := g.el e h
    exact ⟨by rw [upd_ne a3]; exact a1, a2, a3, a4⟩
  · rw [List.mem_singleton.mp h]
    exact ⟨by rw [upd_ne qr]; exact eq, lk, qr, qs, nq⟩
theorem Sg.up (g : Sg H Hn s c r cs ls n) {m : Nat} (h : n ≤ m) : Sg H Hn s c r cs ls m := ⟨g.keep, g.st, g.ec, g.cs_, g.er, g.rs, g.cr, g.nr, g.el, Nat.le_trans g.few h⟩
theorem Sg.nq (g : Sg H Hn s c r cs ls n) (h : Hn q = none) : q ≠ r ∧ q ≠ s ∧ H q = none := ⟨(fun z => by rw [z, g.er] at h; cases h), fun z => g.st.some (z ▸ h), g.keep.free g.st h⟩
end
section
variable {P : Program} {w : World} {K : PySem.W.Frag} {mg : Str → Option Value} {base : Heap}
abbrev sSpo : Stmt := topS 42
abbrev nSpo : List Str := ["_law_stream_here", "_law_climb", "_law_many", "_law_spoilt_here", "_law_at", "_law_k"]
theorem scSpo : FnScope nSpo ["_law_stream_here", "_law_climb", "_law_many"] (defScope sSpo) := ⟨rfl, rfl, rfl, by decide +kernel, rfl, by decide +kernel, by decide +kernel⟩
def spSpo : Sp := fun vs H Q _ => ∃ (s c : Addr) (cs : List Int) (many : Int), vs = [.ref s, .ref c, .int many] ∧ Strm H s ∧ H c = some (.lst (cs.map V.int)) ∧ c ≠ s ∧ cs.length ≤ 400 ∧ 1 ≤ many ∧ many ≤ 1000 ∧
  ∀ (H' : Hp) (r : Addr) (ls : List (Addr × List Int)), Sg H H' s c r cs ls 11 → Q (.ref r) H'
theorem ok_Spo {f f0 : Addr} {fd fd0 : FuncData} (F : Fun K "_law_spoilt" "_law_spoilt" sSpo f fd) (B : Bt mg) (D : Call P w K mg base 1 "_law_next" f0 fd0 ["_law_stream_here", "_law_size"] spDraw) :
    FnOk P w K mg base CX0 2 f fd ["_law_stream_here", "_law_climb", "_law_many"] spSpo := by
  refine F.ok scSpo (fun vs H Q E h => ?_) (fun cdv A outer s H vs Q E hr h => ?_)
  · obtain ⟨s, c, cs, many, rfl, _⟩ := h
    rfl
  · obtain ⟨s, c, cs, many, rfl, hs, hc, csn, lc, m1, m2, q⟩ := h
    have nd := scSpo.nd
    refine ⟨_, pss_cons (ps_set (i := 3) nd rfl (.inl rfl) (pe_lst (pa_cons (pe_callTy call_list_of (by rfl) B.list PyProof.Rows.boot_list (pa_cons (pv 1) pa_nil)) (pa_cons (pe_lst pa_nil) (pa_cons (pe_op op_cat (pv 1) (pe_lst (pa_cons (pe_call D.ok (hr.mono (by decide)) (by rfl) D.at_ D.kp D.bd .nil pass0 (pa_cons (pv 0) (pa_cons (pv 2) pa_nil))) pa_nil))) pa_nil)))))
      (pss_cons (ps_if (pt_cmpR op_gt (pe_callB call_len_seq (by rfl) B.len PySem.boot_len (pa_cons (pv 1) pa_nil)) pe_int rfl)
        (pss_cons (ps_set (i := 4) nd rfl (.inl rfl) (pe_call D.ok (hr.mono (by decide)) (by rfl) D.at_ D.kp D.bd .nil pass0 (pa_cons (pv 0) (pa_cons (pe_callB call_len_seq (by rfl) B.len PySem.boot_len (pa_cons (pv 1) pa_nil)) pa_nil))))
          (pss_cons (ps_expr (pe_bm PySem.F.plainAttrs_list PySem.F.slot_list_append PySem.F.type_list_append mt_append (pv 3) (pa_cons (pe_slice sl_list (pv 1) po_none (po_some (pe_op op_sub (pe_callB call_len_seq (by rfl) B.len PySem.boot_len (pa_cons (pv 1) pa_nil)) pe_int))) pa_nil)))
          (pss_cons (ps_expr (pe_bm PySem.F.plainAttrs_list PySem.F.slot_list_append PySem.F.type_list_append mt_append (pv 3) (pa_cons (pe_op op_cat (pe_slice sl_list (pv 1) po_none (po_some (pv 4))) (pe_slice sl_list (pv 1) (po_some (pe_op op_add (pv 4) pe_int)) po_none)) pa_nil)))
          (pss_cons (ps_expr (pe_bm PySem.F.plainAttrs_list PySem.F.slot_list_append PySem.F.type_list_append mt_append (pv 3) (pa_cons (pe_op op_cat (pe_op op_cat (pe_slice sl_list (pv 1) po_none (po_some (pv 4))) (pe_lst (pa_cons (pe_call D.ok (hr.mono (by decide)) (by rfl) D.at_ D.kp D.bd .nil pass0 (pa_cons (pv 0) (pa_cons (pv 2) pa_nil))) pa_nil))) (pe_slice sl_list (pv 1) (po_some (pv 4)) po_none)) pa_nil)))
          (pss_cons (ps_expr (pe_bm PySem.F.plainAttrs_list PySem.F.slot_list_append PySem.F.type_list_append mt_append (pv 3) (pa_cons (pe_op op_cat (pe_op op_cat (pe_slice sl_list (pv 1) po_none (po_some (pv 4))) (pe_lst (pa_cons (pv 2) pa_nil))) (pe_slice sl_list (pv 1) (po_some (pe_op op_add (pv 4) pe_int)) po_none)) pa_nil)))
          (pss_cons (ps_expr (pe_bm PySem.F.plainAttrs_list PySem.F.slot_list_append PySem.F.type_list_append mt_append (pv 3) (pa_cons (pe_op op_cat (pe_op op_cat (pe_slice sl_list (pv 1) po_none (po_some (pv 4))) (pe_lst (pa_cons (pe_un un_neg pe_int) pa_nil))) (pe_slice sl_list (pv 1) (po_some (pe_op op_add (pv 4) pe_int)) po_none)) pa_nil)))
          (pss_one (ps_expr (pe_bm PySem.F.plainAttrs_list PySem.F.slot_list_append PySem.F.type_list_append mt_append (pv 3) (pa_cons (pe_op op_cat (pe_op op_cat (pe_slice sl_list (pv 1) po_none (po_some (pv 4))) (pe_lst (pa_cons (pe_op op_sub (pe_ix ix_list (pv 1) (pv 4) (fun _ _ => rfl)) (pv 2)) pa_nil))) (pe_slice sl_list (pv 1) (po_some (pe_op op_add (pv 4) pe_int)) po_none)) pa_nil))))))))))
        pss_nil)
      (pss_cons (ps_if (pt_cmpR op_gt (pe_callB call_len_seq (by rfl) B.len PySem.boot_len (pa_cons (pv 1) pa_nil)) pe_int rfl)
        (pss_cons (ps_set (i := 4) nd rfl (.inl rfl) (pe_call D.ok (hr.mono (by decide)) (by rfl) D.at_ D.kp D.bd .nil pass0 (pa_cons (pv 0) (pa_cons (pe_op op_sub (pe_callB call_len_seq (by rfl) B.len PySem.boot_len (pa_cons (pv 1) pa_nil)) pe_int) pa_nil))))
          (pss_one (ps_expr (pe_bm PySem.F.plainAttrs_list PySem.F.slot_list_append PySem.F.type_list_append mt_append (pv 3) (pa_cons (pe_op op_cat (pe_op op_cat (pe_slice sl_list (pv 1) po_none (po_some (pv 4))) (pe_lst (pa_cons (pe_ix ix_list (pv 1) (pe_op op_add (pv 4) pe_int) (fun _ _ => rfl)) (pa_cons (pe_ix ix_list (pv 1) (pv 4) (fun _ _ => rfl)) pa_nil)))) (pe_slice sl_list (pv 1) (po_some (pe_op op_add (pv 4) pe_int)) po_none)) pa_nil)))))
        pss_nil)
      (pss_cons (ps_expr (pe_bm PySem.F.plainAttrs_list PySem.F.slot_list_append PySem.F.type_list_append mt_append (pv 3) (pa_cons (pe_lc (own := [("_law_k", 5)]) (g := gName 5) (tt := tYes)  rfl nd (pi_range1 (by rfl) B.range (pa_cons (pe_call D.ok (hr.mono (by decide)) (by rfl) D.at_ D.kp D.bd .nil pass0 (pa_cons (pv 0) (pa_cons pe_int pa_nil))) pa_nil)) (blkOk_by (N := nSpo) (sc := defScope sSpo) (by decide +kernel)) (fun _ _ _ _ _ => pg_name (i := 5) nd rfl (.inl rfl)) (fun _ _ _ _ _ => pts_nil)
          (fun _ _ _ _ _ => (pe_call D.ok (hr.mono (by decide)) (by rfl) D.at_ D.kp D.bd .nil pass0 (pa_cons (pv 0) (pa_cons (pv 2) pa_nil))))) pa_nil)))
      (pss_one (ps_ret (pv 3)))))), ?_⟩
    have cH : H c ≠ none := by rw [hc]; exact fun z => nomatch z
    -- the first three
    refine ⟨_, rfl, c, _, rfl, .inl (sl_map hc), fun Y1 n1 => ?_⟩
    have s1 := same_new (o := HO.lst (cs.map V.int)) n1
    have st1 := hs.upd (o := HO.lst (cs.map V.int)) (fun z => hs.some (z ▸ n1))
    have f1 := upd_same (H := H) (a := Y1) (o := HO.lst (cs.map V.int))
    obtain ⟨H1, r1⟩ : ∃ H1, upd H Y1 (.lst (cs.map V.int)) = H1 := ⟨_, rfl⟩
    rw [r1] at s1 st1 f1 ⊢
    refine ⟨by show 0 ≤ sizeLine; decide, fun Y2 n2 => ?_⟩
    have s2 := same_new (o := HO.lst []) n2
    have st2 := st1.upd (o := HO.lst []) (fun z => st1.some (z ▸ n2))
    have f2 := upd_same (H := H1) (a := Y2) (o := HO.lst [])
    have f12 := s2 _ _ f1
    obtain ⟨H2, r2⟩ : ∃ H2, upd H1 Y2 (.lst []) = H2 := ⟨_, rfl⟩
    rw [r2] at s2 st2 f2 f12 ⊢
    refine ⟨_, rfl, _, rfl, _, rfl, s, many, rfl, st2, by omega, by omega, fun H3 x o3 st3 x0 x1 => ?_⟩
    have Y1s : Y1 ≠ s := fun z => hs.some (z ▸ n1)
    have Y2s : Y2 ≠ s := fun z => st1.some (z ▸ n2)
    have Y12 : Y1 ≠ Y2 := fun z => by rw [← z, f1] at n2; cases n2
    have c3 := (o3 _ csn).trans ((s1.trans s2) _ _ hc)
    have f13 := (o3 _ Y1s).trans f12
    have f23 := (o3 _ Y2s).trans f2
    have k3 : Keep s H H3 := (Keep.same (s1.trans s2)).oth o3
    refine ⟨by show 1 ≤ sizeLine; decide, fun Y3 n3 => ?_⟩
    have s4 := same_new (o := HO.lst [V.int x]) n3
    have st4 := st3.upd (o := HO.lst [V.int x]) (fun z => st3.some (z ▸ n3))
    have f4 := upd_same (H := H3) (a := Y3) (o := HO.lst [V.int x])
    have k4 := k3.at_ (k3.free st3 n3) (o := HO.lst [V.int x])
    obtain ⟨H4, r4⟩ : ∃ H4, upd H3 Y3 (.lst [V.int x]) = H4 := ⟨_, rfl⟩
    rw [r4] at s4 st4 f4 k4 ⊢
    refine ⟨c, Y3, _, _, rfl, rfl, s4 _ _ c3, f4, by rw [List.length_map]; exact Nat.le_of_lt (small1000 (by show cs.length + 1 ≤ 1000; omega)), fun Y4 n4 => ?_⟩
    have s5 := same_new (o := HO.lst (cs.map V.int ++ [V.int x])) n4
    have st5 := st4.upd (o := HO.lst (cs.map V.int ++ [V.int x])) (fun z => st4.some (z ▸ n4))
    have f5 := upd_same (H := H4) (a := Y4) (o := HO.lst (cs.map V.int ++ [V.int x]))
    have k5 := k4.at_ (k4.free st4 n4) (o := HO.lst (cs.map V.int ++ [V.int x]))
    have n40 := k4.free st4 n4
    obtain ⟨H5, r5⟩ : ∃ H5, upd H4 Y4 (.lst (cs.map V.int ++ [V.int x])) = H5 := ⟨_, rfl⟩
    rw [r5] at s5 st5 f5 k5 ⊢
    refine ⟨by show 3 ≤ sizeLine; decide, fun r nr => ?_⟩
    have s35 := s4.trans s5
    have nr0 := k5.free st5 nr
    have g0 : Sg H (upd H5 r (.lst [V.ref Y1, .ref Y2, .ref Y4])) s c r cs [(Y1, cs), (Y2, []), (Y4, cs ++ [x])] 3 := by
      have s6 := same_new (o := HO.lst [V.ref Y1, .ref Y2, .ref Y4]) nr
      refine ⟨k5.at_ nr0, st5.upd (fun z => st5.some (z ▸ nr)), s6 _ _ (s35 _ _ c3), csn, upd_same, fun z => st5.some (z ▸ nr), fun z => cH (z ▸ nr0), nr0, fun e he => ?_, Nat.le_refl _⟩
      simp only [List.mem_cons, List.not_mem_nil, or_false] at he
      have ner : ∀ {b : Addr} {o : HO}, H5 b = some o → b ≠ r := fun h z => by rw [z, nr] at h; cases h
      rcases he with rfl | rfl | rfl
      · exact ⟨s6 _ _ (s35 _ _ f13), by show cs.length ≤ 900; omega, ner (s35 _ _ f13), Y1s, n1⟩
      · exact ⟨s6 _ _ (s35 _ _ f23), Nat.zero_le _, ner (s35 _ _ f23), Y2s, s1.free n2⟩
      · refine ⟨?_, by rw [List.length_append]; show cs.length + 1 ≤ _; omega, ner f5, fun z => st4.some (z ▸ n4), n40⟩
        rw [List.map_append]; exact s6 _ _ f5
    generalize upd H5 r (.lst [V.ref Y1, .ref Y2, .ref Y4]) = H6 at g0 ⊢
    clear nr0 s35 nr st5 f5 k5 n40 r5 s5 n4 st4 f4 k4 r4 s4 n3 k3 f13 f23 c3 Y12 Y1s Y2s st3 o3 x0 x1 f12 f2 s2 st2 r2 n2 f1 s1 st1 r1 n1 H5 H4 H3 H2 H1
    refine' with_restS (fun σ H' => ∃ (y4 : Option V) (ls : List (Addr × List Int)), σ = [some (.ref s), some (.ref c), some (.int many), some (.ref r), y4, none] ∧ Sg H H' s c r cs ls 9) ?r1 (fun rest => ⟨_, rfl, c, _, rfl, .inl (sl_map g0.ec), _, _, rfl, rfl, _, rfl, ite_both (fun c0 => ?cg1) fun _ => rest _ _ ⟨none, _, rfl, g0.up (by decide)⟩⟩)
    case' cg1 =>
      have c1 : 0 < cs.length := by
        have := of_decide_eq_true c0
        rw [List.length_map] at this
        omega
      refine ⟨_, rfl, _, rfl, c, _, rfl, .inl (sl_map g0.ec), s, _, rfl, g0.st, by rw [List.length_map]; omega, by rw [List.length_map]; omega, fun H7 a o7 st7 a0 a1 => ?_⟩
      rw [List.length_map] at a1
      have g1 := g0.draw o7 st7
      have llg1 := g1.few
      refine ⟨_, rfl, .inl ⟨rfl, _, sl_map g1.er⟩, _, rfl, _, rfl, c, _, rfl, .inl (sl_map g1.ec), _, _, rfl, rfl, _, rfl, c, _, rfl, sl_map g1.ec, fun Y1 nY1 => ?_⟩
      obtain ⟨kY1, ekY1, lkY1⟩ := cut_ints cs none (some (((cs.map V.int).length : Nat) - 1))
      rw [ekY1]
      have g2 := g1.alloc (o := HO.lst (kY1.map V.int)) nY1
      have qY1 := g1.nq nY1
      have smY1 := same_new (o := HO.lst (kY1.map V.int)) nY1
      have fY1 : (upd H7 Y1 (HO.lst (kY1.map V.int))) Y1 = some (.lst (kY1.map V.int)) := upd_same
      obtain ⟨Hx2, eHx2⟩ : ∃ G, upd H7 Y1 (HO.lst (kY1.map V.int)) = G := ⟨_, rfl⟩
      rw [eHx2] at g2 fY1 smY1 ⊢
      clear eHx2
      refine ⟨r, _, _, rfl, rfl, g2.er, by rw [List.length_map]; exact small1000 (by omega), ?_⟩
      have g3 := g2.push fY1 (by omega) qY1.1 qY1.2.1 qY1.2.2
      generalize upd Hx2 r _ = Hp3 at g3 ⊢
      have llg3 := g3.few
      refine ⟨_, rfl, .inl ⟨rfl, _, sl_map g3.er⟩, _, rfl, _, rfl, _, rfl, c, _, rfl, sl_map g3.ec, fun Y2 nY2 => ?_⟩
      obtain ⟨kY2, ekY2, lkY2⟩ := cut_ints cs none (some a)
      rw [ekY2]
      have g4 := g3.alloc (o := HO.lst (kY2.map V.int)) nY2
      have qY2 := g3.nq nY2
      have smY2 := same_new (o := HO.lst (kY2.map V.int)) nY2
      have fY2 : (upd Hp3 Y2 (HO.lst (kY2.map V.int))) Y2 = some (.lst (kY2.map V.int)) := upd_same
      obtain ⟨Hx4, eHx4⟩ : ∃ G, upd Hp3 Y2 (HO.lst (kY2.map V.int)) = G := ⟨_, rfl⟩
      rw [eHx4] at g4 fY2 smY2 ⊢
      clear eHx4
      refine ⟨_, rfl, _, rfl, _, _, rfl, rfl, _, rfl, c, _, rfl, sl_map g4.ec, fun Y3 nY3 => ?_⟩
      obtain ⟨kY3, ekY3, lkY3⟩ := cut_ints cs (some (a + 1)) none
      rw [ekY3]
      have g5 := g4.alloc (o := HO.lst (kY3.map V.int)) nY3
      have qY3 := g4.nq nY3
      have smY3 := same_new (o := HO.lst (kY3.map V.int)) nY3
      have fY3 : (upd Hx4 Y3 (HO.lst (kY3.map V.int))) Y3 = some (.lst (kY3.map V.int)) := upd_same
      have fY2 := smY3 _ _ fY2
      obtain ⟨Hx5, eHx5⟩ : ∃ G, upd Hx4 Y3 (HO.lst (kY3.map V.int)) = G := ⟨_, rfl⟩
      rw [eHx5] at g5 fY3 smY3 fY2 ⊢
      clear eHx5
      have lkY4 : ((kY2 ++ kY3)).length ≤ 402 + 402 := by simp only [List.length_append, List.length_cons, List.length_nil]; omega
      refine ⟨Y2, Y3, _, _, rfl, rfl, fY2, fY3, by rw [← List.length_append, ← List.map_append, List.length_map]; exact Nat.le_of_lt (small1000 (by omega)), fun Y4 nY4 => ?_⟩
      rw [show (kY2.map V.int ++ kY3.map V.int) = (kY2 ++ kY3).map V.int from (List.map_append).symm]
      have g6 := g5.alloc (o := HO.lst ((kY2 ++ kY3).map V.int)) nY4
      have qY4 := g5.nq nY4
      have smY4 := same_new (o := HO.lst ((kY2 ++ kY3).map V.int)) nY4
      have fY4 : (upd Hx5 Y4 (HO.lst ((kY2 ++ kY3).map V.int))) Y4 = some (.lst ((kY2 ++ kY3).map V.int)) := upd_same
      have fY2 := smY4 _ _ fY2
      have fY3 := smY4 _ _ fY3
      obtain ⟨Hx6, eHx6⟩ : ∃ G, upd Hx5 Y4 (HO.lst ((kY2 ++ kY3).map V.int)) = G := ⟨_, rfl⟩
      rw [eHx6] at g6 fY4 smY4 fY2 fY3 ⊢
      clear eHx6
      refine ⟨r, _, _, rfl, rfl, g6.er, by rw [List.length_map]; exact small1000 (by omega), ?_⟩
      have g7 := g6.push fY4 (by omega) qY4.1 qY4.2.1 qY4.2.2
      generalize upd Hx6 r _ = Hp7 at g7 ⊢
      have llg7 := g7.few
      refine ⟨_, rfl, .inl ⟨rfl, _, sl_map g7.er⟩, _, rfl, _, rfl, _, rfl, c, _, rfl, sl_map g7.ec, fun Y5 nY5 => ?_⟩
      obtain ⟨kY5, ekY5, lkY5⟩ := cut_ints cs none (some a)
      rw [ekY5]
      have g8 := g7.alloc (o := HO.lst (kY5.map V.int)) nY5
      have qY5 := g7.nq nY5
      have smY5 := same_new (o := HO.lst (kY5.map V.int)) nY5
      have fY5 : (upd Hp7 Y5 (HO.lst (kY5.map V.int))) Y5 = some (.lst (kY5.map V.int)) := upd_same
      obtain ⟨Hx8, eHx8⟩ : ∃ G, upd Hp7 Y5 (HO.lst (kY5.map V.int)) = G := ⟨_, rfl⟩
      rw [eHx8] at g8 fY5 smY5 ⊢
      clear eHx8
      refine ⟨_, rfl, _, rfl, s, many, rfl, g8.st, by omega, by omega, fun HY6 xY6 oY6 stY6 x0Y6 x1Y6 => ?_⟩
      have g9 := g8.draw oY6 stY6
      have fY5 := (oY6 _ qY5.2.1).trans fY5
      refine ⟨by show 1 ≤ sizeLine; decide, fun Y6 nY6 => ?_⟩
      have lkY6 : (1 : Nat) ≤ 2 := by decide
      have g10 := g9.alloc (o := HO.lst [V.int xY6]) nY6
      have qY6 := g9.nq nY6
      have smY6 := same_new (o := HO.lst [V.int xY6]) nY6
      have fY6 : (upd HY6 Y6 (HO.lst [V.int xY6])) Y6 = some (.lst (([xY6] : List Int).map V.int)) := upd_same
      have fY5 := smY6 _ _ fY5
      obtain ⟨Hx10, eHx10⟩ : ∃ G, upd HY6 Y6 (HO.lst [V.int xY6]) = G := ⟨_, rfl⟩
      rw [eHx10] at g10 fY6 smY6 fY5 ⊢
      clear eHx10
      have lkY7 : ((kY5 ++ ([xY6] : List Int))).length ≤ cs.length + 2 := by simp only [List.length_append, List.length_cons, List.length_nil]; omega
      refine ⟨Y5, Y6, _, _, rfl, rfl, fY5, fY6, by rw [← List.length_append, ← List.map_append, List.length_map]; exact Nat.le_of_lt (small1000 (by omega)), fun Y7 nY7 => ?_⟩
      rw [show (kY5.map V.int ++ ([xY6] : List Int).map V.int) = (kY5 ++ ([xY6] : List Int)).map V.int from (List.map_append).symm]
      have g11 := g10.alloc (o := HO.lst ((kY5 ++ ([xY6] : List Int)).map V.int)) nY7
      have qY7 := g10.nq nY7
      have smY7 := same_new (o := HO.lst ((kY5 ++ ([xY6] : List Int)).map V.int)) nY7
      have fY7 : (upd Hx10 Y7 (HO.lst ((kY5 ++ ([xY6] : List Int)).map V.int))) Y7 = some (.lst ((kY5 ++ ([xY6] : List Int)).map V.int)) := upd_same
      have fY5 := smY7 _ _ fY5
      have fY6 := smY7 _ _ fY6
      obtain ⟨Hx11, eHx11⟩ : ∃ G, upd Hx10 Y7 (HO.lst ((kY5 ++ ([xY6] : List Int)).map V.int)) = G := ⟨_, rfl⟩
      rw [eHx11] at g11 fY7 smY7 fY5 fY6 ⊢
      clear eHx11
      refine ⟨_, rfl, _, rfl, _, rfl, c, _, rfl, sl_map g11.ec, fun Y8 nY8 => ?_⟩
      obtain ⟨kY8, ekY8, lkY8⟩ := cut_ints cs (some a) none
      rw [ekY8]
      have g12 := g11.alloc (o := HO.lst (kY8.map V.int)) nY8
      have qY8 := g11.nq nY8
      have smY8 := same_new (o := HO.lst (kY8.map V.int)) nY8
      have fY8 : (upd Hx11 Y8 (HO.lst (kY8.map V.int))) Y8 = some (.lst (kY8.map V.int)) := upd_same
      have fY5 := smY8 _ _ fY5
      have fY6 := smY8 _ _ fY6
      have fY7 := smY8 _ _ fY7
      obtain ⟨Hx12, eHx12⟩ : ∃ G, upd Hx11 Y8 (HO.lst (kY8.map V.int)) = G := ⟨_, rfl⟩
      rw [eHx12] at g12 fY8 smY8 fY5 fY6 fY7 ⊢
      clear eHx12
      have lkY9 : (((kY5 ++ ([xY6] : List Int)) ++ kY8)).length ≤ 402 + 402 := by simp only [List.length_append, List.length_cons, List.length_nil]; omega
      refine ⟨Y7, Y8, _, _, rfl, rfl, fY7, fY8, by rw [← List.length_append, ← List.map_append, List.length_map]; exact Nat.le_of_lt (small1000 (by omega)), fun Y9 nY9 => ?_⟩
      rw [show ((kY5 ++ ([xY6] : List Int)).map V.int ++ kY8.map V.int) = ((kY5 ++ ([xY6] : List Int)) ++ kY8).map V.int from (List.map_append).symm]
      have g13 := g12.alloc (o := HO.lst (((kY5 ++ ([xY6] : List Int)) ++ kY8).map V.int)) nY9
      have qY9 := g12.nq nY9
      have smY9 := same_new (o := HO.lst (((kY5 ++ ([xY6] : List Int)) ++ kY8).map V.int)) nY9
      have fY9 : (upd Hx12 Y9 (HO.lst (((kY5 ++ ([xY6] : List Int)) ++ kY8).map V.int))) Y9 = some (.lst (((kY5 ++ ([xY6] : List Int)) ++ kY8).map V.int)) := upd_same
      have fY5 := smY9 _ _ fY5
      have fY6 := smY9 _ _ fY6
      have fY7 := smY9 _ _ fY7
      have fY8 := smY9 _ _ fY8
      obtain ⟨Hx13, eHx13⟩ : ∃ G, upd Hx12 Y9 (HO.lst (((kY5 ++ ([xY6] : List Int)) ++ kY8).map V.int)) = G := ⟨_, rfl⟩
      rw [eHx13] at g13 fY9 smY9 fY5 fY6 fY7 fY8 ⊢
      clear eHx13
      refine ⟨r, _, _, rfl, rfl, g13.er, by rw [List.length_map]; exact small1000 (by omega), ?_⟩
      have g14 := g13.push fY9 (by omega) qY9.1 qY9.2.1 qY9.2.2
      generalize upd Hx13 r _ = Hp14 at g14 ⊢
      have llg14 := g14.few
      refine ⟨_, rfl, .inl ⟨rfl, _, sl_map g14.er⟩, _, rfl, _, rfl, _, rfl, c, _, rfl, sl_map g14.ec, fun Y10 nY10 => ?_⟩
      obtain ⟨kY10, ekY10, lkY10⟩ := cut_ints cs none (some a)
      rw [ekY10]
      have g15 := g14.alloc (o := HO.lst (kY10.map V.int)) nY10
      have qY10 := g14.nq nY10
      have smY10 := same_new (o := HO.lst (kY10.map V.int)) nY10
      have fY10 : (upd Hp14 Y10 (HO.lst (kY10.map V.int))) Y10 = some (.lst (kY10.map V.int)) := upd_same
      obtain ⟨Hx15, eHx15⟩ : ∃ G, upd Hp14 Y10 (HO.lst (kY10.map V.int)) = G := ⟨_, rfl⟩
      rw [eHx15] at g15 fY10 smY10 ⊢
      clear eHx15
      refine ⟨_, rfl, by show 1 ≤ sizeLine; decide, fun Y11 nY11 => ?_⟩
      have lkY11 : (1 : Nat) ≤ 2 := by decide
      have g16 := g15.alloc (o := HO.lst [V.int many]) nY11
      have qY11 := g15.nq nY11
      have smY11 := same_new (o := HO.lst [V.int many]) nY11
      have fY11 : (upd Hx15 Y11 (HO.lst [V.int many])) Y11 = some (.lst (([many] : List Int).map V.int)) := upd_same
      have fY10 := smY11 _ _ fY10
      obtain ⟨Hx16, eHx16⟩ : ∃ G, upd Hx15 Y11 (HO.lst [V.int many]) = G := ⟨_, rfl⟩
      rw [eHx16] at g16 fY11 smY11 fY10 ⊢
      clear eHx16
      have lkY12 : ((kY10 ++ ([many] : List Int))).length ≤ cs.length + 2 := by simp only [List.length_append, List.length_cons, List.length_nil]; omega
      refine ⟨Y10, Y11, _, _, rfl, rfl, fY10, fY11, by rw [← List.length_append, ← List.map_append, List.length_map]; exact Nat.le_of_lt (small1000 (by omega)), fun Y12 nY12 => ?_⟩
      rw [show (kY10.map V.int ++ ([many] : List Int).map V.int) = (kY10 ++ ([many] : List Int)).map V.int from (List.map_append).symm]
      have g17 := g16.alloc (o := HO.lst ((kY10 ++ ([many] : List Int)).map V.int)) nY12
      have qY12 := g16.nq nY12
      have smY12 := same_new (o := HO.lst ((kY10 ++ ([many] : List Int)).map V.int)) nY12
      have fY12 : (upd Hx16 Y12 (HO.lst ((kY10 ++ ([many] : List Int)).map V.int))) Y12 = some (.lst ((kY10 ++ ([many] : List Int)).map V.int)) := upd_same
      have fY10 := smY12 _ _ fY10
      have fY11 := smY12 _ _ fY11
      obtain ⟨Hx17, eHx17⟩ : ∃ G, upd Hx16 Y12 (HO.lst ((kY10 ++ ([many] : List Int)).map V.int)) = G := ⟨_, rfl⟩
      rw [eHx17] at g17 fY12 smY12 fY10 fY11 ⊢
      clear eHx17
      refine ⟨_, rfl, _, rfl, _, _, rfl, rfl, _, rfl, c, _, rfl, sl_map g17.ec, fun Y13 nY13 => ?_⟩
      obtain ⟨kY13, ekY13, lkY13⟩ := cut_ints cs (some (a + 1)) none
      rw [ekY13]
      have g18 := g17.alloc (o := HO.lst (kY13.map V.int)) nY13
      have qY13 := g17.nq nY13
      have smY13 := same_new (o := HO.lst (kY13.map V.int)) nY13
      have fY13 : (upd Hx17 Y13 (HO.lst (kY13.map V.int))) Y13 = some (.lst (kY13.map V.int)) := upd_same
      have fY10 := smY13 _ _ fY10
      have fY11 := smY13 _ _ fY11
      have fY12 := smY13 _ _ fY12
      obtain ⟨Hx18, eHx18⟩ : ∃ G, upd Hx17 Y13 (HO.lst (kY13.map V.int)) = G := ⟨_, rfl⟩
      rw [eHx18] at g18 fY13 smY13 fY10 fY11 fY12 ⊢
      clear eHx18
      have lkY14 : (((kY10 ++ ([many] : List Int)) ++ kY13)).length ≤ 402 + 402 := by simp only [List.length_append, List.length_cons, List.length_nil]; omega
      refine ⟨Y12, Y13, _, _, rfl, rfl, fY12, fY13, by rw [← List.length_append, ← List.map_append, List.length_map]; exact Nat.le_of_lt (small1000 (by omega)), fun Y14 nY14 => ?_⟩
      rw [show ((kY10 ++ ([many] : List Int)).map V.int ++ kY13.map V.int) = ((kY10 ++ ([many] : List Int)) ++ kY13).map V.int from (List.map_append).symm]
      have g19 := g18.alloc (o := HO.lst (((kY10 ++ ([many] : List Int)) ++ kY13).map V.int)) nY14
      have qY14 := g18.nq nY14
      have smY14 := same_new (o := HO.lst (((kY10 ++ ([many] : List Int)) ++ kY13).map V.int)) nY14
      have fY14 : (upd Hx18 Y14 (HO.lst (((kY10 ++ ([many] : List Int)) ++ kY13).map V.int))) Y14 = some (.lst (((kY10 ++ ([many] : List Int)) ++ kY13).map V.int)) := upd_same
      have fY10 := smY14 _ _ fY10
      have fY11 := smY14 _ _ fY11
      have fY12 := smY14 _ _ fY12
      have fY13 := smY14 _ _ fY13
      obtain ⟨Hx19, eHx19⟩ : ∃ G, upd Hx18 Y14 (HO.lst (((kY10 ++ ([many] : List Int)) ++ kY13).map V.int)) = G := ⟨_, rfl⟩
      rw [eHx19] at g19 fY14 smY14 fY10 fY11 fY12 fY13 ⊢
      clear eHx19
      refine ⟨r, _, _, rfl, rfl, g19.er, by rw [List.length_map]; exact small1000 (by omega), ?_⟩
      have g20 := g19.push fY14 (by omega) qY14.1 qY14.2.1 qY14.2.2
      generalize upd Hx19 r _ = Hp20 at g20 ⊢
      have llg20 := g20.few
      refine ⟨_, rfl, .inl ⟨rfl, _, sl_map g20.er⟩, _, rfl, _, rfl, _, rfl, c, _, rfl, sl_map g20.ec, fun Y15 nY15 => ?_⟩
      obtain ⟨kY15, ekY15, lkY15⟩ := cut_ints cs none (some a)
      rw [ekY15]
      have g21 := g20.alloc (o := HO.lst (kY15.map V.int)) nY15
      have qY15 := g20.nq nY15
      have smY15 := same_new (o := HO.lst (kY15.map V.int)) nY15
      have fY15 : (upd Hp20 Y15 (HO.lst (kY15.map V.int))) Y15 = some (.lst (kY15.map V.int)) := upd_same
      obtain ⟨Hx21, eHx21⟩ : ∃ G, upd Hp20 Y15 (HO.lst (kY15.map V.int)) = G := ⟨_, rfl⟩
      rw [eHx21] at g21 fY15 smY15 ⊢
      clear eHx21
      refine ⟨1, rfl, by show 1 ≤ sizeLine; decide, fun Y16 nY16 => ?_⟩
      have lkY16 : (1 : Nat) ≤ 2 := by decide
      have g22 := g21.alloc (o := HO.lst [V.int (-1)]) nY16
      have qY16 := g21.nq nY16
      have smY16 := same_new (o := HO.lst [V.int (-1)]) nY16
      have fY16 : (upd Hx21 Y16 (HO.lst [V.int (-1)])) Y16 = some (.lst (([(-1)] : List Int).map V.int)) := upd_same
      have fY15 := smY16 _ _ fY15
      obtain ⟨Hx22, eHx22⟩ : ∃ G, upd Hx21 Y16 (HO.lst [V.int (-1)]) = G := ⟨_, rfl⟩
      rw [eHx22] at g22 fY16 smY16 fY15 ⊢
      clear eHx22
      have lkY17 : ((kY15 ++ ([(-1)] : List Int))).length ≤ cs.length + 2 := by simp only [List.length_append, List.length_cons, List.length_nil]; omega
      refine ⟨Y15, Y16, _, _, rfl, rfl, fY15, fY16, by rw [← List.length_append, ← List.map_append, List.length_map]; exact Nat.le_of_lt (small1000 (by omega)), fun Y17 nY17 => ?_⟩
      rw [show (kY15.map V.int ++ ([(-1)] : List Int).map V.int) = (kY15 ++ ([(-1)] : List Int)).map V.int from (List.map_append).symm]
      have g23 := g22.alloc (o := HO.lst ((kY15 ++ ([(-1)] : List Int)).map V.int)) nY17
      have qY17 := g22.nq nY17
      have smY17 := same_new (o := HO.lst ((kY15 ++ ([(-1)] : List Int)).map V.int)) nY17
      have fY17 : (upd Hx22 Y17 (HO.lst ((kY15 ++ ([(-1)] : List Int)).map V.int))) Y17 = some (.lst ((kY15 ++ ([(-1)] : List Int)).map V.int)) := upd_same
      have fY15 := smY17 _ _ fY15
      have fY16 := smY17 _ _ fY16
      obtain ⟨Hx23, eHx23⟩ : ∃ G, upd Hx22 Y17 (HO.lst ((kY15 ++ ([(-1)] : List Int)).map V.int)) = G := ⟨_, rfl⟩
      rw [eHx23] at g23 fY17 smY17 fY15 fY16 ⊢
      clear eHx23
      refine ⟨_, rfl, _, rfl, _, _, rfl, rfl, _, rfl, c, _, rfl, sl_map g23.ec, fun Y18 nY18 => ?_⟩
      obtain ⟨kY18, ekY18, lkY18⟩ := cut_ints cs (some (a + 1)) none
      rw [ekY18]
      have g24 := g23.alloc (o := HO.lst (kY18.map V.int)) nY18
      have qY18 := g23.nq nY18
      have smY18 := same_new (o := HO.lst (kY18.map V.int)) nY18
      have fY18 : (upd Hx23 Y18 (HO.lst (kY18.map V.int))) Y18 = some (.lst (kY18.map V.int)) := upd_same
      have fY15 := smY18 _ _ fY15
      have fY16 := smY18 _ _ fY16
      have fY17 := smY18 _ _ fY17
      obtain ⟨Hx24, eHx24⟩ : ∃ G, upd Hx23 Y18 (HO.lst (kY18.map V.int)) = G := ⟨_, rfl⟩
      rw [eHx24] at g24 fY18 smY18 fY15 fY16 fY17 ⊢
      clear eHx24
      have lkY19 : (((kY15 ++ ([(-1)] : List Int)) ++ kY18)).length ≤ 402 + 402 := by simp only [List.length_append, List.length_cons, List.length_nil]; omega
      refine ⟨Y17, Y18, _, _, rfl, rfl, fY17, fY18, by rw [← List.length_append, ← List.map_append, List.length_map]; exact Nat.le_of_lt (small1000 (by omega)), fun Y19 nY19 => ?_⟩
      rw [show ((kY15 ++ ([(-1)] : List Int)).map V.int ++ kY18.map V.int) = ((kY15 ++ ([(-1)] : List Int)) ++ kY18).map V.int from (List.map_append).symm]
      have g25 := g24.alloc (o := HO.lst (((kY15 ++ ([(-1)] : List Int)) ++ kY18).map V.int)) nY19
      have qY19 := g24.nq nY19
      have smY19 := same_new (o := HO.lst (((kY15 ++ ([(-1)] : List Int)) ++ kY18).map V.int)) nY19
      have fY19 : (upd Hx24 Y19 (HO.lst (((kY15 ++ ([(-1)] : List Int)) ++ kY18).map V.int))) Y19 = some (.lst (((kY15 ++ ([(-1)] : List Int)) ++ kY18).map V.int)) := upd_same
      have fY15 := smY19 _ _ fY15
      have fY16 := smY19 _ _ fY16
      have fY17 := smY19 _ _ fY17
      have fY18 := smY19 _ _ fY18
      obtain ⟨Hx25, eHx25⟩ : ∃ G, upd Hx24 Y19 (HO.lst (((kY15 ++ ([(-1)] : List Int)) ++ kY18).map V.int)) = G := ⟨_, rfl⟩
      rw [eHx25] at g25 fY19 smY19 fY15 fY16 fY17 fY18 ⊢
      clear eHx25
      refine ⟨r, _, _, rfl, rfl, g25.er, by rw [List.length_map]; exact small1000 (by omega), ?_⟩
      have g26 := g25.push fY19 (by omega) qY19.1 qY19.2.1 qY19.2.2
      generalize upd Hx25 r _ = Hp26 at g26 ⊢
      have llg26 := g26.few
      refine ⟨_, rfl, .inl ⟨rfl, _, sl_map g26.er⟩, _, rfl, _, rfl, _, rfl, c, _, rfl, sl_map g26.ec, fun Y20 nY20 => ?_⟩
      obtain ⟨kY20, ekY20, lkY20⟩ := cut_ints cs none (some a)
      rw [ekY20]
      have g27 := g26.alloc (o := HO.lst (kY20.map V.int)) nY20
      have qY20 := g26.nq nY20
      have smY20 := same_new (o := HO.lst (kY20.map V.int)) nY20
      have fY20 : (upd Hp26 Y20 (HO.lst (kY20.map V.int))) Y20 = some (.lst (kY20.map V.int)) := upd_same
      obtain ⟨Hx27, eHx27⟩ : ∃ G, upd Hp26 Y20 (HO.lst (kY20.map V.int)) = G := ⟨_, rfl⟩
      rw [eHx27] at g27 fY20 smY20 ⊢
      clear eHx27
      obtain ⟨vaY21, hvaY21⟩ : ∃ va, atI (cs.map V.int) a = some (.int va) := by
        obtain ⟨v, _, hv⟩ := at_in (ns := cs) a0 (by omega)
        exact ⟨v, hv⟩
      refine ⟨_, rfl, _, rfl, c, _, _, .int vaY21, rfl, rfl, sl_map g27.ec, hvaY21, _, rfl, _, _, rfl, rfl, by show 1 ≤ sizeLine; decide, fun Y21 nY21 => ?_⟩
      have lkY21 : (1 : Nat) ≤ 2 := by decide
      have g28 := g27.alloc (o := HO.lst [V.int (vaY21 - many)]) nY21
      have qY21 := g27.nq nY21
      have smY21 := same_new (o := HO.lst [V.int (vaY21 - many)]) nY21
      have fY21 : (upd Hx27 Y21 (HO.lst [V.int (vaY21 - many)])) Y21 = some (.lst (([(vaY21 - many)] : List Int).map V.int)) := upd_same
      have fY20 := smY21 _ _ fY20
      obtain ⟨Hx28, eHx28⟩ : ∃ G, upd Hx27 Y21 (HO.lst [V.int (vaY21 - many)]) = G := ⟨_, rfl⟩
      rw [eHx28] at g28 fY21 smY21 fY20 ⊢
      clear eHx28
      have lkY22 : ((kY20 ++ ([(vaY21 - many)] : List Int))).length ≤ cs.length + 2 := by simp only [List.length_append, List.length_cons, List.length_nil]; omega
      refine ⟨Y20, Y21, _, _, rfl, rfl, fY20, fY21, by rw [← List.length_append, ← List.map_append, List.length_map]; exact Nat.le_of_lt (small1000 (by omega)), fun Y22 nY22 => ?_⟩
      rw [show (kY20.map V.int ++ ([(vaY21 - many)] : List Int).map V.int) = (kY20 ++ ([(vaY21 - many)] : List Int)).map V.int from (List.map_append).symm]
      have g29 := g28.alloc (o := HO.lst ((kY20 ++ ([(vaY21 - many)] : List Int)).map V.int)) nY22
      have qY22 := g28.nq nY22
      have smY22 := same_new (o := HO.lst ((kY20 ++ ([(vaY21 - many)] : List Int)).map V.int)) nY22
      have fY22 : (upd Hx28 Y22 (HO.lst ((kY20 ++ ([(vaY21 - many)] : List Int)).map V.int))) Y22 = some (.lst ((kY20 ++ ([(vaY21 - many)] : List Int)).map V.int)) := upd_same
      have fY20 := smY22 _ _ fY20
      have fY21 := smY22 _ _ fY21
      obtain ⟨Hx29, eHx29⟩ : ∃ G, upd Hx28 Y22 (HO.lst ((kY20 ++ ([(vaY21 - many)] : List Int)).map V.int)) = G := ⟨_, rfl⟩
      rw [eHx29] at g29 fY22 smY22 fY20 fY21 ⊢
      clear eHx29
      refine ⟨_, rfl, _, rfl, _, _, rfl, rfl, _, rfl, c, _, rfl, sl_map g29.ec, fun Y23 nY23 => ?_⟩
      obtain ⟨kY23, ekY23, lkY23⟩ := cut_ints cs (some (a + 1)) none
      rw [ekY23]
      have g30 := g29.alloc (o := HO.lst (kY23.map V.int)) nY23
      have qY23 := g29.nq nY23
      have smY23 := same_new (o := HO.lst (kY23.map V.int)) nY23
      have fY23 : (upd Hx29 Y23 (HO.lst (kY23.map V.int))) Y23 = some (.lst (kY23.map V.int)) := upd_same
      have fY20 := smY23 _ _ fY20
      have fY21 := smY23 _ _ fY21
      have fY22 := smY23 _ _ fY22
      obtain ⟨Hx30, eHx30⟩ : ∃ G, upd Hx29 Y23 (HO.lst (kY23.map V.int)) = G := ⟨_, rfl⟩
      rw [eHx30] at g30 fY23 smY23 fY20 fY21 fY22 ⊢
      clear eHx30
      have lkY24 : (((kY20 ++ ([(vaY21 - many)] : List Int)) ++ kY23)).length ≤ 402 + 402 := by simp only [List.length_append, List.length_cons, List.length_nil]; omega
      refine ⟨Y22, Y23, _, _, rfl, rfl, fY22, fY23, by rw [← List.length_append, ← List.map_append, List.length_map]; exact Nat.le_of_lt (small1000 (by omega)), fun Y24 nY24 => ?_⟩
      rw [show ((kY20 ++ ([(vaY21 - many)] : List Int)).map V.int ++ kY23.map V.int) = ((kY20 ++ ([(vaY21 - many)] : List Int)) ++ kY23).map V.int from (List.map_append).symm]
      have g31 := g30.alloc (o := HO.lst (((kY20 ++ ([(vaY21 - many)] : List Int)) ++ kY23).map V.int)) nY24
      have qY24 := g30.nq nY24
      have smY24 := same_new (o := HO.lst (((kY20 ++ ([(vaY21 - many)] : List Int)) ++ kY23).map V.int)) nY24
      have fY24 : (upd Hx30 Y24 (HO.lst (((kY20 ++ ([(vaY21 - many)] : List Int)) ++ kY23).map V.int))) Y24 = some (.lst (((kY20 ++ ([(vaY21 - many)] : List Int)) ++ kY23).map V.int)) := upd_same
      have fY20 := smY24 _ _ fY20
      have fY21 := smY24 _ _ fY21
      have fY22 := smY24 _ _ fY22
      have fY23 := smY24 _ _ fY23
      obtain ⟨Hx31, eHx31⟩ : ∃ G, upd Hx30 Y24 (HO.lst (((kY20 ++ ([(vaY21 - many)] : List Int)) ++ kY23).map V.int)) = G := ⟨_, rfl⟩
      rw [eHx31] at g31 fY24 smY24 fY20 fY21 fY22 fY23 ⊢
      clear eHx31
      refine ⟨r, _, _, rfl, rfl, g31.er, by rw [List.length_map]; exact small1000 (by omega), ?_⟩
      have g32 := g31.push fY24 (by omega) qY24.1 qY24.2.1 qY24.2.2
      generalize upd Hx31 r _ = Hp32 at g32 ⊢
      exact rest _ _ ⟨_, _, rfl, g32⟩
    rintro σ H8 ⟨y4, ls, rfl, g0⟩
    refine' with_restS (fun σ H' => ∃ (y4 : Option V) (ls : List (Addr × List Int)), σ = [some (.ref s), some (.ref c), some (.int many), some (.ref r), y4, none] ∧ Sg H H' s c r cs ls 10) ?r2 (fun rest => ⟨_, rfl, c, _, rfl, .inl (sl_map g0.ec), _, _, rfl, rfl, _, rfl, ite_both (fun c0 => ?cg2) fun _ => rest _ _ ⟨_, _, rfl, g0.up (by decide)⟩⟩)
    case' cg2 =>
      have c1 : 1 < cs.length := by
        have := of_decide_eq_true c0
        rw [List.length_map] at this
        omega
      refine ⟨_, rfl, _, rfl, c, _, rfl, .inl (sl_map g0.ec), _, _, rfl, rfl, s, _, rfl, g0.st, by rw [List.length_map]; omega, by rw [List.length_map]; omega, fun H7 a o7 st7 a0 a1 => ?_⟩
      rw [List.length_map] at a1
      have g1 := g0.draw o7 st7
      have llg1 := g1.few
      refine ⟨_, rfl, .inl ⟨rfl, _, sl_map g1.er⟩, _, rfl, _, rfl, _, rfl, c, _, rfl, sl_map g1.ec, fun Y1 nY1 => ?_⟩
      obtain ⟨kY1, ekY1, lkY1⟩ := cut_ints cs none (some a)
      rw [ekY1]
      have g2 := g1.alloc (o := HO.lst (kY1.map V.int)) nY1
      have qY1 := g1.nq nY1
      have smY1 := same_new (o := HO.lst (kY1.map V.int)) nY1
      have fY1 : (upd H7 Y1 (HO.lst (kY1.map V.int))) Y1 = some (.lst (kY1.map V.int)) := upd_same
      obtain ⟨Hx2, eHx2⟩ : ∃ G, upd H7 Y1 (HO.lst (kY1.map V.int)) = G := ⟨_, rfl⟩
      rw [eHx2] at g2 fY1 smY1 ⊢
      clear eHx2
      obtain ⟨vbY2, hvbY2⟩ : ∃ va, atI (cs.map V.int) (a + 1) = some (.int va) := by
        obtain ⟨v, _, hv⟩ := at_in (ns := cs) (d := a + 1) (by omega) (by omega)
        exact ⟨v, hv⟩
      obtain ⟨vaY2, hvaY2⟩ : ∃ va, atI (cs.map V.int) a = some (.int va) := by
        obtain ⟨v, _, hv⟩ := at_in (ns := cs) (d := a) (by omega) (by omega)
        exact ⟨v, hv⟩
      refine ⟨_, rfl, _, rfl, _, _, rfl, rfl, c, _, _, .int vbY2, rfl, rfl, sl_map g2.ec, hvbY2, _, rfl, _, rfl, c, _, _, .int vaY2, rfl, rfl, sl_map g2.ec, hvaY2, by show 2 ≤ sizeLine; decide, fun Y2 nY2 => ?_⟩
      have lkY2 : (2 : Nat) ≤ 2 := by decide
      have g3 := g2.alloc (o := HO.lst [V.int vbY2, V.int vaY2]) nY2
      have qY2 := g2.nq nY2
      have smY2 := same_new (o := HO.lst [V.int vbY2, V.int vaY2]) nY2
      have fY2 : (upd Hx2 Y2 (HO.lst [V.int vbY2, V.int vaY2])) Y2 = some (.lst (([vbY2, vaY2] : List Int).map V.int)) := upd_same
      have fY1 := smY2 _ _ fY1
      obtain ⟨Hx3, eHx3⟩ : ∃ G, upd Hx2 Y2 (HO.lst [V.int vbY2, V.int vaY2]) = G := ⟨_, rfl⟩
      rw [eHx3] at g3 fY2 smY2 fY1 ⊢
      clear eHx3
      have lkY3 : ((kY1 ++ ([vbY2, vaY2] : List Int))).length ≤ cs.length + 2 := by simp only [List.length_append, List.length_cons, List.length_nil]; omega
      refine ⟨Y1, Y2, _, _, rfl, rfl, fY1, fY2, by rw [← List.length_append, ← List.map_append, List.length_map]; exact Nat.le_of_lt (small1000 (by omega)), fun Y3 nY3 => ?_⟩
      rw [show (kY1.map V.int ++ ([vbY2, vaY2] : List Int).map V.int) = (kY1 ++ ([vbY2, vaY2] : List Int)).map V.int from (List.map_append).symm]
      have g4 := g3.alloc (o := HO.lst ((kY1 ++ ([vbY2, vaY2] : List Int)).map V.int)) nY3
      have qY3 := g3.nq nY3
      have smY3 := same_new (o := HO.lst ((kY1 ++ ([vbY2, vaY2] : List Int)).map V.int)) nY3
      have fY3 : (upd Hx3 Y3 (HO.lst ((kY1 ++ ([vbY2, vaY2] : List Int)).map V.int))) Y3 = some (.lst ((kY1 ++ ([vbY2, vaY2] : List Int)).map V.int)) := upd_same
      have fY1 := smY3 _ _ fY1
      have fY2 := smY3 _ _ fY2
      obtain ⟨Hx4, eHx4⟩ : ∃ G, upd Hx3 Y3 (HO.lst ((kY1 ++ ([vbY2, vaY2] : List Int)).map V.int)) = G := ⟨_, rfl⟩
      rw [eHx4] at g4 fY3 smY3 fY1 fY2 ⊢
      clear eHx4
      refine ⟨_, rfl, _, rfl, _, _, rfl, rfl, _, rfl, c, _, rfl, sl_map g4.ec, fun Y4 nY4 => ?_⟩
      obtain ⟨kY4, ekY4, lkY4⟩ := cut_ints cs (some (a + 2)) none
      rw [ekY4]
      have g5 := g4.alloc (o := HO.lst (kY4.map V.int)) nY4
      have qY4 := g4.nq nY4
      have smY4 := same_new (o := HO.lst (kY4.map V.int)) nY4
      have fY4 : (upd Hx4 Y4 (HO.lst (kY4.map V.int))) Y4 = some (.lst (kY4.map V.int)) := upd_same
      have fY1 := smY4 _ _ fY1
      have fY2 := smY4 _ _ fY2
      have fY3 := smY4 _ _ fY3
      obtain ⟨Hx5, eHx5⟩ : ∃ G, upd Hx4 Y4 (HO.lst (kY4.map V.int)) = G := ⟨_, rfl⟩
      rw [eHx5] at g5 fY4 smY4 fY1 fY2 fY3 ⊢
      clear eHx5
      have lkY5 : (((kY1 ++ ([vbY2, vaY2] : List Int)) ++ kY4)).length ≤ 402 + 402 := by simp only [List.length_append, List.length_cons, List.length_nil]; omega
      refine ⟨Y3, Y4, _, _, rfl, rfl, fY3, fY4, by rw [← List.length_append, ← List.map_append, List.length_map]; exact Nat.le_of_lt (small1000 (by omega)), fun Y5 nY5 => ?_⟩
      rw [show ((kY1 ++ ([vbY2, vaY2] : List Int)).map V.int ++ kY4.map V.int) = ((kY1 ++ ([vbY2, vaY2] : List Int)) ++ kY4).map V.int from (List.map_append).symm]
      have g6 := g5.alloc (o := HO.lst (((kY1 ++ ([vbY2, vaY2] : List Int)) ++ kY4).map V.int)) nY5
      have qY5 := g5.nq nY5
      have smY5 := same_new (o := HO.lst (((kY1 ++ ([vbY2, vaY2] : List Int)) ++ kY4).map V.int)) nY5
      have fY5 : (upd Hx5 Y5 (HO.lst (((kY1 ++ ([vbY2, vaY2] : List Int)) ++ kY4).map V.int))) Y5 = some (.lst (((kY1 ++ ([vbY2, vaY2] : List Int)) ++ kY4).map V.int)) := upd_same
      have fY1 := smY5 _ _ fY1
      have fY2 := smY5 _ _ fY2
      have fY3 := smY5 _ _ fY3
      have fY4 := smY5 _ _ fY4
      obtain ⟨Hx6, eHx6⟩ : ∃ G, upd Hx5 Y5 (HO.lst (((kY1 ++ ([vbY2, vaY2] : List Int)) ++ kY4).map V.int)) = G := ⟨_, rfl⟩
      rw [eHx6] at g6 fY5 smY5 fY1 fY2 fY3 fY4 ⊢
      clear eHx6
      refine ⟨r, _, _, rfl, rfl, g6.er, by rw [List.length_map]; exact small1000 (by omega), ?_⟩
      have g7 := g6.push fY5 (by omega) qY5.1 qY5.2.1 qY5.2.2
      generalize upd Hx6 r _ = Hp7 at g7 ⊢
      exact rest _ _ ⟨_, _, rfl, g7⟩
    rintro σ H8 ⟨y4, ls, rfl, g0⟩
    have lls := g0.few
    refine ⟨_, rfl, .inl ⟨rfl, _, sl_map g0.er⟩, _, rfl, s, 7, rfl, g0.st, by decide, by decide, fun H9 b o9 st9 b0 b1 => ?_⟩
    have g1 := g0.draw o9 st9
    obtain ⟨m, rfl⟩ : ∃ m : Nat, b = (m : Int) := ⟨b.toNat, by omega⟩
    refine ⟨(m : Int), rfl, by omega, by omega, fun Z nZ => ?_⟩
    obtain ⟨z1, z2, z3⟩ := g1.nq nZ
    refine lc_range (lo := 0) (n := m) (fun i H' => Sg H H' s c r cs ls 10 ∧ ∃ ks : List Int, H' Z = some (.lst (ks.map V.int)) ∧ ks.length = i) ⟨g1.alloc nZ, [], upd_same, rfl⟩ ?_ ?_
    · rintro i H10 hi ⟨g2, ks, eZ, lk⟩
      refine ⟨rfl, _, rfl, _, rfl, s, many, rfl, g2.st, by omega, by omega, fun H11 x o11 st11 x0 x1 => ?_⟩
      have g3 := g2.draw o11 st11
      have eZ2 := (o11 _ z2).trans eZ
      refine ⟨_, eZ2, by rw [List.length_map]; exact small1000 (by omega), ⟨g3.keep.at_ z3, g3.st.upd z2.symm, by rw [upd_ne (fun z => cH (z.symm ▸ z3) : c ≠ Z)]; exact g3.ec, g3.cs_, by rw [upd_ne z1.symm]; exact g3.er, g3.rs, g3.cr, g3.nr, fun e he => ?_, g3.few⟩, ks ++ [x], by rw [upd_same, List.map_append] <;> rfl, by rw [List.length_append, lk] <;> rfl⟩
      obtain ⟨a1, a2, a3, a4, a5⟩ := g3.el e he
      have ez : e.1 ≠ Z := fun z => by
        have := (g1.el e he).1
        rw [z, nZ] at this; cases this
      exact ⟨by rw [upd_ne ez]; exact a1, a2, a3, a4, a5⟩
    rintro H10 ⟨g2, ks, eZ, lk⟩
    refine ⟨r, _, _, rfl, rfl, g2.er, by rw [List.length_map]; exact small1000 (by omega), ?_⟩
    exact ⟨_, rfl, q _ r _ (g2.push eZ (by omega) z1 z2 z3)⟩
end
end K56
set_option Elab.async false
set_option linter.all false
set_option maxRecDepth 100000
set_option maxHeartbeats 4000000
namespace K56
open PySem PySem.Spec PyProof.Rows L2 Cs CsX
theorem keep_tup {H H' : Hp} {s b : Addr} {xs : List V} (st : Strm H s) (k : Keep s H H') (h : H b = some (.tup xs)) : H' b = some (.tup xs) := k _ _ (fun z => by
  obtain ⟨x, y, w, e⟩ := st
  rw [z, e] at h; cases h) h
theorem Rg.keep {C : Addr} {H H' : Hp} {s p : Addr} {es : List Edg} (R : Rg C H p es) (st : Strm H s) (k : Keep s H H') : Rg C H' p es := by
  obtain ⟨dx, t, e, ts, h1, h2, h3, h4⟩ := R
  refine ⟨dx, t, e, ts, k _ _ (fun z => ?_) h1, keep_tup st k h2, ⟨keep_tup st k h3.lst, fun u hu => keep_tup st k (h3.tup u hu)⟩, h4⟩
  obtain ⟨x, y, w, e⟩ := st
  rw [z, e] at h1; cases h1
theorem names_ne {H : Hp} {s nm : Addr} {es : List Edg} (st : Strm H s) (one : 1 ≤ es.length) (h : H nm = some (.lst ((enames es).map V.str))) : nm ≠ s := fun z => by
  obtain ⟨x, y, w, e⟩ := st
  rw [z, e] at h
  cases c : enames es with
  | cons y ys => rw [c] at h; cases h
  | nil =>
    have hm := List.getElem_mem (show 0 < es.length by omega)
    have := (ends hm).1
    rw [c] at this; cases this
theorem Dt.keep {H H' : Hp} {s p : Addr} {es : List Edg} (R : Dt H p es) (st : Strm H s) (k : Keep s H H') (one : 1 ≤ es.length) : Dt H' p es := by
  obtain ⟨nm, l, ts, h1, h2, h3, h4⟩ := R
  subst h4
  have ne : ∃ y ys, enames (eds ts) = y :: ys := by
    cases c : enames (eds ts) with
    | cons y ys => exact ⟨y, ys, rfl⟩
    | nil =>
      have hm := List.getElem_mem (show 0 < (eds ts).length by omega)
      have := (ends hm).1
      rw [c] at this; cases this
  have ls : nm ≠ s := fun z => by
    obtain ⟨x, y, w, e⟩ := st
    obtain ⟨a, b, c⟩ := ne
    rw [z, e, c] at h2
    cases h2
  have l2 : l ≠ s := fun z => by
    obtain ⟨x, y, w, e⟩ := st
    have := h3.lst
    rw [z, e] at this
    cases ts with
    | nil => rw [eds_len] at one; cases one
    | cons a b => cases this
  exact ⟨nm, l, ts, keep_tup st k h1, k _ _ ls h2, h3.keep st l2 k, rfl⟩
theorem op_orI {X : Cx} {f : Value → Value → Sem Value} {r r' : R2} (a : OpR X f r) (b : OpR X f r') : OpR X f (fun x y H Q => r x y H Q ∨ r' x y H Q) :=
  fun pins s σ H x y v u Q I rx ry h => h.elim (a pins s σ H x y v u Q I rx ry) (b pins s σ H x y v u Q I rx ry)
/-- the content of a certificate that is tried -/
def Cn (H : Hp) (w : Str) (c : V) : Prop :=
  (w = "empty" ∧ ∃ x, c = .str x) ∨ (w = "climb" ∧ ∃ (l : Addr) (ks : List Int), c = .ref l ∧ H l = some (.lst (ks.map V.int)) ∧ ks.length ≤ 1000) ∨
  (w ≠ "empty" ∧ w ≠ "climb" ∧ ∃ (l : Addr) (xs : List V), c = .ref l ∧ H l = some (.lst xs) ∧ xs.length ≤ 1000 ∧ ∀ v ∈ xs, flatB v = true ∨ ∃ a, v = .ref a)
theorem Cn.mono {H H' : Hp} {w : Str} {c : V} (h : Cn H w c) (k : ∀ l xs, c = .ref l → H l = some (.lst xs) → H' l = some (.lst xs)) : Cn H' w c := by
  rcases h with h | ⟨e, l, ks, rfl, el, few⟩ | ⟨e1, e2, l, xs, rfl, el, few, fl⟩
  · exact .inl h
  · exact .inr (.inl ⟨e, l, ks, rfl, k _ _ rfl el, few⟩)
  · exact .inr (.inr ⟨e1, e2, l, xs, rfl, k _ _ rfl el, few, fl⟩)
theorem Cn.same {H H' : Hp} {w : Str} {c : V} (h : Cn H w c) (s : Same H H') : Cn H' w c := h.mono fun _ _ _ e => s _ _ e
abbrev Tr := Addr × Str × V
/-- certificates to be tried -/
structure TrL (H : Hp) (r : Addr) (ts : List Tr) : Prop where
  lst : H r = some (.lst (ts.map fun t => V.ref t.1))
  tup : ∀ t ∈ ts, H t.1 = some (.tup [.str t.2.1, t.2.2])
  con : ∀ t ∈ ts, Cn H t.2.1 t.2.2
theorem TrL.same {H H' : Hp} {r : Addr} {ts : List Tr} (h : TrL H r ts) (s : Same H H') : TrL H' r ts := ⟨s _ _ h.lst, fun t ht => s _ _ (h.tup t ht), fun t ht => (h.con t ht).same s⟩
/-- such a list in the making -/
structure Tg (H Hn : Hp) (s r : Addr) (ts : List Tr) (n : Nat) : Prop where
  keep : Keep s H Hn
  st : Strm Hn s
  tr : TrL Hn r ts
  rs : r ≠ s
  nr : H r = none
  ne : ∀ t ∈ ts, ∀ l, t.2.2 = .ref l → l ≠ r
  few : ts.length ≤ n
section
variable {H Hn H' : Hp} {s r q T : Addr} {ts : List Tr} {n : Nat} {o : HO} {w : Str} {c : V}
theorem Tg.alloc (g : Tg H Hn s r ts n) (nq : Hn q = none) : Tg H (upd Hn q o) s r ts n :=
  ⟨g.keep.at_ (g.keep.free g.st nq), g.st.upd (fun z => g.st.some (z ▸ nq)), g.tr.same (same_new nq), g.rs, g.nr, g.ne, g.few⟩
theorem Tg.push (g : Tg H Hn s r ts n) (eT : Hn T = some (.tup [.str w, c])) (cn : Cn Hn w c) (cr : ∀ l, c = .ref l → l ≠ r) : Tg H (upd Hn r (.lst ((ts.map fun t => V.ref t.1) ++ [.ref T]))) s r (ts ++ [(T, w, c)]) (n + 1) := by
  have nt : ∀ {b : Addr} {xs : List V}, Hn b = some (.tup xs) → b ≠ r := fun h z => by rw [z, g.tr.lst] at h; cases h
  refine ⟨g.keep.at_ g.nr, g.st.upd g.rs.symm, ⟨by rw [upd_same, List.map_append] <;> rfl, fun t ht => ?_, fun t ht => ?_⟩, g.rs, g.nr, fun t ht => ?_, by rw [List.length_append]; have := g.few; show ts.length + 1 ≤ _; omega⟩
  · rcases List.mem_append.mp ht with h | h
    · rw [upd_ne (nt (g.tr.tup t h))]; exact g.tr.tup t h
    · rw [List.mem_singleton.mp h]
      show (upd Hn r _) T = _
      rw [upd_ne (nt eT)]; exact eT
  · rcases List.mem_append.mp ht with h | h
    · exact (g.tr.con t h).mono fun l xs e el => by rw [upd_ne (g.ne t h l e)]; exact el
    · rw [List.mem_singleton.mp h]
      exact cn.mono fun l xs e el => by rw [upd_ne (cr l e)]; exact el
  · rcases List.mem_append.mp ht with h | h
    · exact g.ne t h
    · rw [List.mem_singleton.mp h]; exact cr
theorem Tg.up (g : Tg H Hn s r ts n) {m : Nat} (h : n ≤ m) : Tg H Hn s r ts m := ⟨g.keep, g.st, g.tr, g.rs, g.nr, g.ne, Nat.le_trans g.few h⟩
theorem Tg.nq (g : Tg H Hn s r ts n) (h : Hn q = none) : q ≠ r := fun z => by rw [z, g.tr.lst] at h; cases h
theorem Tg.step (g : Tg H Hn s r ts n) {L : Addr} {vs : List V} (nL : Hn L = none) (nT : upd Hn L (.lst vs) T = none) (w1 : w ≠ "empty") (w2 : w ≠ "climb") (lv : vs.length ≤ 1000) (fl : ∀ v ∈ vs, flatB v = true ∨ ∃ a, v = .ref a) :
    upd (upd Hn L (.lst vs)) T (.tup [.str w, .ref L]) r = some (.lst (ts.map fun t => V.ref t.1)) ∧ ∃ G, upd (upd (upd Hn L (.lst vs)) T (.tup [.str w, .ref L])) r (.lst ((ts.map fun t => V.ref t.1) ++ [.ref T])) = G ∧ Tg H G s r (ts ++ ([(T, w, V.ref L)] : List Tr)) (n + 1) ∧ ∀ b o, b ≠ r → Hn b = some o → G b = some o := by
  have g1 := g.alloc nL (o := HO.lst vs)
  have g2 := g1.alloc nT (o := HO.tup [V.str w, .ref L])
  have fT := upd_same (H := upd Hn L (.lst vs)) (a := T) (o := HO.tup [V.str w, .ref L])
  refine ⟨g2.tr.lst, _, rfl, g2.push fT (.inr (.inr ⟨w1, w2, L, vs, rfl, (same_new nT) _ _ upd_same, lv, fl⟩)) (fun l h => by cases h; exact g.nq nL), fun b o nb h => ?_⟩
  rw [upd_ne nb]
  exact same_new nT _ _ (same_new nL _ _ h)
theorem Tg.stepE (g : Tg H Hn s r ts n) {x : Str} (nT : Hn T = none) :
    upd Hn T (.tup [.str "empty", .str x]) r = some (.lst (ts.map fun t => V.ref t.1)) ∧ Tg H (upd (upd Hn T (.tup [.str "empty", .str x])) r (.lst ((ts.map fun t => V.ref t.1) ++ [.ref T]))) s r (ts ++ ([(T, "empty", V.str x)] : List Tr)) (n + 1) ∧ ∀ b o, b ≠ r → Hn b = some o → upd (upd Hn T (.tup [.str "empty", .str x])) r (.lst ((ts.map fun t => V.ref t.1) ++ [.ref T])) b = some o := by
  have g2 := g.alloc nT (o := HO.tup [V.str "empty", .str x])
  exact ⟨g2.tr.lst, g2.push upd_same (.inl ⟨rfl, x, rfl⟩) (fun l h => by cases h), fun b o nb h => by rw [upd_ne nb]; exact same_new nT _ _ h⟩
end
section
variable {P : Program} {w : World} {K : PySem.W.Frag} {mg : Str → Option Value} {base : Heap}
abbrev sTri : Stmt := topS 43
abbrev nTri : List Str := ["_law_stream_here", "_law_data", "_law_further", "_law_climb", "_law_many", "_law_base", "_law_tried_here", "_law_name", "_law_spoilt_here", "_law_k"]
theorem scTri : FnScope nTri ["_law_stream_here", "_law_data", "_law_further", "_law_climb"] (defScope sTri) := ⟨rfl, rfl, rfl, by decide +kernel, rfl, by decide +kernel, by decide +kernel⟩
def spTri : Sp := fun vs H Q _ => ∃ (s T0 c : Addr) (x : Str) (es : List Edg) (cs : List Int), vs = [.ref s, .ref T0, .str x, .ref c] ∧ Strm H s ∧ Dt H T0 es ∧ 1 ≤ es.length ∧ es.length ≤ 400 ∧ (enames es).length ≤ 12 ∧ H c = some (.lst (cs.map V.int)) ∧ c ≠ s ∧ cs.length ≤ 300 ∧
  ∀ (H' : Hp) (r : Addr) (ts : List Tr), Tg H H' s r ts 40 → Q (.ref r) H'
theorem ok_Tri {f f0 f1 : Addr} {fd fd0 fd1 : FuncData} (F : Fun K "_law_tried" "_law_tried" sTri f fd) (B : Bt mg) (D : Call P w K mg base 1 "_law_next" f0 fd0 ["_law_stream_here", "_law_size"] spDraw)
    (CSpo : Call P w K mg base 2 "_law_spoilt" f1 fd1 ["_law_stream_here", "_law_climb", "_law_many"] spSpo) :
    FnOk P w K mg base CX0 3 f fd ["_law_stream_here", "_law_data", "_law_further", "_law_climb"] spTri := by
  refine F.ok scTri (fun vs H Q E h => ?_) (fun cdv A outer s H vs Q E hr h => ?_)
  · obtain ⟨s, T0, c, x, es, cs, rfl, _⟩ := h
    rfl
  · obtain ⟨s, T0, c, x, es, cs, rfl, hs, dt, one, few, n12, hc, csn, lc, q⟩ := h
    have nd := scTri.nd
    refine ⟨_, pss_cons (ps_set (i := 4) nd rfl (.inr rfl) (pe_callB call_len_seq (by rfl) B.len PySem.boot_len (pa_cons (pe_ix ix_tup (pv 1) pe_int (fun _ _ => rfl)) pa_nil)))
      (pss_cons (ps_set (i := 5) nd rfl (.inl rfl) (pe_callTy call_list_of (by rfl) B.list PyProof.Rows.boot_list (pa_cons (pv 3) pa_nil)))
      (pss_cons (ps_if (pt_cmpR op_eq (pe_callB call_len_seq (by rfl) B.len PySem.boot_len (pa_cons (pv 5) pa_nil)) pe_int rfl)
        (pss_one (ps_setLc (i := 5) (own := [("_law_k", 9)]) (g := gName 9) (tt := tYes)  rfl nd rfl rfl (by rfl) (pi_range1 (by rfl) B.range (pa_cons (pe_call D.ok (hr.mono (by decide)) (by rfl) D.at_ D.kp D.bd .nil pass0 (pa_cons (pv 0) (pa_cons pe_int pa_nil))) pa_nil)) (blkOk_by (N := nTri) (sc := defScope sTri) (by decide +kernel)) (fun _ _ _ _ _ => pg_name (i := 9) nd rfl (.inl rfl)) (fun _ _ _ _ _ => pts_nil)
              (fun _ _ _ _ _ => (pe_call D.ok (hr.mono (by decide)) (by rfl) D.at_ D.kp D.bd .nil pass0 (pa_cons (pv 0) (pa_cons (pv 4) pa_nil))))))
        pss_nil)
      (pss_cons (ps_setLc (i := 6) (own := [("_law_spoilt_here", 8)]) (g := gName 8) (tt := tYes)  rfl nd rfl rfl (by rfl) (pi_list (pe_call CSpo.ok (hr.mono (by decide)) (by rfl) CSpo.at_ CSpo.kp CSpo.bd .nil pass0 (pa_cons (pv 0) (pa_cons (pv 5) (pa_cons (pv 4) pa_nil))))) (blkOk_by (N := nTri) (sc := defScope sTri) (by decide +kernel)) (fun _ _ _ _ _ => pg_name (i := 8) nd rfl (.inl rfl)) (fun _ _ _ _ _ => pts_nil)
          (fun _ _ _ _ _ => (pe_tup (pa_cons pe_str (pa_cons (pv 8) pa_nil)))))
      (pss_cons (ps_expr (pe_bm PySem.F.plainAttrs_list PySem.F.slot_list_append PySem.F.type_list_append mt_append (pv 6) (pa_cons (pe_tup (pa_cons pe_str (pa_cons (pe_callTy call_list_of (by rfl) B.list PyProof.Rows.boot_list (pa_cons (pv 5) pa_nil)) pa_nil))) pa_nil)))
      (pss_cons (ps_expr (pe_bm PySem.F.plainAttrs_list PySem.F.slot_list_append PySem.F.type_list_append mt_append (pv 6) (pa_cons (pe_tup (pa_cons pe_str (pa_cons (pe_callTy call_list_of (by rfl) B.list PyProof.Rows.boot_list (pa_cons (pv 5) pa_nil)) pa_nil))) pa_nil)))
      (pss_cons (ps_expr (pe_bm PySem.F.plainAttrs_list PySem.F.slot_list_append PySem.F.type_list_append mt_append (pv 6) (pa_cons (pe_tup (pa_cons pe_str (pa_cons (pe_lst (pa_cons (pe_lst (pa_cons pe_int pa_nil)) pa_nil)) pa_nil))) pa_nil)))
      (pss_cons (ps_expr (pe_bm PySem.F.plainAttrs_list PySem.F.slot_list_append PySem.F.type_list_append mt_append (pv 6) (pa_cons (pe_tup (pa_cons pe_str (pa_cons (pe_callTy call_list_of (by rfl) B.list PyProof.Rows.boot_list (pa_cons (pe_ix ix_tup (pv 1) pe_int (fun _ _ => rfl)) pa_nil)) pa_nil))) pa_nil)))
      (pss_cons (ps_expr (pe_bm PySem.F.plainAttrs_list PySem.F.slot_list_append PySem.F.type_list_append mt_append (pv 6) (pa_cons (pe_tup (pa_cons pe_str (pa_cons (pe_callTy call_list_of (by rfl) B.list PyProof.Rows.boot_list (pa_cons (pe_ix ix_tup (pv 1) pe_int (fun _ _ => rfl)) pa_nil)) pa_nil))) pa_nil)))
      (pss_cons (ps_for PassesOwn.never rfl (pi_list (pe_op op_cat (pe_ix ix_tup (pv 1) pe_int (fun _ _ => rfl)) (pe_lst (pa_cons (pv 2) (pa_cons pe_str pa_nil))))) (pg_name (i := 7) nd rfl (.inl rfl))
        (pss_one (ps_expr (pe_bm PySem.F.plainAttrs_list PySem.F.slot_list_append PySem.F.type_list_append mt_append (pv 6) (pa_cons (pe_tup (pa_cons pe_str (pa_cons (pv 7) pa_nil))) pa_nil)))))
      (pss_one (ps_ret (pv 6)))))))))))), ?_⟩
    obtain ⟨nm, l0, us, hT, enm, ed, e2⟩ := id dt
    have nms := names_ne hs one enm
    have lus : us.length = es.length := by rw [← e2, eds_len]
    refine ⟨_, rfl, T0, _, _, .ref l0, rfl, rfl, .inl (.inl hT), atI_nat (j := 2) rfl, l0, _, rfl, .inl (sl_map ed.lst), ?_⟩
    rw [List.length_map, lus]
    refine ⟨_, rfl, c, _, rfl, .inl (sl_map hc), fun Y1 n1 => ?_⟩
    have s1 := same_new (o := HO.lst (cs.map V.int)) n1
    have st1 := hs.upd (o := HO.lst (cs.map V.int)) (fun z => hs.some (z ▸ n1))
    have f1 := upd_same (H := H) (a := Y1) (o := HO.lst (cs.map V.int))
    obtain ⟨H1, r1⟩ : ∃ H1, upd H Y1 (.lst (cs.map V.int)) = H1 := ⟨_, rfl⟩
    rw [r1] at s1 st1 f1 ⊢
    clear r1
    have Y1s : Y1 ≠ s := fun z => hs.some (z ▸ n1)
    refine' with_restS (fun σ H' => ∃ (Y : Addr) (bs : List Int), σ = [some (.ref s), some (.ref T0), some (.str x), some (.ref c), some (.int (es.length : Nat)), some (.ref Y), none, none, none, none] ∧ Keep s H H' ∧ Strm H' s ∧ H' Y = some (.lst (bs.map V.int)) ∧ Y ≠ s ∧ bs.length ≤ 300) ?r1 (fun rest => ⟨_, rfl, Y1, _, rfl, .inl (sl_map f1), rfl, _, rfl, ite_both (fun c0 => ?cg1) fun _ => rest _ _ ⟨Y1, cs, rfl, Keep.same s1, st1, f1, Y1s, lc⟩⟩)
    case' cg1 =>
      refine ⟨_, rfl, s, 7, rfl, st1, by decide, by decide, fun H9 b o9 st9 b0 b1 => ?_⟩
      obtain ⟨m, rfl⟩ : ∃ m : Nat, b = (m : Int) := ⟨b.toNat, by omega⟩
      have k9 : Keep s H H9 := (Keep.same s1).oth o9
      refine ⟨(m : Int), rfl, by omega, by omega, fun Z nZ => ?_⟩
      have Zs : Z ≠ s := fun z => st9.some (z ▸ nZ)
      have nZ0 := k9.free st9 nZ
      refine lc_range (lo := 0) (n := m) (fun i H' => Keep s H H' ∧ Strm H' s ∧ ∃ ks : List Int, H' Z = some (.lst (ks.map V.int)) ∧ ks.length = i) ⟨k9.at_ nZ0, st9.upd Zs.symm, [], upd_same, rfl⟩ ?_ ?_
      · rintro i H10 hi ⟨k10, st10, ks, eZ, lk⟩
        refine ⟨rfl, _, rfl, _, rfl, s, _, rfl, st10, by omega, by omega, fun H11 y o11 st11 x0 x1 => ?_⟩
        have eZ2 := (o11 _ Zs).trans eZ
        exact ⟨_, eZ2, by rw [List.length_map]; exact small1000 (by omega), (k10.oth o11).at_ nZ0, st11.upd Zs.symm, ks ++ [y], by rw [upd_same, List.map_append] <;> rfl, by rw [List.length_append, lk] <;> rfl⟩
      rintro H10 ⟨k10, st10, ks, eZ, lk⟩
      exact rest _ _ ⟨Z, ks, rfl, k10, st10, eZ, Zs, by omega⟩
    clear st1 f1 s1 H1 n1 Y1s Y1
    rintro σ H2 ⟨Y, bs, rfl, k2, st2, eY, Ys, lb⟩
    -- the spoilt ones
    refine ⟨_, rfl, _, rfl, _, rfl, s, Y, bs, _, rfl, st2, eY, Ys, by omega, by omega, by omega, fun H3 r ls g => ⟨r, rfl, ⟨_, sl_map g.er⟩, fun Z nZ => ?_⟩⟩
    have k3 := k2.trans g.keep
    have Zs : Z ≠ s := fun z => g.st.some (z ▸ nZ)
    have nZ0 := k3.free g.st nZ
    have rZ : r ≠ Z := fun z => by rw [← z, g.er] at nZ; cases nZ
    have eZn : ∀ e ∈ ls, e.1 ≠ Z := fun e he z => by have := (g.el e he).1; rw [z, nZ] at this; cases this
    have YZ : Y ≠ Z := fun z => by rw [← z, g.ec] at nZ; cases nZ
    have lls := g.few
    refine lc_list (xs := ls.map fun e => V.ref e.1) (fun i H' => ∃ ts : List Tr, Tg H H' s Z ts i ∧ (∀ e ∈ ls, H' e.1 = some (.lst (e.2.map V.int))) ∧ H' r = some (.lst (ls.map fun e => V.ref e.1)) ∧ H' Y = some (.lst (bs.map V.int))) ⟨[], ⟨k3.at_ nZ0, g.st.upd Zs.symm, ⟨upd_same, (fun _ h => nomatch h), (fun _ h => nomatch h)⟩, Zs, nZ0, (fun _ h => nomatch h), Nat.zero_le _⟩, fun e he => by rw [upd_ne (eZn e he)]; exact (g.el e he).1, by rw [upd_ne rZ]; exact g.er, by rw [upd_ne YZ]; exact g.ec⟩ (fun i H' _ h => by obtain ⟨_, _, _, h, _⟩ := h; exact sl_map h) ?_ ?_
    · rintro i y H4 hy ⟨ts, t4, e4, r4, y4⟩
      rw [List.getElem?_map] at hy
      obtain ⟨e, he, rfl⟩ := Option.map_eq_some_iff.mp hy
      have em := List.mem_of_getElem? he
      have hi := (List.getElem?_eq_some_iff.mp he).1
      have lt := t4.few
      refine ⟨rfl, _, rfl, by show 2 ≤ sizeLine; decide, fun Tp nT => ?_⟩
      have sT := same_new (o := HO.tup [V.str "climb", .ref e.1]) nT
      have t5 := t4.alloc nT (o := HO.tup [V.str "climb", .ref e.1])
      have eT := upd_same (H := H4) (a := Tp) (o := HO.tup [V.str "climb", .ref e.1])
      obtain ⟨H5, r5⟩ : ∃ H5, upd H4 Tp (.tup [V.str "climb", .ref e.1]) = H5 := ⟨_, rfl⟩
      rw [r5] at sT t5 eT ⊢
      refine ⟨_, t5.tr.lst, by rw [List.length_map]; exact small1000 (by omega), ts ++ ([(Tp, "climb", V.ref e.1)] : List Tr), t5.push eT (.inr (.inl ⟨rfl, e.1, e.2, rfl, sT _ _ (e4 e em), by have := (g.el e em).2.1; omega⟩)) (fun l h => by cases h; exact eZn e em), fun e' he' => by rw [upd_ne (eZn e' he')]; exact sT _ _ (e4 e' he'), by rw [upd_ne rZ]; exact sT _ _ r4, by rw [upd_ne YZ]; exact sT _ _ y4⟩
    rintro H4 ⟨ts, t4, e4, r4, y4⟩
    rw [List.length_map] at t4
    have t4' : Tg H H4 s Z ts 11 := t4.up lls
    clear e4 r4 t4 eZn rZ
    have hTk := keep_tup hs t4'.keep hT
    have nmk : H4 nm = some (.lst ((enames es).map V.str)) := t4'.keep _ _ nms enm
    have n12' : ((enames es).map V.str).length ≤ 12 := by rw [List.length_map]; exact n12
    have TZ : T0 ≠ Z := fun z => by rw [z, t4'.tr.lst] at hTk; cases hTk
    have NZ : nm ≠ Z := fun z => by
      have ne : ∃ y ys, enames es = y :: ys := by
        cases c : enames es with
        | cons y ys => exact ⟨y, ys, rfl⟩
        | nil =>
          have hm := List.getElem_mem (show 0 < es.length by omega)
          have := (ends hm).1
          rw [c] at this; cases this
      obtain ⟨a, b, c⟩ := ne
      rw [z, t4'.tr.lst, c] at nmk
      cases ts with
      | nil => cases nmk
      | cons t u => cases nmk
    have bi : ∀ v ∈ bs.map V.int, flatB v = true ∨ ∃ a, v = .ref a := fun v h => by
      obtain ⟨z, _, rfl⟩ := List.mem_map.mp h; exact .inl rfl
    have ni : ∀ v ∈ (enames es).map V.str, flatB v = true ∨ ∃ a, v = .ref a := fun v h => by
      obtain ⟨z, _, rfl⟩ := List.mem_map.mp h; exact .inl rfl
    have lb2 : (bs.map V.int).length ≤ 1000 := by rw [List.length_map]; omega
    have nb2 : ((enames es).map V.str).length ≤ 1000 := by omega
    refine ⟨_, rfl, .inl ⟨rfl, _, sl_map t4'.tr.lst⟩, _, rfl, Y, _, rfl, .inl (sl_map y4), fun L0 nL0 => ⟨by show 2 ≤ sizeLine; decide, fun Tp0 nT0 => ?_⟩⟩
    obtain ⟨eg0, H5, r5, t5, k5⟩ := t4'.step nL0 nT0 (w := "full") (by decide) (by decide) lb2 bi
    refine ⟨Z, _, _, rfl, rfl, eg0, by have := t4'.few; rw [List.length_map]; exact small1000 (by omega), ?_⟩
    rw [r5]
    have y5 := k5 _ _ YZ y4
    have hT5 := k5 _ _ TZ hTk
    have nm5 := k5 _ _ NZ nmk
    clear r5 eg0 y4 hTk nmk k5
    refine ⟨_, rfl, .inl ⟨rfl, _, sl_map t5.tr.lst⟩, _, rfl, Y, _, rfl, .inl (sl_map y5), fun L1 nL1 => ⟨by show 2 ≤ sizeLine; decide, fun Tp1 nT1 => ?_⟩⟩
    obtain ⟨eg1, H6, r6, t6, k6⟩ := t5.step nL1 nT1 (w := "want") (by decide) (by decide) lb2 bi
    refine ⟨Z, _, _, rfl, rfl, eg1, by have := t5.few; rw [List.length_map]; exact small1000 (by omega), ?_⟩
    rw [r6]
    have y6 := k6 _ _ YZ y5
    have hT6 := k6 _ _ TZ hT5
    have nm6 := k6 _ _ NZ nm5
    clear r6 eg1 y5 hT5 nm5 k6
    refine ⟨_, rfl, .inl ⟨rfl, _, sl_map t6.tr.lst⟩, by show 1 ≤ sizeLine; decide, fun A2 nA2 => ⟨by show 1 ≤ sizeLine; decide, fun L2 nL2 => ⟨by show 2 ≤ sizeLine; decide, fun Tp2 nT2 => ?_⟩⟩⟩
    have t6' := t6.alloc nA2 (o := HO.lst [V.int 0])
    have y6' := same_new (o := HO.lst [V.int 0]) nA2 _ _ y6
    have hT6' := same_new (o := HO.lst [V.int 0]) nA2 _ _ hT6
    have nm6' := same_new (o := HO.lst [V.int 0]) nA2 _ _ nm6
    obtain ⟨eg2, H7, r7, t7, k7⟩ := t6'.step nL2 nT2 (w := "layers") (by decide) (by decide) (by show 1 ≤ 1000; decide) (fun v h => by rw [List.mem_singleton.mp h]; exact .inr ⟨A2, rfl⟩)
    refine ⟨Z, _, _, rfl, rfl, eg2, by have := t6.few; rw [List.length_map]; exact small1000 (by omega), ?_⟩
    rw [r7]
    have hT7 := k7 _ _ TZ hT6'
    have nm7 := k7 _ _ NZ nm6'
    clear r7 eg2 y6 hT6 nm6 y6' hT6' nm6' k7
    refine ⟨_, rfl, .inl ⟨rfl, _, sl_map t7.tr.lst⟩, _, rfl, T0, _, _, .ref nm, rfl, rfl, .inl (.inl hT7), atI_nat (j := 1) rfl, nm, _, rfl, .inl (sl_map nm7), fun L3 nL3 => ⟨by show 2 ≤ sizeLine; decide, fun Tp3 nT3 => ?_⟩⟩
    obtain ⟨eg3, H8, r8, t8, k8⟩ := t7.step nL3 nT3 (w := "blame") (by decide) (by decide) nb2 ni
    refine ⟨Z, _, _, rfl, rfl, eg3, by have := t7.few; rw [List.length_map]; exact small1000 (by omega), ?_⟩
    rw [r8]
    have hT8 := k8 _ _ TZ hT7
    have nm8 := k8 _ _ NZ nm7
    clear r8 eg3 hT7 nm7 k8
    refine ⟨_, rfl, .inl ⟨rfl, _, sl_map t8.tr.lst⟩, _, rfl, T0, _, _, .ref nm, rfl, rfl, .inl (.inl hT8), atI_nat (j := 1) rfl, nm, _, rfl, .inl (sl_map nm8), fun L4 nL4 => ⟨by show 2 ≤ sizeLine; decide, fun Tp4 nT4 => ?_⟩⟩
    obtain ⟨eg4, H9, r9, t9, k9⟩ := t8.step nL4 nT4 (w := "crowd") (by decide) (by decide) nb2 ni
    refine ⟨Z, _, _, rfl, rfl, eg4, by have := t8.few; rw [List.length_map]; exact small1000 (by omega), ?_⟩
    rw [r9]
    have hT9 := k9 _ _ TZ hT8
    have nm9 := k9 _ _ NZ nm8
    clear r9 eg4 hT8 nm8 k9
    refine ⟨_, rfl, T0, _, _, .ref nm, rfl, rfl, .inl (.inl hT9), atI_nat (j := 1) rfl, _, rfl, by show 2 ≤ sizeLine; decide, fun A5 nA5 => ?_⟩
    have t9' := t9.alloc nA5 (o := HO.lst [V.str x, V.str "no_such"])
    have nm9 := same_new (o := HO.lst [V.str x, V.str "no_such"]) nA5 _ _ nm9
    refine ⟨nm, A5, _, _, rfl, rfl, nm9, upd_same, by show _ + 2 ≤ sizeLine; exact Nat.le_of_lt (small1000 (by omega)), fun D5 nD5 => ?_⟩
    have e5 : (enames es).map V.str ++ [V.str x, V.str "no_such"] = (enames es ++ [x, "no_such"]).map V.str := by rw [List.map_append] <;> rfl
    rw [e5]
    have f5 := upd_same (H := upd H9 A5 (.lst [V.str x, V.str "no_such"])) (a := D5) (o := HO.lst ((enames es ++ [x, "no_such"]).map V.str))
    have t10 := t9'.alloc nD5 (o := HO.lst ((enames es ++ [x, "no_such"]).map V.str))
    obtain ⟨H10, r10⟩ : ∃ G, upd (upd H9 A5 (.lst [V.str x, V.str "no_such"])) D5 (.lst ((enames es ++ [x, "no_such"]).map V.str)) = G := ⟨_, rfl⟩
    rw [r10] at f5 t10 ⊢
    have DZ : D5 ≠ Z := t9'.nq nD5
    clear r10 t9' nm9 e5 hT9 t9 t8 t7 t6
    refine ⟨D5, rfl, ⟨_, sl_map f5⟩, for_list (xs := (enames es ++ [x, "no_such"]).map V.str) (fun i σ H' => ∃ (y7 : Option V) (us : List Tr), σ = [some (.ref s), some (.ref T0), some (.str x), some (.ref c), some (.int (es.length : Nat)), some (.ref Y), some (.ref Z), y7, none, none] ∧ Tg H H' s Z us (16 + i) ∧ H' D5 = some (.lst ((enames es ++ [x, "no_such"]).map V.str)))
      ⟨none, _, rfl, t10, f5⟩ (fun i σ H' _ h => by obtain ⟨_, _, _, _, h⟩ := h; exact sl_map h) ?_ ?_⟩
    · rintro i y σ H11 hy ⟨y7, us, rfl, t11, f11⟩
      rw [List.getElem?_map] at hy
      obtain ⟨z, hz, rfl⟩ := Option.map_eq_some_iff.mp hy
      have hi := (List.getElem?_eq_some_iff.mp hz).1
      rw [List.length_append] at hi
      have hi2 : i < (enames es).length + 2 := hi
      refine ⟨_, rfl, .inl ⟨rfl, _, sl_map t11.tr.lst⟩, _, rfl, by show 2 ≤ sizeLine; decide, fun Tp nT => ?_⟩
      obtain ⟨eg, t12, k12⟩ := t11.stepE nT (x := z)
      exact ⟨Z, _, _, rfl, rfl, eg, by have := t11.few; rw [List.length_map]; exact small1000 (by omega), _, _, rfl, t12, k12 _ _ DZ f11⟩
    rintro σ H11 ⟨y7, us, rfl, t11, _⟩
    rw [List.length_map, List.length_append] at t11
    exact ⟨_, rfl, q _ _ _ (t11.up (by show 16 + (_ + 2) ≤ 40; omega))⟩
end
end K56
set_option Elab.async false
set_option linter.all false
set_option maxRecDepth 100000
set_option maxHeartbeats 4000000
namespace K56
open PySem PySem.Spec PyProof.Rows L2 Cs CsX
section
variable {P : Program} {w : World} {K : PySem.W.Frag} {mg : Str → Option Value} {base : Heap}
abbrev sDue : Stmt := topS 44
abbrev nDue : List Str := ["_law_data", "_law_sides_here", "_law_tried_here"]
theorem scDue : FnScope nDue ["_law_data", "_law_sides_here", "_law_tried_here"] (defScope sDue) := ⟨rfl, rfl, rfl, by decide +kernel, rfl, by decide +kernel, by decide +kernel⟩
def spDue : Sp := fun vs H Q _ => ∃ (T0 b T : Addr) (es : List Edg) (L : List Ent) (S : Str → List Int) (w : Str) (c : V) (r : Bool), vs = [.ref T0, .ref b, .ref T] ∧ Dt H T0 es ∧ es.length ≤ 400 ∧ Bu H b L ∧ Fit L (enames es) S ∧ Wd0 es S ∧ H T = some (.tup [.str w, c]) ∧ Crt es S H w c r ∧
  ∀ H', Same H H' → Q (.bl r) H'
theorem ok_Due {f f0 f1 : Addr} {fd fd0 fd1 : FuncData} (F : Fun K "_law_due" "_law_due" sDue f fd) (B : Bt mg)
    (CLfe : Call P w K mg base 1 "_law_first_empty" f0 fd0 ["_law_names_here", "_law_sides_here"] spLfe) (CLbk : Call P w K mg base 2 "_law_breaks" f1 fd1 ["_law_edges", "_law_sides_here", "_law_climb"] spLbk) :
    FnOk P w K mg base CX0 3 f fd ["_law_data", "_law_sides_here", "_law_tried_here"] spDue := by
  refine F.ok scDue (fun vs H Q E h => ?_) (fun cdv A outer s H vs Q E hr h => ?_)
  · obtain ⟨T0, b, T, es, L, S, w, c, r, rfl, _⟩ := h
    rfl
  · obtain ⟨T0, b, T, es, L, S, w, c, r, rfl, dt, few, B1, F1, W0, eT, cr, q⟩ := h
    have hu := hu_of hr
    have nd := scDue.nd
    obtain ⟨nm, l0, us, hT, enm, ed, e2⟩ := id dt
    refine ⟨_, pss_cons (ps_if (pt_cmpR op_eq (pe_ix ix_tup (pv 2) pe_int (fun _ _ => rfl)) pe_str rfl)
        (pss_one (ps_ret (pe_and (pe_cmpR (r := rIn K false) op_in_seq (pe_ix ix_tup (pv 2) pe_int (fun _ _ => rfl)) (pe_ix ix_tup (pv 0) pe_int (fun _ _ => rfl)) rfl) (pe_one (pe_cmpR op_eq (pe_callB call_len_seq (by rfl) B.len PySem.boot_len (pa_cons (pe_dget hu (pv 1) (pe_ix ix_tup (pv 2) pe_int (fun _ _ => rfl)) (fun _ _ => rfl)) pa_nil)) pe_int rfl)))))
        pss_nil)
      (pss_cons (ps_if (PW.pt (pw_or (pt_cmpR op_ne (pe_ix ix_tup (pv 2) pe_int (fun _ _ => rfl)) pe_str rfl) (pw_or1 (pt_cmp (pc_notN (pe_call CLfe.ok (hr.mono (by decide)) (by rfl) CLfe.at_ CLfe.kp CLfe.bd .nil pass0 (pa_cons (pe_ix ix_tup (pv 0) pe_int (fun _ _ => rfl)) (pa_cons (pv 1) pa_nil))))))))
        (pss_one (ps_ret pe_bl))
        pss_nil)
      (pss_one (ps_ret (pe_call CLbk.ok (hr.mono (by decide)) (by rfl) CLbk.at_ CLbk.kp CLbk.bd .nil pass0 (pa_cons (pe_ix ix_tup (pv 0) pe_int (fun _ _ => rfl)) (pa_cons (pv 1) (pa_cons (pe_ix ix_tup (pv 2) pe_int (fun _ _ => rfl)) pa_nil))))))), ?_⟩
    refine ⟨_, rfl, T, _, _, .str w, rfl, rfl, .inl (.inl eT), atI_nat (j := 0) rfl, ?_⟩
    cases cr with
    | empty x =>
      refine ⟨rfl, _, rfl, iteT ?_⟩
      refine ⟨_, rfl, T, _, _, .str x, rfl, rfl, .inl (.inl eT), atI_nat (j := 1) rfl, _, rfl, T0, _, _, .ref nm, rfl, rfl, .inl (.inl hT), atI_nat (j := 1) rfl, nm, _, rfl, .inl (sl_map enm), rfl, flats_str _, ?_⟩
      rw [if_neg (by decide), in_strs]
      have qs := q _ (fun _ _ h => h)
      by_cases hx : x ∈ enames es
      · rw [decide_eq_true hx]
        obtain ⟨a, ga, ea⟩ := Fit.get B1 F1 hx
        refine ⟨true, rfl, iteT ⟨_, rfl, _, rfl, T, _, _, .str x, rfl, rfl, .inl (.inl eT), atI_nat (j := 1) rfl, b, .ref a, rfl, ga, a, _, rfl, .inl (sl_map ea), rfl, ?_⟩⟩
        have e : decide (V.int (((S x).map V.int).length : Nat) = V.int 0) = decide (x ∈ enames es ∧ S x = []) := by
          rw [Bool.eq_iff_iff, decide_eq_true_iff, decide_eq_true_iff, List.length_map]
          constructor
          · intro z; exact ⟨hx, List.length_eq_zero_iff.mp (by have := V.int.inj z; omega)⟩
          · intro z; rw [z.2] <;> rfl
        rw [e]
        exact qs
      · rw [decide_eq_false hx]
        refine ⟨false, rfl, iteF ?_⟩
        rw [decide_eq_false fun z => hx z.1] at qs
        exact qs
    | climb l cs el fc =>
      refine ⟨rfl, _, rfl, iteF ?_⟩
      refine ⟨_, rfl, T, _, _, .str "climb", rfl, rfl, .inl (.inl eT), atI_nat (j := 0) rfl, rfl, _, rfl, iteF ?_⟩
      refine ⟨_, rfl, T0, _, _, .ref nm, rfl, rfl, .inl (.inl hT), atI_nat (j := 1) rfl, _, rfl, nm, b, enames es, L, S, rfl, enm, B1, F1, ?_⟩
      cases n : fe S (enames es) with
      | some x =>
        have qs := q _ (fun _ _ h => h)
        rw [show bare es S cs = false from by unfold bare; rw [n]; rfl] at qs
        exact ⟨_, rfl, iteT qs⟩
      | none =>
        rw [show bare es S cs = brkW es S (hd0 S) cs from by unfold bare; rw [n]; rfl] at q
        refine ⟨_, rfl, iteF ?_⟩
        refine ⟨_, rfl, T0, _, _, .ref l0, rfl, rfl, .inl (.inl hT), atI_nat (j := 2) rfl, _, rfl, _, rfl, T, _, _, .ref l, rfl, rfl, .inl (.inl eT), atI_nat (j := 1) rfl, l0, b, l, us, L, S, cs, rfl, ed, by rw [← eds_len, e2]; exact few, B1, by rw [e2]; exact F1, by rw [e2]; exact ⟨W0.srt, fe_none.mp n, W0.few, W0.nam⟩, el, fc, fun H5 s5 => ?_⟩
        rw [e2]
        exact q _ s5
    | other w c h1 h2 =>
      refine ⟨rfl, _, rfl, ite_both (fun z => absurd (V.str.inj (of_decide_eq_true z)) h1) fun _ => ?_⟩
      refine ⟨_, rfl, T, _, _, .str w, rfl, rfl, .inl (.inl eT), atI_nat (j := 0) rfl, rfl, _, rfl, ?_⟩
      rw [decide_eq_false (fun z => h2 (V.str.inj z))]
      exact iteT (q _ fun _ _ h => h)
section
variable {K : PySem.W.Frag} {H : Hp}
theorem paired_fr {n : Nat} : ∀ xs : List V, (∀ v ∈ xs, flatB v = true ∨ ∃ a, v = .ref a) → Paired (EqV K H (n + 1)) xs xs
  | [], _ => .nil
  | x :: xs, h => .cons (by
    rcases h x List.mem_cons_self with f | ⟨a, rfl⟩
    · exact .inl ⟨rfl, f⟩
    · exact .inr (.inl ⟨a, rfl, rfl⟩)) (paired_fr xs fun v hv => h v (List.mem_cons_of_mem _ hv))
/-- the content given is the content asked -/
def Alike (K : PySem.W.Frag) (c c' : V) (H : Hp) : Prop := ∀ Q : VK, Q (.bl false) H → rNe c' c H Q ∨ rNeV K c' c H Q
theorem alike_str {x : Str} : Alike K (.str x) (.str x) H := fun Q q => .inl ⟨rfl, by rw [decide_eq_true rfl]; exact q⟩
theorem alike_lst {l l' : Addr} {xs : List V} (h : H l = some (.lst xs)) (h' : H l' = some (.lst xs)) (f : ∀ v ∈ xs, flatB v = true ∨ ∃ a, v = .ref a) : Alike K (.ref l) (.ref l') H :=
  fun _ q => .inr ⟨l', l, xs, xs, rfl, rfl, sl_map h', sl_map h, ⟨2, by decide, paired_fr xs f⟩, q⟩
end
abbrev sJud : Stmt := topS 45
abbrev nJud : List Str := ["_law_rule", "_law_data", "_law_sides_here", "_law_lent", "_law_tried_here", "_law_one", "_law_content", "_law_actual"]
theorem scJud : FnScope nJud ["_law_rule", "_law_data", "_law_sides_here", "_law_lent", "_law_tried_here"] (defScope sJud) := ⟨rfl, rfl, rfl, by decide +kernel, rfl, by decide +kernel, by decide +kernel⟩
def spJud (C : Addr) : Sp := fun vs H Q _ => ∃ (p T0 b d t : Addr) (es : List Edg) (L M : List Ent) (S : Str → List Int) (ts : List Tr), vs = [.ref p, .ref T0, .ref b, .ref d, .ref t] ∧ Rg C H p es ∧ Dt H T0 es ∧ es.length ≤ 400 ∧ Bu H b L ∧ Fit L (enames es) S ∧ Bu H d M ∧ SameB M L ∧ Wd0 es S ∧ (∀ g ∈ M, Srt g.2.2 ∧ g.2.2.length ≤ 100) ∧ TrL H t ts ∧ ts.length ≤ 1000 ∧
  ∀ (H' : Hp), Same H H' → Q (.bl true) H'
theorem ok_Jud {f f0 f1 f2 C : Addr} {fd fd0 fd1 fd2 : FuncData} (F : Fun K "_law_judged" "_law_judged" sJud f fd) (B : Bt mg) (T : Kls K mg "Ring" C rF)
    (Csa : Call P w K mg base 3 "_law_same_sides" f0 fd0 ["_law_actual", "_law_expected"] spSame) (Ac : CallM P w K mg base 4 C "accepts" f1 fd1 ["self", "box", "certificate"] (spAcc C))
    (CDue : Call P w K mg base 3 "_law_due" f2 fd2 ["_law_data", "_law_sides_here", "_law_tried_here"] spDue) :
    FnOk P w K mg base CX0 5 f fd ["_law_rule", "_law_data", "_law_sides_here", "_law_lent", "_law_tried_here"] (spJud C) := by
  refine F.ok scJud (fun vs H Q E h => ?_) (fun cdv A outer s H vs Q E hr h => ?_)
  · obtain ⟨p, T0, b, d, t, es, L, M, S, ts, rfl, _⟩ := h
    rfl
  · obtain ⟨p, T0, b, d, t, es, L, M, S, ts, rfl, rg, dt, few, bb, F1, bd, same, W0, ok, tr, lt, q⟩ := h
    have hu := hu_of hr
    have nd := scJud.nd
    have FM : Fit M (enames es) S := fun x hx => (same x).trans (F1 x hx)
    obtain ⟨dx, t0, e0', ts0, hp, _⟩ := id rg
    refine ⟨_, pss_cons (ps_for PassesOwn.never rfl (pi_list (pv 4)) (pg_name (i := 5) nd rfl (.inl rfl))
        (pss_cons (ps_set (i := 6) nd rfl (.inl rfl) (pe_ix ix_tup (pv 5) pe_int (fun _ _ => rfl)))
          (pss_cons (ps_if (pt_val (pe_callB call_isi (by rfl) B.isi PyProof.Rows.boot_isinstance (pa_cons (pv 6) (pa_cons (pe_bltn (by rfl) B.list PyProof.Rows.boot_list (v := .ty "list") rfl) pa_nil))))
            (pss_one (ps_set (i := 6) nd rfl (.inl rfl) (pe_callTy call_list_of (by rfl) B.list PyProof.Rows.boot_list (pa_cons (pv 6) pa_nil))))
            pss_nil)
          (pss_cons (ps_set (i := 7) nd rfl (.inl rfl) (pe_meth (pv 0) T.cl Ac.mt Ac.ok (hr.mono (by decide)) Ac.bd .nil pass0 (pa_cons (pv 3) (pa_cons (pe_tup (pa_cons (pe_ix ix_tup (pv 5) pe_int (fun _ _ => rfl)) (pa_cons (pv 6) pa_nil))) pa_nil))))
          (pss_one (ps_if (PW.pt (pw_or (pt_not (pt_val (pe_callB call_isi (by rfl) B.isi PyProof.Rows.boot_isinstance (pa_cons (pv 7) (pa_cons (pe_bltn (by rfl) B.bool PyProof.Rows.boot_bool (v := .ty "bool") rfl) pa_nil))))) (pw_or (pt_cmpR op_ne (pv 7) (pe_call CDue.ok (hr.mono (by decide)) (by rfl) CDue.at_ CDue.kp CDue.bd .nil pass0 (pa_cons (pv 1) (pa_cons (pv 2) (pa_cons (pv 5) pa_nil)))) rfl) (pw_or1 (pt_cmpR (op_orI op_ne (op_neV hr.units)) (pv 6) (pe_ix ix_tup (pv 5) pe_int (fun _ _ => rfl)) rfl)))))
            (pss_one (ps_ret pe_bl))
            pss_nil))))))
      (pss_one (ps_ret (pe_call Csa.ok (hr.mono (by decide)) (by rfl) Csa.at_ Csa.kp Csa.bd .nil pass0 (pa_cons (pv 3) (pa_cons (pv 2) pa_nil))))), ?_⟩
    refine ⟨_, rfl, t, rfl, ⟨_, sl_map tr.lst⟩, for_list (xs := ts.map fun t => V.ref t.1) (fun i σ H' => ∃ (y5 y6 y7 : Option V), σ = [some (.ref p), some (.ref T0), some (.ref b), some (.ref d), some (.ref t), y5, y6, y7] ∧ Same H H') ⟨none, none, none, rfl, fun _ _ h => h⟩ (fun i σ H' _ h => by obtain ⟨_, _, _, _, s⟩ := h; exact sl_map (s _ _ tr.lst)) ?_ ?_⟩
    · rintro i x σ H1 hx ⟨y5, y6, y7, rfl, s1⟩
      rw [List.getElem?_map] at hx
      obtain ⟨⟨Ta, w, c⟩, hu1, rfl⟩ := Option.map_eq_some_iff.mp hx
      have um := List.mem_of_getElem? hu1
      have eT := s1 _ _ (tr.tup _ um)
      have key : (∃ (x : Str) (r : Bool), c = .str x ∧ ∀ H', Crt es S H' w c r) ∨ ∃ (l : Addr) (xs : List V) (r : Bool), c = .ref l ∧ H1 l = some (.lst xs) ∧ (∀ v ∈ xs, flatB v = true ∨ ∃ a, v = .ref a) ∧ Crt es S H1 w c r ∧ ∀ (H' : Hp) (l' : Addr), H' l' = some (.lst xs) → Crt es S H' w (.ref l') r := by
        rcases (tr.con _ um).same s1 with ⟨e1, x, e2⟩ | ⟨e1, l, ks, e2, el, fk⟩ | ⟨w1, w2, l, xs, e2, el, fx, fl⟩
        · subst e1 e2
          exact .inl ⟨x, _, rfl, fun _ => .empty x⟩
        · subst e1 e2
          exact .inr ⟨l, _, _, rfl, el, (fun v hv => by obtain ⟨z, _, rfl⟩ := List.mem_map.mp hv; exact .inl rfl), .climb l ks el fk, fun H' l' e => .climb l' ks e fk⟩
        · subst e2
          exact .inr ⟨l, xs, _, rfl, el, fl, .other w _ w1 w2, fun H' l' e => .other w _ w1 w2⟩
      refine ⟨_, rfl, Ta, _, _, c, rfl, rfl, .inl (.inl eT), atI_nat (j := 1) rfl, ?_⟩
      refine' with_restS (fun σ H' => ∃ (c' : V) (r : Bool), σ = [some (.ref p), some (.ref T0), some (.ref b), some (.ref d), some (.ref t), some (.ref Ta), some c', y7] ∧ Same H1 H' ∧ Crt es S H' w c' r ∧ Crt es S H' w c r ∧ ∀ H'', Same H' H'' → Alike K c c' H'') ?r1 (fun rest => ?g1)
      case' g1 =>
        rcases key with ⟨x, r, e2, cr⟩ | ⟨l, xs, r, e2, el, fl, cr, mk⟩
        · refine ⟨_, rfl, c, .ty "list", .type "str", .type "list", false, rfl, .ty _, by rw [e2]; exact .base (.str _), kit_ty (by decide +kernel), false, rfl, iteF ?_⟩
          exact rest _ _ ⟨c, r, rfl, (fun _ _ h => h), cr _, cr _, fun _ _ => by rw [e2]; exact alike_str⟩
        · refine ⟨_, rfl, c, .ty "list", .type "list", .type "list", true, rfl, .ty _, by rw [e2]; exact .base (.lst el), kit_ty (by decide +kernel), true, rfl, iteT ?_⟩
          refine ⟨_, rfl, l, _, by rw [e2], .inl (sl_map el), fun Y nY => ?_⟩
          have sY := same_new (o := HO.lst xs) nY
          exact rest _ _ ⟨.ref Y, r, rfl, sY, mk _ _ upd_same, cr.same sY, fun H'' s'' => by rw [e2]; exact alike_lst (s'' _ _ (sY _ _ el)) (s'' _ _ upd_same) fl⟩
      case r1 =>
        rintro σ H2 ⟨c', r, rfl, s2, cr1, cr2, al⟩
        have S2 := s1.trans s2
        refine ⟨_, rfl, p, dx, _, rfl, S2 _ _ hp, wit_no (by decide +kernel) (by decide +kernel) _ _, _, rfl, _, rfl, Ta, _, _, .str w, rfl, rfl, .inl (.inl (s2 _ _ eT)), atI_nat (j := 0) rfl, _, rfl, by show 2 ≤ sizeLine; decide, fun Tp nT => ?_⟩
        have s3 := same_new (o := HO.tup [V.str w, c']) nT
        have S3 := S2.trans s3
        refine ⟨p, d, Tp, es, M, S, w, c', r, rfl, rg.same S3, few, bd.same' S3, FM, W0, upd_same, cr1.same s3, fun H4 s4 => ?_⟩
        have S4 := S3.trans s4
        have s24 := s3.trans s4
        refine ⟨_, rfl, .bl r, .ty "bool", .type "bool", .type "bool", true, rfl, .ty _, .base (.bl _), kit_ty (by decide +kernel), true, rfl, iteF ?_⟩
        refine ⟨_, rfl, _, rfl, _, rfl, _, rfl, T0, b, Ta, es, L, S, w, c, r, rfl, dt.same S4, few, bb.same' S4, F1, W0, S4 _ _ (tr.tup _ um), cr2.same s24, fun H5 s5 => ?_⟩
        have S5 := S4.trans s5
        refine ⟨rfl, _, rfl, ite_both (fun z => absurd z (by simp)) fun _ => ?_⟩
        refine ⟨_, rfl, _, rfl, Ta, _, _, c, rfl, rfl, .inl (.inl (S5 _ _ (tr.tup _ um))), atI_nat (j := 1) rfl, ?_⟩
        exact al _ (s24.trans s5) _ ⟨false, rfl, iteF ⟨_, _, _, rfl, S5⟩⟩
    rintro σ H1 ⟨y5, y6, y7, rfl, s1⟩
    refine ⟨_, rfl, _, rfl, d, b, M, L, rfl, bd.same' s1, bb.same' s1, same, fun g hg => ⟨(ok g hg).1, by have := (ok g hg).2; omega⟩, fun H4 s4 => q _ (s1.trans s4)⟩
end
end K56
set_option Elab.async false
set_option linter.all false
set_option maxRecDepth 100000
set_option maxHeartbeats 4000000
namespace K56
open PySem PySem.Spec PyProof.Rows L2 Cs CsX
/-- another side for x, in the same list -/
def repl (M : List Ent) (x : Str) (ks : List Int) : List Ent := M.map fun e => if e.1 = x then (e.1, e.2.1, ks) else e
theorem repl_keys (M : List Ent) (x : Str) (ks : List Int) : (repl M x ks).map (·.1) = M.map (·.1) := by
  unfold repl
  rw [List.map_map]
  refine List.map_congr_left fun e _ => ?_
  show (if e.1 = x then (e.1, e.2.1, ks) else e).1 = e.1
  split <;> rfl
theorem repl_ads (M : List Ent) (x : Str) (ks : List Int) : (repl M x ks).map (·.2.1) = M.map (·.2.1) := by
  unfold repl
  rw [List.map_map]
  refine List.map_congr_left fun e _ => ?_
  show (if e.1 = x then (e.1, e.2.1, ks) else e).2.1 = e.2.1
  split <;> rfl
theorem repl_ent (M : List Ent) (x : Str) (ks : List Int) : entK (repl M x ks) = entK M := by
  unfold entK repl
  rw [List.map_map]
  refine List.map_congr_left fun e _ => ?_
  show (Sum.inr (if e.1 = x then (e.1, e.2.1, ks) else e).1, V.ref (if e.1 = x then (e.1, e.2.1, ks) else e).2.1) = _
  split <;> rfl
theorem repl_repl (M : List Ent) (x : Str) (ks js : List Int) : repl (repl M x ks) x js = repl M x js := by
  unfold repl
  rw [List.map_map]
  refine List.map_congr_left fun e _ => ?_
  by_cases c : e.1 = x <;> simp [c]
theorem repl_mem {M : List Ent} {x : Str} {ks : List Int} {g : Ent} (h : g ∈ repl M x ks) : ∃ e ∈ M, e.1 = g.1 ∧ e.2.1 = g.2.1 ∧ ((e.1 = x ∧ g.2.2 = ks) ∨ (e.1 ≠ x ∧ g = e)) := by
  obtain ⟨e, he, rfl⟩ := List.mem_map.mp h
  refine ⟨e, he, ?_⟩
  by_cases c : e.1 = x
  · rw [if_pos c]; exact ⟨rfl, rfl, .inl ⟨c, rfl⟩⟩
  · rw [if_neg c]; exact ⟨rfl, rfl, .inr ⟨c, rfl⟩⟩
theorem inj_at {α β : Type} {M : List α} {f : α → β} (h : (M.map f).Nodup) {a b : α} (ha : a ∈ M) (hb : b ∈ M) (e : f a = f b) : a = b := by
  obtain ⟨i, hi⟩ := List.mem_iff_getElem?.mp ha
  obtain ⟨j, hj⟩ := List.mem_iff_getElem?.mp hb
  have h1 : (M.map f)[i]? = some (f a) := by rw [List.getElem?_map, hi] <;> rfl
  have h2 : (M.map f)[j]? = some (f a) := by rw [List.getElem?_map, hj, e] <;> rfl
  rw [nd_ix h h1 h2, hj] at hi
  exact (Option.some.inj hi).symm
theorem Nb.repl {H0 H : Hp} {d a : Addr} {M : List Ent} {x : Str} {s ks : List Int} (N : Nb H0 H d M) (hm : (x, a, s) ∈ M) : Nb H0 (upd H a (.lst (ks.map V.int))) d (K56.repl M x ks) := by
  have ad : d ≠ a := fun z => by have h1 := N.un; have h2 := N.sides _ hm; rw [z] at h1; rw [show H a = _ from h2] at h1; cases h1
  have un : (upd H a (.lst (ks.map V.int))) d = some (.dK (entK (K56.repl M x ks))) := by rw [upd_ne ad, repl_ent]; exact N.un
  refine ⟨⟨⟨.inl un, fun g hg => ?_, by rw [repl_keys]; exact N.nd, by unfold K56.repl; rw [List.length_map]; exact N.few⟩, un⟩, N.fresh, fun g hg => ?_, by rw [repl_ads]; exact N.inj⟩
  · obtain ⟨e, he, e1, e2, c⟩ := repl_mem hg
    rcases c with ⟨c1, c2⟩ | ⟨c1, c2⟩
    · have : e = (x, a, s) := inj_at N.nd he hm c1
      rw [← e2, this, c2]; exact upd_same
    · rw [c2]
      have : e.2.1 ≠ a := fun z => c1 (by rw [inj_at N.inj he hm z])
      rw [upd_ne this]; exact N.sides e he
  · obtain ⟨e, he, e1, e2, _⟩ := repl_mem hg
    rw [← e2]; exact N.freshS e he
theorem repl_in {M : List Ent} {x : Str} {a : Addr} {s ks : List Int} (hm : (x, a, s) ∈ M) : (x, a, ks) ∈ repl M x ks := List.mem_map.mpr ⟨_, hm, if_pos rfl⟩
theorem BoxO.repl {M : List Ent} {xs : List Str} {m : Nat} (O : BoxO M xs m) {x : Str} {ks : List Int} (s : Srt ks) (l : ks.length ≤ 100) (f : ks.length ≤ m) : BoxO (K56.repl M x ks) xs m := by
  refine ⟨fun y hy => by rw [repl_keys]; exact O.key y hy, fun g hg => ?_, fun g hg hx => ?_, by unfold K56.repl; rw [List.length_map]; exact O.len⟩
  · obtain ⟨e, he, e1, e2, c⟩ := repl_mem hg
    rcases c with ⟨c1, c2⟩ | ⟨c1, c2⟩
    · rw [c2]; exact ⟨s, l⟩
    · rw [c2]; exact O.srt e he
  · obtain ⟨e, he, e1, e2, c⟩ := repl_mem hg
    rcases c with ⟨c1, c2⟩ | ⟨c1, c2⟩
    · rw [c2]; exact f
    · rw [c2]; exact O.few e he (by rw [e1]; exact hx)
theorem Nb.dget {H0 H : Hp} {d a : Addr} {M : List Ent} {x : Str} {s : List Int} (N : Nb H0 H d M) (hm : (x, a, s) ∈ M) : DGet H d (.str x) (some (.ref a)) ∧ H a = some (.lst (s.map V.int)) := by
  have g := N.toBu.toBx.get x
  rw [getE_of N.nd hm] at g
  exact ⟨g, N.sides _ hm⟩
theorem shape_box {N M : List Ent} {xs : List Str} {m : Nat} (O : BoxO N xs m) (sh : shape M = shape N) : BoxO M xs m := by
  have mem : ∀ g ∈ M, ∃ e ∈ N, e.1 = g.1 ∧ e.2.2 = g.2.2 := fun g hg => by
    have h1 : (g.1, g.2.2) ∈ shape M := List.mem_map.mpr ⟨g, hg, rfl⟩
    rw [sh] at h1
    obtain ⟨e, he, e2⟩ := List.mem_map.mp h1
    exact ⟨e, he, (Prod.mk.inj e2).1, (Prod.mk.inj e2).2⟩
  refine ⟨fun x hx => by rw [shape_keys sh]; exact O.key x hx, fun g hg => ?_, fun g hg hx => ?_, ?_⟩
  · obtain ⟨e, he, _, e2⟩ := mem g hg
    rw [← e2]; exact O.srt e he
  · obtain ⟨e, he, e1, e2⟩ := mem g hg
    rw [← e2]; exact O.few e he (by rw [e1]; exact hx)
  · have := congrArg List.length sh
    rw [List.length_map, List.length_map] at this
    rw [this]; exact O.len
theorem look_repl {x : Str} {ks : List Int} {y : Str} (n : y ≠ x) : ∀ M : List Ent, look (repl M x ks) y = look M y
  | [] => rfl
  | e :: M => by
    have ih := look_repl n (ks := ks) M
    have hr : repl (e :: M) x ks = (if e.1 = x then (e.1, e.2.1, ks) else e) :: repl M x ks := rfl
    unfold look at ih ⊢
    rw [hr]
    by_cases c : e.1 = y
    · have : e.1 ≠ x := fun z => n (c.symm.trans z)
      rw [if_neg this, getE_pos c, getE_pos c]
    · have c2 : (if e.1 = x then (e.1, e.2.1, ks) else e).1 ≠ y := by
        split <;> exact c
      rw [getE_neg c2, getE_neg c]
      exact ih
section
variable {Hb H H' : Hp} {z Kc d l : Addr} {M M' : List Ent} {cl : List (Addr × List Int)} {c : List Int}
/-- what a turn keeps -/
structure Trn (Hb H : Hp) (z Kc d : Addr) (M : List Ent) (cl : List (Addr × List Int)) : Prop where
  nb : Nb Hb H d M
  st : Strm H z
  ek : H Kc = some (.lst (cl.map fun e => V.ref e.1))
  ec : ∀ e ∈ cl, H e.1 = some (.lst (e.2.map V.int))
  cz : ∀ e ∈ cl, e.1 ≠ z ∧ e.1 ≠ Kc ∧ ∀ g ∈ M, e.1 ≠ g.2.1
  hz : Hb z ≠ none
  hk : Hb Kc ≠ none
  zk : Kc ≠ z
theorem Trn.keep (t : Trn Hb H z Kc d M cl) (k : Keep z H H') (st : Strm H' z) : Trn Hb H' z Kc d M cl :=
  ⟨t.nb.keep t.hz k, st, k _ _ t.zk t.ek, fun e he => k _ _ (t.cz e he).1 (t.ec e he), t.cz, t.hz, t.hk, t.zk⟩
theorem Trn.same (t : Trn Hb H z Kc d M cl) (s : Same H H') : Trn Hb H' z Kc d M cl :=
  t.keep (Keep.same s) (by obtain ⟨x, y, w, e⟩ := t.st; exact ⟨x, y, w, s _ _ e⟩)
theorem Trn.push (t : Trn Hb H z Kc d M cl) (el : H l = some (.lst (c.map V.int))) (n1 : l ≠ z) (n2 : l ≠ Kc) (n3 : ∀ g ∈ M, l ≠ g.2.1) : Trn Hb (upd H Kc (.lst ((cl.map fun e => V.ref e.1) ++ [.ref l]))) z Kc d M (cl ++ [(l, c)]) := by
  refine ⟨t.nb.keep t.hk (fun b o n h => by rw [upd_ne n]; exact h), t.st.upd t.zk.symm, by rw [upd_same, List.map_append] <;> rfl, fun e he => ?_, fun e he => ?_, t.hz, t.hk, t.zk⟩
  · rcases List.mem_append.mp he with h | h
    · rw [upd_ne (t.cz e h).2.1]; exact t.ec e h
    · rw [List.mem_singleton.mp h, upd_ne n2]; exact el
  · rcases List.mem_append.mp he with h | h
    · exact t.cz e h
    · rw [List.mem_singleton.mp h]; exact ⟨n1, n2, n3⟩
theorem Trn.kl (t : Trn Hb H z Kc d M cl) (k : KeepL (M.map (·.2.1)) H H') (nb : Nb Hb H' d M') (ea : M'.map (·.2.1) = M.map (·.2.1)) : Trn Hb H' z Kc d M' cl := by
  have no : ∀ {b : Addr}, Hb b ≠ none → b ∉ M.map (·.2.1) := fun h m => by
    obtain ⟨g, hg, rfl⟩ := List.mem_map.mp m
    exact h (t.nb.freshS g hg)
  refine ⟨nb, ?_, k _ _ (no t.hk) t.ek, fun e he => k _ _ (fun m => ?_) (t.ec e he), fun e he => ⟨(t.cz e he).1, (t.cz e he).2.1, fun g hg z => ?_⟩, t.hz, t.hk, t.zk⟩
  · obtain ⟨x, y, w, e⟩ := t.st
    exact ⟨x, y, w, k _ _ (no t.hz) e⟩
  · obtain ⟨g, hg, h⟩ := List.mem_map.mp m
    exact (t.cz e he).2.2 g hg h.symm
  · have : g.2.1 ∈ M'.map (·.2.1) := List.mem_map.mpr ⟨g, hg, rfl⟩
    rw [ea] at this
    obtain ⟨g', hg', h⟩ := List.mem_map.mp this
    exact (t.cz _ he).2.2 g' hg' (z.trans h.symm)
variable {Hn : Hp} {s r T L : Addr} {ts : List Tr} {n : Nat} {ks : List Int}
theorem Tg.stepC (g : Tg H Hn s r ts n) (nL : Hn L = none) (nT : upd Hn L (.lst (ks.map V.int)) T = none) (lk : ks.length ≤ 1000) :
    upd (upd Hn L (.lst (ks.map V.int))) T (.tup [.str "climb", .ref L]) r = some (.lst (ts.map fun t => V.ref t.1)) ∧ ∃ G, upd (upd (upd Hn L (.lst (ks.map V.int))) T (.tup [.str "climb", .ref L])) r (.lst ((ts.map fun t => V.ref t.1) ++ [.ref T])) = G ∧ Tg H G s r (ts ++ ([(T, "climb", V.ref L)] : List Tr)) (n + 1) ∧ ∀ b o, b ≠ r → Hn b = some o → G b = some o := by
  have g1 := g.alloc nL (o := HO.lst (ks.map V.int))
  have g2 := g1.alloc nT (o := HO.tup [V.str "climb", .ref L])
  have fT := upd_same (H := upd Hn L (.lst (ks.map V.int))) (a := T) (o := HO.tup [V.str "climb", .ref L])
  refine ⟨g2.tr.lst, _, rfl, g2.push fT (.inr (.inl ⟨rfl, L, ks, rfl, (same_new nT) _ _ upd_same, lk⟩)) (fun l h => by cases h; exact g.nq nL), fun b o nb h => ?_⟩
  rw [upd_ne nb]
  exact same_new nT _ _ (same_new nL _ _ h)
end
theorem keys_ent (L : List Ent) : (entK L).map (fun kv => kV kv.1) = (L.map (·.1)).map V.str := by
  unfold entK
  rw [List.map_map, List.map_map] <;> rfl
theorem paired_i {K : PySem.W.Frag} {H : Hp} {n : Nat} (ks : List Int) : Paired (EqV K H (n + 1)) (ks.map V.int) (ks.map V.int) :=
  paired_fr _ fun v hv => by obtain ⟨z, _, rfl⟩ := List.mem_map.mp hv; exact .inl rfl
theorem paired_s {K : PySem.W.Frag} {H : Hp} {n : Nat} (ks : List Str) : Paired (EqV K H (n + 1)) (ks.map V.str) (ks.map V.str) :=
  paired_fr _ fun v hv => by obtain ⟨z, _, rfl⟩ := List.mem_map.mp hv; exact .inl rfl
theorem TrL.keep {H H' : Hp} {r z : Addr} {ts : List Tr} (h : TrL H r ts) (st : Strm H z) (k : Keep z H H') (rz : r ≠ z) (cz : ∀ t ∈ ts, ∀ q, t.2.2 = .ref q → q ≠ z) : TrL H' r ts :=
  ⟨k _ _ rz h.lst, fun t ht => keep_tup st k (h.tup t ht), fun t ht => (h.con t ht).mono fun l xs e el => k _ _ (cz t ht l e) el⟩
theorem TrL.cat {H : Hp} {r r' D : Addr} {ts us : List Tr} (a : TrL H r ts) (b : TrL H r' us) (nD : H D = none) : TrL (upd H D (.lst ((ts.map fun t => V.ref t.1) ++ us.map fun t => V.ref t.1))) D (ts ++ us) := by
  have s := same_new (o := HO.lst ((ts.map fun t => V.ref t.1) ++ us.map fun t => V.ref t.1)) nD
  refine ⟨by rw [upd_same, List.map_append], fun t ht => ?_, fun t ht => ?_⟩
  · rcases List.mem_append.mp ht with h | h
    · exact s _ _ (a.tup t h)
    · exact s _ _ (b.tup t h)
  · rcases List.mem_append.mp ht with h | h
    · exact (a.con t h).same s
    · exact (b.con t h).same s
theorem KeepL.at_ {as : List Addr} {H H' : Hp} {p : Addr} {o : HO} (k : KeepL as H H') (h : p ∈ as) : KeepL as H (upd H' p o) := fun b u n e => by
  have : b ≠ p := fun z => n (by rw [z]; exact h)
  rw [upd_ne this]; exact k b u n e
theorem look_in {M : List Ent} {x : Str} {a : Addr} {ks : List Int} (nd : (M.map (·.1)).Nodup) (h : (x, a, ks) ∈ M) : look M x = some ks := by
  unfold look
  rw [show getE M x = some (x, a, ks) from getE_of (e := (x, a, ks)) nd h]; rfl
/-- the sides of a turn -/
def Sof (N1 N2 : List Ent) : Nat → Str → List Int
  | 1 => sd N2
  | 3 => sd N2
  | _ => sd N1
section
variable {P : Program} {w : World} {K : PySem.W.Frag} {mg : Str → Option Value} {base : Heap}
abbrev sLaw : Stmt := topS 46
abbrev nLaw : List Str := ["_law_script", "_law_drawn", "_law_edges", "_law_data", "_law_rule", "_law_first", "_law_second", "_law_stream_here", "_law_climbs", "_law_lent", "_law_k", "_law_sides_here", "_law_climb", "_law_tried_here", "_law_name", "_law_value", "_law_earlier"]
theorem scLaw : FnScope nLaw ["_law_script"] (defScope sLaw) := ⟨rfl, rfl, rfl, by decide +kernel, rfl, by decide +kernel, by decide +kernel⟩
def spLaw (K : PySem.W.Frag) : Sp := fun vs H Q _ => ∃ (a : Addr) (ns : List Int), vs = [.ref a] ∧ SqL K H a (ns.map V.int) ∧ ns.length ≤ 63 ∧ ∀ H', Q (.bl true) H'
theorem ok_Law {f f0 f1 f2 f3 f4 f5 f6 f7 f8 C : Addr} {fd fd0 fd1 fd2 fd3 fd4 fd5 fd6 fd7 fd8 : FuncData} (F : Fun K "law" "law" sLaw f fd) (B : Bt mg) (T : Kls K mg "Ring" C rF)
    (CRcs : Call P w K mg base 3 "_law_ring_case" f0 fd0 ["_law_script"] (spRcs K)) (CLen : Call P w K mg base 1 "_law_edge_names" f1 fd1 ["_law_edges"] spEdn) (MR : CallN P w K mg base 2 C f2 fd2 ["self", "edges"] (spRin C))
    (CBxx : Call P w K mg base 3 "_law_box" f3 fd3 ["_law_stream_here", "_law_drawn"] spBxx) (Cst : Call P w K mg base 1 "_law_stream" f4 fd4 ["_law_script", "_law_k"] (spStream K)) (CCpy : Call P w K mg base 1 "_law_copy" f5 fd5 ["_law_sides_here"] spCopy)
    (CAsk : Call P w K mg base 6 "_law_asked" f6 fd6 ["_law_rule", "_law_data", "_law_sides_here", "_law_lent"] (spAsk C)) (CTri : Call P w K mg base 3 "_law_tried" f7 fd7 ["_law_stream_here", "_law_data", "_law_further", "_law_climb"] spTri)
    (CJud : Call P w K mg base 5 "_law_judged" f8 fd8 ["_law_rule", "_law_data", "_law_sides_here", "_law_lent", "_law_tried_here"] (spJud C)) :
    FnOk P w K mg base CX0 7 f fd ["_law_script"] (spLaw K) := by
  refine F.ok scLaw (fun vs H Q E h => ?_) (fun cdv A outer s H vs Q E hr h => ?_)
  · obtain ⟨a, ns, rfl, _⟩ := h
    rfl
  · obtain ⟨a, cs, rfl, ha, ln, q⟩ := h
    have hu := hu_of hr
    have nd := scLaw.nd
    refine ⟨_, pss_cons (ps_set (i := 1) nd rfl (.inl rfl) (pe_call CRcs.ok (hr.mono (by decide)) (by rfl) CRcs.at_ CRcs.kp CRcs.bd .nil pass0 (pa_cons (pv 0) pa_nil)))
      (pss_cons (ps_set (i := 2) nd rfl (.inl rfl) (pe_ix ix_list (pv 1) pe_int (fun _ _ => rfl)))
      (pss_cons (ps_set (i := 3) nd rfl (.inl rfl) (pe_tup (pa_cons pe_str (pa_cons (pe_call CLen.ok (hr.mono (by decide)) (by rfl) CLen.at_ CLen.kp CLen.bd .nil pass0 (pa_cons (pv 2) pa_nil)) (pa_cons (pv 2) pa_nil)))))
      (pss_cons (ps_set (i := 4) nd rfl (.inl rfl) (pe_make MR.mkr MR.ok (hr.mono (by decide)) (by rfl) T.gC MR.bd .nil pass0 (pa_cons (pe_callTy call_list_of (by rfl) B.list PyProof.Rows.boot_list (pa_cons (pv 2) pa_nil)) pa_nil)))
      (pss_cons (ps_set (i := 5) nd rfl (.inl rfl) (pe_call CBxx.ok (hr.mono (by decide)) (by rfl) CBxx.at_ CBxx.kp CBxx.bd .nil pass0 (pa_cons (pe_call Cst.ok (hr.mono (by decide)) (by rfl) Cst.at_ Cst.kp Cst.bd .nil pass0 (pa_cons (pv 0) (pa_cons pe_int pa_nil))) (pa_cons (pv 1) pa_nil))))
      (pss_cons (ps_set (i := 6) nd rfl (.inl rfl) (pe_call CBxx.ok (hr.mono (by decide)) (by rfl) CBxx.at_ CBxx.kp CBxx.bd .nil pass0 (pa_cons (pe_call Cst.ok (hr.mono (by decide)) (by rfl) Cst.at_ Cst.kp Cst.bd .nil pass0 (pa_cons (pv 0) (pa_cons pe_int pa_nil))) (pa_cons (pv 1) pa_nil))))
      (pss_cons (ps_set (i := 7) nd rfl (.inl rfl) (pe_call Cst.ok (hr.mono (by decide)) (by rfl) Cst.at_ Cst.kp Cst.bd .nil pass0 (pa_cons (pv 0) (pa_cons pe_int pa_nil))))
      (pss_cons (ps_set (i := 8) nd rfl (.inl rfl) (pe_lst pa_nil))
      (pss_cons (ps_set (i := 9) nd rfl (.inl rfl) (pe_call CCpy.ok (hr.mono (by decide)) (by rfl) CCpy.at_ CCpy.kp CCpy.bd .nil pass0 (pa_cons (pv 5) pa_nil)))
      (pss_cons (ps_for PassesOwn.never rfl (pi_range1 (by rfl) B.range (pa_cons pe_int pa_nil)) (pg_name (i := 10) nd rfl (.inl rfl))
        (pss_cons (ps_set (i := 11) nd rfl (.inl rfl) (pe_call CCpy.ok (hr.mono (by decide)) (by rfl) CCpy.at_ CCpy.kp CCpy.bd .nil pass0 (pa_cons (pv 9) pa_nil)))
          (pss_cons (ps_set (i := 12) nd rfl (.inl rfl) (pe_call CAsk.ok (hr.mono (by decide)) (by rfl) CAsk.at_ CAsk.kp CAsk.bd .nil pass0 (pa_cons (pv 4) (pa_cons (pv 3) (pa_cons (pv 11) (pa_cons (pv 9) pa_nil))))))
          (pss_cons (ps_if (PW.pt (pw_or (pt_cmp (pc_isN (pv 12))) (pw_or1 (pt_cmpR (op_neV hr.units) (pe_call CAsk.ok (hr.mono (by decide)) (by rfl) CAsk.at_ CAsk.kp CAsk.bd .nil pass0 (pa_cons (pv 4) (pa_cons (pv 3) (pa_cons (pv 11) (pa_cons (pv 9) pa_nil))))) (pv 12) rfl))))
            (pss_one (ps_ret pe_bl))
            pss_nil)
          (pss_cons (ps_expr (pe_bm PySem.F.plainAttrs_list PySem.F.slot_list_append PySem.F.type_list_append mt_append (pv 8) (pa_cons (pv 12) pa_nil)))
          (pss_cons (ps_setLc (i := 13) (own := [("_law_earlier", 16)]) (g := gName 16) (tt := tYes)  rfl nd rfl rfl (by rfl) (pi_list (pv 8)) (blkOk_by (N := nLaw) (sc := defScope sLaw) (by decide +kernel)) (fun _ _ _ _ _ => pg_name (i := 16) nd rfl (.inl rfl)) (fun _ _ _ _ _ => pts_nil)
              (fun _ _ _ _ _ => (pe_tup (pa_cons pe_str (pa_cons (pe_callTy (r := rLst K) call_list_of (by rfl) B.list PyProof.Rows.boot_list (pa_cons (pv 16) pa_nil)) pa_nil)))))
          (pss_cons (ps_if (pt_cmpR op_lt (pe_callB call_len_seq (by rfl) B.len PySem.boot_len (pa_cons (pv 8) pa_nil)) pe_int rfl)
            (pss_one (ps_set (i := 13) nd rfl (.inl rfl) (pe_op op_cat (pv 13) (pe_call CTri.ok (hr.mono (by decide)) (by rfl) CTri.at_ CTri.kp CTri.bd .nil pass0 (pa_cons (pv 7) (pa_cons (pv 3) (pa_cons (pe_ix ix_list (pv 1) pe_int (fun _ _ => rfl)) (pa_cons (pv 12) pa_nil))))))))
            pss_nil)
          (pss_cons (ps_if (PW.pt (pw_or (pt_not (pt_val (pe_call CJud.ok (hr.mono (by decide)) (by rfl) CJud.at_ CJud.kp CJud.bd .nil pass0 (pa_cons (pv 4) (pa_cons (pv 3) (pa_cons (pv 11) (pa_cons (pv 9) (pa_cons (pv 13) pa_nil)))))))) (pw_or1 (pt_cmpR (op_neV hr.units) (pe_callTy (call_listD rfl) (by rfl) B.list PyProof.Rows.boot_list (pa_cons (pv 9) pa_nil)) (pe_callTy (call_listD rfl) (by rfl) B.list PyProof.Rows.boot_list (pa_cons (pv 11) pa_nil)) rfl))))
            (pss_one (ps_ret pe_bl))
            pss_nil)
          (pss_one (ps_for PassesOwn.never rfl (pi_list (pe_ix ix_tup (pv 3) pe_int (fun _ _ => rfl))) (pg_name (i := 14) nd rfl (.inl rfl))
            (pss_cons (ps_expr (pe_bm0 PySem.F.plainAttrs_list PySem.F.slot_list_clear PySem.F.type_list_clear mt_clear (pe_dget hu (pv 9) (pv 14) (fun _ _ => rfl))))
              (pss_one (ps_for PassesOwn.never rfl (pi_list (pe_dget hu (pe_ix ix_list (pe_lst (pa_cons (pv 6) (pa_cons (pv 5) (pa_cons (pv 6) pa_nil)))) (pv 10) (fun _ _ => rfl)) (pv 14) (fun _ _ => rfl))) (pg_name (i := 15) nd rfl (.inl rfl))
                (pss_one (ps_expr (pe_bm PySem.F.plainAttrs_list PySem.F.slot_list_append PySem.F.type_list_append mt_append (pe_dget hu (pv 9) (pv 14) (fun _ _ => rfl)) (pa_cons (pv 15) pa_nil)))))))))))))))))
      (pss_one (ps_ret (pe_cmpR (op_eqV hr.units) (pe_ix ix_list (pv 8) pe_int (fun _ _ => rfl)) (pe_ix ix_list (pv 8) pe_int (fun _ _ => rfl)) rfl)))))))))))), ?_⟩
    refine ⟨_, rfl, a, cs, rfl, ha, fun H1 r e sc pl xs ex ns ts m s1 dr cb => ?_⟩
    have at0 : atI [V.ref e, .ref sc, .str ex, .ref pl, .int (m : Int)] (0 : Int) = some (.ref e) := atI_nat (j := 0) rfl
    have at2 : atI [V.ref e, .ref sc, .str ex, .ref pl, .int (m : Int)] (2 : Int) = some (.str ex) := atI_nat (j := 2) rfl
    refine ⟨_, rfl, r, _, _, _, rfl, rfl, sl_map dr.er, at0, ?_⟩
    have t10 := cb.t10
    refine ⟨_, rfl, e, ts, rfl, dr.el, by omega, fun H2 nm s2 nnm enm => ⟨_, rfl, by show 3 ≤ sizeLine; decide, fun T0 nT => ?_⟩⟩
    have dt3 : Dt (upd H2 T0 (.tup [.str "ring", .ref nm, .ref e])) T0 (eds ts) := ⟨nm, e, ts, upd_same, same_new nT _ _ enm, (dr.el.same s2).same (same_new nT), rfl⟩
    have s3 := s2.trans (same_new (o := HO.tup [.str "ring", .ref nm, .ref e]) nT)
    generalize upd H2 T0 (.tup [.str "ring", .ref nm, .ref e]) = H3 at dt3 s3 ⊢
    have dr3 := dr.same s3
    have ha3 : SqL K H3 a (cs.map V.int) := (s1.trans s3).seq ha
    clear nT enm nnm s2 H2 dr
    refine ⟨_, rfl, e, _, rfl, .inl (sl_map dr3.el.lst), fun Z nZ => ?_⟩
    have s4 := same_new (o := HO.lst (ts.map fun t => V.ref t.1)) nZ
    have elZ : EdL (upd H3 Z (.lst (ts.map fun t => V.ref t.1))) Z ts := ⟨upd_same, fun t ht => s4 _ _ (dr3.el.tup t ht)⟩
    generalize upd H3 Z (.lst (ts.map fun t => V.ref t.1)) = H4 at s4 elZ ⊢
    refine fun u dx nu ndx ne => ⟨u, dx, Z, ts, rfl, upd_same, elZ.same (same_at (same_new ndx) nu), by omega, cb.t1, fun H5 rg kp => ⟨rfl, ?_⟩⟩
    have s5 : Same H3 H5 := s4.trans fun b o e => kp b o (ne_some' e nu) (by rw [upd_ne (ne_some' e nu)]; exact same_new ndx _ _ e)
    have dr5 := dr3.same s5
    have dt5 := dt3.same s5
    have ha5 := s5.seq ha3
    clear kp elZ s4 nZ ne nu ndx H4 s5 dr3 dt3 ha3 s3 s1 H3 H1
    have rne : ∀ {G : Hp} {z : Addr}, Drw G r e sc pl xs ex ns ts m → G z = none → r ≠ z ∧ sc ≠ z ∧ pl ≠ z := fun d n => ⟨ne_some' d.er n, ne_some' d.esc n, ne_some' d.epl n⟩
    -- the first box
    refine ⟨_, rfl, a, cs, 2, rfl, ha5, fun H6 z1 s6 nz1 st6 => ?_⟩
    obtain ⟨c1, c2, c3⟩ := rne dr5 nz1
    refine ⟨_, rfl, z1, r, e, sc, pl, xs, ex, ns, ts, m, rfl, st6, c1, c2, c3, dr5.same s6, cb, fun H7 b1 N1 k7 _ bu1 o1 => ?_⟩
    have s7 := keep_same s6 k7 nz1
    have dr7 := dr5.same s7
    have ha7 := s7.seq ha5
    -- the second box
    refine ⟨_, rfl, a, cs, 3, rfl, ha7, fun H8 z2 s8 nz2 st8 => ?_⟩
    obtain ⟨c4, c5, c6⟩ := rne dr7 nz2
    refine ⟨_, rfl, z2, r, e, sc, pl, xs, ex, ns, ts, m, rfl, st8, c4, c5, c6, dr7.same s8, cb, fun H9 b2 N2 k9 _ bu2 o2 => ?_⟩
    have s9 := keep_same s8 k9 nz2
    have S9 := s7.trans s9
    have bu1' := bu1.same' s9
    have rg9 := rg.same S9
    have dt9 := dt5.same S9
    have ha9 := s9.seq ha7
    have dr9 := dr7.same s9
    clear bu1 c1 c2 c3 c4 c5 c6 st6 st8 k7 k9 s6 s8 nz1 nz2 s7 S9 s9 rg dt5 dr5 dr7 ha5 ha7 H6 H8 rne
    -- the stream, the climbs and the copy
    refine ⟨_, rfl, a, cs, 4, rfl, ha9, fun Hz z sz nz stz => ?_⟩
    refine ⟨by show 0 ≤ sizeLine; decide, fun Kc nK => ?_⟩
    have sK := same_new (o := HO.lst []) nK
    have zk : Kc ≠ z := fun y => stz.some (y ▸ nK)
    have stb := stz.upd (o := HO.lst []) zk.symm
    have ekb : (upd Hz Kc (.lst [])) Kc = some (.lst []) := upd_same
    have sb := sz.trans sK
    have nK9 : H9 Kc = none := sz.free nK
    generalize upd Hz Kc (.lst []) = Hb at sK stb ekb sb ⊢
    refine ⟨_, rfl, b1, N1, rfl, bu1'.same' sb, fun H10 d M0 s10 nb0 sh0 => ?_⟩
    have o0 : BoxO M0 xs m := shape_box o1 sh0
    have en5 : (enames (eds ts)).length ≤ xs.length := cb.few
    have x5 := cb.x5
    have m14 := cb.m14
    obtain ⟨nm, l0, ts0, hT9, enm9, el9, _⟩ := id dt9
    have hz : Hb z ≠ none := fun h => stb.some h
    have hk : Hb Kc ≠ none := fun h => by rw [h] at ekb; cases ekb
    have f0 : Fit M0 (enames (eds ts)) (Sof N1 N2 0) := fun x hx => (shape_same sh0 x).trans (o1.fit cb.names x hx)
    have wdS : ∀ i, Wd0 (eds ts) (Sof N1 N2 i) := fun i => by
      unfold Sof; split
      · exact cb.wd o2
      · exact cb.wd o2
      · exact cb.wd o1
    have lmS : ∀ i, ∀ x ∈ enames (eds ts), (Sof N1 N2 i x).length ≤ m := fun i x hx => by
      unfold Sof; split
      · exact o2.lm x (cb.names x hx)
      · exact o2.lm x (cb.names x hx)
      · exact o1.lm x (cb.names x hx)
    have t0 : Trn Hb H10 z Kc d M0 [] := ⟨nb0, by obtain ⟨x, y, w, e⟩ := stb; exact ⟨x, y, w, s10 _ _ e⟩, s10 _ _ ekb, (fun _ h => nomatch h), (fun _ h => nomatch h), hz, hk, zk⟩
    -- the three turns
    refine ⟨3, rfl, by decide, by decide, for_range (lo := 0) (n := 3) (fun i σ H' => ∃ (y10 y11 y12 y13 y14 y15 y16 : Option V) (M : List Ent) (cl : List (Addr × List Int)), σ = [some (.ref a), some (.ref r), some (.ref e), some (.ref T0), some (.ref u), some (.ref b1), some (.ref b2), some (.ref z), some (.ref Kc), some (.ref d), y10, y11, y12, y13, y14, y15, y16] ∧ Same H9 H' ∧ Trn Hb H' z Kc d M cl ∧ BoxO M xs m ∧ Fit M (enames (eds ts)) (Sof N1 N2 i) ∧ cl.length = i ∧ ∀ j c, cl[j]? = some c → Clim (eds ts) (Sof N1 N2 j) c.2)
      ⟨none, none, none, none, none, none, none, M0, [], rfl, sb.trans s10, t0, o0, f0, rfl, (fun j c h => by cases h)⟩ ?_ ?_⟩
    · clear t0 f0 o0 sh0 nb0 s10 M0 H10 stb ekb sK nK stz
      rintro i σ H10 hi ⟨y10, y11, y12, y13, y14, y15, y16, M, cl, rfl, s10, tn, o, fit, lcl, hcl⟩
      have fitM := fit
      refine ⟨_, rfl, d, M, rfl, tn.nb.toBu, fun H11 b L s11 nbL shL => ?_⟩
      have tn11 := tn.same s11
      have S11 := s10.trans s11
      have fitL : Fit L (enames (eds ts)) (Sof N1 N2 i) := fun x hx => (shape_same shL x).trans (fit x hx)
      have samB : SameB M L := fun x => (shape_same shL x).symm
      have l400 : (eds ts).length ≤ 400 := by rw [eds_len]; omega
      have one : 1 ≤ (eds ts).length := by rw [eds_len]; exact cb.t1
      have hzL : H10 z ≠ none := fun h => tn.st.some h
      have hkL : H10 Kc ≠ none := fun h => by have := tn.ek; rw [h] at this; cases this
      -- asked
      refine ⟨_, rfl, _, rfl, _, rfl, _, rfl, u, T0, b, d, eds ts, L, M, Sof N1 N2 i, m, rfl, rg9.same S11, dt9.same S11, l400, nbL.toBu, fitL, tn11.nb.toBu, samB, wdS i, cb.m1, lmS i, cb.pow, o.srt, fun H12 l c s12 nl el clm => ?_⟩
      have S12 := S11.trans s12
      have tn12 := tn11.same s12
      have nbL12 := nbL.push s12
      refine ⟨_, rfl, false, rfl, iteF ?_⟩
      -- asked again
      refine ⟨_, rfl, _, rfl, _, rfl, _, rfl, u, T0, b, d, eds ts, L, M, Sof N1 N2 i, m, rfl, rg9.same S12, dt9.same S12, l400, nbL12.toBu, fitL, tn12.nb.toBu, samB, wdS i, cb.m1, lmS i, cb.pow, o.srt, fun H13 l2 c2 s13 nl2 el2 clm2 => ?_⟩
      obtain rfl : c2 = c := Clim.one clm2 clm
      have el13 := s13 _ _ el
      refine ⟨_, rfl, l2, l, _, _, rfl, rfl, sl_map el2, sl_map el13, ⟨1, by decide, paired_i _⟩, false, rfl, iteF ?_⟩
      have tn13 := tn12.same s13
      have S13 := S12.trans s13
      have nbL13 := nbL12.push s13
      have n1 : l ≠ z := fun y => tn11.st.some (y ▸ nl)
      have n2 : l ≠ Kc := fun y => by have := tn11.ek; rw [← y, nl] at this; cases this
      have n3 : ∀ g ∈ M, l ≠ g.2.1 := fun g hg y => by have := tn11.nb.sides g hg; rw [← y, nl] at this; cases this
      refine ⟨_, rfl, .inl ⟨rfl, _, sl_map tn13.ek⟩, _, rfl, Kc, _, _, rfl, rfl, tn13.ek, by rw [List.length_map, lcl]; exact small1000 (by omega), ?_⟩
      have tn14 := tn13.push el13 n1 n2 n3
      have S14 : Same H9 (upd H13 Kc (.lst ((cl.map fun e => V.ref e.1) ++ [.ref l]))) := same_at S13 nK9
      have nbL14 : Nb H10 (upd H13 Kc (.lst ((cl.map fun e => V.ref e.1) ++ [.ref l]))) b L := nbL13.keep hkL (fun b o n h => by rw [upd_ne n]; exact h)
      have el14 : (upd H13 Kc (.lst ((cl.map fun e => V.ref e.1) ++ [.ref l]))) l = some (.lst (c2.map V.int)) := by rw [upd_ne n2]; exact el13
      generalize upd H13 Kc (.lst ((cl.map fun e => V.ref e.1) ++ [.ref l])) = H14 at tn14 S14 nbL14 el14 ⊢
      have hcl2 : ∀ j e, (cl ++ [(l, c2)])[j]? = some e → Clim (eds ts) (Sof N1 N2 j) e.2 := fun j e h => by
        rcases Nat.lt_or_ge j cl.length with g | g
        · rw [List.getElem?_append_left g] at h; exact hcl j e h
        · rw [List.getElem?_append_right g] at h
          have hj : j - cl.length = 0 := by
            have := (List.getElem?_eq_some_iff.mp h).1
            have e1 : ([(l, c2)] : List (Addr × List Int)).length = 1 := rfl
            omega
          rw [hj] at h
          cases h
          have : j = i := by omega
          rw [this]; exact clm
      have lcl2 : (cl ++ [(l, c2)]).length = i + 1 := by rw [List.length_append, lcl] <;> rfl
      obtain ⟨cl2, hcl0⟩ : ∃ cl2, cl2 = cl ++ [(l, c2)] := ⟨_, rfl⟩
      rw [← hcl0] at tn14 hcl2 lcl2
      clear hcl0 tn13 S13 nbL13 tn12 S12 nbL12 s13 s12 nl nl2 el el2 el13 hcl lcl tn11 S11 s11 tn s10
      -- the climbs once more
      refine ⟨_, rfl, Kc, rfl, ⟨_, sl_map tn14.ek⟩, fun Z nZ => ?_⟩
      have Zz : Z ≠ z := fun y => tn14.st.some (y ▸ nZ)
      refine lc_list (xs := cl2.map fun e => V.ref e.1) (fun j H' => ∃ us : List Tr, Tg H14 H' z Z us j ∧ ∀ t ∈ us, ∀ q, t.2.2 = .ref q → q ≠ z) ⟨[], ⟨(Keep.refl _ _).at_ nZ, tn14.st.upd Zz.symm, ⟨upd_same, (fun _ h => nomatch h), (fun _ h => nomatch h)⟩, Zz, nZ, (fun _ h => nomatch h), Nat.zero_le _⟩, (fun _ h => nomatch h)⟩ (fun i H' _ h => by obtain ⟨_, g, _⟩ := h; exact sl_map (g.keep _ _ tn14.zk tn14.ek)) ?_ ?_
      · rintro j x0 H15 hx0 ⟨us, g, gz⟩
        rw [List.getElem?_map] at hx0
        obtain ⟨e1, he, rfl⟩ := Option.map_eq_some_iff.mp hx0
        have em := List.mem_of_getElem? he
        have hj := (List.getElem?_eq_some_iff.mp he).1
        have few1 : e1.2.length ≤ 181 := Clim.few (hcl2 j e1 he)
        have ee := g.keep _ _ (tn14.cz e1 em).1 (tn14.ec e1 em)
        refine ⟨rfl, _, rfl, ?_⟩
        refine ⟨e1.1, _, rfl, .inl (sl_map ee), fun Lc nL => ⟨by show 2 ≤ sizeLine; decide, fun Tp nT => ?_⟩⟩
        obtain ⟨eg, G, rG, g2, kG⟩ := g.stepC nL nT (ks := e1.2) (by omega)
        refine ⟨_, eg, by have := g.few; rw [List.length_map]; exact small1000 (by omega), _, by rw [rG]; exact g2, fun t ht q hq => ?_⟩
        rcases List.mem_append.mp ht with h | h
        · exact gz t h q hq
        · rw [List.mem_singleton.mp h] at hq
          cases hq
          exact fun y => g.st.some (y ▸ nL)
      rintro H15 ⟨us, g, gz⟩
      rw [List.length_map] at g
      have tn15 := tn14.keep g.keep g.st
      have S15 := keep_same S14 g.keep nz
      have nbL15 := nbL14.keep hzL g.keep
      have el15 := g.keep _ _ n1 el14
      refine' with_restS (fun σ H' => ∃ (t : Addr) (vs : List Tr) (y16 : Option V), σ = [some (.ref a), some (.ref r), some (.ref e), some (.ref T0), some (.ref u), some (.ref b1), some (.ref b2), some (.ref z), some (.ref Kc), some (.ref d), some (.int (0 + (i : Int))), some (.ref b), some (.ref l), some (.ref t), y14, y15, y16] ∧ Keep z H15 H' ∧ Strm H' z ∧ TrL H' t vs ∧ vs.length ≤ 1000) ?r1 (fun rest => ⟨_, rfl, Kc, _, rfl, .inl (sl_map tn15.ek), _, _, rfl, rfl, _, rfl, ite_both (fun c0 => ?g1) fun _ => rest _ _ ⟨Z, us, _, rfl, Keep.refl _ _, g.st, g.tr, by have := g.few; omega⟩⟩)
      case' g1 =>
        refine ⟨_, rfl, _, rfl, _, rfl, _, rfl, r, _, _, _, rfl, rfl, sl_map ((dr9.same S15).er), at2, _, rfl, z, T0, l, ex, eds ts, c2, rfl, g.st, dt9.same S15, one, l400, by omega, el15, n1, by have := Clim.few clm; omega, fun H16 t16 vs g16 => ?_⟩
        have tr16 := g.tr.keep g.st g16.keep Zz gz
        have lv := g16.few
        have lu := g.few
        refine ⟨Z, t16, _, _, rfl, rfl, tr16.lst, g16.tr.lst, by rw [List.length_map, List.length_map]; exact Nat.le_of_lt (small1000 (by omega)), fun D nD => ?_⟩
        have Dz : D ≠ z := fun y => g16.st.some (y ▸ nD)
        exact rest _ _ ⟨D, us ++ vs, _, rfl, g16.keep.at_ (g16.keep.free g16.st nD), g16.st.upd Dz.symm, tr16.cat g16.tr nD, by rw [List.length_append]; omega⟩
      rintro σ H16 ⟨t, vs, y16, rfl, k16, st16, tr16, lv⟩
      have tn16 := tn15.keep k16 st16
      have S16 := keep_same S15 k16 nz
      have nbL16 := nbL15.keep hzL k16
      refine ⟨_, rfl, _, rfl, _, rfl, _, rfl, _, rfl, u, T0, b, d, t, eds ts, L, M, Sof N1 N2 i, vs, rfl, rg9.same S16, dt9.same S16, l400, nbL16.toBu, fitL, tn16.nb.toBu, samB, wdS i, o.srt, tr16, lv, fun H17 s17 => ⟨true, rfl, iteF ?_⟩⟩
      have keys : L.map (·.1) = M.map (·.1) := shape_keys shL
      refine ⟨_, rfl, d, _, rfl, .inl (s17 _ _ tn16.nb.un), fun Z1 nZ1 => ?_⟩
      have s18 := same_new (o := HO.lst ((entK M).map fun kv => kV kv.1)) nZ1
      refine ⟨_, rfl, b, _, rfl, .inl (s18 _ _ (s17 _ _ nbL16.un)), fun Z2 nZ2 => ?_⟩
      have s19 := same_new (o := HO.lst ((entK L).map fun kv => kV kv.1)) nZ2
      refine ⟨Z1, Z2, _, _, rfl, rfl, sl_map (s19 _ _ upd_same), sl_map upd_same, ⟨1, by decide, by rw [keys_ent, keys_ent, keys]; exact paired_s _⟩, false, rfl, iteF ?_⟩
      have s1619 := s17.trans (s18.trans s19)
      have tn19 := tn16.same s1619
      have S19 := S16.trans s1619
      generalize upd (upd H17 Z1 (.lst ((entK M).map fun kv => kV kv.1))) Z2 (.lst ((entK L).map fun kv => kV kv.1)) = H19 at tn19 S19 ⊢
      clear s19 nZ2 s18 nZ1 s1619 s17 tn16 S16 nbL16 st16 tr16 k16 tn15 S15 nbL15 el15 g gz us Zz nZ tn14 S14 nbL14 el14 nbL shL samB fitL hzL hkL
      -- the box of this turn
      obtain ⟨bk, Nk, atk, buk, ok, ek⟩ : ∃ (bk : Addr) (Nk : List Ent), atI [V.ref b2, .ref b1, .ref b2] (0 + (i : Int)) = some (.ref bk) ∧ Bu H9 bk Nk ∧ BoxO Nk xs m ∧ Sof N1 N2 (i + 1) = sd Nk := by
        match i, hi with
        | 0, _ => exact ⟨b2, N2, at_int (by decide) rfl, bu2, o2, rfl⟩
        | 1, _ => exact ⟨b1, N1, at_int (by decide) rfl, bu1', o1, rfl⟩
        | 2, _ => exact ⟨b2, N2, at_int (by decide) rfl, bu2, o2, rfl⟩
      refine ⟨_, rfl, T0, _, _, .ref nm, rfl, rfl, .inl (.inl (S19 _ _ hT9)), atI_nat (j := 1) rfl, nm, rfl, ⟨_, sl_map (S19 _ _ enm9)⟩, for_list (xs := (enames (eds ts)).map V.str) (fun j σ H' => ∃ (y14 y15 : Option V) (M' : List Ent), σ = [some (.ref a), some (.ref r), some (.ref e), some (.ref T0), some (.ref u), some (.ref b1), some (.ref b2), some (.ref z), some (.ref Kc), some (.ref d), some (.int (0 + (i : Int))), some (.ref b), some (.ref l), some (.ref t), y14, y15, y16] ∧ Same H9 H' ∧ KeepL (M.map (·.2.1)) H19 H' ∧ Nb Hb H' d M' ∧ M'.map (·.2.1) = M.map (·.2.1) ∧ BoxO M' xs m ∧ ∀ x ∈ (enames (eds ts)).take j, look M' x = some (sd Nk x))
        ⟨_, _, M, rfl, S19, KeepL.refl _ _, tn19.nb, rfl, o, (fun _ h => nomatch h)⟩ (fun j σ H' _ h => by obtain ⟨_, _, _, _, h, _⟩ := h; exact sl_map (h _ _ enm9)) ?_ ?_⟩
      · rintro j x0 σ H10 hx0 ⟨y14, y15, M', rfl, s10, kl, nb, ads, o', lk⟩
        rw [List.getElem?_map] at hx0
        obtain ⟨x, hx1, rfl⟩ := Option.map_eq_some_iff.mp hx0
        have hx := List.mem_of_getElem? hx1
        have xm := cb.names x hx
        obtain ⟨⟨x', sa, ss⟩, hm, e1, _, _⟩ := o'.get xm
        have e1' : x' = x := e1
        subst e1'
        obtain ⟨ga, ea⟩ := nb.dget hm
        have sn : H9 sa = none := sb.free (nb.freshS _ hm)
        have sin : sa ∈ M.map (·.2.1) := by rw [← ads]; exact List.mem_map.mpr ⟨_, hm, rfl⟩
        refine ⟨_, rfl, _, rfl, d, .ref sa, rfl, ga, .inl ⟨rfl, _, sl_map ea⟩, sa, _, rfl, rfl, ea, ?_⟩
        have nb2 : Nb Hb (upd H10 sa (.lst [])) d (repl M' x' []) := nb.repl (ks := []) hm
        have kl2 : KeepL (M.map (·.2.1)) H19 (upd H10 sa (.lst [])) := kl.at_ sin
        have s11 : Same H9 (upd H10 sa (.lst [])) := same_at s10 sn
        generalize upd H10 sa (.lst []) = H11 at nb2 kl2 s11 ⊢
        clear ga ea nb s10 kl H10
        obtain ⟨ka, eka, gka⟩ := Fit.get0 buk (ok.fit (ys := xs) fun _ h => h) xm
        have kso := ok.so x' xm
        have klm := ok.lm x' xm
        obtain ⟨sk, hsk⟩ : ∃ sk, sk = sd Nk x' := ⟨_, rfl⟩
        rw [← hsk] at eka kso klm
        refine ⟨_, rfl, _, rfl, _, rfl, by show 3 ≤ sizeLine; decide, fun Y nY => ?_⟩
        have sY := same_new (o := HO.lst [V.ref b2, .ref b1, .ref b2]) nY
        have nb3 := nb2.push sY
        have kl3 := kl2.same sY
        have s12 := s11.trans sY
        refine ⟨_, rfl, Y, _, _, .ref bk, rfl, rfl, sl_map upd_same, atk, _, rfl, bk, .ref ka, rfl, gka s12, ka, rfl, ⟨_, sl_map (s12 _ _ eka)⟩, for_list (xs := sk.map V.int) (fun t1 σ H' => ∃ (y15 : Option V), σ = [some (.ref a), some (.ref r), some (.ref e), some (.ref T0), some (.ref u), some (.ref b1), some (.ref b2), some (.ref z), some (.ref Kc), some (.ref d), some (.int (0 + (i : Int))), some (.ref b), some (.ref l), some (.ref t), some (.str x'), y15, y16] ∧ Same H9 H' ∧ KeepL (M.map (·.2.1)) H19 H' ∧ Nb Hb H' d (repl M' x' (sk.take t1)))
          ⟨_, rfl, s12, kl3, nb3⟩ (fun j σ H' _ h => by obtain ⟨_, _, h, _⟩ := h; exact sl_map (h _ _ eka)) ?_ ?_⟩
        · clear nb3 kl3 s12 sY nY nb2 kl2 s11 H11 y15
          rintro t1 x0 σ H11 hx0 ⟨y15, rfl, s11, kl, nb⟩
          rw [List.getElem?_map] at hx0
          obtain ⟨v, hv, rfl⟩ := Option.map_eq_some_iff.mp hx0
          have ht := (List.getElem?_eq_some_iff.mp hv).1
          obtain ⟨ga, ea⟩ := nb.dget (repl_in hm)
          refine ⟨_, rfl, _, rfl, d, .ref sa, rfl, ga, .inl ⟨rfl, _, sl_map ea⟩, _, rfl, sa, _, _, rfl, rfl, ea, by rw [List.length_map, List.length_take]; exact small1000 (by omega), _, rfl, same_at s11 sn, kl.at_ sin, ?_⟩
          have := nb.repl (ks := sk.take (t1 + 1)) (repl_in hm)
          rw [repl_repl, take_snoc hv, List.map_append] at this
          rw [take_snoc hv]
          exact this
        · clear nb3 kl3 s12 sY nY nb2 kl2 s11 H11 y15
          rintro σ H11 ⟨y15, rfl, s11, kl, nb⟩
          rw [List.length_map, List.take_length] at nb
          refine ⟨_, _, _, rfl, s11, kl, nb, (repl_ads _ _ _).trans ads, o'.repl kso (by omega) klm, fun y hy => ?_⟩
          by_cases c : y = x'
          · rw [c, ← hsk]
            exact look_in nb.nd (repl_in hm)
          · rw [look_repl c]
            rw [take_snoc hx1] at hy
            rcases List.mem_append.mp hy with h | h
            · exact lk y h
            · exact absurd (List.mem_singleton.mp h) c
      · rintro σ H12 ⟨y14, y15, M', rfl, s12, kl, nb, ads, o', lk⟩
        rw [List.length_map, List.take_length] at lk
        exact ⟨_, _, _, _, _, _, _, M', cl2, rfl, s12, tn19.kl kl nb ads, o', fun x hx => by rw [ek]; exact lk x hx, lcl2, hcl2⟩
    · rintro σ H11 ⟨y10, y11, y12, y13, y14, y15, y16, M, cl, rfl, s11, tn, o, fit, lcl, hcl⟩
      obtain ⟨e0, h0⟩ : ∃ e0, cl[0]? = some e0 := ⟨_, List.getElem?_eq_getElem (by omega)⟩
      obtain ⟨e2, h2⟩ : ∃ e2, cl[2]? = some e2 := ⟨_, List.getElem?_eq_getElem (by omega)⟩
      have eq : e0.2 = e2.2 := Clim.one (hcl 0 e0 h0) (hcl 2 e2 h2)
      have a0 := tn.ec e0 (List.mem_of_getElem? h0)
      have a2 := tn.ec e2 (List.mem_of_getElem? h2)
      rw [eq] at a0
      exact ⟨_, rfl, Kc, _, _, .ref e0.1, rfl, rfl, sl_map tn.ek, atI_nat (j := 0) (by rw [List.getElem?_map, h0] <;> rfl), _, rfl, Kc, _, _, .ref e2.1, rfl, rfl, sl_map tn.ek, atI_nat (j := 2) (by rw [List.getElem?_map, h2] <;> rfl), 1, by decide, .inl ⟨e0.1, e2.1, _, _, rfl, rfl, sl_map a0, sl_map a2, paired_i _⟩, q _⟩
end
end K56
set_option Elab.async false
set_option linter.all false
set_option maxRecDepth 100000
set_option maxHeartbeats 4000000
namespace K56
open PySem PySem.Spec PyProof.Rows L2 Cs CsX
/-! ### what the top has written -/
theorem all_mk {l : PySem.W.OpenLaw} {w : World} {K : PySem.W.Frag} {h : Heap} {mg : Str → Option Value} {fa kk0 km0_0 km0_1 km0_2 km0_3 km0_4 f1 f2 f3 f4 f5 f6 f7 f8 f9 f10 f11 f12 f13 f14 f15 f16 f17 f18 f19 f20 f21 f22 f23 f24 f25 f26 f27 f28 f29 f30 f31 f32 f33 f34 f35 f36 : Addr} (X : K.In h) (G : h.Ns mainGlobals mg) (hfa : mg "law" = some (.ref fa))
    {od1 an1 od2 an2 od3 an3 od4 an4 od5 an5 od6 an6 od7 an7 od8 an8 od9 an9 od10 an10 od11 an11 od12 an12 od13 an13 od14 an14 od15 an15 od16 an16 od17 an17 od18 an18 od19 an19 od20 an20 od21 an21 od22 an22 od23 an23 od24 an24 od25 an25 od26 an26 od27 an27 od28 an28 od29 an29 od30 an30 od31 an31 od32 an32 od33 an33 od34 an34 od35 an35 od36 an36 : Option Addr} {sl1 sl2 sl3 sl4 sl5 sl6 sl7 sl8 sl9 sl10 sl11 sl12 sl13 sl14 sl15 sl16 sl17 sl18 sl19 sl20 sl21 sl22 sl23 sl24 sl25 sl26 sl27 sl28 sl29 sl30 sl31 sl32 sl33 sl34 sl35 sl36 : Array (Option Value)}
    {oc1 kV1 dc1 pm1 cd1 ct1 oc2 kV2 dc2 pm2 cd2 ct2 oc3 kV3 dc3 pm3 cd3 ct3 oc4 kV4 dc4 pm4 cd4 ct4 oc5 kV5 dc5 pm5 cd5 ct5 oc6 kV6 dc6 pm6 cd6 ct6 oc7 kV7 dc7 pm7 cd7 ct7 oc8 kV8 dc8 pm8 cd8 ct8 oc9 kV9 dc9 pm9 cd9 ct9 oc10 kV10 dc10 pm10 cd10 ct10 oc11 kV11 dc11 pm11 cd11 ct11 oc12 kV12 dc12 pm12 cd12 ct12 oc13 kV13 dc13 pm13 cd13 ct13 oc14 kV14 dc14 pm14 cd14 ct14 oc15 kV15 dc15 pm15 cd15 ct15 oc16 kV16 dc16 pm16 cd16 ct16 oc17 kV17 dc17 pm17 cd17 ct17 oc18 kV18 dc18 pm18 cd18 ct18 oc19 kV19 dc19 pm19 cd19 ct19 oc20 kV20 dc20 pm20 cd20 ct20 oc21 kV21 dc21 pm21 cd21 ct21 oc22 kV22 dc22 pm22 cd22 ct22 oc23 kV23 dc23 pm23 cd23 ct23 oc24 kV24 dc24 pm24 cd24 ct24 oc25 kV25 dc25 pm25 cd25 ct25 oc26 kV26 dc26 pm26 cd26 ct26 oc27 kV27 dc27 pm27 cd27 ct27 oc28 kV28 dc28 pm28 cd28 ct28 oc29 kV29 dc29 pm29 cd29 ct29 oc30 kV30 dc30 pm30 cd30 ct30 oc31 kV31 dc31 pm31 cd31 ct31 oc32 kV32 dc32 pm32 cd32 ct32 oc33 kV33 dc33 pm33 cd33 ct33 oc34 kV34 dc34 pm34 cd34 ct34 oc35 kV35 dc35 pm35 cd35 ct35 oc36 kV36 dc36 pm36 cd36 ct36 : Value}
    {km0_0od km0_0an : Option Addr} {km0_0sl : Array (Option Value)} {km0_0oc km0_0kV km0_0dc km0_0pm km0_0cd km0_0ct : Value}
    {km0_1od km0_1an : Option Addr} {km0_1sl : Array (Option Value)} {km0_1oc km0_1kV km0_1dc km0_1pm km0_1cd km0_1ct : Value}
    {km0_2od km0_2an : Option Addr} {km0_2sl : Array (Option Value)} {km0_2oc km0_2kV km0_2dc km0_2pm km0_2cd km0_2ct : Value}
    {km0_3od km0_3an : Option Addr} {km0_3sl : Array (Option Value)} {km0_3oc km0_3kV km0_3dc km0_3pm km0_3cd km0_3ct : Value}
    {km0_4od km0_4an : Option Addr} {km0_4sl : Array (Option Value)} {km0_4oc km0_4kV km0_4dc km0_4pm km0_4cd km0_4ct : Value}
    (a1 : PySem.W.nsIn K mainGlobals "_law_is_integer" = some (some (.ref f1))) (l1 : K.lookup f1 = some ⟨oc1, od1, .func (PySem.W.fnOf "_law_is_integer" "_law_is_integer" (defArgs sIsInt) (defBody sIsInt) (defScope sIsInt) .none kV1 dc1 pm1 an1 cd1 ct1), sl1⟩) (c1 : PySem.W.codeIn K cd1 "_law_is_integer" = true) (k1 : PySem.W.keepIn K (.ref f1) = true)
    (a2 : PySem.W.nsIn K mainGlobals "_law_stream" = some (some (.ref f2))) (l2 : K.lookup f2 = some ⟨oc2, od2, .func (PySem.W.fnOf "_law_stream" "_law_stream" (defArgs sStream) (defBody sStream) (defScope sStream) .none kV2 dc2 pm2 an2 cd2 ct2), sl2⟩) (c2 : PySem.W.codeIn K cd2 "_law_stream" = true) (k2 : PySem.W.keepIn K (.ref f2) = true)
    (a3 : PySem.W.nsIn K mainGlobals "_law_next" = some (some (.ref f3))) (l3 : K.lookup f3 = some ⟨oc3, od3, .func (PySem.W.fnOf "_law_next" "_law_next" (defArgs sDraw) (defBody sDraw) (defScope sDraw) .none kV3 dc3 pm3 an3 cd3 ct3), sl3⟩) (c3 : PySem.W.codeIn K cd3 "_law_next" = true) (k3 : PySem.W.keepIn K (.ref f3) = true)
    (a4 : PySem.W.nsIn K mainGlobals "_law_names" = some (some (.ref f4))) (l4 : K.lookup f4 = some ⟨oc4, od4, .func (PySem.W.fnOf "_law_names" "_law_names" (defArgs sNames) (defBody sNames) (defScope sNames) .none kV4 dc4 pm4 an4 cd4 ct4), sl4⟩) (c4 : PySem.W.codeIn K cd4 "_law_names" = true) (k4 : PySem.W.keepIn K (.ref f4) = true)
    (a5 : PySem.W.nsIn K mainGlobals "_law_pool" = some (some (.ref f5))) (l5 : K.lookup f5 = some ⟨oc5, od5, .func (PySem.W.fnOf "_law_pool" "_law_pool" (defArgs sPool) (defBody sPool) (defScope sPool) .none kV5 dc5 pm5 an5 cd5 ct5), sl5⟩) (c5 : PySem.W.codeIn K cd5 "_law_pool" = true) (k5 : PySem.W.keepIn K (.ref f5) = true)
    (a6 : PySem.W.nsIn K mainGlobals "_law_domains" = some (some (.ref f6))) (l6 : K.lookup f6 = some ⟨oc6, od6, .func (PySem.W.fnOf "_law_domains" "_law_domains" (defArgs sDoms) (defBody sDoms) (defScope sDoms) .none kV6 dc6 pm6 an6 cd6 ct6), sl6⟩) (c6 : PySem.W.codeIn K cd6 "_law_domains" = true) (k6 : PySem.W.keepIn K (.ref f6) = true)
    (a7 : PySem.W.nsIn K mainGlobals "_law_part" = some (some (.ref f7))) (l7 : K.lookup f7 = some ⟨oc7, od7, .func (PySem.W.fnOf "_law_part" "_law_part" (defArgs sPart) (defBody sPart) (defScope sPart) .none kV7 dc7 pm7 an7 cd7 ct7), sl7⟩) (c7 : PySem.W.codeIn K cd7 "_law_part" = true) (k7 : PySem.W.keepIn K (.ref f7) = true)
    (a8 : PySem.W.nsIn K mainGlobals "_law_is_side" = some (some (.ref f8))) (l8 : K.lookup f8 = some ⟨oc8, od8, .func (PySem.W.fnOf "_law_is_side" "_law_is_side" (defArgs sIsSide) (defBody sIsSide) (defScope sIsSide) .none kV8 dc8 pm8 an8 cd8 ct8), sl8⟩) (c8 : PySem.W.codeIn K cd8 "_law_is_side" = true) (k8 : PySem.W.keepIn K (.ref f8) = true)
    (a9 : PySem.W.nsIn K mainGlobals "_law_same_sides" = some (some (.ref f9))) (l9 : K.lookup f9 = some ⟨oc9, od9, .func (PySem.W.fnOf "_law_same_sides" "_law_same_sides" (defArgs sSame) (defBody sSame) (defScope sSame) .none kV9 dc9 pm9 an9 cd9 ct9), sl9⟩) (c9 : PySem.W.codeIn K cd9 "_law_same_sides" = true) (k9 : PySem.W.keepIn K (.ref f9) = true)
    (a10 : PySem.W.nsIn K mainGlobals "next_value" = some (some (.ref f10))) (l10 : K.lookup f10 = some ⟨oc10, od10, .func (PySem.W.fnOf "next_value" "next_value" (defArgs sNxt) (defBody sNxt) (defScope sNxt) .none kV10 dc10 pm10 an10 cd10 ct10), sl10⟩) (c10 : PySem.W.codeIn K cd10 "next_value" = true) (k10 : PySem.W.keepIn K (.ref f10) = true)
    (a11 : PySem.W.nsIn K mainGlobals "edge_names" = some (some (.ref f11))) (l11 : K.lookup f11 = some ⟨oc11, od11, .func (PySem.W.fnOf "edge_names" "edge_names" (defArgs sEdn) (defBody sEdn) (defScope sEdn) .none kV11 dc11 pm11 an11 cd11 ct11), sl11⟩) (c11 : PySem.W.codeIn K cd11 "edge_names" = true) (k11 : PySem.W.keepIn K (.ref f11) = true)
    (a12 : PySem.W.nsIn K mainGlobals "least_values" = some (some (.ref f12))) (l12 : K.lookup f12 = some ⟨oc12, od12, .func (PySem.W.fnOf "least_values" "least_values" (defArgs sLvs) (defBody sLvs) (defScope sLvs) .none kV12 dc12 pm12 an12 cd12 ct12), sl12⟩) (c12 : PySem.W.codeIn K cd12 "least_values" = true) (k12 : PySem.W.keepIn K (.ref f12) = true)
    (a13 : PySem.W.nsIn K mainGlobals "step_value" = some (some (.ref f13))) (l13 : K.lookup f13 = some ⟨oc13, od13, .func (PySem.W.fnOf "step_value" "step_value" (defArgs sSpv) (defBody sSpv) (defScope sSpv) .none kV13 dc13 pm13 an13 cd13 ct13), sl13⟩) (c13 : PySem.W.codeIn K cd13 "step_value" = true) (k13 : PySem.W.keepIn K (.ref f13) = true)
    (a14 : PySem.W.nsIn K mainGlobals "climbed" = some (some (.ref f14))) (l14 : K.lookup f14 = some ⟨oc14, od14, .func (PySem.W.fnOf "climbed" "climbed" (defArgs sClb) (defBody sClb) (defScope sClb) .none kV14 dc14 pm14 an14 cd14 ct14), sl14⟩) (c14 : PySem.W.codeIn K cd14 "climbed" = true) (k14 : PySem.W.keepIn K (.ref f14) = true)
    (a15 : PySem.W.nsIn K mainGlobals "least_climb" = some (some (.ref f15))) (l15 : K.lookup f15 = some ⟨oc15, od15, .func (PySem.W.fnOf "least_climb" "least_climb" (defArgs sLcl) (defBody sLcl) (defScope sLcl) .none kV15 dc15 pm15 an15 cd15 ct15), sl15⟩) (c15 : PySem.W.codeIn K cd15 "least_climb" = true) (k15 : PySem.W.keepIn K (.ref f15) = true)
    (a16 : PySem.W.nsIn K mainGlobals "first_empty" = some (some (.ref f16))) (l16 : K.lookup f16 = some ⟨oc16, od16, .func (PySem.W.fnOf "first_empty" "first_empty" (defArgs sFem) (defBody sFem) (defScope sFem) .none kV16 dc16 pm16 an16 cd16 ct16), sl16⟩) (c16 : PySem.W.codeIn K cd16 "first_empty" = true) (k16 : PySem.W.keepIn K (.ref f16) = true)
    (a17 : PySem.W.nsIn K mainGlobals "checked_names" = some (some (.ref f17))) (l17 : K.lookup f17 = some ⟨oc17, od17, .func (PySem.W.fnOf "checked_names" "checked_names" (defArgs sChk) (defBody sChk) (defScope sChk) .none kV17 dc17 pm17 an17 cd17 ct17), sl17⟩) (c17 : PySem.W.codeIn K cd17 "checked_names" = true) (k17 : PySem.W.keepIn K (.ref f17) = true)
    (a18 : PySem.W.nsIn K mainGlobals "_law_copy" = some (some (.ref f18))) (l18 : K.lookup f18 = some ⟨oc18, od18, .func (PySem.W.fnOf "_law_copy" "_law_copy" (defArgs sCpy) (defBody sCpy) (defScope sCpy) .none kV18 dc18 pm18 an18 cd18 ct18), sl18⟩) (c18 : PySem.W.codeIn K cd18 "_law_copy" = true) (k18 : PySem.W.keepIn K (.ref f18) = true)
    (a19 : PySem.W.nsIn K mainGlobals "_law_assignments" = some (some (.ref f19))) (l19 : K.lookup f19 = some ⟨oc19, od19, .func (PySem.W.fnOf "_law_assignments" "_law_assignments" (defArgs sAsg) (defBody sAsg) (defScope sAsg) .none kV19 dc19 pm19 an19 cd19 ct19), sl19⟩) (c19 : PySem.W.codeIn K cd19 "_law_assignments" = true) (k19 : PySem.W.keepIn K (.ref f19) = true)
    (a20 : PySem.W.nsIn K mainGlobals "_law_allows" = some (some (.ref f20))) (l20 : K.lookup f20 = some ⟨oc20, od20, .func (PySem.W.fnOf "_law_allows" "_law_allows" (defArgs sAlw) (defBody sAlw) (defScope sAlw) .none kV20 dc20 pm20 an20 cd20 ct20), sl20⟩) (c20 : PySem.W.codeIn K cd20 "_law_allows" = true) (k20 : PySem.W.keepIn K (.ref f20) = true)
    (a21 : PySem.W.nsIn K mainGlobals "_law_allowed" = some (some (.ref f21))) (l21 : K.lookup f21 = some ⟨oc21, od21, .func (PySem.W.fnOf "_law_allowed" "_law_allowed" (defArgs sAld) (defBody sAld) (defScope sAld) .none kV21 dc21 pm21 an21 cd21 ct21), sl21⟩) (c21 : PySem.W.codeIn K cd21 "_law_allowed" = true) (k21 : PySem.W.keepIn K (.ref f21) = true)
    (a22 : PySem.W.nsIn K mainGlobals "_law_edge_names" = some (some (.ref f22))) (l22 : K.lookup f22 = some ⟨oc22, od22, .func (PySem.W.fnOf "_law_edge_names" "_law_edge_names" (defArgs sLen) (defBody sLen) (defScope sLen) .none kV22 dc22 pm22 an22 cd22 ct22), sl22⟩) (c22 : PySem.W.codeIn K cd22 "_law_edge_names" = true) (k22 : PySem.W.keepIn K (.ref f22) = true)
    (a23 : PySem.W.nsIn K mainGlobals "_law_ring_data" = some (some (.ref f23))) (l23 : K.lookup f23 = some ⟨oc23, od23, .func (PySem.W.fnOf "_law_ring_data" "_law_ring_data" (defArgs sRda) (defBody sRda) (defScope sRda) .none kV23 dc23 pm23 an23 cd23 ct23), sl23⟩) (c23 : PySem.W.codeIn K cd23 "_law_ring_data" = true) (k23 : PySem.W.keepIn K (.ref f23) = true)
    (a24 : PySem.W.nsIn K mainGlobals "_law_ring_case" = some (some (.ref f24))) (l24 : K.lookup f24 = some ⟨oc24, od24, .func (PySem.W.fnOf "_law_ring_case" "_law_ring_case" (defArgs sRcs) (defBody sRcs) (defScope sRcs) .none kV24 dc24 pm24 an24 cd24 ct24), sl24⟩) (c24 : PySem.W.codeIn K cd24 "_law_ring_case" = true) (k24 : PySem.W.keepIn K (.ref f24) = true)
    (a25 : PySem.W.nsIn K mainGlobals "_law_sides" = some (some (.ref f25))) (l25 : K.lookup f25 = some ⟨oc25, od25, .func (PySem.W.fnOf "_law_sides" "_law_sides" (defArgs sSd) (defBody sSd) (defScope sSd) .none kV25 dc25 pm25 an25 cd25 ct25), sl25⟩) (c25 : PySem.W.codeIn K cd25 "_law_sides" = true) (k25 : PySem.W.keepIn K (.ref f25) = true)
    (a26 : PySem.W.nsIn K mainGlobals "_law_box" = some (some (.ref f26))) (l26 : K.lookup f26 = some ⟨oc26, od26, .func (PySem.W.fnOf "_law_box" "_law_box" (defArgs sBxx) (defBody sBxx) (defScope sBxx) .none kV26 dc26 pm26 an26 cd26 ct26), sl26⟩) (c26 : PySem.W.codeIn K cd26 "_law_box" = true) (k26 : PySem.W.keepIn K (.ref f26) = true)
    (a27 : PySem.W.nsIn K mainGlobals "shows_empty" = some (some (.ref f27))) (l27 : K.lookup f27 = some ⟨oc27, od27, .func (PySem.W.fnOf "shows_empty" "shows_empty" (defArgs sShw) (defBody sShw) (defScope sShw) .none kV27 dc27 pm27 an27 cd27 ct27), sl27⟩) (c27 : PySem.W.codeIn K cd27 "shows_empty" = true) (k27 : PySem.W.keepIn K (.ref f27) = true)
    (a28 : PySem.W.nsIn K mainGlobals "_law_same_values" = some (some (.ref f28))) (l28 : K.lookup f28 = some ⟨oc28, od28, .func (PySem.W.fnOf "_law_same_values" "_law_same_values" (defArgs sSv) (defBody sSv) (defScope sSv) .none kV28 dc28 pm28 an28 cd28 ct28), sl28⟩) (c28 : PySem.W.codeIn K cd28 "_law_same_values" = true) (k28 : PySem.W.keepIn K (.ref f28) = true)
    (a29 : PySem.W.nsIn K mainGlobals "_law_first_empty" = some (some (.ref f29))) (l29 : K.lookup f29 = some ⟨oc29, od29, .func (PySem.W.fnOf "_law_first_empty" "_law_first_empty" (defArgs sLfe) (defBody sLfe) (defScope sLfe) .none kV29 dc29 pm29 an29 cd29 ct29), sl29⟩) (c29 : PySem.W.codeIn K cd29 "_law_first_empty" = true) (k29 : PySem.W.keepIn K (.ref f29) = true)
    (a30 : PySem.W.nsIn K mainGlobals "_law_breaks" = some (some (.ref f30))) (l30 : K.lookup f30 = some ⟨oc30, od30, .func (PySem.W.fnOf "_law_breaks" "_law_breaks" (defArgs sLbk) (defBody sLbk) (defScope sLbk) .none kV30 dc30 pm30 an30 cd30 ct30), sl30⟩) (c30 : PySem.W.codeIn K cd30 "_law_breaks" = true) (k30 : PySem.W.keepIn K (.ref f30) = true)
    (a31 : PySem.W.nsIn K mainGlobals "_law_asked" = some (some (.ref f31))) (l31 : K.lookup f31 = some ⟨oc31, od31, .func (PySem.W.fnOf "_law_asked" "_law_asked" (defArgs sAsk) (defBody sAsk) (defScope sAsk) .none kV31 dc31 pm31 an31 cd31 ct31), sl31⟩) (c31 : PySem.W.codeIn K cd31 "_law_asked" = true) (k31 : PySem.W.keepIn K (.ref f31) = true)
    (a32 : PySem.W.nsIn K mainGlobals "_law_spoilt" = some (some (.ref f32))) (l32 : K.lookup f32 = some ⟨oc32, od32, .func (PySem.W.fnOf "_law_spoilt" "_law_spoilt" (defArgs sSpo) (defBody sSpo) (defScope sSpo) .none kV32 dc32 pm32 an32 cd32 ct32), sl32⟩) (c32 : PySem.W.codeIn K cd32 "_law_spoilt" = true) (k32 : PySem.W.keepIn K (.ref f32) = true)
    (a33 : PySem.W.nsIn K mainGlobals "_law_tried" = some (some (.ref f33))) (l33 : K.lookup f33 = some ⟨oc33, od33, .func (PySem.W.fnOf "_law_tried" "_law_tried" (defArgs sTri) (defBody sTri) (defScope sTri) .none kV33 dc33 pm33 an33 cd33 ct33), sl33⟩) (c33 : PySem.W.codeIn K cd33 "_law_tried" = true) (k33 : PySem.W.keepIn K (.ref f33) = true)
    (a34 : PySem.W.nsIn K mainGlobals "_law_due" = some (some (.ref f34))) (l34 : K.lookup f34 = some ⟨oc34, od34, .func (PySem.W.fnOf "_law_due" "_law_due" (defArgs sDue) (defBody sDue) (defScope sDue) .none kV34 dc34 pm34 an34 cd34 ct34), sl34⟩) (c34 : PySem.W.codeIn K cd34 "_law_due" = true) (k34 : PySem.W.keepIn K (.ref f34) = true)
    (a35 : PySem.W.nsIn K mainGlobals "_law_judged" = some (some (.ref f35))) (l35 : K.lookup f35 = some ⟨oc35, od35, .func (PySem.W.fnOf "_law_judged" "_law_judged" (defArgs sJud) (defBody sJud) (defScope sJud) .none kV35 dc35 pm35 an35 cd35 ct35), sl35⟩) (c35 : PySem.W.codeIn K cd35 "_law_judged" = true) (k35 : PySem.W.keepIn K (.ref f35) = true)
    (a36 : PySem.W.nsIn K mainGlobals "law" = some (some (.ref f36))) (l36 : K.lookup f36 = some ⟨oc36, od36, .func (PySem.W.fnOf "law" "law" (defArgs sLaw) (defBody sLaw) (defScope sLaw) .none kV36 dc36 pm36 an36 cd36 ct36), sl36⟩) (c36 : PySem.W.codeIn K cd36 "law" = true) (k36 : PySem.W.keepIn K (.ref f36) = true)
    (kc0 : PySem.W.nsIn K mainGlobals "Ring" = some (some (.ref kk0)))
    (kpg0 : PySem.W.plainGet K kk0 Str.empty = true)
    (khd0 : PySem.W.hasDictIn K kk0 = true)
    (kpo0 : PySem.W.plainOver K kk0 = true)
    (ksa0 : PySem.W.findIn K (.ref kk0) "__setattr__" = some (some (.builtin "object.__setattr__")))
    (kmk0 : PySem.W.makesIn K kk0 = true)
    (kkc0 : PySem.W.keepIn K (.ref kk0) = true)
    (kn0_0 : PySem.W.findIn K (.ref kk0) "names" = some none)
    (kn0_1 : PySem.W.findIn K (.ref kk0) "edges" = some none)
    (km0_0a : PySem.W.findIn K (.ref kk0) "__init__" = some (some (.ref km0_0)))
    (km0_0i : PySem.W.isFn K (.ref km0_0) = true)
    (km0_0l : K.lookup km0_0 = some ⟨km0_0oc, km0_0od, .func (PySem.W.fnOf "__init__" "Ring.__init__" (defArgs sRin) (defBody sRin) (defScope sRin) .none km0_0kV km0_0dc km0_0pm km0_0an km0_0cd km0_0ct), km0_0sl⟩)
    (km0_0c : PySem.W.codeIn K km0_0cd "Ring.__init__" = true)
    (km0_0k : PySem.W.keepIn K (.ref km0_0) = true)
    (km0_1a : PySem.W.findIn K (.ref kk0) "witness" = some (some (.ref km0_1)))
    (km0_1i : PySem.W.isFn K (.ref km0_1) = true)
    (km0_1l : K.lookup km0_1 = some ⟨km0_1oc, km0_1od, .func (PySem.W.fnOf "witness" "Ring.witness" (defArgs sWit) (defBody sWit) (defScope sWit) .none km0_1kV km0_1dc km0_1pm km0_1an km0_1cd km0_1ct), km0_1sl⟩)
    (km0_1c : PySem.W.codeIn K km0_1cd "Ring.witness" = true)
    (km0_1k : PySem.W.keepIn K (.ref km0_1) = true)
    (km0_2a : PySem.W.findIn K (.ref kk0) "certificate" = some (some (.ref km0_2)))
    (km0_2i : PySem.W.isFn K (.ref km0_2) = true)
    (km0_2l : K.lookup km0_2 = some ⟨km0_2oc, km0_2od, .func (PySem.W.fnOf "certificate" "Ring.certificate" (defArgs sCer) (defBody sCer) (defScope sCer) .none km0_2kV km0_2dc km0_2pm km0_2an km0_2cd km0_2ct), km0_2sl⟩)
    (km0_2c : PySem.W.codeIn K km0_2cd "Ring.certificate" = true)
    (km0_2k : PySem.W.keepIn K (.ref km0_2) = true)
    (km0_3a : PySem.W.findIn K (.ref kk0) "accepts" = some (some (.ref km0_3)))
    (km0_3i : PySem.W.isFn K (.ref km0_3) = true)
    (km0_3l : K.lookup km0_3 = some ⟨km0_3oc, km0_3od, .func (PySem.W.fnOf "accepts" "Ring.accepts" (defArgs sAcc) (defBody sAcc) (defScope sAcc) .none km0_3kV km0_3dc km0_3pm km0_3an km0_3cd km0_3ct), km0_3sl⟩)
    (km0_3c : PySem.W.codeIn K km0_3cd "Ring.accepts" = true)
    (km0_3k : PySem.W.keepIn K (.ref km0_3) = true)
    (km0_4a : PySem.W.findIn K (.ref kk0) "_breaks" = some (some (.ref km0_4)))
    (km0_4i : PySem.W.isFn K (.ref km0_4) = true)
    (km0_4l : K.lookup km0_4 = some ⟨km0_4oc, km0_4od, .func (PySem.W.fnOf "_breaks" "Ring._breaks" (defArgs sBrk) (defBody sBrk) (defScope sBrk) .none km0_4kV km0_4dc km0_4pm km0_4an km0_4cd km0_4ct), km0_4sl⟩)
    (km0_4c : PySem.W.codeIn K km0_4cd "Ring._breaks" = true)
    (km0_4k : PySem.W.keepIn K (.ref km0_4) = true)
    (z1 : PySem.W.nsIn K mainGlobals "sorted" = some none) (z2 : PySem.W.nsIn K mainGlobals "set" = some none) (z3 : PySem.W.nsIn K mainGlobals "len" = some none) (z4 : PySem.W.nsIn K mainGlobals "isinstance" = some none) (z5 : PySem.W.nsIn K mainGlobals "int" = some none) (z6 : PySem.W.nsIn K mainGlobals "bool" = some none) (z7 : PySem.W.nsIn K mainGlobals "list" = some none) (z8 : PySem.W.nsIn K mainGlobals "all" = some none) (z9 : PySem.W.nsIn K mainGlobals "range" = some none) (z10 : PySem.W.nsIn K mainGlobals "dict" = some none) (z11 : PySem.W.nsIn K mainGlobals "max" = some none) (z12 : PySem.W.nsIn K mainGlobals "enumerate" = some none) (z13 : PySem.W.nsIn K mainGlobals "tuple" = some none) (z14 : PySem.W.nsIn K mainGlobals "sum" = some none) (z15 : PySem.W.nsIn K mainGlobals "str" = some none) :
    ∃ fd : FuncData, (∀ (s : Shared) (v : Value), BindsTo s fd ⟨[v], []⟩ [("_law_script", v)]) ∧ ∀ base : Heap, K.In base → base.Ns mainGlobals mg → FnOk l.prog w K mg base CX0 7 fa fd ["_law_script"] (spLaw K) := by
  have e := hfa.symm.trans (PySem.W.mg_of X G a36)
  cases e
  have B : Bt mg := ⟨PySem.W.mg_none_of X G z1, PySem.W.mg_none_of X G z2, PySem.W.mg_none_of X G z3, PySem.W.mg_none_of X G z4, PySem.W.mg_none_of X G z5, PySem.W.mg_none_of X G z6, PySem.W.mg_none_of X G z7, PySem.W.mg_none_of X G z8, PySem.W.mg_none_of X G z9, PySem.W.mg_none_of X G z10⟩
  have F1 := fun_mk (st := sIsInt) l1 c1 k1
  have b1 := F1.binds (ps := ["_law_actual"]) fun _ _ _ _ _ _ us hl => match us, hl with | [_], _ => rfl
  have F2 := fun_mk (st := sStream) l2 c2 k2
  have b2 := F2.binds (ps := ["_law_script", "_law_k"]) fun _ _ _ _ _ _ us hl => match us, hl with | [_, _], _ => rfl
  have F3 := fun_mk (st := sDraw) l3 c3 k3
  have b3 := F3.binds (ps := ["_law_stream_here", "_law_size"]) fun _ _ _ _ _ _ us hl => match us, hl with | [_, _], _ => rfl
  have F4 := fun_mk (st := sNames) l4 c4 k4
  have b4 := F4.binds (ps := ["_law_stream_here", "_law_count"]) fun _ _ _ _ _ _ us hl => match us, hl with | [_, _], _ => rfl
  have F5 := fun_mk (st := sPool) l5 c5 k5
  have b5 := F5.binds (ps := ["_law_stream_here", "_law_count"]) fun _ _ _ _ _ _ us hl => match us, hl with | [_, _], _ => rfl
  have F6 := fun_mk (st := sDoms) l6 c6 k6
  have b6 := F6.binds (ps := ["_law_stream_here", "_law_names_here", "_law_pool_here", "_law_most"]) fun _ _ _ _ _ _ us hl => match us, hl with | [_, _, _, _], _ => rfl
  have F7 := fun_mk (st := sPart) l7 c7 k7
  have b7 := F7.binds (ps := ["_law_stream_here", "_law_side"]) fun _ _ _ _ _ _ us hl => match us, hl with | [_, _], _ => rfl
  have F8 := fun_mk (st := sIsSide) l8 c8 k8
  have b8 := F8.binds (ps := ["_law_actual"]) fun _ _ _ _ _ _ us hl => match us, hl with | [_], _ => rfl
  have F9 := fun_mk (st := sSame) l9 c9 k9
  have b9 := F9.binds (ps := ["_law_actual", "_law_expected"]) fun _ _ _ _ _ _ us hl => match us, hl with | [_, _], _ => rfl
  have F10 := fun_mk (st := sNxt) l10 c10 k10
  have b10 := F10.binds (ps := ["side", "least"]) fun _ _ _ _ _ _ us hl => match us, hl with | [_, _], _ => rfl
  have F11 := fun_mk (st := sEdn) l11 c11 k11
  have b11 := F11.binds (ps := ["edges"]) fun _ _ _ _ _ _ us hl => match us, hl with | [_], _ => rfl
  have F12 := fun_mk (st := sLvs) l12 c12 k12
  have b12 := F12.binds (ps := ["names", "box"]) fun _ _ _ _ _ _ us hl => match us, hl with | [_, _], _ => rfl
  have F13 := fun_mk (st := sSpv) l13 c13 k13
  have b13 := F13.binds (ps := ["edge", "values", "box"]) fun _ _ _ _ _ _ us hl => match us, hl with | [_, _, _], _ => rfl
  have F14 := fun_mk (st := sClb) l14 c14 k14
  have b14 := F14.binds (ps := ["edges", "box", "start", "moved"]) fun _ _ _ _ _ _ us hl => match us, hl with | [_, _, _, _], _ => rfl
  have F15 := fun_mk (st := sLcl) l15 c15 k15
  have b15 := F15.binds (ps := ["edges", "box"]) fun _ _ _ _ _ _ us hl => match us, hl with | [_, _], _ => rfl
  have F16 := fun_mk (st := sFem) l16 c16 k16
  have b16 := F16.binds (ps := ["names", "box"]) fun _ _ _ _ _ _ us hl => match us, hl with | [_, _], _ => rfl
  have F17 := fun_mk (st := sChk) l17 c17 k17
  have b17 := F17.binds (ps := ["names"]) fun _ _ _ _ _ _ us hl => match us, hl with | [_], _ => rfl
  have F18 := fun_mk (st := sCpy) l18 c18 k18
  have b18 := F18.binds (ps := ["_law_sides_here"]) fun _ _ _ _ _ _ us hl => match us, hl with | [_], _ => rfl
  have F19 := fun_mk (st := sAsg) l19 c19 k19
  have b19 := F19.binds (ps := ["_law_names_here", "_law_sides_here"]) fun _ _ _ _ _ _ us hl => match us, hl with | [_, _], _ => rfl
  have F20 := fun_mk (st := sAlw) l20 c20 k20
  have b20 := F20.binds (ps := ["_law_data", "_law_values"]) fun _ _ _ _ _ _ us hl => match us, hl with | [_, _], _ => rfl
  have F21 := fun_mk (st := sAld) l21 c21 k21
  have b21 := F21.binds (ps := ["_law_data", "_law_sides_here"]) fun _ _ _ _ _ _ us hl => match us, hl with | [_, _], _ => rfl
  have F22 := fun_mk (st := sLen) l22 c22 k22
  have b22 := F22.binds (ps := ["_law_edges"]) fun _ _ _ _ _ _ us hl => match us, hl with | [_], _ => rfl
  have F23 := fun_mk (st := sRda) l23 c23 k23
  have b23 := F23.binds (ps := ["_law_stream_here", "_law_scope", "_law_pool_here"]) fun _ _ _ _ _ _ us hl => match us, hl with | [_, _, _], _ => rfl
  have F24 := fun_mk (st := sRcs) l24 c24 k24
  have b24 := F24.binds (ps := ["_law_script"]) fun _ _ _ _ _ _ us hl => match us, hl with | [_], _ => rfl
  have F25 := fun_mk (st := sSd) l25 c25 k25
  have b25 := F25.binds (ps := ["_law_domains_here"]) fun _ _ _ _ _ _ us hl => match us, hl with | [_], _ => rfl
  have F26 := fun_mk (st := sBxx) l26 c26 k26
  have b26 := F26.binds (ps := ["_law_stream_here", "_law_drawn"]) fun _ _ _ _ _ _ us hl => match us, hl with | [_, _], _ => rfl
  have F27 := fun_mk (st := sShw) l27 c27 k27
  have b27 := F27.binds (ps := ["names", "box", "name"]) fun _ _ _ _ _ _ us hl => match us, hl with | [_, _, _], _ => rfl
  have F28 := fun_mk (st := sSv) l28 c28 k28
  have b28 := F28.binds (ps := ["_law_actual", "_law_expected"]) fun _ _ _ _ _ _ us hl => match us, hl with | [_, _], _ => rfl
  have F29 := fun_mk (st := sLfe) l29 c29 k29
  have b29 := F29.binds (ps := ["_law_names_here", "_law_sides_here"]) fun _ _ _ _ _ _ us hl => match us, hl with | [_, _], _ => rfl
  have F30 := fun_mk (st := sLbk) l30 c30 k30
  have b30 := F30.binds (ps := ["_law_edges", "_law_sides_here", "_law_climb"]) fun _ _ _ _ _ _ us hl => match us, hl with | [_, _, _], _ => rfl
  have F31 := fun_mk (st := sAsk) l31 c31 k31
  have b31 := F31.binds (ps := ["_law_rule", "_law_data", "_law_sides_here", "_law_lent"]) fun _ _ _ _ _ _ us hl => match us, hl with | [_, _, _, _], _ => rfl
  have F32 := fun_mk (st := sSpo) l32 c32 k32
  have b32 := F32.binds (ps := ["_law_stream_here", "_law_climb", "_law_many"]) fun _ _ _ _ _ _ us hl => match us, hl with | [_, _, _], _ => rfl
  have F33 := fun_mk (st := sTri) l33 c33 k33
  have b33 := F33.binds (ps := ["_law_stream_here", "_law_data", "_law_further", "_law_climb"]) fun _ _ _ _ _ _ us hl => match us, hl with | [_, _, _, _], _ => rfl
  have F34 := fun_mk (st := sDue) l34 c34 k34
  have b34 := F34.binds (ps := ["_law_data", "_law_sides_here", "_law_tried_here"]) fun _ _ _ _ _ _ us hl => match us, hl with | [_, _, _], _ => rfl
  have F35 := fun_mk (st := sJud) l35 c35 k35
  have b35 := F35.binds (ps := ["_law_rule", "_law_data", "_law_sides_here", "_law_lent", "_law_tried_here"]) fun _ _ _ _ _ _ us hl => match us, hl with | [_, _, _, _, _], _ => rfl
  have F36 := fun_mk (st := sLaw) l36 c36 k36
  have T0 : Kls K mg "Ring" kk0 ["names", "edges"] := ⟨⟨kpg0, khd0, kpo0, ksa0⟩, PySem.W.mg_of X G kc0, fun f hf => by
      simp only [List.mem_cons, List.not_mem_nil, or_false] at hf
      rcases hf with rfl | rfl
      · exact kn0_0
      · exact kn0_1⟩
  have Fkm0_0 := fun_mk (st := sRin) km0_0l km0_0c km0_0k
  have bkm0_0 := Fkm0_0.binds (ps := ["self", "edges"]) fun _ _ _ _ _ _ us hl => match us, hl with | [_, _], _ => rfl
  have Fkm0_1 := fun_mk (st := sWit) km0_1l km0_1c km0_1k
  have bkm0_1 := Fkm0_1.binds (ps := ["self", "box"]) fun _ _ _ _ _ _ us hl => match us, hl with | [_, _], _ => rfl
  have Fkm0_2 := fun_mk (st := sCer) km0_2l km0_2c km0_2k
  have bkm0_2 := Fkm0_2.binds (ps := ["self", "box"]) fun _ _ _ _ _ _ us hl => match us, hl with | [_, _], _ => rfl
  have Fkm0_3 := fun_mk (st := sAcc) km0_3l km0_3c km0_3k
  have bkm0_3 := Fkm0_3.binds (ps := ["self", "box", "certificate"]) fun _ _ _ _ _ _ us hl => match us, hl with | [_, _, _], _ => rfl
  have Fkm0_4 := fun_mk (st := sBrk) km0_4l km0_4c km0_4k
  have bkm0_4 := Fkm0_4.binds (ps := ["self", "box", "steps"]) fun _ _ _ _ _ _ us hl => match us, hl with | [_, _, _], _ => rfl
  refine ⟨PySem.W.fnOf "law" "law" (defArgs sLaw) (defBody sLaw) (defScope sLaw) .none kV36 dc36 pm36 an36 cd36 ct36, fun s v => .of_eq rfl, fun base _ _ => ?_⟩
  have Cii : Call l.prog w K mg base 1 "_law_is_integer" f1 _ ["_law_actual"] spIsInt := ⟨ok_isInt F1 B, PySem.W.mg_of X G a1, k1, b1⟩
  have Cst : Call l.prog w K mg base 1 "_law_stream" f2 _ ["_law_script", "_law_k"] (spStream K) := ⟨ok_stream F2 B, PySem.W.mg_of X G a2, k2, b2⟩
  have D : Call l.prog w K mg base 1 "_law_next" f3 _ ["_law_stream_here", "_law_size"] spDraw := ⟨ok_draw F3 B, PySem.W.mg_of X G a3, k3, b3⟩
  have Cna : Call l.prog w K mg base 2 "_law_names" f4 _ ["_law_stream_here", "_law_count"] spNames := ⟨ok_names F4 B D, PySem.W.mg_of X G a4, k4, b4⟩
  have Cpo : Call l.prog w K mg base 2 "_law_pool" f5 _ ["_law_stream_here", "_law_count"] spPool := ⟨ok_pool F5 B D, PySem.W.mg_of X G a5, k5, b5⟩
  have Cdo : Call l.prog w K mg base 2 "_law_domains" f6 _ ["_law_stream_here", "_law_names_here", "_law_pool_here", "_law_most"] spDoms := ⟨ok_doms F6 B D, PySem.W.mg_of X G a6, k6, b6⟩
  have Cpa : Call l.prog w K mg base 2 "_law_part" f7 _ ["_law_stream_here", "_law_side"] (spPart K) := ⟨ok_part F7 B D, PySem.W.mg_of X G a7, k7, b7⟩
  have Cis : Call l.prog w K mg base 2 "_law_is_side" f8 _ ["_law_actual"] spIsSide := ⟨ok_isSide F8 B Cii, PySem.W.mg_of X G a8, k8, b8⟩
  have Csa : Call l.prog w K mg base 3 "_law_same_sides" f9 _ ["_law_actual", "_law_expected"] spSame := ⟨ok_same F9 B Cis, PySem.W.mg_of X G a9, k9, b9⟩
  have CNxt : Call l.prog w K mg base 1 "next_value" f10 _ ["side", "least"] (spNext K) := ⟨ok_Nxt F10 B, PySem.W.mg_of X G a10, k10, b10⟩
  have CEdn : Call l.prog w K mg base 1 "edge_names" f11 _ ["edges"] spEdn := ⟨ok_Edn F11 B, PySem.W.mg_of X G a11, k11, b11⟩
  have CEdnT : Call l.prog w K mg base 1 "edge_names" f11 _ ["edges"] spEdnT := ⟨ok_EdnT F11 B, PySem.W.mg_of X G a11, k11, b11⟩
  have CLvs : Call l.prog w K mg base 1 "least_values" f12 _ ["names", "box"] spLvs := ⟨ok_Lvs F12 B, PySem.W.mg_of X G a12, k12, b12⟩
  have CLvsT : Call l.prog w K mg base 1 "least_values" f12 _ ["names", "box"] spLvsT := ⟨ok_LvsT F12 B, PySem.W.mg_of X G a12, k12, b12⟩
  have CSpv : Call l.prog w K mg base 2 "step_value" f13 _ ["edge", "values", "box"] spSpv := ⟨ok_Spv F13 B (PySem.W.mg_none_of X G z11) CNxt, PySem.W.mg_of X G a13, k13, b13⟩
  have CClb : Call l.prog w K mg base 3 "climbed" f14 _ ["edges", "box", "start", "moved"] spClb := ⟨ok_Clb F14 B (PySem.W.mg_none_of X G z12) CSpv, PySem.W.mg_of X G a14, k14, b14⟩
  have CLcl : Call l.prog w K mg base 4 "least_climb" f15 _ ["edges", "box"] spLcl := ⟨ok_Lcl F15 B CEdnT CClb CLvs, PySem.W.mg_of X G a15, k15, b15⟩
  have CFem : Call l.prog w K mg base 1 "first_empty" f16 _ ["names", "box"] spFem := ⟨ok_Fem F16 B, PySem.W.mg_of X G a16, k16, b16⟩
  have Cch : Call l.prog w K mg base 1 "checked_names" f17 _ ["names"] spChk := ⟨ok_Chk F17 B (PySem.W.mg_none_of X G z13), PySem.W.mg_of X G a17, k17, b17⟩
  have MR : CallN l.prog w K mg base 2 kk0 km0_0 _ ["self", "edges"] (spRin kk0) := ⟨ok_Rin Fkm0_0 B (PySem.W.mg_none_of X G z13) T0 Cch CEdn, ⟨kmk0, km0_0a, km0_0i, kkc0⟩, bkm0_0⟩
  have Wi : CallM l.prog w K mg base 5 kk0 "witness" km0_1 _ ["self", "box"] (spWit kk0) := ⟨ok_Wit Fkm0_1 B T0 CFem CLcl, ⟨km0_1a, km0_1i, km0_1k⟩, bkm0_1⟩
  have Ce : CallM l.prog w K mg base 5 kk0 "certificate" km0_2 _ ["self", "box"] (spCer kk0) := ⟨ok_Cer Fkm0_2 B T0 CFem CLcl, ⟨km0_2a, km0_2i, km0_2k⟩, bkm0_2⟩
  have CShw : Call l.prog w K mg base 1 "shows_empty" f27 _ ["names", "box", "name"] spShw := ⟨ok_Shw F27 B, PySem.W.mg_of X G a27, k27, b27⟩
  have Br : CallM l.prog w K mg base 3 kk0 "_breaks" km0_4 _ ["self", "box", "steps"] (spBrk kk0) := ⟨ok_Brk Fkm0_4 B (PySem.W.mg_none_of X G z12) T0 CFem CLvsT CSpv, ⟨km0_4a, km0_4i, km0_4k⟩, bkm0_4⟩
  have Ac : CallM l.prog w K mg base 4 kk0 "accepts" km0_3 _ ["self", "box", "certificate"] (spAcc kk0) := ⟨ok_Acc Fkm0_3 B T0 CShw Br, ⟨km0_3a, km0_3i, km0_3k⟩, bkm0_3⟩
  have CCpy : Call l.prog w K mg base 1 "_law_copy" f18 _ ["_law_sides_here"] spCopy := ⟨ok_Cpy F18 B, PySem.W.mg_of X G a18, k18, b18⟩
  have CAsg : Call l.prog w K mg base 1 "_law_assignments" f19 _ ["_law_names_here", "_law_sides_here"] spAsg := ⟨ok_Asg F19 B, PySem.W.mg_of X G a19, k19, b19⟩
  have CAlw : Call l.prog w K mg base 1 "_law_allows" f20 _ ["_law_data", "_law_values"] spAlw := ⟨ok_Alw F20 B (PySem.W.mg_none_of X G z13) (PySem.W.mg_none_of X G z14), PySem.W.mg_of X G a20, k20, b20⟩
  have CAld : Call l.prog w K mg base 2 "_law_allowed" f21 _ ["_law_data", "_law_sides_here"] spAld := ⟨ok_Ald F21 B CAsg CAlw, PySem.W.mg_of X G a21, k21, b21⟩
  have CLen : Call l.prog w K mg base 1 "_law_edge_names" f22 _ ["_law_edges"] spEdn := ⟨ok_Len F22 B, PySem.W.mg_of X G a22, k22, b22⟩
  have CRda : Call l.prog w K mg base 2 "_law_ring_data" f23 _ ["_law_stream_here", "_law_scope", "_law_pool_here"] spRda := ⟨ok_Rda F23 B (PySem.W.mg_none_of X G z11) D, PySem.W.mg_of X G a23, k23, b23⟩
  have CRcs : Call l.prog w K mg base 3 "_law_ring_case" f24 _ ["_law_script"] (spRcs K) := ⟨ok_Rcs F24 B Cst D Cna Cpo CRda, PySem.W.mg_of X G a24, k24, b24⟩
  have CSd : Call l.prog w K mg base 1 "_law_sides" f25 _ ["_law_domains_here"] spSd := ⟨ok_Sd F25 B, PySem.W.mg_of X G a25, k25, b25⟩
  have CBxx : Call l.prog w K mg base 3 "_law_box" f26 _ ["_law_stream_here", "_law_drawn"] spBxx := ⟨ok_Bxx F26 B CSd Cdo D Cpa, PySem.W.mg_of X G a26, k26, b26⟩
  have CSv : Call l.prog w K mg base 2 "_law_same_values" f28 _ ["_law_actual", "_law_expected"] spSV := ⟨ok_Sv F28 B Cii, PySem.W.mg_of X G a28, k28, b28⟩
  have CLfe : Call l.prog w K mg base 1 "_law_first_empty" f29 _ ["_law_names_here", "_law_sides_here"] spLfe := ⟨ok_Lfe F29 B, PySem.W.mg_of X G a29, k29, b29⟩
  have CLbk : Call l.prog w K mg base 2 "_law_breaks" f30 _ ["_law_edges", "_law_sides_here", "_law_climb"] spLbk := ⟨ok_Lbk F30 B Cii, PySem.W.mg_of X G a30, k30, b30⟩
  have CAsk : Call l.prog w K mg base 6 "_law_asked" f31 _ ["_law_rule", "_law_data", "_law_sides_here", "_law_lent"] (spAsk kk0) := ⟨ok_Ask F31 B (PySem.W.mg_none_of X G z13) (PySem.W.mg_none_of X G z15) T0 CAld CSv Csa Wi Ce CLfe CLbk, PySem.W.mg_of X G a31, k31, b31⟩
  have CSpo : Call l.prog w K mg base 2 "_law_spoilt" f32 _ ["_law_stream_here", "_law_climb", "_law_many"] spSpo := ⟨ok_Spo F32 B D, PySem.W.mg_of X G a32, k32, b32⟩
  have CTri : Call l.prog w K mg base 3 "_law_tried" f33 _ ["_law_stream_here", "_law_data", "_law_further", "_law_climb"] spTri := ⟨ok_Tri F33 B D CSpo, PySem.W.mg_of X G a33, k33, b33⟩
  have CDue : Call l.prog w K mg base 3 "_law_due" f34 _ ["_law_data", "_law_sides_here", "_law_tried_here"] spDue := ⟨ok_Due F34 B CLfe CLbk, PySem.W.mg_of X G a34, k34, b34⟩
  have CJud : Call l.prog w K mg base 5 "_law_judged" f35 _ ["_law_rule", "_law_data", "_law_sides_here", "_law_lent", "_law_tried_here"] (spJud kk0) := ⟨ok_Jud F35 B T0 Csa Ac CDue, PySem.W.mg_of X G a35, k35, b35⟩
  exact ok_Law F36 B T0 CRcs CLen MR CBxx Cst CCpy CAsk CTri CJud
theorem walk {l : PySem.W.OpenLaw} {q : Program} {loose : List Str} {XP : (Str → Option Value) → Heap → Prop} {YP : World → Heap → Prop} {d : DefRec} {K : Params → PySem.W.Frag} (hn : l.most = some 63) (hdf : d.params.defaults = [])
    (hY : ∀ (w : World) (h : Heap), YP w h → (K w.params).In h)
    (F : ∀ (w : World) (mg : Str → Option Value) (fa : Addr) (h : Heap), (K w.params).In h → h.Ns mainGlobals mg → mg d.name = some (.ref fa) →
      ∃ fd : FuncData, (∀ (s : Shared) (u : Value), BindsTo s fd ⟨[u], []⟩ [("_law_script", u)]) ∧ ∀ base : Heap, (K w.params).In base → base.Ns mainGlobals mg → FnOk l.prog w (K w.params) mg base CX0 7 fa fd ["_law_script"] (spLaw (K w.params))) :
    PySem.W.WalkO q loose XP YP l.row.toRowW d [] (fun f vs => PySem.call f vs) :=
  L2.walk_of (n := 63) (k := 7) (x := "_law_script") (CX := fun _ => CX0) (sp := fun w => spLaw (K w.params)) hn (by decide) hdf ⟨rfl, by decide, by decide⟩ hY F (fun _ _ a ns hl _ hS => ⟨a, ns, rfl, hS, hl, fun _ => rfl⟩) fun _ _ _ _ _ z => z
end K56
set_option Elab.async false
set_option linter.all false
open PySem PySem.W PyProof.Rows
set_option maxRecDepth 100000 in
set_option maxHeartbeats 0 in
theorem PySem.Challenge.cw_curbdesk_k56_whole_rings_bare_or_not_holds : PySem.Challenge.rw_curbdesk_k56_whole_rings_bare_or_not.Holds := by
  w_on; o_law; k_head; (case hw => w_witness2)
  k_fill
  refine K56.walk (l := PySem.Challenge.rw_curbdesk_k56_whole_rings_bare_or_not) rfl rfl (fun w h Y => PySem.W.kIn_of Y) ?F
  case F =>
    intro w mg fa h KX G hmg
    refine' K56.all_mk KX G hmg ?a1 ?l1 ?c1 ?k1 ?a2 ?l2 ?c2 ?k2 ?a3 ?l3 ?c3 ?k3 ?a4 ?l4 ?c4 ?k4 ?a5 ?l5 ?c5 ?k5 ?a6 ?l6 ?c6 ?k6 ?a7 ?l7 ?c7 ?k7 ?a8 ?l8 ?c8 ?k8 ?a9 ?l9 ?c9 ?k9 ?a10 ?l10 ?c10 ?k10 ?a11 ?l11 ?c11 ?k11 ?a12 ?l12 ?c12 ?k12 ?a13 ?l13 ?c13 ?k13 ?a14 ?l14 ?c14 ?k14 ?a15 ?l15 ?c15 ?k15 ?a16 ?l16 ?c16 ?k16 ?a17 ?l17 ?c17 ?k17 ?a18 ?l18 ?c18 ?k18 ?a19 ?l19 ?c19 ?k19 ?a20 ?l20 ?c20 ?k20 ?a21 ?l21 ?c21 ?k21 ?a22 ?l22 ?c22 ?k22 ?a23 ?l23 ?c23 ?k23 ?a24 ?l24 ?c24 ?k24 ?a25 ?l25 ?c25 ?k25 ?a26 ?l26 ?c26 ?k26 ?a27 ?l27 ?c27 ?k27 ?a28 ?l28 ?c28 ?k28 ?a29 ?l29 ?c29 ?k29 ?a30 ?l30 ?c30 ?k30 ?a31 ?l31 ?c31 ?k31 ?a32 ?l32 ?c32 ?k32 ?a33 ?l33 ?c33 ?k33 ?a34 ?l34 ?c34 ?k34 ?a35 ?l35 ?c35 ?k35 ?a36 ?l36 ?c36 ?k36 ?kc0 ?kpg0 ?khd0 ?kpo0 ?ksa0 ?kmk0 ?kkc0 ?kn0_0 ?kn0_1 ?km0_0a ?km0_0i ?km0_0l ?km0_0c ?km0_0k ?km0_1a ?km0_1i ?km0_1l ?km0_1c ?km0_1k ?km0_2a ?km0_2i ?km0_2l ?km0_2c ?km0_2k ?km0_3a ?km0_3i ?km0_3l ?km0_3c ?km0_3k ?km0_4a ?km0_4i ?km0_4l ?km0_4c ?km0_4k ?z1 ?z2 ?z3 ?z4 ?z5 ?z6 ?z7 ?z8 ?z9 ?z10 ?z11 ?z12 ?z13 ?z14 ?z15
    (case a1 => k_is)
    (case l1 => k_is)
    (case c1 => k_is)
    (case k1 => k_is)
    (case a2 => k_is)
    (case l2 => k_is)
    (case c2 => k_is)
    (case k2 => k_is)
    (case a3 => k_is)
    (case l3 => k_is)
    (case c3 => k_is)
    (case k3 => k_is)
    (case a4 => k_is)
    (case l4 => k_is)
    (case c4 => k_is)
    (case k4 => k_is)
    (case a5 => k_is)
    (case l5 => k_is)
    (case c5 => k_is)
    (case k5 => k_is)
    (case a6 => k_is)
    (case l6 => k_is)
    (case c6 => k_is)
    (case k6 => k_is)
    (case a7 => k_is)
    (case l7 => k_is)
    (case c7 => k_is)
    (case k7 => k_is)
    (case a8 => k_is)
    (case l8 => k_is)
    (case c8 => k_is)
    (case k8 => k_is)
    (case a9 => k_is)
    (case l9 => k_is)
    (case c9 => k_is)
    (case k9 => k_is)
    (case a10 => k_is)
    (case l10 => k_is)
    (case c10 => k_is)
    (case k10 => k_is)
    (case a11 => k_is)
    (case l11 => k_is)
    (case c11 => k_is)
    (case k11 => k_is)
    (case a12 => k_is)
    (case l12 => k_is)
    (case c12 => k_is)
    (case k12 => k_is)
    (case a13 => k_is)
    (case l13 => k_is)
    (case c13 => k_is)
    (case k13 => k_is)
    (case a14 => k_is)
    (case l14 => k_is)
    (case c14 => k_is)
    (case k14 => k_is)
    (case a15 => k_is)
    (case l15 => k_is)
    (case c15 => k_is)
    (case k15 => k_is)
    (case a16 => k_is)
    (case l16 => k_is)
    (case c16 => k_is)
    (case k16 => k_is)
    (case a17 => k_is)
    (case l17 => k_is)
    (case c17 => k_is)
    (case k17 => k_is)
    (case a18 => k_is)
    (case l18 => k_is)
    (case c18 => k_is)
    (case k18 => k_is)
    (case a19 => k_is)
    (case l19 => k_is)
    (case c19 => k_is)
    (case k19 => k_is)
    (case a20 => k_is)
    (case l20 => k_is)
    (case c20 => k_is)
    (case k20 => k_is)
    (case a21 => k_is)
    (case l21 => k_is)
    (case c21 => k_is)
    (case k21 => k_is)
    (case a22 => k_is)
    (case l22 => k_is)
    (case c22 => k_is)
    (case k22 => k_is)
    (case a23 => k_is)
    (case l23 => k_is)
    (case c23 => k_is)
    (case k23 => k_is)
    (case a24 => k_is)
    (case l24 => k_is)
    (case c24 => k_is)
    (case k24 => k_is)
    (case a25 => k_is)
    (case l25 => k_is)
    (case c25 => k_is)
    (case k25 => k_is)
    (case a26 => k_is)
    (case l26 => k_is)
    (case c26 => k_is)
    (case k26 => k_is)
    (case a27 => k_is)
    (case l27 => k_is)
    (case c27 => k_is)
    (case k27 => k_is)
    (case a28 => k_is)
    (case l28 => k_is)
    (case c28 => k_is)
    (case k28 => k_is)
    (case a29 => k_is)
    (case l29 => k_is)
    (case c29 => k_is)
    (case k29 => k_is)
    (case a30 => k_is)
    (case l30 => k_is)
    (case c30 => k_is)
    (case k30 => k_is)
    (case a31 => k_is)
    (case l31 => k_is)
    (case c31 => k_is)
    (case k31 => k_is)
    (case a32 => k_is)
    (case l32 => k_is)
    (case c32 => k_is)
    (case k32 => k_is)
    (case a33 => k_is)
    (case l33 => k_is)
    (case c33 => k_is)
    (case k33 => k_is)
    (case a34 => k_is)
    (case l34 => k_is)
    (case c34 => k_is)
    (case k34 => k_is)
    (case a35 => k_is)
    (case l35 => k_is)
    (case c35 => k_is)
    (case k35 => k_is)
    (case a36 => k_is)
    (case l36 => k_is)
    (case c36 => k_is)
    (case k36 => k_is)
    (case kc0 => k_is)
    (case kpg0 => k_is)
    (case khd0 => k_is)
    (case kpo0 => k_is)
    (case ksa0 => k_is)
    (case kmk0 => k_is)
    (case kkc0 => k_is)
    (case kn0_0 => k_is)
    (case kn0_1 => k_is)
    (case km0_0a => k_is)
    (case km0_0i => k_is)
    (case km0_0l => k_is)
    (case km0_0c => k_is)
    (case km0_0k => k_is)
    (case km0_1a => k_is)
    (case km0_1i => k_is)
    (case km0_1l => k_is)
    (case km0_1c => k_is)
    (case km0_1k => k_is)
    (case km0_2a => k_is)
    (case km0_2i => k_is)
    (case km0_2l => k_is)
    (case km0_2c => k_is)
    (case km0_2k => k_is)
    (case km0_3a => k_is)
    (case km0_3i => k_is)
    (case km0_3l => k_is)
    (case km0_3c => k_is)
    (case km0_3k => k_is)
    (case km0_4a => k_is)
    (case km0_4i => k_is)
    (case km0_4l => k_is)
    (case km0_4c => k_is)
    (case km0_4k => k_is)
    (case z1 => k_is)
    (case z2 => k_is)
    (case z3 => k_is)
    (case z4 => k_is)
    (case z5 => k_is)
    (case z6 => k_is)
    (case z7 => k_is)
    (case z8 => k_is)
    (case z9 => k_is)
    (case z10 => k_is)
    (case z11 => k_is)
    (case z12 => k_is)
    (case z13 => k_is)
    (case z14 => k_is)
    (case z15 => k_is)
