import PyProof.Rows.All
import Wide.All
import OpenK.AllK
import Wide.FinOn
import HandS.ForMost
import HandS.Strs
import HandS.Set
import HandS.SetFor
import HandS.TupSets
import HandS.IsInst
import HandS.Flow
import HandS.Style
import HandS.Zip
import HandS.SortInts
import HandS.DeepEq
import HandS.SetBool
import HandS.SetKeys
import HandS.Walk
import HandS.DictComp
import HandS.ExcInit
import HandS.ExcField
import HandS.ExcOwn
import HandS.WordsExc
import HandS.ExcIs
import KE.KExcIs
import HandS.OwnEq
import KE.DatumOrd
import HandS.Small
import HandS.Property
import HandS.ExcInitHot
import HandS.TryMany
import HandS.Conv
import HandS.FStr
import HandS.Finally
import PyProof.NeKinds
import PyProof.EqKinds
import HandS.TupLe
import PySem.Challenge.RW_curbdesk_k57_whole_unlike_bare_or_not
set_option Elab.async false
set_option linter.all false
set_option maxRecDepth 100000
/-! Tables of sets that are laid anew, for the masks that merging asks for. -/
namespace Cs
open PySem PySem.Spec PyProof.Rows
abbrev own (ow : Array (Option Nat)) (j : Nat) : Option Nat := ow.getD j (some 0)
/- one round from 0, then the shift -/
/-! ### who sits where -/
structure Sit (m k : Nat) (ow : Array (Option Nat)) : Prop where
  sz : ow.size = m + 1
  pm : (ow.toList.filterMap id).Perm (List.range k)
theorem Sit.start (m : Nat) : Sit m 0 (Array.replicate (m + 1) none) := ⟨by simp, by simp⟩
end Cs
set_option Elab.async false
set_option linter.all false
set_option maxRecDepth 100000
set_option maxHeartbeats 1000000
namespace Cs
open PySem PySem.Spec PyProof.Rows L2
/-- a set of ints, written out -/
structure SetX (w : World) (h : Heap) (a : Addr) (es : Array (Int × Value)) (ep : Nat) (t : SetTable) : Prop where
  obj : h.get? a = some { cls := .type "set", dict := none, data := .set es ep t, slots := #[] }
  good : ∀ e ∈ es.toList, GoodE e
  nd : (es.toList.map keyOf).Nodup
  few : es.size < scanBound
  fits : t.fits es.size = true
  ris : Ris t.place.toList
  led : w.params.followText "set-order" = true ∨ t.led = true
end Cs
set_option Elab.async false
set_option linter.all false
set_option maxRecDepth 100000
set_option maxHeartbeats 1000000
namespace Cs
open PySem PySem.Spec PyProof.Rows L2
end Cs
set_option Elab.async false
set_option linter.all false
set_option maxRecDepth 100000
set_option maxHeartbeats 1000000
namespace Cs
open PySem PySem.Spec PyProof.Rows L2
end Cs
set_option Elab.async false
set_option linter.all false
set_option maxRecDepth 100000
set_option maxHeartbeats 1000000
namespace Cs
open PySem PySem.Spec PyProof.Rows L2
section
variable {P : Program} {w : World} {A : Around} {E : Value → Shared → Prop} {s : Shared}
abbrev keys (es : Array (Int × Value)) : List Int := es.toList.map keyOf
end
end Cs
set_option Elab.async false
set_option linter.all false
set_option maxRecDepth 100000
set_option maxHeartbeats 1000000
namespace Cs
open PySem PySem.Spec PyProof.Rows L2
section
variable {P : Program} {w : World} {A : Around} {E : Value → Shared → Prop} {s : Shared}
/-! ### the words of the class -/
abbrev newObjOf (w : World) : Obj := { cls := .type "set", dict := none, data := .set #[] 0 (.fresh 0 0 (!w.params.followText "set-order")) }
theorem SetX.ty {h : Heap} {a : Addr} {es : Array (Int × Value)} {ep : Nat} {t : SetTable} (R : SetX w h a es ep t) {s : Shared} (e : s.heap = h) : s.TypeIs (.ref a) "set" :=
  ⟨_, by rw [e]; exact R.obj, rfl⟩
/-- heaps in which all is as it was but what is new -/
def Old (h h' : Heap) : Prop := ∀ b o, h.get? b = some o → h'.get? b = some o
end
end Cs
set_option Elab.async false
set_option linter.all false
set_option maxRecDepth 100000
set_option maxHeartbeats 1000000
namespace Cs
open PySem PySem.Spec PyProof.Rows L2
end Cs
set_option Elab.async false
set_option linter.all false
set_option maxRecDepth 100000
set_option maxHeartbeats 1000000
namespace Cs
open PySem PySem.Spec PyProof.Rows L2
end Cs
set_option Elab.async false
set_option linter.all false
set_option maxRecDepth 100000
set_option maxHeartbeats 2000000
namespace Cs
open PySem PySem.Spec PyProof.Rows L2
end Cs
set_option Elab.async false
set_option linter.all false
set_option maxRecDepth 100000
set_option maxHeartbeats 2000000
namespace Cs
open PySem PySem.Spec PyProof.Rows L2
end Cs
set_option Elab.async false
set_option linter.all false
set_option maxRecDepth 100000
set_option maxHeartbeats 2000000
namespace Cs
open PySem PySem.Spec PyProof.Rows L2
end Cs
set_option Elab.async false
set_option linter.all false
set_option maxRecDepth 100000
set_option maxHeartbeats 3200000
namespace Cs
open PySem PySem.Spec PyProof.Rows L2
section
variable {P : Program} {w : World} {A : Around} {E : Value → Shared → Prop} {s : Shared}
/-- set(l), l a list of ints: made empty, then its items one by one -/
theorem set_of_list {l : Addr} {items : Array Value} (ns : List Int) {Q : Value → Shared → Prop} (quiet : A.handled = none) (isl : s.heap.IsList l items) (hints : IntsAre items.toList ns) (room : ns.length + 1 < scanBound)
    (fin : ∀ (h' : Heap) (tk c : Nat), SetR w h' s.heap.objs.size (fun j => decide (j ∈ ns)) c → c ≤ ns.length → Old s.heap h' → Q (.ref s.heap.objs.size) { s with heap := h', toks := tk }) :
    wpAny (model P w) A (call (.type "set") [.ref l]) Q E s := by
  have many : items.size = ns.length := (Array.length_toList (xs := items)).symm.trans (IntsAre.length hints)
  have cs := F.called_set
  obtain ⟨mc, mt, mro⟩ := cs.mro
  have made := cs.made
  have under := cs.sub
  refine wpAny_call (codeAny_of_tree ?_)
  show wpAny _ _ (callAny (.type "set") ⟨[.ref l], []⟩) _ _ _
  refine wpAny_pure ⟨Code.quiet_builtin _ (by decide +kernel), ?_⟩
  refine codeAny_builtin F.entry_type_call ?_
  rw [Around.under_plain (weight_type_call_type "set" [Value.ref l] []) rfl]
  have k1 := cs.notType
  have k2 := cs.canCreate
  have k3 := F.typeCall_set_1 (.ref l)
  repeat (any_goals (first | assumption | wp_step))
  refine codeAny_mono (code_set_led1 (.ref l) (E := E) (Q₁ := fun o z => o = .ref s.heap.objs.size ∧ z = { s with heap := s.heap.push (newObjOf w) }) ⟨rfl, rfl⟩) fun r z hz => ?_
  cases r with
  | error e => exact hz
  | ok fl =>
    cases fl with
    | ret o =>
      obtain ⟨rfl, rfl⟩ := hz
      have here : (s.heap.push (newObjOf w)).get? s.heap.objs.size = some (newObjOf w) := Heap.get?_push_size _ rfl
      have ty : Shared.TypeIs { s with heap := s.heap.push (newObjOf w) } (.ref s.heap.objs.size) "set" := ⟨_, here, rfl⟩
      have k4 := cs.init.lookup
      have k5 := cs.init.bind (.ref s.heap.objs.size)
      repeat (any_goals (first | assumption | wp_step))
      refine codeAny_mono (codeAny_call_builtin (R := wants (fun r y => r = .none ∧ ∃ h' tk c, y = { s with heap := h', toks := tk } ∧ SetR w h' s.heap.objs.size (fun j => decide (j ∈ ns)) c ∧ c ≤ ns.length ∧ Old s.heap h') E)
        cs.init.plain F.entry_set_init (check_set_init_1 ty ?_)) fun r2 y hy => ?_
      · obtain ⟨⟨oc, od, oda, osl⟩, lo, lc, ln, ld⟩ := isl
        simp only at lc ld
        subst lc ld
        have isl2 : (s.heap.push (newObjOf w)).IsList l items := ⟨_, Heap.get?_push_of_some _ lo, rfl, ln, rfl⟩
        have ll : l < s.heap.objs.size := Heap.lt_size lo
        have isl3 := Heap.get?_push_of_some (newObjOf w) lo
        have n1 := PySem.F.sub_list_set
        have n2 := PySem.F.sub_list_frozenset
        have n3 : (Value.type "list" == Value.type "dict") = false := by decide
        unfold Builtin.«set.__init__» noKeywords Builtin.Frozenset.updateFrom
        generalize hp : pyIter = iterOf
        wp_walk
        subst hp
        refine wpAny_pyIter_list isl2 ?_
        refine wpAny_bind (wpAny_runValue ?_)
        have q3 : A.in1.in1.in1.handled = none := by simp [quiet]
        have sz : (s.heap.push (newObjOf w)).objs.size = s.heap.objs.size + 1 := Heap.size_push ..
        have apart : l ≠ (s.heap.push (newObjOf w)).objs.size := by
          rw [sz]
          exact Nat.ne_of_lt (Nat.lt_succ_of_lt ll)
        have away : s.heap.objs.size ∉ [(s.heap.push (newObjOf w)).objs.size, l] := by
          rw [sz]
          simp only [List.mem_cons, List.not_mem_nil, or_false, not_or]
          exact ⟨Nat.ne_of_lt (Nat.lt_succ_self _), Nat.ne_of_gt ll⟩
        have val : ∀ (i : Nat) (v : Value), items[i]? = some v → ∃ k t, ns[i]? = some k ∧ v = .int k t := fun i v hv => by
          have hi : i < ns.length := by rw [← many]; exact (Array.getElem?_eq_some_iff.mp hv).1
          obtain ⟨t, e⟩ := IntsAre.int_at hints i v (by rw [Array.getElem?_toList]; exact hv)
          exact ⟨ns[i], t, List.getElem?_eq_getElem hi, by rw [e, List.getD_eq_getElem?_getD, List.getElem?_eq_getElem hi] <;> rfl⟩
        refine set_update_ints ((Walks.list q3 _ l apart items).toS) s.heap.objs.size away ns many room val (items.size - 0) 0 _ (by omega) (Nat.zero_le _) ⟨⟨_, Heap.get?_push_size _ rfl, rfl, rfl⟩, (isl2.push _)⟩ ?start ?stop
        case start => exact ⟨0, Nat.le_refl 0, setR_new_at (Heap.get?_push_of_some _ here)⟩
        case stop =>
          intro s2 c2 hm hc hS
          obtain ⟨h2, g2, d2, t2, o2⟩ := s2
          have eg : g2 = s.gens := hm.gens
          have ed : d2 = s.drawn := hm.drawn
          have eo : o2 = s.os := hm.os
          subst eg ed eo
          show wpAny _ _ _ _ _ _
          refine wpAny_pure ?_
          show wpAny _ _ (ret Value.none) _ _ _
          refine wpAny_pure ⟨rfl, h2, t2, c2, rfl, hS, by omega, fun b u e => ?_⟩
          have hb := Heap.lt_size e
          refine hm.heap b u ?_ (Heap.get?_push_of_some _ (Heap.get?_push_of_some _ e))
          rw [sz]
          simp only [List.mem_cons, List.not_mem_nil, or_false, not_or]
          exact ⟨Nat.ne_of_lt hb, Nat.ne_of_lt (Nat.lt_succ_of_lt hb)⟩
      · cases r2 with
        | error e => exact hy
        | ok f2 =>
          cases f2 with
          | ret r =>
            obtain ⟨rfl, h', tk, c, rfl, hS, hc, old⟩ := hy
            repeat (any_goals (first | assumption | wp_step))
            exact fin h' tk c hS hc old
          | _ => exact hy.elim
    | _ => exact hz.elim
end
end Cs
set_option Elab.async false
set_option linter.all false
set_option maxRecDepth 100000
set_option maxHeartbeats 2000000
namespace Cs
open PySem PySem.Spec PyProof.Rows L2
section
variable {X : Cx}
/-- set(l) -/
def rSetI (K : PySem.W.Frag) (w : World) : List V → Hp → VK → Prop := fun xs H Q => ∃ (l : Addr) (ns : List Int), xs = [V.ref l] ∧ SqL K H l (ns.map V.int) ∧ ns.length ≤ 4000 ∧
  ∀ (p : Addr) (c : Nat), H p = none → c ≤ ns.length → Q (.ref p) (upd H p (SetO w p (fun j => decide (j ∈ ns)) c))
theorem cr_setI (hc : X.calm = true) : CallR X (.type "set") (rSetI X.K X.w) := by
  intro pins s σ H xs us Q I r h
  obtain ⟨l, ns, rfl, hq, hl, q⟩ := h
  rw [Vals.ref1 r]
  obtain ⟨its, rv, pl, hz⟩ := I.list hq
  refine set_of_list ns (I.ok.hd hc) pl.isList (by simpa using ints_of_vals rv) (by have : scanBound = 4096 := rfl; omega) fun h' tk c hS hcn old => ?_
  exact ⟨.ref _, upd H s.heap.objs.size (SetO X.w s.heap.objs.size (fun j => decide (j ∈ ns)) c), I.laid (t' := tk) old (Nat.le_refl _) (setO_new hS), rfl, q _ c (I.hok.fresh (Nat.le_refl _)) hcn⟩
end
end Cs
set_option Elab.async false
set_option linter.all false
set_option maxRecDepth 100000
set_option maxHeartbeats 2000000
/-! != of two lists whose items are equal, deep -/
namespace Cs
open PySem PySem.Spec PyProof.Rows L2
open AutoSeq1 (wpAny_loadPart')
open MeetsSeq MeetsSeq2 MeetsSeq3 SeqRoads2 SeqAt
section
variable {prog : Program} {w : World}
abbrev seqO (us : Array Value) (n : Nat) (dd : Option Addr) (sl : Array (Option Value)) : Obj := { cls := .type "list", dict := dd, data := .seq us n, slots := sl }
abbrev AllP (prog : Program) (w : World) (A : Around) (s : Shared) (us ws : Array Value) : Prop := ∀ j (h1 : j < us.size) (h2 : j < ws.size), EqP prog w A s us[j] ws[j] true
theorem ne_stepP (a c : Addr) (us ws : Array Value) (n m : Nat) (d1 d2 : Option Addr) (s1 s2 : Array (Option Value)) (eq : us.size = ws.size) :
    ∀ (k i : Nat), us.size - i = k → MeetsIn prog w (Builtin.«list.__eq__.loop» ⟨[.ref a, .ref c, rawInt i, rawInt 3], []⟩)
      (fun A R s => s.heap.get? a = some (seqO us n d1 s1) ∧ s.heap.get? c = some (seqO ws m d2 s2) ∧ AllP prog w A.in1 s us ws ∧ R (.ok (.ret (.bool false))) s) := by
  intro k
  induction k with
  | zero =>
    intro i le A R s h
    obtain ⟨hp, g, d, tk, os⟩ := s
    obtain ⟨ha, hc, _, q⟩ := h
    wp_walk using wpAny_loadPart' ha, wpAny_loadPart' hc
    rw [show us[((i : Nat) : Int).toNat]? = none by simp; omega, show ws[((i : Nat) : Int).toNat]? = none by simp; omega]
    wp_walk using wpAny_loadPart' ha, wpAny_loadPart' hc
    show R (.ok (.ret (.bool (us.size != ws.size)))) _
    rw [eq]
    simpa using q
  | succ k ih =>
    intro i le A R s h
    obtain ⟨hp, g, d, tk, os⟩ := s
    obtain ⟨ha, hc, al, q⟩ := h
    have i1 : i < us.size := by omega
    have i2 : i < ws.size := by omega
    wp_walk using wpAny_loadPart' ha, wpAny_loadPart' hc
    rw [show us[((i : Nat) : Int).toNat]? = some us[i] by simp [i1], show ws[((i : Nat) : Int).toNat]? = some ws[i] by simp [i2]]
    refine wpAny_bind (al i i1 i2 _ _ ?_)
    wp_walk
    rw [show ((i : Int) + 1) = ((i + 1 : Nat) : Int) by push_cast; rfl]
    refine ⟨plainId_quiet plain_eq_loop _, codeAny_builtin entry_eq_loop ?_⟩
    rw [Around.under_plainId plain_eq_loop _]
    exact ih (i + 1) (by omega) A R _ ⟨ha, hc, al, q⟩
theorem ne_listP (a c : Addr) (us ws : Array Value) (n m : Nat) (d1 d2 : Option Addr) (s1 s2 : Array (Option Value)) (eq : us.size = ws.size) :
    MeetsIn prog w (Builtin.«list.__ne__» ⟨[.ref a, .ref c], []⟩)
      (fun A R s => s.heap.get? a = some (seqO us n d1 s1) ∧ s.heap.get? c = some (seqO ws m d2 s2) ∧ AllP prog w A.in1 s us ws ∧ R (.ok (.ret (.bool false))) s) := by
  intro A R s h
  obtain ⟨hp, g, d, tk, os⟩ := s
  obtain ⟨ha, hc, al, q⟩ := h
  have sub := AutoSeq1.sub_list_list
  have same : ¬ (us.size != ws.size) = true := by simp [eq]
  wp_walk using wpAny_loadPart' ha, wpAny_loadPart' hc
  refine ⟨plainId_quiet plain_eq_loop _, codeAny_builtin entry_eq_loop ?_⟩
  rw [Around.under_plainId plain_eq_loop _]
  exact ne_stepP a c us ws n m d1 d2 s1 s2 eq _ 0 rfl A R _ ⟨ha, hc, al, q⟩
theorem rc_neP {A : Around} {s : Shared} {a c : Addr} {us ws : Array Value} (ha : s.heap.IsList a us) (hc : s.heap.IsList c ws) (eq : us.size = ws.size) (hu : A.units < cLine)
    (al : AllP prog w A.in1 s us ws) (E Q : Value → Shared → Prop) (q : Q (.bool false) s) : wpAny (model prog w) A (richCompare .NotEq (.ref a) (.ref c)) Q E s := by
  obtain ⟨⟨c1, d1, x1, s1⟩, o1, e1, n, f1⟩ := id ha
  obtain ⟨⟨c2, d2, x2, s2⟩, o2, e2, m, f2⟩ := id hc
  simp only at e1 f1 e2 f2
  subst e1 f1 e2 f2
  have ta : s.TypeIs (.ref a) "list" := ⟨_, o1, rfl⟩
  have tc : s.TypeIs (.ref c) "list" := ⟨_, o2, rfl⟩
  exact wpAny_richCompare_same_room (op := .NotEq) ta tc F.slot_list_ne (call_meetsIn F.slot_list_ne ta F.entry_list_ne (F.args_list_ne_2 _ _) (ne_listP a c us ws n m d1 d2 s1 s2 eq)
    ⟨o1, o2, al, show Value.bool false ≠ Value.notImplemented ∧ Q (.bool false) s from ⟨(fun x => nomatch x), q⟩⟩) hu
end
section
variable {X : Cx}
/-- a != b, two lists that are equal -/
def rNeV (K : PySem.W.Frag) : R2 := fun x y H Q => ∃ a b xs ys, x = .ref a ∧ y = .ref b ∧ SqL K H a xs ∧ SqL K H b ys ∧ (∃ n, n ≤ 60 ∧ Paired (EqV K H n) xs ys) ∧ Q (.bl false) H
theorem op_neV (hu : X.A.units + 64 < cLine) : OpR X (compareOp .NotEq) (rNeV X.K) := by
  intro pins s σ H x y v u Q I rx ry h
  obtain ⟨a, b, xs, ys, rfl, rfl, ha, hb, ⟨n, hn, hp⟩, q⟩ := h
  cases (show v = Value.ref a from rx)
  cases (show u = Value.ref b from ry)
  obtain ⟨us, r1, p1, _⟩ := I.list ha
  obtain ⟨ws, r2, p2, _⟩ := I.list hb
  have hsz : us.toArray.size = ws.toArray.size := by
    rw [List.size_toArray, List.size_toArray, ← r1.length, ← r2.length]
    exact Paired.length hp
  refine rc_neP p1.isList p2.isList hsz (by omega) (fun j h1 h2 => ?_) _ _ ⟨.bl false, H, I, rfl, q⟩
  have k := items_run (eqV_run I n X.A.in1 (by show X.A.units + 1 + n < cLine; omega)) hp r1 r2 j (by simpa using h1) (by simpa using h2)
  simpa using k
end
end Cs
set_option Elab.async false
set_option linter.all false
set_option maxRecDepth 100000
set_option maxHeartbeats 4000000
/-! Sets of keys by a comprehension: {x for .. in ..}, the members ints or texts. -/
namespace Cs
open PySem PySem.Spec PyProof.Rows L2 PpSet
end Cs
set_option Elab.async false
set_option linter.all false
set_option maxRecDepth 100000
set_option maxHeartbeats 4000000
namespace K57
open PySem PySem.Spec PyProof.Rows L2 Cs
def topS (i : Nat) : Stmt := PySem.Challenge.pw_curbdesk_k57_whole_unlike_bare_or_not.main.body.getD i (.Pass ⟨0, 0, 0, 0⟩)
structure Bt (mg : Str → Option Value) : Prop where
  sorted : mg "sorted" = none
  set : mg "set" = none
  len : mg "len" = none
  isi : mg "isinstance" = none
  int : mg "int" = none
  bool : mg "bool" = none
  list : mg "list" = none
  all : mg "all" = none
  range : mg "range" = none
  dict : mg "dict" = none
abbrev Srt (ms : List Int) : Prop := ms.Pairwise (· < ·)
theorem same_new {H : Hp} {p : Addr} {o : HO} (h : H p = none) : Same H (upd H p o) := fun b x e => by
  rw [upd_ne (ne_of_none e h)]
  exact e
theorem same_at {H H' : Hp} {p : Addr} {o : HO} (s : Same H H') (h : H p = none) : Same H (upd H' p o) := fun b x e => by
  rw [upd_ne (ne_of_none e h)]
  exact s _ _ e
theorem sl_map {K : PySem.W.Frag} {H : Hp} {a : Addr} {xs : List V} (h : H a = some (.lst xs)) : SqL K H a xs := .inl (.inl h)
section
variable {P : Program} {w : World} {K : PySem.W.Frag} {mg : Str → Option Value} {base : Heap}
abbrev sIsInt : Stmt := topS 24
abbrev sStream : Stmt := topS 25
abbrev sDraw : Stmt := topS 26
theorem scIsInt : FnScope ["_law_actual"] ["_law_actual"] (defScope sIsInt) := ⟨rfl, rfl, rfl, by decide +kernel, rfl, by decide +kernel, by decide +kernel⟩
theorem scStream : FnScope ["_law_script", "_law_k", "_law_cell"] ["_law_script", "_law_k"] (defScope sStream) := ⟨rfl, rfl, rfl, by decide +kernel, rfl, by decide +kernel, by decide +kernel⟩
theorem scDraw : FnScope ["_law_stream_here", "_law_size", "_law_digit", "_law_mixed"] ["_law_stream_here", "_law_size"] (defScope sDraw) := ⟨rfl, rfl, rfl, by decide +kernel, rfl, by decide +kernel, by decide +kernel⟩
def spIsInt : Sp := fun vs H Q _ => ∃ k : Int, vs = [.int k] ∧ Q (.bl true) H
theorem ok_isInt {f : Addr} {fd : FuncData} {k : Nat} (F : Fun K "_law_is_integer" "_law_is_integer" sIsInt f fd) (B : Bt mg) : FnOk P w K mg base CX0 (k + 1) f fd ["_law_actual"] spIsInt := by
  refine F.ok scIsInt (fun vs H Q E h => ?_) (fun cdv A outer s H vs Q E hr h => ?_)
  · obtain ⟨a, rfl, _⟩ := h
    rfl
  · obtain ⟨a, rfl, q⟩ := h
    refine ⟨_, pss_one (ps_ret (pe_and (pe_callB call_isi (by rfl) B.isi PyProof.Rows.boot_isinstance (pa_cons (pv 0) (pa_cons (pe_bltn (by rfl) B.int PyProof.Rows.boot_int (v := .ty "int") rfl) pa_nil)))
      (pe_one (pe_not (pe_callB call_isi (by rfl) B.isi PyProof.Rows.boot_isinstance (pa_cons (pv 0) (pa_cons (pe_bltn (by rfl) B.bool PyProof.Rows.boot_bool (v := .ty "bool") rfl) pa_nil))))))), ?_⟩
    refine ⟨.int a, rfl, .int a, .ty "int", .type "int", .type "int", true, rfl, .ty _, .base (.int a), kit_ty (by decide +kernel), true, rfl, iteT ?_⟩
    exact ⟨.int a, rfl, .int a, .ty "bool", .type "int", .type "bool", false, rfl, .ty _, .base (.int a), kit_ty (by decide +kernel), false, rfl, q⟩
/-- a stream: three ints -/
def Strm (H : Hp) (p : Addr) : Prop := ∃ x y z : Int, H p = some (.lst [.int x, .int y, .int z])
def spStream (K : PySem.W.Frag) : Sp := fun vs H Q _ => ∃ (a : Addr) (ns : List Int) (k : Nat), vs = [.ref a, .int (k : Int)] ∧ SqL K H a (ns.map V.int) ∧
  ∀ H' p, Same H H' → H p = none → Strm H' p → Q (.ref p) H'
theorem ok_stream {f : Addr} {fd : FuncData} {k : Nat} (F : Fun K "_law_stream" "_law_stream" sStream f fd) (B : Bt mg) : FnOk P w K mg base CX0 (k + 1) f fd ["_law_script", "_law_k"] (spStream K) := by
  refine F.ok scStream (fun vs H Q E h => ?_) (fun cdv A outer s H vs Q E hr h => ?_)
  · obtain ⟨a, ns, k, rfl, _⟩ := h
    rfl
  · obtain ⟨a, ns, k, rfl, hS, q⟩ := h
    refine ⟨_, pss_cons (ps_set (i := 2) scStream.nd rfl (.inl rfl) pe_int)
      (pss_cons (ps_if (pt_cmpR op_lt (pv 1) (pe_callB call_len_seq (by rfl) B.len PySem.boot_len (pa_cons (pv 0) pa_nil)) (nomark _))
        (pss_one (ps_set (i := 2) scStream.nd rfl (.inl rfl) (pe_ix ix_list (pv 0) (pv 1) (fun _ _ => rfl)))) pss_nil)
      (pss_one (ps_ret (pe_lst (pa_cons (pe_op op_mul (pv 2) (pe_callTy call_int1 (by rfl) B.int PyProof.Rows.boot_int (pa_cons (pe_cmpR op_ge (pv 2) (pe_op op_pow pe_int pe_int) (nomark _)) pa_nil))) (pa_cons pe_int (pa_cons (pv 2) pa_nil))))))), ?_⟩
    have tail : ∀ (c : Int) (b : Bool), -(2 ^ 64) < (if b = true then (1 : Int) else 0) ∧ (if b = true then (1 : Int) else 0) < 2 ^ 64 := fun c b => by cases b <;> decide
    refine ⟨.int k, rfl, .ref a, rfl, a, _, rfl, .inl hS, (k : Int), _, rfl, rfl, _, rfl, ite2 (fun c => ?_) (fun c => ?_)⟩
    · have hk : k < ns.length := by
        have := of_decide_eq_true c
        rw [List.length_map] at this
        omega
      have g : (ns.map V.int)[k]? = some (.int ns[k]) := by
        rw [List.getElem?_map, List.getElem?_eq_getElem hk]
        rfl
      refine ⟨.ref a, rfl, .int k, rfl, a, _, (k : Int), _, rfl, rfl, hS, atI_nat g, ?_⟩
      refine ⟨.int ns[k], rfl, .int ns[k], rfl, 10, 18, rfl, rfl, ⟨by decide, by decide, by decide⟩, ns[k], _, rfl, rfl, .inr ⟨_, rfl, ns[k], _, rfl, rfl, .inr (tail 0 _), .int ns[k], rfl, by show 3 ≤ sizeLine; decide, fun l hl => ?_⟩⟩
      exact q _ l (same_new hl) hl ⟨_, _, _, upd_same⟩
    · refine ⟨.int 0, rfl, .int 0, rfl, 10, 18, rfl, rfl, ⟨by decide, by decide, by decide⟩, 0, _, rfl, rfl, .inr ⟨_, rfl, 0, _, rfl, rfl, .inr (tail 0 _), .int 0, rfl, by show 3 ≤ sizeLine; decide, fun l hl => ?_⟩⟩
      exact q _ l (same_new hl) hl ⟨_, _, _, upd_same⟩
/-- all but the one at p is as it was -/
def Oth (p : Addr) (H H' : Hp) : Prop := ∀ b, b ≠ p → H' b = H b
def spDraw : Sp := fun vs H Q _ => ∃ (p : Addr) (m : Int), vs = [.ref p, .int m] ∧ Strm H p ∧ 0 < m ∧ m < 1073741824 ∧
  ∀ H' d, Oth p H H' → Strm H' p → 0 ≤ d → d < m → Q (.int d) H'
theorem at0 {x y z : V} : atI [x, y, z] (0 : Int) = some x := atI_nat (j := 0) rfl
theorem at1 {x y z : V} : atI [x, y, z] (1 : Int) = some y := atI_nat (j := 1) rfl
theorem at2 {x y z : V} : atI [x, y, z] (2 : Int) = some z := atI_nat (j := 2) rfl
theorem ok_draw {f : Addr} {fd : FuncData} {k : Nat} (F : Fun K "_law_next" "_law_next" sDraw f fd) (B : Bt mg) : FnOk P w K mg base CX0 (k + 1) f fd ["_law_stream_here", "_law_size"] spDraw := by
  refine F.ok scDraw (fun vs H Q E h => ?_) (fun cdv A outer s H vs Q E hr h => ?_)
  · obtain ⟨p, m, rfl, _⟩ := h
    rfl
  · obtain ⟨p, m, rfl, ⟨x, y, z, hp⟩, m0, m1, q⟩ := h
    refine ⟨_, pss_cons (ps_asg (pe_op op_add (pe_ix ix_list (pv 0) pe_int (fun _ _ => rfl)) pe_int) (pg_sub (pv 0) pe_int set_list))
      (pss_cons (ps_if (pt_cmpR op_gt (pe_ix ix_list (pv 0) pe_int (fun _ _ => rfl)) pe_int (nomark _))
        (pss_cons (ps_set (i := 2) scDraw.nd rfl (.inl rfl) (pe_op op_mod (pe_callTy call_int1 (by rfl) B.int PyProof.Rows.boot_int (pa_cons (pe_ix ix_list (pv 0) pe_int (fun _ _ => rfl)) pa_nil)) (pv 1)))
          (pss_cons (ps_asg (pe_op op_fdiv (pe_ix ix_list (pv 0) pe_int (fun _ _ => rfl)) (pv 1)) (pg_sub (pv 0) pe_int set_list))
          (pss_one (ps_ret (pv 2))))) pss_nil)
      (pss_cons (ps_set (i := 3) scDraw.nd rfl (.inl rfl) (pe_op op_mod (pe_callTy call_int1 (by rfl) B.int PyProof.Rows.boot_int (pa_cons
          (pe_op op_add (pe_op op_add (pe_ix ix_list (pv 0) pe_int (fun _ _ => rfl)) (pe_op op_mul pe_int (pe_ix ix_list (pv 0) pe_int (fun _ _ => rfl)))) pe_int) pa_nil)) pe_int))
      (pss_cons (ps_set (i := 3) scDraw.nd rfl (.inl rfl) (pe_op op_mod (pe_callTy call_int1 (by rfl) B.int PyProof.Rows.boot_int (pa_cons
          (pe_op op_mul (pv 3) (pe_op op_add (pv 3) pe_int)) pa_nil)) pe_int))
      (pss_cons (ps_set (i := 3) scDraw.nd rfl (.inl rfl) (pe_op op_mod (pe_callTy call_int1 (by rfl) B.int PyProof.Rows.boot_int (pa_cons
          (pe_op op_add (pe_op op_mul (pv 3) (pe_op op_add (pv 3) pe_int)) (pe_op op_mul pe_int (pe_ix ix_list (pv 0) pe_int (fun _ _ => rfl)))) pa_nil)) pe_int))
      (pss_one (ps_ret (pe_op op_mod (pe_callTy call_int1 (by rfl) B.int PyProof.Rows.boot_int (pa_cons (pe_op op_fdiv (pv 3) pe_int) pa_nil)) (pv 1)))))))), ?_⟩
    have pos1 : (0 : Int) < 2147483647 := by decide
    have pos2 : (0 : Int) < 2147483629 := by decide
    -- stream[1] = stream[1] + 1
    refine ⟨.ref p, rfl, p, _, 1, .int y, rfl, rfl, sl_map hp, at1, y, 1, rfl, rfl, .ref p, rfl, p, _, 1, 1, rfl, rfl, hp, rfl, ?_⟩
    have h1 : ∀ o, (upd H p o) p = some o := fun o => upd_same
    -- if stream[0] > 0
    refine ⟨.ref p, rfl, p, _, 0, .int x, rfl, rfl, sl_map upd_same, at0, x, 0, rfl, rfl, _, rfl, ite2 (fun c => ?_) (fun c => ?_)⟩
    · refine ⟨.ref p, rfl, p, _, 0, .int x, rfl, rfl, sl_map upd_same, at0, .inl ⟨x, rfl, .int m, rfl, x, m, rfl, rfl, m0, ?_⟩⟩
      refine ⟨.ref p, rfl, p, _, 0, .int x, rfl, rfl, sl_map upd_same, at0, .int m, rfl, x, m, rfl, rfl, ⟨m0, m1⟩, .ref p, rfl, p, _, 0, 0, rfl, rfl, upd_same, rfl, ?_⟩
      refine ⟨.int (x % m), rfl, q _ _ (fun b hb => by rw [upd_ne hb, upd_ne hb]) ⟨_, _, _, upd_same⟩ (Int.emod_nonneg _ (by omega)) (Int.emod_lt_of_pos _ m0)⟩
    · refine ⟨.ref p, rfl, p, _, 2, .int z, rfl, rfl, sl_map upd_same, at2, .ref p, rfl, p, _, 1, .int (y + 1), rfl, rfl, sl_map upd_same, at1, 7919, y + 1, rfl, rfl, .inl ⟨by decide, by decide⟩, z, _, rfl, rfl, _, 13, rfl, rfl,
        .inl ⟨_, rfl, _, 2147483647, rfl, rfl, pos1, ?_⟩⟩
      have r1 : ∀ u : Int, 0 ≤ u % 2147483647 ∧ u % 2147483647 < 2147483647 := fun u => ⟨Int.emod_nonneg _ (by decide), Int.emod_lt_of_pos _ (by decide)⟩
      have r2 : ∀ u : Int, 0 ≤ u % 2147483629 ∧ u % 2147483629 < 2147483629 := fun u => ⟨Int.emod_nonneg _ (by decide), Int.emod_lt_of_pos _ (by decide)⟩
      have big : (2147483647 : Int) < 2 ^ 64 := by decide
      have big2 : (-(2 ^ 64) : Int) < 0 := by decide
      have b1 := r1 (z + 7919 * (y + 1) + 13)
      refine ⟨_, rfl, _, rfl, (z + 7919 * (y + 1) + 13) % 2147483647, 48271, rfl, rfl, (z + 7919 * (y + 1) + 13) % 2147483647, _, rfl, rfl, .inl ⟨by omega, by omega⟩, .inl ⟨_, rfl, _, 2147483629, rfl, rfl, pos2, ?_⟩⟩
      have b2 := r2 ((z + 7919 * (y + 1) + 13) % 2147483647 * ((z + 7919 * (y + 1) + 13) % 2147483647 + 48271))
      refine ⟨_, rfl, _, rfl, _, 69621, rfl, rfl, (z + 7919 * (y + 1) + 13) % 2147483647 * ((z + 7919 * (y + 1) + 13) % 2147483647 + 48271) % 2147483629, _, rfl, rfl, .inl ⟨?_, ?_⟩, .ref p, rfl, p, _, 1, .int (y + 1), rfl, rfl, sl_map upd_same, at1, 31, y + 1, rfl, rfl, .inl ⟨by decide, by decide⟩, _, _, rfl, rfl,
        .inl ⟨_, rfl, _, 2147483647, rfl, rfl, pos1, ?_⟩⟩
      · generalize (z + 7919 * (y + 1) + 13) % 2147483647 * ((z + 7919 * (y + 1) + 13) % 2147483647 + 48271) % 2147483629 = v at b2
        omega
      · generalize (z + 7919 * (y + 1) + 13) % 2147483647 * ((z + 7919 * (y + 1) + 13) % 2147483647 + 48271) % 2147483629 = v at b2
        omega
      refine ⟨_, rfl, _, 9, rfl, rfl, ⟨by decide, by decide⟩, .inl ⟨_, rfl, .int m, rfl, _, m, rfl, rfl, m0, ?_⟩⟩
      exact q _ _ (fun b hb => by rw [upd_ne hb]) ⟨_, _, _, upd_same⟩ (Int.emod_nonneg _ (by omega)) (Int.emod_lt_of_pos _ m0)
/-- a def that stands, with its promise -/
structure Call (P : Program) (w : World) (K : PySem.W.Frag) (mg : Str → Option Value) (base : Heap) (k : Nat) (x : Str) (f : Addr) (fd : FuncData) (ps : List Str) (sp : Sp) : Prop where
  ok : FnOk P w K mg base CX0 k f fd ps sp
  at_ : mg x = some (.ref f)
  kp : PySem.W.keepIn K (.ref f) = true
  bd : Binds K fd ps []
abbrev sIsSide : Stmt := topS 39
abbrev nIsSide : List Str := ["_law_actual", "_law_value", "_law_k"]
theorem scIsSide : FnScope nIsSide ["_law_actual"] (defScope sIsSide) := ⟨rfl, rfl, rfl, by decide +kernel, rfl, by decide +kernel, by decide +kernel⟩
def spIsSide : Sp := fun vs H Q _ => ∃ (a : Addr) (ns : List Int), vs = [.ref a] ∧ H a = some (.lst (ns.map V.int)) ∧ Srt ns ∧ ns.length ≤ 1000 ∧ ∀ H', Same H H' → Q (.bl true) H'
theorem all_rep (n : Nat) : (List.replicate n true).all id = true := by simp
theorem ok_isSide {f fI : Addr} {fd fdI : FuncData} (F : Fun K "_law_is_side" "_law_is_side" sIsSide f fd) (B : Bt mg) (I : Call P w K mg base 1 "_law_is_integer" fI fdI ["_law_actual"] spIsInt) :
    FnOk P w K mg base CX0 2 f fd ["_law_actual"] spIsSide := by
  refine F.ok scIsSide (fun vs H Q E h => ?_) (fun cdv A outer s H vs Q E hr h => ?_)
  · obtain ⟨a, ns, rfl, _⟩ := h
    rfl
  · obtain ⟨a, ns, rfl, ha, hs, hl, q⟩ := h
    refine ⟨_, pss_cons (ps_if (PW.pt (pw_or (pt_not (pt_val (pe_callB call_isi (by rfl) B.isi PyProof.Rows.boot_isinstance (pa_cons (pv 0) (pa_cons (pe_bltn (by rfl) B.list PyProof.Rows.boot_list (v := .ty "list") rfl) pa_nil)))))
        (pw_or1 (pt_not (pt_val (pe_callB (cr_all rfl) (by rfl) B.all PyProof.Rows.boot_all (pa_cons
          (pe_lc (own := [("_law_value", 1)]) (g := gName 1) (tt := tYes) rfl scIsSide.nd (pi_list (pv 0)) (blkOk_by (N := nIsSide) (sc := defScope sIsSide) (by decide +kernel)) (fun _ _ _ _ _ => pg_name (i := 1) scIsSide.nd rfl (Or.inl rfl)) (fun _ _ _ _ _ => pts_nil)
            (fun _ _ _ _ _ => pe_call I.ok hr (by rfl) I.at_ I.kp I.bd .nil pass0 (pa_cons (pv 1) pa_nil))) pa_nil)))))))
        (pss_one (ps_ret pe_bl)) pss_nil)
      (pss_one (ps_ret (pe_callB (cr_all rfl) (by rfl) B.all PyProof.Rows.boot_all (pa_cons
          (pe_lc (own := [("_law_k", 2)]) (g := gName 2) (tt := tYes) rfl scIsSide.nd (pi_range1 (by rfl) B.range (pa_cons (pe_op op_sub (pe_callB call_len_seq (by rfl) B.len PySem.boot_len (pa_cons (pv 0) pa_nil)) pe_int) pa_nil))
            (blkOk_by (N := nIsSide) (sc := defScope sIsSide) (by decide +kernel)) (fun _ _ _ _ _ => pg_name (i := 2) scIsSide.nd rfl (Or.inl rfl)) (fun _ _ _ _ _ => pts_nil)
            (fun _ _ _ _ _ => pe_cmpR op_lt (pe_ix (r := rIxL K) ix_list (pv 0) (pv 2) (fun _ _ => rfl)) (pe_ix (r := rIxL K) ix_list (pv 0) (pe_op op_add (pv 2) pe_int) (fun _ _ => rfl)) (nomark _))) pa_nil)))), ?_⟩
    refine ⟨.ref a, rfl, .ref a, .ty "list", .type "list", .type "list", true, rfl, .ty _, .base (.lst ha), kit_ty (by decide +kernel), true, rfl, iteF ?_⟩
    refine ⟨.ref a, rfl, a, rfl, ⟨_, sl_map ha⟩, fun D hD => lc_list (xs := ns.map V.int) (fun i H' => Same H H' ∧ H' D = some (.lst ((List.replicate i true).map V.bl))) ⟨same_new hD, upd_same⟩ (fun i H' _ h => h.1.seq (sl_map ha)) ?_ ?_⟩
    · rintro i x H' hx ⟨sm, hd⟩
      rw [List.getElem?_map] at hx
      obtain ⟨v, hv, rfl⟩ := Option.map_eq_some_iff.mp hx
      have hi : i < ns.length := (List.getElem?_eq_some_iff.mp hv).1
      refine ⟨rfl, ?_⟩
      refine ⟨_, rfl, v, rfl, _, hd, ?_, same_at sm hD, ?_⟩
      · rw [List.length_map, List.length_replicate]
        exact small1000 (by omega)
      · rw [upd_same, List.replicate_succ', List.map_append]
        rfl
    · rintro H' ⟨sm, hd⟩
      rw [List.length_map] at hd
      refine ⟨D, _, rfl, sl_map hd, _, rfl, ?_⟩
      rw [all_rep]
      refine iteF ?_
      -- all([.. < ..])
      refine ⟨.ref a, rfl, a, _, rfl, .inl (sm.seq (sl_map ha)), ((ns.map V.int).length : Int), 1, rfl, rfl, _, rfl, ?_, ?_, fun D2 hD2 => lc_range (lo := 0) (fun i H2 => Same H H2 ∧ H2 D2 = some (.lst ((List.replicate i true).map V.bl))) ⟨same_at sm (sm.free hD2), upd_same⟩ ?_ ?_⟩
      · rw [List.length_map]; omega
      · rw [List.length_map]; omega
      · rintro i H2 hi ⟨sm2, hd2⟩
        rw [List.length_map] at hi
        have h1 : i < ns.length := by omega
        have h2 : i + 1 < ns.length := by omega
        have g1 : (ns.map V.int)[i]? = some (.int ns[i]) := by
          rw [List.getElem?_map, List.getElem?_eq_getElem h1]
          rfl
        have g2 : (ns.map V.int)[i + 1]? = some (.int ns[i + 1]) := by
          rw [List.getElem?_map, List.getElem?_eq_getElem h2]
          rfl
        refine ⟨rfl, ?_⟩
        refine ⟨.ref a, rfl, _, rfl, a, _, _, _, rfl, rfl, sm2.seq (sl_map ha), at_of (by omega) g1, .ref a, rfl, _, rfl, _, 1, rfl, rfl, a, _, _, _, rfl, rfl, sm2.seq (sl_map ha), at_of (j := i + 1) (by omega) g2, _, _, rfl, rfl, _, hd2, ?_, same_at sm2 (sm.free hD2), ?_⟩
        · rw [List.length_map, List.length_replicate]
          exact small1000 (by omega)
        · have lt : ns[i] < ns[i + 1] := List.pairwise_iff_getElem.mp hs i (i + 1) h1 h2 (Nat.lt_succ_self i)
          have e : (fun i j : Int => V.bl (decide (i < j))) ns[i] ns[i + 1] = V.bl true := congrArg V.bl (decide_eq_true lt)
          rw [upd_same, e, List.replicate_succ', List.map_append]
          rfl
      · rintro H2 ⟨sm2, hd2⟩
        refine ⟨D2, _, rfl, sl_map hd2, ?_⟩
        rw [all_rep]
        exact q _ sm2
/-- what was tracked, but for the one at p, is as it was -/
def Keep (p : Addr) (H H' : Hp) : Prop := ∀ b o, b ≠ p → H b = some o → H' b = some o
theorem Keep.refl (p : Addr) (H : Hp) : Keep p H H := fun _ _ _ e => e
theorem Keep.oth {p : Addr} {H H1 H2 : Hp} (k : Keep p H H1) (o : Oth p H1 H2) : Keep p H H2 := fun b u hb e => (o b hb).trans (k b u hb e)
theorem Keep.trans {p : Addr} {H H1 H2 : Hp} (k : Keep p H H1) (k2 : Keep p H1 H2) : Keep p H H2 := fun b u hb e => k2 b u hb (k b u hb e)
theorem Keep.at_ {p q : Addr} {o : HO} {H H1 : Hp} (k : Keep p H H1) (n : H q = none) : Keep p H (upd H1 q o) := fun b u hb e => by
  rw [upd_ne (ne_of_none e n)]
  exact k b u hb e
theorem Keep.same {p : Addr} {H H1 : Hp} (s : Same H H1) : Keep p H H1 := fun b u _ e => s b u e
theorem Strm.some {H : Hp} {p : Addr} (s : Strm H p) : H p ≠ none := fun z => by
  obtain ⟨x, y, z', e⟩ := s
  rw [z] at e
  cases e
theorem Strm.keep {H H' : Hp} {p q : Addr} (s : Strm H p) (k : Keep q H H') (h : p ≠ q) : Strm H' p := by
  obtain ⟨x, y, z, e⟩ := s
  exact ⟨x, y, z, k _ _ h e⟩
theorem Strm.upd {H : Hp} {p q : Addr} {o : HO} (s : Strm H p) (h : p ≠ q) : Strm (upd H q o) p := by
  obtain ⟨x, y, z, e⟩ := s
  exact ⟨x, y, z, by rw [upd_ne h]; exact e⟩
theorem Keep.free {p q : Addr} {H H1 : Hp} (k : Keep p H H1) (s : Strm H1 p) (n : H1 q = none) : H q = none := by
  have hp : q ≠ p := fun z => s.some (z ▸ n)
  cases c : H q with
  | none => rfl
  | some o =>
    rw [k q o hp c] at n
    cases n
end
/-! ### lists of ints as data -/
abbrev dI (ns : List Int) : PyData := .list (ns.map PyData.int)
theorem dp_all {K : PySem.W.Frag} {H : Hp} : ∀ ns : List Int, DpAll K H (ns.map V.int) (ns.map PyData.int)
  | [] => .nil
  | n :: ns => .cons (.int n) (dp_all ns)
theorem dpI {K : PySem.W.Frag} {H : Hp} {a : Addr} {ns : List Int} (h : SqL K H a (ns.map V.int)) : Dp K H (.ref a) (dI ns) := .lst h (dp_all ns)
theorem lay_all : ∀ ns : List Int, PyData.canLayAll0 (ns.map PyData.int) = true
  | [] => rfl
  | n :: ns => by
    show (PyData.canLay0 (.int n) && PyData.canLayAll0 (ns.map PyData.int)) = true
    rw [lay_all ns] <;> rfl
theorem layI (ns : List Int) : (dI ns).canLay0 = true := lay_all ns
theorem deep_all : ∀ ns : List Int, PyData.depthAll (ns.map PyData.int) ≤ 1
  | [] => by simp [PyData.depthAll]
  | n :: ns => by
    have := deep_all ns
    simp only [List.map_cons, PyData.depthAll, PyData.depth]
    omega
theorem deepI (ns : List Int) : (dI ns).depth ≤ 2 := by
  have := deep_all ns
  simp only [dI, PyData.depth]
  omega
theorem shI (ns : List Int) : SeqAt.shaped (dI ns) = true := by
  unfold SeqAt.shaped
  rw [layI]
  have := deepI ns
  simp
  omega
theorem eqI (ns : List Int) : PyData.eqv (dI ns) (dI ns) = true := SeqAt.eqv_refl _ (layI ns)
theorem lay2 (ns ks : List Int) : (PyData.list [dI ns, dI ks]).canLay0 = true := by
  show (PyData.canLay0 (dI ns) && (PyData.canLay0 (dI ks) && true)) = true
  rw [layI, layI]
  rfl
theorem sh2 (ns ks : List Int) : SeqAt.shaped (.list [dI ns, dI ks]) = true := by
  unfold SeqAt.shaped
  rw [lay2]
  have h1 := deepI ns
  have h2 := deepI ks
  have : (PyData.list [dI ns, dI ks]).depth ≤ 3 := by
    simp only [PyData.depth, PyData.depthAll] at *
    omega
  simp
  omega
/-! ### boxes: dicts from texts to lists of ints -/
abbrev Ent := Str × Addr × List Int
def entK (L : List Ent) : List (Key × V) := L.map fun e => (Sum.inr e.1, V.ref e.2.1)
def getE (L : List Ent) (x : Str) : Option Ent := L.find? fun e => decide (e.1 = x)
def look (L : List Ent) (x : Str) : Option (List Int) := (getE L x).map (·.2.2)
theorem getE_pos {e : Ent} {L : List Ent} {x : Str} (h : e.1 = x) : getE (e :: L) x = some e := by simp [getE, List.find?_cons, h]
theorem getE_neg {e : Ent} {L : List Ent} {x : Str} (h : ¬ e.1 = x) : getE (e :: L) x = getE L x := by simp [getE, List.find?_cons, h]
theorem getE_mem {L : List Ent} {x : Str} {e : Ent} (h : getE L x = some e) : e ∈ L ∧ e.1 = x :=
  ⟨List.mem_of_find?_eq_some h, of_decide_eq_true (List.find?_some (p := fun e : Ent => decide (e.1 = x)) h)⟩
theorem getE_of : ∀ {L : List Ent} {e : Ent}, (L.map (·.1)).Nodup → e ∈ L → getE L e.1 = some e
  | [], _, _, h => by cases h
  | a :: L, e, nd, h => by
    rw [List.map_cons, List.nodup_cons] at nd
    rcases List.mem_cons.mp h with z | z
    · rw [z]; exact getE_pos rfl
    · have ne : ¬ a.1 = e.1 := fun q => nd.1 (q ▸ List.mem_map_of_mem z)
      rw [getE_neg ne]
      exact getE_of nd.2 z
theorem getE_none {L : List Ent} {x : Str} : getE L x = none ↔ x ∉ L.map (·.1) := by
  unfold getE
  rw [List.find?_eq_none]
  constructor
  · intro h hx
    obtain ⟨e, he, q⟩ := List.mem_map.mp hx
    exact h e he (decide_eq_true q)
  · intro h e he q
    exact h (of_decide_eq_true q ▸ List.mem_map_of_mem he)
theorem look_mem {L : List Ent} {e : Ent} (nd : (L.map (·.1)).Nodup) (h : e ∈ L) : look L e.1 = some e.2.2 := by
  unfold look
  rw [getE_of nd h]
  rfl
theorem valV_ent (x : Str) : ∀ L : List Ent, valV (entK L) (.inr x) = (getE L x).map fun e => V.ref e.2.1
  | [] => rfl
  | e :: L => by
    by_cases h : e.1 = x
    · rw [getE_pos h]
      exact valV_pos (congrArg Sum.inr h)
    · rw [getE_neg h]
      have : valV (entK (e :: L)) (.inr x) = valV (entK L) (.inr x) := valV_neg (fun z => h (Sum.inr.inj z))
      rw [this]
      exact valV_ent x L
structure Bx (H : Hp) (d : Addr) (L : List Ent) : Prop where
  rd : Rd H d (.dK (entK L))
  sides : ∀ e ∈ L, H e.2.1 = some (.lst (e.2.2.map V.int))
  nd : (L.map (·.1)).Nodup
  few : L.length ≤ 40
theorem Rd.same {H H' : Hp} {a : Addr} {u : HO} (s : Same H H') (r : Rd H a u) : Rd H' a u := r.elim (fun h => .inl (s _ _ h)) fun ⟨o, h⟩ => .inr ⟨o, s _ _ h⟩
theorem Bx.same {H H' : Hp} {d : Addr} {L : List Ent} (B : Bx H d L) (s : Same H H') : Bx H' d L := ⟨Rd.same s B.rd, fun e he => s _ _ (B.sides e he), B.nd, B.few⟩
theorem Bx.get {H : Hp} {d : Addr} {L : List Ent} (B : Bx H d L) (x : Str) : DGet H d (.str x) ((getE L x).map fun e => V.ref e.2.1) := .inl ⟨entK L, .inr x, B.rd, rfl, (valV_ent x L).symm⟩
/-- a locked dict is read as before -/
theorem Bx.lock {H : Hp} {d d' : Addr} {L L' : List Ent} {od : Obj} (B : Bx H d L) (h : H d' = some (.dK (entK L'))) : Bx (upd H d' (.frz od (.dK (entK L')))) d L := by
  refine ⟨?_, fun e he => ?_, B.nd, B.few⟩
  · by_cases z : d = d'
    · subst z
      have : entK L' = entK L := by
        rcases B.rd with q | ⟨o, q⟩
        · rw [h] at q
          exact HO.dK.inj (Option.some.inj q)
        · rw [h] at q; cases q
      rw [← this]
      exact .inr ⟨od, upd_same⟩
    · rcases B.rd with q | ⟨o, q⟩
      · exact .inl (by rw [upd_ne z]; exact q)
      · exact .inr ⟨o, by rw [upd_ne z]; exact q⟩
  · have : e.2.1 ≠ d' := fun z => by have q := B.sides e he; rw [z, h] at q; cases q
    rw [upd_ne this]
    exact B.sides e he
theorem unlock {H H' : Hp} {d : Addr} {u : HO} {od : Obj} (h : H d = some u) (s : Same (upd H d (.frz od u)) H') : Same H (upd H' d u) := fun b o e => by
  by_cases z : b = d
  · subst z
    rw [upd_same]
    exact h.symm.trans e
  · rw [upd_ne z]
    exact s b o (by rw [upd_ne z]; exact e)
/-- put -/
def putE (L : List Ent) (x : Str) (a : Addr) (s : List Int) : List Ent := if (L.any fun e => decide (e.1 = x)) = true then L.map (fun e => if e.1 = x then (x, a, s) else e) else L ++ [(x, a, s)]
theorem any_ent (L : List Ent) (x : Str) : ((entK L).any fun kv => decide (kv.1 = Sum.inr x)) = L.any fun e => decide (e.1 = x) := by
  unfold entK
  rw [List.any_map]
  congr 1
  funext e
  simp
theorem putK_ent (L : List Ent) (x : Str) (a : Addr) (s : List Int) : putK (entK L) (.inr x) (V.ref a) = entK (putE L x a s) := by
  unfold putK putE
  rw [any_ent]
  by_cases h : (L.any fun e => decide (e.1 = x)) = true
  · rw [if_pos h, if_pos h]
    unfold entK
    rw [List.map_map, List.map_map]
    congr 1
    funext e
    by_cases z : e.1 = x
    · simp [z]
    · simp [z]
  · rw [if_neg h, if_neg h]
    unfold entK
    rw [List.map_append]
    rfl
theorem any_iff {L : List Ent} {x : Str} : (L.any fun e => decide (e.1 = x)) = true ↔ x ∈ L.map (·.1) := by
  rw [List.any_eq_true, List.mem_map]
  constructor
  · rintro ⟨e, he, q⟩; exact ⟨e, he, of_decide_eq_true q⟩
  · rintro ⟨e, he, q⟩; exact ⟨e, he, decide_eq_true q⟩
theorem putE_keys (L : List Ent) (x : Str) (a : Addr) (s : List Int) : (putE L x a s).map (·.1) = if x ∈ L.map (·.1) then L.map (·.1) else L.map (·.1) ++ [x] := by
  unfold putE
  by_cases h : (L.any fun e => decide (e.1 = x)) = true
  · rw [if_pos h, if_pos (any_iff.mp h), List.map_map]
    congr 1
    funext e
    by_cases z : e.1 = x
    · simp [z]
    · simp [z]
  · rw [if_neg h, if_neg (fun z => h (any_iff.mpr z)), List.map_append]
    rfl
theorem putE_nd {L : List Ent} {x : Str} {a : Addr} {s : List Int} (nd : (L.map (·.1)).Nodup) : ((putE L x a s).map (·.1)).Nodup := by
  rw [putE_keys]
  split
  · exact nd
  · rename_i h
    rw [List.nodup_append]
    exact ⟨nd, by simp, fun y hy z hz => by rw [List.mem_singleton.mp hz]; exact fun e => h (e ▸ hy)⟩
theorem putE_len (L : List Ent) (x : Str) (a : Addr) (s : List Int) : (putE L x a s).length ≤ L.length + 1 := by
  unfold putE
  split
  · rw [List.length_map]; omega
  · rw [List.length_append]; exact Nat.le_refl _
theorem putE_mem {L : List Ent} {x : Str} {a : Addr} {s : List Int} {e : Ent} (h : e ∈ putE L x a s) : e = (x, a, s) ∨ (e ∈ L ∧ e.1 ≠ x) := by
  unfold putE at h
  split at h
  · obtain ⟨f, hf, q⟩ := List.mem_map.mp h
    by_cases z : f.1 = x
    · rw [if_pos z] at q; exact .inl q.symm
    · rw [if_neg z] at q; exact .inr (q ▸ ⟨hf, z⟩)
  · rename_i g
    rcases List.mem_append.mp h with q | q
    · exact .inr ⟨q, fun z => g (any_iff.mpr (z ▸ List.mem_map_of_mem q))⟩
    · exact .inl (List.mem_singleton.mp q)
theorem find_map_at {x y : Str} {a : Addr} {s : List Int} (h : ¬ x = y) : ∀ L : List Ent, getE (L.map (fun e => if e.1 = x then (x, a, s) else e)) y = getE L y
  | [] => rfl
  | e :: L => by
    rw [List.map_cons]
    by_cases z : e.1 = x
    · rw [if_pos z, getE_neg (show ¬ (x, a, s).1 = y from h), getE_neg (fun q => h (z.symm.trans q))]
      exact find_map_at h L
    · rw [if_neg z]
      by_cases q : e.1 = y
      · rw [getE_pos q, getE_pos q]
      · rw [getE_neg q, getE_neg q]
        exact find_map_at h L
theorem find_map_self {x : Str} {a : Addr} {s : List Int} : ∀ L : List Ent, x ∈ L.map (·.1) → getE (L.map (fun e => if e.1 = x then (x, a, s) else e)) x = some (x, a, s)
  | [], h => by cases h
  | e :: L, h => by
    rw [List.map_cons]
    by_cases z : e.1 = x
    · rw [if_pos z]; exact getE_pos rfl
    · rw [if_neg z, getE_neg z]
      rw [List.map_cons] at h
      exact find_map_self L ((List.mem_cons.mp h).elim (fun q => absurd q.symm z) id)
theorem getE_app (L M : List Ent) (y : Str) : getE (L ++ M) y = (getE L y).or (getE M y) := List.find?_append
theorem getE_put (L : List Ent) (x y : Str) (a : Addr) (s : List Int) : getE (putE L x a s) y = if y = x then some (x, a, s) else getE L y := by
  unfold putE
  by_cases h : (L.any fun e => decide (e.1 = x)) = true
  · rw [if_pos h]
    by_cases z : y = x
    · rw [if_pos z, z]
      exact find_map_self L (any_iff.mp h)
    · rw [if_neg z]
      exact find_map_at (fun q => z q.symm) L
  · rw [if_neg h, getE_app]
    by_cases z : y = x
    · rw [if_pos z, z, getE_none.mpr (fun q => h (any_iff.mpr q))]
      exact getE_pos rfl
    · rw [if_neg z, show getE [(x, a, s)] y = none from getE_neg (fun q => z q.symm)]
      cases getE L y <;> rfl
theorem look_put (L : List Ent) (x y : Str) (a : Addr) (s : List Int) : look (putE L x a s) y = if y = x then some s else look L y := by
  unfold look
  rw [getE_put]
  by_cases z : y = x
  · rw [if_pos z, if_pos z]; rfl
  · rw [if_neg z, if_neg z]
/-- two boxes that say the same -/
def SameB (L M : List Ent) : Prop := ∀ x, look L x = look M x
theorem look_isSome {L : List Ent} {x : Str} : (look L x).isSome = true ↔ x ∈ L.map (·.1) := by
  unfold look
  rw [Option.isSome_map]
  cases h : getE L x with
  | none => simp [getE_none.mp h]
  | some e => simp only [Option.isSome_some, true_iff]; obtain ⟨a, b⟩ := getE_mem h; exact b ▸ List.mem_map_of_mem a
theorem len_le {α : Type} [DecidableEq α] : ∀ {l m : List α}, l.Nodup → (∀ x ∈ l, x ∈ m) → l.length ≤ m.length
  | [], _, _, _ => Nat.zero_le _
  | x :: l, m, nd, h => by
    rw [List.nodup_cons] at nd
    have hx := h x List.mem_cons_self
    have ih := len_le (m := m.erase x) nd.2 (fun y hy => (List.mem_erase_of_ne (fun (e : y = x) => nd.1 (by rw [← e]; exact hy))).2 (h y (List.mem_cons_of_mem _ hy)))
    rw [List.length_erase_of_mem hx] at ih
    have : 0 < m.length := List.length_pos_of_mem hx
    rw [List.length_cons]
    omega
theorem SameB.len {L M : List Ent} (s : SameB L M) (n1 : (L.map (·.1)).Nodup) (n2 : (M.map (·.1)).Nodup) : L.length = M.length := by
  have h1 := len_le n1 (fun x hx => look_isSome.mp (by rw [← s x]; exact look_isSome.mpr hx))
  have h2 := len_le n2 (fun x hx => look_isSome.mp (by rw [s x]; exact look_isSome.mpr hx))
  rw [List.length_map, List.length_map] at h1 h2
  omega
/-- v in ks, as the model asks it -/
theorem in_ints (ks : List Int) (v : Int) : inV (.int v) (ks.map V.int) = decide (v ∈ ks) := by
  unfold inV
  induction ks with
  | nil => simp
  | cons k ks ih =>
    rw [List.map_cons, List.any_cons, ih]
    have e : eqV (.int k) (.int v) = decide (k = v) := by
      by_cases c : k = v
      · subst c; simp [eqV]
      · simp [eqV, c]
    rw [e]
    by_cases c : k = v
    · subst c; simp
    · have c2 : ¬ v = k := fun z => c z.symm
      simp [c, c2]
theorem flat_ints (ks : List Int) : (ks.map V.int).all flatV = true := by
  rw [List.all_map]
  exact List.all_eq_true.mpr fun _ _ => rfl
section
variable {P : Program} {w : World} {K : PySem.W.Frag} {mg : Str → Option Value} {base : Heap}
/-! ### the program: boxes -/
/-- a box that no walk has locked -/
structure Bu (H : Hp) (d : Addr) (L : List Ent) : Prop extends Bx H d L where
  un : H d = some (.dK (entK L))
theorem Bu.same' {H H' : Hp} {d : Addr} {L : List Ent} (B : Bu H d L) (s : Same H H') : Bu H' d L := ⟨B.toBx.same s, s _ _ B.un⟩
theorem entK_get {L : List Ent} {i : Nat} : (entK L)[i]? = (L[i]?).map fun e => (Sum.inr e.1, V.ref e.2.1) := by
  unfold entK
  rw [List.getElem?_map]
/-! ### holds -/
def intK (A : List (Str × Int)) : List (Key × V) := A.map fun e => (Sum.inr e.1, V.int e.2)
def aget (A : List (Str × Int)) (x : Str) : Option Int := (A.find? fun e => decide (e.1 = x)).map (·.2)
theorem valV_int (x : Str) : ∀ A : List (Str × Int), valV (intK A) (.inr x) = (aget A x).map V.int
  | [] => rfl
  | e :: A => by
    by_cases h : e.1 = x
    · have : aget (e :: A) x = some e.2 := by simp [aget, List.find?_cons, h]
      rw [this]
      exact valV_pos (congrArg Sum.inr h)
    · have : aget (e :: A) x = aget A x := by simp [aget, List.find?_cons, h]
      rw [this]
      have : valV (intK (e :: A)) (.inr x) = valV (intK A) (.inr x) := valV_neg (fun z => h (Sum.inr.inj z))
      rw [this]
      exact valV_int x A
/-- an assignment: a dict from texts to ints -/
structure Ax (H : Hp) (d : Addr) (A : List (Str × Int)) : Prop where
  rd : Rd H d (.dK (intK A))
theorem Ax.same {H H' : Hp} {d : Addr} {A : List (Str × Int)} (B : Ax H d A) (s : Same H H') : Ax H' d A := ⟨Rd.same s B.rd⟩
theorem Ax.get {H : Hp} {d : Addr} {A : List (Str × Int)} (B : Ax H d A) (x : Str) : DGet H d (.str x) ((aget A x).map V.int) := .inl ⟨intK A, .inr x, B.rd, rfl, (valV_int x A).symm⟩
theorem Ax.frz {H : Hp} {v d : Addr} {A : List (Str × Int)} {u : HO} (B : Ax H v A) (h : v ≠ d) : Ax (upd H d u) v A := ⟨B.rd.elim (fun q => .inl (by rw [upd_ne h]; exact q)) fun ⟨o, q⟩ => .inr ⟨o, by rw [upd_ne h]; exact q⟩⟩
theorem entK_len (L : List Ent) : (entK L).length = L.length := by unfold entK; rw [List.length_map]
theorem keys_at {L : List Ent} {i : Nat} {k : Key} {v : V} (h : (entK L)[i]? = some (k, v)) : ∃ e, L[i]? = some e ∧ k = .inr e.1 ∧ v = .ref e.2.1 := by
  rw [entK_get] at h
  obtain ⟨e, he, q⟩ := Option.map_eq_some_iff.mp h
  cases q
  exact ⟨e, he, rfl, rfl⟩
/-! ### box_within -/
end
/-- a new box with sides of its own -/
structure Nb (H0 H : Hp) (d : Addr) (L : List Ent) : Prop extends Bu H d L where
  fresh : H0 d = none
  freshS : ∀ e ∈ L, H0 e.2.1 = none
  inj : (L.map (·.2.1)).Nodup
theorem Nb.push {H0 H1 H2 : Hp} {d : Addr} {L : List Ent} (N : Nb H0 H1 d L) (s : Same H1 H2) : Nb H0 H2 d L := ⟨N.toBu.same' s, N.fresh, N.freshS, N.inj⟩
abbrev shape (L : List Ent) : List (Str × List Int) := L.map fun e => (e.1, e.2.2)
theorem look_shape : ∀ {L M : List Ent}, shape L = shape M → SameB L M
  | [], [], _, _ => rfl
  | [], _ :: _, h, _ => by cases h
  | _ :: _, [], h, _ => by cases h
  | e :: L, f :: M, h, x => by
    simp only [shape, List.map_cons, List.cons.injEq, Prod.mk.injEq] at h
    obtain ⟨⟨h1, h2⟩, h3⟩ := h
    have ih := look_shape (L := L) (M := M) h3 x
    unfold look at ih ⊢
    by_cases z : e.1 = x
    · rw [getE_pos z, getE_pos (h1 ▸ z)]
      exact congrArg some h2
    · rw [getE_neg z, getE_neg (fun q => z (h1.trans q))]
      exact ih
theorem shape_keys {L M : List Ent} (h : shape L = shape M) : L.map (·.1) = M.map (·.1) := by
  have q := congrArg (List.map Prod.fst) h
  unfold shape at q
  rw [List.map_map, List.map_map] at q
  exact q
theorem putE_new {L : List Ent} {x : Str} {a : Addr} {s : List Int} (h : x ∉ L.map (·.1)) : putE L x a s = L ++ [(x, a, s)] := if_neg fun z => h (any_iff.mp z)
theorem nd_snoc {α : Type} {l : List α} {x : α} (nd : l.Nodup) (h : x ∉ l) : (l ++ [x]).Nodup := by
  rw [List.nodup_append]
  exact ⟨nd, by simp, fun y hy z hz => by rw [List.mem_singleton.mp hz]; exact fun e => h (e ▸ hy)⟩
theorem dc_it {J : It} {n : Nat} {G : Hp → Prop} {Y : Nat → Hp → V → Hp → Prop} (w : Walk J n G Y) {g : TG} {tt : TT} {tk tv : TE} {vs : List Nat} {σ : L2.St} {H1 : Hp} {D : Addr} {Qd : Hp → Prop} (Pv : Nat → Hp → Prop) (start : Pv 0 (upd H1 D (.dK []))) (stays : ∀ i H, i ≤ n → Pv i H → G H)
    (turn : ∀ i x H H', i < n → Pv i H → Y i H x H' → g x (wipe σ vs) H' fun σ2 H2 => wipe σ2 vs = wipe σ vs ∧ tt σ2 H2 fun b H3 =>
      if b = true then tk σ2 H3 fun y H4 => tv σ2 H4 fun z H5 => ∃ kvs k, y = kV k ∧ H5 D = some (.dK kvs) ∧ kvs.length < sizeLine ∧ Pv (i + 1) (upd H5 D (.dK (putK kvs k z))) else Pv (i + 1) H3) (after : ∀ H, Pv n H → Qd H) :
    ∃ W : Nat → Nat → Hp → Prop, (∃ m, W 0 m (upd H1 D (.dK []))) ∧ ∀ i m H, W i m H →
      (J.stop i H ∧ Qd H) ∨ (J.go i H ∧ ∃ Nx : Hp → Prop, (∀ H', Nx H' → ∃ m', m' < m ∧ W (i + 1) m' H') ∧ ∀ x H', J.yld i H x H' → g x (wipe σ vs) H' fun σ2 H2 => wipe σ2 vs = wipe σ vs ∧ tt σ2 H2 fun b H3 =>
        if b = true then tk σ2 H3 fun y H4 => tv σ2 H4 fun z H5 => ∃ kvs k, y = kV k ∧ H5 D = some (.dK kvs) ∧ kvs.length < sizeLine ∧ Nx (upd H5 D (.dK (putK kvs k z))) else Nx H3) := by
  refine ⟨fun i m H => m = n - i ∧ i ≤ n ∧ Pv i H, ⟨n, rfl, Nat.zero_le _, start⟩, fun i m H h => ?_⟩
  obtain ⟨em, le, pv⟩ := h
  by_cases lt : i < n
  · exact .inr ⟨w.goes i H lt (stays i H le pv), Pv (i + 1), fun H' p => ⟨n - (i + 1), by omega, rfl, lt, p⟩, fun x H' y => turn i x H H' lt pv (w.yields i H x H' lt (stays i H le pv) y)⟩
  · obtain rfl : i = n := by omega
    exact .inl ⟨w.stops H (stays _ H le pv), after H pv⟩
section
variable {P : Program} {w : World} {K : PySem.W.Frag} {mg : Str → Option Value} {base : Heap}
abbrev rLst (K : PySem.W.Frag) : List V → Hp → VK → Prop := fun xs H Q => ∃ p ys, xs = [.ref p] ∧ (SqL K H p ys ∨ SqT K H p ys) ∧ ∀ l, H l = none → Q (.ref l) (upd H l (.lst ys))
def spCopy : Sp := fun vs H Q _ => ∃ (d : Addr) (L : List Ent), vs = [.ref d] ∧ Bu H d L ∧ ∀ (H' : Hp) (d' : Addr) (M : List Ent), Same H H' → Nb H H' d' M → shape M = shape L → Q (.ref d') H'
end
/-! ### what two sorted lists have together -/
def ins (k : Int) : List Int → List Int
  | [] => [k]
  | x :: l => if k < x then k :: x :: l else if k = x then x :: l else x :: ins k l
theorem take_keys {L : List Ent} {i : Nat} {e : Ent} (nd : (L.map (·.1)).Nodup) (he : L[i]? = some e) : e.1 ∉ (L.take i).map (·.1) := by
  intro z
  obtain ⟨g, hg, eg⟩ := List.mem_map.mp z
  obtain ⟨j, hj⟩ := List.mem_iff_getElem?.mp hg
  rw [List.getElem?_take] at hj
  split at hj
  · rename_i hji
    have a1 : (L.map (·.1))[j]? = some e.1 := by rw [List.getElem?_map, hj]; exact congrArg some eg
    have a2 : (L.map (·.1))[i]? = some e.1 := by rw [List.getElem?_map, he]; rfl
    have := nd_ix nd a1 a2
    omega
  · cases hj
structure Sz (L : List Ent) (n : Nat) : Prop where
  srt : ∀ e ∈ L, Srt e.2.2
  len : ∀ e ∈ L, e.2.2.length ≤ n
/-- what a new box needs when one more side is put -/
theorem Nb.put {H0 H H3 : Hp} {d l : Addr} {M : List Ent} {x : Str} {s : List Int} (N : Nb H0 H d M) (n0 : H0 l = none) (nl : H l = none) (s3 : Same H H3) (el : H3 l = some (.lst (s.map V.int))) (few : M.length + 1 ≤ 40) :
    Nb H0 (upd H3 d (.dK (entK (putE M x l s)))) d (putE M x l s) := by
  have nld : l ≠ d := fun z => by rw [z, N.un] at nl; cases nl
  have sd : ∀ e ∈ putE M x l s, (upd H3 d (.dK (entK (putE M x l s)))) e.2.1 = some (.lst (e.2.2.map V.int)) := fun e he => by
    rcases putE_mem he with z | ⟨z, _⟩
    · rw [z, upd_ne nld]
      exact el
    · have h1 := N.sides e z
      have h2 : e.2.1 ≠ d := fun w => by rw [w, N.un] at h1; cases h1
      rw [upd_ne h2]
      exact s3 _ _ h1
  refine ⟨⟨⟨.inl upd_same, sd, putE_nd N.nd, by have := putE_len M x l s; omega⟩, upd_same⟩, N.fresh, fun e he => ?_, ?_⟩
  · rcases putE_mem he with z | ⟨z, _⟩
    · rw [z]; exact n0
    · exact N.freshS e z
  · have lM : l ∉ M.map (·.2.1) := fun w => by
      obtain ⟨g, hg, eg⟩ := List.mem_map.mp w
      have eg' : g.2.1 = l := eg
      have h1 := N.sides g hg
      rw [eg', nl] at h1
      cases h1
    unfold putE
    split
    · rw [List.map_map]
      have key : ∀ L : List Ent, (L.map (·.1)).Nodup → (L.map (·.2.1)).Nodup → l ∉ L.map (·.2.1) → (L.map ((fun e : Ent => e.2.1) ∘ fun e => if e.1 = x then (x, l, s) else e)).Nodup ∧ ∀ q ∈ L.map ((fun e : Ent => e.2.1) ∘ fun e => if e.1 = x then (x, l, s) else e), q ∈ L.map (·.2.1) ∨ (q = l ∧ x ∈ L.map (·.1)) := by
        intro L
        induction L with
        | nil => intro _ _ _; exact ⟨List.Pairwise.nil, fun q hq => by cases hq⟩
        | cons e L ih =>
          intro n1 n2 n3
          rw [List.map_cons, List.nodup_cons] at n1 n2
          rw [List.map_cons, List.mem_cons, not_or] at n3
          obtain ⟨i1, i2⟩ := ih n1.2 n2.2 n3.2
          rw [List.map_cons, List.nodup_cons]
          by_cases c : e.1 = x
          · have ef : ((fun e : Ent => e.2.1) ∘ fun e => if e.1 = x then (x, l, s) else e) e = l := by simp [c]
            rw [ef]
            refine ⟨⟨fun w => ?_, i1⟩, fun q hq => ?_⟩
            · rcases i2 l w with z | ⟨_, z⟩
              · exact n3.2 z
              · exact n1.1 (c ▸ z)
            · rcases List.mem_cons.mp hq with z | z
              · exact .inr ⟨z, by rw [List.map_cons, c]; exact List.mem_cons_self⟩
              · rcases i2 q z with y | ⟨y1, y2⟩
                · exact .inl (List.mem_cons_of_mem _ y)
                · exact .inr ⟨y1, List.mem_cons_of_mem _ y2⟩
          · have ef : ((fun e : Ent => e.2.1) ∘ fun e => if e.1 = x then (x, l, s) else e) e = e.2.1 := by simp [c]
            rw [ef]
            refine ⟨⟨fun w => ?_, i1⟩, fun q hq => ?_⟩
            · rcases i2 _ w with z | ⟨z, _⟩
              · exact n2.1 z
              · exact n3.1 z.symm
            · rcases List.mem_cons.mp hq with z | z
              · exact .inl (by rw [z]; exact List.mem_cons_self)
              · rcases i2 q z with y | ⟨y1, y2⟩
                · exact .inl (List.mem_cons_of_mem _ y)
                · exact .inr ⟨y1, List.mem_cons_of_mem _ y2⟩
      exact (key M N.nd N.inj lM).1
    · rw [List.map_append]
      exact nd_snoc N.inj lM
theorem Same.unl {H H' : Hp} {d : Addr} {u : HO} {od : Obj} (h : H d = some u) (s : Same (upd H d (.frz od u)) H') : Same H (upd H' d u) := unlock h s
/-- a new box behind a lock elsewhere -/
theorem Nb.unl {H0 H' : Hp} {b d : Addr} {u : HO} {M : List Ent} {od : Obj} (N : Nb H0 H' d M) (hb : H0 b = some u) (eF : H' b = some (.frz od u)) : Nb H0 (upd H' b u) d M := by
  have db : d ≠ b := fun z => by have := N.un; rw [z, eF] at this; cases this
  have away : ∀ g ∈ M, g.2.1 ≠ b := fun g hg z => by have := N.sides g hg; rw [z, eF] at this; cases this
  exact ⟨⟨⟨.inl (by rw [upd_ne db]; exact N.un), fun g hg => by rw [upd_ne (away g hg)]; exact N.sides g hg, N.nd, N.few⟩, by rw [upd_ne db]; exact N.un⟩, N.fresh, N.freshS, N.inj⟩
theorem ne_some' {H : Hp} {p q : Addr} {o : HO} (h : H p = some o) (n : H q = none) : p ≠ q := fun e => by rw [e, n] at h; cases h
section
variable {P : Program} {w : World} {K : PySem.W.Frag} {mg : Str → Option Value} {base : Heap}
/-! ### the pool, a part of it -/
abbrev sPool : Stmt := topS 28
abbrev nPool : List Str := ["_law_stream_here", "_law_count", "_law_pool_here", "_law_k", "_law_scale", "_law_value"]
theorem scPool : FnScope nPool ["_law_stream_here", "_law_count"] (defScope sPool) := ⟨rfl, rfl, rfl, by decide +kernel, rfl, by decide +kernel, by decide +kernel⟩
theorem srt_snoc {ss : List Int} {v : Int} (s : Srt ss) (h : ∀ k ∈ ss, k < v) : Srt (ss ++ [v]) :=
  List.pairwise_append.mpr ⟨s, List.pairwise_singleton _ _, fun a ha b hb => by rw [List.mem_singleton.mp hb]; exact h a ha⟩
def spPool : Sp := fun vs H Q _ => ∃ (p : Addr) (m : Nat), vs = [.ref p, .int (m : Int)] ∧ Strm H p ∧ 1 ≤ m ∧ m ≤ 100 ∧
  ∀ (H' : Hp) (l : Addr) (ns : List Int), Keep p H H' → H l = none → Strm H' p → H' l = some (.lst (ns.map V.int)) → Srt ns → ns.length = m → Q (.ref l) H'
theorem ok_pool {f fD : Addr} {fd fdD : FuncData} (F : Fun K "_law_pool" "_law_pool" sPool f fd) (B : Bt mg) (D : Call P w K mg base 1 "_law_next" fD fdD ["_law_stream_here", "_law_size"] spDraw) :
    FnOk P w K mg base CX0 2 f fd ["_law_stream_here", "_law_count"] spPool := by
  refine F.ok scPool (fun vs H Q E h => ?_) (fun cdv A outer s H vs Q E hr h => ?_)
  · obtain ⟨p, m, rfl, _⟩ := h
    rfl
  · obtain ⟨p, m, rfl, hp, m0, m1, q⟩ := h
    have nd := scPool.nd
    refine ⟨_, pss_cons (ps_set (i := 2) nd rfl (.inl rfl) (pe_lst (pa_cons (pe_op op_sub (pe_call D.ok hr (by rfl) D.at_ D.kp D.bd .nil pass0 (pa_cons (pv 0) (pa_cons pe_int pa_nil))) pe_int) pa_nil)))
      (pss_cons (ps_for PassesOwn.never rfl (pi_range1 (by rfl) B.range (pa_cons (pe_op op_sub (pv 1) pe_int) pa_nil)) (pg_name (i := 3) nd rfl (.inl rfl))
        (pss_one (ps_expr (pe_bm PySem.F.plainAttrs_list PySem.F.slot_list_append PySem.F.type_list_append mt_append (pv 2) (pa_cons
          (pe_op op_add (pe_op op_add (pe_ix ix_list (pv 2) (pv 3) (fun _ _ => rfl)) pe_int) (pe_op op_mul pe_int (pe_op op_fdiv (pe_call D.ok hr (by rfl) D.at_ D.kp D.bd .nil pass0 (pa_cons (pv 0) (pa_cons pe_int pa_nil))) pe_int))) pa_nil)))))
      (pss_cons (ps_set (i := 4) nd rfl (.inr rfl) (pe_ix ix_list (pe_lst (pa_cons pe_int (pa_cons pe_int (pa_cons pe_int (pa_cons pe_int (pa_cons pe_int (pa_cons pe_int (pa_cons pe_int (pa_cons (pe_op op_pow pe_int pe_int) pa_nil)))))))))
          (pe_call D.ok hr (by rfl) D.at_ D.kp D.bd .nil pass0 (pa_cons (pv 0) (pa_cons pe_int pa_nil))) (fun _ _ => rfl)))
      (pss_one (ps_ret (pe_lc (own := [("_law_value", 5)]) (g := gName 5) (tt := tYes) rfl nd (pi_list (pv 2)) (blkOk_by (N := nPool) (sc := defScope sPool) (by decide +kernel)) (fun _ _ _ _ _ => pg_name (i := 5) nd rfl (Or.inl rfl)) (fun _ _ _ _ _ => pts_nil)
        (fun _ _ _ _ _ => pe_op op_mul (pv 5) (pv 4))))))), ?_⟩
    refine ⟨.ref p, rfl, p, 9, rfl, hp, by decide, by decide, fun H1 d o1 st1 d0 d1 => ⟨d, 4, rfl, rfl, by show 1 ≤ sizeLine; decide, fun l nl1 => ?_⟩⟩
    have npl : p ≠ l := fun z => st1.some (z ▸ nl1)
    have nl : H l = none := by rw [← o1 l npl.symm]; exact nl1
    refine ⟨.int (m : Int), rfl, (m : Int), 1, rfl, rfl, (m : Int) - 1, rfl, by omega, by omega, for_range (lo := 0) (n := ((m : Int) - 1).toNat) (fun i σ H' => ∃ (y3 : Option V) (ns : List Int), σ = [some (.ref p), some (.int (m : Int)), some (.ref l), y3, none, none] ∧ Keep p H H' ∧ Strm H' p ∧ H' l = some (.lst (ns.map V.int)) ∧ Srt ns ∧ ns.length = i + 1 ∧ ∃ z, ns = ns.take i ++ [z])
      ⟨none, [d - 4], rfl, ((Keep.refl p H).oth o1).at_ nl, st1.upd npl, upd_same, List.pairwise_singleton _ _, rfl, d - 4, rfl⟩ ?_ ?_⟩
    · rintro i σ H' hi ⟨y3, ns, rfl, kp, st, el, so, len, z, ez⟩
      have gz : (ns.map V.int)[i]? = some (.int z) := by
        rw [ez, List.map_append, List.getElem?_append_right (by rw [List.length_map, List.length_take]; omega)]
        rw [List.length_map, List.length_take, show i - min i ns.length = 0 by omega]
        rfl
      refine ⟨.ref l, rfl, .inl ⟨rfl, _, sl_map el⟩, .ref l, rfl, .int (0 + (i : Int)), rfl, l, _, _, _, rfl, rfl, sl_map el, at_of (by omega) gz, z, 1, rfl, rfl, .ref p, rfl, p, 4, rfl, st, by decide, by decide, fun H2 e o2 st2 e0 e1 => ?_⟩
      refine ⟨e, 3, rfl, rfl, ⟨by decide, by decide⟩, 2, e / 3, rfl, rfl, .inl ⟨by decide, by decide⟩, z + 1, 2 * (e / 3), rfl, rfl, l, _, _, rfl, rfl, (o2 l npl.symm).trans el, ?_, ?_⟩
      · rw [List.length_map]
        exact small1000 (by omega)
      · have e3 : 0 ≤ e / 3 := Int.ediv_nonneg e0 (by decide)
        refine ⟨_, ns ++ [z + 1 + 2 * (e / 3)], rfl, (kp.oth o2).at_ nl, st2.upd npl, by rw [upd_same, List.map_append]; rfl, srt_snoc so fun k hk => ?_, by rw [List.length_append, len]; rfl, z + 1 + 2 * (e / 3), ?_⟩
        · rw [ez] at hk so
          rcases List.mem_append.mp hk with h | h
          · have := (List.pairwise_append.mp so).2.2 k h z (List.mem_singleton.mpr rfl)
            omega
          · have := List.mem_singleton.mp h
            omega
        · rw [List.take_append_of_le_length (by omega), List.take_of_length_le (by omega)]
    · rintro σ H' ⟨y3, ns, rfl, kp, st, el, so, len, z, ez⟩
      refine ⟨10, 9, rfl, rfl, ⟨by decide, by decide, by decide⟩, by show 8 ≤ sizeLine; decide, fun t nt => ?_⟩
      have npt : p ≠ t := fun e => st.some (e ▸ nt)
      have nlt : l ≠ t := ne_some' el nt
      refine ⟨.ref p, rfl, p, 8, rfl, st.upd npt, by decide, by decide, fun H2 e o2 st2 e0 e1 => ?_⟩
      have et : H2 t = some (.lst [V.int 1, V.int 1, V.int 1, V.int 1, V.int 1, V.int 1, V.int 7, V.int (10 ^ (9 : Int).toNat)]) := (o2 t npt.symm).trans upd_same
      obtain ⟨sc, hsc, sc0, sc1⟩ : ∃ sc : Int, atI [V.int 1, V.int 1, V.int 1, V.int 1, V.int 1, V.int 1, V.int 7, V.int (10 ^ (9 : Int).toNat)] e = some (.int sc) ∧ 0 < sc ∧ sc < 2 ^ 64 := by
        have : e = 0 ∨ e = 1 ∨ e = 2 ∨ e = 3 ∨ e = 4 ∨ e = 5 ∨ e = 6 ∨ e = 7 := by omega
        rcases this with h | h | h | h | h | h | h | h
        · exact ⟨_, by rw [h]; exact atI_nat (j := 0) rfl, by decide, by decide⟩
        · exact ⟨_, by rw [h]; exact atI_nat (j := 1) rfl, by decide, by decide⟩
        · exact ⟨_, by rw [h]; exact atI_nat (j := 2) rfl, by decide, by decide⟩
        · exact ⟨_, by rw [h]; exact atI_nat (j := 3) rfl, by decide, by decide⟩
        · exact ⟨_, by rw [h]; exact atI_nat (j := 4) rfl, by decide, by decide⟩
        · exact ⟨_, by rw [h]; exact atI_nat (j := 5) rfl, by decide, by decide⟩
        · exact ⟨_, by rw [h]; exact atI_nat (j := 6) rfl, by decide, by decide⟩
        · exact ⟨_, by rw [h]; exact atI_nat (j := 7) rfl, by decide, by decide⟩
      refine ⟨t, _, e, .int sc, rfl, rfl, sl_map et, hsc, ?_⟩
      have el2 : H2 l = some (.lst (ns.map V.int)) := by rw [o2 l npl.symm, upd_ne nlt]; exact el
      have kp2 : Keep p H H2 := (kp.at_ (kp.free st nt)).oth o2
      refine ⟨.ref l, rfl, l, rfl, ⟨_, sl_map el2⟩, fun R nR => lc_list (xs := ns.map V.int) (fun i H3 => Same H2 H3 ∧ H3 R = some (.lst (((ns.take i).map (· * sc)).map V.int))) ⟨same_new nR, upd_same⟩ (fun i H3 _ h => h.1.seq (sl_map el2)) ?_ ?_⟩
      · rintro i x H3 hx ⟨sm, eR⟩
        rw [List.getElem?_map] at hx
        obtain ⟨v, hv, rfl⟩ := Option.map_eq_some_iff.mp hx
        have hi := (List.getElem?_eq_some_iff.mp hv).1
        refine ⟨rfl, .int v, rfl, .int sc, rfl, v, sc, rfl, rfl, .inr ⟨by omega, by omega⟩, _, eR, ?_, same_at sm nR, ?_⟩
        · rw [List.length_map, List.length_map, List.length_take]
          exact small1000 (by omega)
        · rw [upd_same, List.take_add_one, hv, List.map_append, List.map_append]
          rfl
      · rintro H3 ⟨sm, eR⟩
        rw [List.length_map, List.take_length] at eR
        refine q H3 R _ (fun b u hb e => sm _ _ (kp2 b u hb e)) (kp2.free st2 nR) (st2.keep (Keep.same (p := R) sm) (fun z => st2.some (z ▸ nR))) eR ?_ ?_
        · unfold Srt
          rw [List.pairwise_map]
          exact so.imp fun h => Int.mul_lt_mul_of_pos_right h sc0
        · rw [List.length_map]
          omega
end
/-! ### names -/
def plainN : List Str := ["x", "yard", "z", "u", "wide_one", "q", "pp", "t"]
def lettersN : Str := "qwertyuiopasdfghjklzxcvbnm_zyx"
def digitsN : Str := "7305186429"
theorem plain_nodup : ((List.range 8).all fun s => decide (((List.range 8).map fun k => plainN.getD ((k * 3 + s) % 8) "x").Nodup)) = true := by decide +kernel
def isDig (c : Nat) : Bool := decide (48 ≤ c) && decide (c ≤ 57)
def mark (z : Str) : Option Nat := z.cps.toList.find? isDig
theorem letters_none : (lettersN.cps.toList.all fun c => !isDig c) = true := by decide +kernel
theorem digits_are : (digitsN.cps.toList.all isDig) = true := by decide +kernel
theorem digits_nodup : digitsN.cps.toList.Nodup := by decide +kernel
theorem digits_len : digitsN.cps.toList.length = 10 := by decide +kernel
theorem letters_len : lettersN.length = 30 := by decide +kernel
theorem cut_letters (lo hi : Option Int) : ∀ c ∈ (cutS lettersN lo hi).cps.toList, isDig c = false := fun c hc => by
  have h1 : c ∈ lettersN.cps.toList := by
    have : (cutS lettersN lo hi).cps.toList = (lettersN.cps.toList.drop (HT.sIx lettersN.length 0 lo)).take (HT.sIx lettersN.length lettersN.length hi - HT.sIx lettersN.length 0 lo) := by
      unfold cutS
      simp
    rw [this] at hc
    exact List.mem_of_mem_drop (List.mem_of_mem_take hc)
  have := List.all_eq_true.mp letters_none c h1
  simpa using this
theorem cut_len (lo hi : Option Int) : (cutS lettersN lo hi).length ≤ 30 := by
  have h : (cutS lettersN lo hi).cps.toList.length ≤ 30 := by
    unfold cutS
    simp only [List.toList_toArray]
    have l : lettersN.cps.toList.length = 30 := letters_len
    rw [List.length_take, List.length_drop]
    omega
  exact h
theorem mark_of (x t : Str) (c : Nat) (hx : ∀ d ∈ x.cps.toList, isDig d = false) (hc : isDig c = true) : mark (x ++ ⟨#[c]⟩ ++ t) = some c := by
  unfold mark
  have e : (x ++ ⟨#[c]⟩ ++ t).cps.toList = x.cps.toList ++ [c] ++ t.cps.toList := by
    show ((x.cps ++ #[c]) ++ t.cps).toList = _
    simp
  rw [e, List.append_assoc, List.find?_append]
  have : x.cps.toList.find? isDig = none := List.find?_eq_none.mpr fun d hd => by rw [hx d hd]; simp
  rw [this]
  show (([c] ++ t.cps.toList).find? isDig) = some c
  simp [hc]
theorem ok_of {x : Str} (h : ∀ c ∈ x.cps.toList, c < 0x110000) : PyData.strOk x = true := by
  unfold PyData.strOk
  rw [← Array.all_toList]
  exact List.all_eq_true.mpr fun c hc => decide_eq_true (h c hc)
theorem plain_ok : (plainN.all fun x => PyData.strOk x) = true := by decide +kernel
theorem letters_low : (lettersN.cps.toList.all fun c => decide (c < 0x110000)) = true := by decide +kernel
theorem digits_low : (digitsN.cps.toList.all fun c => decide (c < 0x110000)) = true := by decide +kernel
theorem cut_low (lo hi : Option Int) : ∀ c ∈ (cutS lettersN lo hi).cps.toList, c < 0x110000 := fun c hc => by
  have h1 : c ∈ lettersN.cps.toList := by
    have : (cutS lettersN lo hi).cps.toList = (lettersN.cps.toList.drop (HT.sIx lettersN.length 0 lo)).take (HT.sIx lettersN.length lettersN.length hi - HT.sIx lettersN.length 0 lo) := by
      unfold cutS
      simp
    rw [this] at hc
    exact List.mem_of_mem_drop (List.mem_of_mem_take hc)
  exact of_decide_eq_true (List.all_eq_true.mp letters_low c h1)
theorem name_ok (lo hi lo2 hi2 : Option Int) (c : Nat) (hc : c ∈ digitsN.cps.toList) : PyData.strOk (cutS lettersN lo hi ++ ⟨#[c]⟩ ++ cutS lettersN lo2 hi2) = true := ok_of fun d hd => by
  have e : (cutS lettersN lo hi ++ ⟨#[c]⟩ ++ cutS lettersN lo2 hi2).cps.toList = (cutS lettersN lo hi).cps.toList ++ [c] ++ (cutS lettersN lo2 hi2).cps.toList := by
    show (((cutS lettersN lo hi).cps ++ #[c]) ++ (cutS lettersN lo2 hi2).cps).toList = _
    simp
  rw [e] at hd
  rcases List.mem_append.mp hd with h | h
  · rcases List.mem_append.mp h with h | h
    · exact cut_low lo hi d h
    · rw [List.mem_singleton.mp h]
      exact of_decide_eq_true (List.all_eq_true.mp digits_low c hc)
  · exact cut_low lo2 hi2 d h
theorem str_one (c : Nat) : (⟨#[c]⟩ : Str).length = 1 := rfl
theorem len_app (x y : Str) : (x ++ y).length = x.length + y.length := by
  show (x.cps ++ y.cps).size = _
  exact Array.size_append
section
variable {P : Program} {w : World} {K : PySem.W.Frag} {mg : Str → Option Value} {base : Heap}
abbrev sNames : Stmt := topS 27
abbrev nNames : List Str := ["_law_stream_here", "_law_count", "_law_shift", "_law_plain", "_law_k", "_law_letters", "_law_names_here", "_law_at", "_law_size", "_law_tail"]
theorem scNames : FnScope nNames ["_law_stream_here", "_law_count"] (defScope sNames) := ⟨rfl, rfl, rfl, by decide +kernel, rfl, by decide +kernel, by decide +kernel⟩
def spNames : Sp := fun vs H Q _ => ∃ (p : Addr) (m : Nat), vs = [.ref p, .int (m : Int)] ∧ Strm H p ∧ m ≤ 8 ∧
  ∀ (H' : Hp) (l : Addr) (xs : List Str), Keep p H H' → H l = none → Strm H' p → H' l = some (.lst (xs.map V.str)) → xs.Nodup → xs.length = m → (∀ x ∈ xs, PyData.strOk x = true) → Q (.ref l) H'
theorem ok_names {f fD : Addr} {fd fdD : FuncData} (F : Fun K "_law_names" "_law_names" sNames f fd) (B : Bt mg) (D : Call P w K mg base 1 "_law_next" fD fdD ["_law_stream_here", "_law_size"] spDraw) :
    FnOk P w K mg base CX0 2 f fd ["_law_stream_here", "_law_count"] spNames := by
  refine F.ok scNames (fun vs H Q E h => ?_) (fun cdv A outer s H vs Q E hr h => ?_)
  · obtain ⟨p, m, rfl, _⟩ := h
    rfl
  · obtain ⟨p, m, rfl, hp, m8, q⟩ := h
    have nd := scNames.nd
    refine ⟨_, pss_cons (ps_if (pt_cmpR op_eq (pe_call D.ok hr (by rfl) D.at_ D.kp D.bd .nil pass0 (pa_cons (pv 0) (pa_cons pe_int pa_nil))) pe_int (nomark _))
        (pss_cons (ps_set (i := 2) nd rfl (.inr rfl) (pe_call D.ok hr (by rfl) D.at_ D.kp D.bd .nil pass0 (pa_cons (pv 0) (pa_cons pe_int pa_nil))))
        (pss_cons (ps_set (i := 3) nd rfl (.inr rfl) (pe_lst (pa_cons pe_str (pa_cons pe_str (pa_cons pe_str (pa_cons pe_str (pa_cons pe_str (pa_cons pe_str (pa_cons pe_str (pa_cons pe_str pa_nil))))))))))
        (pss_one (ps_ret (pe_lc (own := [("_law_k", 4)]) (g := gName 4) (tt := tYes) rfl nd (pi_range1 (by rfl) B.range (pa_cons (pv 1) pa_nil)) (blkOk_by (N := nNames) (sc := defScope sNames) (by decide +kernel)) (fun _ _ _ _ _ => pg_name (i := 4) nd rfl (Or.inl rfl)) (fun _ _ _ _ _ => pts_nil)
          (fun _ _ _ _ _ => pe_ix (r := rIxL K) ix_list (pv 3) (pe_op op_mod (pe_callTy call_int1 (by rfl) B.int PyProof.Rows.boot_int (pa_cons (pe_op op_add (pe_op op_mul (pv 4) pe_int) (pv 2)) pa_nil)) pe_int) (fun _ _ => rfl))))))) pss_nil)
      (pss_cons (ps_set (i := 5) nd rfl (.inl rfl) pe_str)
      (pss_cons (ps_set (i := 6) nd rfl (.inl rfl) (pe_lst pa_nil))
      (pss_cons (ps_for PassesOwn.never rfl (pi_range1 (by rfl) B.range (pa_cons (pv 1) pa_nil)) (pg_name (i := 4) nd rfl (.inl rfl))
        (pss_cons (ps_set (i := 7) nd rfl (.inl rfl) (pe_call D.ok hr (by rfl) D.at_ D.kp D.bd .nil pass0 (pa_cons (pv 0) (pa_cons pe_int pa_nil))))
        (pss_cons (ps_set (i := 8) nd rfl (.inl rfl) (pe_op op_add pe_int (pe_call D.ok hr (by rfl) D.at_ D.kp D.bd .nil pass0 (pa_cons (pv 0) (pa_cons pe_int pa_nil)))))
        (pss_cons (ps_set (i := 9) nd rfl (.inl rfl) (pe_slice sl_str (pv 5) (po_some (pe_op op_sub pe_int (pe_call D.ok hr (by rfl) D.at_ D.kp D.bd .nil pass0 (pa_cons (pv 0) (pa_cons pe_int pa_nil))))) (po_some pe_int)))
        (pss_one (ps_expr (pe_bm PySem.F.plainAttrs_list PySem.F.slot_list_append PySem.F.type_list_append mt_append (pv 6) (pa_cons
          (pe_op op_add_str (pe_op op_add_str (pe_slice sl_str (pv 5) (po_some (pv 7)) (po_some (pe_op op_add (pv 7) (pv 8)))) (pe_ix ix_str pe_str (pv 4) (fun _ _ => rfl))) (pv 9)) pa_nil))))))))
      (pss_one (ps_ret (pv 6)))))), ?_⟩
    refine ⟨.ref p, rfl, p, 3, rfl, hp, by decide, by decide, fun H1 d o1 st1 d0 d1 => ⟨rfl, _, rfl, ite2 (fun c => ?_) (fun c => ?_)⟩⟩
    · -- the plain names
      refine ⟨.ref p, rfl, p, 8, rfl, st1, by decide, by decide, fun H2 s o2 st2 s0 s1 => ?_⟩
      refine ⟨by show 8 ≤ sizeLine; decide, fun pl npl => ?_⟩
      have npp : p ≠ pl := fun z => st2.some (z ▸ npl)
      have epl : (upd H2 pl (.lst (plainN.map V.str))) pl = some (.lst (plainN.map V.str)) := upd_same
      refine ⟨.int (m : Int), rfl, (m : Int), rfl, by omega, by omega, fun R nR => ?_⟩
      have fin : ∀ k : Nat, k < m → (plainN.map V.str)[(k * 3 + s.toNat) % 8]? = some (.str (plainN.getD ((k * 3 + s.toNat) % 8) "x")) := fun k hk => by
        have : (k * 3 + s.toNat) % 8 < plainN.length := Nat.mod_lt _ (by decide)
        rw [List.getElem?_map, List.getD_eq_getElem?_getD, List.getElem?_eq_getElem this]
        rfl
      refine lc_range (lo := 0) (fun i H' => Same (upd H2 pl (.lst (plainN.map V.str))) H' ∧ H' R = some (.lst (((List.range i).map fun k => plainN.getD ((k * 3 + s.toNat) % 8) "x").map V.str))) ⟨same_new nR, upd_same⟩ ?_ ?_
      · rintro i H' hi ⟨sm, eR⟩
        have hi' : i < m := by omega
        refine ⟨rfl, .ref pl, rfl, .int (0 + (i : Int)), rfl, 0 + (i : Int), 3, rfl, rfl, .inr ⟨by decide, by decide⟩, .int s, rfl, (0 + (i : Int)) * 3, s, rfl, rfl, .inl ⟨_, rfl, (0 + (i : Int)) * 3 + s, 8, rfl, rfl, ?_, ?_⟩⟩
        · show (0 : Int) < 8
          decide
        · refine ⟨pl, _, _, _, rfl, rfl, sl_map (sm _ _ epl), at_of (j := (i * 3 + s.toNat) % 8) (by omega) (fin i hi'), _, eR, ?_, same_at sm nR, ?_⟩
          · rw [List.length_map, List.length_map, List.length_range]
            exact small1000 (by omega)
          · rw [upd_same, List.range_succ, List.map_append, List.map_append]
            rfl
      · rintro H' ⟨sm, eR⟩
        have smH : Keep p H2 H' := fun b u hb e => sm _ _ (by rw [upd_ne (ne_of_none e npl)]; exact e)
        have nR2 : H2 R = none := (same_new npl).free nR
        have st' : Strm H' p := by
          obtain ⟨x, y, z, e⟩ := st2
          exact ⟨x, y, z, sm _ _ (by rw [upd_ne npp]; exact e)⟩
        refine q H' R _ ((((Keep.refl p H).oth o1).oth o2).trans smH) ((((Keep.refl p H).oth o1).oth o2).free st2 nR2) st' eR ?_ ?_ ?_
        · have h8 := List.all_eq_true.mp plain_nodup s.toNat (List.mem_range.mpr (by omega))
          have h9 := of_decide_eq_true h8
          have e8 : (List.range (m : Int).toNat) = (List.range 8).take m := by
            rw [List.take_range, show min m 8 = (m : Int).toNat by omega]
          rw [e8, List.map_take]
          exact List.Pairwise.sublist (List.take_sublist _ _) h9
        · rw [List.length_map, List.length_range]
          omega
        · intro x hx
          obtain ⟨k, _, rfl⟩ := List.mem_map.mp hx
          have lt : (k * 3 + s.toNat) % 8 < plainN.length := Nat.mod_lt _ (by decide)
          rw [List.getD_eq_getElem?_getD, List.getElem?_eq_getElem lt]
          exact List.all_eq_true.mp plain_ok _ (List.getElem_mem lt)
    · -- letters, a digit, letters
      refine ⟨Nat.zero_le _, fun l nl1 => ?_⟩
      have npl : p ≠ l := fun z => st1.some (z ▸ nl1)
      have nl : H l = none := by rw [← o1 l npl.symm]; exact nl1
      refine ⟨.int (m : Int), rfl, (m : Int), rfl, by omega, by omega, for_range (lo := 0) (n := ((m : Int)).toNat) (fun i σ H' => ∃ (y4 y7 y8 y9 : Option V) (xs : List Str), σ = [some (.ref p), some (.int (m : Int)), none, none, y4, some (.str lettersN), some (.ref l), y7, y8, y9] ∧ Keep p H H' ∧ Strm H' p ∧ H' l = some (.lst (xs.map V.str)) ∧ xs.length = i ∧ (∀ x ∈ xs, PyData.strOk x = true) ∧ ∀ j x, xs[j]? = some x → mark x = digitsN.cps.toList[j]?)
        ⟨none, none, none, none, [], rfl, ((Keep.refl p H).oth o1).at_ nl, st1.upd npl, upd_same, rfl, (fun _ h => nomatch h), fun j x h => absurd ((List.getElem?_nil (α := Str) (i := j)).symm.trans h) (by simp)⟩ ?_ ?_⟩
      · rintro i σ H' hi ⟨y4, y7, y8, y9, xs, rfl, kp, st, el, len, sok, mk⟩
        have hi' : i < m := by omega
        refine ⟨.ref p, rfl, p, 26, rfl, st, by decide, by decide, fun H2 a o2 st2 a0 a1 => ?_⟩
        refine ⟨.ref p, rfl, p, 3, rfl, st2, by decide, by decide, fun H3 b o3 st3 b0 b1 => ⟨1, b, rfl, rfl, ?_⟩⟩
        refine ⟨_, rfl, .ref p, rfl, p, 3, rfl, st3, by decide, by decide, fun H4 t o4 st4 t0 t1 => ⟨26, t, rfl, rfl, _, rfl, 26, rfl, lettersN, rfl, by decide +kernel, ?_⟩⟩
        have el4 : H4 l = some (.lst (xs.map V.str)) := by rw [o4 l npl.symm, o3 l npl.symm, o2 l npl.symm]; exact el
        have hd : i < digitsN.cps.toList.length := by rw [digits_len]; omega
        have gd : digitsN.cps.toList[i]? = some digitsN.cps.toList[i] := List.getElem?_eq_getElem hd
        refine ⟨.ref l, rfl, .inl ⟨rfl, _, sl_map el4⟩, _, rfl, .int a, rfl, a, rfl, .int a, rfl, _, rfl, a, _, rfl, rfl, _, rfl, lettersN, rfl, by decide +kernel, .int (0 + (i : Int)), rfl, digitsN, _, digitsN.cps.toList[i], rfl, rfl, by decide +kernel, (by rw [show (0 : Int) + (i : Int) = ((i : Nat) : Int) by omega]; exact atI_nat gd), _, _, rfl, rfl, ?_, _, rfl, _, _, rfl, rfl, ?_, l, _, _, rfl, rfl, el4, ?_, ?_⟩
        · exact by have := cut_len (some a) (some (a + (1 + b))); rw [str_one]; exact Nat.le_trans (Nat.add_le_add_right this 1) (by decide)
        · exact by have := cut_len (some a) (some (a + (1 + b))); have h2 := cut_len (some (26 - t)) (some 26); rw [len_app, str_one]; exact Nat.le_trans (Nat.add_le_add (Nat.add_le_add_right this 1) h2) (by decide)
        · rw [List.length_map]
          exact small1000 (by omega)
        · have dg : isDig digitsN.cps.toList[i] = true := List.all_eq_true.mp digits_are _ (List.getElem_mem hd)
          refine ⟨_, _, _, _, xs ++ [cutS lettersN (some a) (some (a + (1 + b))) ++ ⟨#[digitsN.cps.toList[i]]⟩ ++ cutS lettersN (some (26 - t)) (some 26)], rfl, (((kp.oth o2).oth o3).oth o4).at_ nl, st4.upd npl, ?_, ?_, ?_, ?_⟩
          · rw [upd_same, List.map_append]
            rfl
          · rw [List.length_append, len]
            rfl
          · intro x hx
            rcases List.mem_append.mp hx with h | h
            · exact sok x h
            · rw [List.mem_singleton.mp h]
              exact name_ok _ _ _ _ _ (List.getElem_mem hd)
          · intro j x hj
            rcases Nat.lt_or_ge j i with c | c
            · rw [List.getElem?_append_left (by omega)] at hj
              exact mk j x hj
            · rw [List.getElem?_append_right (by omega)] at hj
              have ej : j = i := by
                have := (List.getElem?_eq_some_iff.mp hj).1
                rw [List.length_singleton] at this
                omega
              subst ej
              rw [show j - xs.length = 0 by omega] at hj
              have : _ = x := Option.some.inj hj
              rw [← this, gd]
              exact mark_of _ _ _ (cut_letters _ _) dg
      · rintro σ H' ⟨y4, y7, y8, y9, xs, rfl, kp, st, el, len, sok, mk⟩
        refine ⟨_, rfl, q H' l xs kp nl st el ?_ (by omega) sok⟩
        refine List.pairwise_iff_getElem.mpr fun j k hj hk hjk he => ?_
        have e1 := mk j _ (List.getElem?_eq_getElem hj)
        have e2 := mk k _ (List.getElem?_eq_getElem hk)
        rw [he] at e1
        have hk' : k < digitsN.cps.toList.length := by rw [digits_len]; omega
        have hj' : j < digitsN.cps.toList.length := by rw [digits_len]; omega
        have e3 := e1.symm.trans e2
        rw [List.getElem?_eq_getElem hj', List.getElem?_eq_getElem hk'] at e3
        exact List.pairwise_iff_getElem.mp digits_nodup j k hj' hk' hjk (Option.some.inj e3)
end
section
variable {P : Program} {w : World} {K : PySem.W.Frag} {mg : Str → Option Value} {base : Heap}
/-! ### a copy, by a loop -/
abbrev sCopied : Stmt := topS 38
abbrev nCopied : List Str := ["_law_sides_here", "_law_copied_here", "_law_name"]
theorem scCopied : FnScope nCopied ["_law_sides_here"] (defScope sCopied) := ⟨rfl, rfl, rfl, by decide +kernel, rfl, by decide +kernel, by decide +kernel⟩
theorem Nb.nil {H H' : Hp} {D : Addr} (n : H D = none) (h : H' D = some (.dK [])) : Nb H H' D [] := ⟨⟨⟨.inl h, (fun _ he => nomatch he), .nil, Nat.zero_le _⟩, h⟩, n, (fun _ he => nomatch he), .nil⟩
theorem shape_len {L M : List Ent} (h : shape L = shape M) : L.length = M.length := by have := congrArg List.length h; simpa [shape] using this
theorem shape_take {L M : List Ent} {i : Nat} {e : Ent} {l : Addr} (h : shape M = shape (L.take i)) (he : L[i]? = some e) : shape (M ++ [(e.1, l, e.2.2)]) = shape (L.take (i + 1)) := by
  rw [List.take_add_one, he]
  unfold shape at h ⊢
  rw [List.map_append, List.map_append, h]
  rfl
theorem ok_copied {f : Addr} {fd : FuncData} {k : Nat} (F : Fun K "_law_copied" "_law_copied" sCopied f fd) (B : Bt mg) : FnOk P w K mg base CX0 (k + 1) f fd ["_law_sides_here"] spCopy := by
  refine F.ok scCopied (fun vs H Q E h => ?_) (fun cdv A outer s H vs Q E hr h => ?_)
  · obtain ⟨d, L, rfl, _⟩ := h
    rfl
  · obtain ⟨d, L, rfl, bx, q⟩ := h
    have hu := hu_of hr
    have nd := scCopied.nd
    refine ⟨_, pss_cons (ps_set (i := 1) nd rfl (.inl rfl) pe_dnewK)
      (pss_cons (ps_lock (ps_for PassesOwn.never rfl (pi_keys (pv 0)) (pg_name (i := 2) nd rfl (.inl rfl))
        (pss_one (ps_dput hu (pv 1) (pv 2) (pe_callTy call_list_of (by rfl) B.list PyProof.Rows.boot_list (pa_cons (pe_dget hu (pv 0) (pv 2) (fun _ _ => rfl)) pa_nil)) rfl))))
      (pss_one (ps_ret (pv 1)))), ?_⟩
    intro D nD
    have s0 := same_new (o := HO.dK []) nD
    have bx0 := bx.same' s0
    refine ⟨d, _, bx0.un, trivial, fun od => ?_⟩
    have hd : H d ≠ none := by rw [bx.un]; exact fun z => by cases z
    have nDd : D ≠ d := fun z => hd (z ▸ nD)
    refine ⟨.ref d, rfl, d, od, rfl, .inl ⟨entK L, upd_same, for_it walk_keys (fun i σ H' => ∃ (M : List Ent) (y : Option V), σ = [some (.ref d), some (.ref D), y] ∧ Same (upd H d (.frz od (.dK (entK L)))) H' ∧ Nb H H' D M ∧ shape M = shape (L.take i))
      ⟨[], none, rfl, ?_, ?_, rfl⟩ (fun i σ H' _ h => by obtain ⟨M, y, _, e, _⟩ := h; exact e _ _ upd_same) ?_ ?_⟩⟩
    · intro b o e
      by_cases z : b = d
      · rw [z, upd_same] at e ⊢; exact e
      · rw [upd_ne z] at e ⊢
        exact s0 _ _ e
    · exact Nb.nil nD (by rw [upd_ne nDd]; exact upd_same)
    · rintro i x σ H' H'' hi ⟨M, y, rfl, sm, nb, sh⟩ ⟨rfl, k1, v1, hk, rfl⟩
      obtain ⟨e, he, rfl, rfl⟩ := keys_at hk
      have em := List.mem_of_getElem? he
      have bl := (bx.toBx.lock (od := od) bx.un).same sm
      have gv := bl.get e.1
      rw [getE_of bx.nd em] at gv
      rw [entK_len] at hi
      have few := bx.few
      have lM := shape_len sh
      rw [List.length_take] at lM
      refine ⟨.ref d, rfl, .str e.1, rfl, d, .ref e.2.1, rfl, gv, e.2.1, _, rfl, .inl (sl_map (bl.sides e em)), fun l nl => ?_⟩
      have sl := same_new (o := HO.lst (e.2.2.map V.int)) nl
      have nl0 : H l = none := by
        have := sm.free nl
        cases c : H l with
        | none => rfl
        | some o =>
          by_cases z : l = d
          · rw [z, upd_same] at this; cases this
          · rw [upd_ne z, c] at this; cases this
      have xnew : e.1 ∉ M.map (·.1) := by rw [shape_keys sh]; exact take_keys bx.nd he
      refine ⟨.ref D, rfl, .str e.1, rfl, D, _, rfl, DPut.k (k := .inr e.1) (sl _ _ nb.un) (by rw [entK_len]; exact small1000 (by omega)), ?_⟩
      refine ⟨putE M e.1 l e.2.2, some (.str e.1), rfl, ?_, ?_, ?_⟩
      · refine same_at (sm.trans sl) ?_
        rw [upd_ne nDd]
        exact nD
      · rw [putK_ent (s := e.2.2)]
        exact nb.put nl0 nl sl upd_same (by omega)
      · rw [putE_new xnew]
        exact shape_take sh he
    · rintro σ H' ⟨M, y, rfl, sm, nb, sh⟩
      rw [entK_len, List.take_length] at sh
      have eF := sm _ _ (upd_same (H := H) (a := d) (o := HO.frz od (.dK (entK L))))
      exact ⟨eF, _, rfl, q _ D M (unlock bx.un sm) (nb.unl bx.un eF) sh⟩
/-! ### _law_holds, _law_within, _law_is -/
end
/-- all that was there, but what stands at one of these -/
def KeepL (as : List Addr) (H H' : Hp) : Prop := ∀ b o, b ∉ as → H b = some o → H' b = some o
theorem KeepL.refl (as : List Addr) (H : Hp) : KeepL as H H := fun _ _ _ e => e
theorem KeepL.same {as : List Addr} {H H1 H2 : Hp} (k : KeepL as H H1) (s : Same H1 H2) : KeepL as H H2 := fun b o h e => s _ _ (k b o h e)
theorem KeepL.trans {as : List Addr} {H H1 H2 : Hp} (k : KeepL as H H1) (s : KeepL as H1 H2) : KeepL as H H2 := fun b o h e => s b o h (k b o h e)
abbrev big : Int := 10 ^ (13 : Int).toNat
theorem SameB.get {L M : List Ent} (s : SameB L M) {e : Ent} (nd : (M.map (·.1)).Nodup) (h : e ∈ M) : ∃ t ∈ L, t.1 = e.1 ∧ t.2.2 = e.2.2 ∧ getE L e.1 = some t := by
  have q := s e.1
  rw [look_mem nd h] at q
  unfold look at q
  obtain ⟨t, ht, eq⟩ := Option.map_eq_some_iff.mp q
  obtain ⟨m1, m2⟩ := getE_mem ht
  exact ⟨t, m1, m2, eq, ht⟩
section
variable {P : Program} {w : World} {K : PySem.W.Frag} {mg : Str → Option Value} {base : Heap}
abbrev sSame : Stmt := topS 40
abbrev nSame : List Str := ["_law_actual", "_law_expected", "_law_found", "_law_name"]
theorem scSame : FnScope nSame ["_law_actual", "_law_expected"] (defScope sSame) := ⟨rfl, rfl, rfl, by decide +kernel, rfl, by decide +kernel, by decide +kernel⟩
def spSame : Sp := fun vs H Q _ => ∃ (a e : Addr) (M E : List Ent), vs = [.ref a, .ref e] ∧ Bu H a M ∧ Bu H e E ∧ SameB M E ∧ (∀ g ∈ M, Srt g.2.2 ∧ g.2.2.length ≤ 1000) ∧ ∀ H', Same H H' → Q (.bl true) H'
theorem ok_same {f fI : Addr} {fd fdI : FuncData} (F : Fun K "_law_same_sides" "_law_same_sides" sSame f fd) (B : Bt mg) (I : Call P w K mg base 2 "_law_is_side" fI fdI ["_law_actual"] spIsSide) :
    FnOk P w K mg base CX0 3 f fd ["_law_actual", "_law_expected"] spSame := by
  refine F.ok scSame (fun vs H Q E h => ?_) (fun cdv A outer s H vs Q E hr h => ?_)
  · obtain ⟨a, e, M, E, rfl, _⟩ := h
    rfl
  · obtain ⟨a, e, M, X, rfl, bm, be, same, ok, q⟩ := h
    have hu := hu_of hr
    have hu64 : (A.deeper (envOfC "_law_same_sides" (defScope sSame) s.heap.objs.size f cdv)).units + 64 < cLine := by have := hr.un; omega
    have nd := scSame.nd
    refine ⟨_, pss_cons (ps_if (PW.pt (pw_or (pt_not (pt_val (pe_callB call_isi (by rfl) B.isi PyProof.Rows.boot_isinstance (pa_cons (pv 0) (pa_cons (pe_bltn (by rfl) B.dict PyProof.Rows.boot_dict (v := .ty "dict") rfl) pa_nil)))))
        (pw_or1 (pt_cmpR op_ne (pe_callB call_lenD (by rfl) B.len PySem.boot_len (pa_cons (pv 0) pa_nil)) (pe_callB call_lenD (by rfl) B.len PySem.boot_len (pa_cons (pv 1) pa_nil)) rfl)))) (pss_one (ps_ret pe_bl)) pss_nil)
      (pss_cons (ps_lock (ps_setLc (i := 2) (own := [("_law_name", 3)]) (g := gName 3) (te := tVar 3) rfl nd rfl rfl (by rfl) (pi_keys (pv 1)) (blkOk_by (N := nSame) (sc := defScope sSame) (by decide +kernel)) (fun _ _ _ _ _ => pg_name (i := 3) nd rfl (Or.inl rfl))
          (fun _ _ _ _ _ => pts_one (PW.pt (pw_and (pt_cmp (pc_din hu (pv 3) (pv 0))) (pw_and1 (pt_val (pe_call I.ok hr (by rfl) I.at_ I.kp I.bd .nil pass0 (pa_cons (pe_dget hu (pv 0) (pv 3) (fun _ _ => rfl)) pa_nil))))))) (fun _ _ _ _ _ => pv 3)))
      (pss_one (ps_ret (pe_and (pe_cmpR op_eq (pe_callB call_len_seq (by rfl) B.len PySem.boot_len (pa_cons (pv 2) pa_nil)) (pe_callB call_lenD (by rfl) B.len PySem.boot_len (pa_cons (pv 1) pa_nil)) rfl)
        (pe_one (pe_callB (cr_all rfl) (by rfl) B.all PyProof.Rows.boot_all (pa_cons
          (pe_lc (own := [("_law_name", 3)]) (g := gName 3) (tt := tYes) rfl nd (pi_list (pv 2)) (blkOk_by (N := nSame) (sc := defScope sSame) (by decide +kernel)) (fun _ _ _ _ _ => pg_name (i := 3) nd rfl (Or.inl rfl)) (fun _ _ _ _ _ => pts_nil)
            (fun _ _ _ _ _ => pe_cmpR (r := rEqD K) (op_eqD hu64) (pe_dget hu (pv 0) (pv 3) (fun _ _ => rfl)) (pe_dget hu (pv 1) (pv 3) (fun _ _ => rfl)) rfl)) pa_nil))))))), ?_⟩
    have lens : M.length = X.length := same.len bm.nd be.nd
    refine ⟨.ref a, rfl, .ref a, .ty "dict", .type "dict", .type "dict", true, rfl, .ty _, .base (.dK bm.un), kit_ty (by decide +kernel), true, rfl, iteF ?_⟩
    refine ⟨.ref a, rfl, a, _, rfl, bm.un, .ref e, rfl, e, _, rfl, be.un, rfl, ?_⟩
    rw [entK_len, entK_len, lens, decide_eq_true rfl]
    refine ⟨false, rfl, iteF ?_⟩
    refine ⟨e, _, be.un, trivial, fun od => ?_⟩
    have bel := be.toBx.lock (od := od) be.un
    have bml := bm.toBx.lock (od := od) be.un
    refine ⟨.ref e, rfl, e, od, rfl, .inl ⟨entK X, upd_same, fun D nD => lc_it walk_keys (fun i H' => Same (upd H e (.frz od (.dK (entK X)))) H' ∧ H' D = some (.lst (((X.take i).map (·.1)).map V.str))) ⟨same_new nD, upd_same⟩ (fun i H' _ h => h.1 _ _ upd_same) ?_ ?_⟩⟩
    · rintro i x Hz H' hi ⟨sm, eD⟩ ⟨rfl, k1, v1, hk, rfl⟩
      obtain ⟨x, hx, rfl, rfl⟩ := keys_at hk
      have xm := List.mem_of_getElem? hx
      obtain ⟨g, gm, g1, g2, g3⟩ := same.get be.nd xm
      have gv := (bml.same sm).get x.1
      rw [g3] at gv
      obtain ⟨so, ln⟩ := ok g gm
      have isu : H' a = some (.dK (entK M)) ∨ H' a = some (.frz od (.dK (entK X))) := by
        by_cases z : a = e
        · right; rw [z]; exact sm _ _ upd_same
        · left; exact sm _ _ (by rw [upd_ne z]; exact bm.un)
      refine ⟨rfl, .str x.1, rfl, .ref a, rfl, a, _, rfl, gv, true, rfl, iteT ?_⟩
      refine ⟨.ref a, rfl, .str x.1, rfl, a, .ref g.2.1, rfl, gv, g.2.1, g.2.2, rfl, sm _ _ (bml.sides g gm), so, ln, fun H4 s4 => ⟨true, rfl, iteT ⟨.str x.1, rfl, _, s4 _ _ eD, ?_, same_at (sm.trans s4) nD, ?_⟩⟩⟩
      · rw [List.length_map, List.length_map, List.length_take]
        have := be.few
        exact small1000 (by omega)
      · rw [upd_same, List.take_add_one, hx, List.map_append, List.map_append]
        rfl
    · rintro H' ⟨sm, eD⟩
      rw [entK_len, List.take_length] at eD
      have eF := sm _ _ (upd_same (H := H) (a := e) (o := HO.frz od (.dK (entK X))))
      have nDe : D ≠ e := fun z => by rw [z, eF] at eD; cases eD
      refine ⟨eF, ?_⟩
      have s2 : Same H (upd H' e (.dK (entK X))) := unlock be.un sm
      have eD2 : (upd H' e (.dK (entK X))) D = some (.lst ((X.map (·.1)).map V.str)) := by rw [upd_ne nDe]; exact eD
      generalize upd H' e (.dK (entK X)) = H2 at s2 eD2 ⊢
      clear sm eD eF H'
      refine ⟨.ref D, rfl, D, _, rfl, .inl (sl_map eD2), .ref e, rfl, e, _, rfl, s2 _ _ be.un, rfl, ?_⟩
      rw [entK_len, List.length_map, List.length_map, decide_eq_true rfl]
      refine ⟨true, rfl, iteT ?_⟩
      refine ⟨.ref D, rfl, D, rfl, ⟨_, sl_map eD2⟩, fun R nR => lc_list (xs := (X.map (·.1)).map V.str) (fun i H' => Same H2 H' ∧ H' R = some (.lst ((List.replicate i true).map V.bl))) ⟨same_new nR, upd_same⟩ (fun i H' _ h => h.1.seq (sl_map eD2)) ?_ ?_⟩
      · rintro i z H' hz ⟨sm, hd⟩
        rw [List.getElem?_map, List.getElem?_map] at hz
        obtain ⟨v, hv, rfl⟩ := Option.map_eq_some_iff.mp hz
        obtain ⟨x, hx, rfl⟩ := Option.map_eq_some_iff.mp hv
        have xm := List.mem_of_getElem? hx
        obtain ⟨g, gm, g1, g2, g3⟩ := same.get be.nd xm
        have s3 := s2.trans sm
        have gv := (bm.toBx.same s3).get x.1
        rw [g3] at gv
        have ev := (be.toBx.same s3).get x.1
        rw [getE_of be.nd xm] at ev
        have few := be.few
        have hi := (List.getElem?_eq_some_iff.mp hx).1
        have e1 := s3 _ _ (bm.sides g gm)
        rw [g2] at e1
        refine ⟨rfl, .ref a, rfl, .str x.1, rfl, a, .ref g.2.1, rfl, gv, .ref e, rfl, .str x.1, rfl, e, .ref x.2.1, rfl, ev, dI x.2.2, dI x.2.2, dpI (sl_map e1), dpI (sl_map (s3 _ _ (be.sides x xm))), shI _, shI _, ?_⟩
        rw [eqI]
        refine ⟨_, hd, ?_, same_at sm nR, ?_⟩
        · rw [List.length_map, List.length_replicate]
          exact small1000 (by omega)
        · rw [upd_same, List.replicate_succ', List.map_append]
          rfl
      · rintro H' ⟨sm, hd⟩
        refine ⟨R, _, rfl, sl_map hd, ?_⟩
        rw [all_rep]
        exact q _ (s2.trans sm)
end
theorem cutV_to (xs : List V) (j : Nat) : cutV xs none (some (j : Int)) = xs.take j := by
  unfold cutV
  rw [HT.sIx_none, HT.sIx_nat, List.drop_zero, Nat.sub_zero]
  by_cases h : j ≤ xs.length
  · rw [Nat.min_eq_left h]
  · rw [Nat.min_eq_right (by omega), List.take_of_length_le (Nat.le_refl _), List.take_of_length_le (by omega)]
theorem cutV_from (xs : List V) (j : Nat) : cutV xs (some (j : Int)) none = xs.drop j := by
  unfold cutV
  rw [HT.sIx_none, HT.sIx_nat]
  by_cases h : j ≤ xs.length
  · rw [Nat.min_eq_left h, List.take_of_length_le (by rw [List.length_drop]; exact Nat.le_refl _)]
  · rw [Nat.min_eq_right (by omega), List.drop_length, List.drop_of_length_le (by omega)]
    simp
theorem Nb.keep {H0 H H' : Hp} {p d : Addr} {M : List Ent} (N : Nb H0 H d M) (hp : H0 p ≠ none) (k : Keep p H H') : Nb H0 H' d M := by
  have pd : d ≠ p := fun z => hp (z ▸ N.fresh)
  have away : ∀ g ∈ M, g.2.1 ≠ p := fun g hg z => hp (z ▸ N.freshS g hg)
  exact ⟨⟨⟨.inl (k _ _ pd N.un), fun g hg => k _ _ (away g hg) (N.sides g hg), N.nd, N.few⟩, k _ _ pd N.un⟩, N.fresh, N.freshS, N.inj⟩
theorem Bu.keep {H H' : Hp} {p d : Addr} {M : List Ent} (N : Bu H d M) (s : Strm H p) (k : Keep p H H') (away : ∀ g ∈ M, g.2.1 ≠ p) : Bu H' d M := by
  have pd : d ≠ p := fun z => by
    obtain ⟨x, y, w, e⟩ := s
    have := N.un
    rw [z, e] at this
    cases this
  exact ⟨⟨.inl (k _ _ pd N.un), fun g hg => k _ _ (away g hg) (N.sides g hg), N.nd, N.few⟩, k _ _ pd N.un⟩
theorem Bu.aput {H : Hp} {d l : Addr} {M : List Ent} {x : Str} {s : List Int} (B : Bu H d M) (el : H l = some (.lst (s.map V.int))) (few : M.length + 1 ≤ 40) : Bu (upd H d (.dK (entK (putE M x l s)))) d (putE M x l s) := by
  have ld : ∀ {c : Addr} {ys : List V}, H c = some (.lst ys) → c ≠ d := fun h z => by rw [z, B.un] at h; cases h
  refine ⟨⟨.inl upd_same, fun e he => ?_, putE_nd B.nd, by have := putE_len M x l s; omega⟩, upd_same⟩
  rcases putE_mem he with z | ⟨z, _⟩
  · rw [z, upd_ne (ld el)]
    exact el
  · have h1 := B.sides e z
    rw [upd_ne (ld h1)]
    exact h1
theorem small10k {n : Nat} (h : n ≤ 10000) : n < sizeLine := Nat.lt_of_le_of_lt h (by decide)
/-! ### equal boxes, deep -/
theorem shape_same {L M : List Ent} (h : shape L = shape M) : SameB L M := look_shape h
theorem Sz.shape {L M : List Ent} {n : Nat} (z : Sz L n) (h : shape M = shape L) : Sz M n := by
  have q : ∀ e ∈ M, ∃ g ∈ L, g.2.2 = e.2.2 := fun e he => by
    have : (e.1, e.2.2) ∈ K57.shape L := h ▸ List.mem_map_of_mem (f := fun e : Ent => (e.1, e.2.2)) he
    obtain ⟨g, hg, eq⟩ := List.mem_map.mp this
    exact ⟨g, hg, (Prod.mk.inj eq).2⟩
  refine ⟨fun e he => ?_, fun e he => ?_⟩
  · obtain ⟨g, hg, eq⟩ := q e he
    exact eq ▸ z.srt g hg
  · obtain ⟨g, hg, eq⟩ := q e he
    exact eq ▸ z.len g hg
/-! ### what the meet and the join hold -/
theorem Sz.mono {L : List Ent} {n m : Nat} (z : Sz L n) (h : n ≤ m) : Sz L m := ⟨z.srt, fun e he => Nat.le_trans (z.len e he) h⟩
/-! ### domains: a list of pairs of a name and a side -/
abbrev DomE := Addr × Ent
structure Doms (H : Hp) (l : Addr) (ds : List DomE) : Prop where
  lst : H l = some (.lst (ds.map fun d => V.ref d.1))
  tup : ∀ d ∈ ds, H d.1 = some (.tup [V.str d.2.1, V.ref d.2.2.1])
  side : ∀ d ∈ ds, H d.2.2.1 = some (.lst (d.2.2.2.map V.int))
theorem Doms.same {H H' : Hp} {l : Addr} {ds : List DomE} (D : Doms H l ds) (s : Same H H') : Doms H' l ds := ⟨s _ _ D.lst, fun d h => s _ _ (D.tup d h), fun d h => s _ _ (D.side d h)⟩
theorem Srt.sub {a b : List Int} (s : Srt b) (h : a.Sublist b) : Srt a := List.Pairwise.sublist h s
theorem Doms.keep {H H' : Hp} {p l : Addr} {ds : List DomE} (D : Doms H l ds) (k : Keep p H H') (hl : l ≠ p) (h : ∀ d ∈ ds, d.1 ≠ p ∧ d.2.2.1 ≠ p) : Doms H' l ds :=
  ⟨k _ _ hl D.lst, fun d hd => k _ _ (h d hd).1 (D.tup d hd), fun d hd => k _ _ (h d hd).2 (D.side d hd)⟩
theorem refs_ints {ds : List DomE} {ns : List Int} (h : (ds.map fun d => V.ref d.1) = ns.map V.int) : ds = [] := by
  cases ds with
  | nil => rfl
  | cons d ds =>
    cases ns with
    | nil => cases h
    | cons n ns =>
      rw [List.map_cons, List.map_cons] at h
      cases (List.cons.inj h).1
/-- a pair more -/
theorem Doms.snoc {H : Hp} {l T Z : Addr} {ds : List DomE} {x : Str} {zs : List Int} (D : Doms H l ds) (hT : H T = some (.tup [V.str x, V.ref Z])) (hZ : H Z = some (.lst (zs.map V.int))) (nZ : Z ≠ l) :
    Doms (upd H l (.lst ((ds.map fun d => V.ref d.1) ++ [V.ref T]))) l (ds ++ [(T, x, Z, zs)]) := by
  have tl : ∀ {c : Addr} {vs : List V}, H c = some (.tup vs) → c ≠ l := fun h z => by rw [z, D.lst] at h; cases h
  refine ⟨by rw [upd_same, List.map_append]; rfl, fun d hd => ?_, fun d hd => ?_⟩
  · rcases List.mem_append.mp hd with h | h
    · rw [upd_ne (tl (D.tup d h))]
      exact D.tup d h
    · rw [List.mem_singleton.mp h, upd_ne (tl hT)]
      exact hT
  · rcases List.mem_append.mp hd with h | h
    · have q := D.side d h
      have : d.2.2.1 ≠ l := fun z => by
        rw [z, D.lst] at q
        have e := refs_ints (HO.lst.inj (Option.some.inj q))
        rw [e] at h
        cases h
      rw [upd_ne this]
      exact q
    · rw [List.mem_singleton.mp h, upd_ne nZ]
      exact hZ
theorem with_restA {α : Type} {R : α → Hp → Prop} {G : Prop} (C : α → Hp → Prop) (r : ∀ a H, C a H → R a H) (g : (∀ a H, C a H → R a H) → G) : G := g r
section
variable {P : Program} {w : World} {K : PySem.W.Frag} {mg : Str → Option Value} {base : Heap}
abbrev sDoms : Stmt := topS 29
abbrev nDoms : List Str := ["_law_stream_here", "_law_names_here", "_law_pool_here", "_law_most", "_law_domains_here", "_law_name", "_law_side", "_law_value"]
theorem scDoms : FnScope nDoms ["_law_stream_here", "_law_names_here", "_law_pool_here", "_law_most"] (defScope sDoms) := ⟨rfl, rfl, rfl, by decide +kernel, rfl, by decide +kernel, by decide +kernel⟩
def spDoms : Sp := fun vs H Q _ => ∃ (p nm pl : Addr) (xs : List Str) (ns : List Int) (m : Nat), vs = [.ref p, .ref nm, .ref pl, .int (m : Int)] ∧ Strm H p ∧ H nm = some (.lst (xs.map V.str)) ∧ H pl = some (.lst (ns.map V.int)) ∧ p ≠ nm ∧ p ≠ pl ∧ Srt ns ∧ 1 ≤ ns.length ∧ ns.length ≤ 100 ∧ xs.length ≤ 100 ∧
  ∀ (H' : Hp) (l : Addr) (ds : List DomE), Keep p H H' → H l = none → Strm H' p → Doms H' l ds → ds.map (·.2.1) = xs → (∀ d ∈ ds, Srt d.2.2.2 ∧ d.2.2.2.length ≤ max m 1 ∧ H d.1 = none ∧ H d.2.2.1 = none ∧ ∀ v ∈ d.2.2.2, v ∈ ns) → (ds.map (·.2.2.1)).Nodup → Q (.ref l) H'
theorem ok_doms {f fD : Addr} {fd fdD : FuncData} (F : Fun K "_law_domains" "_law_domains" sDoms f fd) (B : Bt mg) (D : Call P w K mg base 1 "_law_next" fD fdD ["_law_stream_here", "_law_size"] spDraw) :
    FnOk P w K mg base CX0 2 f fd ["_law_stream_here", "_law_names_here", "_law_pool_here", "_law_most"] spDoms := by
  refine F.ok scDoms (fun vs H Q E h => ?_) (fun cdv A outer s H vs Q E hr h => ?_)
  · obtain ⟨p, nm, pl, xs, ns, m, rfl, _⟩ := h
    rfl
  · obtain ⟨p, nm, pl, xs, ns, m, rfl, hp, enm, epl, pnm, ppl, so, n1, nl, xl, q⟩ := h
    have nd := scDoms.nd
    refine ⟨_, pss_cons (ps_set (i := 4) nd rfl (.inl rfl) (pe_lst pa_nil))
      (pss_cons (ps_for PassesOwn.never rfl (pi_list (pv 1)) (pg_name (i := 5) nd rfl (.inl rfl))
        (pss_cons (ps_set (i := 6) nd rfl (.inl rfl) (pe_slice sl_list (pe_lc (own := [("_law_value", 7)]) (g := gName 7) (te := tVar 7) rfl nd (pi_list (pv 2)) (blkOk_by (N := nDoms) (sc := defScope sDoms) (by decide +kernel)) (fun _ _ _ _ _ => pg_name (i := 7) nd rfl (Or.inl rfl))
            (fun _ _ _ _ _ => pts_one (pt_cmpR op_gt (pe_call D.ok hr (by rfl) D.at_ D.kp D.bd .nil pass0 (pa_cons (pv 0) (pa_cons pe_int pa_nil))) pe_int (nomark _))) (fun _ _ _ _ _ => pv 7)) po_none (po_some (pv 3))))
        (pss_cons (ps_if (pt_cmpR op_eq (pe_callB call_len_seq (by rfl) B.len PySem.boot_len (pa_cons (pv 6) pa_nil)) pe_int rfl)
          (pss_one (ps_set (i := 6) nd rfl (.inl rfl) (pe_lst (pa_cons (pe_ix ix_list (pv 2) (pe_call D.ok hr (by rfl) D.at_ D.kp D.bd .nil pass0 (pa_cons (pv 0) (pa_cons (pe_callB call_len_seq (by rfl) B.len PySem.boot_len (pa_cons (pv 2) pa_nil)) pa_nil))) (fun _ _ => rfl)) pa_nil)))) pss_nil)
        (pss_one (ps_expr (pe_bm PySem.F.plainAttrs_list PySem.F.slot_list_append PySem.F.type_list_append mt_append (pv 4) (pa_cons (pe_tup (pa_cons (pv 5) (pa_cons
          (pe_slice sl_list (pv 6) po_none (po_some (pe_op op_mul (pe_callB call_len_seq (by rfl) B.len PySem.boot_len (pa_cons (pv 6) pa_nil))
            (pe_callTy call_int1 (by rfl) B.int PyProof.Rows.boot_int (pa_cons (pe_cmpR op_ne (pe_call D.ok hr (by rfl) D.at_ D.kp D.bd .nil pass0 (pa_cons (pv 0) (pa_cons pe_int pa_nil))) pe_int (nomark _)) pa_nil))))) pa_nil))) pa_nil)))))))
      (pss_one (ps_ret (pv 4)))), ?_⟩
    refine ⟨by show 0 ≤ sizeLine; decide, fun l nl0 => ?_⟩
    have npl : p ≠ l := fun z => hp.some (z ▸ nl0)
    have hpn : H p ≠ none := hp.some
    refine ⟨.ref nm, rfl, nm, rfl, ⟨_, sl_map (same_new nl0 _ _ enm)⟩, for_list (xs := xs.map V.str) (fun i σ H' => ∃ (ds : List DomE) (y5 y6 : Option V), σ = [some (.ref p), some (.ref nm), some (.ref pl), some (.int (m : Int)), some (.ref l), y5, y6, none] ∧ Keep p H H' ∧ Strm H' p ∧ Doms H' l ds ∧ ds.map (·.2.1) = xs.take i ∧ (∀ d ∈ ds, Srt d.2.2.2 ∧ d.2.2.2.length ≤ max m 1 ∧ H d.1 = none ∧ H d.2.2.1 = none ∧ ∀ v ∈ d.2.2.2, v ∈ ns) ∧ (ds.map (·.2.2.1)).Nodup)
      ⟨[], none, none, rfl, (Keep.refl p H).at_ nl0, hp.upd npl, ⟨upd_same, (fun _ h => nomatch h), (fun _ h => nomatch h)⟩, rfl, (fun _ h => nomatch h), List.Pairwise.nil⟩ (fun i σ H' _ h => by obtain ⟨ds, y5, y6, _, k, _⟩ := h; exact sl_map (k _ _ pnm.symm enm)) ?_ ?_⟩
    · rintro i x σ H' hx ⟨ds, y5, y6, rfl, kp, st, dm, keys, ok, inj⟩
      rw [List.getElem?_map] at hx
      obtain ⟨x, hv, rfl⟩ := Option.map_eq_some_iff.mp hx
      have hi := (List.getElem?_eq_some_iff.mp hv).1
      have ld : ds.length = i := by
        have := congrArg List.length keys
        rw [List.length_map, List.length_take] at this
        omega
      have er : H' pl = some (.lst (ns.map V.int)) := kp _ _ ppl.symm epl
      refine ⟨.ref pl, rfl, pl, rfl, ⟨_, sl_map er⟩, fun R nR => ?_⟩
      have npR : p ≠ R := fun z => st.some (z ▸ nR)
      have apart : ∀ d ∈ ds, d.1 ≠ p ∧ d.2.2.1 ≠ p := fun d hd => ⟨fun z => hpn (z ▸ (ok d hd).2.2.1), fun z => hpn (z ▸ (ok d hd).2.2.2.1)⟩
      refine lc_list (xs := ns.map V.int) (fun j H1 => Keep p H' H1 ∧ Strm H1 p ∧ ∃ ms : List Int, H1 R = some (.lst (ms.map V.int)) ∧ ms.Sublist (ns.take j)) ?_ ?_ ?_ ?_
      · exact ⟨(Keep.refl p H').at_ nR, st.upd npR, [], upd_same, List.Sublist.refl _⟩
      · rintro j H1 _ ⟨k, _⟩
        exact sl_map (k _ _ ppl.symm er)
      · rintro j v H1 hv1 ⟨k1, st1, ms, eR, sub⟩
        rw [List.getElem?_map] at hv1
        obtain ⟨v, hv2, rfl⟩ := Option.map_eq_some_iff.mp hv1
        have hj := (List.getElem?_eq_some_iff.mp hv2).1
        have len := sub.length_le
        rw [List.length_take] at len
        refine ⟨rfl, .ref p, rfl, p, 4, rfl, st1, by decide, by decide, fun H2 e o2 st2 e0 e1 => ?_⟩
        refine ⟨e, 0, rfl, rfl, _, rfl, ?_⟩
        have eR2 : H2 R = some (.lst (ms.map V.int)) := (o2 R npR.symm).trans eR
        have tk : ns.take (j + 1) = ns.take j ++ [v] := by rw [List.take_add_one, hv2]; rfl
        refine ite2 (fun _ => ?_) (fun _ => ?_)
        · refine ⟨.int v, rfl, _, eR2, ?_, fun b o hb e => ?_, st2.upd npR, ms ++ [v], by rw [upd_same, List.map_append]; rfl, by rw [tk]; exact sub.append (List.Sublist.refl _)⟩
          · rw [List.length_map]
            exact small1000 (by omega)
          · have : b ≠ R := fun z => by rw [z, nR] at e; cases e
            rw [upd_ne this]
            exact (k1.oth o2) b o hb e
        · exact ⟨k1.oth o2, st2, ms, eR2, by rw [tk]; exact sub.trans (List.sublist_append_left _ _)⟩
      · rintro H1 ⟨k1, st1, ms, eR, sub⟩
        rw [List.length_map, List.take_length] at sub
        have K1 : Keep p H H1 := kp.trans k1
        have nR0 : H R = none := kp.free st nR
        have dm1 : Doms H1 l ds := dm.keep k1 npl.symm apart
        refine' with_restA (fun S' H3 => ∃ ts : List Int, Keep p H H3 ∧ Strm H3 p ∧ Doms H3 l ds ∧ H3 S' = some (.lst (ts.map V.int)) ∧ H S' = none ∧ Srt ts ∧ ts.length ≤ max m 1 ∧ ts.length ≤ 100 ∧ ∀ v ∈ ts, v ∈ ns) ?r (fun rest => ⟨_, rfl, _, rfl, R, _, rfl, sl_map eR, fun S nS => ?k⟩)
        case' k =>
          have ec : cutV (ms.map V.int) none (some (m : Int)) = (ms.take m).map V.int := by rw [cutV_to, List.map_take]
          rw [ec]
          have sS := same_new (o := HO.lst ((ms.take m).map V.int)) nS
          have npS : p ≠ S := fun z => st1.some (z ▸ nS)
          have subS : (ms.take m).Sublist ns := (List.take_sublist m ms).trans sub
          have er2 : (upd H1 S (HO.lst ((ms.take m).map V.int))) pl = some (.lst (ns.map V.int)) := sS _ _ (k1 _ _ ppl.symm er)
          have eS0 := upd_same (H := H1) (a := S) (o := HO.lst ((ms.take m).map V.int))
          have stS := st1.upd (o := HO.lst ((ms.take m).map V.int)) npS
          have dmS := dm1.same sS
          have KS := K1.at_ (o := HO.lst ((ms.take m).map V.int)) (K1.free st1 nS)
          have nS0 : H S = none := K1.free st1 nS
          generalize upd H1 S (HO.lst ((ms.take m).map V.int)) = G1 at er2 eS0 stS dmS KS ⊢
          clear sS
          refine ⟨.ref S, rfl, S, _, rfl, .inl (sl_map eS0), rfl, _, rfl, ite2 (fun c => ?g) (fun c => rest S G1 ?h)⟩
          case h =>
            refine ⟨ms.take m, KS, stS, dmS, eS0, nS0, so.sub subS, ?_, ?_, fun v hv => subS.subset hv⟩
            · rw [List.length_take]; omega
            · have := subS.length_le; omega
          case g =>
            refine ⟨.ref pl, rfl, .ref p, rfl, .ref pl, rfl, pl, _, rfl, .inl (sl_map er2), p, _, rfl, stS, ?_, ?_, fun H2 e o2 st2 e0 e1 => ?_⟩
            · rw [List.length_map]; omega
            · rw [List.length_map]; omega
            rw [List.length_map] at e1
            obtain ⟨e, rfl⟩ : ∃ n : Nat, e = (n : Int) := ⟨e.toNat, by omega⟩
            have he : e < ns.length := by omega
            have ge : (ns.map V.int)[e]? = some (.int ns[e]) := by rw [List.getElem?_map, List.getElem?_eq_getElem he]; rfl
            have er3 : H2 pl = some (.lst (ns.map V.int)) := (o2 pl ppl.symm).trans er2
            have K2 : Keep p H H2 := KS.oth o2
            have dm2 : Doms H2 l ds := dmS.keep ((Keep.refl p _).oth o2) npl.symm apart
            refine ⟨pl, _, _, .int ns[e], rfl, rfl, sl_map er3, atI_nat (j := e) ge, by show 1 ≤ sizeLine; decide, fun Z nZ => rest Z _ ⟨[ns[e]], K2.at_ (K2.free st2 nZ), st2.upd (fun z => st2.some (z ▸ nZ)), dm2.same (same_new nZ), upd_same, K2.free st2 nZ, List.pairwise_singleton _ _, by show 1 ≤ max m 1; omega, by show 1 ≤ 100; omega, fun v hv => ?_⟩⟩
            rw [List.mem_singleton.mp hv]
            exact List.getElem_mem he
        case r =>
          rintro S' H3 ⟨ts, K3, st3, dm3, eS, nS', soT, l1, l2, mem⟩
          have npS' : p ≠ S' := fun z => hpn (z ▸ nS')
          refine ⟨.ref l, rfl, .inl ⟨rfl, _, sl_map dm3.lst⟩, .str x, rfl, .ref S', rfl, .ref S', rfl, S', _, rfl, .inl (sl_map eS), .ref p, rfl, p, 60, rfl, st3, by decide, by decide, fun H4 e o4 st4 e0 e1 => ?_⟩
          have eS4 : H4 S' = some (.lst (ts.map V.int)) := (o4 S' npS'.symm).trans eS
          have tail : ∀ (b : Bool), -(2 ^ 64) < (if b = true then (1 : Int) else 0) ∧ (if b = true then (1 : Int) else 0) < 2 ^ 64 := fun b => by cases b <;> decide
          refine ⟨rfl, .inr ⟨_, rfl, _, _, rfl, rfl, .inr (tail _), _, rfl, S', _, rfl, sl_map eS4, fun Z nZ => ?_⟩⟩
          generalize (!decide (V.int e = V.int 7)) = bit
          have ez : cutV (ts.map V.int) none (some (((ts.map V.int).length : Int) * (if bit = true then (1 : Int) else 0))) = ((if bit = true then ts else []).map V.int) := by
            cases bit with
            | true =>
              rw [if_pos rfl, if_pos rfl, Int.mul_one, cutV_to, List.take_length]
            | false =>
              rw [if_neg Bool.false_ne_true, if_neg Bool.false_ne_true, Int.mul_zero]
              exact cutV_to _ 0
          rw [ez]
          have hz : (if bit = true then ts else []).Sublist ts := by cases bit with
            | true => exact List.Sublist.refl _
            | false => exact List.nil_sublist _
          generalize (if bit = true then ts else []) = zs at hz
          have K4 := K3.oth o4
          have npZ : p ≠ Z := fun z => st4.some (z ▸ nZ)
          have sZ := same_new (o := HO.lst (zs.map V.int)) nZ
          have nZ0 : H Z = none := K4.free st4 nZ
          have dm4 : Doms H4 l ds := dm3.keep ((Keep.refl p _).oth o4) npl.symm apart
          refine ⟨by show 2 ≤ sizeLine; decide, fun T nT => ?_⟩
          have npT : p ≠ T := fun z => st4.some (z ▸ sZ.free nT)
          have sT := same_new (o := HO.tup [V.str x, V.ref Z]) nT
          have nT0 : H T = none := K4.free st4 (sZ.free nT)
          have nZl : Z ≠ l := fun z => by rw [z, dm4.lst] at nZ; cases nZ
          have dmT := (dm4.same sZ).same sT
          have hsub := hz.length_le
          have newZ : Z ∉ ds.map (·.2.2.1) := fun z => by
            obtain ⟨d, hd, e⟩ := List.mem_map.mp z
            have e' : d.2.2.1 = Z := e
            have := dm4.side d hd
            rw [e', nZ] at this
            cases this
          refine ⟨l, _, _, rfl, rfl, dmT.lst, ?_, ds ++ [(T, x, Z, zs)], _, _, rfl, ((K4.at_ nZ0).at_ nT0).at_ nl0, ((st4.upd npZ).upd npT).upd npl, dmT.snoc upd_same (sT _ _ upd_same) nZl, ?_, fun d hd => ?_, ?_⟩
          · rw [List.length_map]
            exact small1000 (by omega)
          · rw [List.map_append, keys, List.take_add_one, hv]
            rfl
          · rcases List.mem_append.mp hd with h | h
            · exact ok d h
            · rw [List.mem_singleton.mp h]
              exact ⟨soT.sub hz, Nat.le_trans hsub l1, nT0, nZ0, fun v hv => mem v (hz.subset hv)⟩
          · rw [List.map_append]
            exact nd_snoc inj newZ
    · rintro σ H' ⟨ds, y5, y6, rfl, kp, st, dm, keys, ok, inj⟩
      rw [List.length_map, List.take_length] at keys
      exact ⟨_, rfl, q H' l ds kp nl0 st dm keys ok inj⟩
end
end K57
set_option Elab.async false
set_option linter.all false
set_option maxRecDepth 100000
set_option maxHeartbeats 4000000
/-! Exceptions of own classes with fields: made, raised while a dict is walked, caught, asked for their class. -/
namespace CsX
open PySem PySem.Spec PyProof.Rows L2
/-- a block that is not reached -/
theorem pss_any {X : Cx} {l : List Stmt} : PSs X l (fun _ _ _ => False) := ⟨fun _ _ _ _ _ _ h => h.elim⟩
/-- a raise while the thing at d is locked -/
theorem Takes.lock {X : Cx} {W : WX} {d : Addr} (tk : Takes X W) (hn : ∀ o' u', X.H_0 d ≠ some (.frz o' u')) : Takes X (fun cls dd σ H => ∃ od u, H d = some (.frz od u) ∧ W cls dd σ (upd H d u)) :=
  fun u s' ⟨a, B, sI, pins, σ, H, cls, dd, e, I, nb, up, sky, na, os, ag, od, uu, hd, w⟩ =>
    tk u s' ⟨a, B, sI, pins, σ, upd H d uu, cls, dd, e, I.unlock hd hn, nb, up, sky, (by rw [upd_ne (fun z => by rw [z, hd] at na; cases na)]; exact na), os, ag, w⟩
end CsX
set_option Elab.async false
set_option linter.all false
set_option maxRecDepth 100000
set_option maxHeartbeats 4000000
namespace K57
open PySem PySem.Spec PyProof.Rows L2 Cs CsX
/-! ### facts of the heap, for grind; small helpers -/
@[grind =] theorem g_upd (H : Hp) (a b : Addr) (o : HO) : upd H a o b = if b = a then some o else H b := rfl
@[grind =] theorem g_same (H H' : Hp) : Same H H' ↔ (∀ a o, H a = some o → H' a = some o) ∧ ∀ a, H' a = none → H a = none := ⟨fun s => ⟨s, fun a h => s.free h⟩, fun h => h.1⟩
@[grind =] theorem g_keep (p : Addr) (H H' : Hp) : Keep p H H' ↔ (∀ a o, a ≠ p → H a = some o → H' a = some o) ∧ ∀ a, a ≠ p → H' a = none → H a = none := ⟨fun s => ⟨s, fun a hp h => by
  cases c : H a with
  | none => rfl
  | some o => rw [s a o hp c] at h; cases h⟩, fun h => h.1⟩
@[grind =] theorem g_oth (p : Addr) (H H' : Hp) : Oth p H H' ↔ ∀ a, a ≠ p → H' a = H a := Iff.rfl
@[grind =] theorem g_strm (H : Hp) (p : Addr) : Strm H p ↔ ∃ x y z : Int, H p = some (.lst [.int x, .int y, .int z]) := Iff.rfl
theorem g_new {H : Hp} {q : Addr} {o : HO} (n : H q = none) : Same H (upd H q o) := same_new n
grind_pattern g_new => upd H q o
@[grind =] theorem g_keepL (as : List Addr) (H H' : Hp) : KeepL as H H' ↔ ∀ b o, b ∉ as → H b = some o → H' b = some o := Iff.rfl
theorem ite_both {A B : Prop} {c : Bool} (h1 : c = true → A) (h2 : c = false → B) : if c = true then A else B := by
  cases c with
  | true => rw [if_pos rfl]; exact h1 rfl
  | false => rw [if_neg (by decide)]; exact h2 rfl
theorem at_eq {xs : List V} {i : Int} {j : Nat} {v : V} (h : i = (j : Int)) (hx : xs[j]? = some v) : atI xs i = some v := by
  rw [h]; exact atI_nat hx
theorem ixN_nat {n j : Nat} (h : j < n) : ixN n (j : Int) = some j := by
  unfold ixN
  rw [if_pos (by omega), if_pos (by omega)]; simp
theorem with_restS {R : L2.St → Hp → Prop} {G : Prop} (C : L2.St → Hp → Prop) (r : ∀ σ H, C σ H → R σ H) (g : (∀ σ H, C σ H → R σ H) → G) : G := g r
theorem nd_ix {α : Type} {l : List α} (nd : l.Nodup) {i j : Nat} {x : α} (hi : l[i]? = some x) (hj : l[j]? = some x) : i = j :=
  (List.getElem?_inj (List.getElem?_eq_some_iff.mp hi).1 nd).mp (hi.trans hj.symm)
theorem not_take {α : Type} {l : List α} (nd : l.Nodup) {i : Nat} {x : α} (hi : l[i]? = some x) : x ∉ l.take i := fun z => by
  obtain ⟨j, hj⟩ := List.mem_iff_getElem?.mp z
  rw [List.getElem?_take] at hj
  split at hj
  · next c => exact absurd (nd_ix nd hj hi) (by omega)
  · cases hj
theorem filter_snoc {α : Type} {s : List α} {j : Nat} {v : α} {p : α → Bool} (h : s[j]? = some v) : (s.take (j + 1)).filter p = (s.take j).filter p ++ (if p v = true then [v] else []) := by
  rw [List.take_add_one, h, List.filter_append]
  congr 1
  show List.filter p [v] = _
  rw [List.filter_cons] <;> rfl
theorem filter_len {α : Type} (s : List α) (p : α → Bool) (j : Nat) : ((s.take j).filter p).length ≤ s.length := by
  have h1 := List.length_filter_le p (s.take j)
  rw [List.length_take] at h1
  omega
theorem take_snoc {α : Type} {s : List α} {j : Nat} {v : α} (h : s[j]? = some v) : s.take (j + 1) = s.take j ++ [v] := by
  rw [List.take_add_one, h] <;> rfl
theorem pe_or {X : Cx} {e : Expr} {t u : TE} (a : PE X e t) (b : PE X e u) : PE X e (fun σ H Q => t σ H Q ∨ u σ H Q) :=
  ⟨fun pins s σ H Q I h => h.elim (fun h => a.run pins s σ H Q I h) fun h => b.run pins s σ H Q I h⟩
theorem in_strs (ks : List Str) (v : Str) : inV (.str v) (ks.map V.str) = decide (v ∈ ks) := by
  unfold inV
  induction ks with
  | nil => simp
  | cons k ks ih =>
    rw [List.map_cons, List.any_cons, ih]
    have e : eqV (.str k) (.str v) = decide (k = v) := by
      by_cases c : k = v
      · subst c; simp [eqV]
      · simp [eqV, c]
    rw [e]
    by_cases c : k = v
    · subst c; simp
    · have : ¬ v = k := fun z => c z.symm
      simp [c, this]
theorem flats_str (xs : List Str) : (xs.map V.str).all flatV = true := by
  rw [List.all_eq_true]
  intro v hv
  obtain ⟨x, _, rfl⟩ := List.mem_map.mp hv
  rfl
/-! ### dicts of values -/
def putA (A : List (Str × Int)) (x : Str) (v : Int) : List (Str × Int) := if (A.any fun e => decide (e.1 = x)) = true then A.map (fun e => if e.1 = x then (x, v) else e) else A ++ [(x, v)]
theorem any_int (A : List (Str × Int)) (x : Str) : ((intK A).any fun kv => decide (kv.1 = Sum.inr x)) = A.any fun e => decide (e.1 = x) := by
  unfold intK
  rw [List.any_map]
  congr 1
  funext e
  simp
theorem putK_int (A : List (Str × Int)) (x : Str) (v : Int) : putK (intK A) (.inr x) (V.int v) = intK (putA A x v) := by
  unfold putK putA
  rw [any_int]
  by_cases h : (A.any fun e => decide (e.1 = x)) = true
  · rw [if_pos h, if_pos h]
    unfold intK
    rw [List.map_map, List.map_map]
    congr 1
    funext e
    by_cases z : e.1 = x
    · simp [z]
    · simp [z]
  · rw [if_neg h, if_neg h]
    unfold intK
    rw [List.map_append]
    rfl
theorem anyA {A : List (Str × Int)} {x : Str} : (A.any fun e => decide (e.1 = x)) = true ↔ x ∈ A.map (·.1) := by
  rw [List.any_eq_true, List.mem_map]
  constructor
  · rintro ⟨e, he, h⟩; exact ⟨e, he, of_decide_eq_true h⟩
  · rintro ⟨e, he, h⟩; exact ⟨e, he, decide_eq_true h⟩
theorem putA_new {A : List (Str × Int)} {x : Str} {v : Int} (h : x ∉ A.map (·.1)) : putA A x v = A ++ [(x, v)] := if_neg fun z => h (anyA.mp z)
theorem putA_keys {A : List (Str × Int)} {x : Str} {v : Int} (h : x ∈ A.map (·.1)) : (putA A x v).map (·.1) = A.map (·.1) := by
  unfold putA
  rw [if_pos (anyA.mpr h), List.map_map]
  refine List.map_congr_left fun e _ => ?_
  show (if e.1 = x then (x, v) else e).1 = e.1
  split
  · next z => exact z.symm
  · rfl
theorem aget_cons (e : Str × Int) (A : List (Str × Int)) (y : Str) : aget (e :: A) y = if e.1 = y then some e.2 else aget A y := by
  unfold aget
  rw [List.find?_cons]
  by_cases h : e.1 = y
  · simp [h]
  · simp [h]
theorem aget_app {A : List (Str × Int)} {x : Str} {v : Int} (h : x ∉ A.map (·.1)) (y : Str) : aget (A ++ [(x, v)]) y = if x = y then some v else aget A y := by
  induction A with
  | nil => rw [List.nil_append, aget_cons] <;> rfl
  | cons e A ih =>
    rw [List.cons_append, aget_cons, aget_cons, ih fun z => h (List.mem_cons_of_mem _ z)]
    by_cases c : e.1 = y
    · rw [if_pos c, if_pos c]
      by_cases d : x = y
      · exact absurd (by rw [d, ← c]; exact List.mem_cons_self) h
      · rw [if_neg d]
    · rw [if_neg c, if_neg c]
theorem aget_rep (x : Str) (v : Int) (y : Str) : ∀ A : List (Str × Int), aget (A.map fun e => if e.1 = x then (x, v) else e) y = if x = y then (if x ∈ A.map (·.1) then some v else none) else aget A y
  | [] => by split <;> rfl
  | e :: A => by
    rw [List.map_cons, aget_cons, aget_cons, aget_rep x v y A]
    by_cases c : e.1 = x
    · rw [if_pos c]
      by_cases d : x = y
      · rw [if_pos d, if_pos d, if_pos (by rw [List.map_cons, c]; exact List.mem_cons_self)]
      · have h1 : ¬ e.1 = y := fun z => d (c.symm.trans z)
        simp [d, h1]
    · rw [if_neg c]
      by_cases d : x = y
      · have h1 : ¬ e.1 = y := fun z => c (z.trans d.symm)
        rw [if_neg h1, if_pos d, if_pos d]
        have : x ∈ (e :: A).map (·.1) ↔ x ∈ A.map (·.1) := by
          rw [List.map_cons, List.mem_cons]
          exact ⟨fun h => h.elim (fun z => absurd z.symm c) id, .inr⟩
        by_cases m : x ∈ A.map (·.1)
        · rw [if_pos m, if_pos (this.mpr m)]
        · rw [if_neg m, if_neg fun z => m (this.mp z)]
      · rw [if_neg d, if_neg d]
theorem aget_put {A : List (Str × Int)} {x : Str} {v : Int} (y : Str) : aget (putA A x v) y = if x = y then some v else aget A y := by
  by_cases h : x ∈ A.map (·.1)
  · unfold putA
    rw [if_pos (anyA.mpr h), aget_rep, if_pos h]
  · rw [putA_new h, aget_app h]
theorem aget_mem {A : List (Str × Int)} {x : Str} : (aget A x).isSome = true ↔ x ∈ A.map (·.1) := by
  induction A with
  | nil => simp [aget]
  | cons e A ih =>
    rw [aget_cons, List.map_cons, List.mem_cons, ← ih]
    by_cases c : e.1 = x
    · rw [if_pos c]; simp [c]
    · rw [if_neg c]; simp [Ne.symm c]
/-- a dict of values -/
structure Vd (H : Hp) (d : Addr) (A : List (Str × Int)) : Prop where
  un : H d = some (.dK (intK A))
  nd : (A.map (·.1)).Nodup
  few : A.length ≤ 40
theorem Vd.same {H H' : Hp} {d : Addr} {A : List (Str × Int)} (B : Vd H d A) (s : Same H H') : Vd H' d A := ⟨s _ _ B.un, B.nd, B.few⟩
theorem intK_len (A : List (Str × Int)) : (intK A).length = A.length := by unfold intK; rw [List.length_map]
theorem aget_iff {A : List (Str × Int)} (nd : (A.map (·.1)).Nodup) (x : Str) (v : Int) : aget A x = some v ↔ (x, v) ∈ A := by
  induction A with
  | nil => simp [aget]
  | cons e A ih =>
    obtain ⟨n1, n2⟩ := List.nodup_cons.mp nd
    rw [aget_cons, List.mem_cons]
    by_cases c : e.1 = x
    · rw [if_pos c]
      constructor
      · intro h
        left
        have := Option.some.inj h
        rw [← c, ← this]
      · rintro (h | h)
        · rw [← h]
        · rw [← c] at h
          exact absurd (List.mem_map_of_mem (f := fun e : Str × Int => e.1) h) n1
    · rw [if_neg c, ih n2]
      constructor
      · exact .inr
      · rintro (h | h)
        · exact absurd (congrArg Prod.fst h).symm c
        · exact h
def SameA (L M : List (Str × Int)) : Prop := ∀ x, aget L x = aget M x
theorem SameA.keys {L M : List (Str × Int)} (s : SameA L M) {x : Str} (h : x ∈ L.map (·.1)) : x ∈ M.map (·.1) := by
  rw [← aget_mem] at h ⊢
  rw [← s x]
  exact h
theorem SameA.len {L M : List (Str × Int)} (s : SameA L M) (n1 : (L.map (·.1)).Nodup) (n2 : (M.map (·.1)).Nodup) : L.length = M.length := by
  have h1 := List.Nodup.length_le_of_subset n1 fun x hx => s.keys hx
  have h2 := List.Nodup.length_le_of_subset n2 fun x hx => SameA.keys (fun y => (s y).symm) hx
  rw [List.length_map, List.length_map] at h1 h2
  omega
theorem keysI {L : List (Str × Int)} {i : Nat} {k : Key} {v : V} (h : (intK L)[i]? = some (k, v)) : ∃ e, L[i]? = some e ∧ k = .inr e.1 ∧ v = .int e.2 := by
  unfold intK at h
  rw [List.getElem?_map] at h
  obtain ⟨e, he, q⟩ := Option.map_eq_some_iff.mp h
  exact ⟨e, he, (Prod.mk.inj q).1.symm, (Prod.mk.inj q).2.symm⟩
theorem all_repl (n : Nat) : (List.replicate n true).all id = true := by simp
theorem putA_mem {A : List (Str × Int)} {x y : Str} {v : Int} : y ∈ (putA A x v).map (·.1) ↔ y = x ∨ y ∈ A.map (·.1) := by
  rw [← aget_mem, aget_put, ← aget_mem]
  by_cases c : x = y
  · rw [if_pos c]; simp [c]
  · rw [if_neg c]; simp [Ne.symm c]
theorem putA_nd {A : List (Str × Int)} {x : Str} {v : Int} (nd : (A.map (·.1)).Nodup) : ((putA A x v).map (·.1)).Nodup := by
  by_cases h : x ∈ A.map (·.1)
  · rw [putA_keys h]; exact nd
  · rw [putA_new h, List.map_append]
    exact nd_snoc nd h
end K57
set_option Elab.async false
set_option linter.all false
set_option maxRecDepth 100000
set_option maxHeartbeats 4000000
namespace K57
open PySem PySem.Spec PyProof.Rows L2 Cs CsX
/-! ### dicts with numbers as keys -/
section
variable {β : Type}
def zK (g : β → V) (L : List (Int × β)) : List (Key × V) := L.map fun e => (Sum.inl e.1, g e.2)
def zget (L : List (Int × β)) (v : Int) : Option β := (L.find? fun e => decide (e.1 = v)).map (·.2)
def putZ (L : List (Int × β)) (v : Int) (b : β) : List (Int × β) := if (L.any fun e => decide (e.1 = v)) = true then L.map (fun e => if e.1 = v then (v, b) else e) else L ++ [(v, b)]
theorem zget_cons (e : Int × β) (L : List (Int × β)) (v : Int) : zget (e :: L) v = if e.1 = v then some e.2 else zget L v := by
  unfold zget
  rw [List.find?_cons]
  by_cases h : e.1 = v
  · simp [h]
  · simp [h]
theorem zval (g : β → V) (v : Int) : ∀ L : List (Int × β), valV (zK g L) (.inl v) = (zget L v).map g
  | [] => rfl
  | e :: L => by
    have ih := zval g v L
    rw [zget_cons]
    unfold valV zK at *
    rw [List.map_cons, List.find?_cons]
    by_cases c : e.1 = v
    · simp [c]
    · rw [show decide ((Sum.inl e.1 : Key) = Sum.inl v) = false by simp [c], if_neg c]
      exact ih
theorem z_any (g : β → V) (L : List (Int × β)) (v : Int) : ((zK g L).any fun kv => decide (kv.1 = Sum.inl v)) = L.any fun e => decide (e.1 = v) := by
  unfold zK
  rw [List.any_map]
  congr 1
  funext e
  simp
theorem zput (g : β → V) (L : List (Int × β)) (v : Int) (b : β) : putK (zK g L) (.inl v) (g b) = zK g (putZ L v b) := by
  unfold putK putZ
  rw [z_any]
  by_cases h : (L.any fun e => decide (e.1 = v)) = true
  · rw [if_pos h, if_pos h]
    unfold zK
    rw [List.map_map, List.map_map]
    congr 1
    funext e
    by_cases z : e.1 = v
    · simp [z]
    · simp [z]
  · rw [if_neg h, if_neg h]
    unfold zK
    rw [List.map_append]
    rfl
theorem z_iff {L : List (Int × β)} {v : Int} : (L.any fun e => decide (e.1 = v)) = true ↔ v ∈ L.map (·.1) := by
  rw [List.any_eq_true, List.mem_map]
  constructor
  · rintro ⟨e, he, h⟩; exact ⟨e, he, of_decide_eq_true h⟩
  · rintro ⟨e, he, h⟩; exact ⟨e, he, decide_eq_true h⟩
theorem putZ_new {L : List (Int × β)} {v : Int} {b : β} (h : v ∉ L.map (·.1)) : putZ L v b = L ++ [(v, b)] := if_neg fun z => h (z_iff.mp z)
theorem zmem {L : List (Int × β)} {v : Int} : (zget L v).isSome = true ↔ v ∈ L.map (·.1) := by
  induction L with
  | nil => simp [zget]
  | cons e L ih =>
    rw [zget_cons, List.map_cons, List.mem_cons, ← ih]
    by_cases c : e.1 = v
    · rw [if_pos c]; simp [c]
    · rw [if_neg c]; simp [Ne.symm c]
theorem zget_at {L : List (Int × β)} (nd : (L.map (·.1)).Nodup) {i : Nat} {v : Int} {b : β} (h : L[i]? = some (v, b)) : zget L v = some b := by
  induction L generalizing i with
  | nil => cases h
  | cons e L ih =>
    obtain ⟨n1, n2⟩ := List.nodup_cons.mp nd
    rw [zget_cons]
    cases i with
    | zero =>
      rw [Option.some.inj h, if_pos rfl]
    | succ i =>
      rw [List.getElem?_cons_succ] at h
      have : e.1 ≠ v := fun z => n1 (List.mem_map.mpr ⟨(v, b), List.mem_of_getElem? h, z.symm⟩)
      rw [if_neg this]; exact ih n2 h
end
/-! ### who has taken a value -/
def tk (A : List (Str × Int)) (v : Int) : List Str := (A.filter fun e => decide (e.2 = v)).map (·.1)
def cnt (A : List (Str × Int)) (v : Int) : Nat := (tk A v).length
theorem cnt_cons (e : Str × Int) (A : List (Str × Int)) (v : Int) : cnt (e :: A) v = (if e.2 = v then 1 else 0) + cnt A v := by
  unfold cnt tk
  rw [List.filter_cons]
  by_cases c : e.2 = v
  · rw [if_pos (decide_eq_true c), if_pos c, List.map_cons, List.length_cons]; omega
  · rw [if_neg (by simpa using c), if_neg c]; omega
theorem cnt_app (A B : List (Str × Int)) (v : Int) : cnt (A ++ B) v = cnt A v + cnt B v := by
  unfold cnt tk
  rw [List.filter_append, List.map_append, List.length_append]
theorem tk_mem {A : List (Str × Int)} (nd : (A.map (·.1)).Nodup) {v : Int} {x : Str} : x ∈ tk A v ↔ aget A x = some v := by
  unfold tk
  rw [List.mem_map, aget_iff nd]
  constructor
  · rintro ⟨e, he, rfl⟩
    obtain ⟨h1, h2⟩ := List.mem_filter.mp he
    rw [← of_decide_eq_true h2]; exact h1
  · exact fun h => ⟨(x, v), List.mem_filter.mpr ⟨h, decide_eq_true rfl⟩, rfl⟩
theorem tk_nd {A : List (Str × Int)} (nd : (A.map (·.1)).Nodup) (v : Int) : (tk A v).Nodup := List.Pairwise.sublist (List.Sublist.map _ List.filter_sublist) nd
theorem cnt_rep {x : Str} {v u : Int} : ∀ {A : List (Str × Int)}, (A.map (·.1)).Nodup → x ∈ A.map (·.1) → cnt (A.map fun e => if e.1 = x then (x, v) else e) u + (if aget A x = some u then 1 else 0) = cnt A u + (if u = v then 1 else 0)
  | [], _, h => nomatch h
  | e :: A, nd, h => by
    obtain ⟨n1, n2⟩ := List.nodup_cons.mp nd
    rw [List.map_cons, cnt_cons, cnt_cons, aget_cons]
    by_cases c : e.1 = x
    · rw [if_pos c, if_pos c]
      have same : (A.map fun e => if e.1 = x then (x, v) else e) = A := by
        conv => rhs; rw [← List.map_id A]
        refine List.map_congr_left fun g hg => ?_
        have : g.1 ≠ x := fun z => n1 (by show e.1 ∈ _; rw [c, ← z]; exact List.mem_map_of_mem (f := fun e : Str × Int => e.1) hg)
        rw [if_neg this] <;> rfl
      rw [same]
      show (if v = u then 1 else 0) + cnt A u + (if some e.2 = some u then 1 else 0) = _
      by_cases a : e.2 = u
      · by_cases b : u = v
        · simp [a, b]
        · have : ¬ v = u := fun z => b z.symm
          simp [a, b, this]; omega
      · by_cases b : u = v
        · subst b; simp [a]; omega
        · have : ¬ v = u := fun z => b z.symm
          simp [a, b, this]
    · rw [if_neg c, if_neg c]
      rcases List.mem_cons.mp h with z | z
      · exact absurd z.symm c
      · have := cnt_rep (x := x) (v := v) (u := u) n2 z
        omega
theorem cnt_put {A : List (Str × Int)} (nd : (A.map (·.1)).Nodup) (x : Str) (v u : Int) : cnt (putA A x v) u + (if aget A x = some u then 1 else 0) = cnt A u + (if u = v then 1 else 0) := by
  by_cases h : x ∈ A.map (·.1)
  · unfold putA
    rw [if_pos (anyA.mpr h)]
    exact cnt_rep nd h
  · rw [putA_new h, cnt_app, cnt_cons]
    have : aget A x = none := by
      cases q : aget A x with
      | none => rfl
      | some v => exact absurd (aget_mem.mp (by rw [q] <;> rfl)) h
    rw [this]
    show cnt A u + ((if v = u then 1 else 0) + cnt [] u) + _ = _
    have z : cnt [] u = 0 := rfl
    rw [z]
    by_cases b : u = v
    · subst b; simp
    · have : ¬ v = u := fun z => b z.symm
      simp [b, this]
end K57
set_option Elab.async false
set_option linter.all false
set_option maxRecDepth 100000
set_option maxHeartbeats 4000000
namespace K57
open PySem PySem.Spec PyProof.Rows L2 Cs CsX
/-! ### the search -/
abbrev Sk := List (Int × Str)
section
variable (A : List (Str × Int)) (h : Int → Option Int) (S : Str → List Int)
def free (v : Int) : Bool := match h v with
  | none => true
  | some k => decide (((tk A v).length : Int) < k)
def seek (x : Str) (s : List Str × Sk) : List Int → (Sk × Int) ⊕ (List Str × Sk)
  | [] => .inr s
  | v :: vs => if v ∈ s.2.map (·.1) then seek x s vs else if free A h v = true then .inl (s.2 ++ [(v, x)], v) else seek x (s.1 ++ tk A v, s.2 ++ [(v, x)]) vs
inductive Run : List Str × Sk → Nat → (Sk × Int) ⊕ List Str → Prop
  | stop {c : List Str} {k : Sk} {p : Nat} : c.length ≤ p → Run (c, k) p (.inr c)
  | found {c : List Str} {k : Sk} {p : Nat} {x : Str} {r : Sk × Int} : c[p]? = some x → seek A h x (c, k) (S x) = .inl r → Run (c, k) p (.inl r)
  | more {c : List Str} {k : Sk} {p : Nat} {x : Str} {s : List Str × Sk} {r : (Sk × Int) ⊕ List Str} : c[p]? = some x → seek A h x (c, k) (S x) = .inr s → Run s (p + 1) r → Run (c, k) p r
inductive Up (sk : Sk) : List (Str × Int) → Option Int → List (Str × Int) → Prop
  | done {M : List (Str × Int)} : Up sk M none M
  | step {M M' : List (Str × Int)} {v : Int} {x : Str} : zget sk v = some x → Up sk (putA M x v) (aget A x) M' → Up sk M (some v) M'
inductive Wit (x : Str) : List (Str × Int) ⊕ List Str → Prop
  | crowd {c : List Str} : Run A h S ([x], []) 0 (.inr c) → Wit x (.inr c)
  | fit {k : Sk} {v : Int} {M : List (Str × Int)} : Run A h S ([x], []) 0 (.inl (k, v)) → Up A k A (some v) M → Wit x (.inl M)
end
inductive Grow (h : Int → Option Int) (S : Str → List Int) : List Str → List (Str × Int) → List (Str × Int) ⊕ List Str → Prop
  | nil {A : List (Str × Int)} : Grow h S [] A (.inl A)
  | skip {A : List (Str × Int)} {x : Str} {xs : List Str} {r : List (Str × Int) ⊕ List Str} : x ∈ A.map (·.1) → Grow h S xs A r → Grow h S (x :: xs) A r
  | fit {A M : List (Str × Int)} {x : Str} {xs : List Str} {r : List (Str × Int) ⊕ List Str} : x ∉ A.map (·.1) → Wit A h S x (.inl M) → Grow h S xs M r → Grow h S (x :: xs) A r
  | crowd {A : List (Str × Int)} {x : Str} {xs : List Str} {c : List Str} : x ∉ A.map (·.1) → Wit A h S x (.inr c) → Grow h S (x :: xs) A (.inr c)
section
variable {A : List (Str × Int)} {h : Int → Option Int} {S : Str → List Int}
theorem Run.one {s : List Str × Sk} {p : Nat} {r q : (Sk × Int) ⊕ List Str} (a : Run A h S s p r) (b : Run A h S s p q) : r = q := by
  induction a with
  | stop h1 =>
    cases b with
    | stop h2 => rfl
    | found h2 _ => have := (List.getElem?_eq_some_iff.mp h2).1; omega
    | more h2 _ _ => have := (List.getElem?_eq_some_iff.mp h2).1; omega
  | found h1 h2 =>
    cases b with
    | stop h3 => have := (List.getElem?_eq_some_iff.mp h1).1; omega
    | found h3 h4 =>
      obtain rfl := Option.some.inj (h1.symm.trans h3)
      rw [h2] at h4; rw [Sum.inl.inj h4]
    | more h3 h4 _ =>
      obtain rfl := Option.some.inj (h1.symm.trans h3)
      rw [h2] at h4; cases h4
  | more h1 h2 _ ih =>
    cases b with
    | stop h3 => have := (List.getElem?_eq_some_iff.mp h1).1; omega
    | found h3 h4 =>
      obtain rfl := Option.some.inj (h1.symm.trans h3)
      rw [h2] at h4; cases h4
    | more h3 h4 r2 =>
      obtain rfl := Option.some.inj (h1.symm.trans h3)
      rw [h2] at h4
      obtain rfl := Sum.inr.inj h4
      exact ih r2
theorem Up.one {sk : Sk} {M N N' : List (Str × Int)} {o : Option Int} (a : Up A sk M o N) (b : Up A sk M o N') : N = N' := by
  induction a with
  | done => cases b; rfl
  | step h1 _ ih =>
    cases b with
    | step h2 r2 =>
      obtain rfl := Option.some.inj (h1.symm.trans h2)
      exact ih r2
theorem Wit.one {x : Str} {r q : List (Str × Int) ⊕ List Str} (a : Wit A h S x r) (b : Wit A h S x q) : r = q := by
  cases a with
  | crowd r1 =>
    cases b with
    | crowd r2 => rw [Sum.inr.inj (r1.one r2)]
    | fit r2 _ => cases r1.one r2
  | fit r1 u1 =>
    cases b with
    | crowd r2 => cases r1.one r2
    | fit r2 u2 =>
      have := Sum.inl.inj (r1.one r2)
      obtain ⟨rfl, rfl⟩ := Prod.mk.inj this
      rw [u1.one u2]
theorem Grow.one {xs : List Str} {r q : List (Str × Int) ⊕ List Str} (a : Grow h S xs A r) (b : Grow h S xs A q) : r = q := by
  induction a with
  | nil => cases b; rfl
  | skip h1 _ ih =>
    cases b with
    | skip _ r2 => exact ih r2
    | fit h2 _ _ => exact absurd h1 h2
    | crowd h2 _ => exact absurd h1 h2
  | fit h1 w1 _ ih =>
    cases b with
    | skip h2 _ => exact absurd h2 h1
    | fit _ w2 r2 =>
      obtain rfl := Sum.inl.inj (w1.one w2)
      exact ih r2
    | crowd _ w2 => cases w1.one w2
  | crowd h1 w1 =>
    cases b with
    | skip h2 _ => exact absurd h2 h1
    | fit _ w2 _ => cases w1.one w2
    | crowd _ w2 => rw [Sum.inr.inj (w1.one w2)]
end
/-! ### what holds -/
structure FitOk (ns : List Str) (S : Str → List Int) (h : Int → Option Int) (A : List (Str × Int)) : Prop where
  nd : (A.map (·.1)).Nodup
  sub : ∀ x ∈ A.map (·.1), x ∈ ns
  inS : ∀ x v, aget A x = some v → v ∈ S x
  le : ∀ v k, h v = some k → (cnt A v : Int) ≤ k
/-- who seeks which value -/
structure SkE (A : List (Str × Int)) (S : Str → List Int) (ns : List Str) (nm : Str) (sk : Sk) : Prop where
  nd : (sk.map (·.1)).Nodup
  ent : ∀ (i : Nat) (v : Int) (x : Str), sk[i]? = some (v, x) → x ∈ ns ∧ v ∈ S x ∧ (x = nm ∨ ∃ (j : Nat) (w : Int) (y : Str), j < i ∧ aget A x = some w ∧ sk[j]? = some (w, y))
def tot (A : List (Str × Int)) : List Int → Nat
  | [] => 0
  | v :: vs => cnt A v + tot A vs
theorem tot_app (A : List (Str × Int)) (v : Int) : ∀ vs, tot A (vs ++ [v]) = tot A vs + cnt A v
  | [] => by show cnt A v + 0 = 0 + cnt A v; omega
  | u :: vs => by show cnt A u + tot A (vs ++ [v]) = cnt A u + tot A vs + cnt A v; rw [tot_app A v vs]; omega
structure SkOk (A : List (Str × Int)) (h : Int → Option Int) (S : Str → List Int) (ns : List Str) (nm : Str) (c : List Str) (sk : Sk) : Prop extends SkE A S ns nm sk where
  cnd : c.Nodup
  csub : ∀ x ∈ c, x ∈ ns
  chd : nm ∈ c
  mem : ∀ y ∈ c, y = nm ∨ ∃ w, aget A y = some w ∧ w ∈ sk.map (·.1)
  full : ∀ w ∈ sk.map (·.1), free A h w = false
  by_ : ∀ w ∈ sk.map (·.1), ∃ x ∈ c, w ∈ S x
  len : c.length = 1 + tot A (sk.map (·.1))
section
variable {A : List (Str × Int)} {h : Int → Option Int} {S : Str → List Int} {ns : List Str} {nm x : Str} {c : List Str} {sk : Sk} {v : Int}
theorem SkOk.start (hn : nm ∈ ns) : SkOk A h S ns nm [nm] [] :=
  ⟨⟨List.Pairwise.nil, (fun _ _ _ h => nomatch h)⟩, List.pairwise_singleton _ _, (fun x hx => by rw [List.mem_singleton.mp hx]; exact hn), List.mem_singleton.mpr rfl, (fun y hy => .inl (List.mem_singleton.mp hy)), (fun _ h => nomatch h), (fun _ h => nomatch h), rfl⟩
theorem SkOk.found (I : SkOk A h S ns nm c sk) (hx : x ∈ c) (hv : v ∈ S x) (nw : v ∉ sk.map (·.1)) : SkE A S ns nm (sk ++ [(v, x)]) := by
  refine ⟨by rw [List.map_append]; exact nd_snoc I.nd nw, fun i u y hi => ?_⟩
  rcases Nat.lt_or_ge i sk.length with l | l
  · rw [List.getElem?_append_left l] at hi
    obtain ⟨h1, h2, h3⟩ := I.ent i u y hi
    refine ⟨h1, h2, h3.imp_right ?_⟩
    rintro ⟨j, w, z, ji, e1, e2⟩
    exact ⟨j, w, z, ji, e1, by rw [List.getElem?_append_left (by omega)]; exact e2⟩
  · rw [List.getElem?_append_right l] at hi
    have hl := (List.getElem?_eq_some_iff.mp hi).1
    rw [List.length_singleton] at hl
    have e : (u, y) = (v, x) := by
      rw [show i - sk.length = 0 by omega] at hi
      exact (Option.some.inj hi).symm
    obtain ⟨rfl, rfl⟩ := Prod.mk.inj e
    refine ⟨I.csub y hx, hv, (I.mem y hx).imp_right ?_⟩
    rintro ⟨w, e1, e2⟩
    obtain ⟨p, hp, rfl⟩ := List.mem_map.mp e2
    obtain ⟨j, hj⟩ := List.mem_iff_getElem?.mp hp
    have jl := (List.getElem?_eq_some_iff.mp hj).1
    exact ⟨j, p.1, p.2, by omega, e1, by rw [List.getElem?_append_left jl]; exact hj⟩
theorem SkOk.add (F : FitOk ns S h A) (nn : nm ∉ A.map (·.1)) (I : SkOk A h S ns nm c sk) (hx : x ∈ c) (hv : v ∈ S x) (nw : v ∉ sk.map (·.1)) (nf : free A h v = false) : SkOk A h S ns nm (c ++ tk A v) (sk ++ [(v, x)]) := by
  have keys : (sk ++ [(v, x)]).map (·.1) = sk.map (·.1) ++ [v] := by rw [List.map_append] <;> rfl
  have inA : ∀ y w, aget A y = some w → y ∈ A.map (·.1) := fun y w e => aget_mem.mp (by rw [e] <;> rfl)
  refine ⟨I.found hx hv nw, ?_, fun y hy => ?_, List.mem_append_left _ I.chd, fun y hy => ?_, fun w hw => ?_, fun w hw => ?_, ?_⟩
  · refine List.nodup_append.mpr ⟨I.cnd, tk_nd F.nd v, fun a ha b hb e => ?_⟩
    subst e
    have hb' := (tk_mem F.nd).mp hb
    rcases I.mem a ha with z | ⟨w, e1, e2⟩
    · rw [z] at hb'; exact nn (inA _ _ hb')
    · rw [e1] at hb'
      rw [Option.some.inj hb'] at e2
      exact nw e2
  · rcases List.mem_append.mp hy with z | z
    · exact I.csub y z
    · exact F.sub y (inA _ _ ((tk_mem F.nd).mp z))
  · rw [keys]
    rcases List.mem_append.mp hy with z | z
    · exact (I.mem y z).imp_right fun ⟨w, e1, e2⟩ => ⟨w, e1, List.mem_append_left _ e2⟩
    · exact .inr ⟨v, (tk_mem F.nd).mp z, List.mem_append_right _ (List.mem_singleton.mpr rfl)⟩
  · rw [keys] at hw
    rcases List.mem_append.mp hw with z | z
    · exact I.full w z
    · rw [List.mem_singleton.mp z]; exact nf
  · rw [keys] at hw
    rcases List.mem_append.mp hw with z | z
    · obtain ⟨y, h1, h2⟩ := I.by_ w z
      exact ⟨y, List.mem_append_left _ h1, h2⟩
    · rw [List.mem_singleton.mp z]; exact ⟨x, List.mem_append_left _ hx, hv⟩
  · rw [keys, tot_app, List.length_append, I.len]
    show 1 + tot A _ + cnt A v = _
    omega
/-- a crowd: its values are all taken up, and there are too few -/
structure Crowd (h : Int → Option Int) (S : Str → List Int) (ns c : List Str) : Prop where
  ne : c ≠ []
  nd : c.Nodup
  sub : ∀ x ∈ c, x ∈ ns
  few : ∃ K : List Int, K.Nodup ∧ (∀ x ∈ c, ∀ v ∈ S x, v ∈ K) ∧ (∀ w ∈ K, (h w).isSome = true ∧ ∃ x ∈ c, w ∈ S x) ∧ (K.map fun w => (h w).getD 0).sum < (c.length : Int)
theorem free_no {w : Int} (f : free A h w = false) : ∃ k, h w = some k ∧ k ≤ (cnt A w : Int) := by
  unfold free at f
  cases e : h w with
  | none => rw [e] at f; cases f
  | some k =>
    rw [e] at f
    have := of_decide_eq_false f
    exact ⟨k, rfl, by unfold cnt; omega⟩
theorem SkOk.crowd (I : SkOk A h S ns nm c sk) (all : ∀ x ∈ c, ∀ v ∈ S x, v ∈ sk.map (·.1)) : Crowd h S ns c := by
  refine ⟨(fun z => by have := I.chd; rw [z] at this; cases this), I.cnd, I.csub, sk.map (·.1), I.nd, all, fun w hw => ⟨?_, I.by_ w hw⟩, ?_⟩
  · obtain ⟨k, hk, _⟩ := free_no (I.full w hw)
    rw [hk] <;> rfl
  · have key : ∀ K : List Int, (∀ w ∈ K, free A h w = false) → (K.map fun w => (h w).getD 0).sum ≤ (tot A K : Int) := by
      intro K
      induction K with
      | nil => intro _; exact Int.le_refl _
      | cons w K ih =>
        intro hK
        have h1 := ih fun u hu => hK u (List.mem_cons_of_mem _ hu)
        obtain ⟨k, hk, h2⟩ := free_no (hK w List.mem_cons_self)
        rw [List.map_cons, List.sum_cons, hk]
        show k + _ ≤ ((cnt A w + tot A K : Nat) : Int)
        omega
    have := key _ I.full
    have := I.len
    omega
end
/-! ### moving up -/
structure UpI (A : List (Str × Int)) (S : Str → List Int) (ns : List Str) (nm : Str) (sk : Sk) (v1 : Int) (M : List (Str × Int)) (pv : Option Int) : Prop where
  nd : (M.map (·.1)).Nodup
  sub : ∀ x ∈ M.map (·.1), x ∈ ns
  inS : ∀ x v, aget M x = some v → v ∈ S x
  cn : ∀ u, cnt M u + (if pv = some u then 1 else 0) = cnt A u + (if u = v1 then 1 else 0)
  pos : ∀ v, pv = some v → ∃ (i : Nat) (x : Str), sk[i]? = some (v, x) ∧ ∀ y, (aget A y = none ∨ ∃ (j : Nat) (w : Int) (z : Str), j < i ∧ aget A y = some w ∧ sk[j]? = some (w, z)) → aget M y = aget A y
  key : ∀ x ∈ A.map (·.1), x ∈ M.map (·.1)
  end_ : pv = none → nm ∈ M.map (·.1)
section
variable {A M : List (Str × Int)} {h : Int → Option Int} {S : Str → List Int} {ns : List Str} {nm x : Str} {sk : Sk} {v v1 : Int}
theorem aget_none {A : List (Str × Int)} {x : Str} (h : x ∉ A.map (·.1)) : aget A x = none := by
  cases q : aget A x with
  | none => rfl
  | some v => exact absurd (aget_mem.mp (by rw [q] <;> rfl)) h
theorem UpI.start (F : FitOk ns S h A) {i : Nat} (hi : sk[i]? = some (v1, x)) : UpI A S ns nm sk v1 A (some v1) := by
  refine ⟨F.nd, F.sub, F.inS, fun u => ?_, fun v hv => ?_, fun x hx => hx, (fun z => nomatch z)⟩
  · by_cases c : u = v1
    · subst c; rw [if_pos rfl, if_pos rfl]
    · rw [if_neg c, if_neg fun z => c (Option.some.inj z).symm]
  · obtain rfl := Option.some.inj hv
    exact ⟨i, x, hi, fun _ _ => rfl⟩
theorem UpI.step (E : SkE A S ns nm sk) (nn : nm ∉ A.map (·.1)) (U : UpI A S ns nm sk v1 M (some v)) : ∃ (i : Nat) (x : Str), sk[i]? = some (v, x) ∧ zget sk v = some x ∧ UpI A S ns nm sk v1 (putA M x v) (aget A x) ∧ ∀ w, aget A x = some w → ∃ (j : Nat) (y : Str), j < i ∧ sk[j]? = some (w, y) := by
  obtain ⟨i, x, hi, un⟩ := U.pos v rfl
  obtain ⟨e1, e2, e3⟩ := E.ent i v x hi
  have un' : aget M x = aget A x := by
    rcases e3 with z | ⟨j, w, y, ji, h1, h2⟩
    · exact un x (.inl (by rw [z]; exact aget_none nn))
    · exact un x (.inr ⟨j, w, y, ji, h1, h2⟩)
  refine ⟨i, x, hi, zget_at E.nd hi, ⟨putA_nd U.nd, fun y hy => ?_, fun y u hy => ?_, fun u => ?_, fun w hw => ?_, fun y hy => ?_, fun hn => ?_⟩, fun w hw => ?_⟩
  · rcases putA_mem.mp hy with z | z
    · rw [z]; exact e1
    · exact U.sub y z
  · rw [aget_put] at hy
    split at hy
    · next z => rw [← Option.some.inj hy, ← z]; exact e2
    · exact U.inS y u hy
  · have h1 := cnt_put U.nd x v u
    have h2 := U.cn u
    rw [un'] at h1
    by_cases c : u = v
    · subst c
      rw [if_pos rfl] at h1 h2
      omega
    · rw [if_neg c] at h1
      rw [if_neg fun z => c (Option.some.inj z).symm] at h2
      omega
  · rcases e3 with z | ⟨j, w', y, ji, h1, h2⟩
    · rw [z, aget_none nn] at hw; cases hw
    · rw [h1] at hw
      obtain rfl := Option.some.inj hw
      refine ⟨j, y, h2, fun t ht => ?_⟩
      have tx : x ≠ t := fun z => by
        subst z
        rcases ht with q | ⟨j', w2, z2, jj, q1, q2⟩
        · rw [h1] at q; cases q
        · rw [h1] at q1
          obtain rfl := Option.some.inj q1
          have k1 : (sk.map (·.1))[j]? = some w' := by rw [List.getElem?_map, h2] <;> rfl
          have k2 : (sk.map (·.1))[j']? = some w' := by rw [List.getElem?_map, q2] <;> rfl
          have := nd_ix E.nd k1 k2
          omega
      rw [aget_put, if_neg tx]
      refine un t (ht.imp_right ?_)
      rintro ⟨j', w2, z2, jj, q1, q2⟩
      exact ⟨j', w2, z2, by omega, q1, q2⟩
  · exact putA_mem.mpr (.inr (U.key y hy))
  · rcases e3 with z | ⟨j, w, y, ji, h1, h2⟩
    · rw [z]; exact putA_mem.mpr (.inl rfl)
    · rw [h1] at hn; cases hn
  · rcases e3 with z | ⟨j, w', y, ji, h1, h2⟩
    · rw [z, aget_none nn] at hw; cases hw
    · rw [h1] at hw
      obtain rfl := Option.some.inj hw
      exact ⟨j, y, ji, h2⟩
theorem UpI.done (F : FitOk ns S h A) (fr : free A h v1 = true) (U : UpI A S ns nm sk v1 M none) : FitOk ns S h M ∧ (∀ x ∈ A.map (·.1), x ∈ M.map (·.1)) ∧ nm ∈ M.map (·.1) := by
  refine ⟨⟨U.nd, U.sub, U.inS, fun u k hk => ?_⟩, U.key, U.end_ rfl⟩
  have h1 := U.cn u
  have h2 := F.le u k hk
  rw [if_neg fun z => nomatch z] at h1
  by_cases c : u = v1
  · subst c
    rw [if_pos rfl] at h1
    unfold free at fr
    rw [hk] at fr
    have := of_decide_eq_true fr
    unfold cnt at h1 h2 ⊢
    omega
  · rw [if_neg c] at h1
    omega
end
end K57
set_option Elab.async false
set_option linter.all false
set_option maxRecDepth 100000
set_option maxHeartbeats 4000000
/-! name = {k: v for ..} as a statement. -/
namespace Cs
open PySem PySem.Spec PyProof.Rows L2
end Cs
set_option Elab.async false
set_option linter.all false
set_option maxRecDepth 100000
set_option maxHeartbeats 4000000
namespace K57
open PySem PySem.Spec PyProof.Rows L2 Cs CsX
theorem zdget {β : Type} {g : β → V} {H : Hp} {d : Addr} {L : List (Int × β)} (h : H d = some (.dK (zK g L))) (v : Int) : DGet H d (.int v) ((zget L v).map g) :=
  .inl ⟨zK g L, .inl v, .inl h, rfl, (zval g v L).symm⟩
theorem zK_len {β : Type} (g : β → V) (L : List (Int × β)) : (zK g L).length = L.length := by unfold zK; rw [List.length_map]
def optV : Option Int → V
  | none => .non
  | some v => .int v
theorem optV_get (o : Option Int) : (o.map V.int).getD .non = optV o := by cases o <;> rfl
def Fit (L : List Ent) (ns : List Str) (S : Str → List Int) : Prop := ∀ x ∈ ns, look L x = some (S x)
theorem Fit.get {H : Hp} {b : Addr} {L : List Ent} {ns : List Str} {S : Str → List Int} (B : Bx H b L) (F : Fit L ns S) {x : Str} (hx : x ∈ ns) : ∃ a, DGet H b (.str x) (some (.ref a)) ∧ H a = some (.lst ((S x).map V.int)) := by
  have h := F x hx
  unfold look at h
  obtain ⟨e, he, e2⟩ := Option.map_eq_some_iff.mp h
  have g := B.get x
  rw [he] at g
  refine ⟨e.2.1, g, ?_⟩
  rw [← e2]; exact B.sides e (getE_mem he).1
theorem drop_at {α : Type} {xs : List α} {j : Nat} {a : α} (h : xs[j]? = some a) : xs.drop j = a :: xs.drop (j + 1) := by
  obtain ⟨h1, h2⟩ := List.getElem?_eq_some_iff.mp h
  rw [List.drop_eq_getElem_cons h1, h2]
theorem FitOk.few {ns : List Str} {S : Str → List Int} {h : Int → Option Int} {A : List (Str × Int)} (F : FitOk ns S h A) : A.length ≤ ns.length := by
  have := List.Nodup.length_le_of_subset F.nd fun x hx => F.sub x hx
  rwa [List.length_map] at this
section
variable {P : Program} {w : World} {K : PySem.W.Frag} {mg : Str → Option Value} {base : Heap}
abbrev sTk : Stmt := topS 3
abbrev nTk : List Str := ["fit", "value", "name"]
theorem scTk : FnScope nTk ["fit", "value"] (defScope sTk) := ⟨rfl, rfl, rfl, by decide +kernel, rfl, by decide +kernel, by decide +kernel⟩
def spTk : Sp := fun vs H Q _ => ∃ (d : Addr) (v : Int) (A : List (Str × Int)), vs = [.ref d, .int v] ∧ H d = some (.dK (intK A)) ∧ (A.map (·.1)).Nodup ∧ A.length ≤ 40 ∧
  ∀ (H' : Hp) (r : Addr), Same H H' → H r = none → H' r = some (.lst ((tk A v).map V.str)) → Q (.ref r) H'
theorem ok_Tk {f  : Addr} {fd  : FuncData} (F : Fun K "_takers" "_takers" sTk f fd) (B : Bt mg) :
    FnOk P w K mg base CX0 1 f fd ["fit", "value"] spTk := by
  refine F.ok scTk (fun vs H Q E h => ?_) (fun cdv A outer s H vs Q E hr h => ?_)
  · obtain ⟨d, v, A, rfl, _⟩ := h
    rfl
  · obtain ⟨d, v, A', rfl, ed, nA, few, q⟩ := h
    have hu := hu_of hr
    have nd := scTk.nd
    refine ⟨_, pss_one (ps_ret (pe_lock (pe_lc (own := [("name", 2)]) (g := gName 2) (tt := _) (te := tVar 2) rfl nd (pi_keys (pv 0)) (blkOk_by (N := nTk) (sc := defScope sTk) (by decide +kernel)) (fun _ _ _ _ _ => pg_name (i := 2) nd rfl (.inl rfl)) (fun _ _ _ _ _ => pts_one (pt_cmpR op_eq (pe_dget hu (pv 0) (pv 2) (fun _ _ => rfl)) (pv 1) rfl))
          (fun _ _ _ _ _ => (pv 2))))), ?_⟩
    refine ⟨d, _, ed, trivial, fun od => ?_⟩
    refine ⟨.ref d, rfl, d, od, rfl, .inl ⟨intK A', upd_same, fun D nD => lc_it walk_keys (fun i H' => Same (upd H d (.frz od (.dK (intK A')))) H' ∧ H' D = some (.lst ((((A'.take i).filter fun e => decide (e.2 = v)).map (·.1)).map V.str))) ⟨same_new nD, upd_same⟩ (fun i H' _ h => h.1 _ _ upd_same) ?_ ?_⟩⟩
    · rintro i x Hz H' hi ⟨sm, eD⟩ ⟨rfl, k1, v1, hk, rfl⟩
      obtain ⟨x, hx, rfl, rfl⟩ := keysI hk
      have xm := List.mem_of_getElem? hx
      have gx := (aget_iff nA x.1 x.2).mpr xm
      have gv := (Ax.get (H := H') (d := d) (A := A') ⟨.inr ⟨od, sm _ _ upd_same⟩⟩ x.1)
      rw [gx] at gv
      have fs := filter_snoc (p := fun e : Str × Int => decide (e.2 = v)) hx
      have fl := filter_len A' (fun e => decide (e.2 = v)) i
      refine ⟨rfl, _, rfl, _, rfl, d, .int x.2, rfl, gv, _, rfl, rfl, _, rfl, ite_both (fun c => ⟨_, rfl, _, eD, by rw [List.length_map, List.length_map]; exact small1000 (by omega), same_at sm nD, ?_⟩) fun c => ⟨sm, ?_⟩⟩
      · have c' : x.2 = v := V.int.inj (of_decide_eq_true c)
        rw [fs, if_pos (decide_eq_true c'), upd_same, List.map_append, List.map_append] <;> rfl
      · have c' : ¬ x.2 = v := fun z => of_decide_eq_false c (by rw [z])
        rw [fs, if_neg (by rw [decide_eq_false c']; decide), List.append_nil]; exact eD
    · rintro H' ⟨sm, eD⟩
      rw [intK_len, List.take_length] at eD
      have eF := sm _ _ (upd_same (H := H) (a := d) (o := HO.frz od (.dK (intK A'))))
      have nDe : D ≠ d := fun z => by rw [z, eF] at eD; cases eD
      refine ⟨eF, ?_⟩
      exact q _ D (unlock ed sm) (by have := nD; rwa [upd_ne nDe] at this) (by rw [upd_ne nDe]; exact eD)
abbrev sMu : Stmt := topS 6
abbrev nMu : List Str := ["fit", "seekers", "value", "moved", "seeker"]
theorem scMu : FnScope nMu ["fit", "seekers", "value"] (defScope sMu) := ⟨rfl, rfl, rfl, by decide +kernel, rfl, by decide +kernel, by decide +kernel⟩
def spMu : Sp := fun vs H Q _ => ∃ (d b : Addr) (v1 : Int) (A : List (Str × Int)) (sk : Sk) (S : Str → List Int) (ns : List Str) (nm : Str) (h : Int → Option Int) (i : Nat) (x : Str), vs = [.ref d, .ref b, .int v1] ∧ H d = some (.dK (intK A)) ∧ H b = some (.dK (zK V.str sk)) ∧ SkE A S ns nm sk ∧ FitOk ns S h A ∧ nm ∉ A.map (·.1) ∧ sk[i]? = some (v1, x) ∧ free A h v1 = true ∧ ns.length ≤ 40 ∧
  ∀ (H' : Hp) (r : Addr) (M : List (Str × Int)), Same H H' → H r = none → H' r = some (.dK (intK M)) → Up A sk A (some v1) M → FitOk ns S h M → (∀ x ∈ A.map (·.1), x ∈ M.map (·.1)) → nm ∈ M.map (·.1) → Q (.ref r) H'
theorem ok_Mu {f  : Addr} {fd  : FuncData} (F : Fun K "_moved_up" "_moved_up" sMu f fd) (B : Bt mg) :
    FnOk P w K mg base CX0 1 f fd ["fit", "seekers", "value"] spMu := by
  refine F.ok scMu (fun vs H Q E h => ?_) (fun cdv A outer s H vs Q E hr h => ?_)
  · obtain ⟨d, b, v1, A, sk, S, ns, nm, h, i, x, rfl, _⟩ := h
    rfl
  · obtain ⟨d, b, v1, A', sk, S, ns, nm, h, i, x, rfl, ed, eb, E1, F1, nn, hi, fr, few, q⟩ := h
    have hu := hu_of hr
    have nd := scMu.nd
    refine ⟨_, pss_cons (ps_set (i := 3) nd rfl (.inl rfl) (pe_callTy call_dictD (by rfl) B.dict PyProof.Rows.boot_dict (pa_cons (pv 0) pa_nil)))
      (pss_cons (ps_while PassesOwn.never (pt_cmp (pc_notN (pv 2)))
        (pss_cons (ps_set (i := 4) nd rfl (.inl rfl) (pe_dget hu (pv 1) (pv 2) (fun _ _ => rfl)))
          (pss_cons (ps_dput hu (pv 3) (pv 4) (pv 2) rfl)
          (pss_one (ps_set (i := 2) nd rfl (.inl rfl) (pe_dget1 hu (pv 0) (pv 4) ⟨rfl, rfl, rfl, rfl⟩))))))
      (pss_one (ps_ret (pv 3)))), ?_⟩
    refine ⟨_, rfl, d, _, rfl, .inl ed, fun R nR => ?_⟩
    refine ⟨fun n σ H' => ∃ (M : List (Str × Int)) (pv : Option Int) (y4 : Option V), ((pv = none ∧ n = 0) ∨ ∃ (v : Int) (i : Nat) (x : Str), pv = some v ∧ sk[i]? = some (v, x) ∧ n = i + 1) ∧ σ = [some (.ref d), some (.ref b), some (optV pv), some (.ref R), y4] ∧ Same H H' ∧ H' R = some (.dK (intK M)) ∧ UpI A' S ns nm sk v1 M pv ∧ ∀ N, Up A' sk M pv N → Up A' sk A' (some v1) N,
      ⟨_, A', some v1, none, .inr ⟨v1, i, x, rfl, hi, rfl⟩, rfl, same_new nR, upd_same, UpI.start F1 hi, fun N h => h⟩, ?_⟩
    rintro n σ H1 ⟨M, pv, y4, hn, rfl, s1, eR, U, up⟩
    cases pv with
    | none =>
      refine ⟨_, rfl, _, rfl, ?_⟩
      refine ite_both (fun c => absurd c (by decide)) fun _ => ?_
      obtain ⟨f1, f2, f3⟩ := U.done F1 fr
      exact ⟨_, rfl, q _ R M s1 nR eR (up M .done) f1 f2 f3⟩
    | some v =>
      obtain ⟨j, y, hj, zg, U2, low⟩ := U.step E1 nn
      have hn' : n = j + 1 := by
        rcases hn with ⟨z, _⟩ | ⟨v', i', x', z, h1, h2⟩
        · cases z
        · obtain rfl := Option.some.inj z
          have k1 : (sk.map (·.1))[j]? = some v := by rw [List.getElem?_map, hj] <;> rfl
          have k2 : (sk.map (·.1))[i']? = some v := by rw [List.getElem?_map, h1] <;> rfl
          have := nd_ix E1.nd k1 k2
          omega
      refine ⟨_, rfl, _, rfl, ?_⟩
      refine ite_both (fun _ => ?_) fun c => absurd c (by rw [show decide (optV (some v) = V.non) = false from decide_eq_false (fun z => nomatch z)]; decide)
      refine ⟨fun σ' H' => ∃ (n' : Nat) (M : List (Str × Int)) (pv : Option Int) (y4 : Option V), n' < n ∧ ((pv = none ∧ n' = 0) ∨ ∃ (v : Int) (i : Nat) (x : Str), pv = some v ∧ sk[i]? = some (v, x) ∧ n' = i + 1) ∧ σ' = [some (.ref d), some (.ref b), some (optV pv), some (.ref R), y4] ∧ Same H H' ∧ H' R = some (.dK (intK M)) ∧ UpI A' S ns nm sk v1 M pv ∧ ∀ N, Up A' sk M pv N → Up A' sk A' (some v1) N, ?_, ?_⟩
      · rintro σ' H' ⟨n', M', pv', y4', h1, h2, h3, h4, h5, h6, h7⟩
        exact ⟨n', h1, M', pv', y4', h2, h3, h4, h5, h6, h7⟩
      have gb := zdget (s1 _ _ eb) v
      rw [zg] at gb
      have lM : M.length ≤ ns.length := by
        have := List.Nodup.length_le_of_subset U.nd fun x hx => U.sub x hx
        rwa [List.length_map] at this
      refine ⟨_, rfl, _, rfl, b, .str y, rfl, gb, ?_⟩
      refine ⟨_, rfl, _, rfl, _, rfl, R, _, rfl, DPut.k (k := .inr y) eR (by rw [intK_len]; exact small1000 (by omega)), ?_⟩
      rw [show putK (intK M) (Sum.inr y) (optV (some v)) = intK (putA M y v) from putK_int M y v]
      have s2 := same_at s1 nR (o := HO.dK (intK (putA M y v)))
      have gd := Ax.get (H := upd H1 R (.dK (intK (putA M y v)))) (d := d) (A := A') ⟨.inl (s2 _ _ ed)⟩ y
      refine ⟨_, rfl, d, rfl, .inl ⟨_, .inl (s2 _ _ ed)⟩, _, rfl, _, gd, ?_⟩
      rw [optV_get]
      refine ⟨(match aget A' y with | none => 0 | some w => (sk.map (·.1)).idxOf w + 1), putA M y v, aget A' y, _, ?_, ?_, rfl, s2, upd_same, U2, fun N h => up N (.step zg h)⟩
      · cases e : aget A' y with
        | none => show 0 < n; omega
        | some w =>
          obtain ⟨j', y', jl, h2⟩ := low w e
          have k2 : (sk.map (·.1))[j']? = some w := by rw [List.getElem?_map, h2] <;> rfl
          have wm := List.mem_of_getElem? k2
          have k1 : (sk.map (·.1))[(sk.map (·.1)).idxOf w]? = some w := by
            rw [List.getElem?_eq_getElem (List.idxOf_lt_length_of_mem wm), List.getElem_idxOf]
          have := nd_ix E1.nd k1 k2
          show (sk.map (·.1)).idxOf w + 1 < n
          omega
      · cases e : aget A' y with
        | none => exact .inl ⟨rfl, rfl⟩
        | some w =>
          obtain ⟨j', y', jl, h2⟩ := low w e
          have k2 : (sk.map (·.1))[j']? = some w := by rw [List.getElem?_map, h2] <;> rfl
          have wm := List.mem_of_getElem? k2
          have k1 : (sk.map (·.1))[(sk.map (·.1)).idxOf w]? = some w := by
            rw [List.getElem?_eq_getElem (List.idxOf_lt_length_of_mem wm), List.getElem_idxOf]
          have := nd_ix E1.nd k1 k2
          exact .inr ⟨w, j', y', rfl, h2, by show (sk.map (·.1)).idxOf w + 1 = j' + 1; rw [this]⟩
end
end K57
set_option Elab.async false
set_option linter.all false
set_option maxRecDepth 100000
set_option maxHeartbeats 4000000
namespace K57
open PySem PySem.Spec PyProof.Rows L2 Cs CsX
theorem seek_old {A : List (Str × Int)} {h : Int → Option Int} {x : Str} {c : List Str} {k : Sk} {v : Int} {vs : List Int} (m : v ∈ k.map (·.1)) : seek A h x (c, k) (v :: vs) = seek A h x (c, k) vs := by
  show (if v ∈ k.map (·.1) then _ else _) = _
  rw [if_pos m]
theorem seek_free {A : List (Str × Int)} {h : Int → Option Int} {x : Str} {c : List Str} {k : Sk} {v : Int} {vs : List Int} (m : v ∉ k.map (·.1)) (f : free A h v = true) : seek A h x (c, k) (v :: vs) = .inl (k ++ [(v, x)], v) := by
  show (if v ∈ k.map (·.1) then _ else if free A h v = true then _ else _) = _
  rw [if_neg m, if_pos f]
theorem seek_add {A : List (Str × Int)} {h : Int → Option Int} {x : Str} {c : List Str} {k : Sk} {v : Int} {vs : List Int} (m : v ∉ k.map (·.1)) (f : free A h v = false) : seek A h x (c, k) (v :: vs) = seek A h x (c ++ tk A v, k ++ [(v, x)]) vs := by
  show (if v ∈ k.map (·.1) then _ else if free A h v = true then _ else _) = _
  rw [if_neg m, if_neg (by rw [f]; decide)]
theorem Fit.ent {L : List Ent} {ns : List Str} {S : Str → List Int} (F : Fit L ns S) {x : Str} (hx : x ∈ ns) : ∃ e, getE L x = some e ∧ e ∈ L ∧ e.2.2 = S x := by
  have h := F x hx
  unfold look at h
  obtain ⟨e, he, e2⟩ := Option.map_eq_some_iff.mp h
  exact ⟨e, he, (getE_mem he).1, e2⟩
section
variable {P : Program} {w : World} {K : PySem.W.Frag} {mg : Str → Option Value} {base : Heap}
abbrev sWn : Stmt := topS 5
abbrev nWn : List Str := ["box", "highs", "fit", "name", "crowd", "seekers", "place", "seeker", "value", "takers"]
theorem scWn : FnScope nWn ["box", "highs", "fit", "name"] (defScope sWn) := ⟨rfl, rfl, rfl, by decide +kernel, rfl, by decide +kernel, by decide +kernel⟩
def spWn : Sp := fun vs H Q _ => ∃ (b hd d : Addr) (nm : Str) (L : List Ent) (Hs : List (Int × Int)) (A : List (Str × Int)) (S : Str → List Int) (ns : List Str) (P : List Int), vs = [.ref b, .ref hd, .ref d, .str nm] ∧ Bx H b L ∧ Fit L ns S ∧ H hd = some (.dK (zK V.int Hs)) ∧ H d = some (.dK (intK A)) ∧ FitOk ns S (zget Hs) A ∧ nm ∉ A.map (·.1) ∧ nm ∈ ns ∧ ns.length ≤ 40 ∧ P.length ≤ 1000 ∧ (∀ x ∈ ns, ∀ v ∈ S x, v ∈ P) ∧
  (∀ (H' : Hp) (T r : Addr) (c : List Str), Same H H' → H T = none → H' T = some (.tup [.str "crowd", .ref r]) → H r = none → H' r = some (.lst (c.map V.str)) → Wit A (zget Hs) S nm (.inr c) → Crowd (zget Hs) S ns c → Q (.ref T) H') ∧
  (∀ (H' : Hp) (T r : Addr) (M : List (Str × Int)), Same H H' → H T = none → H' T = some (.tup [.str "fit", .ref r]) → H r = none → H' r = some (.dK (intK M)) → Wit A (zget Hs) S nm (.inl M) → FitOk ns S (zget Hs) M → (∀ x ∈ A.map (·.1), x ∈ M.map (·.1)) → nm ∈ M.map (·.1) → Q (.ref T) H')
theorem ok_Wn {f f0 f1 : Addr} {fd fd0 fd1 : FuncData} (F : Fun K "_with_name" "_with_name" sWn f fd) (B : Bt mg) (CTk : Call P w K mg base 1 "_takers" f0 fd0 ["fit", "value"] spTk) (CMu : Call P w K mg base 1 "_moved_up" f1 fd1 ["fit", "seekers", "value"] spMu) :
    FnOk P w K mg base CX0 2 f fd ["box", "highs", "fit", "name"] spWn := by
  refine F.ok scWn (fun vs H Q E h => ?_) (fun cdv A outer s H vs Q E hr h => ?_)
  · obtain ⟨b, hd, d, nm, L, Hs, A, S, ns, PP, rfl, _⟩ := h
    rfl
  · obtain ⟨b, hd, d, nm, L, Hs, A', S, ns, PP, rfl, bx, F1, eh, ed, fo, nn, nin, few, pp, inP, q1, q2⟩ := h
    have hu := hu_of hr
    have nd := scWn.nd
    refine ⟨_, pss_cons (ps_set (i := 4) nd rfl (.inl rfl) (pe_lst (pa_cons (pv 3) pa_nil)))
      (pss_cons (ps_set (i := 5) nd rfl (.inl rfl) pe_dnewK)
      (pss_cons (ps_set (i := 6) nd rfl (.inl rfl) pe_int)
      (pss_cons (ps_while PassesOwn.never (pt_cmpR op_lt (pv 6) (pe_callB call_len_seq (by rfl) B.len PySem.boot_len (pa_cons (pv 4) pa_nil)) rfl)
        (pss_cons (ps_set (i := 7) nd rfl (.inl rfl) (pe_ix ix_list (pv 4) (pv 6) (fun _ _ => rfl)))
          (pss_cons (ps_for PassesOwn.never rfl (pi_list (pe_dget hu (pv 0) (pv 7) (fun _ _ => rfl))) (pg_name (i := 8) nd rfl (.inl rfl))
            (pss_one (ps_if (pt_cmp (pc_dnotin hu (pv 8) (pv 5)))
                (pss_cons (ps_dput hu (pv 5) (pv 8) (pv 7) rfl)
                  (pss_cons (ps_set (i := 9) nd rfl (.inl rfl) (pe_call CTk.ok (hr.mono (by decide)) (by rfl) CTk.at_ CTk.kp CTk.bd .nil pass0 (pa_cons (pv 2) (pa_cons (pv 8) pa_nil))))
                  (pss_cons (ps_if (PW.pt (pw_or (pt_cmp (pc_dnotin hu (pv 8) (pv 1))) (pw_or1 (pt_cmpR op_lt (pe_callB call_len_seq (by rfl) B.len PySem.boot_len (pa_cons (pv 9) pa_nil)) (pe_dget hu (pv 1) (pv 8) (fun _ _ => rfl)) rfl))))
                    (pss_one (ps_ret (pe_tup (pa_cons pe_str (pa_cons (pe_call CMu.ok (hr.mono (by decide)) (by rfl) CMu.at_ CMu.kp CMu.bd .nil pass0 (pa_cons (pv 2) (pa_cons (pv 5) (pa_cons (pv 8) pa_nil)))) pa_nil)))))
                    pss_nil)
                  (pss_one (ps_expr (pe_bm PySem.F.plainAttrs_list PySem.F.slot_list_extend PySem.F.type_list_extend mt_extend (pv 4) (pa_cons (pv 9) pa_nil)))))))
                pss_nil)))
          (pss_one (ps_aug (i := 6) nd rfl (.inl rfl) pe_int ip_add)))))
      (pss_one (ps_ret (pe_tup (pa_cons pe_str (pa_cons (pv 4) pa_nil)))))))), ?_⟩
    have fA := fo.few
    refine ⟨_, rfl, by show 1 ≤ sizeLine; decide, fun C nC => ?_⟩
    have t1 := same_new (o := HO.lst [V.str nm]) nC
    refine fun Kd nK => ?_
    have t2 := same_new (o := HO.dK []) nK
    have CK : C ≠ Kd := fun z => by rw [← z, upd_same] at nK; cases nK
    have nKH := t1.free nK
    have e0 : (upd (upd H C (.lst [V.str nm])) Kd (.dK [])) C = some (.lst (([nm] : List Str).map V.str)) := by rw [upd_ne CK, upd_same] <;> rfl
    have k0 : (upd (upd H C (.lst [V.str nm])) Kd (.dK [])) Kd = some (.dK (zK V.str [])) := upd_same
    have s0 := t1.trans t2
    generalize upd (upd H C (.lst [V.str nm])) Kd (.dK []) = H0 at e0 k0 s0 ⊢
    clear t1 t2 nK
    refine ⟨fun n σ H' => ∃ (c : List Str) (k : Sk) (p : Nat) (y7 y8 y9 : Option V), n = ns.length + 1 - p ∧ p ≤ c.length ∧ σ = [some (.ref b), some (.ref hd), some (.ref d), some (.str nm), some (.ref C), some (.ref Kd), some (.int (p : Int)), y7, y8, y9] ∧ Same H H' ∧ H' C = some (.lst (c.map V.str)) ∧ H' Kd = some (.dK (zK V.str k)) ∧ SkOk A' (zget Hs) S ns nm c k ∧ (∀ i x, i < p → c[i]? = some x → ∀ v ∈ S x, v ∈ k.map (·.1)) ∧ ∀ r, Run A' (zget Hs) S (c, k) p r → Run A' (zget Hs) S ([nm], []) 0 r,
      ⟨_, [nm], [], 0, none, none, none, rfl, Nat.zero_le _, rfl, s0, e0, k0, .start nin, fun i x h => absurd h (by omega), fun r h => h⟩, ?_⟩
    rintro n σ H1 ⟨c, k, p, y7, y8, y9, rfl, pc, rfl, s1, eC, eK, I, old, run⟩
    have cle : c.length ≤ ns.length := List.Nodup.length_le_of_subset I.cnd fun x hx => I.csub x hx
    refine ⟨_, rfl, _, rfl, C, _, rfl, .inl (sl_map eC), _, _, rfl, rfl, _, rfl, ite_both (fun c1 => ?_) fun c1 => ?_⟩
    · have pl := of_decide_eq_true c1
      rw [List.length_map] at pl
      have pl' : p < c.length := by omega
      obtain ⟨x, hx⟩ : ∃ x, c[p]? = some x := ⟨_, List.getElem?_eq_getElem pl'⟩
      have xc := List.mem_of_getElem? hx
      have xn := I.csub x xc
      refine ⟨fun σ' H' => ∃ (c' : List Str) (k' : Sk) (p' : Nat) (y7 y8 y9 : Option V), p' = p + 1 ∧ p' ≤ c'.length ∧ σ' = [some (.ref b), some (.ref hd), some (.ref d), some (.str nm), some (.ref C), some (.ref Kd), some (.int (p' : Int)), y7, y8, y9] ∧ Same H H' ∧ H' C = some (.lst (c'.map V.str)) ∧ H' Kd = some (.dK (zK V.str k')) ∧ SkOk A' (zget Hs) S ns nm c' k' ∧ (∀ i x, i < p' → c'[i]? = some x → ∀ v ∈ S x, v ∈ k'.map (·.1)) ∧ ∀ r, Run A' (zget Hs) S (c', k') p' r → Run A' (zget Hs) S ([nm], []) 0 r, ?_, ?_⟩
      · rintro σ' H' ⟨c', k', p', y7, y8, y9, h1, h2⟩
        exact ⟨_, by omega, c', k', p', y7, y8, y9, rfl, h2⟩
      refine ⟨_, rfl, _, rfl, C, _, _, .str x, rfl, rfl, sl_map eC, atI_nat (j := p) (by rw [List.getElem?_map, hx] <;> rfl), ?_⟩
      obtain ⟨e, ge, em, eS⟩ := F1.ent xn
      have ga := (bx.same s1).get x
      rw [ge] at ga
      have ea : ∀ {H' : Hp}, Same H H' → H' e.2.1 = some (.lst ((S x).map V.int)) := fun s' => by
        have := (bx.same s').sides e em
        rwa [eS] at this
      refine ⟨_, rfl, _, rfl, b, .ref e.2.1, rfl, ga, e.2.1, rfl, ⟨_, sl_map (ea s1)⟩, for_list (xs := (S x).map V.int) (fun j σ' H' => ∃ (c' : List Str) (k' : Sk) (y8 y9 : Option V), σ' = [some (.ref b), some (.ref hd), some (.ref d), some (.str nm), some (.ref C), some (.ref Kd), some (.int (p : Int)), some (.str x), y8, y9] ∧ Same H H' ∧ H' C = some (.lst (c'.map V.str)) ∧ H' Kd = some (.dK (zK V.str k')) ∧ SkOk A' (zget Hs) S ns nm c' k' ∧ c'[p]? = some x ∧ (∀ i x, i < p → c'[i]? = some x → ∀ v ∈ S x, v ∈ k'.map (·.1)) ∧ (∀ v ∈ (S x).take j, v ∈ k'.map (·.1)) ∧ seek A' (zget Hs) x (c, k) (S x) = seek A' (zget Hs) x (c', k') ((S x).drop j))
        ⟨c, k, y8, y9, rfl, s1, eC, eK, I, hx, old, (fun _ h => nomatch h), rfl⟩ (fun j σ' H' _ h => by obtain ⟨_, _, _, _, _, s', _⟩ := h; exact sl_map (ea s')) ?_ ?_⟩
      · clear old I eC eK
        rintro j z σ3 H3 hz ⟨c', k', y8, y9, rfl, s3, eC, eK, I, hx', old, tak, sek⟩
        rw [List.getElem?_map] at hz
        obtain ⟨v, hv, rfl⟩ := Option.map_eq_some_iff.mp hz
        rw [drop_at hv] at sek
        have vS := List.mem_of_getElem? hv
        have xc' := List.mem_of_getElem? hx'
        have c'le : c'.length ≤ ns.length := List.Nodup.length_le_of_subset I.cnd fun x hx => I.csub x hx
        have pl2 := (List.getElem?_eq_some_iff.mp hx').1
        have kle : k'.length ≤ 10000 := by
          have := List.Nodup.length_le_of_subset I.nd (l₂ := PP) fun w hw => by
            obtain ⟨y, hy, hw2⟩ := I.by_ w hw
            exact inP y (I.csub y hy) w hw2
          rw [List.length_map] at this
          omega
        refine ⟨_, rfl, _, rfl, Kd, _, rfl, zdget eK v, _, rfl, ite_both (fun cn => ?_) fun cn => ?_⟩
        · have nv : v ∉ k'.map (·.1) := fun z => by
            have := zmem.mpr z
            cases q : zget k' v with
            | none => rw [q] at this; cases this
            | some y => rw [q] at cn; cases cn
          refine ⟨_, rfl, _, rfl, _, rfl, Kd, _, rfl, DPut.k (k := .inl v) eK (by rw [zK_len]; exact small10k kle), ?_⟩
          rw [show putK (zK V.str k') (Sum.inl v) (V.str x) = zK V.str (k' ++ [(v, x)]) by rw [zput, putZ_new nv]]
          have s4 := same_at s3 nKH (o := HO.dK (zK V.str (k' ++ [(v, x)])))
          have eC4 : (upd H3 Kd (.dK (zK V.str (k' ++ [(v, x)])))) C = some (.lst (c'.map V.str)) := by rw [upd_ne CK]; exact eC
          have eK4 : (upd H3 Kd (.dK (zK V.str (k' ++ [(v, x)])))) Kd = some (.dK (zK V.str (k' ++ [(v, x)]))) := upd_same
          generalize upd H3 Kd (.dK (zK V.str (k' ++ [(v, x)]))) = H4 at s4 eC4 eK4 ⊢
          refine ⟨_, rfl, _, rfl, d, v, A', rfl, s4 _ _ ed, fo.nd, by omega, fun H5 Tl s5 nT eT => ?_⟩
          have s45 := s4.trans s5
          have eC5 := s5 _ _ eC4
          have eK5 := s5 _ _ eK4
          have gh := zdget (g := V.int) (s45 _ _ eh) v
          have i5 : (k' ++ [(v, x)])[k'.length]? = some (v, x) := by rw [List.getElem?_append_right (Nat.le_refl _), Nat.sub_self] <;> rfl
          cases hz : zget Hs v with
          | none =>
            rw [hz] at gh
            have fr : free A' (zget Hs) v = true := by unfold free; rw [hz]
            refine ⟨_, rfl, _, rfl, hd, _, rfl, gh, _, rfl, iteT ?_⟩
            rw [seek_free nv fr] at sek
            refine ⟨_, rfl, _, rfl, _, rfl, d, Kd, v, A', k' ++ [(v, x)], S, ns, nm, zget Hs, k'.length, x, rfl, s45 _ _ ed, eK5, I.found xc' vS nv, fo, nn, i5, fr, few, fun H6 r M s6 nr er up fM kM nM => ⟨by show 2 ≤ sizeLine; decide, fun T nT6 => ?_⟩⟩
            have t := same_new (o := HO.tup [.str "fit", .ref r]) nT6
            exact q2 _ T r M (s45.trans (s6.trans t)) ((s45.trans s6).free nT6) upd_same (s45.free nr) (t _ _ er) (.fit (run _ (.found hx sek)) up) fM kM nM
          | some kk =>
            rw [hz] at gh
            refine ⟨_, rfl, _, rfl, hd, _, rfl, gh, _, rfl, iteF ?_⟩
            refine ⟨_, rfl, Tl, _, rfl, .inl (sl_map eT), _, rfl, _, rfl, hd, .int kk, rfl, gh, _, _, rfl, rfl, _, rfl, ite_both (fun c3 => ?_) fun c3 => ?_⟩
            · have c3' := of_decide_eq_true c3
              rw [List.length_map] at c3'
              have fr : free A' (zget Hs) v = true := by unfold free; rw [hz]; exact decide_eq_true c3'
              rw [seek_free nv fr] at sek
              refine ⟨_, rfl, _, rfl, _, rfl, d, Kd, v, A', k' ++ [(v, x)], S, ns, nm, zget Hs, k'.length, x, rfl, s45 _ _ ed, eK5, I.found xc' vS nv, fo, nn, i5, fr, few, fun H6 r M s6 nr er up fM kM nM => ⟨by show 2 ≤ sizeLine; decide, fun T nT6 => ?_⟩⟩
              have t := same_new (o := HO.tup [.str "fit", .ref r]) nT6
              exact q2 _ T r M (s45.trans (s6.trans t)) ((s45.trans s6).free nT6) upd_same (s45.free nr) (t _ _ er) (.fit (run _ (.found hx sek)) up) fM kM nM
            · have c3' := of_decide_eq_false c3
              rw [List.length_map] at c3'
              have fr : free A' (zget Hs) v = false := by unfold free; rw [hz]; exact decide_eq_false c3'
              have I5 := I.add fo nn xc' vS nv fr
              have le5 : (c' ++ tk A' v).length ≤ ns.length := List.Nodup.length_le_of_subset I5.cnd fun x hx => I5.csub x hx
              rw [seek_add nv fr] at sek
              have CT : C ≠ Tl := fun z => by rw [z] at eC4; rw [eC4] at nT; cases nT
              have TK : Kd ≠ C := CK.symm
              refine ⟨_, rfl, .inl ⟨rfl, _, sl_map eC5⟩, _, rfl, C, Tl, _, _, rfl, rfl, eC5, eT, ?_, c' ++ tk A' v, k' ++ [(v, x)], _, _, rfl, same_at s45 nC, by rw [upd_same, List.map_append], by rw [upd_ne TK]; exact eK5, I5, ?_, fun i y hi hy => ?_, fun u hu => ?_, sek⟩
              · rw [List.length_map, List.length_map]
                rw [List.length_append] at le5
                exact Nat.le_of_lt (small1000 (by omega))
              · rw [List.getElem?_append_left pl2]; exact hx'
              · rw [List.getElem?_append_left (by omega)] at hy
                intro u hu
                rw [List.map_append]
                exact List.mem_append_left _ (old i y hi hy u hu)
              · rw [take_snoc hv] at hu
                rw [List.map_append]
                rcases List.mem_append.mp hu with h | h
                · exact List.mem_append_left _ (tak u h)
                · rw [List.mem_singleton.mp h]; exact List.mem_append_right _ (List.mem_singleton.mpr rfl)
        · have nv : v ∈ k'.map (·.1) := by
            refine Decidable.byContradiction fun z => ?_
            have : zget k' v = none := by
              cases q : zget k' v with
              | none => rfl
              | some y => exact absurd (zmem.mp (by rw [q] <;> rfl)) z
            rw [this] at cn; cases cn
          rw [seek_old nv] at sek
          refine ⟨c', k', _, y9, rfl, s3, eC, eK, I, hx', old, fun u hu => ?_, sek⟩
          rw [take_snoc hv] at hu
          rcases List.mem_append.mp hu with h | h
          · exact tak u h
          · rw [List.mem_singleton.mp h]; exact nv
      · rintro σ3 H3 ⟨c', k', y8, y9, rfl, s3, eC, eK, I, hx', old, tak, sek⟩
        rw [List.length_map, List.take_length] at tak
        rw [List.length_map, List.drop_length] at sek
        have pl2 := (List.getElem?_eq_some_iff.mp hx').1
        refine ⟨_, rfl, _, _, rfl, rfl, c', k', p + 1, _, y8, y9, rfl, by omega, rfl, s3, eC, eK, I, fun i y hi hy => ?_, fun r h => run r (.more hx sek h)⟩
        rcases Nat.lt_or_ge i p with q | q
        · exact old i y q hy
        · rw [show i = p by omega, hx'] at hy
          rw [← Option.some.inj hy]; exact tak
    · have pl := of_decide_eq_false c1
      rw [List.length_map] at pl
      have pl' : c.length ≤ p := by omega
      have cr := I.crowd fun x hx v hv => by
        obtain ⟨i, hi⟩ := List.mem_iff_getElem?.mp hx
        exact old i x (by have := (List.getElem?_eq_some_iff.mp hi).1; omega) hi v hv
      refine ⟨_, rfl, by show 2 ≤ sizeLine; decide, fun T nT => ?_⟩
      have t := same_new (o := HO.tup [.str "crowd", .ref C]) nT
      exact q1 _ T C c (s1.trans t) (s1.free nT) upd_same nC (t _ _ eC) (.crowd (run _ (.stop pl'))) cr
end
end K57
set_option Elab.async false
set_option linter.all false
set_option maxRecDepth 100000
set_option maxHeartbeats 4000000
namespace K57
open PySem PySem.Spec PyProof.Rows L2 Cs CsX
/-- a box of sides and numbers for them -/
structure Wd (L : List Ent) (S : Str → List Int) (Hs : List (Int × Int)) (P : List Int) : Prop where
  fit : Fit L (L.map (·.1)) S
  pp : P.length ≤ 1000
  inP : ∀ x ∈ L.map (·.1), ∀ v ∈ S x, v ∈ P
  pos : ∀ v k, zget Hs v = some k → 0 ≤ k
theorem FitOk.start (ns : List Str) (S : Str → List Int) {h : Int → Option Int} (pos : ∀ v k, h v = some k → 0 ≤ k) : FitOk ns S h [] :=
  ⟨List.Pairwise.nil, (fun _ h => nomatch h), (fun _ _ h => nomatch h), fun v k hk => by show ((0 : Nat) : Int) ≤ k; have := pos v k hk; omega⟩
section
variable {P : Program} {w : World} {K : PySem.W.Frag} {mg : Str → Option Value} {base : Heap}
abbrev sGr : Stmt := topS 4
abbrev nGr : List Str := ["box", "highs", "start", "fit", "name", "word", "content"]
theorem scGr : FnScope nGr ["box", "highs", "start"] (defScope sGr) := ⟨rfl, rfl, rfl, by decide +kernel, rfl, by decide +kernel, by decide +kernel⟩
def spGr : Sp := fun vs H Q _ => ∃ (b hd d : Addr) (L : List Ent) (Hs : List (Int × Int)) (S : Str → List Int) (P : List Int), vs = [.ref b, .ref hd, .ref d] ∧ Bu H b L ∧ H hd = some (.dK (zK V.int Hs)) ∧ H d = some (.dK []) ∧ b ≠ hd ∧ Wd L S Hs P ∧
  (∀ (H' : Hp) (T r : Addr) (c : List Str), Same H H' → H T = none → H' T = some (.tup [.str "crowd", .ref r]) → H r = none → H' r = some (.lst (c.map V.str)) → Grow (zget Hs) S (L.map (·.1)) [] (.inr c) → Crowd (zget Hs) S (L.map (·.1)) c → Q (.ref T) H') ∧
  (∀ (H' : Hp) (T r : Addr) (M : List (Str × Int)), Same H H' → H T = none → H' T = some (.tup [.str "fit", .ref r]) → H r = none → H' r = some (.dK (intK M)) → Grow (zget Hs) S (L.map (·.1)) [] (.inl M) → FitOk (L.map (·.1)) S (zget Hs) M → (∀ x ∈ L.map (·.1), x ∈ M.map (·.1)) → Q (.ref T) H')
theorem ok_Gr {f f0 : Addr} {fd fd0 : FuncData} (F : Fun K "_grown" "_grown" sGr f fd) (B : Bt mg) (CWn : Call P w K mg base 2 "_with_name" f0 fd0 ["box", "highs", "fit", "name"] spWn) :
    FnOk P w K mg base CX0 3 f fd ["box", "highs", "start"] spGr := by
  refine F.ok scGr (fun vs H Q E h => ?_) (fun cdv A outer s H vs Q E hr h => ?_)
  · obtain ⟨b, hd, d, L, Hs, S, P, rfl, _⟩ := h
    rfl
  · obtain ⟨b, hd, d, L, Hs, S, PP, rfl, bx, eh, ed, bhd, W, q1, q2⟩ := h
    have hu := hu_of hr
    have nd := scGr.nd
    refine ⟨_, pss_cons (ps_set (i := 3) nd rfl (.inl rfl) (pe_callTy call_dictD (by rfl) B.dict PyProof.Rows.boot_dict (pa_cons (pv 2) pa_nil)))
      (pss_cons (ps_lock (ps_for PassesOwn.never rfl (pi_keys (pv 0)) (pg_name (i := 4) nd rfl (.inl rfl))
        (pss_one (ps_if (pt_cmp (pc_dnotin hu (pv 4) (pv 3)))
            (pss_cons (ps_asg (pe_call CWn.ok (hr.mono (by decide)) (by rfl) CWn.at_ CWn.kp CWn.bd .nil pass0 (pa_cons (pv 0) (pa_cons (pv 1) (pa_cons (pv 3) (pa_cons (pv 4) pa_nil))))) (pg_tup (by rfl) (pgs_cons (pg_name (i := 5) nd rfl (.inl rfl)) (pgs_cons (pg_name (i := 6) nd rfl (.inl rfl)) pgs_nil))))
              (pss_cons (ps_if (pt_cmpR op_eq (pv 5) pe_str rfl)
                (pss_one (ps_ret (pe_tup (pa_cons pe_str (pa_cons (pv 6) pa_nil)))))
                pss_nil)
              (pss_one (ps_set (i := 3) nd rfl (.inl rfl) (pv 6)))))
            pss_nil))))
      (pss_one (ps_ret (pe_tup (pa_cons pe_str (pa_cons (pv 3) pa_nil)))))), ?_⟩
    have few := bx.few
    obtain ⟨ns, hns⟩ : ∃ ns, ns = L.map (·.1) := ⟨_, rfl⟩
    have lns : ns.length = L.length := by rw [hns, List.length_map]
    rw [← hns] at q1 q2
    have fitN : Fit L ns S := by rw [hns]; exact W.fit
    have inP : ∀ x ∈ ns, ∀ v ∈ S x, v ∈ PP := by rw [hns]; exact W.inP
    refine ⟨_, rfl, d, _, rfl, .inl ed, fun F nF => ?_⟩
    have s0 := same_new (o := HO.dK []) nF
    have eF0 : (upd H F (.dK [])) F = some (.dK (intK [])) := upd_same
    have bx0 := bx.same' s0
    have eh0 := s0 _ _ eh
    have bF : b ≠ F := fun z => by have := bx.un; rw [z, nF] at this; cases this
    generalize upd H F (.dK []) = H0 at s0 eF0 bx0 eh0 ⊢
    refine ⟨b, _, bx0.un, trivial, fun od => ?_⟩
    have bxl := bx0.toBx.lock (od := od) bx0.un
    refine ⟨.ref b, rfl, b, od, rfl, .inl ⟨entK L, upd_same, for_it walk_keys (fun i σ H' => ∃ (A : List (Str × Int)) (F : Addr) (y4 y5 y6 : Option V), σ = [some (.ref b), some (.ref hd), some (.ref d), some (.ref F), y4, y5, y6] ∧ Same (upd H0 b (.frz od (.dK (entK L)))) H' ∧ H' F = some (.dK (intK A)) ∧ H F = none ∧ FitOk ns S (zget Hs) A ∧ (∀ x ∈ ns.take i, x ∈ A.map (·.1)) ∧ ∀ r, Grow (zget Hs) S (ns.drop i) A r → Grow (zget Hs) S ns [] r)
      ⟨[], F, none, none, none, rfl, (fun _ _ h => h), by rw [upd_ne bF.symm]; exact eF0, nF, FitOk.start ns S W.pos, (fun _ h => nomatch h), fun r h => h⟩ (fun i σ H' _ h => by obtain ⟨_, _, _, _, _, _, e, _⟩ := h; exact e _ _ upd_same) ?_ ?_⟩⟩
    · rintro i x σ H1 H2 hi ⟨A', F', y4, y5, y6, rfl, s1, eF, nF', fo, tak, gr⟩ ⟨rfl, k1, v1, hk, rfl⟩
      obtain ⟨e, he, rfl, rfl⟩ := keys_at hk
      have hx : ns[i]? = some e.1 := by rw [hns, List.getElem?_map, he] <;> rfl
      have xn := List.mem_of_getElem? hx
      rw [drop_at hx] at gr
      have gv := Ax.get (H := H2) (d := F') (A := A') ⟨.inl eF⟩ e.1
      have eb1 := s1 _ _ (upd_same (H := H0) (a := b) (o := HO.frz od (.dK (entK L))))
      refine ⟨_, rfl, _, rfl, F', _, rfl, gv, _, rfl, ite_both (fun cn => ?_) fun cn => ?_⟩
      · have nx : e.1 ∉ A'.map (·.1) := fun z => by
          have := aget_mem.mpr z
          cases q : aget A' e.1 with
          | none => rw [q] at this; cases this
          | some y => rw [q] at cn; cases cn
        have eh2 : H2 hd = some (.dK (zK V.int Hs)) := s1 _ _ (by rw [upd_ne bhd.symm]; exact eh0)
        have un : ∀ {H3 : Hp}, Same H2 H3 → Same H (upd H3 b (.dK (entK L))) ∧ H3 b = some (.frz od (.dK (entK L))) := fun s => ⟨s0.trans (unlock bx0.un (s1.trans s)), s _ _ eb1⟩
        have frH : ∀ {q : Addr}, H2 q = none → H q = none := fun {q} n => by
          have qb : q ≠ b := fun z => by rw [z, eb1] at n; cases n
          have := s1.free n
          rw [upd_ne qb] at this
          exact s0.free this
        refine ⟨_, rfl, _, rfl, _, rfl, _, rfl, b, hd, F', e.1, L, Hs, A', S, ns, PP, rfl, bxl.same s1, fitN, eh2, eF, fo, nx, xn, by omega, W.pp, inP, fun H3 T r c s3 nT eT nr er wi cr => ?_, fun H3 T r M s3 nT eT nr er wi fM kM nM => ?_⟩
        · refine ⟨T, _, rfl, .inl (.inl eT), rfl, _, _, rfl, _, _, rfl, rfl, ?_⟩
          refine ⟨_, rfl, rfl, _, rfl, ite_both (fun _ => ?_) fun c => absurd (decide_eq_true rfl) (by rw [c]; decide)⟩
          refine ⟨_, rfl, by show 2 ≤ sizeLine; decide, fun Y nY => ?_⟩
          have t := same_new (o := HO.tup [.str "crowd", .ref r]) nY
          obtain ⟨u1, u2⟩ := un (s3.trans t)
          have Yb : Y ≠ b := fun z => by rw [z, s3 _ _ eb1] at nY; cases nY
          have rb : r ≠ b := fun z => by rw [z, eb1] at nr; cases nr
          exact ⟨u2, q1 _ Y r c u1 (frH (s3.free nY)) (by rw [upd_ne Yb, upd_same]) (frH nr) (by rw [upd_ne rb]; exact t _ _ er) (gr _ (.crowd nx wi)) cr⟩
        · refine ⟨T, _, rfl, .inl (.inl eT), rfl, _, _, rfl, _, _, rfl, rfl, ?_⟩
          refine ⟨_, rfl, rfl, _, rfl, ite_both (fun c => absurd c (by decide +kernel)) fun _ => ?_⟩
          refine ⟨_, rfl, M, r, _, _, _, rfl, s1.trans s3, er, frH nr, fM, fun u hu => ?_, fun q h => gr q (.fit nx wi h)⟩
          rw [take_snoc hx] at hu
          rcases List.mem_append.mp hu with h | h
          · exact kM u (tak u h)
          · rw [List.mem_singleton.mp h]; exact nM
      · have nx : e.1 ∈ A'.map (·.1) := by
          refine Decidable.byContradiction fun z => ?_
          rw [aget_none z] at cn; cases cn
        refine ⟨A', F', _, y5, y6, rfl, s1, eF, nF', fo, fun u hu => ?_, fun q h => gr q (.skip nx h)⟩
        rw [take_snoc hx] at hu
        rcases List.mem_append.mp hu with h | h
        · exact tak u h
        · rw [List.mem_singleton.mp h]; exact nx
    · rintro σ H1 ⟨A', F', y4, y5, y6, rfl, s1, eF, nF', fo, tak, gr⟩
      have eb1 := s1 _ _ (upd_same (H := H0) (a := b) (o := HO.frz od (.dK (entK L))))
      rw [entK_len, ← lns, List.take_length] at tak
      rw [entK_len, ← lns, List.drop_length] at gr
      refine ⟨eb1, ?_⟩
      refine ⟨_, rfl, by show 2 ≤ sizeLine; decide, fun Y nY => ?_⟩
      have s3 := s0.trans (unlock bx0.un s1)
      have Fb : F' ≠ b := fun z => by rw [z, eb1] at eF; cases eF
      have eF3 : (upd H1 b (.dK (entK L))) F' = some (.dK (intK A')) := by rw [upd_ne Fb]; exact eF
      have t := same_new (o := HO.tup [.str "fit", .ref F']) nY
      exact q2 _ Y F' A' (s3.trans t) (s3.free nY) upd_same nF' (t _ _ eF3) (gr _ .nil) fo tak
abbrev sFf : Stmt := topS 2
abbrev nFf : List Str := ["box", "highs"]
theorem scFf : FnScope nFf ["box", "highs"] (defScope sFf) := ⟨rfl, rfl, rfl, by decide +kernel, rfl, by decide +kernel, by decide +kernel⟩
def spFf : Sp := fun vs H Q _ => ∃ (b hd : Addr) (L : List Ent) (Hs : List (Int × Int)) (S : Str → List Int) (P : List Int), vs = [.ref b, .ref hd] ∧ Bu H b L ∧ H hd = some (.dK (zK V.int Hs)) ∧ b ≠ hd ∧ Wd L S Hs P ∧
  (∀ (H' : Hp) (T r : Addr) (c : List Str), Same H H' → H T = none → H' T = some (.tup [.str "crowd", .ref r]) → H r = none → H' r = some (.lst (c.map V.str)) → Grow (zget Hs) S (L.map (·.1)) [] (.inr c) → Crowd (zget Hs) S (L.map (·.1)) c → Q (.ref T) H') ∧
  (∀ (H' : Hp) (T r : Addr) (M : List (Str × Int)), Same H H' → H T = none → H' T = some (.tup [.str "fit", .ref r]) → H r = none → H' r = some (.dK (intK M)) → Grow (zget Hs) S (L.map (·.1)) [] (.inl M) → FitOk (L.map (·.1)) S (zget Hs) M → (∀ x ∈ L.map (·.1), x ∈ M.map (·.1)) → Q (.ref T) H')
theorem ok_Ff {f f0 : Addr} {fd fd0 : FuncData} (F : Fun K "full_fit" "full_fit" sFf f fd) (B : Bt mg) (CGr : Call P w K mg base 3 "_grown" f0 fd0 ["box", "highs", "start"] spGr) :
    FnOk P w K mg base CX0 4 f fd ["box", "highs"] spFf := by
  refine F.ok scFf (fun vs H Q E h => ?_) (fun cdv A outer s H vs Q E hr h => ?_)
  · obtain ⟨b, hd, L, Hs, S, P, rfl, _⟩ := h
    rfl
  · obtain ⟨b, hd, L, Hs, S, PP, rfl, bx, eh, bhd, W, q1, q2⟩ := h
    have nd := scFf.nd
    refine ⟨_, pss_one (ps_ret (pe_call CGr.ok (hr.mono (by decide)) (by rfl) CGr.at_ CGr.kp CGr.bd .nil pass0 (pa_cons (pv 0) (pa_cons (pv 1) (pa_cons pe_dnewK pa_nil))))), ?_⟩
    refine ⟨_, rfl, _, rfl, fun d nd1 => ?_⟩
    have s := same_new (o := HO.dK []) nd1
    exact ⟨b, hd, d, L, Hs, S, PP, rfl, bx.same' s, s _ _ eh, upd_same, bhd, W, fun H' T r c s2 nT eT nr er g cr => q1 H' T r c (s.trans s2) (s.free nT) eT (s.free nr) er g cr, fun H' T r M s2 nT eT nr er g f k => q2 H' T r M (s.trans s2) (s.free nT) eT (s.free nr) er g f k⟩
end
end K57
set_option Elab.async false
set_option linter.all false
set_option maxRecDepth 100000
set_option maxHeartbeats 2000000
/-! set(t) of a tuple of ints; how many members a set has -/
namespace Cs
open PySem PySem.Spec PyProof.Rows L2
end Cs
set_option Elab.async false
set_option linter.all false
set_option maxRecDepth 100000
set_option maxHeartbeats 2000000
/-! [e for a in xs for b in ys]: both walks -/
namespace Cs
open PySem PySem.Spec PyProof.Rows L2
theorem walk_both {J : It} {n : Nat} {G : Hp → Prop} {Y : Nat → Hp → V → Hp → Prop} (w : Walk J n G Y) {H1 : Hp} {Qd : Hp → Prop} {Body : (Hp → Prop) → Nat → V → Hp → Prop} (Pv : Nat → Hp → Prop) (start : Pv 0 H1) (stays : ∀ i H, i ≤ n → Pv i H → G H)
    (turn : ∀ i x H H', i < n → Pv i H → Y i H x H' → Body (Pv (i + 1)) i x H') (after : ∀ H, Pv n H → Qd H) :
    ∃ W : Nat → Nat → Hp → Prop, (∃ m, W 0 m H1) ∧ ∀ i m H, W i m H → (J.stop i H ∧ Qd H) ∨ (J.go i H ∧ ∃ Nx : Hp → Prop, (∀ H', Nx H' → ∃ m', m' < m ∧ W (i + 1) m' H') ∧ ∀ x H', J.yld i H x H' → Body Nx i x H') := by
  refine ⟨fun i m H => m = n - i ∧ i ≤ n ∧ Pv i H, ⟨n, rfl, Nat.zero_le _, start⟩, fun i m H h => ?_⟩
  obtain ⟨em, le, pv⟩ := h
  by_cases lt : i < n
  · exact .inr ⟨w.goes i H lt (stays i H le pv), Pv (i + 1), fun H' p => ⟨n - (i + 1), by omega, rfl, lt, p⟩, fun x H' y => turn i x H H' lt pv (w.yields i H x H' lt (stays i H le pv) y)⟩
  · obtain rfl : i = n := by omega
    exact .inl ⟨w.stops H (stays _ H le pv), after H pv⟩
end Cs
set_option Elab.async false
set_option linter.all false
set_option maxRecDepth 100000
set_option maxHeartbeats 4000000
/-! == of two tuples that are equal, deep. -/
namespace Cs
open PySem PySem.Spec PyProof.Rows L2
end Cs
set_option Elab.async false
set_option linter.all false
set_option maxRecDepth 100000
set_option maxHeartbeats 4000000
/-! min of a list of tuples of ints -/
namespace Cs
open PySem PySem.Spec PyProof.Rows L2
end Cs
set_option Elab.async false
set_option linter.all false
set_option maxRecDepth 100000
set_option maxHeartbeats 4000000
/-! in and == with tuples of tuples of ints, == of tuples of texts -/
namespace Cs
open PySem PySem.Spec PyProof.Rows L2
end Cs
set_option Elab.async false
set_option linter.all false
set_option maxRecDepth 100000
set_option maxHeartbeats 4000000
/-! tuples whose object is known (it has no dict): methods of theirs -/
namespace Cs
open PySem PySem.Spec PyProof.Rows L2
/-- a tuple's object, nothing else in it -/
def Pl (o : Obj) : Prop := o.cls = .type "tuple" ∧ o.dict = none
/-- a tuple, its object known -/
def TpK (H : Hp) (a : Addr) (xs : List V) : Prop := ∃ o, Pl o ∧ H a = some (.frz o (.tup xs))
theorem TpK.same {H H' : Hp} {a : Addr} {xs : List V} (h : TpK H a xs) (s : Same H H') : TpK H' a xs := by
  obtain ⟨o, p, e⟩ := h; exact ⟨o, p, s _ _ e⟩
theorem TpK.sq {K : PySem.W.Frag} {H : Hp} {a : Addr} {xs : List V} (h : TpK H a xs) : SqT K H a xs := by
  obtain ⟨o, p, e⟩ := h; exact .inl (.inr ⟨o, e⟩)
theorem TpK.some {H : Hp} {a : Addr} {xs : List V} (h : TpK H a xs) : H a ≠ none := by
  obtain ⟨o, p, e⟩ := h; rw [e]; exact fun z => by cases z
variable {X : Cx}
/-- tuple(xs), xs a list: its object is known -/
def rTupK (K : PySem.W.Frag) : List V → Hp → VK → Prop := fun xs H Q => ∃ p ys, xs = [.ref p] ∧ SqL K H p ys ∧ ∀ l o, H l = none → Pl o → Q (.ref l) (upd H l (.frz o (.tup ys)))
theorem call_tupK : CallR X (.type "tuple") (rTupK X.K) := by
  intro pins s σ H xs us Q I r h
  obtain ⟨p, ys, rfl, hq, q⟩ := h
  obtain ⟨u, rfl, rx⟩ := vals1 r
  cases rx
  obtain ⟨its, r', pl, hz⟩ := I.list hq
  have hlen := r'.length
  refine call_tuple_list pl.isList (fun h' kp => ?_) (by simp only [List.size_toArray] <;> omega)
  have I1 : L2.Inv X pins σ H { s with heap := h' } := I.kept (t' := s.toks) kp
  have new : ObjOk X.prog X.w (upd H h'.objs.size (.frz { cls := .type "tuple", data := .seq its.toArray } (.tup ys))) (h'.push { cls := .type "tuple", data := .seq its.toArray }) h'.objs.size (.frz { cls := .type "tuple", data := .seq its.toArray } (.tup ys)) :=
    ⟨Heap.get?_push_size _ rfl, hz, its, r', IsTup.new _ _⟩
  exact ⟨.ref h'.objs.size, _, I1.laid (t' := s.toks) (fun b o e => Heap.get?_push_of_some _ e) (Nat.le_refl _) new, rfl, q _ _ (I1.hok.fresh (Nat.le_refl _)) ⟨rfl, rfl⟩⟩
variable {o e : Expr} {es : List Expr} {to : TE} {t : TA} {name : Str} {apos cpos : Pos} {id : String} {r : V → List V → Hp → VK → Prop}
end Cs
set_option Elab.async false
set_option linter.all false
set_option maxRecDepth 100000
set_option maxHeartbeats 4000000
namespace CsX
open PySem PySem.Spec PyProof.Rows L2
end CsX
/-! ### an own error without fields; classes, methods, properties -/
namespace CsX
open PySem PySem.Spec PyProof.Rows L2
/-- a class of the program: its text, its name, its attributes (no class attribute has the name) -/
structure Kls (K : PySem.W.Frag) (mg : Str → Option Value) (x : Str) (C : Addr) (fs : List Str) : Prop where
  cl : Cls K C
  gC : mg x = some (.ref C)
  no : ∀ f ∈ fs, NoAttr K C f
/-- its __init__ -/
structure CallN (P : Program) (w : World) (K : PySem.W.Frag) (mg : Str → Option Value) (base : Heap) (k : Nat) (C f : Addr) (fd : FuncData) (ps : List Str) (sp : Sp) : Prop where
  ok : FnOk P w K mg base CX0 k f fd ps sp
  mkr : Mk K C f
  bd : Binds K fd ps []
/-- a method -/
structure CallM (P : Program) (w : World) (K : PySem.W.Frag) (mg : Str → Option Value) (base : Heap) (k : Nat) (C : Addr) (m : Str) (f : Addr) (fd : FuncData) (ps : List Str) (sp : Sp) : Prop where
  ok : FnOk P w K mg base CX0 k f fd ps sp
  mt : Meth K C m f
  bd : Binds K fd ps []
end CsX
set_option Elab.async false
set_option linter.all false
set_option maxRecDepth 100000
set_option maxHeartbeats 4000000
namespace CsX
open PySem PySem.Spec PyProof.Rows L2
/-- two promises of one def, in one -/
theorem FnOk.or {P : Program} {w : World} {K : PySem.W.Frag} {mg : Str → Option Value} {base : Heap} {CX : CXT} {k : Nat} {f : Addr} {fd : FuncData} {ps : List Str} {sp1 sp2 : Sp} (F1 : FnOk P w K mg base CX k f fd ps sp1) (F2 : FnOk P w K mg base CX k f fd ps sp2) :
    FnOk P w K mg base CX k f fd ps (fun vs H Q E => sp1 vs H Q E ∨ sp2 vs H Q E) :=
  ⟨fun vs H Q E h => h.elim (F1.len vs H Q E) (F2.len vs H Q E), fun A outer s H args us vs Q E hr he hb hv h => h.elim (F1.run A outer s H args us vs Q E hr he hb hv) (F2.run A outer s H args us vs Q E hr he hb hv)⟩
end CsX
set_option Elab.async false
set_option linter.all false
set_option maxRecDepth 100000
set_option maxHeartbeats 4000000
/-! ### errors whose context is known to be None; calls within an except suite -/
namespace CsX
open PySem PySem.Spec PyProof.Rows L2 L2H HotX
/-! C(x): an own error with fields, its context None (after ExcInit's and ExcInitHot's own, for L2N) -/
end CsX
set_option Elab.async false
set_option linter.all false
set_option maxRecDepth 100000
set_option maxHeartbeats 4000000
/-! ### sorted(s), s a set of areI of any number of members -/
namespace Cs
open PySem PySem.Spec PyProof.Rows L2
section
variable {P : Program} {w : World} {A : Around} {E : Value → Shared → Prop} {s : Shared} {a : Addr}
/-- (after sorted_set of HandS.Set, with the sort of SortOrd) -/
theorem sorted_setN {S : Int → Bool} {n : Nat} {Q : Value → Shared → Prop} (R : SetR w s.heap a S n)
    (cool : A.handled = none) (small : n ≤ 16000000)
    (after : ∀ s' p (out : Array Value) (c : Nat) (ns : List Int),
      (∀ b o, s.heap.get? b = some o → s'.heap.get? b = some o) → s'.gens = s.gens → s'.os = s.os →
      s.heap.objs.size ≤ p → s'.heap.get? p = some (seqObj "list" out c) → IntsAre out.toList ns →
      ns.Pairwise (· < ·) → (∀ k, k ∈ ns ↔ S k = true) → ns.length = n → Q (.ref p) s') :
    wpAny (model P w) A (call (.builtin "sorted") [.ref a]) Q E s := by
  obtain ⟨o, es, ep, t, ho, hex, hd, good, nd, mem, bnd, fits, cnt, r1, r2⟩ := R
  refine Calls.call_function_entry kind_sorted plain_sorted entry_sorted (args_sorted1 _) ?_
  unfold Builtin.«sorted»
  refine wpAny_bind (m := checkCount "sorted" 1 1 _) (wpAny_pure ?_)
  refine wpAny_bind (collect_set (A := A.in1) cool ⟨o, ho, hex.1, hd⟩ fits bnd r1 r2
    fun s1 vs keep1 up1 g1 o1 perm => ?_)
  have many : vs.length = n := by
    rw [perm.length_eq, List.length_map, Array.length_toList]
    exact cnt
  have line : vs.length ≤ sizeLine := by rw [many, sizeLine_eq]; omega
  have areI : IntsAre vs (vs.map Builtin.Re.reRawOf) := ints_of vs fun v hv => by
    obtain ⟨e, he, q⟩ := List.mem_map.mp (perm.mem_iff.mp hv)
    obtain ⟨k, tk, h1, _⟩ := good e he
    exact ⟨k, tk, q ▸ h1⟩
  have keys : (vs.map Builtin.Re.reRawOf).Perm (es.toList.map keyOf) := by
    have := perm.map Builtin.Re.reRawOf
    rwa [List.map_map] at this
  refine wpAny_bind (wpAny_newList ?_ line)
  have new1 : (s1.heap.push (seqObj "list" vs.toArray 0)).get? s1.heap.objs.size =
    some (seqObj "list" vs.toArray 0) := Heap.get?_push_size _ rfl
  refine wpAny_bind (wpAny_holding (wpAny_call_entry slot_list_sort ⟨_, new1, rfl⟩ entry_list_sort
    (SrtO.list_sort_ord SrtO.swo_int new1 line (fun two => SrtO.ints_sortable areI two)
      fun out srt stb => ⟨_, rfl, ?_⟩) (args_list_sort _)))
  obtain ⟨k1, k2, k3⟩ := SrtO.ints_out areI srt stb
  obtain ⟨c, hc⟩ := sortedHeap_at (vs := vs) (out := out.toArray) new1
  have pn : (out.map SrtO.iv).Perm (es.toList.map keyOf) := k2.trans keys
  refine wpAny_pure ⟨_, rfl, after _ s1.heap.objs.size out.toArray c (out.map SrtO.iv) (fun b u e => ?_)
    g1 o1 up1 hc k1 (lt_of_le_nodup _ k3 (pn.nodup_iff.mpr nd)) (fun k => by rw [pn.mem_iff, ← mem k]) ?_⟩
  · have old := keep1 b u e
    have lt := Heap.lt_size old
    show (sortedHeap (s1.heap.push (seqObj "list" vs.toArray 0)) s1.heap.objs.size vs out.toArray).get? b = some u
    rw [sortedHeap_old (Nat.ne_of_lt lt) (by rw [size_push']; exact Nat.lt_succ_of_lt lt)]
    exact Heap.get?_push_of_some _ old
  · rw [pn.length_eq, List.length_map, Array.length_toList]
    exact cnt
end
def rSortedN (w : World) : List V → Hp → VK → Prop := fun vs H Q => ∃ (a : Addr) (S : Int → Bool) (n : Nat),
  vs = [V.ref a] ∧ H a = some (SetO w a S n) ∧ n ≤ 16000000 ∧ ∀ (ns : List Int) (p : Addr), ns.Pairwise (· < ·) →
    (∀ k : Int, k ∈ ns ↔ S k = true) → ns.length = n → H p = none → Q (.ref p) (upd H p (.lst (ns.map V.int)))
theorem cr_sortedN {X : Cx} (cool : X.calm = true) : CallR X (.builtin "sorted") (rSortedN X.w) := by
  intro pins s σ H vs us Q I rel h
  obtain ⟨a, S, n, rfl, ha, few, q⟩ := h
  rw [Vals.ref1 rel]
  refine sorted_setN (setO_get I ha) (I.ok.hd cool) few fun s2 p out c ns old g o up at_ areI asc mem cnt => ?_
  have free : H p = none := I.hok.fresh up
  have line : (ns.map V.int).length ≤ sizeLine := by rw [List.length_map, cnt, sizeLine_eq]; omega
  have J : Inv X pins σ (upd H p (.lst (ns.map V.int)))
      { s with heap := s2.heap, gens := s2.gens, drawn := s2.drawn, toks := s2.toks } :=
    I.call (ch := []) (Un.laid old up free) (I.hok.laid old up ⟨line, out.toList, c, vals_of_ints areI, at_⟩)
      (by rw [g]; exact I.bare) (fun _ z => nomatch z)
  have same : s2 = { s with heap := s2.heap, gens := s2.gens, drawn := s2.drawn, toks := s2.toks } := by
    cases s2; cases s; cases o; rfl
  rw [same]
  exact ⟨.ref p, _, J, rfl, q ns p asc mem cnt free⟩
end Cs
set_option Elab.async false
set_option linter.all false
set_option maxRecDepth 100000
set_option maxHeartbeats 4000000
namespace K57
open PySem PySem.Spec PyProof.Rows L2 Cs CsX
/-- a choice of values, no value twice -/
structure Inj (ns : List Str) (T : Str → List Int) (g : Str → Int) : Prop where
  mem : ∀ x ∈ ns, g x ∈ T x
  inj : ∀ x ∈ ns, ∀ y ∈ ns, g x = g y → x = y
def Feas (ns : List Str) (T : Str → List Int) : Prop := ∃ g, Inj ns T g
def fv (M : List (Str × Int)) (x : Str) : Int := (aget M x).getD 0
theorem fv_get {M : List (Str × Int)} {x : Str} (h : x ∈ M.map (·.1)) : aget M x = some (fv M x) := by
  unfold fv
  cases q : aget M x with
  | none => have := aget_mem.mpr h; rw [q] at this; cases this
  | some v => rfl
/-- every number is 1 -/
structure Ones (ns : List Str) (S : Str → List Int) (Hs : List (Int × Int)) : Prop where
  one : ∀ v k, zget Hs v = some k → k = 1
  all : ∀ x ∈ ns, ∀ v ∈ S x, zget Hs v = some 1
theorem fit_inj {ns : List Str} {S : Str → List Int} {Hs : List (Int × Int)} {M : List (Str × Int)} (F : FitOk ns S (zget Hs) M) (full : ∀ x ∈ ns, x ∈ M.map (·.1)) (O : Ones ns S Hs) : Inj ns S (fv M) := by
  have mem : ∀ x ∈ ns, fv M x ∈ S x := fun x hx => F.inS x _ (fv_get (full x hx))
  refine ⟨mem, fun x hx y hy e => Decidable.byContradiction fun ne => ?_⟩
  have h1 := F.le _ _ (O.all x hx _ (mem x hx))
  have m1 : x ∈ tk M (fv M x) := (tk_mem F.nd).mpr (fv_get (full x hx))
  have m2 : y ∈ tk M (fv M x) := (tk_mem F.nd).mpr (by rw [e]; exact fv_get (full y hy))
  have nd2 : ([x, y] : List Str).Nodup := by simp [ne]
  have := List.Nodup.length_le_of_subset nd2 (l₂ := tk M (fv M x)) fun z hz => by
    rcases List.mem_cons.mp hz with h | h
    · rw [h]; exact m1
    · rw [List.mem_singleton.mp h]; exact m2
  unfold cnt at h1
  have e2 : ([x, y] : List Str).length = 2 := rfl
  omega
/-- the first name whose side is empty -/
def fe (S : Str → List Int) (ns : List Str) : Option Str := ns.find? fun x => (S x).isEmpty
theorem fe_none {S : Str → List Int} {ns : List Str} : fe S ns = none ↔ ∀ x ∈ ns, S x ≠ [] := by
  unfold fe
  rw [List.find?_eq_none]
  constructor
  · intro h x hx e
    exact h x hx (by rw [e] <;> rfl)
  · intro h x hx e
    exact h x hx (List.isEmpty_iff.mp e)
theorem fe_at {S : Str → List Int} {ns : List Str} {i : Nat} {x : Str} (h : ns[i]? = some x) (e : S x = []) (n : ∀ y ∈ ns.take i, S y ≠ []) : fe S ns = some x := by
  obtain ⟨hi, ex⟩ := List.getElem?_eq_some_iff.mp h
  unfold fe
  rw [← List.take_append_drop i ns, List.find?_append, List.find?_eq_none.mpr (fun y hy z => n y hy (List.isEmpty_iff.mp z)), List.drop_eq_getElem_cons hi, ex]
  rw [Option.none_or, List.find?_cons, e] <;> rfl
theorem Fit.at_ {b : Addr} {L : List Ent} {ns : List Str} {S : Str → List Int} (F : Fit L ns S) {x : Str} (hx : x ∈ ns) : ∃ e ∈ L, ∀ {H : Hp}, Bu H b L → DGet H b (.str x) (some (.ref e.2.1)) ∧ H e.2.1 = some (.lst ((S x).map V.int)) := by
  have h := F x hx
  unfold look at h
  obtain ⟨e, he, e2⟩ := Option.map_eq_some_iff.mp h
  refine ⟨e, (getE_mem he).1, fun {H} B => ?_⟩
  have g := B.toBx.get x
  rw [he] at g
  refine ⟨g, ?_⟩
  rw [← e2]; exact B.sides e (getE_mem he).1
theorem srt_ndI {l : List Int} (s : Srt l) : l.Nodup := s.imp fun {a b} (h : a < b) => (by omega : a ≠ b)
abbrev uF : List Str := ["names"]
def uflds (t : Addr) : List (Str × V) := [("names", V.ref t)]
theorem ulook (t : Addr) : (uflds t).lookup ("names" : Str) = some (.ref t) := by
  unfold uflds
  simp [List.lookup]
theorem ul_no {m : Str} (h1 : ("names" : Str) ≠ m) (t : Addr) : (uflds t).lookup m = none := by
  unfold uflds
  have h1' : (m == ("names" : Str)) = false := beq_eq_false_iff_ne.mpr fun z => h1 z.symm
  simp only [List.lookup, h1']
/-- an Unlike of these names stands at p -/
def Ul (C : Addr) (H : Hp) (p : Addr) (ns : List Str) : Prop := ∃ (dx t : Addr), H p = some (.ins C dx (uflds t)) ∧ TpK H t (ns.map V.str)
theorem Ul.same {C : Addr} {H H' : Hp} {p : Addr} {ns : List Str} (R : Ul C H p ns) (s : Same H H') : Ul C H' p ns := by
  obtain ⟨dx, t, h1, h2⟩ := R
  exact ⟨dx, t, s _ _ h1, h2.same s⟩
/-- a one for each of the values -/
def ones (js : List Int) : List (Int × Int) := js.map fun v => (v, 1)
theorem ones_keys (js : List Int) : (ones js).map (·.1) = js := by unfold ones; rw [List.map_map]; exact List.map_id _
theorem ones_get {js : List Int} {v k : Int} (h : zget (ones js) v = some k) : k = 1 ∧ v ∈ js := by
  have h1 : v ∈ (ones js).map (·.1) := zmem.mp (by rw [h] <;> rfl)
  rw [ones_keys] at h1
  refine ⟨?_, h1⟩
  unfold zget at h
  obtain ⟨e, he, rfl⟩ := Option.map_eq_some_iff.mp h
  have m := List.mem_of_find?_eq_some he
  obtain ⟨u, _, rfl⟩ := List.mem_map.mp m
  rfl
theorem ones_at {js : List Int} {v : Int} (h : v ∈ js) : zget (ones js) v = some 1 := by
  have h1 : (zget (ones js) v).isSome = true := zmem.mpr (by rw [ones_keys]; exact h)
  obtain ⟨k, hk⟩ := Option.isSome_iff_exists.mp h1
  rw [hk, (ones_get hk).1]
/-- the sides that a rule is asked of -/
structure Sds (ns : List Str) (S : Str → List Int) : Prop where
  srt : ∀ x ∈ ns, Srt (S x)
  few : ∀ x ∈ ns, (S x).length ≤ 30
theorem ones_wd {ns : List Str} {S : Str → List Int} {M : List Ent} {js : List Int} (km : M.map (·.1) = ns) (fm : Fit M ns S) (mem : ∀ v, v ∈ js ↔ ∃ x ∈ ns, v ∈ S x) (few : js.length ≤ 1000) : Wd M S (ones js) js ∧ Ones ns S (ones js) :=
  ⟨⟨by rw [km]; exact fm, few, fun x hx v hv => (mem v).mpr ⟨x, by rw [← km]; exact hx, hv⟩, fun v k h => by rw [(ones_get h).1]; decide⟩, ⟨fun v k h => (ones_get h).1, fun x hx v hv => ones_at ((mem v).mpr ⟨x, hx, hv⟩)⟩⟩
theorem digits2 : ∀ k ∈ List.range 16, (Str.ofString (toString ((k : Nat) : Int))).length ≤ 2 := by decide +kernel
theorem log16 : ∀ k ∈ List.range 16, ((k : Nat) : Int).natAbs.log2 < 1920 := by decide +kernel
theorem perm_at {α : Type} {ys : List α} {j : Nat} (h : j < ys.length) : (ys[j] :: ys.eraseIdx j).Perm ys := by
  have e : ys = ys.take j ++ ys[j] :: ys.drop (j + 1) := by rw [List.getElem_cons_drop, List.take_append_drop]
  rw [List.eraseIdx_eq_take_drop_succ]
  conv => rhs; rw [e]
  exact List.perm_middle.symm
theorem cutV_mid (xs : List V) {i j : Nat} (h : i ≤ j) (hj : j ≤ xs.length) : cutV xs (some (i : Int)) (some (j : Int)) = (xs.drop i).take (j - i) := by
  unfold cutV
  rw [HT.sIx_nat, HT.sIx_nat, Nat.min_eq_left (Nat.le_trans h hj), Nat.min_eq_left hj]
/-- one item taken to the front of the rest -/
theorem pull_perm {α : Type} {ys : List α} {k j : Nat} {y : α} (h : k ≤ j) (hy : ys[j]? = some y) : (ys.take k ++ [y] ++ (ys.drop k).take (j - k) ++ ys.drop (j + 1)).Perm ys := by
  have e1 : ys.drop j = y :: ys.drop (j + 1) := drop_at hy
  have e2 : ys.drop k = (ys.drop k).take (j - k) ++ ys.drop j := by
    have := List.take_append_drop (j - k) (ys.drop k)
    rw [List.drop_drop, show k + (j - k) = j by omega] at this
    exact this.symm
  have e3 : ys = ys.take k ++ ((ys.drop k).take (j - k) ++ y :: ys.drop (j + 1)) := by
    rw [← e1, ← e2, List.take_append_drop]
  conv => rhs; rw [e3]
  rw [List.append_assoc, List.append_assoc]
  refine List.Perm.append_left _ ?_
  show (y :: ((ys.drop k).take (j - k) ++ ys.drop (j + 1))).Perm _
  exact List.perm_middle.symm
def headsM : List Str := ["n", "item_", "q7", "x_y_z0"]
def tailsM : List Str := ["", "a", "_tail"]
def nam (hd tl : Str) (s i : Nat) : Str := hd ++ Str.ofString (toString (((i * 7 + s) % 16 : Nat) : Int)) ++ tl
theorem many_all : (headsM.all fun hd => tailsM.all fun tl => (List.range 16).all fun s => decide (((List.range 16).map (nam hd tl s)).Nodup) && ((List.range 16).map (nam hd tl s)).all fun x => decide (x ≠ "aside")) = true := by decide +kernel
theorem names_many {hd tl : Str} {s m : Nat} (h1 : hd ∈ headsM) (h2 : tl ∈ tailsM) (hs : s < 16) (hm : m ≤ 16) : ((List.range m).map (nam hd tl s)).Nodup ∧ ∀ x ∈ (List.range m).map (nam hd tl s), x ≠ "aside" := by
  have h := List.all_eq_true.mp (List.all_eq_true.mp (List.all_eq_true.mp many_all hd h1) tl h2) s (List.mem_range.mpr hs)
  obtain ⟨a, b⟩ := Bool.and_eq_true_iff.mp h
  have e : List.range m = (List.range 16).take m := by rw [List.take_range, Nat.min_eq_left hm]
  rw [e, List.map_take]
  exact ⟨List.Pairwise.sublist (List.take_sublist _ _) (of_decide_eq_true a), fun x hx => of_decide_eq_true (List.all_eq_true.mp b x (List.mem_of_mem_take hx))⟩
theorem look_ent {L : List Ent} (nd : (L.map (·.1)).Nodup) {e : Ent} (he : e ∈ L) : look L e.1 = some e.2.2 := by
  unfold look
  rw [getE_of nd he] <;> rfl
theorem keep_same {H H1 H2 : Hp} {s : Addr} (a : Same H H1) (k : Keep s H1 H2) (n : H s = none) : Same H H2 := fun b o e => k b o (ne_some' e n) (a b o e)
def sdN (N : List Ent) (x : Str) : List Int := (look N x).getD []
theorem sides_fit {N : List Ent} {ds : List DomE} (nd : (N.map (·.1)).Nodup) (sh : shape N = ds.map fun d => (d.2.1, d.2.2.2)) : Fit N (ds.map (·.2.1)) (sdN N) ∧ (∀ g ∈ N, ∃ d ∈ ds, d.2.1 = g.1 ∧ d.2.2.2 = g.2.2) ∧ ∀ x ∈ ds.map (·.2.1), ∃ g ∈ N, g.1 = x ∧ sdN N x = g.2.2 := by
  have h1 : ∀ g ∈ N, ∃ d ∈ ds, d.2.1 = g.1 ∧ d.2.2.2 = g.2.2 := fun g hg => by
    have m : (g.1, g.2.2) ∈ shape N := List.mem_map.mpr ⟨g, hg, rfl⟩
    rw [sh] at m
    obtain ⟨d, hd, e⟩ := List.mem_map.mp m
    exact ⟨d, hd, (Prod.mk.inj e).1, (Prod.mk.inj e).2⟩
  have h2 : ∀ x ∈ ds.map (·.2.1), ∃ g ∈ N, g.1 = x ∧ sdN N x = g.2.2 := fun x hx => by
    obtain ⟨d, hd, rfl⟩ := List.mem_map.mp hx
    have m : (d.2.1, d.2.2.2) ∈ shape N := by rw [sh]; exact List.mem_map.mpr ⟨d, hd, rfl⟩
    obtain ⟨g, hg, e⟩ := List.mem_map.mp m
    have e1 : g.1 = d.2.1 := (Prod.mk.inj e).1
    refine ⟨g, hg, e1, ?_⟩
    unfold sdN
    rw [← e1, look_ent nd hg] <;> rfl
  refine ⟨fun x hx => ?_, h1, h2⟩
  obtain ⟨g, hg, e1, e2⟩ := h2 x hx
  rw [e2, ← e1, look_ent nd hg]
/-- one box out of domains -/
theorem box_of {N : List Ent} {ds : List DomE} {ns : List Str} {k : Nat} (nd : (N.map (·.1)).Nodup) (sh : shape N = ds.map fun d => (d.2.1, d.2.2.2)) (sub : ∀ x ∈ ns, x ∈ ds.map (·.2.1)) (ok : ∀ d ∈ ds, Srt d.2.2.2 ∧ d.2.2.2.length ≤ k) (hk : k ≤ 30) : Fit N ns (sdN N) ∧ (∀ g ∈ N, Srt g.2.2 ∧ g.2.2.length ≤ 30) ∧ ∀ x ∈ ns, (sdN N x).length ≤ k := by
  obtain ⟨h1, h2, h3⟩ := sides_fit nd sh
  refine ⟨fun x hx => h1 x (sub x hx), fun g hg => ?_, fun x hx => ?_⟩
  · obtain ⟨d, hd, _, e⟩ := h2 g hg
    rw [← e]; exact ⟨(ok d hd).1, Nat.le_trans (ok d hd).2 hk⟩
  · obtain ⟨g, hg, _, e⟩ := h3 x (sub x hx)
    obtain ⟨d, hd, _, e2⟩ := h2 g hg
    rw [e, ← e2]; exact (ok d hd).2
theorem strm_ne {H : Hp} {s b : Addr} {xs : List V} (st : Strm H s) (e : H b = some (.lst xs)) (h : xs.length ≠ 3 ∨ ∃ a, V.ref a ∈ xs) : b ≠ s := fun z => by
  obtain ⟨x, y, w, es⟩ := st
  rw [z, es] at e
  have := HO.lst.inj (Option.some.inj e)
  subst this
  rcases h with h | ⟨a, h⟩
  · exact h rfl
  · simp at h
theorem keep_tup' {H H' : Hp} {s b : Addr} {xs : List V} (st : Strm H s) (k : Keep s H H') (h : H b = some (.tup xs)) : H' b = some (.tup xs) := k _ _ (fun z => by
  obtain ⟨x, y, w, e⟩ := st
  rw [z, e] at h; cases h) h
theorem flat_strs (ks : List Str) : (ks.map V.str).all flatV = true := by
  rw [List.all_map]
  exact List.all_eq_true.mpr fun _ _ => rfl
theorem paired_strs {K : PySem.W.Frag} {H : Hp} {n : Nat} : ∀ ks : List Str, Paired (EqV K H (n + 1)) (ks.map V.str) (ks.map V.str)
  | [] => .nil
  | k :: ks => .cons (.inl ⟨rfl, rfl⟩) (paired_strs ks)
theorem sds_of {L : List Ent} {ns : List Str} {S : Str → List Int} (F : Fit L ns S) (h : ∀ g ∈ L, Srt g.2.2 ∧ g.2.2.length ≤ 30) : Sds ns S := by
  have key : ∀ x ∈ ns, Srt (S x) ∧ (S x).length ≤ 30 := fun x hx => by
    have hl := F x hx
    unfold look at hl
    obtain ⟨e, he, e2⟩ := Option.map_eq_some_iff.mp hl
    rw [← e2]; exact h e (getE_mem he).1
  exact ⟨fun x hx => (key x hx).1, fun x hx => (key x hx).2⟩
abbrev rLnS (K : PySem.W.Frag) : List V → Hp → VK → Prop := fun xs H Q => ∃ p ys, xs = [.ref p] ∧ (SqL K H p ys ∨ SqT K H p ys) ∧ Q (.int (ys.length : Nat)) H
theorem ul_keep {C : Addr} {H H' : Hp} {p s : Addr} {ns : List Str} (R : Ul C H p ns) (st : Strm H s) (k : Keep s H H') : Ul C H' p ns := by
  obtain ⟨dx, t, h1, ⟨o, po, h2⟩⟩ := R
  have ne : ∀ {b : Addr} {u : HO}, H b = some u → (∀ xs, u ≠ .lst xs) → b ≠ s := fun h n z => by
    obtain ⟨x, y, w, e⟩ := st
    rw [z, e] at h; exact n _ (Option.some.inj h).symm
  exact ⟨dx, t, k _ _ (ne h1 (fun _ z => by cases z)) h1, ⟨o, po, k _ _ (ne h2 (fun _ z => by cases z)) h2⟩⟩
theorem nd_mapO {ns : List Str} {g : Str → Int} (nn : ns.Nodup) (inj : ∀ x ∈ ns, ∀ y ∈ ns, g x = g y → x = y) : (ns.map g).Nodup :=
  List.pairwise_map.mpr (List.Pairwise.imp_of_mem (fun {a b} ha hb hne e => hne (inj _ ha _ hb e)) nn)
theorem inj_of {g : Str → Int} : ∀ {ns : List Str}, (ns.map g).Nodup → ∀ x ∈ ns, ∀ y ∈ ns, g x = g y → x = y
  | [], _, x, hx, _, _, _ => nomatch hx
  | a :: ns, h, x, hx, y, hy, e => by
    rw [List.map_cons, List.nodup_cons] at h
    rcases List.mem_cons.mp hx with h1 | h1
    · rcases List.mem_cons.mp hy with h2 | h2
      · rw [h1, h2]
      · exact absurd (List.mem_map.mpr ⟨y, h2, by rw [← e, h1]⟩) h.1
    · rcases List.mem_cons.mp hy with h2 | h2
      · exact absurd (List.mem_map.mpr ⟨x, h1, by rw [e, h2]⟩) h.1
      · exact inj_of h.2 x h1 y h2 e
theorem pick : ∀ {ns : List Str} {L : List Int}, ns.Nodup → ns.length = L.length → ∃ g : Str → Int, ns.map g = L
  | [], [], _, _ => ⟨fun _ => 0, rfl⟩
  | [], _ :: _, _, h => by cases h
  | _ :: _, [], _, h => by cases h
  | x :: ns, u :: L, nn, h => by
    rw [List.nodup_cons] at nn
    obtain ⟨g, hg⟩ := pick (L := L) nn.2 (Nat.succ.inj h)
    refine ⟨fun y => if y = x then u else g y, ?_⟩
    rw [List.map_cons, if_pos rfl, ← hg]
    exact congrArg _ (List.map_congr_left fun y hy => if_neg fun z : y = x => nn.1 (z ▸ hy))
/-- another side for x, in the same list -/
def repl (M : List Ent) (x : Str) (ks : List Int) : List Ent := M.map fun e => if e.1 = x then (e.1, e.2.1, ks) else e
theorem repl_keys (M : List Ent) (x : Str) (ks : List Int) : (repl M x ks).map (·.1) = M.map (·.1) := by
  unfold repl
  rw [List.map_map]
  refine List.map_congr_left fun e _ => ?_
  show (if e.1 = x then (e.1, e.2.1, ks) else e).1 = e.1
  split <;> rfl
theorem repl_ads (M : List Ent) (x : Str) (ks : List Int) : (repl M x ks).map (·.2.1) = M.map (·.2.1) := by
  unfold repl
  rw [List.map_map]
  refine List.map_congr_left fun e _ => ?_
  show (if e.1 = x then (e.1, e.2.1, ks) else e).2.1 = e.2.1
  split <;> rfl
theorem repl_ent (M : List Ent) (x : Str) (ks : List Int) : entK (repl M x ks) = entK M := by
  unfold entK repl
  rw [List.map_map]
  refine List.map_congr_left fun e _ => ?_
  show (Sum.inr (if e.1 = x then (e.1, e.2.1, ks) else e).1, V.ref (if e.1 = x then (e.1, e.2.1, ks) else e).2.1) = _
  split <;> rfl
theorem repl_repl (M : List Ent) (x : Str) (ks js : List Int) : repl (repl M x ks) x js = repl M x js := by
  unfold repl
  rw [List.map_map]
  refine List.map_congr_left fun e _ => ?_
  by_cases c : e.1 = x <;> simp [c]
theorem repl_mem {M : List Ent} {x : Str} {ks : List Int} {g : Ent} (h : g ∈ repl M x ks) : ∃ e ∈ M, e.1 = g.1 ∧ e.2.1 = g.2.1 ∧ ((e.1 = x ∧ g.2.2 = ks) ∨ (e.1 ≠ x ∧ g = e)) := by
  obtain ⟨e, he, rfl⟩ := List.mem_map.mp h
  refine ⟨e, he, ?_⟩
  by_cases c : e.1 = x
  · rw [if_pos c]; exact ⟨rfl, rfl, .inl ⟨c, rfl⟩⟩
  · rw [if_neg c]; exact ⟨rfl, rfl, .inr ⟨c, rfl⟩⟩
theorem inj_at {α β : Type} {M : List α} {f : α → β} (h : (M.map f).Nodup) {a b : α} (ha : a ∈ M) (hb : b ∈ M) (e : f a = f b) : a = b := by
  obtain ⟨i, hi⟩ := List.mem_iff_getElem?.mp ha
  obtain ⟨j, hj⟩ := List.mem_iff_getElem?.mp hb
  have h1 : (M.map f)[i]? = some (f a) := by rw [List.getElem?_map, hi] <;> rfl
  have h2 : (M.map f)[j]? = some (f a) := by rw [List.getElem?_map, hj, e] <;> rfl
  rw [nd_ix h h1 h2, hj] at hi
  exact (Option.some.inj hi).symm
theorem Nb.repl {H0 H : Hp} {d a : Addr} {M : List Ent} {x : Str} {s ks : List Int} (N : Nb H0 H d M) (hm : (x, a, s) ∈ M) : Nb H0 (upd H a (.lst (ks.map V.int))) d (K57.repl M x ks) := by
  have ad : d ≠ a := fun z => by have h1 := N.un; have h2 := N.sides _ hm; rw [z] at h1; rw [show H a = _ from h2] at h1; cases h1
  have un : (upd H a (.lst (ks.map V.int))) d = some (.dK (entK (K57.repl M x ks))) := by rw [upd_ne ad, repl_ent]; exact N.un
  refine ⟨⟨⟨.inl un, fun g hg => ?_, by rw [repl_keys]; exact N.nd, by unfold K57.repl; rw [List.length_map]; exact N.few⟩, un⟩, N.fresh, fun g hg => ?_, by rw [repl_ads]; exact N.inj⟩
  · obtain ⟨e, he, e1, e2, c⟩ := repl_mem hg
    rcases c with ⟨c1, c2⟩ | ⟨c1, c2⟩
    · have : e = (x, a, s) := inj_at N.nd he hm c1
      rw [← e2, this, c2]; exact upd_same
    · rw [c2]
      have : e.2.1 ≠ a := fun z => c1 (by rw [inj_at N.inj he hm z])
      rw [upd_ne this]; exact N.sides e he
  · obtain ⟨e, he, e1, e2, _⟩ := repl_mem hg
    rw [← e2]; exact N.freshS e he
theorem repl_in {M : List Ent} {x : Str} {a : Addr} {s ks : List Int} (hm : (x, a, s) ∈ M) : (x, a, ks) ∈ repl M x ks := List.mem_map.mpr ⟨_, hm, if_pos rfl⟩
theorem Nb.dget {H0 H : Hp} {d a : Addr} {M : List Ent} {x : Str} {s : List Int} (N : Nb H0 H d M) (hm : (x, a, s) ∈ M) : DGet H d (.str x) (some (.ref a)) ∧ H a = some (.lst (s.map V.int)) := by
  have g := N.toBu.toBx.get x
  rw [getE_of N.nd hm] at g
  exact ⟨g, N.sides _ hm⟩
theorem look_repl {x : Str} {ks : List Int} {y : Str} (n : y ≠ x) : ∀ M : List Ent, look (repl M x ks) y = look M y
  | [] => rfl
  | e :: M => by
    have ih := look_repl n (ks := ks) M
    have hr : repl (e :: M) x ks = (if e.1 = x then (e.1, e.2.1, ks) else e) :: repl M x ks := rfl
    unfold look at ih ⊢
    rw [hr]
    by_cases c : e.1 = y
    · have : e.1 ≠ x := fun z => n (c.symm.trans z)
      rw [if_neg this, getE_pos c, getE_pos c]
    · have c2 : (if e.1 = x then (e.1, e.2.1, ks) else e).1 ≠ y := by
        split <;> exact c
      rw [getE_neg c2, getE_neg c]
      exact ih
theorem look_in {M : List Ent} {x : Str} {a : Addr} {ks : List Int} (nd : (M.map (·.1)).Nodup) (h : (x, a, ks) ∈ M) : look M x = some ks := by
  unfold look
  rw [show getE M x = some (x, a, ks) from getE_of (e := (x, a, ks)) nd h]; rfl
end K57
set_option Elab.async false
set_option linter.all false
set_option maxRecDepth 100000
set_option maxHeartbeats 4000000
namespace K57
open PySem PySem.Spec PyProof.Rows L2 Cs CsX
section
variable {P : Program} {w : World} {K : PySem.W.Frag} {mg : Str → Option Value} {base : Heap}
abbrev sSof : Stmt := topS 12
abbrev nSof : List Str := ["values"]
theorem scSof : FnScope nSof ["values"] (defScope sSof) := ⟨rfl, rfl, rfl, by decide +kernel, rfl, by decide +kernel, by decide +kernel⟩
def spSof : Sp := fun vs H Q _ => ∃ (l : Addr) (ks : List Int), vs = [.ref l] ∧ H l = some (.lst (ks.map V.int)) ∧ ks.length ≤ 1000 ∧
  ∀ (H' : Hp) (r : Addr) (js : List Int), Same H H' → H r = none → H' r = some (.lst (js.map V.int)) → Srt js → (∀ v, v ∈ js ↔ v ∈ ks) → Q (.ref r) H'
theorem ok_Sof {f  : Addr} {fd  : FuncData} (F : Fun K "side_of" "side_of" sSof f fd) (B : Bt mg) :
    FnOk P w K mg base CX0 1 f fd ["values"] spSof := by
  refine F.ok scSof (fun vs H Q E h => ?_) (fun cdv A outer s H vs Q E hr h => ?_)
  · obtain ⟨l, ks, rfl, _⟩ := h
    rfl
  · obtain ⟨l, ks, rfl, el, few, q⟩ := h
    have hu := hu_of hr
    have nd := scSof.nd
    refine ⟨_, pss_one (ps_ret (pe_callB (r := rSortedN w) (cr_sortedN rfl) (by rfl) B.sorted PyProof.Rows.boot_sorted (pa_cons (pe_callTy (r := rSetI K w) (cr_setI rfl) (by rfl) B.set PyProof.Rows.boot_set (pa_cons (pv 0) pa_nil)) pa_nil))), ?_⟩
    refine ⟨_, rfl, l, ks, rfl, sl_map el, by omega, fun p c np hc => ⟨p, _, c, rfl, upd_same, by omega, fun ns r as mem len nr => ?_⟩⟩
    have s1 := same_new (o := SetO w p (fun j => decide (j ∈ ks)) c) np
    exact q _ r ns (s1.trans (same_new nr)) (s1.free nr) upd_same as fun v => (mem v).trans decide_eq_true_iff
abbrev sRst : Stmt := topS 16
abbrev nRst : List Str := ["names", "box", "name"]
theorem scRst : FnScope nRst ["names", "box"] (defScope sRst) := ⟨rfl, rfl, rfl, by decide +kernel, rfl, by decide +kernel, by decide +kernel⟩
def spRst : Sp := fun vs H Q _ => ∃ (t b : Addr) (ns : List Str) (L : List Ent) (S : Str → List Int), vs = [.ref t, .ref b] ∧ TpK H t (ns.map V.str) ∧ ns.Nodup ∧ ns.length ≤ 30 ∧ Bu H b L ∧ Fit L ns S ∧
  ∀ (H' : Hp) (d : Addr) (M : List Ent), Same H H' → H d = none → Bu H' d M → M.map (·.1) = ns → Fit M ns S → Q (.ref d) H'
theorem ok_Rst {f  : Addr} {fd  : FuncData} (F : Fun K "restricted" "restricted" sRst f fd) (B : Bt mg) :
    FnOk P w K mg base CX0 1 f fd ["names", "box"] spRst := by
  refine F.ok scRst (fun vs H Q E h => ?_) (fun cdv A outer s H vs Q E hr h => ?_)
  · obtain ⟨t, b, ns, L, S, rfl, _⟩ := h
    rfl
  · obtain ⟨t, b, ns, L, S, rfl, et, nn, few, bx, fit, q⟩ := h
    have hu := hu_of hr
    have nd := scRst.nd
    refine ⟨_, pss_one (ps_ret (pe_dc (own := [("name", 2)]) (g := gName 2) (tt := tYes) (tk := tVar 2) rfl nd (pi_tup (pv 0)) (blkOk_by (N := nRst) (sc := defScope sRst) (by decide +kernel)) (fun _ _ _ _ _ => pg_name (i := 2) nd rfl (.inl rfl)) (fun _ _ _ _ _ => pts_nil)
          (fun _ _ _ _ _ => (pv 2)) (fun _ _ _ _ _ => (pe_dget hu (pv 1) (pv 2) (fun _ _ => rfl))))), ?_⟩
    refine ⟨_, rfl, t, rfl, ⟨_, et.sq⟩, fun D nD => dc_tup (xs := ns.map V.str) (fun i H' => ∃ M : List Ent, Same H H' ∧ Bu H' D M ∧ M.map (·.1) = ns.take i ∧ ∀ x ∈ ns.take i, look M x = some (S x)) ⟨[], same_new nD, ⟨⟨.inl upd_same, (fun _ h => nomatch h), List.Pairwise.nil, Nat.zero_le _⟩, upd_same⟩, rfl, (fun _ h => nomatch h)⟩ (fun i H' _ h => by obtain ⟨_, h, _⟩ := h; exact (et.same h).sq) ?_ ?_⟩
    · rintro i x0 H1 hx0 ⟨M, s1, bm, km, lm⟩
      rw [List.getElem?_map] at hx0
      obtain ⟨x, hx, rfl⟩ := Option.map_eq_some_iff.mp hx0
      have xn := List.mem_of_getElem? hx
      have hi := (List.getElem?_eq_some_iff.mp hx).1
      obtain ⟨a, ga, ea⟩ := Fit.get (bx.same' s1).toBx fit xn
      have lM : M.length ≤ ns.length := by rw [← List.length_map (f := (·.1)), km, List.length_take]; omega
      have bm2 := bm.aput (x := x) ea (by omega)
      refine ⟨rfl, .str x, rfl, _, rfl, _, rfl, b, .ref a, rfl, ga, _, .inr x, rfl, bm.un, by rw [entK_len]; exact small1000 (by omega), ?_⟩
      rw [putK_ent (s := S x)]
      have xk : x ∉ M.map (·.1) := by rw [km]; exact not_take nn hx
      refine ⟨_, same_at s1 nD, bm2, by rw [putE_keys, if_neg xk, km, take_snoc hx], fun y hy => ?_⟩
      rw [look_put]
      by_cases c : y = x
      · rw [if_pos c, c]
      · rw [if_neg c]
        rw [take_snoc hx] at hy
        rcases List.mem_append.mp hy with h | h
        · exact lm y h
        · exact absurd (List.mem_singleton.mp h) c
    · rintro H1 ⟨M, s1, bm, km, lm⟩
      rw [List.length_map, List.take_length] at km lm
      exact q _ D M s1 nD bm km lm
abbrev sChk : Stmt := topS 14
abbrev nChk : List Str := ["names", "earlier", "name"]
theorem scChk : FnScope nChk ["names"] (defScope sChk) := ⟨rfl, rfl, rfl, by decide +kernel, rfl, by decide +kernel, by decide +kernel⟩
def spChk : Sp := fun vs H Q _ => ∃ (a : Addr) (xs : List Str), vs = [.ref a] ∧ H a = some (.lst (xs.map V.str)) ∧ xs ≠ [] ∧ xs.Nodup ∧ xs.length ≤ 1000 ∧
  ∀ (H' : Hp) (t : Addr), Same H H' → (∀ b, H' b = none → H b = none) → H t = none → TpK H' t (xs.map V.str) → Q (.ref t) H'
theorem ok_Chk {f : Addr} {fd : FuncData} (F : Fun K "checked_names" "checked_names" sChk f fd) (B : Bt mg) (ztuple : mg "tuple" = none) : FnOk P w K mg base CX0 1 f fd ["names"] spChk := by
  refine F.ok scChk (fun vs H Q E h => ?_) (fun cdv A outer s H vs Q E hr h => ?_)
  · obtain ⟨a, xs, rfl, _⟩ := h
    rfl
  · obtain ⟨a, xs, rfl, ha, ne, nd0, few, k⟩ := h
    have nd := scChk.nd
    refine ⟨_, pss_cons (ps_if (pt_cmpR op_eq (pe_callB call_len_seq (by rfl) B.len PySem.boot_len (pa_cons (pv 0) pa_nil)) pe_int rfl) pss_any pss_nil)
      (pss_cons (ps_set (i := 1) nd rfl (.inl rfl) (pe_callTy0 cr_set0K (by rfl) B.set PyProof.Rows.boot_set))
      (pss_cons (ps_for PassesOwn.never rfl (pi_list (pv 0)) (pg_name (i := 2) nd rfl (.inl rfl))
        (pss_cons (ps_if (pt_cmpR or_sinK (pv 2) (pv 1) rfl) pss_any pss_nil)
        (pss_one (ps_expr (pe_saddK (pv 1) (pa_cons (pv 2) pa_nil))))))
      (pss_one (ps_ret (pe_callTy call_tupK (by rfl) ztuple PyProof.Rows.boot_tuple (pa_cons (pv 0) pa_nil)))))), ?_⟩
    refine ⟨_, rfl, a, _, rfl, .inl (sl_map ha), rfl, _, rfl, ite_both (fun c => ?_) fun _ => ?_⟩
    · have := V.int.inj (of_decide_eq_true c)
      rw [List.length_map] at this
      cases xs with
      | nil => exact absurd rfl ne
      | cons x xs => rw [List.length_cons] at this; omega
    refine ⟨rfl, fun D nD => ?_⟩
    have s0 := same_new (o := SetK P w D (fun _ => false) 0) nD
    refine ⟨.ref a, rfl, a, rfl, ⟨_, sl_map (s0 _ _ ha)⟩, for_list (xs := xs.map V.str) (fun i σ H' => ∃ (S : Key → Bool) (n : Nat) (y2 : Option V), σ = [some (.ref a), some (.ref D), y2] ∧ Same H H' ∧ (∀ b, H' b = none → H b = none) ∧ H' D = some (SetK P w D S n) ∧ n ≤ i ∧ ∀ x, S (.inr x) = true → x ∈ xs.take i)
      ⟨_, 0, none, rfl, s0, (fun b e => by grind only [= g_upd]), upd_same, Nat.le_refl _, (fun _ h => nomatch h)⟩ (fun i σ H' _ h => by obtain ⟨_, _, _, _, h, _⟩ := h; exact sl_map (h _ _ ha)) ?_ ?_⟩
    · rintro i x σ H' hx ⟨S, n, y2, rfl, sm, fr, hD, ni, hS⟩
      rw [List.getElem?_map] at hx
      obtain ⟨x, hv, rfl⟩ := Option.map_eq_some_iff.mp hx
      obtain ⟨hi, ex⟩ := List.getElem?_eq_some_iff.mp hv
      have out : S (.inr x) = false := by
        cases e : S (.inr x) with
        | false => rfl
        | true =>
          obtain ⟨j, hj, ej⟩ := List.mem_iff_getElem.mp (hS x e)
          rw [List.length_take] at hj
          rw [List.getElem_take] at ej
          have := (List.getElem_inj nd0).mp (ej.trans ex.symm)
          omega
      refine ⟨_, rfl, _, rfl, .inr x, D, S, n, rfl, rfl, hD, _, rfl, ite_both (fun c => ?_) fun _ => ?_⟩
      · have c' : S (.inr x) = true := c
        rw [out] at c'; cases c'
      refine ⟨_, rfl, ⟨D, S, n, rfl, hD⟩, _, rfl, D, .inr x, S, n, rfl, rfl, hD, by show n + 1 < 4096; omega, ?_⟩
      refine ⟨_, _, _, rfl, fun b o e => ?_, fun b e => ?_, upd_same, ?_, fun z hz => ?_⟩
      · have : b ≠ D := fun q => by rw [q, nD] at e; cases e
        rw [upd_ne this]; exact sm b o e
      · by_cases q : b = D
        · rw [q, upd_same] at e; cases e
        · rw [upd_ne q] at e; exact fr b e
      · rw [out]; show n + 1 ≤ i + 1; omega
      · rw [take_snoc hv]
        rcases Bool.or_eq_true_iff.mp hz with q | q
        · exact List.mem_append_left _ (hS z q)
        · have := Sum.inr.inj (of_decide_eq_true q)
          rw [this]; exact List.mem_append_right _ (List.mem_singleton.mpr rfl)
    · rintro σ H' ⟨S, n, y2, rfl, sm, fr, hD, _, _⟩
      refine ⟨_, rfl, a, _, rfl, sl_map (sm _ _ ha), fun l od nl po => k _ l (fun b o e => ?_) (fun b e => ?_) (fr l nl) ⟨od, po, upd_same⟩⟩
      · have : b ≠ l := fun q => by rw [q, fr l nl] at e; cases e
        rw [upd_ne this]; exact sm b o e
      · by_cases q : b = l
        · rw [q, upd_same] at e; cases e
        · rw [upd_ne q] at e; exact fr b e
abbrev sUni : Stmt := topS 19
abbrev nUni : List Str := ["names", "box", "name", "value"]
theorem scUni : FnScope nUni ["names", "box"] (defScope sUni) := ⟨rfl, rfl, rfl, by decide +kernel, rfl, by decide +kernel, by decide +kernel⟩
def spUni : Sp := fun vs H Q _ => ∃ (t b : Addr) (ns : List Str) (L : List Ent) (S : Str → List Int), vs = [.ref t, .ref b] ∧ TpK H t (ns.map V.str) ∧ ns.length ≤ 30 ∧ Bu H b L ∧ Fit L ns S ∧ (∀ x ∈ ns, (S x).length ≤ 30) ∧
  ∀ (H' : Hp) (r : Addr) (js : List Int), Same H H' → H r = none → H' r = some (.lst (js.map V.int)) → Srt js → (∀ v, v ∈ js ↔ ∃ x ∈ ns, v ∈ S x) → js.length ≤ 1000 → Q (.ref r) H'
theorem ok_Uni {f f0 : Addr} {fd fd0 : FuncData} (F : Fun K "union_of" "union_of" sUni f fd) (B : Bt mg) (CSof : Call P w K mg base 1 "side_of" f0 fd0 ["values"] spSof) :
    FnOk P w K mg base CX0 2 f fd ["names", "box"] spUni := by
  refine F.ok scUni (fun vs H Q E h => ?_) (fun cdv A outer s H vs Q E hr h => ?_)
  · obtain ⟨t, b, ns, L, S, rfl, _⟩ := h
    rfl
  · obtain ⟨t, b, ns, L, S, rfl, et, few, bx, fit, s30, q⟩ := h
    have hu := hu_of hr
    have nd := scUni.nd
    refine ⟨_, pss_one (ps_ret (pe_call CSof.ok (hr.mono (by decide)) (by rfl) CSof.at_ CSof.kp CSof.bd .nil pass0 (pa_cons (pe_lc2 (own := [("name", 2), ("value", 3)]) (vs1 := [3]) (g := gName 2) (tt := tYes) (wi1 := iList K (tDGet (tVar 1) (tVar 2))) (g1 := gName 3) (tt1 := tYes) (te := tVar 3) rfl nd (pi_tup (pv 0)) (blkOk_by (N := nUni) (sc := defScope sUni) (by decide +kernel)) (by decide) (fun _ _ _ _ _ => pg_name (i := 2) nd rfl (.inl rfl)) (fun _ _ _ _ _ => pts_nil)
        (fun _ _ _ _ _ => pi_list (pe_dget hu (pv 1) (pv 2) (fun _ _ => rfl))) (fun _ _ _ _ _ => pg_name (i := 3) nd rfl (.inl rfl)) (fun _ _ _ _ _ => pts_nil) (fun _ _ _ _ _ => (pv 3))) pa_nil))), ?_⟩
    refine ⟨_, rfl, t, rfl, ⟨_, et.sq⟩, fun Z nZ => ?_⟩
    have len : ∀ i, ((ns.take i).flatMap S).length ≤ i * 30 := fun i => by
      induction i with
      | zero => exact Nat.zero_le _
      | succ i ih =>
        cases hx : ns[i]? with
        | none =>
          have e : ns.take (i + 1) = ns.take i := by rw [List.take_add_one, hx]; exact List.append_nil _
          rw [e]; omega
        | some x =>
          rw [take_snoc hx, List.flatMap_append, List.length_append]
          have h1 := s30 x (List.mem_of_getElem? hx)
          have h2 : ([x].flatMap S).length = (S x).length := by simp
          omega
    refine walk_both (n := (ns.map V.str).length) (walk_tup (xs := ns.map V.str)) (fun i H' => Same H H' ∧ H' Z = some (.lst (((ns.take i).flatMap S).map V.int))) ⟨same_new nZ, upd_same⟩ (fun i H' _ h => (et.same h.1).sq) ?_ ?_
    · rintro i x0 H1 H2 hi ⟨s1, eZ⟩ ⟨rfl, hx0⟩
      rw [List.getElem?_map] at hx0
      obtain ⟨x, hx, rfl⟩ := Option.map_eq_some_iff.mp hx0
      have xn := List.mem_of_getElem? hx
      have hi' := (List.getElem?_eq_some_iff.mp hx).1
      obtain ⟨e, he, ge⟩ := fit.at_ (b := b) xn
      refine ⟨rfl, ?_⟩
      refine ⟨_, rfl, _, rfl, b, .ref e.2.1, rfl, (ge (bx.same' s1)).1, e.2.1, rfl, ⟨_, sl_map (ge (bx.same' s1)).2⟩, ?_⟩
      refine walk_both (n := ((S x).map V.int).length) (walk_list (xs := (S x).map V.int)) (fun j H' => Same H H' ∧ H' Z = some (.lst (((ns.take i).flatMap S ++ (S x).take j).map V.int))) ⟨s1, by rw [List.take_zero, List.append_nil]; exact eZ⟩ (fun j H' _ h => sl_map (ge (bx.same' h.1)).2) ?_ ?_
      · rintro j v0 H3 H4 hj ⟨s3, eZ3⟩ ⟨rfl, hv0⟩
        rw [List.getElem?_map] at hv0
        obtain ⟨v, hv, rfl⟩ := Option.map_eq_some_iff.mp hv0
        have l1 := len i
        have l2 := s30 x xn
        refine ⟨rfl, _, rfl, _, eZ3, ?_, same_at s3 nZ, ?_⟩
        · rw [List.length_map, List.length_append, List.length_take]
          exact small1000 (by have : i * 30 < 900 := by omega
                              omega)
        · rw [upd_same, take_snoc hv, ← List.append_assoc, List.map_append (l₂ := [v])] <;> rfl
      · rintro H3 ⟨s3, eZ3⟩
        rw [List.length_map, List.take_length] at eZ3
        refine ⟨s3, ?_⟩
        rw [take_snoc hx, List.flatMap_append]
        rw [show [x].flatMap S = S x by simp]
        exact eZ3
    · rintro H1 ⟨s1, eZ⟩
      rw [List.length_map, List.take_length] at eZ
      have l1 := len ns.length
      rw [List.take_length] at l1
      have l9 : (ns.flatMap S).length ≤ 1000 := by
        have : ns.length * 30 ≤ 900 := by omega
        omega
      refine ⟨Z, _, rfl, eZ, l9, fun H2 r js s2 nr er as mem => ?_⟩
      have lj : js.length ≤ (ns.flatMap S).length := len_le (as.imp fun {a b} (l : a < b) => (by omega : a ≠ b)) fun v hv => (mem v).mp hv
      exact q _ r js (s1.trans s2) (s1.free nr) er as (fun v => (mem v).trans List.mem_flatMap) (by omega)
def spUniL : Sp := fun vs H Q _ => ∃ (t b : Addr) (ns : List Str) (L : List Ent) (S : Str → List Int), vs = [.ref t, .ref b] ∧ H t = some (.lst (ns.map V.str)) ∧ ns.length ≤ 30 ∧ Bu H b L ∧ Fit L ns S ∧ (∀ x ∈ ns, (S x).length ≤ 30) ∧
  ∀ (H' : Hp) (r : Addr) (js : List Int), Same H H' → H r = none → H' r = some (.lst (js.map V.int)) → Srt js → (∀ v, v ∈ js ↔ ∃ x ∈ ns, v ∈ S x) → js.length ≤ 1000 → Q (.ref r) H'
theorem ok_UniL {f f0 : Addr} {fd fd0 : FuncData} (F : Fun K "union_of" "union_of" sUni f fd) (B : Bt mg) (CSof : Call P w K mg base 1 "side_of" f0 fd0 ["values"] spSof) :
    FnOk P w K mg base CX0 2 f fd ["names", "box"] spUniL := by
  refine F.ok scUni (fun vs H Q E h => ?_) (fun cdv A outer s H vs Q E hr h => ?_)
  · obtain ⟨t, b, ns, L, S, rfl, _⟩ := h
    rfl
  · obtain ⟨t, b, ns, L, S, rfl, et, few, bx, fit, s30, q⟩ := h
    have hu := hu_of hr
    have nd := scUni.nd
    refine ⟨_, pss_one (ps_ret (pe_call CSof.ok (hr.mono (by decide)) (by rfl) CSof.at_ CSof.kp CSof.bd .nil pass0 (pa_cons (pe_lc2 (own := [("name", 2), ("value", 3)]) (vs1 := [3]) (g := gName 2) (tt := tYes) (wi1 := iList K (tDGet (tVar 1) (tVar 2))) (g1 := gName 3) (tt1 := tYes) (te := tVar 3) rfl nd (pi_list (pv 0)) (blkOk_by (N := nUni) (sc := defScope sUni) (by decide +kernel)) (by decide) (fun _ _ _ _ _ => pg_name (i := 2) nd rfl (.inl rfl)) (fun _ _ _ _ _ => pts_nil)
        (fun _ _ _ _ _ => pi_list (pe_dget hu (pv 1) (pv 2) (fun _ _ => rfl))) (fun _ _ _ _ _ => pg_name (i := 3) nd rfl (.inl rfl)) (fun _ _ _ _ _ => pts_nil) (fun _ _ _ _ _ => (pv 3))) pa_nil))), ?_⟩
    refine ⟨_, rfl, t, rfl, ⟨_, sl_map et⟩, fun Z nZ => ?_⟩
    have len : ∀ i, ((ns.take i).flatMap S).length ≤ i * 30 := fun i => by
      induction i with
      | zero => exact Nat.zero_le _
      | succ i ih =>
        cases hx : ns[i]? with
        | none =>
          have e : ns.take (i + 1) = ns.take i := by rw [List.take_add_one, hx]; exact List.append_nil _
          rw [e]; omega
        | some x =>
          rw [take_snoc hx, List.flatMap_append, List.length_append]
          have h1 := s30 x (List.mem_of_getElem? hx)
          have h2 : ([x].flatMap S).length = (S x).length := by simp
          omega
    refine walk_both (n := (ns.map V.str).length) (walk_list (xs := ns.map V.str)) (fun i H' => Same H H' ∧ H' Z = some (.lst (((ns.take i).flatMap S).map V.int))) ⟨same_new nZ, upd_same⟩ (fun i H' _ h => sl_map (h.1 _ _ et)) ?_ ?_
    · rintro i x0 H1 H2 hi ⟨s1, eZ⟩ ⟨rfl, hx0⟩
      rw [List.getElem?_map] at hx0
      obtain ⟨x, hx, rfl⟩ := Option.map_eq_some_iff.mp hx0
      have xn := List.mem_of_getElem? hx
      have hi' := (List.getElem?_eq_some_iff.mp hx).1
      obtain ⟨e, he, ge⟩ := fit.at_ (b := b) xn
      refine ⟨rfl, ?_⟩
      refine ⟨_, rfl, _, rfl, b, .ref e.2.1, rfl, (ge (bx.same' s1)).1, e.2.1, rfl, ⟨_, sl_map (ge (bx.same' s1)).2⟩, ?_⟩
      refine walk_both (n := ((S x).map V.int).length) (walk_list (xs := (S x).map V.int)) (fun j H' => Same H H' ∧ H' Z = some (.lst (((ns.take i).flatMap S ++ (S x).take j).map V.int))) ⟨s1, by rw [List.take_zero, List.append_nil]; exact eZ⟩ (fun j H' _ h => sl_map (ge (bx.same' h.1)).2) ?_ ?_
      · rintro j v0 H3 H4 hj ⟨s3, eZ3⟩ ⟨rfl, hv0⟩
        rw [List.getElem?_map] at hv0
        obtain ⟨v, hv, rfl⟩ := Option.map_eq_some_iff.mp hv0
        have l1 := len i
        have l2 := s30 x xn
        refine ⟨rfl, _, rfl, _, eZ3, ?_, same_at s3 nZ, ?_⟩
        · rw [List.length_map, List.length_append, List.length_take]
          exact small1000 (by have : i * 30 < 900 := by omega
                              omega)
        · rw [upd_same, take_snoc hv, ← List.append_assoc, List.map_append (l₂ := [v])] <;> rfl
      · rintro H3 ⟨s3, eZ3⟩
        rw [List.length_map, List.take_length] at eZ3
        refine ⟨s3, ?_⟩
        rw [take_snoc hx, List.flatMap_append]
        rw [show [x].flatMap S = S x by simp]
        exact eZ3
    · rintro H1 ⟨s1, eZ⟩
      rw [List.length_map, List.take_length] at eZ
      have l1 := len ns.length
      rw [List.take_length] at l1
      have l9 : (ns.flatMap S).length ≤ 1000 := by
        have : ns.length * 30 ≤ 900 := by omega
        omega
      refine ⟨Z, _, rfl, eZ, l9, fun H2 r js s2 nr er as mem => ?_⟩
      have lj : js.length ≤ (ns.flatMap S).length := len_le (as.imp fun {a b} (l : a < b) => (by omega : a ≠ b)) fun v hv => (mem v).mp hv
      exact q _ r js (s1.trans s2) (s1.free nr) er as (fun v => (mem v).trans List.mem_flatMap) (by omega)
abbrev sFem : Stmt := topS 17
abbrev nFem : List Str := ["names", "box", "name"]
theorem scFem : FnScope nFem ["names", "box"] (defScope sFem) := ⟨rfl, rfl, rfl, by decide +kernel, rfl, by decide +kernel, by decide +kernel⟩
def spFem : Sp := fun vs H Q _ => ∃ (t b : Addr) (ns : List Str) (L : List Ent) (S : Str → List Int), vs = [.ref t, .ref b] ∧ TpK H t (ns.map V.str) ∧ Bu H b L ∧ Fit L ns S ∧
  ((∀ x ∈ ns, S x ≠ []) → Q .non H) ∧ (∀ x ∈ ns, S x = [] → fe S ns = some x → Q (.str x) H)
theorem ok_Fem {f  : Addr} {fd  : FuncData} (F : Fun K "first_empty" "first_empty" sFem f fd) (B : Bt mg) :
    FnOk P w K mg base CX0 1 f fd ["names", "box"] spFem := by
  refine F.ok scFem (fun vs H Q E h => ?_) (fun cdv A outer s H vs Q E hr h => ?_)
  · obtain ⟨t, b, ns, L, S, rfl, _⟩ := h
    rfl
  · obtain ⟨t, b, ns, L, S, rfl, et, B1, F1, q1, q2⟩ := h
    have hu := hu_of hr
    have nd := scFem.nd
    refine ⟨_, pss_cons (ps_for PassesOwn.never rfl (pi_tup (pv 0)) (pg_name (i := 2) nd rfl (.inl rfl))
        (pss_one (ps_if (pt_cmpR op_eq (pe_callB call_len_seq (by rfl) B.len PySem.boot_len (pa_cons (pe_dget hu (pv 1) (pv 2) (fun _ _ => rfl)) pa_nil)) pe_int rfl)
            (pss_one (ps_ret (pv 2)))
            pss_nil)))
      (pss_one (ps_ret pe_non)), ?_⟩
    refine ⟨.ref t, rfl, t, rfl, ⟨_, et.sq⟩, for_tup (xs := ns.map V.str) (fun i σ H' => H' = H ∧ (∃ y, σ = [some (.ref t), some (.ref b), y]) ∧ ∀ x ∈ ns.take i, S x ≠ []) ⟨rfl, ⟨none, rfl⟩, (fun _ h => nomatch h)⟩ (fun i σ H' _ h => by obtain ⟨rfl, _⟩ := h; exact et.sq) ?_ ?_⟩
    · rintro i x σ H' hx ⟨rfl, ⟨y, rfl⟩, hn⟩
      rw [List.getElem?_map] at hx
      obtain ⟨x, hv, rfl⟩ := Option.map_eq_some_iff.mp hx
      have xm := List.mem_of_getElem? hv
      obtain ⟨a, ga, ea⟩ := Fit.get B1.toBx F1 xm
      refine ⟨_, rfl, _, rfl, b, .ref a, rfl, ga, a, _, rfl, .inl (sl_map ea), rfl, _, rfl, ite_both (fun c => ?_) fun c => ?_⟩
      · have := V.int.inj (of_decide_eq_true c)
        rw [List.length_map] at this
        exact ⟨_, rfl, q2 x xm (List.length_eq_zero_iff.mp (by omega)) (fe_at hv (List.length_eq_zero_iff.mp (by omega)) hn)⟩
      · refine ⟨rfl, ⟨_, rfl⟩, fun y hy => ?_⟩
        rw [take_snoc hv] at hy
        rcases List.mem_append.mp hy with z | z
        · exact hn y z
        · intro e
          rw [List.mem_singleton.mp z] at e
          exact of_decide_eq_false c (by rw [e] <;> rfl)
    · rintro σ H' ⟨rfl, _, hn⟩
      rw [List.length_map, List.take_length] at hn
      exact q1 hn
abbrev sShw : Stmt := topS 18
abbrev nShw : List Str := ["names", "box", "name"]
theorem scShw : FnScope nShw ["names", "box", "name"] (defScope sShw) := ⟨rfl, rfl, rfl, by decide +kernel, rfl, by decide +kernel, by decide +kernel⟩
def spShw : Sp := fun vs H Q _ => ∃ (t b : Addr) (x : Str) (ns : List Str) (L : List Ent) (S : Str → List Int), vs = [.ref t, .ref b, .str x] ∧ TpK H t (ns.map V.str) ∧ Bu H b L ∧ Fit L ns S ∧ Q (.bl (decide (x ∈ ns ∧ S x = []))) H
theorem ok_Shw {f  : Addr} {fd  : FuncData} (F : Fun K "shows_empty" "shows_empty" sShw f fd) (B : Bt mg) :
    FnOk P w K mg base CX0 1 f fd ["names", "box", "name"] spShw := by
  refine F.ok scShw (fun vs H Q E h => ?_) (fun cdv A outer s H vs Q E hr h => ?_)
  · obtain ⟨t, b, x, ns, L, S, rfl, _⟩ := h
    rfl
  · obtain ⟨t, b, x, ns, L, S, rfl, et, B1, F1, q⟩ := h
    have hu := hu_of hr
    have nd := scShw.nd
    refine ⟨_, pss_one (ps_ret (pe_and (pe_cmpR (r := rIn K false) op_in_seq (pv 2) (pv 0) rfl) (pe_one (pe_cmpR op_eq (pe_callB call_len_seq (by rfl) B.len PySem.boot_len (pa_cons (pe_dget hu (pv 1) (pv 2) (fun _ _ => rfl)) pa_nil)) pe_int rfl)))), ?_⟩
    refine ⟨_, rfl, _, rfl, t, _, rfl, .inr et.sq, rfl, flats_str _, ?_⟩
    rw [if_neg (by decide), in_strs]
    by_cases hx : x ∈ ns
    · rw [decide_eq_true hx]
      obtain ⟨a, ga, ea⟩ := Fit.get B1.toBx F1 hx
      refine ⟨true, rfl, iteT ⟨_, rfl, _, rfl, b, .ref a, rfl, ga, a, _, rfl, .inl (sl_map ea), rfl, ?_⟩⟩
      have e : decide (V.int (((S x).map V.int).length : Nat) = V.int 0) = decide (x ∈ ns ∧ S x = []) := by
        rw [Bool.eq_iff_iff, decide_eq_true_iff, decide_eq_true_iff, List.length_map]
        constructor
        · intro z; exact ⟨hx, List.length_eq_zero_iff.mp (by have := V.int.inj z; omega)⟩
        · intro z; rw [z.2] <;> rfl
      rw [e]
      exact q
    · rw [decide_eq_false hx]
      refine ⟨false, rfl, iteF ?_⟩
      rw [decide_eq_false fun z => hx z.1] at q
      exact q
abbrev sUin : Stmt := inClass (topS 22) 0
abbrev nUin : List Str := ["self", "names"]
theorem scUin : FnScope nUin ["self", "names"] (defScope sUin) := ⟨rfl, rfl, rfl, by decide +kernel, rfl, by decide +kernel, by decide +kernel⟩
def spUin (C : Addr) : Sp := fun vs H Q _ => ∃ (p dx nl : Addr) (ns : List Str), vs = [.ref p, .ref nl] ∧ H p = some (.ins C dx []) ∧ H nl = some (.lst (ns.map V.str)) ∧ ns ≠ [] ∧ ns.Nodup ∧ ns.length ≤ 1000 ∧
  ∀ (H' : Hp), Ul C H' p ns → (∀ b o, b ≠ p → H b = some o → H' b = some o) → Q .non H'
theorem ok_Uin {f C fC : Addr} {fd fdC : FuncData} (F : Fun K "__init__" "Unlike.__init__" sUin f fd) (B : Bt mg) (T : Kls K mg "Unlike" C uF) (Ck : Call P w K mg base 1 "checked_names" fC fdC ["names"] spChk) : FnOk P w K mg base CX0 2 f fd ["self", "names"] (spUin C) := by
  refine F.ok scUin (fun vs H Q E h => ?_) (fun cdv A outer s H vs Q E hr h => ?_)
  · obtain ⟨p, dx, nl, ns, rfl, _⟩ := h
    rfl
  · obtain ⟨p, dx, nl, ns, rfl, hp, en, ne, nd0, n1000, k⟩ := h
    have nd := scUin.nd
    refine ⟨_, pss_one (ps_fld (pv 0) (pe_call Ck.ok (hr.mono (by decide)) (by rfl) Ck.at_ Ck.kp Ck.bd .nil pass0 (pa_cons (pv 1) pa_nil)) rfl), ?_⟩
    refine ⟨_, rfl, nl, ns, rfl, en, ne, nd0, n1000, fun H1 t s1 fr1 nt et => ?_⟩
    have tp : t ≠ p := fun q => by rw [q, hp] at nt; cases nt
    refine ⟨_, rfl, p, C, dx, _, rfl, s1 _ _ hp, T.cl, T.no _ (by simp), by show 0 < 1000; decide, ?_⟩
    refine k _ ⟨dx, t, upd_same, ?_⟩ fun b o h1 h2 => by rw [upd_ne h1]; exact s1 _ _ h2
    obtain ⟨o, po, e⟩ := et
    exact ⟨o, po, by rw [upd_ne tp]; exact e⟩
abbrev sOne : Stmt := inClass (topS 22) 6
abbrev nOne : List Str := ["self", "box", "value"]
theorem scOne : FnScope nOne ["self", "box"] (defScope sOne) := ⟨rfl, rfl, rfl, by decide +kernel, rfl, by decide +kernel, by decide +kernel⟩
def spOne (C : Addr) : Sp := fun vs H Q _ => ∃ (p b : Addr) (ns : List Str) (L : List Ent) (S : Str → List Int), vs = [.ref p, .ref b] ∧ Ul C H p ns ∧ ns.length ≤ 30 ∧ Bu H b L ∧ Fit L ns S ∧ (∀ x ∈ ns, (S x).length ≤ 30) ∧
  ∀ (H' : Hp) (r : Addr) (js : List Int), Same H H' → H r = none → H' r = some (.dK (zK V.int (ones js))) → (∀ v, v ∈ js ↔ ∃ x ∈ ns, v ∈ S x) → js.length ≤ 1000 → Q (.ref r) H'
theorem ok_One {f C f0 : Addr} {fd fd0 : FuncData} (F : Fun K "_ones" "Unlike._ones" sOne f fd) (B : Bt mg) (T : Kls K mg "Unlike" C uF) (CUni : Call P w K mg base 2 "union_of" f0 fd0 ["names", "box"] spUni) : FnOk P w K mg base CX0 3 f fd ["self", "box"] (spOne C) := by
  refine F.ok scOne (fun vs H Q E h => ?_) (fun cdv A outer s H vs Q E hr h => ?_)
  · obtain ⟨p, b, ns, L, S, rfl, _⟩ := h
    rfl
  · obtain ⟨p, b, ns, L, S, rfl, ⟨dx, t, hp, et⟩, few, bx, fit, s30, q⟩ := h
    have hu := hu_of hr
    have nd := scOne.nd
    refine ⟨_, pss_one (ps_ret (pe_dc (own := [("value", 2)]) (g := gName 2) (tt := tYes) (tk := tVar 2) rfl nd (pi_list (pe_call CUni.ok (hr.mono (by decide)) (by rfl) CUni.at_ CUni.kp CUni.bd .nil pass0 (pa_cons (pe_fld (pv 0) rfl) (pa_cons (pv 1) pa_nil)))) (blkOk_by (N := nOne) (sc := defScope sOne) (by decide +kernel)) (fun _ _ _ _ _ => pg_name (i := 2) nd rfl (.inl rfl)) (fun _ _ _ _ _ => pts_nil)
          (fun _ _ _ _ _ => (pv 2)) (fun _ _ _ _ _ => pe_int))), ?_⟩
    refine ⟨_, rfl, p, C, dx, _, _, rfl, hp, T.cl, T.no _ (by simp), ulook _, _, rfl, t, b, ns, L, S, rfl, et, few, bx, fit, s30, fun H1 l js s1 nl el as mem lj => ?_⟩
    refine ⟨l, rfl, ⟨_, sl_map el⟩, fun D nD => dc_it (walk_list (xs := js.map V.int)) (fun i H' => Same H1 H' ∧ H' D = some (.dK (zK V.int (ones (js.take i))))) ⟨same_new nD, upd_same⟩ (fun i H' _ h => sl_map (h.1 _ _ el)) ?_ ?_⟩
    · rintro i x H2 H3 hi ⟨s2, eD⟩ ⟨rfl, hx0⟩
      rw [List.getElem?_map] at hx0
      obtain ⟨v, hv, rfl⟩ := Option.map_eq_some_iff.mp hx0
      have hi' := (List.getElem?_eq_some_iff.mp hv).1
      refine ⟨rfl, .int v, rfl, _, .inl v, rfl, eD, by rw [zK_len, ones, List.length_map, List.length_take]; exact small1000 (by omega), same_at s2 nD, ?_⟩
      rw [upd_same]
      show some (HO.dK (putK _ (.inl v) (V.int 1))) = _
      rw [zput, putZ_new (by rw [ones_keys]; exact not_take (srt_ndI as) hv), take_snoc hv]
      unfold ones
      rw [List.map_append] <;> rfl
    · rintro H2 ⟨s2, eD⟩
      rw [List.length_map, List.take_length] at eD
      exact q _ D js (s1.trans s2) (s1.free nD) eD mem lj
end
end K57
set_option Elab.async false
set_option linter.all false
set_option maxRecDepth 100000
set_option maxHeartbeats 4000000
namespace K57
open PySem PySem.Spec PyProof.Rows L2 Cs CsX
/-! ### crowds -/
def Few (S : Str → List Int) (c : List Str) : Prop := ∃ K : List Int, K.Nodup ∧ (∀ v, v ∈ K ↔ ∃ x ∈ c, v ∈ S x) ∧ K.length < c.length
def IsCr (ns : List Str) (S : Str → List Int) (c : List Str) : Prop := (∀ x ∈ c, x ∈ ns) ∧ c.Nodup ∧ Few S c
theorem few_iff {S : Str → List Int} {c : List Str} {K : List Int} (nd : K.Nodup) (mem : ∀ v, v ∈ K ↔ ∃ x ∈ c, v ∈ S x) : Few S c ↔ K.length < c.length := by
  refine ⟨fun ⟨J, h1, h2, h3⟩ => ?_, fun h => ⟨K, nd, mem, h⟩⟩
  have : K.length = J.length := ((List.perm_ext_iff_of_nodup nd h1).mpr fun v => by rw [mem, h2]).length_eq
  omega
/-- a crowd leaves no room -/
theorem crowd_bare {ns c : List Str} {S : Str → List Int} (h : IsCr ns S c) : ¬ Feas ns S := fun ⟨g, G⟩ => by
  obtain ⟨sub, nd, K, nK, mem, lt⟩ := h
  have inj : (c.map g).Nodup := nd_mapO nd fun x hx y hy e => G.inj x (sub x hx) y (sub y hy) e
  have := List.Nodup.length_le_of_subset inj (l₂ := K) fun v hv => by
    obtain ⟨x, hx, rfl⟩ := List.mem_map.mp hv
    exact (mem _).mpr ⟨x, hx, G.mem x (sub x hx)⟩
  rw [List.length_map] at this
  omega
theorem ones_no {js : List Int} {v : Int} (h : v ∉ js) : zget (ones js) v = none := by
  cases e : zget (ones js) v with
  | none => rfl
  | some k => exact absurd (ones_get e).2 h
/-- the crowd that the search finds -/
def Det (ns : List Str) (S : Str → List Int) (c : List Str) : Prop := ∃ js : List Int, (∀ v, v ∈ js ↔ ∃ x ∈ ns, v ∈ S x) ∧ Grow (zget (ones js)) S ns [] (.inr c)
theorem Det.one {ns c d : List Str} {S : Str → List Int} (a : Det ns S c) (b : Det ns S d) : c = d := by
  obtain ⟨js, m1, g1⟩ := a
  obtain ⟨ks, m2, g2⟩ := b
  have e : zget (ones js) = zget (ones ks) := funext fun v => by
    by_cases h : v ∈ js
    · rw [ones_at h, ones_at ((m2 v).mpr ((m1 v).mp h))]
    · rw [ones_no h, ones_no fun z => h ((m1 v).mpr ((m2 v).mp z))]
  rw [e] at g1
  exact Sum.inr.inj (g1.one g2)
/-- what the search tells is a crowd -/
theorem crowd_of {ns c : List Str} {S : Str → List Int} {js : List Int} (C : Crowd (zget (ones js)) S ns c) : IsCr ns S c := by
  obtain ⟨K, h1, h2, h3, h4⟩ := C.few
  refine ⟨C.sub, C.nd, K, h1, fun v => ⟨fun h => (h3 v h).2, fun ⟨x, hx, hv⟩ => h2 x hx v hv⟩, ?_⟩
  have e : ∀ J : List Int, (∀ w ∈ J, (zget (ones js) w).isSome = true) → (J.map fun w => (zget (ones js) w).getD 0).sum = (J.length : Int) := by
    intro J
    induction J with
    | nil => intro _; rfl
    | cons w J ih =>
      intro h
      obtain ⟨k, hk⟩ := Option.isSome_iff_exists.mp (h w List.mem_cons_self)
      have := (ones_get hk).1
      rw [List.map_cons, List.sum_cons, ih fun u hu => h u (List.mem_cons_of_mem _ hu), hk, this, List.length_cons]
      show (1 : Int) + _ = _
      omega
  have := e K fun w hw => (h3 w hw).1
  omega
theorem ones_sum {js us : List Int} (sub : ∀ v ∈ us, v ∈ js) : (us.map fun w => (zget (ones js) w).getD 0).sum = (us.length : Int) := by
  induction us with
  | nil => rfl
  | cons w us ih =>
    rw [List.map_cons, List.sum_cons, ih fun v hv => sub v (List.mem_cons_of_mem _ hv), ones_at (sub w List.mem_cons_self), List.length_cons]
    show (1 : Int) + _ = _
    omega
section
variable {P : Program} {w : World} {K : PySem.W.Frag} {mg : Str → Option Value} {base : Heap}
abbrev sIcr : Stmt := topS 20
abbrev nIcr : List Str := ["names", "box", "highs", "crowd", "earlier", "name", "union", "value"]
theorem scIcr : FnScope nIcr ["names", "box", "highs", "crowd"] (defScope sIcr) := ⟨rfl, rfl, rfl, by decide +kernel, rfl, by decide +kernel, by decide +kernel⟩
def spIcr : Sp := fun vs H Q _ => ∃ (t b hd l : Addr) (ns c : List Str) (L : List Ent) (S : Str → List Int) (js : List Int), vs = [.ref t, .ref b, .ref hd, .ref l] ∧ TpK H t (ns.map V.str) ∧ Bu H b L ∧ Fit L ns S ∧ (∀ x ∈ ns, (S x).length ≤ 30) ∧ H hd = some (.dK (zK V.int (ones js))) ∧ (∀ v, v ∈ js ↔ ∃ x ∈ ns, v ∈ S x) ∧ H l = some (.lst (c.map V.str)) ∧ c.length ≤ 30 ∧
  ∀ (H' : Hp) (r : Bool), Same H H' → (r = true ↔ IsCr ns S c) → Q (.bl r) H'
theorem ok_Icr {f f0 : Addr} {fd fd0 : FuncData} (F : Fun K "is_crowd" "is_crowd" sIcr f fd) (B : Bt mg) (zsum : mg "sum" = none) (CUniL : Call P w K mg base 2 "union_of" f0 fd0 ["names", "box"] spUniL) :
    FnOk P w K mg base CX0 3 f fd ["names", "box", "highs", "crowd"] spIcr := by
  refine F.ok scIcr (fun vs H Q E h => ?_) (fun cdv A outer s H vs Q E hr h => ?_)
  · obtain ⟨t, b, hd, l, ns, c, L, S, js, rfl, _⟩ := h
    rfl
  · obtain ⟨t, b, hd, l, ns, c, L, S, js, rfl, et, bx, fit, s30, eh, mem, el, few, q⟩ := h
    have hu := hu_of hr
    have nd := scIcr.nd
    refine ⟨_, pss_cons (ps_set (i := 4) nd rfl (.inl rfl) (pe_callTy0 cr_set0K (by rfl) B.set PyProof.Rows.boot_set))
      (pss_cons (ps_for PassesOwn.never rfl (pi_list (pv 3)) (pg_name (i := 5) nd rfl (.inl rfl))
        (pss_cons (ps_if (PW.pt (pw_or (pt_cmpR (r := rIn K true) op_notIn_seq (pv 5) (pv 0) rfl) (pw_or1 (pt_cmpR or_sinK (pv 5) (pv 4) rfl)))) (pss_one (ps_ret pe_bl)) pss_nil)
        (pss_one (ps_expr (pe_saddK (pv 4) (pa_cons (pv 5) pa_nil))))))
      (pss_cons (ps_set (i := 6) nd rfl (.inl rfl) (pe_call CUniL.ok (hr.mono (by decide)) (by rfl) CUniL.at_ CUniL.kp CUniL.bd .nil pass0 (pa_cons (pv 3) (pa_cons (pv 1) pa_nil))))
      (pss_one (ps_ret (L2.pe_and (pe_callB (cr_all rfl) (by rfl) B.all PyProof.Rows.boot_all (pa_cons (pe_lc (own := [("value", 7)]) (g := gName 7) (tt := tYes) (te := tDIn (tVar 7) (tVar 2)) rfl nd (pi_list (pv 6)) (blkOk_by (N := nIcr) (sc := defScope sIcr) (by decide +kernel)) (fun _ _ _ _ _ => pg_name (i := 7) nd rfl (.inl rfl)) (fun _ _ _ _ _ => pts_nil)
            (fun _ _ _ _ _ => (pe_cmp (pc_din hu (pv 7) (pv 2))))) pa_nil))
          (pe_one (pe_cmpR op_lt (pe_callB (cr_sum rfl) (by rfl) zsum PyProof.Rows.boot_sum (pa_cons (pe_lc (own := [("value", 7)]) (g := gName 7) (tt := tYes) rfl nd (pi_list (pv 6)) (blkOk_by (N := nIcr) (sc := defScope sIcr) (by decide +kernel)) (fun _ _ _ _ _ => pg_name (i := 7) nd rfl (.inl rfl)) (fun _ _ _ _ _ => pts_nil)
            (fun _ _ _ _ _ => (pe_dget hu (pv 2) (pv 7) (fun _ _ => rfl)))) pa_nil)) (pe_callB call_len_seq (by rfl) B.len PySem.boot_len (pa_cons (pv 3) pa_nil)) rfl))))))), ?_⟩
    have no : ∀ {H' : Hp}, Same H H' → ¬ IsCr ns S c → Q (.bl false) H' := fun s h => q _ _ s ⟨(fun z => nomatch z), fun z => absurd z h⟩
    refine ⟨rfl, fun D nD => ?_⟩
    have s0 := same_new (o := SetK P w D (fun _ => false) 0) nD
    refine ⟨_, rfl, l, rfl, ⟨_, sl_map (s0 _ _ el)⟩, for_list (xs := c.map V.str) (fun i σ H' => ∃ (S' : Key → Bool) (n : Nat) (y5 : Option V), σ = [some (.ref t), some (.ref b), some (.ref hd), some (.ref l), some (.ref D), y5, none, none] ∧ Same H H' ∧ H' D = some (SetK P w D S' n) ∧ n ≤ i ∧ (∀ x, S' (.inr x) = true ↔ x ∈ c.take i) ∧ (∀ x ∈ c.take i, x ∈ ns) ∧ (c.take i).Nodup)
      ⟨_, 0, none, rfl, s0, upd_same, Nat.le_refl _, (fun _ => ⟨(fun h => nomatch h), (fun h => nomatch h)⟩), (fun _ h => nomatch h), List.Pairwise.nil⟩ (fun i σ H' _ h => by obtain ⟨_, _, _, _, h, _⟩ := h; exact sl_map (h _ _ el)) ?_ ?_⟩
    · rintro i x σ H1 hx ⟨S', n, y5, rfl, sm, hD, ni, hS, sub, ndc⟩
      rw [List.getElem?_map] at hx
      obtain ⟨x, hv, rfl⟩ := Option.map_eq_some_iff.mp hx
      have xm := List.mem_of_getElem? hv
      have hi := (List.getElem?_eq_some_iff.mp hv).1
      refine ⟨_, rfl, _, rfl, t, _, rfl, .inr (et.same sm).sq, rfl, flat_strs _, ?_⟩
      rw [if_pos rfl, in_strs]
      refine ⟨_, rfl, ite_both (fun c1 => ?_) fun c1 => ⟨_, rfl, _, rfl, .inr x, D, S', n, rfl, rfl, hD, _, rfl, ite_both (fun c2 => ?_) fun c2 => ?_⟩⟩
      · refine no sm fun z => ?_
        rw [decide_eq_true (z.1 x xm)] at c1; cases c1
      · refine no sm fun z => ?_
        exact not_take z.2.1 hv ((hS x).mp c2)
      have xn : x ∈ ns := Decidable.byContradiction fun z => by rw [decide_eq_false z] at c1; cases c1
      have nx : x ∉ c.take i := fun z => by have := (hS x).mpr z; rw [show S' (.inr x) = false from c2] at this; cases this
      refine ⟨_, rfl, ⟨D, S', n, rfl, hD⟩, _, rfl, D, .inr x, S', n, rfl, rfl, hD, by show n + 1 < 4096; omega, ?_⟩
      refine ⟨_, _, _, rfl, same_at sm nD, upd_same, ?_, fun z => ?_, fun z hz => ?_, ?_⟩
      · rw [show S' (.inr x) = false from c2]; show n + 1 ≤ i + 1; omega
      · rw [take_snoc hv, List.mem_append, List.mem_singleton, ← hS z]
        constructor
        · intro h
          rcases Bool.or_eq_true_iff.mp h with q | q
          · exact .inl q
          · exact .inr (Sum.inr.inj (of_decide_eq_true q))
        · rintro (h | h)
          · exact Bool.or_eq_true_iff.mpr (.inl h)
          · exact Bool.or_eq_true_iff.mpr (.inr (decide_eq_true (by rw [h])))
      · rw [take_snoc hv] at hz
        rcases List.mem_append.mp hz with h | h
        · exact sub z h
        · rw [List.mem_singleton.mp h]; exact xn
      · rw [take_snoc hv, List.nodup_append]
        refine ⟨ndc, List.pairwise_singleton _ _, fun u hu v hv' => ?_⟩
        rw [List.mem_singleton.mp hv']
        exact fun z => nx (z ▸ hu)
    rintro σ H1 ⟨S', n, y5, rfl, s1, hD, _, _, sub, ndc⟩
    rw [List.length_map, List.take_length] at sub ndc
    have fitc : Fit L c S := fun x hx => fit x (sub x hx)
    refine ⟨_, rfl, _, rfl, l, b, c, L, S, rfl, s1 _ _ el, few, bx.same' s1, fitc, fun x hx => s30 x (sub x hx), fun H2 r us s2 nr er as memu lu => ?_⟩
    have S2 := s1.trans s2
    have usub : ∀ v ∈ us, v ∈ js := fun v hv => by
      obtain ⟨x, hx, h⟩ := (memu v).mp hv
      exact (mem v).mpr ⟨x, sub x hx, h⟩
    have nus := srt_ndI as
    refine ⟨_, rfl, r, rfl, ⟨_, sl_map er⟩, fun Z nZ => lc_list (xs := us.map V.int) (fun i H' => Same H2 H' ∧ H' Z = some (.lst ((List.replicate i true).map V.bl))) ⟨same_new nZ, upd_same⟩ (fun i H' _ h => sl_map (h.1 _ _ er)) ?_ ?_⟩
    · rintro i x0 H3 hx ⟨s3, eZ⟩
      rw [List.getElem?_map] at hx
      obtain ⟨v, hv, rfl⟩ := Option.map_eq_some_iff.mp hx
      have hi := (List.getElem?_eq_some_iff.mp hv).1
      have gh := zdget (g := V.int) (s3 _ _ (S2 _ _ eh)) v
      rw [ones_at (usub v (List.mem_of_getElem? hv))] at gh
      refine ⟨rfl, _, rfl, _, rfl, hd, _, rfl, gh, _, eZ, by rw [List.length_map, List.length_replicate]; exact small1000 (by omega), same_at s3 nZ, ?_⟩
      rw [upd_same, List.replicate_succ', List.map_append] <;> rfl
    rintro H3 ⟨s3, eZ⟩
    refine ⟨Z, _, rfl, sl_map eZ, ?_⟩
    rw [all_repl]
    refine ⟨_, rfl, iteT ?_⟩
    have S3 := S2.trans s3
    have er3 := s3 _ _ er
    refine ⟨_, rfl, r, rfl, ⟨_, sl_map er3⟩, fun Y nY => lc_list (xs := us.map V.int) (fun i H' => Same H3 H' ∧ H' Y = some (.lst (((us.take i).map fun w => (zget (ones js) w).getD 0).map V.int))) ⟨same_new nY, upd_same⟩ (fun i H' _ h => sl_map (h.1 _ _ er3)) ?_ ?_⟩
    · rintro i x0 H4 hx ⟨s4, eY⟩
      rw [List.getElem?_map] at hx
      obtain ⟨v, hv, rfl⟩ := Option.map_eq_some_iff.mp hx
      have hi := (List.getElem?_eq_some_iff.mp hv).1
      have gh := zdget (g := V.int) (s4 _ _ (S3 _ _ eh)) v
      have o1 := ones_at (usub v (List.mem_of_getElem? hv))
      rw [o1] at gh
      refine ⟨rfl, _, rfl, _, rfl, hd, .int 1, rfl, gh, _, eY, by rw [List.length_map, List.length_map, List.length_take]; exact small1000 (by omega), same_at s4 nY, ?_⟩
      rw [upd_same, take_snoc hv, List.map_append, List.map_append]
      show some (HO.lst (_ ++ [V.int 1])) = some (HO.lst (_ ++ [V.int ((zget (ones js) v).getD 0)]))
      rw [o1] <;> rfl
    rintro H4 ⟨s4, eY⟩
    rw [List.length_map, List.take_length] at eY
    have S4 := S3.trans s4
    refine ⟨Y, _, rfl, sl_map eY, _, rfl, l, _, rfl, .inl (sl_map (S4 _ _ el)), _, _, rfl, rfl, q _ _ S4 ?_⟩
    rw [ones_sum usub, decide_eq_true_iff, List.length_map]
    refine ⟨fun h => ⟨sub, ndc, (few_iff nus memu).mpr (by omega)⟩, fun h => ?_⟩
    have := (few_iff nus memu).mp h.2.2
    omega
end
end K57
set_option Elab.async false
set_option linter.all false
set_option maxRecDepth 100000
set_option maxHeartbeats 4000000
namespace K57
open PySem PySem.Spec PyProof.Rows L2 Cs CsX
/-- what certificate tells -/
inductive Cto (ns : List Str) (S : Str → List Int) (H H1 : Hp) : V → Prop
  | none (n : fe S ns = Option.none) (f : Feas ns S) : Cto ns S H H1 .non
  | empty (T : Addr) (x : Str) (n : fe S ns = some x) (nT : H T = Option.none) (eT : H1 T = some (.tup [.str "empty", .str x])) : Cto ns S H H1 (.ref T)
  | crowd (T r : Addr) (c : List Str) (n : fe S ns = Option.none) (nT : H T = Option.none) (eT : H1 T = some (.tup [.str "crowd", .ref r])) (nr : H r = Option.none) (er : H1 r = some (.lst (c.map V.str))) (cr : IsCr ns S c) (gr : Det ns S c) : Cto ns S H H1 (.ref T)
/-- a certificate, and whether it shows that the box is bare -/
inductive Crt (ns : List Str) (S : Str → List Int) (H : Hp) : Str → V → Bool → Prop
  | empty (x : Str) : Crt ns S H "empty" (.str x) (decide (x ∈ ns ∧ S x = []))
  | crowd (l : Addr) (c : List Str) (r : Bool) (el : H l = some (.lst (c.map V.str))) (few : c.length ≤ 30) (h : r = true ↔ IsCr ns S c) : Crt ns S H "crowd" (.ref l) r
  | other (w : Str) (c : V) (h1 : w ≠ "empty") (h2 : w ≠ "crowd") : Crt ns S H w c false
theorem Crt.same {ns : List Str} {S : Str → List Int} {H H' : Hp} {w : Str} {c : V} {b : Bool} (h : Crt ns S H w c b) (s : Same H H') : Crt ns S H' w c b := by
  cases h with
  | empty x => exact .empty x
  | crowd l cs _ el few h => exact .crowd l cs _ (s _ _ el) few h
  | other w c h1 h2 => exact .other w c h1 h2
section
variable {P : Program} {w : World} {K : PySem.W.Frag} {mg : Str → Option Value} {base : Heap}
abbrev sCer : Stmt := inClass (topS 22) 4
abbrev nCer : List Str := ["self", "box", "name", "word", "content"]
theorem scCer : FnScope nCer ["self", "box"] (defScope sCer) := ⟨rfl, rfl, rfl, by decide +kernel, rfl, by decide +kernel, by decide +kernel⟩
def spCer (C : Addr) : Sp := fun vs H Q _ => ∃ (p b : Addr) (ns : List Str) (L : List Ent) (S : Str → List Int), vs = [.ref p, .ref b] ∧ Ul C H p ns ∧ ns.Nodup ∧ ns.length ≤ 30 ∧ Bu H b L ∧ Fit L ns S ∧ Sds ns S ∧
  ∀ (H' : Hp) (v : V), Same H H' → Cto ns S H H' v → Q v H'
theorem ok_Cer {f C f0 f1 f2 f3 : Addr} {fd fd0 fd1 fd2 fd3 : FuncData} (F : Fun K "certificate" "Unlike.certificate" sCer f fd) (B : Bt mg) (T : Kls K mg "Unlike" C uF) (CFem : Call P w K mg base 1 "first_empty" f0 fd0 ["names", "box"] spFem)
    (CRst : Call P w K mg base 1 "restricted" f1 fd1 ["names", "box"] spRst) (CFf : Call P w K mg base 4 "full_fit" f2 fd2 ["box", "highs"] spFf) (On : CallM P w K mg base 3 C "_ones" f3 fd3 ["self", "box"] (spOne C)) : FnOk P w K mg base CX0 5 f fd ["self", "box"] (spCer C) := by
  refine F.ok scCer (fun vs H Q E h => ?_) (fun cdv A outer s H vs Q E hr h => ?_)
  · obtain ⟨p, b, ns, L, S, rfl, _⟩ := h
    rfl
  · obtain ⟨p, b, ns, L, S, rfl, ul, nn, few, bx, fit, sd, q⟩ := h
    obtain ⟨dx, t, hp, et⟩ := id ul
    have hu := hu_of hr
    have nd := scCer.nd
    refine ⟨_, pss_cons (ps_set (i := 2) nd rfl (.inl rfl) (pe_call CFem.ok (hr.mono (by decide)) (by rfl) CFem.at_ CFem.kp CFem.bd .nil pass0 (pa_cons (pe_fld (pv 0) rfl) (pa_cons (pv 1) pa_nil))))
      (pss_cons (ps_if (pt_cmp (pc_notN (pv 2)))
        (pss_one (ps_ret (pe_tup (pa_cons pe_str (pa_cons (pv 2) pa_nil)))))
        pss_nil)
      (pss_cons (ps_asg (pe_call CFf.ok (hr.mono (by decide)) (by rfl) CFf.at_ CFf.kp CFf.bd .nil pass0 (pa_cons (pe_call CRst.ok (hr.mono (by decide)) (by rfl) CRst.at_ CRst.kp CRst.bd .nil pass0 (pa_cons (pe_fld (pv 0) rfl) (pa_cons (pv 1) pa_nil))) (pa_cons (pe_meth (pv 0) T.cl On.mt On.ok (hr.mono (by decide)) On.bd .nil pass0 (pa_cons (pv 1) pa_nil)) pa_nil))) (pg_tup (by rfl) (pgs_cons (pg_name (i := 3) nd rfl (.inl rfl)) (pgs_cons (pg_name (i := 4) nd rfl (.inl rfl)) pgs_nil))))
      (pss_one (ps_ret (pe_ifExp (pt_cmpR op_eq (pv 3) pe_str rfl) (pe_tup (pa_cons pe_str (pa_cons (pv 4) pa_nil))) pe_non))))), ?_⟩
    refine ⟨_, rfl, p, C, dx, _, _, rfl, hp, T.cl, T.no _ (by simp), ulook _, _, rfl, t, b, ns, L, S, rfl, et, bx, fit, fun ne => ?_, fun x hx ex fx => ?_⟩
    · refine ⟨_, rfl, _, rfl, iteF ?_⟩
      refine ⟨_, rfl, p, C, dx, _, _, rfl, hp, T.cl, T.no _ (by simp), ulook _, _, rfl, t, b, ns, L, S, rfl, et, nn, few, bx, fit, fun H1 d M s1 ndd bm km fm => ?_⟩
      refine ⟨_, rfl, p, dx, _, rfl, s1 _ _ hp, ul_no (by decide +kernel) _, _, rfl, p, b, ns, L, S, rfl, ul.same s1, few, bx.same' s1, fit, sd.few, fun H2 hd js s2 nh eh mem lj => ?_⟩
      obtain ⟨wd, on⟩ := ones_wd km fm mem lj
      have bm2 := bm.same' s2
      have S2 := s1.trans s2
      refine ⟨d, hd, M, ones js, S, js, rfl, bm2, eh, fun z => ?_, wd, fun H3 Y r c s3 nY eY nr er gr cr => ?_, fun H3 Y r A s3 nY eY nr er _ fo full => ?_⟩
      · have := bm.un; rw [z, nh] at this; cases this
      · rw [km] at cr gr
        refine ⟨Y, _, rfl, .inl (.inl eY), rfl, _, _, rfl, _, _, rfl, rfl, ?_⟩
        refine ⟨_, rfl, rfl, _, rfl, iteT ?_⟩
        refine ⟨_, rfl, by show 2 ≤ sizeLine; decide, fun Z nZ => ?_⟩
        have sZ := same_new (o := HO.tup [V.str "crowd", .ref r]) nZ
        exact q _ _ (S2.trans (s3.trans sZ)) (.crowd Z r c (fe_none.mpr ne) ((S2.trans s3).free nZ) upd_same (S2.free nr) (sZ _ _ er) (crowd_of cr) ⟨js, mem, gr⟩)
      · rw [km] at fo full
        refine ⟨Y, _, rfl, .inl (.inl eY), rfl, _, _, rfl, _, _, rfl, rfl, ?_⟩
        exact ⟨_, rfl, rfl, _, rfl, iteF (q _ _ (S2.trans s3) (.none (fe_none.mpr ne) ⟨_, fit_inj fo full on⟩))⟩
    · refine ⟨_, rfl, _, rfl, iteT ?_⟩
      refine ⟨_, rfl, by show 2 ≤ sizeLine; decide, fun Z nZ => ?_⟩
      exact q _ _ (same_new nZ) (.empty Z x fx nZ upd_same)
abbrev sAcc : Stmt := inClass (topS 22) 5
abbrev nAcc : List Str := ["self", "box", "certificate", "word", "content"]
theorem scAcc : FnScope nAcc ["self", "box", "certificate"] (defScope sAcc) := ⟨rfl, rfl, rfl, by decide +kernel, rfl, by decide +kernel, by decide +kernel⟩
def spAcc (C : Addr) : Sp := fun vs H Q _ => ∃ (p b T : Addr) (ns : List Str) (L : List Ent) (S : Str → List Int) (w : Str) (c : V) (r : Bool), vs = [.ref p, .ref b, .ref T] ∧ Ul C H p ns ∧ ns.length ≤ 30 ∧ Bu H b L ∧ Fit L ns S ∧ Sds ns S ∧ H T = some (.tup [.str w, c]) ∧ Crt ns S H w c r ∧
  ∀ H', Same H H' → Q (.bl r) H'
theorem ok_Acc {f C f0 f1 f2 : Addr} {fd fd0 fd1 fd2 : FuncData} (F : Fun K "accepts" "Unlike.accepts" sAcc f fd) (B : Bt mg) (T : Kls K mg "Unlike" C uF) (CShw : Call P w K mg base 1 "shows_empty" f0 fd0 ["names", "box", "name"] spShw)
    (CIcr : Call P w K mg base 3 "is_crowd" f1 fd1 ["names", "box", "highs", "crowd"] spIcr) (On : CallM P w K mg base 3 C "_ones" f2 fd2 ["self", "box"] (spOne C)) : FnOk P w K mg base CX0 4 f fd ["self", "box", "certificate"] (spAcc C) := by
  refine F.ok scAcc (fun vs H Q E h => ?_) (fun cdv A outer s H vs Q E hr h => ?_)
  · obtain ⟨p, b, T0, ns, L, S, w, c, r, rfl, _⟩ := h
    rfl
  · obtain ⟨p, b, T0, ns, L, S, w, c, r, rfl, ul, few, bx, fit, sd, eT, cr, q⟩ := h
    have hu := hu_of hr
    have nd := scAcc.nd
    obtain ⟨dx, t, hp, et⟩ := id ul

    refine ⟨_, pss_cons (ps_asg (pv 2) (pg_tup (by rfl) (pgs_cons (pg_name (i := 3) nd rfl (.inl rfl)) (pgs_cons (pg_name (i := 4) nd rfl (.inl rfl)) pgs_nil))))
      (pss_cons (ps_if (pt_cmpR op_eq (pv 3) pe_str rfl)
        (pss_one (ps_ret (pe_call CShw.ok (hr.mono (by decide)) (by rfl) CShw.at_ CShw.kp CShw.bd .nil pass0 (pa_cons (pe_fld (pv 0) rfl) (pa_cons (pv 1) (pa_cons (pv 4) pa_nil))))))
        pss_nil)
      (pss_one (ps_ret (L2.pe_and (pe_cmpR op_eq (pv 3) pe_str rfl) (pe_one (pe_call CIcr.ok (hr.mono (by decide)) (by rfl) CIcr.at_ CIcr.kp CIcr.bd .nil pass0 (pa_cons (pe_fld (pv 0) rfl) (pa_cons (pv 1) (pa_cons (pe_meth (pv 0) T.cl On.mt On.ok (hr.mono (by decide)) On.bd .nil pass0 (pa_cons (pv 1) pa_nil)) (pa_cons (pv 4) pa_nil)))))))))), ?_⟩
    refine ⟨_, rfl, T0, _, rfl, .inl (.inl eT), rfl, _, _, rfl, _, _, rfl, rfl, ?_⟩
    cases cr with
    | empty x =>
      refine ⟨_, rfl, rfl, _, rfl, iteT ?_⟩
      exact ⟨_, rfl, p, C, dx, _, _, rfl, hp, T.cl, T.no _ (by simp), ulook _, _, rfl, _, rfl, t, b, x, ns, L, S, rfl, et, bx, fit, q _ fun _ _ h => h⟩
    | crowd l cs _ el fc h =>
      refine ⟨_, rfl, rfl, _, rfl, iteF ?_⟩
      refine ⟨_, rfl, rfl, _, rfl, iteT ?_⟩
      refine ⟨_, rfl, p, C, dx, _, _, rfl, hp, T.cl, T.no _ (by simp), ulook _, _, rfl, _, rfl, p, dx, _, rfl, hp, ul_no (by decide +kernel) _, _, rfl, p, b, ns, L, S, rfl, ul, few, bx, fit, sd.few, fun H2 hd js s2 nh eh mem lj => ?_⟩
      refine ⟨_, rfl, t, b, hd, l, ns, cs, L, S, js, rfl, et.same s2, bx.same' s2, fit, sd.few, eh, mem, s2 _ _ el, fc, fun H3 r' s3 h' => ?_⟩
      have e : r' = r := by
        cases r' <;> cases r <;> simp_all
      rw [e]
      exact q _ (s2.trans s3)
    | other w c h1 h2 =>
      refine ⟨_, rfl, rfl, _, rfl, ite_both (fun z => absurd (V.str.inj (of_decide_eq_true z)) h1) fun _ => ?_⟩
      refine ⟨_, rfl, rfl, _, rfl, ite_both (fun z => absurd (V.str.inj (of_decide_eq_true z)) h2) fun _ => ?_⟩
      exact q _ fun _ _ h => h
end
end K57
set_option Elab.async false
set_option linter.all false
set_option maxRecDepth 100000
set_option maxHeartbeats 4000000
namespace K57
open PySem PySem.Spec PyProof.Rows L2 Cs CsX
section
variable {P : Program} {w : World} {K : PySem.W.Frag} {mg : Str → Option Value} {base : Heap}
abbrev sSd : Stmt := topS 30
abbrev nSd : List Str := ["_law_domains_here", "_law_sides_here", "_law_domain"]
theorem scSd : FnScope nSd ["_law_domains_here"] (defScope sSd) := ⟨rfl, rfl, rfl, by decide +kernel, rfl, by decide +kernel, by decide +kernel⟩
def spSd : Sp := fun vs H Q _ => ∃ (dl : Addr) (ds : List DomE), vs = [.ref dl] ∧ Doms H dl ds ∧ ds.length ≤ 30 ∧ (ds.map (·.2.1)).Nodup ∧
  ∀ (H' : Hp) (b : Addr) (N : List Ent), Same H H' → Nb H H' b N → shape N = ds.map (fun d => (d.2.1, d.2.2.2)) → Q (.ref b) H'
theorem ok_Sd {f  : Addr} {fd  : FuncData} (F : Fun K "_law_sides" "_law_sides" sSd f fd) (B : Bt mg) :
    FnOk P w K mg base CX0 1 f fd ["_law_domains_here"] spSd := by
  refine F.ok scSd (fun vs H Q E h => ?_) (fun cdv A outer s H vs Q E hr h => ?_)
  · obtain ⟨dl, ds, rfl, _⟩ := h
    rfl
  · obtain ⟨dl, ds, rfl, dm, dlen, dnd, q⟩ := h
    have hu := hu_of hr
    have nd := scSd.nd
    refine ⟨_, pss_cons (ps_set (i := 1) nd rfl (.inl rfl) pe_dnewK)
      (pss_cons (ps_for PassesOwn.never rfl (pi_list (pv 0)) (pg_name (i := 2) nd rfl (.inl rfl))
        (pss_one (ps_dput hu (pv 1) (pe_ix ix_tup (pv 2) pe_int (fun _ _ => rfl)) (pe_callTy call_list_of (by rfl) B.list PyProof.Rows.boot_list (pa_cons (pe_ix ix_tup (pv 2) pe_int (fun _ _ => rfl)) pa_nil)) rfl)))
      (pss_one (ps_ret (pv 1)))), ?_⟩
    intro D nD
    have s0 := same_new (o := HO.dK []) nD
    refine ⟨.ref dl, rfl, dl, rfl, ⟨_, sl_map (s0 _ _ dm.lst)⟩, for_list (xs := ds.map fun d : DomE => V.ref d.1) (fun i σ H' => ∃ (N : List Ent) (y2 : Option V), σ = [some (.ref dl), some (.ref D), y2] ∧ Same H H' ∧ Nb H H' D N ∧ shape N = (ds.take i).map (fun d => (d.2.1, d.2.2.2)))
      ⟨[], none, rfl, s0, Nb.nil nD upd_same, rfl⟩ (fun i σ H' _ h => by obtain ⟨_, _, _, h, _⟩ := h; exact sl_map (h _ _ dm.lst)) ?_ ?_⟩
    · rintro i x σ H' hx ⟨N, y2, rfl, sm, nb, sh⟩
      rw [List.getElem?_map] at hx
      obtain ⟨d, hv, rfl⟩ := Option.map_eq_some_iff.mp hx
      have dmem := List.mem_of_getElem? hv
      have hi := (List.getElem?_eq_some_iff.mp hv).1
      have lN : N.length ≤ i := by
        have := congrArg List.length sh
        rw [List.length_map, List.length_map, List.length_take] at this
        omega
      have tt : SqT K H' d.1 [V.str d.2.1, V.ref d.2.2.1] := .inl (.inl (sm _ _ (dm.tup d dmem)))
      have sd := sl_map (K := K) (sm _ _ (dm.side d dmem))
      refine ⟨.ref d.1, rfl, d.1, _, _, .ref d.2.2.1, rfl, rfl, tt, atI_nat (j := 1) rfl, d.2.2.1, _, rfl, .inl sd, fun l nl => ?_⟩
      have sl := same_new (o := HO.lst (d.2.2.2.map V.int)) nl
      have nb2 := nb.push sl
      have tt2 : SqT K (upd H' l (HO.lst (d.2.2.2.map V.int))) d.1 [V.str d.2.1, V.ref d.2.2.1] := .inl (.inl (sl _ _ (sm _ _ (dm.tup d dmem))))
      refine ⟨.ref D, rfl, .ref d.1, rfl, d.1, _, _, .str d.2.1, rfl, rfl, tt2, atI_nat (j := 0) rfl, D, _, rfl, DPut.k (k := .inr d.2.1) nb2.un (by rw [entK_len]; exact small1000 (by omega)), ?_⟩
      rw [putK_ent (s := d.2.2.2)]
      have xn : d.2.1 ∉ N.map (·.1) := by
        have h1 : N.map (·.1) = (ds.take i).map (·.2.1) := by
          have := congrArg (List.map (·.1)) sh
          rw [List.map_map, List.map_map] at this
          exact this
        rw [h1, List.map_take]
        exact not_take dnd (by rw [List.getElem?_map, hv] <;> rfl)
      refine ⟨putE N d.2.1 l d.2.2.2, _, rfl, same_at (sm.trans sl) nD, nb.put (sm.free nl) nl sl upd_same (by omega), ?_⟩
      · rw [putE_new xn, take_snoc hv]
        unfold shape at sh ⊢
        rw [List.map_append, List.map_append, sh] <;> rfl
    · rintro σ H' ⟨N, y2, rfl, sm, nb, sh⟩
      rw [List.length_map, List.take_length] at sh
      exact ⟨_, rfl, q H' D N sm nb sh⟩
abbrev sSf : Stmt := topS 33
abbrev nSf : List Str := ["_law_stream_here", "_law_things", "_law_rest", "_law_found", "_law_k", "_law_at"]
theorem scSf : FnScope nSf ["_law_stream_here", "_law_things"] (defScope sSf) := ⟨rfl, rfl, rfl, by decide +kernel, rfl, by decide +kernel, by decide +kernel⟩
def spSf : Sp := fun vs H Q _ => ∃ (α : Type) (g : α → V) (p nm : Addr) (xs : List α), vs = [.ref p, .ref nm] ∧ Strm H p ∧ H nm = some (.lst (xs.map g)) ∧ xs.length ≤ 30 ∧ p ≠ nm ∧
  ∀ (H' : Hp) (l : Addr) (zs : List α), Keep p H H' → H l = none → Strm H' p → H' l = some (.lst (zs.map g)) → zs.Perm xs → Q (.ref l) H'
theorem ok_Sf {f f0 : Addr} {fd fd0 : FuncData} (F : Fun K "_law_shuffled" "_law_shuffled" sSf f fd) (B : Bt mg) (D : Call P w K mg base 1 "_law_next" f0 fd0 ["_law_stream_here", "_law_size"] spDraw) :
    FnOk P w K mg base CX0 2 f fd ["_law_stream_here", "_law_things"] spSf := by
  refine F.ok scSf (fun vs H Q E h => ?_) (fun cdv A outer s H vs Q E hr h => ?_)
  · obtain ⟨α, g, p, nm, xs, rfl, _⟩ := h
    rfl
  · obtain ⟨α, g, p, nm, xs, rfl, hp, enm, xlen, pnm, q⟩ := h
    have nd := scSf.nd
    refine ⟨_, pss_cons (ps_set (i := 2) nd rfl (.inl rfl) (pe_callTy call_list_of (by rfl) B.list PyProof.Rows.boot_list (pa_cons (pv 1) pa_nil)))
      (pss_cons (ps_set (i := 3) nd rfl (.inl rfl) (pe_lst pa_nil))
      (pss_cons (ps_for PassesOwn.never rfl (pi_range1 (by rfl) B.range (pa_cons (pe_callB call_len_seq (by rfl) B.len PySem.boot_len (pa_cons (pv 1) pa_nil)) pa_nil)) (pg_name (i := 4) nd rfl (.inl rfl))
        (pss_cons (ps_set (i := 5) nd rfl (.inl rfl) (pe_call D.ok (hr.mono (by decide)) (by rfl) D.at_ D.kp D.bd .nil pass0 (pa_cons (pv 0) (pa_cons (pe_callB call_len_seq (by rfl) B.len PySem.boot_len (pa_cons (pv 2) pa_nil)) pa_nil))))
          (pss_cons (ps_expr (pe_bm PySem.F.plainAttrs_list PySem.F.slot_list_append PySem.F.type_list_append mt_append (pv 3) (pa_cons (pe_ix ix_list (pv 2) (pv 5) (fun _ _ => rfl)) pa_nil)))
          (pss_one (ps_set (i := 2) nd rfl (.inl rfl) (pe_op op_cat (pe_slice sl_list (pv 2) po_none (po_some (pv 5))) (pe_slice sl_list (pv 2) (po_some (pe_op op_add (pv 5) pe_int)) po_none)))))))
      (pss_one (ps_ret (pv 3))))), ?_⟩
    refine ⟨.ref nm, rfl, nm, _, rfl, .inl (sl_map enm), fun r nr => ⟨by show 0 ≤ sizeLine; decide, fun l nl0 => ?_⟩⟩
    have npr : p ≠ r := fun z => hp.some (z ▸ nr)
    have nlr : l ≠ r := fun z => by rw [z, upd_same] at nl0; cases nl0
    have nl1 : H l = none := by rw [upd_ne nlr] at nl0; exact nl0
    have npl : p ≠ l := fun z => hp.some (z ▸ nl1)
    have k0 : Keep p H (upd (upd H r (.lst (xs.map g))) l (.lst [])) := ((Keep.refl p H).at_ nr).at_ nl1
    refine ⟨.ref nm, rfl, nm, _, rfl, .inl (sl_map (k0 _ _ pnm.symm enm)), _, rfl, ?_, ?_, for_range (lo := 0) (n := ((xs.map g).length : Int).toNat) (fun i σ H' => ∃ (r' : Addr) (ys zs : List α) (y4 y5 : Option V), σ = [some (.ref p), some (.ref nm), some (.ref r'), some (.ref l), y4, y5] ∧ Keep p H H' ∧ Strm H' p ∧ H' r' = some (.lst (ys.map g)) ∧ H r' = none ∧ r' ≠ l ∧ ys.length + i = xs.length ∧ H' l = some (.lst (zs.map g)) ∧ zs.length = i ∧ (zs ++ ys).Perm xs)
      ⟨r, xs, [], none, none, rfl, k0, (hp.upd npr).upd npl, by rw [upd_ne nlr.symm, upd_same], nr, nlr.symm, rfl, upd_same, rfl, List.Perm.refl _⟩ ?_ ?_⟩
    · rw [List.length_map]; omega
    · rw [List.length_map]; omega
    · rintro i σ H' hi ⟨r', ys, zs, y4, y5, rfl, kp, st, er, nr', nrl, ylen, el, zl, pm⟩
      rw [List.length_map] at hi
      have hi' : i < xs.length := by omega
      have npr' : p ≠ r' := fun z => hp.some (z ▸ nr')
      refine ⟨.ref p, rfl, .ref r', rfl, r', _, rfl, .inl (sl_map er), p, _, rfl, st, ?_, ?_, fun H2 a o2 st2 a0 a1 => ?_⟩
      · rw [List.length_map]; omega
      · rw [List.length_map]; omega
      rw [List.length_map] at a1
      obtain ⟨j, rfl⟩ : ∃ j : Nat, a = (j : Int) := ⟨a.toNat, by omega⟩
      have hj : j < ys.length := by omega
      have gj : (ys.map g)[j]? = some (g ys[j]) := by rw [List.getElem?_map, List.getElem?_eq_getElem hj]; rfl
      have k2 := kp.oth o2
      have er2 : H2 r' = some (.lst (ys.map g)) := (o2 r' npr'.symm).trans er
      have el2 : H2 l = some (.lst (zs.map g)) := (o2 l npl.symm).trans el
      refine ⟨.ref l, rfl, .inl ⟨rfl, _, sl_map el2⟩, .ref r', rfl, .int j, rfl, r', _, j, g ys[j], rfl, rfl, sl_map er2, at_of (j := j) rfl gj, l, _, _, rfl, rfl, el2, ?_, ?_⟩
      · rw [List.length_map]
        exact small1000 (by omega)
      have el4 : (upd H2 l (.lst (zs.map g ++ [g ys[j]]))) l = some (.lst ((zs ++ [ys[j]]).map g)) := by rw [upd_same, List.map_append] <;> rfl
      have er4 : (upd H2 l (.lst (zs.map g ++ [g ys[j]]))) r' = some (.lst (ys.map g)) := by rw [upd_ne nrl]; exact er2
      have st4 : Strm (upd H2 l (.lst (zs.map g ++ [g ys[j]]))) p := st2.upd npl
      have k4 : Keep p H (upd H2 l (.lst (zs.map g ++ [g ys[j]]))) := k2.at_ nl1
      generalize upd H2 l (.lst (zs.map g ++ [g ys[j]])) = H4 at el4 er4 st4 k4 ⊢
      refine ⟨.ref r', rfl, _, rfl, _, rfl, r', _, rfl, sl_map er4, fun s1 ns1 => ?_⟩
      have t1 := same_new (o := HO.lst (cutV (ys.map g) none (some (j : Int)))) ns1
      refine ⟨.ref r', rfl, _, rfl, (j : Int), 1, rfl, rfl, _, rfl, r', _, rfl, sl_map (t1 _ _ er4), fun s2 ns2 => ?_⟩
      have n12 : s1 ≠ s2 := fun z => by rw [← z, upd_same] at ns2; cases ns2
      have c1 : cutV (ys.map g) none (some (j : Int)) = (ys.take j).map g := by rw [cutV_to, List.map_take]
      have c2 : cutV (ys.map g) (some ((j : Int) + 1)) none = (ys.drop (j + 1)).map g := by rw [show (j : Int) + 1 = ((j + 1 : Nat) : Int) by omega, cutV_from, List.map_drop]
      have t2 := t1.trans (same_new (o := HO.lst (cutV (ys.map g) (some ((j : Int) + 1)) none)) ns2)
      refine ⟨s1, s2, _, _, rfl, rfl, by rw [upd_ne n12]; exact upd_same, upd_same, ?_, fun r2 nr2 => ?_⟩
      · have a := cutV_length (ys.map g) none (some (j : Int))
        have b := cutV_length (ys.map g) (some ((j : Int) + 1)) none
        rw [List.length_map] at a b
        exact Nat.le_of_lt (small1000 (by show _ + (cutV (ys.map g) (some ((j : Int) + 1)) none).length ≤ 1000; omega))
      · have t3 := t2.trans (same_new (o := HO.lst (cutV (ys.map g) none (some (j : Int)) ++ cutV (ys.map g) (some ((j : Int) + 1)) none)) nr2)
        have nr4 : H4 r2 = none := t2.free nr2
        have st5 : Strm _ p := st4.keep (Keep.same (p := r2) t3) (fun z => st4.some (z ▸ nr4))
        have k5 : Keep p H _ := k4.trans (Keep.same t3)
        have r2l : r2 ≠ l := fun z => by rw [z, el4] at nr4; cases nr4
        refine ⟨r2, ys.eraseIdx j, zs ++ [ys[j]], _, _, rfl, k5, st5, ?_, k4.free st4 nr4, r2l, ?_, t3 _ _ el4, by rw [List.length_append, zl] <;> rfl, ?_⟩
        · have e5 : (ys.eraseIdx j).map g = cutV (ys.map g) none (some (j : Int)) ++ cutV (ys.map g) (some ((j : Int) + 1)) none := by
            rw [c1, c2, ← List.map_append, List.eraseIdx_eq_take_drop_succ]
          rw [e5]
          exact upd_same
        · rw [List.length_eraseIdx_of_lt hj]
          omega
        · rw [List.append_assoc]
          exact ((perm_at hj).append_left zs).trans pm
    · rintro σ H' ⟨r', ys, zs, y4, y5, rfl, kp, st, er, nr', nrl, ylen, el, zl, pm⟩
      have y0 : ys = [] := List.length_eq_zero_iff.mp (by rw [List.length_map] at ylen; omega)
      subst y0
      rw [List.append_nil] at pm
      exact ⟨_, rfl, q H' l zs kp nl1 st el pm⟩
abbrev sMn : Stmt := topS 34
abbrev nMn : List Str := ["_law_stream_here", "_law_count", "_law_head", "_law_tail", "_law_shift", "_law_k"]
theorem scMn : FnScope nMn ["_law_stream_here", "_law_count"] (defScope sMn) := ⟨rfl, rfl, rfl, by decide +kernel, rfl, by decide +kernel, by decide +kernel⟩
def spMn : Sp := fun vs H Q _ => ∃ (p : Addr) (m : Nat), vs = [.ref p, .int (m : Int)] ∧ Strm H p ∧ m ≤ 16 ∧
  ∀ (H' : Hp) (l : Addr) (xs : List Str), Keep p H H' → H l = none → Strm H' p → H' l = some (.lst (xs.map V.str)) → xs.length = m → xs.Nodup → (∀ x ∈ xs, x ≠ "aside") → Q (.ref l) H'
theorem ok_Mn {f f0 : Addr} {fd fd0 : FuncData} (F : Fun K "_law_many_names" "_law_many_names" sMn f fd) (B : Bt mg) (zstr : mg "str" = none) (D : Call P w K mg base 1 "_law_next" f0 fd0 ["_law_stream_here", "_law_size"] spDraw) :
    FnOk P w K mg base CX0 2 f fd ["_law_stream_here", "_law_count"] spMn := by
  refine F.ok scMn (fun vs H Q E h => ?_) (fun cdv A outer s H vs Q E hr h => ?_)
  · obtain ⟨p, m, rfl, _⟩ := h
    rfl
  · obtain ⟨p, m, rfl, hp, m16, q⟩ := h
    have nd := scMn.nd
    refine ⟨_, pss_cons (ps_set (i := 2) nd rfl (.inr rfl) (pe_ix ix_list (pe_lst (pa_cons pe_str (pa_cons pe_str (pa_cons pe_str (pa_cons pe_str pa_nil))))) (pe_call D.ok (hr.mono (by decide)) (by rfl) D.at_ D.kp D.bd .nil pass0 (pa_cons (pv 0) (pa_cons pe_int pa_nil))) (fun _ _ => rfl)))
      (pss_cons (ps_set (i := 3) nd rfl (.inr rfl) (pe_ix ix_list (pe_lst (pa_cons pe_str (pa_cons pe_str (pa_cons pe_str pa_nil)))) (pe_call D.ok (hr.mono (by decide)) (by rfl) D.at_ D.kp D.bd .nil pass0 (pa_cons (pv 0) (pa_cons pe_int pa_nil))) (fun _ _ => rfl)))
      (pss_cons (ps_set (i := 4) nd rfl (.inr rfl) (pe_call D.ok (hr.mono (by decide)) (by rfl) D.at_ D.kp D.bd .nil pass0 (pa_cons (pv 0) (pa_cons pe_int pa_nil))))
      (pss_one (ps_ret (pe_lc (own := [("_law_k", 5)]) (g := gName 5) (tt := tYes)  rfl nd (pi_range1 (by rfl) B.range (pa_cons (pv 1) pa_nil)) (blkOk_by (N := nMn) (sc := defScope sMn) (by decide +kernel)) (fun _ _ _ _ _ => pg_name (i := 5) nd rfl (.inl rfl)) (fun _ _ _ _ _ => pts_nil)
          (fun _ _ _ _ _ => (pe_op op_add_str (pe_op op_add_str (pv 2) (pe_callTy call_str_int (by rfl) zstr PyProof.Rows.boot_str (pa_cons (pe_op op_mod (pe_callTy call_int1 (by rfl) B.int PyProof.Rows.boot_int (pa_cons (pe_op op_add (pe_op op_mul (pv 5) pe_int) (pv 4)) pa_nil)) pe_int) pa_nil))) (pv 3)))))))), ?_⟩
    refine ⟨by show 4 ≤ sizeLine; decide, fun t nt => ?_⟩
    have npt : p ≠ t := fun z => hp.some (z ▸ nt)
    refine ⟨.ref p, rfl, p, 4, rfl, hp.upd npt, by decide, by decide, fun H2 e o2 st2 e0 e1 => ?_⟩
    have k2 : Keep p H H2 := ((Keep.refl p H).at_ nt).oth o2
    obtain ⟨hd, hhd, hdl, hdm⟩ : ∃ hd : Str, atI [V.str "n", V.str "item_", V.str "q7", V.str "x_y_z0"] e = some (.str hd) ∧ hd.length ≤ 6 ∧ hd ∈ headsM := by
      have : e = 0 ∨ e = 1 ∨ e = 2 ∨ e = 3 := by omega
      rcases this with rfl | rfl | rfl | rfl
      · exact ⟨_, atI_nat (j := 0) rfl, by decide +kernel, by decide +kernel⟩
      · exact ⟨_, atI_nat (j := 1) rfl, by decide +kernel, by decide +kernel⟩
      · exact ⟨_, atI_nat (j := 2) rfl, by decide +kernel, by decide +kernel⟩
      · exact ⟨_, atI_nat (j := 3) rfl, by decide +kernel, by decide +kernel⟩
    have et := (o2 t npt.symm).trans (upd_same (H := H) (a := t) (o := HO.lst [V.str "n", V.str "item_", V.str "q7", V.str "x_y_z0"]))
    refine ⟨t, _, e, .str hd, rfl, rfl, sl_map et, hhd, ?_⟩
    refine ⟨by show 3 ≤ sizeLine; decide, fun u nu => ?_⟩
    have npu : p ≠ u := fun z => st2.some (z ▸ nu)
    refine ⟨.ref p, rfl, p, 3, rfl, st2.upd npu, by decide, by decide, fun H3 g o3 st3 g0 g1 => ?_⟩
    have k3 : Keep p H H3 := (k2.at_ (k2.free st2 nu)).oth o3
    obtain ⟨tl, htl, tll, tlm⟩ : ∃ tl : Str, atI [V.str "", V.str "a", V.str "_tail"] g = some (.str tl) ∧ tl.length ≤ 6 ∧ tl ∈ tailsM := by
      have : g = 0 ∨ g = 1 ∨ g = 2 := by omega
      rcases this with rfl | rfl | rfl
      · exact ⟨_, atI_nat (j := 0) rfl, by decide +kernel, by decide +kernel⟩
      · exact ⟨_, atI_nat (j := 1) rfl, by decide +kernel, by decide +kernel⟩
      · exact ⟨_, atI_nat (j := 2) rfl, by decide +kernel, by decide +kernel⟩
    have eu := (o3 u npu.symm).trans (upd_same (H := H2) (a := u) (o := HO.lst [V.str "", V.str "a", V.str "_tail"]))
    refine ⟨u, _, g, .str tl, rfl, rfl, sl_map eu, htl, ?_⟩
    refine ⟨.ref p, rfl, p, 16, rfl, st3, by decide, by decide, fun H4 s o4 st4 s0 s1 => ?_⟩
    obtain ⟨s, rfl⟩ : ∃ m : Nat, s = (m : Int) := ⟨s.toNat, by omega⟩
    have k4 := k3.oth o4
    refine ⟨.int (m : Int), rfl, (m : Int), rfl, by omega, by omega, fun R nR => ?_⟩
    refine lc_range (lo := 0) (fun i H' => Same H4 H' ∧ H' R = some (.lst (((List.range i).map (nam hd tl s)).map V.str))) ⟨same_new nR, upd_same⟩ ?_ ?_
    · rintro i H' hi ⟨sm, eR⟩
      refine ⟨rfl, .str hd, rfl, .int (0 + (i : Int)), rfl, 0 + (i : Int), 7, rfl, rfl, .inr ⟨by decide, by decide⟩, .int s, rfl, (0 + (i : Int)) * 7, s, rfl, rfl, .inl ⟨_, rfl, (0 + (i : Int)) * 7 + s, 16, rfl, rfl, ?_, ?_⟩⟩
      · show (0 : Int) < 16
        decide
      · obtain ⟨k, hk, hk16, hkk⟩ : ∃ k : Nat, ((0 + (i : Int)) * 7 + s) % 16 = (k : Int) ∧ k < 16 ∧ k = (i * 7 + s) % 16 := ⟨(i * 7 + s) % 16, by omega, by omega, rfl⟩
        show ∃ j, [V.int (((0 + (i : Int)) * 7 + s) % 16)] = [V.int j] ∧ _
        rw [hk]
        refine ⟨(k : Int), rfl, log16 k (List.mem_range.mpr hk16), hd, _, rfl, rfl, ?_, .str tl, rfl, _, _, rfl, rfl, ?_, _, eR, ?_, same_at sm nR, ?_⟩
        · have := digits2 k (List.mem_range.mpr hk16)
          exact Nat.le_trans (Nat.add_le_add hdl this) (by decide)
        · have := digits2 k (List.mem_range.mpr hk16)
          rw [len_app]
          exact Nat.le_trans (Nat.add_le_add (Nat.add_le_add hdl this) tll) (by decide)
        · rw [List.length_map, List.length_map, List.length_range]
          exact small1000 (by omega)
        · rw [upd_same, List.range_succ, List.map_append, List.map_append]
          unfold nam
          rw [hkk] <;> rfl
    · rintro H' ⟨sm, eR⟩
      have nR0 : H R = none := k4.free st4 nR
      have npR : p ≠ R := fun z => hp.some (z ▸ nR0)
      obtain ⟨nn, na⟩ := names_many hdm tlm (show s < 16 by omega) (m := m) m16
      refine q H' R _ (k4.trans (Keep.same sm)) nR0 ?_ eR (by rw [List.length_map, List.length_range]; omega) nn na
      obtain ⟨x, y, z, ep⟩ := st4
      exact ⟨x, y, z, sm _ _ ep⟩
abbrev sSco : Stmt := topS 32
abbrev nSco : List Str := ["_law_stream_here", "_law_names_here", "_law_most", "_law_rest", "_law_k", "_law_at"]
theorem scSco : FnScope nSco ["_law_stream_here", "_law_names_here", "_law_most"] (defScope sSco) := ⟨rfl, rfl, rfl, by decide +kernel, rfl, by decide +kernel, by decide +kernel⟩
def spSco : Sp := fun vs H Q _ => ∃ (p nm : Addr) (xs : List Str) (most : Nat), vs = [.ref p, .ref nm, .int (most : Int)] ∧ Strm H p ∧ H nm = some (.lst (xs.map V.str)) ∧ nm ≠ p ∧ 1 ≤ xs.length ∧ xs.length ≤ 30 ∧ 1 ≤ most ∧ most ≤ 100 ∧ xs.Nodup ∧
  ∀ (H' : Hp) (l : Addr) (zs : List Str), Keep p H H' → H l = none → Strm H' p → H' l = some (.lst (zs.map V.str)) → zs.Nodup → (∀ x ∈ zs, x ∈ xs) → 1 ≤ zs.length → zs.length ≤ most → Q (.ref l) H'
theorem ok_Sco {f f0 : Addr} {fd fd0 : FuncData} (F : Fun K "_law_scope" "_law_scope" sSco f fd) (B : Bt mg) (zmin : mg "min" = none) (D : Call P w K mg base 1 "_law_next" f0 fd0 ["_law_stream_here", "_law_size"] spDraw) :
    FnOk P w K mg base CX0 2 f fd ["_law_stream_here", "_law_names_here", "_law_most"] spSco := by
  refine F.ok scSco (fun vs H Q E h => ?_) (fun cdv A outer s H vs Q E hr h => ?_)
  · obtain ⟨p, nm, xs, most, rfl, _⟩ := h
    rfl
  · obtain ⟨p, nm, xs, most, rfl, hp, en, np, x1, x30, m1, m100, nn, q⟩ := h
    have hu := hu_of hr
    have nd := scSco.nd
    refine ⟨_, pss_cons (ps_set (i := 3) nd rfl (.inl rfl) (pe_callTy call_list_of (by rfl) B.list PyProof.Rows.boot_list (pa_cons (pv 1) pa_nil)))
      (pss_cons (ps_for PassesOwn.never rfl (pi_range1 (by rfl) B.range (pa_cons (pe_callB call_len_seq (by rfl) B.len PySem.boot_len (pa_cons (pv 1) pa_nil)) pa_nil)) (pg_name (i := 4) nd rfl (.inl rfl))
        (pss_cons (ps_set (i := 5) nd rfl (.inl rfl) (pe_op op_add (pv 4) (pe_call D.ok (hr.mono (by decide)) (by rfl) D.at_ D.kp D.bd .nil pass0 (pa_cons (pv 0) (pa_cons (pe_op op_sub (pe_callB call_len_seq (by rfl) B.len PySem.boot_len (pa_cons (pv 1) pa_nil)) (pv 4)) pa_nil)))))
          (pss_one (ps_set (i := 3) nd rfl (.inl rfl) (pe_op op_cat (pe_op op_cat (pe_op op_cat (pe_slice sl_list (pv 3) po_none (po_some (pv 4))) (pe_lst (pa_cons (pe_ix ix_list (pv 3) (pv 5) (fun _ _ => rfl)) pa_nil))) (pe_slice sl_list (pv 3) (po_some (pv 4)) (po_some (pv 5)))) (pe_slice sl_list (pv 3) (po_some (pe_op op_add (pv 5) pe_int)) po_none))))))
      (pss_one (ps_ret (pe_slice sl_list (pv 3) po_none (po_some (pe_op op_add pe_int (pe_call D.ok (hr.mono (by decide)) (by rfl) D.at_ D.kp D.bd .nil pass0 (pa_cons (pv 0) (pa_cons (pe_callB (call_min2 rfl) (by rfl) zmin PyProof.Rows.boot_min (pa_cons (pv 2) (pa_cons (pe_callB call_len_seq (by rfl) B.len PySem.boot_len (pa_cons (pv 1) pa_nil)) pa_nil))) pa_nil))))))))), ?_⟩
    refine ⟨_, rfl, nm, _, rfl, .inl (sl_map en), fun R nR => ?_⟩
    have s0 := same_new (o := HO.lst (xs.map V.str)) nR
    have pR : p ≠ R := fun z => hp.some (z ▸ nR)
    refine ⟨_, rfl, nm, _, rfl, .inl (sl_map (s0 _ _ en)), _, rfl, by omega, by rw [List.length_map]; omega, for_range (lo := 0) (n := (xs.map V.str).length) (fun k σ H' => ∃ (R' : Addr) (ys : List Str) (y4 y5 : Option V), σ = [some (.ref p), some (.ref nm), some (.int (most : Int)), some (.ref R'), y4, y5] ∧ Keep p H H' ∧ Strm H' p ∧ H' R' = some (.lst (ys.map V.str)) ∧ R' ≠ p ∧ ys.Perm xs)
      ⟨R, xs, none, none, rfl, Keep.same s0, hp.upd pR, upd_same, pR.symm, List.Perm.refl _⟩ ?_ ?_⟩
    · rintro k σ H1 hk ⟨R', ys, y4, y5, rfl, k1, st1, eR, Rp, pm⟩
      rw [List.length_map] at hk
      have ly := pm.length_eq
      have en1 := k1 _ _ np en
      refine ⟨_, rfl, _, rfl, _, rfl, nm, _, rfl, .inl (sl_map en1), _, rfl, _, _, rfl, rfl, p, _, rfl, st1, by rw [List.length_map]; omega, by rw [List.length_map]; omega, fun H2 a o2 st2 a0 a1 => ⟨_, _, rfl, rfl, ?_⟩⟩
      rw [List.length_map] at a1
      obtain ⟨m, rfl⟩ : ∃ m : Nat, a = (m : Int) := ⟨a.toNat, by omega⟩
      obtain ⟨j, hj, jk⟩ : ∃ j : Nat, (0 : Int) + (k : Int) + (m : Int) = (j : Int) ∧ j = k + m := ⟨k + m, by omega, rfl⟩
      show gName 5 (V.int (0 + (k : Int) + (m : Int))) _ _ _
      rw [hj, Int.zero_add]
      obtain ⟨y, hy⟩ : ∃ y, ys[j]? = some y := ⟨_, List.getElem?_eq_getElem (by omega)⟩
      have k2 := k1.oth o2
      have eR2 := (o2 _ Rp).trans eR
      have lyv : (ys.map V.str).length = ys.length := List.length_map _
      have hyv : (ys.map V.str)[j]? = some (.str y) := by rw [List.getElem?_map, hy] <;> rfl
      refine ⟨_, rfl, _, rfl, _, rfl, R', _, rfl, sl_map eR2, fun b1 n1 => ?_⟩
      rw [cutV_to, ← List.map_take]
      have t1 := same_new (o := HO.lst ((ys.take k).map V.str)) n1
      have e1 : (upd H2 b1 (.lst ((ys.take k).map V.str))) b1 = some (.lst ((ys.take k).map V.str)) := upd_same
      generalize upd H2 b1 (.lst ((ys.take k).map V.str)) = G1 at t1 e1 ⊢
      refine ⟨_, rfl, _, rfl, R', _, _, .str y, rfl, rfl, sl_map (t1 _ _ eR2), atI_nat (j := j) hyv, by show 1 ≤ sizeLine; decide, fun b2 n2 => ?_⟩
      have t2 := same_new (o := HO.lst [V.str y]) n2
      have S2 := t1.trans t2
      refine ⟨b1, b2, _, _, rfl, rfl, t2 _ _ e1, upd_same, by rw [List.length_map, List.length_take]; exact Nat.le_of_lt (small1000 (by show _ + 1 ≤ 1000; omega)), fun b3 n3 => ?_⟩
      rw [show (ys.take k).map V.str ++ [V.str y] = (ys.take k ++ [y]).map V.str by rw [List.map_append] <;> rfl]
      have t3 := same_new (o := HO.lst ((ys.take k ++ [y]).map V.str)) n3
      have S3 := S2.trans t3
      have e3 : (upd (upd G1 b2 (.lst [V.str y])) b3 (.lst ((ys.take k ++ [y]).map V.str))) b3 = some (.lst ((ys.take k ++ [y]).map V.str)) := upd_same
      generalize upd (upd G1 b2 (.lst [V.str y])) b3 (.lst ((ys.take k ++ [y]).map V.str)) = G3 at S3 e3 ⊢
      refine ⟨_, rfl, _, rfl, _, rfl, _, rfl, _, rfl, R', _, rfl, sl_map (S3 _ _ eR2), fun b4 n4 => ?_⟩
      rw [cutV_mid (xs := ys.map V.str) (show k ≤ j by omega) (by rw [lyv]; omega), ← List.map_drop, ← List.map_take]
      have t4 := same_new (o := HO.lst (((ys.drop k).take (j - k)).map V.str)) n4
      refine ⟨b3, b4, _, _, rfl, rfl, t4 _ _ e3, upd_same, by rw [List.length_map, List.length_map, List.length_append, List.length_take, List.length_take, List.length_drop]; exact Nat.le_of_lt (small1000 (by show _ + 1 + _ ≤ 1000; omega)), fun b5 n5 => ?_⟩
      rw [← List.map_append]
      have t5 := same_new (o := HO.lst ((ys.take k ++ [y] ++ (ys.drop k).take (j - k)).map V.str)) n5
      have S5 := S3.trans (t4.trans t5)
      have e5 : (upd (upd G3 b4 (.lst (((ys.drop k).take (j - k)).map V.str))) b5 (.lst ((ys.take k ++ [y] ++ (ys.drop k).take (j - k)).map V.str))) b5 = some (.lst ((ys.take k ++ [y] ++ (ys.drop k).take (j - k)).map V.str)) := upd_same
      generalize upd (upd G3 b4 (.lst (((ys.drop k).take (j - k)).map V.str))) b5 (.lst ((ys.take k ++ [y] ++ (ys.drop k).take (j - k)).map V.str)) = G5 at S5 e5 ⊢
      refine ⟨_, rfl, _, rfl, _, _, rfl, rfl, _, rfl, R', _, rfl, sl_map (S5 _ _ eR2), fun b6 n6 => ?_⟩
      rw [show (j : Int) + 1 = ((j + 1 : Nat) : Int) by omega, cutV_from, ← List.map_drop]
      have t6 := same_new (o := HO.lst ((ys.drop (j + 1)).map V.str)) n6
      refine ⟨b5, b6, _, _, rfl, rfl, t6 _ _ e5, upd_same, by rw [List.length_map, List.length_map, List.length_append, List.length_append, List.length_take, List.length_take, List.length_drop, List.length_drop]; exact Nat.le_of_lt (small1000 (by show _ + 1 + _ + _ ≤ 1000; omega)), fun b7 n7 => ?_⟩
      rw [← List.map_append]
      have t7 := same_new (o := HO.lst ((ys.take k ++ [y] ++ (ys.drop k).take (j - k) ++ ys.drop (j + 1)).map V.str)) n7
      have S7 := S5.trans (t6.trans t7)
      have n7H := (S5.trans t6).free n7
      refine ⟨b7, _, _, _, rfl, k2.trans (Keep.same S7), ?_, upd_same, fun z => st2.some (z ▸ n7H), (pull_perm (by omega) hy).trans pm⟩
      obtain ⟨x, y, w, e⟩ := st2
      exact ⟨x, y, w, S7 _ _ e⟩
    · rintro σ H1 ⟨R', ys, y4, y5, rfl, k1, st1, eR, Rp, pm⟩
      have ly := pm.length_eq
      have en1 := k1 _ _ np en
      refine ⟨_, rfl, _, rfl, _, rfl, _, rfl, nm, _, rfl, .inl (sl_map en1), _, _, rfl, ?_⟩
      obtain ⟨mn, hmn, mn1, mn2, mn3⟩ : ∃ mn : Nat, (if ((xs.map V.str).length : Int) < (most : Int) then ((xs.map V.str).length : Int) else (most : Int)) = (mn : Int) ∧ 1 ≤ mn ∧ mn ≤ most ∧ mn ≤ xs.length := by
        rw [List.length_map]
        split
        · exact ⟨xs.length, rfl, x1, by omega, by omega⟩
        · exact ⟨most, rfl, m1, by omega, by omega⟩
      rw [hmn]
      refine ⟨p, _, rfl, st1, by omega, by omega, fun H2 a o2 st2 a0 a1 => ⟨1, a, rfl, rfl, _, rfl, R', _, rfl, sl_map ((o2 _ Rp).trans eR), fun l nl => ?_⟩⟩
      obtain ⟨m, rfl⟩ : ∃ m : Nat, a = (m : Int) := ⟨a.toNat, by omega⟩
      rw [show (1 : Int) + (m : Int) = ((1 + m : Nat) : Int) by omega, cutV_to, ← List.map_take]
      have k2 := k1.oth o2
      have nlH := k2.free st2 nl
      refine q _ l (ys.take (1 + m)) (k2.at_ nlH) nlH (st2.upd fun z => st2.some (z ▸ nl)) upd_same (List.Pairwise.sublist (List.take_sublist _ _) (pm.nodup_iff.mpr nn)) (fun x hx => pm.mem_iff.mp (List.mem_of_mem_take hx)) ?_ ?_
      · rw [List.length_take]; omega
      · rw [List.length_take]; omega
end
end K57
set_option Elab.async false
set_option linter.all false
set_option maxRecDepth 100000
set_option maxHeartbeats 4000000
namespace K57
open PySem PySem.Spec PyProof.Rows L2 Cs CsX
/-- domains in the making, where a stream is drawn from -/
structure Lk (H : Hp) (p l : Addr) (ds : List DomE) (ps : List Int) : Prop where
  st : Strm H p
  dm : Doms H l ds
  lp : l ≠ p
  aw : ∀ d ∈ ds, d.2.2.1 ≠ p ∧ d.2.2.1 ≠ l
  ok : ∀ d ∈ ds, Srt d.2.2.2 ∧ d.2.2.2.length ≤ 2 ∧ ∀ v ∈ d.2.2.2, v ∈ ps
section
variable {H H' : Hp} {p l : Addr} {ds ds' : List DomE} {ps : List Int} {d : DomE}
theorem Lk.go (g : Lk H p l ds ps) (k : Keep p H H') (st : Strm H' p) : Lk H' p l ds ps :=
  ⟨st, ⟨k _ _ g.lp g.dm.lst, fun e he => k _ _ (fun z => by obtain ⟨x, y, w, h⟩ := g.st; have := g.dm.tup e he; rw [z, h] at this; cases this) (g.dm.tup e he), fun e he => k _ _ (g.aw e he).1 (g.dm.side e he)⟩, g.lp, g.aw, g.ok⟩
theorem Lk.same (g : Lk H p l ds ps) (s : Same H H') : Lk H' p l ds ps := g.go (Keep.same s) (by obtain ⟨x, y, w, e⟩ := g.st; exact ⟨x, y, w, s _ _ e⟩)
theorem Lk.put (g : Lk H p l ds ps) (sub : ∀ e ∈ ds', e ∈ ds ∨ e = d) (et : H d.1 = some (.tup [.str d.2.1, .ref d.2.2.1])) (es : H d.2.2.1 = some (.lst (d.2.2.2.map V.int))) (a1 : d.2.2.1 ≠ p) (a2 : d.2.2.1 ≠ l) (ok : Srt d.2.2.2 ∧ d.2.2.2.length ≤ 2 ∧ ∀ v ∈ d.2.2.2, v ∈ ps) : Lk (upd H l (.lst (ds'.map fun d => V.ref d.1))) p l ds' ps := by
  have nt : ∀ {b : Addr} {xs : List V}, H b = some (.tup xs) → b ≠ l := fun h z => by rw [z, g.dm.lst] at h; cases h
  refine ⟨g.st.upd g.lp.symm, ⟨upd_same, fun e he => ?_, fun e he => ?_⟩, g.lp, fun e he => ?_, fun e he => ?_⟩
  · rcases sub e he with h | h
    · rw [upd_ne (nt (g.dm.tup e h))]; exact g.dm.tup e h
    · subst h; rw [upd_ne (nt et)]; exact et
  · rcases sub e he with h | h
    · rw [upd_ne (g.aw e h).2]; exact g.dm.side e h
    · subst h; rw [upd_ne a2]; exact es
  · rcases sub e he with h | h
    · exact g.aw e h
    · subst h; exact ⟨a1, a2⟩
  · rcases sub e he with h | h
    · exact g.ok e h
    · subst h; exact ok
end
theorem srt_two {a b : Int} (h : a < b) : Srt [a, b] := List.pairwise_cons.mpr ⟨fun x hx => by rw [List.mem_singleton.mp hx]; exact h, List.pairwise_singleton _ _⟩
theorem srt_lt {ps : List Int} (s : Srt ps) {i j : Nat} {a b : Int} (h : i < j) (ha : ps[i]? = some a) (hb : ps[j]? = some b) : a < b := by
  obtain ⟨h1, rfl⟩ := List.getElem?_eq_some_iff.mp ha
  obtain ⟨h2, rfl⟩ := List.getElem?_eq_some_iff.mp hb
  exact List.pairwise_iff_getElem.mp s i j h1 h2 h
theorem int_at {ps : List Int} {i : Nat} (h : i < ps.length) : ∃ v, ps[i]? = some v ∧ (ps.map V.int)[i]? = some (.int v) ∧ v ∈ ps := ⟨ps[i], List.getElem?_eq_getElem h, by rw [List.getElem?_map, List.getElem?_eq_getElem h] <;> rfl, List.getElem_mem h⟩
theorem str_at {xs : List Str} {i : Nat} (h : i < xs.length) : ∃ x, xs[i]? = some x ∧ (xs.map V.str)[i]? = some (.str x) ∧ x ∈ xs := ⟨xs[i], List.getElem?_eq_getElem h, by rw [List.getElem?_map, List.getElem?_eq_getElem h] <;> rfl, List.getElem_mem h⟩
theorem list_set_self {α : Type} {xs : List α} {i : Nat} {x : α} (h : xs[i]? = some x) : xs.set i x = xs := by
  obtain ⟨h1, rfl⟩ := List.getElem?_eq_some_iff.mp h
  exact List.set_getElem_self h1
section
variable {P : Program} {w : World} {K : PySem.W.Frag} {mg : Str → Option Value} {base : Heap}
abbrev sLnk : Stmt := topS 35
abbrev nLnk : List Str := ["_law_stream_here", "_law_names_here", "_law_pool_here", "_law_ways", "_law_domains_here", "_law_k", "_law_way", "_law_turn", "_law_at"]
theorem scLnk : FnScope nLnk ["_law_stream_here", "_law_names_here", "_law_pool_here", "_law_ways"] (defScope sLnk) := ⟨rfl, rfl, rfl, by decide +kernel, rfl, by decide +kernel, by decide +kernel⟩
def spLnk : Sp := fun vs H Q _ => ∃ (p nm pl : Addr) (xs : List Str) (ps : List Int) (ways : Nat), vs = [.ref p, .ref nm, .ref pl, .int (ways : Int)] ∧ Strm H p ∧ H nm = some (.lst (xs.map V.str)) ∧ nm ≠ p ∧ H pl = some (.lst (ps.map V.int)) ∧ pl ≠ p ∧ Srt ps ∧ 2 ≤ xs.length ∧ xs.length ≤ 20 ∧ ps.length = xs.length + 1 ∧ 1 ≤ ways ∧ ways ≤ 10 ∧
  ∀ (H' : Hp) (l : Addr) (ds : List DomE), Keep p H H' → Lk H' p l ds ps → ((ds.map (·.2.1)).Perm xs ∨ (ds.map (·.2.1)).Perm (xs ++ [("aside" : Str)])) → Q (.ref l) H'
theorem ok_Lnk {f f0 f1 : Addr} {fd fd0 fd1 : FuncData} (F : Fun K "_law_links" "_law_links" sLnk f fd) (B : Bt mg) (D : Call P w K mg base 1 "_law_next" f0 fd0 ["_law_stream_here", "_law_size"] spDraw) (CSf : Call P w K mg base 2 "_law_shuffled" f1 fd1 ["_law_stream_here", "_law_things"] spSf) :
    FnOk P w K mg base CX0 3 f fd ["_law_stream_here", "_law_names_here", "_law_pool_here", "_law_ways"] spLnk := by
  refine F.ok scLnk (fun vs H Q E h => ?_) (fun cdv A outer s H vs Q E hr h => ?_)
  · obtain ⟨p, nm, pl, xs, ps, ways, rfl, _⟩ := h
    rfl
  · obtain ⟨p, nm, pl, xs, ps, ways, rfl, hp, en, np, ep, pp, so, x2, x20, lps, w1, w10, q⟩ := h
    have hu := hu_of hr
    have nd := scLnk.nd
    refine ⟨_, pss_cons (ps_set (i := 4) nd rfl (.inl rfl) (pe_lst pa_nil))
      (pss_cons (ps_for PassesOwn.never rfl (pi_range1 (by rfl) B.range (pa_cons (pe_callB call_len_seq (by rfl) B.len PySem.boot_len (pa_cons (pv 1) pa_nil)) pa_nil)) (pg_name (i := 5) nd rfl (.inl rfl))
        (pss_one (ps_expr (pe_bm PySem.F.plainAttrs_list PySem.F.slot_list_append PySem.F.type_list_append mt_append (pv 4) (pa_cons (pe_tup (pa_cons (pe_ix ix_list (pv 1) (pv 5) (fun _ _ => rfl)) (pa_cons (pe_lst (pa_cons (pe_ix ix_list (pv 2) (pv 5) (fun _ _ => rfl)) (pa_cons (pe_ix ix_list (pv 2) (pe_op op_add (pv 5) pe_int) (fun _ _ => rfl)) pa_nil))) pa_nil))) pa_nil)))))
      (pss_cons (ps_set (i := 6) nd rfl (.inl rfl) (pe_call D.ok (hr.mono (by decide)) (by rfl) D.at_ D.kp D.bd .nil pass0 (pa_cons (pv 0) (pa_cons (pv 3) pa_nil))))
      (pss_cons (ps_if (pt_cmpR op_eq (pv 6) pe_int rfl)
        (pss_one (ps_asg (pe_tup (pa_cons (pe_ix ix_list (pv 1) (pe_op op_sub (pe_callB call_len_seq (by rfl) B.len PySem.boot_len (pa_cons (pv 1) pa_nil)) pe_int) (fun _ _ => rfl)) (pa_cons (pe_lst (pa_cons (pe_ix ix_list (pv 2) pe_int (fun _ _ => rfl)) (pa_cons (pe_ix ix_list (pv 2) (pe_op op_sub (pe_callB call_len_seq (by rfl) B.len PySem.boot_len (pa_cons (pv 1) pa_nil)) pe_int) (fun _ _ => rfl)) pa_nil))) pa_nil))) (pg_sub (pv 4) (pe_op op_sub (pe_callB call_len_seq (by rfl) B.len PySem.boot_len (pa_cons (pv 1) pa_nil)) pe_int) set_list)))
        pss_nil)
      (pss_cons (ps_if (pt_cmpR op_gt (pv 6) pe_int rfl)
        (pss_one (ps_for PassesOwn.never rfl (pi_range1 (by rfl) B.range (pa_cons (pe_op op_sub (pv 6) pe_int) pa_nil)) (pg_name (i := 7) nd rfl (.inl rfl))
            (pss_cons (ps_set (i := 8) nd rfl (.inl rfl) (pe_call D.ok (hr.mono (by decide)) (by rfl) D.at_ D.kp D.bd .nil pass0 (pa_cons (pv 0) (pa_cons (pe_callB call_len_seq (by rfl) B.len PySem.boot_len (pa_cons (pv 1) pa_nil)) pa_nil))))
              (pss_one (ps_asg (pe_tup (pa_cons (pe_ix ix_list (pv 1) (pv 8) (fun _ _ => rfl)) (pa_cons (pe_lst (pa_cons (pe_ix ix_list (pv 2) (pe_op op_add (pv 8) (pe_call D.ok (hr.mono (by decide)) (by rfl) D.at_ D.kp D.bd .nil pass0 (pa_cons (pv 0) (pa_cons pe_int pa_nil)))) (fun _ _ => rfl)) pa_nil)) pa_nil))) (pg_sub (pv 4) (pv 8) set_list))))))
        pss_nil)
      (pss_cons (ps_if (pt_cmpR op_eq (pe_call D.ok (hr.mono (by decide)) (by rfl) D.at_ D.kp D.bd .nil pass0 (pa_cons (pv 0) (pa_cons pe_int pa_nil))) pe_int rfl)
        (pss_one (ps_expr (pe_bm PySem.F.plainAttrs_list PySem.F.slot_list_append PySem.F.type_list_append mt_append (pv 4) (pa_cons (pe_tup (pa_cons pe_str (pa_cons (pe_lst (pa_cons (pe_ix ix_list (pv 2) (pe_call D.ok (hr.mono (by decide)) (by rfl) D.at_ D.kp D.bd .nil pass0 (pa_cons (pv 0) (pa_cons (pe_callB call_len_seq (by rfl) B.len PySem.boot_len (pa_cons (pv 2) pa_nil)) pa_nil))) (fun _ _ => rfl)) pa_nil)) pa_nil))) pa_nil))))
        pss_nil)
      (pss_one (ps_ret (pe_call CSf.ok (hr.mono (by decide)) (by rfl) CSf.at_ CSf.kp CSf.bd .nil pass0 (pa_cons (pv 0) (pa_cons (pv 4) pa_nil)))))))))), ?_⟩
    refine ⟨by show 0 ≤ sizeLine; decide, fun l nl => ?_⟩
    have lp : l ≠ p := fun z => hp.some (z ▸ nl)
    have k0 : Keep p H (upd H l (.lst [])) := (Keep.refl _ _).at_ nl
    have lxv : (xs.map V.str).length = xs.length := List.length_map _
    have lpv : (ps.map V.int).length = ps.length := List.length_map _
    have g0 : Lk (upd H l (.lst [])) p l [] ps := ⟨hp.upd lp.symm, ⟨upd_same, (fun _ h => nomatch h), (fun _ h => nomatch h)⟩, lp, (fun _ h => nomatch h), (fun _ h => nomatch h)⟩
    generalize upd H l (.lst []) = H0 at k0 g0 ⊢
    refine ⟨_, rfl, nm, _, rfl, .inl (sl_map (k0 _ _ np en)), _, rfl, by omega, by omega, for_range (lo := 0) (n := (xs.map V.str).length) (fun i σ H' => ∃ (y5 y6 y7 y8 : Option V) (ds : List DomE), σ = [some (.ref p), some (.ref nm), some (.ref pl), some (.int (ways : Int)), some (.ref l), y5, y6, y7, y8] ∧ Keep p H H' ∧ Lk H' p l ds ps ∧ ds.map (·.2.1) = xs.take i)
      ⟨none, none, none, none, [], rfl, k0, g0, rfl⟩ ?_ ?_⟩
    · rintro i σ H1 hi ⟨y5, y6, y7, y8, ds, rfl, k1, g1, kd⟩
      rw [lxv] at hi
      have ld : ds.length = i := by have := congrArg List.length kd; rw [List.length_map, List.length_take] at this; omega
      obtain ⟨x, hx, hxv, xm⟩ := str_at hi
      obtain ⟨u, hu0, huv, um⟩ := int_at (ps := ps) (i := i) (by omega)
      obtain ⟨v, hv0, hvv, vm⟩ := int_at (ps := ps) (i := i + 1) (by omega)
      have en1 := k1 _ _ np en
      have ep1 := k1 _ _ pp ep
      refine ⟨_, rfl, .inl ⟨rfl, _, sl_map g1.dm.lst⟩, _, rfl, _, rfl, nm, _, _, .str x, rfl, rfl, sl_map en1, at_eq (by omega) hxv, _, rfl, _, rfl, pl, _, _, .int u, rfl, rfl, sl_map ep1, at_eq (by omega) huv, _, rfl, _, rfl, _, _, rfl, rfl, pl, _, _, .int v, rfl, rfl, sl_map ep1, at_eq (j := i + 1) (by omega) hvv, by show 2 ≤ sizeLine; decide, fun Z nZ => ⟨by show 2 ≤ sizeLine; decide, fun T nT => ?_⟩⟩
      have Zp : Z ≠ p := fun z => g1.st.some (z ▸ nZ)
      have Zl : Z ≠ l := fun z => by have := g1.dm.lst; rw [← z, nZ] at this; cases this
      have s1 := same_new (o := HO.lst [V.int u, .int v]) nZ
      have s2 := s1.trans (same_new (o := HO.tup [V.str x, .ref Z]) nT)
      have eZ : (upd (upd H1 Z (.lst [V.int u, .int v])) T (.tup [V.str x, .ref Z])) Z = some (.lst (([u, v] : List Int).map V.int)) := (same_new nT) _ _ upd_same
      have eT : (upd (upd H1 Z (.lst [V.int u, .int v])) T (.tup [V.str x, .ref Z])) T = some (.tup [V.str x, .ref Z]) := upd_same
      have k2 : Keep p H (upd (upd H1 Z (.lst [V.int u, .int v])) T (.tup [V.str x, .ref Z])) := k1.trans (Keep.same s2)
      have g2 := g1.same s2
      generalize upd (upd H1 Z (.lst [V.int u, .int v])) T (.tup [V.str x, .ref Z]) = H2 at k2 g2 eZ eT ⊢
      have g3 := g2.put (ds' := ds ++ [((T, x, Z, [u, v]) : DomE)]) (d := (T, x, Z, [u, v])) (fun e he => (List.mem_append.mp he).imp_right List.mem_singleton.mp) eT eZ Zp Zl ⟨srt_two (srt_lt so (Nat.lt_succ_self i) hu0 hv0), Nat.le_refl _, fun w hw => by
        rcases List.mem_cons.mp hw with h | h
        · rw [h]; exact um
        · rw [List.mem_singleton.mp h]; exact vm⟩
      rw [List.map_append] at g3
      exact ⟨l, _, _, rfl, rfl, g2.dm.lst, by rw [List.length_map]; exact small1000 (by omega), _, _, _, _, _, rfl, k2.at_ nl, g3, by rw [List.map_append, kd, take_snoc hx] <;> rfl⟩
    · rintro σ H1 ⟨y5, y6, y7, y8, ds, rfl, k1, g1, kd⟩
      rw [lxv, List.take_length] at kd
      refine ⟨_, rfl, _, rfl, p, _, rfl, g1.st, by omega, by omega, fun H2 w o2 st2 w0 w1' => ?_⟩
      have k2 := k1.oth o2
      have g2 := g1.go ((Keep.refl _ _).oth o2) st2
      have ld : ds.length = xs.length := by rw [← kd, List.length_map]
      -- the last one
      refine' with_restS (fun σ H' => ∃ (y7 y8 : Option V) (ds : List DomE), σ = [some (.ref p), some (.ref nm), some (.ref pl), some (.int (ways : Int)), some (.ref l), y5, some (.int w), y7, y8] ∧ Keep p H H' ∧ Lk H' p l ds ps ∧ ds.map (·.2.1) = xs) ?r1 (fun rest => ⟨_, rfl, rfl, _, rfl, ite_both (fun _ => ?g1) fun _ => rest _ _ ⟨_, _, ds, rfl, k2, g2, kd⟩⟩)
      case' g1 =>
        have en2 := k2 _ _ np en
        have ep2 := k2 _ _ pp ep
        obtain ⟨x, hx, hxv, xm⟩ := str_at (xs := xs) (i := xs.length - 1) (by omega)
        obtain ⟨u, hu0, huv, um⟩ := int_at (ps := ps) (i := 0) (by omega)
        obtain ⟨v, hv0, hvv, vm⟩ := int_at (ps := ps) (i := xs.length - 1) (by omega)
        refine ⟨_, rfl, _, rfl, nm, _, rfl, .inl (sl_map en2), _, _, rfl, rfl, nm, _, _, .str x, rfl, rfl, sl_map en2, at_eq (j := xs.length - 1) (by rw [lxv]; omega) hxv, _, rfl, pl, _, _, .int u, rfl, rfl, sl_map ep2, atI_nat (j := 0) huv, _, rfl, _, rfl, nm, _, rfl, .inl (sl_map en2), _, _, rfl, rfl, pl, _, _, .int v, rfl, rfl, sl_map ep2, at_eq (j := xs.length - 1) (by rw [lxv]; omega) hvv, by show 2 ≤ sizeLine; decide, fun Z nZ => ⟨by show 2 ≤ sizeLine; decide, fun T nT => ?_⟩⟩
        have Zp : Z ≠ p := fun z => g2.st.some (z ▸ nZ)
        have Zl : Z ≠ l := fun z => by have := g2.dm.lst; rw [← z, nZ] at this; cases this
        have s1 := same_new (o := HO.lst [V.int u, .int v]) nZ
        have s2 := s1.trans (same_new (o := HO.tup [V.str x, .ref Z]) nT)
        have eZ : (upd (upd H2 Z (.lst [V.int u, .int v])) T (.tup [V.str x, .ref Z])) Z = some (.lst (([u, v] : List Int).map V.int)) := (same_new nT) _ _ upd_same
        have eT : (upd (upd H2 Z (.lst [V.int u, .int v])) T (.tup [V.str x, .ref Z])) T = some (.tup [V.str x, .ref Z]) := upd_same
        have k3 : Keep p H (upd (upd H2 Z (.lst [V.int u, .int v])) T (.tup [V.str x, .ref Z])) := k2.trans (Keep.same s2)
        have g3 := g2.same s2
        have en3 := s2 _ _ en2
        generalize upd (upd H2 Z (.lst [V.int u, .int v])) T (.tup [V.str x, .ref Z]) = H3 at k3 g3 eZ eT en3 ⊢
        have g4 := g3.put (ds' := ds.set (xs.length - 1) ((T, x, Z, [u, v]) : DomE)) (d := (T, x, Z, [u, v])) (fun e he => (List.mem_or_eq_of_mem_set he)) eT eZ Zp Zl ⟨srt_two (srt_lt so (by omega) hu0 hv0), Nat.le_refl _, fun w hw => by
          rcases List.mem_cons.mp hw with h | h
          · rw [h]; exact um
          · rw [List.mem_singleton.mp h]; exact vm⟩
        rw [List.map_set] at g4
        refine ⟨_, rfl, _, rfl, nm, _, rfl, .inl (sl_map en3), _, _, rfl, rfl, l, _, _, xs.length - 1, rfl, rfl, g3.dm.lst, ?_, ?_⟩
        · rw [lxv, List.length_map, ld, show ((xs.length : Nat) : Int) - 1 = ((xs.length - 1 : Nat) : Int) by omega]; exact ixN_nat (by omega)
        refine rest _ _ ⟨_, _, _, rfl, k3.at_ nl, g4, ?_⟩
        rw [List.map_set, kd]
        exact list_set_self hx
      clear g2 k2 ld kd g1 k1 ds
      rintro σ H3 ⟨y7, y8, ds, rfl, k3, g3, kd⟩
      refine' with_restS (fun σ H' => ∃ (y7 y8 : Option V) (ds : List DomE), σ = [some (.ref p), some (.ref nm), some (.ref pl), some (.int (ways : Int)), some (.ref l), y5, some (.int w), y7, y8] ∧ Keep p H H' ∧ Lk H' p l ds ps ∧ ds.map (·.2.1) = xs) ?r2 (fun rest => ⟨_, rfl, _, _, rfl, rfl, _, rfl, ite_both (fun c0 => ?g2) fun _ => rest _ _ ⟨_, _, ds, rfl, k3, g3, kd⟩⟩)
      case' g2 =>
        have w2 : 1 < w := of_decide_eq_true c0
        refine ⟨_, rfl, _, _, rfl, rfl, w - 1, rfl, by omega, by omega, for_range (lo := 0) (n := (w - 1).toNat) (fun i σ H' => ∃ (y7 y8 : Option V) (ds : List DomE), σ = [some (.ref p), some (.ref nm), some (.ref pl), some (.int (ways : Int)), some (.ref l), y5, some (.int w), y7, y8] ∧ Keep p H H' ∧ Lk H' p l ds ps ∧ ds.map (·.2.1) = xs) ⟨_, _, ds, rfl, k3, g3, kd⟩ ?f1 ?f2⟩
        case f1 =>
          clear g3 k3 kd ds y7 y8
          rintro i σ H4 hi ⟨y7, y8, ds, rfl, k4, g4, kd⟩
          have ld : ds.length = xs.length := by rw [← kd, List.length_map]
          refine ⟨_, rfl, _, rfl, nm, _, rfl, .inl (sl_map (k4 _ _ np en)), p, _, rfl, g4.st, by rw [lxv]; omega, by rw [lxv]; omega, fun H5 a o5 st5 a0 a1 => ?_⟩
          rw [lxv] at a1
          obtain ⟨m, rfl⟩ : ∃ m : Nat, a = (m : Int) := ⟨a.toNat, by omega⟩
          have k5 := k4.oth o5
          have g5 := g4.go ((Keep.refl _ _).oth o5) st5
          obtain ⟨x, hx, hxv, xm⟩ := str_at (xs := xs) (i := m) (by omega)
          refine ⟨_, rfl, _, rfl, nm, _, _, .str x, rfl, rfl, sl_map (k5 _ _ np en), atI_nat (j := m) hxv, _, rfl, _, rfl, _, rfl, p, 2, rfl, g5.st, by decide, by decide, fun H6 b o6 st6 b0 b1 => ⟨_, _, rfl, rfl, ?_⟩⟩
          have k6 := k5.oth o6
          have g6 := g5.go ((Keep.refl _ _).oth o6) st6
          obtain ⟨c, rfl⟩ : ∃ m : Nat, b = (m : Int) := ⟨b.toNat, by omega⟩
          obtain ⟨u, hu0, huv, um⟩ := int_at (ps := ps) (i := m + c) (by omega)
          refine ⟨pl, _, _, .int u, rfl, rfl, sl_map (k6 _ _ pp ep), at_eq (j := m + c) (by omega) huv, by show 1 ≤ sizeLine; decide, fun Z nZ => ⟨by show 2 ≤ sizeLine; decide, fun T nT => ?_⟩⟩
          have Zp : Z ≠ p := fun z => g6.st.some (z ▸ nZ)
          have Zl : Z ≠ l := fun z => by have := g6.dm.lst; rw [← z, nZ] at this; cases this
          have s1 := same_new (o := HO.lst [V.int u]) nZ
          have s2 := s1.trans (same_new (o := HO.tup [V.str x, .ref Z]) nT)
          have eZ : (upd (upd H6 Z (.lst [V.int u])) T (.tup [V.str x, .ref Z])) Z = some (.lst (([u] : List Int).map V.int)) := (same_new nT) _ _ upd_same
          have eT : (upd (upd H6 Z (.lst [V.int u])) T (.tup [V.str x, .ref Z])) T = some (.tup [V.str x, .ref Z]) := upd_same
          have k7 : Keep p H (upd (upd H6 Z (.lst [V.int u])) T (.tup [V.str x, .ref Z])) := k6.trans (Keep.same s2)
          have g7 := g6.same s2
          generalize upd (upd H6 Z (.lst [V.int u])) T (.tup [V.str x, .ref Z]) = H7 at k7 g7 eZ eT ⊢
          have g8 := g7.put (ds' := ds.set m ((T, x, Z, [u]) : DomE)) (d := (T, x, Z, [u])) (fun e he => (List.mem_or_eq_of_mem_set he)) eT eZ Zp Zl ⟨List.pairwise_singleton _ _, by show 1 ≤ 2; decide, fun w hw => by rw [List.mem_singleton.mp hw]; exact um⟩
          rw [List.map_set] at g8
          refine ⟨_, rfl, _, rfl, l, _, _, m, rfl, rfl, g7.dm.lst, ixN_nat (by rw [List.length_map, ld]; omega), ?_⟩
          refine ⟨_, _, _, rfl, k7.at_ nl, g8, ?_⟩
          rw [List.map_set, kd]
          exact list_set_self hx
        case f2 =>
          rintro σ H4 ⟨y7, y8, ds, rfl, k4, g4, kd⟩
          exact rest _ _ ⟨_, _, ds, rfl, k4, g4, kd⟩
      clear g3 k3 kd ds y7 y8
      rintro σ H4 ⟨y7, y8, ds, rfl, k4, g4, kd⟩
      have ld : ds.length = xs.length := by rw [← kd, List.length_map]
      refine' with_restS (fun σ H' => ∃ (ds : List DomE), σ = [some (.ref p), some (.ref nm), some (.ref pl), some (.int (ways : Int)), some (.ref l), y5, some (.int w), y7, y8] ∧ Keep p H H' ∧ Lk H' p l ds ps ∧ (ds.map (·.2.1) = xs ∨ ds.map (·.2.1) = xs ++ [("aside" : Str)])) ?r3 (fun rest => ⟨_, rfl, p, 2, rfl, g4.st, by decide, by decide, fun H5 a o5 st5 a0 a1 => ⟨rfl, _, rfl, ite_both (fun _ => ?g3) fun _ => rest _ _ ⟨ds, rfl, k4.oth o5, g4.go ((Keep.refl _ _).oth o5) st5, .inl kd⟩⟩⟩)
      case' g3 =>
        have k5 := k4.oth o5
        have g5 := g4.go ((Keep.refl _ _).oth o5) st5
        refine ⟨_, rfl, .inl ⟨rfl, _, sl_map g5.dm.lst⟩, _, rfl, _, rfl, _, rfl, pl, _, rfl, .inl (sl_map (k5 _ _ pp ep)), p, _, rfl, g5.st, by rw [lpv]; omega, by rw [lpv]; omega, fun H6 b o6 st6 b0 b1 => ?_⟩
        rw [lpv] at b1
        have k6 := k5.oth o6
        have g6 := g5.go ((Keep.refl _ _).oth o6) st6
        obtain ⟨c, rfl⟩ : ∃ m : Nat, b = (m : Int) := ⟨b.toNat, by omega⟩
        obtain ⟨u, hu0, huv, um⟩ := int_at (ps := ps) (i := c) (by omega)
        refine ⟨pl, _, _, .int u, rfl, rfl, sl_map (k6 _ _ pp ep), atI_nat (j := c) huv, by show 1 ≤ sizeLine; decide, fun Z nZ => ⟨by show 2 ≤ sizeLine; decide, fun T nT => ?_⟩⟩
        have Zp : Z ≠ p := fun z => g6.st.some (z ▸ nZ)
        have Zl : Z ≠ l := fun z => by have := g6.dm.lst; rw [← z, nZ] at this; cases this
        have s1 := same_new (o := HO.lst [V.int u]) nZ
        have s2 := s1.trans (same_new (o := HO.tup [V.str "aside", .ref Z]) nT)
        have eZ : (upd (upd H6 Z (.lst [V.int u])) T (.tup [V.str "aside", .ref Z])) Z = some (.lst (([u] : List Int).map V.int)) := (same_new nT) _ _ upd_same
        have eT : (upd (upd H6 Z (.lst [V.int u])) T (.tup [V.str "aside", .ref Z])) T = some (.tup [V.str "aside", .ref Z]) := upd_same
        have k7 : Keep p H (upd (upd H6 Z (.lst [V.int u])) T (.tup [V.str "aside", .ref Z])) := k6.trans (Keep.same s2)
        have g7 := g6.same s2
        generalize upd (upd H6 Z (.lst [V.int u])) T (.tup [V.str "aside", .ref Z]) = H7 at k7 g7 eZ eT ⊢
        have g8 := g7.put (ds' := ds ++ [((T, "aside", Z, [u]) : DomE)]) (d := (T, "aside", Z, [u])) (fun e he => (List.mem_append.mp he).imp_right List.mem_singleton.mp) eT eZ Zp Zl ⟨List.pairwise_singleton _ _, by show 1 ≤ 2; decide, fun w hw => by rw [List.mem_singleton.mp hw]; exact um⟩
        rw [List.map_append] at g8
        refine ⟨l, _, _, rfl, rfl, g7.dm.lst, by rw [List.length_map]; exact small1000 (by omega), rest _ _ ⟨_, rfl, k7.at_ nl, g8, .inr ?_⟩⟩
        rw [List.map_append, kd] <;> rfl
      clear g4 k4 kd ld ds
      rintro σ H5 ⟨ds, rfl, k5, g5, kd⟩
      have ld : ds.length ≤ xs.length + 1 := by
        rcases kd with h | h
        · rw [← h, List.length_map]; omega
        · have := congrArg List.length h; rw [List.length_map, List.length_append] at this; show ds.length ≤ _; have e : ([("aside" : Str)]).length = 1 := rfl; omega
      refine ⟨_, rfl, _, rfl, DomE, fun d => V.ref d.1, p, l, ds, rfl, g5.st, g5.dm.lst, by omega, lp.symm, fun H6 l2 zs k6 n6 st6 e6 pm => ?_⟩
      have g6 := g5.go k6 st6
      have mem : ∀ {d : DomE}, d ∈ zs → d ∈ ds := fun h => pm.mem_iff.mp h
      refine q _ l2 zs (k5.trans k6) ⟨st6, ⟨e6, fun d hd => g6.dm.tup d (mem hd), fun d hd => g6.dm.side d (mem hd)⟩, fun z => g5.st.some (z ▸ n6), fun d hd => ⟨(g6.aw d (mem hd)).1, fun z => by have := g5.dm.side d (mem hd); rw [z, n6] at this; cases this⟩, fun d hd => g6.ok d (mem hd)⟩ ?_
      have pm2 : (zs.map (·.2.1)).Perm (ds.map (·.2.1)) := pm.map _
      rcases kd with h | h
      · exact .inl (h ▸ pm2)
      · exact .inr (h ▸ pm2)
end
end K57
set_option Elab.async false
set_option linter.all false
set_option maxRecDepth 100000
set_option maxHeartbeats 4000000
namespace K57
open PySem PySem.Spec PyProof.Rows L2 Cs CsX
def setC (c : Str → Int) (x : Str) (v : Int) : Str → Int := fun y => if y = x then v else c y
theorem setC_take {ns : List Str} {c : Str → Int} {i : Nat} {x : Str} {v : Int} (nd : ns.Nodup) (hx : ns[i]? = some x) : (ns.take i).map (setC c x v) = (ns.take i).map c := List.map_congr_left fun y hy => if_neg fun (z : y = x) => not_take nd hx (z ▸ hy)
theorem filtI_snoc {A : List Int} {i : Nat} {e : Int} {p : Int → Bool} (h : A[i]? = some e) : (A.take (i + 1)).filter p = (A.take i).filter p ++ (if p e = true then [e] else []) := by
  rw [take_snoc h, List.filter_append, List.filter_cons, List.filter_nil]
/-- one row grown by the values that are new to it -/
def gr1 (s : List Int) (r : List Int) : List (List Int) := (s.filter fun v => !decide (v ∈ r)).map fun v => r ++ [v]
def grow (s : List Int) (rs : List (List Int)) : List (List Int) := rs.flatMap (gr1 s)
def rowsU (S : Str → List Int) (ws : List Str) : List (List Int) := ws.foldl (fun acc x => grow (S x) acc) [[]]
theorem rowsU_snoc (S : Str → List Int) (ws : List Str) (x : Str) : rowsU S (ws ++ [x]) = grow (S x) (rowsU S ws) := by
  unfold rowsU
  rw [List.foldl_append] <;> rfl
theorem mem_gr1 {s r q : List Int} : q ∈ gr1 s r ↔ ∃ v ∈ s, v ∉ r ∧ q = r ++ [v] := by
  unfold gr1
  rw [List.mem_map]
  constructor
  · rintro ⟨v, hv, rfl⟩
    obtain ⟨h1, h2⟩ := List.mem_filter.mp hv
    exact ⟨v, h1, by simpa using h2, rfl⟩
  · rintro ⟨v, hv, h, rfl⟩
    exact ⟨v, List.mem_filter.mpr ⟨hv, by simpa using h⟩, rfl⟩
theorem rowsU_mem {S : Str → List Int} {ws : List Str} (nd : ws.Nodup) : ∀ i, i ≤ ws.length → ∀ r, r ∈ rowsU S (ws.take i) ↔ ∃ g, Inj (ws.take i) S g ∧ r = (ws.take i).map g := by
  intro i
  induction i with
  | zero =>
    intro _ r
    constructor
    · intro h
      have : r = [] := List.mem_singleton.mp h
      exact ⟨fun _ => 0, ⟨(fun _ h => nomatch h), (fun _ h => nomatch h)⟩, this⟩
    · rintro ⟨g, _, rfl⟩
      exact List.mem_singleton.mpr rfl
  | succ i ih =>
    intro hi r
    obtain ⟨x, hx⟩ : ∃ x, ws[i]? = some x := ⟨_, List.getElem?_eq_getElem (by omega)⟩
    have xt := not_take nd hx
    rw [take_snoc hx, rowsU_snoc]
    unfold grow
    rw [List.mem_flatMap]
    constructor
    · rintro ⟨r0, h0, h1⟩
      obtain ⟨v, hv, vn, rfl⟩ := mem_gr1.mp h1
      obtain ⟨g, G, rfl⟩ := (ih (by omega) r0).mp h0
      have same : ∀ y ∈ ws.take i, setC g x v y = g y := fun y hy => if_neg fun (z : y = x) => xt (z ▸ hy)
      have atx : setC g x v x = v := if_pos rfl
      refine ⟨setC g x v, ⟨fun y hy => ?_, fun y hy z hz e => ?_⟩, ?_⟩
      · rcases List.mem_append.mp hy with h | h
        · rw [same y h]; exact G.mem y h
        · rw [List.mem_singleton.mp h, atx]; exact hv
      · rcases List.mem_append.mp hy with h | h
        · rcases List.mem_append.mp hz with k | k
          · rw [same y h, same z k] at e; exact G.inj y h z k e
          · rw [same y h, List.mem_singleton.mp k, atx] at e
            exact absurd (List.mem_map.mpr ⟨y, h, e⟩) vn
        · rcases List.mem_append.mp hz with k | k
          · rw [same z k, List.mem_singleton.mp h, atx] at e
            exact absurd (List.mem_map.mpr ⟨z, k, e.symm⟩) vn
          · rw [List.mem_singleton.mp h, List.mem_singleton.mp k]
      · rw [List.map_append, setC_take nd hx]
        show _ = _ ++ [setC g x v x]
        rw [atx]
    · rintro ⟨g, G, rfl⟩
      refine ⟨(ws.take i).map g, (ih (by omega) _).mpr ⟨g, ⟨fun y hy => G.mem y (List.mem_append_left _ hy), fun y hy z hz => G.inj y (List.mem_append_left _ hy) z (List.mem_append_left _ hz)⟩, rfl⟩, mem_gr1.mpr ⟨g x, G.mem x (List.mem_append_right _ (List.mem_singleton.mpr rfl)), fun m => ?_, by rw [List.map_append] <;> rfl⟩⟩
      obtain ⟨y, hy, e⟩ := List.mem_map.mp m
      have := G.inj y (List.mem_append_left _ hy) x (List.mem_append_right _ (List.mem_singleton.mpr rfl)) e
      exact xt (this ▸ hy)
theorem rowsU_iff {S : Str → List Int} {ws : List Str} (nd : ws.Nodup) (r : List Int) : r ∈ rowsU S ws ↔ ∃ g, Inj ws S g ∧ r = ws.map g := by
  have := rowsU_mem (S := S) nd ws.length (Nat.le_refl _) r
  rwa [List.take_length] at this
theorem gr1_len (s r : List Int) : (gr1 s r).length ≤ s.length := by
  unfold gr1
  rw [List.length_map]
  exact List.length_filter_le _ _
theorem grow_len {s : List Int} {k : Nat} (h : s.length ≤ k) : ∀ rs : List (List Int), (grow s rs).length ≤ k * rs.length
  | [] => Nat.zero_le _
  | r :: rs => by
    have ih := grow_len h rs
    have h1 := gr1_len s r
    unfold grow at ih ⊢
    rw [List.flatMap_cons, List.length_append, List.length_cons, Nat.mul_succ]
    omega
theorem rowsU_len {S : Str → List Int} {k : Nat} {ws : List Str} (h : ∀ x ∈ ws, (S x).length ≤ k) : ∀ i, i ≤ ws.length → (rowsU S (ws.take i)).length ≤ k ^ i := by
  intro i
  induction i with
  | zero => intro _; exact Nat.le_refl _
  | succ i ih =>
    intro hi
    obtain ⟨x, hx⟩ : ∃ x, ws[i]? = some x := ⟨_, List.getElem?_eq_getElem (by omega)⟩
    rw [take_snoc hx, rowsU_snoc]
    refine Nat.le_trans (grow_len (h x (List.mem_of_getElem? hx)) _) ?_
    rw [Nat.pow_succ, Nat.mul_comm]
    exact Nat.mul_le_mul_right _ (ih (by omega))
/-- rows in a list -/
structure RLs (H : Hp) (l : Addr) (rs : List (Addr × List Int)) : Prop where
  lst : H l = some (.lst (rs.map fun e => V.ref e.1))
  row : ∀ e ∈ rs, H e.1 = some (.lst (e.2.map V.int))
theorem RLs.same {H H' : Hp} {l : Addr} {rs : List (Addr × List Int)} (r : RLs H l rs) (s : Same H H') : RLs H' l rs := ⟨s _ _ r.lst, fun e he => s _ _ (r.row e he)⟩
abbrev cont (rs : List (Addr × List Int)) : List (List Int) := rs.map (·.2)
theorem take_flat {rs : List (List Int)} {i : Nat} {r : List Int} {f : List Int → List (List Int)} (h : rs[i]? = some r) : (rs.take (i + 1)).flatMap f = (rs.take i).flatMap f ++ f r := by
  rw [take_snoc h, List.flatMap_append]
  simp
section
variable {P : Program} {w : World} {K : PySem.W.Frag} {mg : Str → Option Value} {base : Heap}
abbrev sUr : Stmt := topS 41
abbrev nUr : List Str := ["_law_walked", "_law_sides_here", "_law_found", "_law_name", "_law_grown", "_law_row", "_law_value"]
theorem scUr : FnScope nUr ["_law_walked", "_law_sides_here"] (defScope sUr) := ⟨rfl, rfl, rfl, by decide +kernel, rfl, by decide +kernel, by decide +kernel⟩
def spUr : Sp := fun vs H Q _ => ∃ (wk b : Addr) (ws : List Str) (L : List Ent) (S : Str → List Int) (k : Nat), vs = [.ref wk, .ref b] ∧ H wk = some (.lst (ws.map V.str)) ∧ Bu H b L ∧ Fit L ws S ∧ ws.Nodup ∧ ws.length ≤ 30 ∧ (∀ x ∈ ws, (S x).length ≤ k) ∧ 1 ≤ k ∧ k ≤ 30 ∧ k ^ ws.length ≤ 65536 ∧
  ∀ (H' : Hp) (l : Addr) (rs : List (Addr × List Int)), Same H H' → H l = none → RLs H' l rs → cont rs = rowsU S ws → Q (.ref l) H'
theorem ok_Ur {f  : Addr} {fd  : FuncData} (F : Fun K "_law_unlike_rows" "_law_unlike_rows" sUr f fd) (B : Bt mg) :
    FnOk P w K mg base CX0 1 f fd ["_law_walked", "_law_sides_here"] spUr := by
  refine F.ok scUr (fun vs H Q E h => ?_) (fun cdv A outer s H vs Q E hr h => ?_)
  · obtain ⟨wk, b, ws, L, S, k, rfl, _⟩ := h
    rfl
  · obtain ⟨wk, b, ws, L, S, k, rfl, ew, bx, fit, wn, w30, sk, k0, k30, kb, q⟩ := h
    have hu := hu_of hr
    have nd := scUr.nd
    refine ⟨_, pss_cons (ps_set (i := 2) nd rfl (.inl rfl) (pe_lst (pa_cons (pe_lst pa_nil) pa_nil)))
      (pss_cons (ps_for PassesOwn.never rfl (pi_list (pv 0)) (pg_name (i := 3) nd rfl (.inl rfl))
        (pss_cons (ps_set (i := 4) nd rfl (.inl rfl) (pe_lst pa_nil))
          (pss_cons (ps_for PassesOwn.never rfl (pi_list (pe_callTy call_list_of (by rfl) B.list PyProof.Rows.boot_list (pa_cons (pv 2) pa_nil))) (pg_name (i := 5) nd rfl (.inl rfl))
            (pss_one (ps_for PassesOwn.never rfl (pi_list (pe_dget hu (pv 1) (pv 3) (fun _ _ => rfl))) (pg_name (i := 6) nd rfl (.inl rfl))
                (pss_one (ps_if (pt_cmpR (r := rIn K true) op_notIn_seq (pv 6) (pv 5) rfl)
                    (pss_one (ps_expr (pe_bm PySem.F.plainAttrs_list PySem.F.slot_list_append PySem.F.type_list_append mt_append (pv 4) (pa_cons (pe_op op_cat (pv 5) (pe_lst (pa_cons (pv 6) pa_nil))) pa_nil))))
                    pss_nil)))))
          (pss_one (ps_set (i := 2) nd rfl (.inl rfl) (pv 4))))))
      (pss_one (ps_ret (pv 2)))), ?_⟩
    have few : ∀ i, i ≤ ws.length → (rowsU S (ws.take i)).length ≤ 65536 := fun i hi => Nat.le_trans (rowsU_len sk i hi) (Nat.le_trans (Nat.pow_le_pow_right k0 hi) kb)
    have cl : ∀ {rs : List (Addr × List Int)}, (rs.map fun e => V.ref e.1).length = (cont rs).length := by intro rs; rw [List.length_map, List.length_map]
    refine ⟨by show 0 ≤ sizeLine; decide, fun e0 n0 => ⟨by show 1 ≤ sizeLine; decide, fun l0 nl0 => ?_⟩⟩
    have s0 := same_new (o := HO.lst []) n0
    have s1 := s0.trans (same_new (o := HO.lst [V.ref e0]) nl0)
    have ee0 : (upd (upd H e0 (.lst [])) l0 (.lst [V.ref e0])) e0 = some (.lst (([] : List Int).map V.int)) := (same_new nl0) _ _ upd_same
    have el0 : (upd (upd H e0 (.lst [])) l0 (.lst [V.ref e0])) l0 = some (.lst [V.ref e0]) := upd_same
    have n0H := s0.free nl0
    generalize upd (upd H e0 (.lst [])) l0 (.lst [V.ref e0]) = H0 at s1 ee0 el0 ⊢
    refine ⟨_, rfl, wk, rfl, ⟨_, sl_map (s1 _ _ ew)⟩, for_list (xs := ws.map V.str) (fun i σ H' => ∃ (fo : Addr) (rs : List (Addr × List Int)) (y3 y4 y5 y6 : Option V), σ = [some (.ref wk), some (.ref b), some (.ref fo), y3, y4, y5, y6] ∧ Same H H' ∧ H fo = none ∧ RLs H' fo rs ∧ cont rs = rowsU S (ws.take i))
      ⟨l0, [(e0, [])], none, none, none, none, rfl, s1, n0H, ⟨el0, fun e he => by rw [List.mem_singleton.mp he]; exact ee0⟩, rfl⟩ (fun i σ H' _ h => by obtain ⟨_, _, _, _, _, _, _, h, _⟩ := h; exact sl_map (h _ _ ew)) ?_ ?_⟩
    · rintro i x0 σ H1 hx0 ⟨fo, rs, y3, y4, y5, y6, rfl, s1, nfo, rl, eu⟩
      rw [List.getElem?_map] at hx0
      obtain ⟨x, hx, rfl⟩ := Option.map_eq_some_iff.mp hx0
      have xm := List.mem_of_getElem? hx
      have hi := (List.getElem?_eq_some_iff.mp hx).1
      obtain ⟨ent, _, ge⟩ := fit.at_ (b := b) xm
      have rlen : ∀ e ∈ rs, e.2.length ≤ 30 := fun e he => by
        have m : e.2 ∈ rowsU S (ws.take i) := by rw [← eu]; exact List.mem_map.mpr ⟨e, he, rfl⟩
        obtain ⟨g, _, r⟩ := ((rowsU_mem wn i (by omega)) e.2).mp m
        rw [r, List.length_map, List.length_take]; omega
      refine ⟨by show 0 ≤ sizeLine; decide, fun G nG => ?_⟩
      have sG := same_new (o := HO.lst []) nG
      refine ⟨_, rfl, fo, _, rfl, .inl (sl_map (sG _ _ rl.lst)), fun C nC => ?_⟩
      have CG : C ≠ G := fun z => by rw [z, upd_same] at nC; cases nC
      have sC := sG.trans (same_new (o := HO.lst (rs.map fun e => V.ref e.1)) nC)
      have eC0 : (upd (upd H1 G (.lst [])) C (.lst (rs.map fun e => V.ref e.1))) C = some (.lst (rs.map fun e => V.ref e.1)) := upd_same
      have eG0 : (upd (upd H1 G (.lst [])) C (.lst (rs.map fun e => V.ref e.1))) G = some (.lst []) := (same_new nC) _ _ upd_same
      generalize upd (upd H1 G (.lst [])) C (.lst (rs.map fun e => V.ref e.1)) = H2 at sC eC0 eG0 ⊢
      have grf : ∀ {a : Nat}, a ≤ (cont rs).length → (((cont rs).take a).flatMap (gr1 (S x))).length ≤ 65536 * 30 := fun {a} ha => by
        have h1 := grow_len (Nat.le_trans (sk x xm) k30) ((cont rs).take a)
        have h2 := few i (by omega)
        rw [← eu] at h2
        rw [List.length_take] at h1
        unfold grow at h1
        have : 30 * min a (cont rs).length ≤ 30 * 65536 := Nat.mul_le_mul_left _ (by omega)
        omega
      refine ⟨C, rfl, ⟨_, sl_map eC0⟩, for_list (xs := rs.map fun e => V.ref e.1) (fun a σ H' => ∃ (gs : List (Addr × List Int)) (y5 y6 : Option V), σ = [some (.ref wk), some (.ref b), some (.ref fo), some (.str x), some (.ref G), y5, y6] ∧ Same H1 H' ∧ H' C = some (.lst (rs.map fun e => V.ref e.1)) ∧ RLs H' G gs ∧ (∀ e ∈ gs, e.1 ≠ G) ∧ cont gs = ((cont rs).take a).flatMap (gr1 (S x)))
        ⟨[], _, _, rfl, sC, eC0, ⟨eG0, (fun _ h => nomatch h)⟩, (fun _ h => nomatch h), rfl⟩ (fun i σ H' _ h => by obtain ⟨_, _, _, _, _, h, _⟩ := h; exact sl_map h) ?_ ?_⟩
      · clear eC0 eG0 sC sG nC y3 y4 y5 y6
        rintro a r0 σ H3 hr0 ⟨gs, y5, y6, rfl, s3, eC, gl, gne, eg⟩
        rw [List.getElem?_map] at hr0
        obtain ⟨r, hr1, rfl⟩ := Option.map_eq_some_iff.mp hr0
        have rm := List.mem_of_getElem? hr1
        have ha := (List.getElem?_eq_some_iff.mp hr1).1
        have lr := rlen r rm
        have hr2 : (cont rs)[a]? = some r.2 := by rw [List.getElem?_map, hr1] <;> rfl
        refine ⟨_, rfl, _, rfl, b, .ref ent.2.1, rfl, (ge (bx.same' (s1.trans s3))).1, ent.2.1, rfl, ⟨_, sl_map (ge (bx.same' (s1.trans s3))).2⟩, for_list (xs := (S x).map V.int) (fun j σ H' => ∃ (gs : List (Addr × List Int)) (y6 : Option V), σ = [some (.ref wk), some (.ref b), some (.ref fo), some (.str x), some (.ref G), some (.ref r.1), y6] ∧ Same H1 H' ∧ H' C = some (.lst (rs.map fun e => V.ref e.1)) ∧ RLs H' G gs ∧ (∀ e ∈ gs, e.1 ≠ G) ∧ cont gs = ((cont rs).take a).flatMap (gr1 (S x)) ++ gr1 ((S x).take j) r.2)
          ⟨gs, _, rfl, s3, eC, gl, gne, by rw [eg]; exact (List.append_nil _).symm⟩ (fun j σ H' _ h => by obtain ⟨_, _, _, h, _⟩ := h; exact sl_map (ge (bx.same' (s1.trans h))).2) ?_ ?_⟩
        · clear gl gne eg eC s3 H3 gs y5 y6
          rintro j v0 σ H3 hv0 ⟨gs, y6, rfl, s3, eC, gl, gne, eg⟩
          rw [List.getElem?_map] at hv0
          obtain ⟨v, hv, rfl⟩ := Option.map_eq_some_iff.mp hv0
          have er := s3 _ _ (rl.row r rm)
          have step : gr1 ((S x).take (j + 1)) r.2 = gr1 ((S x).take j) r.2 ++ (if (!decide (v ∈ r.2)) = true then [r.2 ++ [v]] else []) := by
            unfold gr1
            rw [filtI_snoc hv, List.map_append]
            split <;> rfl
          refine ⟨_, rfl, _, rfl, r.1, _, rfl, .inl (sl_map er), rfl, flat_ints _, ?_⟩
          rw [if_pos rfl, in_ints]
          refine ⟨_, rfl, ite_both (fun c => ?_) fun c => ⟨gs, _, rfl, s3, eC, gl, gne, by rw [step, if_neg (by rw [c]; decide), List.append_nil]; exact eg⟩⟩
          refine ⟨_, rfl, .inl ⟨rfl, _, sl_map gl.lst⟩, _, rfl, _, rfl, by show 1 ≤ sizeLine; decide, fun Y nY => ?_⟩
          have sY := same_new (o := HO.lst [V.int v]) nY
          refine ⟨r.1, Y, _, _, rfl, rfl, sY _ _ er, upd_same, by rw [List.length_map]; exact Nat.le_of_lt (small1000 (by show _ + 1 ≤ 1000; omega)), fun Z nZ => ?_⟩
          rw [show r.2.map V.int ++ [V.int v] = (r.2 ++ [v]).map V.int by rw [List.map_append] <;> rfl]
          have sZ := sY.trans (same_new (o := HO.lst ((r.2 ++ [v]).map V.int)) nZ)
          have eZ : (upd (upd H3 Y (.lst [V.int v])) Z (.lst ((r.2 ++ [v]).map V.int))) Z = some (.lst ((r.2 ++ [v]).map V.int)) := upd_same
          generalize upd (upd H3 Y (.lst [V.int v])) Z (.lst ((r.2 ++ [v]).map V.int)) = H4 at sZ eZ ⊢
          have gl4 := gl.same sZ
          have ZG : Z ≠ G := fun z => by have := (same_new (o := HO.lst [V.int v]) nY) _ _ gl.lst; rw [← z, nZ] at this; cases this
          have s4 := s3.trans sZ
          have lg : (gs.map fun e => V.ref e.1).length < sizeLine := by
            have h1 := gr1_len ((S x).take j) r.2
            have h2 := grf (a := a) (by rw [List.length_map]; omega)
            have h3 := sk x xm
            rw [List.length_take] at h1
            rw [cl, eg, List.length_append]
            exact Nat.lt_of_le_of_lt (m := 2000000) (by omega) (by decide)
          refine ⟨G, _, _, rfl, rfl, gl4.lst, lg, gs ++ ([(Z, r.2 ++ [v])] : List (Addr × List Int)), _, rfl, same_at s4 nG, by rw [upd_ne CG]; exact sZ _ _ eC, ⟨by rw [upd_same, List.map_append] <;> rfl, fun e he => ?_⟩, fun e he => ?_, ?_⟩
          · rcases List.mem_append.mp he with h | h
            · rw [upd_ne (gne e h)]; exact gl4.row e h
            · rw [List.mem_singleton.mp h, upd_ne ZG]; exact eZ
          · rcases List.mem_append.mp he with h | h
            · exact gne e h
            · rw [List.mem_singleton.mp h]; exact ZG
          · rw [step, if_pos c, ← List.append_assoc, ← eg]
            show List.map _ (_ ++ _) = _
            rw [List.map_append] <;> rfl
        · clear gl gne eg eC s3 H3 gs y5 y6
          rintro σ H3 ⟨gs, y6, rfl, s3, eC, gl, gne, eg⟩
          rw [List.length_map, List.take_length] at eg
          exact ⟨gs, _, _, rfl, s3, eC, gl, gne, by rw [take_flat hr2]; exact eg⟩
      · clear eC0 eG0 sC sG nC y3 y4 y5 y6
        rintro σ H3 ⟨gs, y5, y6, rfl, s3, eC, gl, gne, eg⟩
        rw [cl, List.take_length] at eg
        refine ⟨_, rfl, G, gs, _, _, _, _, rfl, s1.trans s3, s1.free nG, gl, ?_⟩
        rw [take_snoc hx, rowsU_snoc, ← eu]
        exact eg
    · rintro σ H1 ⟨fo, rs, y3, y4, y5, y6, rfl, s1, nfo, rl, eu⟩
      rw [List.length_map, List.take_length] at eu
      exact ⟨_, rfl, q _ fo rs s1 nfo rl eu⟩
end
end K57
set_option Elab.async false
set_option linter.all false
set_option maxRecDepth 100000
set_option maxHeartbeats 4000000
namespace K57
open PySem PySem.Spec PyProof.Rows L2 Cs CsX
structure Wrl (H : Hp) (r pl sc wk b1 b2 : Addr) (ps : List Int) (ns ws : List Str) (L1 L2 : List Ent) (S1 S2 : Str → List Int) (k : Nat) : Prop where
  er : H r = some (.lst [.ref pl, .ref sc, .ref wk, .ref b1, .ref b2])
  ep : H pl = some (.lst (ps.map V.int))
  sp : Srt ps
  p1 : 1 ≤ ps.length
  p20 : ps.length ≤ 20
  es : H sc = some (.lst (ns.map V.str))
  nn : ns.Nodup
  n1 : 1 ≤ ns.length
  n16 : ns.length ≤ 16
  ew : H wk = some (.lst (ws.map V.str))
  pm : ws.Perm ns
  bu1 : Bu H b1 L1
  bu2 : Bu H b2 L2
  f1 : Fit L1 ns S1
  f2 : Fit L2 ns S2
  s1 : ∀ g ∈ L1, Srt g.2.2 ∧ g.2.2.length ≤ 30
  s2 : ∀ g ∈ L2, Srt g.2.2 ∧ g.2.2.length ≤ 30
  k1 : ∀ x ∈ ns, (S1 x).length ≤ k
  k2 : ∀ x ∈ ns, (S2 x).length ≤ k
  kb : k ^ ns.length ≤ 65536
  k0 : 1 ≤ k
  k30 : k ≤ 30
  bb : b1 ≠ b2
  l1 : L1.length ≤ 30
theorem Wrl.same {H H' : Hp} {r pl sc wk b1 b2 : Addr} {ps : List Int} {ns ws : List Str} {L1 L2 : List Ent} {S1 S2 : Str → List Int} {k : Nat} (W : Wrl H r pl sc wk b1 b2 ps ns ws L1 L2 S1 S2 k) (s : Same H H') : Wrl H' r pl sc wk b1 b2 ps ns ws L1 L2 S1 S2 k :=
  ⟨s _ _ W.er, s _ _ W.ep, W.sp, W.p1, W.p20, s _ _ W.es, W.nn, W.n1, W.n16, s _ _ W.ew, W.pm, W.bu1.same' s, W.bu2.same' s, W.f1, W.f2, W.s1, W.s2, W.k1, W.k2, W.kb, W.k0, W.k30, W.bb, W.l1⟩
section
variable {P : Program} {w : World} {K : PySem.W.Frag} {mg : Str → Option Value} {base : Heap}
abbrev sWor : Stmt := topS 36
abbrev nWor : List Str := ["_law_script", "_law_stream_here", "_law_names_here", "_law_pool_here", "_law_first", "_law_second", "_law_scope_here"]
theorem scWor : FnScope nWor ["_law_script"] (defScope sWor) := ⟨rfl, rfl, rfl, by decide +kernel, rfl, by decide +kernel, by decide +kernel⟩
def spWor (K : PySem.W.Frag) : Sp := fun vs H Q _ => ∃ (a : Addr) (cs : List Int), vs = [.ref a] ∧ SqL K H a (cs.map V.int) ∧
  ∀ (H' : Hp) (r pl sc wk b1 b2 : Addr) (ps : List Int) (ns ws : List Str) (L1 L2 : List Ent) (S1 S2 : Str → List Int) (k : Nat), Same H H' → H b1 = none → Wrl H' r pl sc wk b1 b2 ps ns ws L1 L2 S1 S2 k → Q (.ref r) H'
theorem ok_Wor {f f0 f1 f2 f3 f4 f5 f6 f7 f8 f9 : Addr} {fd fd0 fd1 fd2 fd3 fd4 fd5 fd6 fd7 fd8 fd9 : FuncData} (F : Fun K "_law_world" "_law_world" sWor f fd) (B : Bt mg) (Cst : Call P w K mg base 1 "_law_stream" f0 fd0 ["_law_script", "_law_k"] (spStream K)) (Cna : Call P w K mg base 2 "_law_names" f1 fd1 ["_law_stream_here", "_law_count"] spNames) (Cpo : Call P w K mg base 2 "_law_pool" f2 fd2 ["_law_stream_here", "_law_count"] spPool) (CSco : Call P w K mg base 2 "_law_scope" f3 fd3 ["_law_stream_here", "_law_names_here", "_law_most"] spSco) (Cdo : Call P w K mg base 2 "_law_domains" f4 fd4 ["_law_stream_here", "_law_names_here", "_law_pool_here", "_law_most"] spDoms) (D : Call P w K mg base 1 "_law_next" f5 fd5 ["_law_stream_here", "_law_size"] spDraw) (CMn : Call P w K mg base 2 "_law_many_names" f6 fd6 ["_law_stream_here", "_law_count"] spMn) (CLnk : Call P w K mg base 3 "_law_links" f7 fd7 ["_law_stream_here", "_law_names_here", "_law_pool_here", "_law_ways"] spLnk) (CSd : Call P w K mg base 1 "_law_sides" f8 fd8 ["_law_domains_here"] spSd) (CSf : Call P w K mg base 2 "_law_shuffled" f9 fd9 ["_law_stream_here", "_law_things"] spSf) :
    FnOk P w K mg base CX0 4 f fd ["_law_script"] (spWor K) := by
  refine F.ok scWor (fun vs H Q E h => ?_) (fun cdv A outer s H vs Q E hr h => ?_)
  · obtain ⟨a, cs, rfl, _⟩ := h
    rfl
  · obtain ⟨a, cs, rfl, ha, q⟩ := h
    have hu := hu_of hr
    have nd := scWor.nd
    refine ⟨_, pss_cons (ps_set (i := 1) nd rfl (.inl rfl) (pe_call Cst.ok (hr.mono (by decide)) (by rfl) Cst.at_ Cst.kp Cst.bd .nil pass0 (pa_cons (pv 0) (pa_cons pe_int pa_nil))))
      (pss_cons (ps_if (pt_cmpR op_eq (pe_call D.ok (hr.mono (by decide)) (by rfl) D.at_ D.kp D.bd .nil pass0 (pa_cons (pv 1) (pa_cons pe_int pa_nil))) pe_int rfl)
        (pss_cons (ps_set (i := 2) nd rfl (.inl rfl) (pe_call CMn.ok (hr.mono (by decide)) (by rfl) CMn.at_ CMn.kp CMn.bd .nil pass0 (pa_cons (pv 1) (pa_cons (pe_ix ix_list (pe_lst (pa_cons pe_int (pa_cons pe_int (pa_cons pe_int (pa_cons pe_int pa_nil))))) (pe_call D.ok (hr.mono (by decide)) (by rfl) D.at_ D.kp D.bd .nil pass0 (pa_cons (pv 1) (pa_cons pe_int pa_nil))) (fun _ _ => rfl)) pa_nil))))
          (pss_cons (ps_set (i := 3) nd rfl (.inl rfl) (pe_call Cpo.ok (hr.mono (by decide)) (by rfl) Cpo.at_ Cpo.kp Cpo.bd .nil pass0 (pa_cons (pv 1) (pa_cons (pe_op op_add (pe_callB call_len_seq (by rfl) B.len PySem.boot_len (pa_cons (pv 2) pa_nil)) pe_int) pa_nil))))
          (pss_cons (ps_set (i := 4) nd rfl (.inl rfl) (pe_call CLnk.ok (hr.mono (by decide)) (by rfl) CLnk.at_ CLnk.kp CLnk.bd .nil pass0 (pa_cons (pe_call Cst.ok (hr.mono (by decide)) (by rfl) Cst.at_ Cst.kp Cst.bd .nil pass0 (pa_cons (pv 0) (pa_cons pe_int pa_nil))) (pa_cons (pv 2) (pa_cons (pv 3) (pa_cons pe_int pa_nil))))))
          (pss_cons (ps_set (i := 5) nd rfl (.inl rfl) (pe_call CLnk.ok (hr.mono (by decide)) (by rfl) CLnk.at_ CLnk.kp CLnk.bd .nil pass0 (pa_cons (pe_call Cst.ok (hr.mono (by decide)) (by rfl) Cst.at_ Cst.kp Cst.bd .nil pass0 (pa_cons (pv 0) (pa_cons pe_int pa_nil))) (pa_cons (pv 2) (pa_cons (pv 3) (pa_cons pe_int pa_nil))))))
          (pss_one (ps_ret (pe_lst (pa_cons (pv 3) (pa_cons (pe_call CSf.ok (hr.mono (by decide)) (by rfl) CSf.at_ CSf.kp CSf.bd .nil pass0 (pa_cons (pv 1) (pa_cons (pv 2) pa_nil))) (pa_cons (pv 2) (pa_cons (pe_call CSd.ok (hr.mono (by decide)) (by rfl) CSd.at_ CSd.kp CSd.bd .nil pass0 (pa_cons (pv 4) pa_nil)) (pa_cons (pe_call CSd.ok (hr.mono (by decide)) (by rfl) CSd.at_ CSd.kp CSd.bd .nil pass0 (pa_cons (pv 5) pa_nil)) pa_nil))))))))))))
        pss_nil)
      (pss_cons (ps_set (i := 2) nd rfl (.inl rfl) (pe_call Cna.ok (hr.mono (by decide)) (by rfl) Cna.at_ Cna.kp Cna.bd .nil pass0 (pa_cons (pv 1) (pa_cons (pe_op op_add pe_int (pe_call D.ok (hr.mono (by decide)) (by rfl) D.at_ D.kp D.bd .nil pass0 (pa_cons (pv 1) (pa_cons pe_int pa_nil)))) pa_nil))))
      (pss_cons (ps_set (i := 3) nd rfl (.inl rfl) (pe_call Cpo.ok (hr.mono (by decide)) (by rfl) Cpo.at_ Cpo.kp Cpo.bd .nil pass0 (pa_cons (pv 1) (pa_cons (pe_op op_add pe_int (pe_call D.ok (hr.mono (by decide)) (by rfl) D.at_ D.kp D.bd .nil pass0 (pa_cons (pv 1) (pa_cons pe_int pa_nil)))) pa_nil))))
      (pss_cons (ps_set (i := 6) nd rfl (.inl rfl) (pe_call CSco.ok (hr.mono (by decide)) (by rfl) CSco.at_ CSco.kp CSco.bd .nil pass0 (pa_cons (pv 1) (pa_cons (pv 2) (pa_cons pe_int pa_nil)))))
      (pss_cons (ps_set (i := 4) nd rfl (.inl rfl) (pe_call Cdo.ok (hr.mono (by decide)) (by rfl) Cdo.at_ Cdo.kp Cdo.bd .nil pass0 (pa_cons (pe_call Cst.ok (hr.mono (by decide)) (by rfl) Cst.at_ Cst.kp Cst.bd .nil pass0 (pa_cons (pv 0) (pa_cons pe_int pa_nil))) (pa_cons (pv 2) (pa_cons (pv 3) (pa_cons pe_int pa_nil))))))
      (pss_cons (ps_set (i := 5) nd rfl (.inl rfl) (pe_call Cdo.ok (hr.mono (by decide)) (by rfl) Cdo.at_ Cdo.kp Cdo.bd .nil pass0 (pa_cons (pe_call Cst.ok (hr.mono (by decide)) (by rfl) Cst.at_ Cst.kp Cst.bd .nil pass0 (pa_cons (pv 0) (pa_cons pe_int pa_nil))) (pa_cons (pv 2) (pa_cons (pv 3) (pa_cons pe_int pa_nil))))))
      (pss_one (ps_ret (pe_lst (pa_cons (pv 3) (pa_cons (pv 6) (pa_cons (pv 6) (pa_cons (pe_call CSd.ok (hr.mono (by decide)) (by rfl) CSd.at_ CSd.kp CSd.bd .nil pass0 (pa_cons (pv 4) pa_nil)) (pa_cons (pe_call CSd.ok (hr.mono (by decide)) (by rfl) CSd.at_ CSd.kp CSd.bd .nil pass0 (pa_cons (pv 5) pa_nil)) pa_nil)))))))))))))), ?_⟩
    refine ⟨_, rfl, a, cs, 0, rfl, ha, fun H1 s s1 ns0 st1 => ?_⟩
    refine ⟨_, rfl, s, 6, rfl, st1, by decide, by decide, fun H2 w o2 st2 w0 w6 => ?_⟩
    have S2 : Same H H2 := keep_same s1 ((Keep.refl _ _).oth o2) ns0
    refine ⟨rfl, _, rfl, ite_both (fun c0 => ?_) fun c0 => ?_⟩
    · -- the links
      refine ⟨_, rfl, by show 4 ≤ sizeLine; decide, fun t nt => ?_⟩
      have ts : t ≠ s := fun z => st2.some (z ▸ nt)
      have S3 := S2.trans (same_new (o := HO.lst [V.int 7, .int 8, .int 9, .int 16]) nt)
      refine ⟨_, rfl, s, 4, rfl, st2.upd ts.symm, by decide, by decide, fun H3 d o3 st3 d0 d1 => ?_⟩
      have S3' : Same H H3 := keep_same S3 ((Keep.refl _ _).oth o3) ns0
      have et := (o3 t ts).trans (upd_same (H := H2) (a := t) (o := HO.lst [V.int 7, .int 8, .int 9, .int 16]))
      obtain ⟨m, hm, m7, m16, mo⟩ : ∃ m : Nat, atI [V.int 7, .int 8, .int 9, .int 16] d = some (.int (m : Int)) ∧ 7 ≤ m ∧ m ≤ 16 ∧ (m ≤ 9 ∨ m = 16) := by
        have : d = 0 ∨ d = 1 ∨ d = 2 ∨ d = 3 := by omega
        rcases this with rfl | rfl | rfl | rfl
        · exact ⟨7, atI_nat (j := 0) rfl, by decide, by decide, by decide⟩
        · exact ⟨8, atI_nat (j := 1) rfl, by decide, by decide, by decide⟩
        · exact ⟨9, atI_nat (j := 2) rfl, by decide, by decide, by decide⟩
        · exact ⟨16, atI_nat (j := 3) rfl, by decide, by decide, by decide⟩
      refine ⟨t, _, _, .int (m : Int), rfl, rfl, sl_map et, hm, s, m, rfl, st3, m16, fun H4 nm xs k4 nnm st4 en4 lxs nn na => ?_⟩
      have S4 : Same H H4 := keep_same S3' k4 ns0
      have nms : nm ≠ s := fun z => st3.some (z ▸ nnm)
      refine ⟨_, rfl, _, rfl, nm, _, rfl, .inl (sl_map en4), _, _, rfl, rfl, s, (xs.map V.str).length + 1, rfl, st4, by omega, by rw [List.length_map]; omega, fun H5 pl ps k5 npl st5 ep5 so lps => ?_⟩
      rw [List.length_map] at lps
      have S5 : Same H H5 := keep_same S4 k5 ns0
      have en5 := k5 _ _ nms en4
      clear et S3' S3 nt ts k4 k5 st3 st4 S4 o3 d0 d1 hm d en4
      refine ⟨_, rfl, a, cs, 1, rfl, S5.seq ha, fun H6 p1 s6 np1 st6 => ⟨_, rfl, _, rfl, p1, nm, pl, xs, ps, 6, rfl, st6, s6 _ _ en5, ne_some' en5 np1, s6 _ _ ep5, ne_some' ep5 np1, so, by omega, by omega, by omega, by decide, by decide, fun H7 l1 ds1 k7 g7 pm1 => ?_⟩⟩
      have s7 : Same H5 H7 := keep_same s6 k7 np1
      have dm7 := g7.dm
      have ok1 := g7.ok
      have S7 := S5.trans s7
      have en7 := s7 _ _ en5
      have ep7 := s7 _ _ ep5
      have st7 : Strm H7 s := by obtain ⟨x, y, w, e⟩ := st5; exact ⟨x, y, w, s7 _ _ e⟩
      clear g7 k7 st6 s6 np1 S5 s7 st5 en5 ep5
      refine ⟨_, rfl, a, cs, 2, rfl, S7.seq ha, fun H8 p2 s8 np2 st8 => ⟨_, rfl, _, rfl, p2, nm, pl, xs, ps, 6, rfl, st8, s8 _ _ en7, ne_some' en7 np2, s8 _ _ ep7, ne_some' ep7 np2, so, by omega, by omega, by omega, by decide, by decide, fun H9 l2 ds2 k9 g9 pm2 => ?_⟩⟩
      have s9 : Same H7 H9 := keep_same s8 k9 np2
      have dm9 := dm7.same s9
      have dn9 := g9.dm
      have ok2 := g9.ok
      have S9 := S7.trans s9
      have en9 := s9 _ _ en7
      have ep9 := s9 _ _ ep7
      have st9 : Strm H9 s := by obtain ⟨x, y, w, e⟩ := st7; exact ⟨x, y, w, s9 _ _ e⟩
      clear g9 k9 st8 s8 np2 S7 s9 st7 en7 ep7 dm7
      have pls : pl ≠ s := fun z => by
        obtain ⟨x, y, w, e⟩ := st9
        rw [z, e] at ep9
        have := congrArg List.length (HO.lst.inj (Option.some.inj ep9))
        rw [List.length_map, lps] at this
        have e3 : ([V.int x, V.int y, V.int w] : List V).length = 3 := rfl
        omega
      refine ⟨_, rfl, _, rfl, _, rfl, Str, V.str, s, nm, xs, rfl, st9, en9, by omega, nms.symm, fun H10 sc zs k10 nsc st10 esc pmz => ?_⟩
      have S10 : Same H H10 := keep_same S9 k10 ns0
      have dl : ∀ {l : Addr} {ds : List DomE}, Doms H9 l ds → ds.length ≠ 3 ∨ (∃ d, d ∈ ds) → l ≠ s := fun dm h => strm_ne st9 dm.lst (h.imp (fun h => by rw [List.length_map]; exact h) fun ⟨d, hd⟩ => ⟨d.1, List.mem_map.mpr ⟨d, hd, rfl⟩⟩)
      have kd : ∀ {l : Addr} {ds : List DomE}, Doms H9 l ds → (∀ d ∈ ds, Srt d.2.2.2 ∧ d.2.2.2.length ≤ 2 ∧ ∀ v ∈ d.2.2.2, v ∈ ps) → Doms H10 l ds := fun {l ds} dm ok => by
        refine ⟨k10 _ _ (dl dm ?_) dm.lst, fun d hd => keep_tup' st9 k10 (dm.tup d hd), fun d hd => k10 _ _ (strm_ne st9 (dm.side d hd) (.inl ?_)) (dm.side d hd)⟩
        · cases ds with
          | nil => exact .inl (by decide)
          | cons d ds => exact .inr ⟨d, List.mem_cons_self⟩
        · rw [List.length_map]; have := (ok d hd).2.1; omega
      have dm10 := kd dm9 ok1
      have dn10 := kd dn9 ok2
      have subs : ∀ {ds : List DomE}, ((ds.map (·.2.1)).Perm xs ∨ (ds.map (·.2.1)).Perm (xs ++ [("aside" : Str)])) → (∀ x ∈ xs, x ∈ ds.map (·.2.1)) ∧ (ds.map (·.2.1)).Nodup ∧ ds.length ≤ 30 := fun {ds} h => by
        rcases h with h | h
        · exact ⟨fun x hx => h.mem_iff.mpr hx, h.nodup_iff.mpr nn, by have := h.length_eq; rw [List.length_map] at this; omega⟩
        · refine ⟨fun x hx => h.mem_iff.mpr (List.mem_append_left _ hx), h.nodup_iff.mpr (nd_snoc nn fun m => na _ m rfl), ?_⟩
          have := h.length_eq
          rw [List.length_map, List.length_append] at this
          have e : ([("aside" : Str)]).length = 1 := rfl
          omega
      obtain ⟨sb1, nd1, f1⟩ := subs pm1
      obtain ⟨sb2, nd2, f2⟩ := subs pm2
      refine ⟨_, rfl, _, rfl, l1, ds1, rfl, dm10, f1, nd1, fun H11 b1 N1 s11 nb1 sh1 => ?_⟩
      refine ⟨_, rfl, l2, ds2, rfl, dn10.same s11, f2, nd2, fun H12 b2 N2 s12 nb2 sh2 => ⟨by show 5 ≤ sizeLine; decide, fun r nr => ?_⟩⟩
      have s13 := s11.trans (s12.trans (same_new (o := HO.lst [V.ref pl, .ref sc, .ref nm, .ref b1, .ref b2]) nr))
      obtain ⟨a1, a2, a3⟩ := box_of (k := 2) (ns := zs) nb1.nd sh1 (fun x hx => sb1 x (pmz.mem_iff.mp hx)) (fun d hd => ⟨(ok1 d hd).1, (ok1 d hd).2.1⟩) (by decide)
      obtain ⟨c1, c2, c3⟩ := box_of (k := 2) (ns := zs) nb2.nd sh2 (fun x hx => sb2 x (pmz.mem_iff.mp hx)) (fun d hd => ⟨(ok2 d hd).1, (ok2 d hd).2.1⟩) (by decide)
      have lz := pmz.length_eq
      have sr := s12.trans (same_new (o := HO.lst [V.ref pl, .ref sc, .ref nm, .ref b1, .ref b2]) nr)
      exact q _ r pl sc nm b1 b2 ps zs xs N1 N2 (sdN N1) (sdN N2) 2 (S10.trans s13) (S10.free nb1.fresh) ⟨upd_same, s13 _ _ (k10 _ _ pls ep9), so, by omega, by omega, s13 _ _ esc, pmz.nodup_iff.mpr nn, by omega, by omega, s13 _ _ (k10 _ _ nms en9), pmz.symm, nb1.toBu.same' sr, nb2.toBu.same' (same_new nr), a1, c1, a2, c2, a3, c3, by rw [lz, lxs]; exact Nat.pow_le_pow_right (by decide) m16, by decide, by decide, (fun z => by have := nb1.un; rw [z, nb2.fresh] at this; cases this), (by have := congrArg List.length sh1; unfold shape at this; rw [List.length_map, List.length_map] at this; omega)⟩
    · refine ⟨_, rfl, _, rfl, s, 7, rfl, st2, by decide, by decide, fun H3 y o3 st3 y0 y1 => ⟨1, y, rfl, rfl, ?_⟩⟩
      have S3 : Same H H3 := keep_same S2 ((Keep.refl _ _).oth o3) ns0
      obtain ⟨j, rfl⟩ : ∃ j : Nat, y = (j : Int) := ⟨y.toNat, by omega⟩
      refine ⟨s, 1 + j, by show [V.ref s, V.int (1 + (j : Int))] = [V.ref s, V.int ((1 + j : Nat) : Int)]; rw [show ((1 + j : Nat) : Int) = 1 + (j : Int) by omega], st3, by omega, fun H4 nm xs k4 nnm st4 en4 nn lxs nms => ?_⟩
      have S4 : Same H H4 := keep_same S3 k4 ns0
      have nmS : nm ≠ s := fun z => st3.some (z ▸ nnm)
      refine ⟨_, rfl, _, rfl, s, 4, rfl, st4, by decide, by decide, fun H5 y o5 st5 y0' y1' => ⟨2, y, rfl, rfl, ?_⟩⟩
      have k5 : Keep s H4 H5 := (Keep.refl _ _).oth o5
      have S5 : Same H H5 := keep_same S4 k5 ns0
      obtain ⟨u, rfl⟩ : ∃ u : Nat, y = (u : Int) := ⟨y.toNat, by omega⟩
      refine ⟨s, 2 + u, by show [V.ref s, V.int (2 + (u : Int))] = [V.ref s, V.int ((2 + u : Nat) : Int)]; rw [show ((2 + u : Nat) : Int) = 2 + (u : Int) by omega], st5, by omega, by omega, fun H7 pl ps k7 npl st7 ep7 so lps => ?_⟩
      have S7 : Same H H7 := keep_same S5 k7 ns0
      have en7 : H7 nm = some (.lst (xs.map V.str)) := k7 _ _ nmS (k5 _ _ nmS en4)
      have plS : pl ≠ s := fun z => st5.some (z ▸ npl)
      clear k7 st5 k5 o5 S5 st4 k4 S4 st3 o3 S3 en4
      refine ⟨_, rfl, _, rfl, s, nm, xs, 6, rfl, st7, en7, nmS, by omega, by omega, by decide, by decide, nn, fun H9 sc zs k9 nsc st9 esc nnz sub lz1 lz2 => ?_⟩
      have S9 : Same H H9 := keep_same S7 k9 ns0
      have en9 : H9 nm = some (.lst (xs.map V.str)) := k9 _ _ nmS en7
      have ep9 : H9 pl = some (.lst (ps.map V.int)) := k9 _ _ plS ep7
      clear st9 k9 st7 en7 ep7 S7
      -- the first domains
      refine ⟨_, rfl, a, cs, 1, rfl, S9.seq ha, fun H10 p1 s10 np1 st10 => ⟨_, rfl, _, rfl, p1, nm, pl, xs, ps, 4, rfl, st10, s10 _ _ en9, s10 _ _ ep9, (ne_some' en9 np1).symm, (ne_some' ep9 np1).symm, so, by omega, by omega, by omega, fun H12 l1 ds1 k12 nl1 st12 dm12 keys1 ok1 _ => ?_⟩⟩
      have s12 : Same H9 H12 := keep_same s10 k12 np1
      have S12 := S9.trans s12
      clear st12 k12 st10 s10
      have en12 := s12 _ _ en9
      have ep12 := s12 _ _ ep9
      refine ⟨_, rfl, a, cs, 2, rfl, S12.seq ha, fun H13 p2 s13 np2 st13 => ⟨_, rfl, _, rfl, p2, nm, pl, xs, ps, 4, rfl, st13, s13 _ _ en12, s13 _ _ ep12, (ne_some' en12 np2).symm, (ne_some' ep12 np2).symm, so, by omega, by omega, by omega, fun H15 l2 ds2 k15 nl2 st15 dm15 keys2 ok2 _ => ?_⟩⟩
      have s15 : Same H12 H15 := keep_same s13 k15 np2
      have S15 := S12.trans s15
      have dn15 := dm12.same s15
      have ln1 : ds1.length ≤ 30 := by have := congrArg List.length keys1; rw [List.length_map] at this; omega
      have ln2 : ds2.length ≤ 30 := by have := congrArg List.length keys2; rw [List.length_map] at this; omega
      refine ⟨_, rfl, _, rfl, _, rfl, _, rfl, l1, ds1, rfl, dn15, ln1, by rw [keys1]; exact nn, fun H16 b1 N1 s16 nb1 sh1 => ?_⟩
      refine ⟨_, rfl, l2, ds2, rfl, dm15.same s16, ln2, by rw [keys2]; exact nn, fun H17 b2 N2 s17 nb2 sh2 => ⟨by show 5 ≤ sizeLine; decide, fun r nr => ?_⟩⟩
      have sr := same_new (o := HO.lst [V.ref pl, .ref sc, .ref sc, .ref b1, .ref b2]) nr
      have s18 := s15.trans (s16.trans (s17.trans sr))
      obtain ⟨a1, a2, a3⟩ := box_of (k := 4) (ns := zs) nb1.nd sh1 (fun x hx => by rw [keys1]; exact sub x hx) (fun d hd => ⟨(ok1 d hd).1, (ok1 d hd).2.1⟩) (by decide)
      obtain ⟨c1, c2, c3⟩ := box_of (k := 4) (ns := zs) nb2.nd sh2 (fun x hx => by rw [keys2]; exact sub x hx) (fun d hd => ⟨(ok2 d hd).1, (ok2 d hd).2.1⟩) (by decide)
      have esc18 := s18 _ _ (s12 _ _ esc)
      exact q _ r pl sc sc b1 b2 ps zs zs N1 N2 (sdN N1) (sdN N2) 4 (S12.trans s18) (S15.free nb1.fresh) ⟨upd_same, s18 _ _ ep12, so, by omega, by omega, esc18, nnz, lz1, by omega, esc18, List.Perm.refl _, nb1.toBu.same' (s17.trans sr), nb2.toBu.same' sr, a1, c1, a2, c2, a3, c3, Nat.le_trans (Nat.pow_le_pow_right (by decide) lz2) (by decide), by decide, by decide, (fun z => by have := nb1.un; rw [z, nb2.fresh] at this; cases this), (by have := congrArg List.length sh1; unfold shape at this; rw [List.length_map, List.length_map] at this; omega)⟩
end
end K57
set_option Elab.async false
set_option linter.all false
set_option maxRecDepth 100000
set_option maxHeartbeats 4000000
/-! Twins: two values that are equal all the way down, through lists, dicts and tuples; == and != of them. -/
namespace Cs
open PySem PySem.Spec PyProof.Rows L2
/-- twins, of nesting below n; all that they are made of stands at addresses F -/
def Twn (F : Addr → Prop) (H : Hp) : Nat → V → V → Prop
  | 0 => fun _ _ => False
  | n + 1 => fun x y => (x = y ∧ flatB x = true) ∨ (∃ a, x = .ref a ∧ y = .ref a) ∨
      (∃ a b xs ys, x = .ref a ∧ y = .ref b ∧ F a ∧ F b ∧ H a = some (.lst xs) ∧ H b = some (.lst ys) ∧ Paired (Twn F H n) xs ys) ∨
      (∃ a b ks ls, x = .ref a ∧ y = .ref b ∧ F a ∧ F b ∧ H a = some (.dK ks) ∧ H b = some (.dK ls) ∧ ks.length = ls.length ∧ ∀ p ∈ ks, ∃ u, valV ls p.1 = some u ∧ Twn F H n p.2 u) ∨
      (∃ a b xs ys, x = .ref a ∧ y = .ref b ∧ F a ∧ F b ∧ H a = some (.tup xs) ∧ H b = some (.tup ys) ∧ Paired (Twn F H n) xs ys)
theorem paired_imp {α β : Type} {F G : α → β → Prop} (h : ∀ x y, F x y → G x y) {xs : List α} {ys : List β} (p : Paired F xs ys) : Paired G xs ys := by
  induction p with
  | nil => exact .nil
  | cons a _ ih => exact .cons (h _ _ a) ih
theorem Twn.imp {F G : Addr → Prop} {H H' : Hp} (f : ∀ a, F a → G a) (s : ∀ a o, F a → H a = some o → H' a = some o) : ∀ {n m : Nat} {x y : V}, n ≤ m → Twn F H n x y → Twn G H' m x y
  | 0, _, _, _, _, h => (show False from h).elim
  | n + 1, 0, _, _, l, _ => absurd l (by omega)
  | n + 1, m + 1, x, y, l, h => by
    have up : ∀ x y, Twn F H n x y → Twn G H' m x y := fun x y h => Twn.imp f s (by omega) h
    rcases h with h | h | ⟨a, b, xs, ys, e1, e2, fa, fb, ha, hb, p⟩ | ⟨a, b, ks, ls, e1, e2, fa, fb, ha, hb, hl, p⟩ | ⟨a, b, xs, ys, e1, e2, fa, fb, ha, hb, p⟩
    · exact .inl h
    · exact .inr (.inl h)
    · exact .inr (.inr (.inl ⟨a, b, xs, ys, e1, e2, f a fa, f b fb, s _ _ fa ha, s _ _ fb hb, paired_imp up p⟩))
    · exact .inr (.inr (.inr (.inl ⟨a, b, ks, ls, e1, e2, f a fa, f b fb, s _ _ fa ha, s _ _ fb hb, hl, fun q hq => let ⟨u, z, t⟩ := p q hq; ⟨u, z, up _ _ t⟩⟩)))
    · exact .inr (.inr (.inr (.inr ⟨a, b, xs, ys, e1, e2, f a fa, f b fb, s _ _ fa ha, s _ _ fb hb, paired_imp up p⟩)))
theorem Twn.same {F : Addr → Prop} {H H' : Hp} {n : Nat} {x y : V} (t : Twn F H n x y) (s : Same H H') : Twn F H' n x y := t.imp (fun _ h => h) (fun a o _ e => s a o e) (Nat.le_refl n)
theorem Twn.up {F : Addr → Prop} {H : Hp} {n m : Nat} {x y : V} (t : Twn F H n x y) (l : n ≤ m) : Twn F H m x y := t.imp (fun _ h => h) (fun _ _ _ e => e) l
theorem Twn.upd {F : Addr → Prop} {H : Hp} {n : Nat} {x y : V} {b : Addr} {u : HO} (t : Twn F H n x y) (h : ¬ F b) : Twn F (upd H b u) n x y := t.imp (fun _ h => h) (fun a o fa e => by rw [upd_ne (fun z : a = b => h (by rw [← z]; exact fa))]; exact e) (Nat.le_refl n)
theorem Twn.flat {F : Addr → Prop} {H : Hp} {n : Nat} {x : V} (f : flatB x = true) : Twn F H (n + 1) x x := .inl ⟨rfl, f⟩
theorem Twn.flats {F : Addr → Prop} {H : Hp} {n : Nat} : ∀ {xs : List V}, (∀ x ∈ xs, flatB x = true) → Paired (Twn F H (n + 1)) xs xs
  | [], _ => .nil
  | x :: xs, h => .cons (.flat (h x List.mem_cons_self)) (Twn.flats fun y hy => h y (List.mem_cons_of_mem _ hy))
theorem Twn.list {F : Addr → Prop} {H : Hp} {n : Nat} {a b : Addr} {xs ys : List V} (fa : F a) (fb : F b) (ha : H a = some (.lst xs)) (hb : H b = some (.lst ys)) (p : Paired (Twn F H n) xs ys) : Twn F H (n + 1) (.ref a) (.ref b) := .inr (.inr (.inl ⟨a, b, xs, ys, rfl, rfl, fa, fb, ha, hb, p⟩))
theorem Twn.tup {F : Addr → Prop} {H : Hp} {n : Nat} {a b : Addr} {xs ys : List V} (fa : F a) (fb : F b) (ha : H a = some (.tup xs)) (hb : H b = some (.tup ys)) (p : Paired (Twn F H n) xs ys) : Twn F H (n + 1) (.ref a) (.ref b) := .inr (.inr (.inr (.inr ⟨a, b, xs, ys, rfl, rfl, fa, fb, ha, hb, p⟩)))
theorem Twn.dict {F : Addr → Prop} {H : Hp} {n : Nat} {a b : Addr} {ks ls : List (Key × V)} (fa : F a) (fb : F b) (ha : H a = some (.dK ks)) (hb : H b = some (.dK ls)) (hl : ks.length = ls.length) (p : ∀ p ∈ ks, ∃ u, valV ls p.1 = some u ∧ Twn F H n p.2 u) : Twn F H (n + 1) (.ref a) (.ref b) := .inr (.inr (.inr (.inl ⟨a, b, ks, ls, rfl, rfl, fa, fb, ha, hb, hl, p⟩)))
end Cs
set_option Elab.async false
set_option linter.all false
set_option maxRecDepth 100000
set_option maxHeartbeats 4000000
/-! != of two tuples of the same ints and texts -/
namespace Cs
open PySem PySem.Spec PyProof.Rows L2
open AutoSeq1 (wpAny_loadPart')
open MeetsSeq MeetsSeq2 MeetsSeq3 SeqRoads2 SeqAt
def simpV : V → Prop
  | .int _ => True
  | .str _ => True
  | _ => False
theorem simp_at {A : Around} {s : Shared} : ∀ {xs : List V} {us ws : List Value}, Vals xs us → Vals xs ws → (∀ v ∈ xs, simpV v) → ∀ j (h1 : j < us.length) (h2 : j < ws.length), EqAt A s us[j] ws[j] true := by
  intro xs us ws r1 r2 hs j h1 h2
  have hx : xs[j]? = some (xs[j]'(by rw [r1.length]; exact h1)) := List.getElem?_eq_getElem _
  generalize xs[j]'(by rw [r1.length]; exact h1) = x at hx
  obtain ⟨u, hu, ru⟩ := r1.get hx
  obtain ⟨v, hv, rv⟩ := r2.get hx
  rw [List.getElem?_eq_getElem h1] at hu
  rw [List.getElem?_eq_getElem h2] at hv
  rw [Option.some.inj hu, Option.some.inj hv]
  have h0 := hs x (List.mem_of_getElem? hx)
  cases x with
  | int i =>
    obtain ⟨t, rfl⟩ := ru
    obtain ⟨u, rfl⟩ := rv
    have := EqAt.int_int (A := A) (s := s) i t i u
    simpa using this
  | str i =>
    obtain ⟨t, rfl⟩ := ru
    obtain ⟨u, rfl⟩ := rv
    have := EqAt.str_str (A := A) (s := s) i t i u
    simpa using this
  | _ => exact False.elim h0
end Cs
set_option Elab.async false
set_option linter.all false
set_option maxRecDepth 100000
set_option maxHeartbeats 4000000
namespace K57
open PySem PySem.Spec PyProof.Rows L2 Cs CsX
theorem at_eqS {xs : List V} {i : Int} {j : Nat} {v : V} (h : i = (j : Int)) (hx : xs[j]? = some v) : atI xs i = some v := by
  rw [h]; exact atI_nat hx
theorem flat_le {S : Str → List Int} : ∀ {ns : List Str}, (∀ x ∈ ns, (S x).length ≤ 30) → (ns.flatMap S).length ≤ 30 * ns.length
  | [], _ => Nat.le_refl _
  | x :: ns, h => by
    rw [List.flatMap_cons, List.length_append, List.length_cons]
    have h1 := h x List.mem_cons_self
    have h2 := flat_le (ns := ns) fun y hy => h y (List.mem_cons_of_mem _ hy)
    omega
section
variable {P : Program} {w : World} {K : PySem.W.Frag} {mg : Str → Option Value} {base : Heap}
abbrev sPtg : Stmt := topS 31
abbrev nPtg : List Str := ["_law_stream_here", "_law_side", "_law_value"]
theorem scPtg : FnScope nPtg ["_law_stream_here", "_law_side"] (defScope sPtg) := ⟨rfl, rfl, rfl, by decide +kernel, rfl, by decide +kernel, by decide +kernel⟩
def spPtg : Sp := fun vs H Q _ => ∃ (α : Type) (g : α → V) (p a : Addr) (xs : List α), vs = [.ref p, .ref a] ∧ Strm H p ∧ H a = some (.lst (xs.map g)) ∧ p ≠ a ∧ xs.length ≤ 900 ∧
  ∀ (H' : Hp) (l : Addr) (ms : List α), Keep p H H' → H l = none → Strm H' p → H' l = some (.lst (ms.map g)) → ms.Sublist xs → Q (.ref l) H'
theorem ok_Ptg {f f0 : Addr} {fd fd0 : FuncData} (F : Fun K "_law_part" "_law_part" sPtg f fd) (B : Bt mg) (D : Call P w K mg base 1 "_law_next" f0 fd0 ["_law_stream_here", "_law_size"] spDraw) :
    FnOk P w K mg base CX0 2 f fd ["_law_stream_here", "_law_side"] spPtg := by
  refine F.ok scPtg (fun vs H Q E h => ?_) (fun cdv A outer s H vs Q E hr h => ?_)
  · obtain ⟨α, g, p, a, xs, rfl, _⟩ := h
    rfl
  · obtain ⟨α, g, p, a, xs, rfl, hp, ha, pa, hl, q⟩ := h
    have nd := scPtg.nd
    refine ⟨_, pss_one (ps_ret (pe_lc (own := [("_law_value", 2)]) (g := gName 2) (tt := _) (te := tVar 2) rfl nd (pi_list (pv 1)) (blkOk_by (N := nPtg) (sc := defScope sPtg) (by decide +kernel)) (fun _ _ _ _ _ => pg_name (i := 2) nd rfl (.inl rfl)) (fun _ _ _ _ _ => pts_one (pt_cmpR op_gt (pe_call D.ok (hr.mono (by decide)) (by rfl) D.at_ D.kp D.bd .nil pass0 (pa_cons (pv 0) (pa_cons pe_int pa_nil))) pe_int rfl))
          (fun _ _ _ _ _ => (pv 2)))), ?_⟩
    refine ⟨_, rfl, a, rfl, ⟨_, sl_map ha⟩, fun D nD => ?_⟩
    have npD : p ≠ D := fun e => hp.some (e ▸ nD)
    have naD : a ≠ D := ne_some' ha nD
    refine lc_list (xs := xs.map g) (fun i H' => Keep p H H' ∧ Strm H' p ∧ ∃ ms : List α, H' D = some (.lst (ms.map g)) ∧ ms.Sublist (xs.take i)) ⟨(Keep.refl p H).at_ nD, hp.upd npD, [], upd_same, List.Sublist.refl _⟩ (fun i H' _ h => sl_map (h.1 _ _ pa.symm ha)) ?_ ?_
    · rintro i x H1 hx ⟨k1, st1, ms, eD, sub⟩
      rw [List.getElem?_map] at hx
      obtain ⟨v, hv, rfl⟩ := Option.map_eq_some_iff.mp hx
      have hi := (List.getElem?_eq_some_iff.mp hv).1
      have len := sub.length_le
      rw [List.length_take] at len
      refine ⟨rfl, _, rfl, p, 3, rfl, st1, by decide, by decide, fun H2 e o2 st2 e0 e1 => ?_⟩
      have eD2 := (o2 D npD.symm).trans eD
      refine ⟨_, _, rfl, rfl, _, rfl, ite_both (fun _ => ⟨_, rfl, _, eD2, by rw [List.length_map]; exact small1000 (by omega), (k1.oth o2).at_ nD, st2.upd npD, ms ++ [v], by rw [upd_same, List.map_append] <;> rfl, ?_⟩) fun _ => ⟨k1.oth o2, st2, ms, eD2, ?_⟩⟩
      · rw [take_snoc hv]; exact sub.append (List.Sublist.refl _)
      · rw [take_snoc hv]; exact sub.trans (List.sublist_append_left _ _)
    · rintro H1 ⟨k1, st1, ms, eD, sub⟩
      rw [List.length_map, List.take_length] at sub
      exact q _ D ms k1 nD st1 eD sub
abbrev sEmp : Stmt := topS 37
abbrev nEmp : List Str := ["_law_stream_here", "_law_sides_here", "_law_scope_here", "_law_turn"]
theorem scEmp : FnScope nEmp ["_law_stream_here", "_law_sides_here", "_law_scope_here"] (defScope sEmp) := ⟨rfl, rfl, rfl, by decide +kernel, rfl, by decide +kernel, by decide +kernel⟩
def spEmp : Sp := fun vs H Q _ => ∃ (s b sc : Addr) (ns : List Str) (L : List Ent) (S : Str → List Int), vs = [.ref s, .ref b, .ref sc] ∧ Strm H s ∧ b ≠ s ∧ sc ≠ s ∧ H sc = some (.lst (ns.map V.str)) ∧ 1 ≤ ns.length ∧ ns.length ≤ 30 ∧ Bu H b L ∧ Fit L ns S ∧ (∀ g ∈ L, g.2.1 ≠ s) ∧ (∀ g ∈ L, Srt g.2.2 ∧ g.2.2.length ≤ 30) ∧ L.length ≤ 30 ∧
  ∀ (H' : Hp) (L' : List Ent) (S' : Str → List Int), (∀ a o, a ≠ s → a ≠ b → H a = some o → H' a = some o) → Bu H' b L' → Fit L' ns S' → (∀ g ∈ L', Srt g.2.2 ∧ g.2.2.length ≤ 30) → (∀ x, (S' x).length ≤ (S x).length) → Q (.ref b) H'
theorem ok_Emp {f f0 : Addr} {fd fd0 : FuncData} (F : Fun K "_law_emptied" "_law_emptied" sEmp f fd) (B : Bt mg) (D : Call P w K mg base 1 "_law_next" f0 fd0 ["_law_stream_here", "_law_size"] spDraw) :
    FnOk P w K mg base CX0 2 f fd ["_law_stream_here", "_law_sides_here", "_law_scope_here"] spEmp := by
  refine F.ok scEmp (fun vs H Q E h => ?_) (fun cdv A outer s H vs Q E hr h => ?_)
  · obtain ⟨s, b, sc, ns, L, S, rfl, _⟩ := h
    rfl
  · obtain ⟨s, b, sc, ns, L, S, rfl, hs, bs, scs, es, n1, n30, bx, fit, ne, ok, lL, q⟩ := h
    have hu := hu_of hr
    have nd := scEmp.nd
    refine ⟨_, pss_cons (ps_if (pt_cmpR op_eq (pe_call D.ok (hr.mono (by decide)) (by rfl) D.at_ D.kp D.bd .nil pass0 (pa_cons (pv 0) (pa_cons pe_int pa_nil))) pe_int rfl)
        (pss_one (ps_for PassesOwn.never rfl (pi_range1 (by rfl) B.range (pa_cons (pe_op op_add pe_int (pe_call D.ok (hr.mono (by decide)) (by rfl) D.at_ D.kp D.bd .nil pass0 (pa_cons (pv 0) (pa_cons pe_int pa_nil)))) pa_nil)) (pg_name (i := 3) nd rfl (.inl rfl))
            (pss_one (ps_dput hu (pv 1) (pe_ix ix_list (pv 2) (pe_call D.ok (hr.mono (by decide)) (by rfl) D.at_ D.kp D.bd .nil pass0 (pa_cons (pv 0) (pa_cons (pe_callB call_len_seq (by rfl) B.len PySem.boot_len (pa_cons (pv 2) pa_nil)) pa_nil))) (fun _ _ => rfl)) (pe_lst pa_nil) rfl))))
        pss_nil)
      (pss_one (ps_ret (pv 1))), ?_⟩
    have nb := bx.un
    refine ⟨_, rfl, s, 8, rfl, hs, by decide, by decide, fun H1 y o1 st1 _ _ => ⟨rfl, _, rfl, ite_both (fun _ => ?_) fun _ => ?_⟩⟩
    · have k1 : Keep s H H1 := (Keep.refl _ _).oth o1
      refine ⟨_, rfl, s, 2, rfl, st1, by decide, by decide, fun H2 t o2 st2 t0 t1 => ⟨1, t, rfl, rfl, _, rfl, by omega, by omega, for_range (lo := 0) (n := (1 + t).toNat) (fun i σ H' => ∃ (y3 : Option V) (L' : List Ent) (S' : Str → List Int), σ = [some (.ref s), some (.ref b), some (.ref sc), y3] ∧ Strm H' s ∧ (∀ a o, a ≠ s → a ≠ b → H a = some o → H' a = some o) ∧ Bu H' b L' ∧ Fit L' ns S' ∧ (∀ g ∈ L', g.2.1 ≠ s) ∧ (∀ g ∈ L', Srt g.2.2 ∧ g.2.2.length ≤ 30) ∧ (∀ x, (S' x).length ≤ (S x).length) ∧ L'.map (·.1) = L.map (·.1))
        ⟨none, L, S, rfl, st2, (fun a o n1 _ e => (k1.oth o2) a o n1 e), bx.keep hs (k1.oth o2) ne, fit, ne, ok, fun _ => Nat.le_refl _, rfl⟩ ?_ ?_⟩⟩
      · clear st2 o2 t0 t1 k1 H2
        rintro i σ H2 hi ⟨y3, L', S', rfl, st2, kp, b2, f2, ne2, ok2, le2, keys⟩
        refine ⟨by show 0 ≤ sizeLine; decide, fun Y nY => ?_⟩
        have Ys : Y ≠ s := fun z => st2.some (z ▸ nY)
        have s3 := same_new (o := HO.lst []) nY
        have st3 : Strm (upd H2 Y (.lst [])) s := st2.upd Ys.symm
        have es3 := s3 _ _ (kp _ _ scs (fun z => by rw [z, nb] at es; cases es) es)
        have b3 := b2.same' s3
        have eY : (upd H2 Y (.lst [])) Y = some (.lst (([] : List Int).map V.int)) := upd_same
        refine ⟨_, rfl, _, rfl, _, rfl, _, rfl, sc, _, rfl, .inl (sl_map es3), s, _, rfl, st3, by rw [List.length_map]; omega, by rw [List.length_map]; omega, fun H4 y o4 st4 y0 y1 => ?_⟩
        rw [List.length_map] at y1
        obtain ⟨d, rfl⟩ : ∃ d : Nat, y = (d : Int) := ⟨y.toNat, by omega⟩
        obtain ⟨x, hx⟩ : ∃ x, ns[d]? = some x := ⟨_, List.getElem?_eq_getElem (by omega)⟩
        have xn := List.mem_of_getElem? hx
        have b4 : Bu H4 b L' := b3.keep st3 ((Keep.refl _ _).oth o4) ne2
        have eY4 := (o4 _ Ys).trans eY
        have lL' : L'.length = L.length := by rw [← List.length_map (f := (·.1)), keys, List.length_map]
        have xk : x ∈ L'.map (·.1) := by
          obtain ⟨e, he, e2⟩ := Option.map_eq_some_iff.mp (f2 x xn)
          exact List.mem_map.mpr ⟨e, (getE_mem he).1, (getE_mem he).2⟩
        have b5 := b4.aput (x := x) eY4 (by omega)
        refine ⟨sc, _, _, .str x, rfl, rfl, sl_map ((o4 _ scs).trans es3), atI_nat (j := d) (by rw [List.getElem?_map, hx] <;> rfl), b, _, rfl, DPut.k (k := .inr x) b4.un (by rw [entK_len]; exact small1000 (by omega)), ?_⟩
        rw [putK_ent (s := [])]
        have bs' : b ≠ s := bs
        refine ⟨_, putE L' x Y [], fun y => if y = x then [] else S' y, rfl, st4.upd bs'.symm, fun a o n1 n2 e => ?_, b5, fun z hz => ?_, fun g hg => ?_, fun g hg => ?_, fun z => ?_, by rw [putE_keys, if_pos xk]; exact keys⟩
        · rw [upd_ne n2]; exact (o4 _ n1).trans (s3 _ _ (kp _ _ n1 n2 e))
        · rw [look_put]
          by_cases c : z = x
          · rw [if_pos c]; show some [] = some (if z = x then [] else S' z); rw [if_pos c]
          · rw [if_neg c]; show look L' z = some (if z = x then [] else S' z); rw [if_neg c]; exact f2 z hz
        · rcases putE_mem hg with h | ⟨h, _⟩
          · rw [h]; exact Ys
          · exact ne2 g h
        · rcases putE_mem hg with h | ⟨h, _⟩
          · rw [h]; exact ⟨List.Pairwise.nil, Nat.zero_le _⟩
          · exact ok2 g h
        · show (if z = x then [] else S' z).length ≤ _
          split
          · exact Nat.zero_le _
          · exact le2 z
      · rintro σ H3 ⟨y3, L', S', rfl, st2, kp, b2, f2, ne2, ok2, le2, keys⟩
        exact ⟨_, rfl, q _ L' S' kp b2 f2 ok2 le2⟩
    · exact ⟨_, rfl, q _ L S (fun a o n1 _ e => (o1 a n1).trans e) (bx.keep hs ((Keep.refl _ _).oth o1) ne) fit ok fun _ => Nat.le_refl _⟩
abbrev sRds : Stmt := topS 42
abbrev nRds : List Str := ["_law_scope_here", "_law_sides_here", "_law_certificate", "_law_crowd", "_law_met", "_law_k", "_law_value"]
theorem scRds : FnScope nRds ["_law_scope_here", "_law_sides_here", "_law_certificate"] (defScope sRds) := ⟨rfl, rfl, rfl, by decide +kernel, rfl, by decide +kernel, by decide +kernel⟩
def spRds : Sp := fun vs H Q _ => ∃ (sc b T : Addr) (ns : List Str) (L : List Ent) (S : Str → List Int) (w : Str) (c : V) (r : Bool), vs = [.ref sc, .ref b, .ref T] ∧ H sc = some (.lst (ns.map V.str)) ∧ Bu H b L ∧ Fit L ns S ∧ Sds ns S ∧ H T = some (.tup [.str w, c]) ∧ Crt ns S H w c r ∧
  ∀ H', Same H H' → Q (.bl r) H'
theorem ok_Rds {f  : Addr} {fd  : FuncData} (F : Fun K "_law_reads" "_law_reads" sRds f fd) (B : Bt mg) :
    FnOk P w K mg base CX0 1 f fd ["_law_scope_here", "_law_sides_here", "_law_certificate"] spRds := by
  refine F.ok scRds (fun vs H Q E h => ?_) (fun cdv A outer s H vs Q E hr h => ?_)
  · obtain ⟨sc, b, T, ns, L, S, w, c, r, rfl, _⟩ := h
    rfl
  · obtain ⟨sc, b, T, ns, L, S, w, c, r, rfl, es, bx, fit, sd, eT, cr, q⟩ := h
    have hu := hu_of hr
    have nd := scRds.nd
    refine ⟨_, pss_cons (ps_if (pt_cmpR op_eq (pe_ix ix_tup (pv 2) pe_int (fun _ _ => rfl)) pe_str rfl)
        (pss_one (ps_ret (L2.pe_and (pe_cmpR (r := rIn K false) op_in_seq (pe_ix ix_tup (pv 2) pe_int (fun _ _ => rfl)) (pv 0) rfl) (pe_one (pe_cmpR op_eq (pe_callB call_len_seq (by rfl) B.len PySem.boot_len (pa_cons (pe_dget hu (pv 1) (pe_ix ix_tup (pv 2) pe_int (fun _ _ => rfl)) (fun _ _ => rfl)) pa_nil)) pe_int rfl)))))
        pss_nil)
      (pss_cons (ps_if (pt_cmpR op_ne (pe_ix ix_tup (pv 2) pe_int (fun _ _ => rfl)) pe_str rfl)
        (pss_one (ps_ret pe_bl))
        pss_nil)
      (pss_cons (ps_set (i := 3) nd rfl (.inl rfl) (pe_ix ix_tup (pv 2) pe_int (fun _ _ => rfl)))
      (pss_cons (ps_set (i := 4) nd rfl (.inl rfl) (pe_lst pa_nil))
      (pss_cons (ps_for PassesOwn.never rfl (pi_range1 (by rfl) B.range (pa_cons (pe_callB call_len_seq (by rfl) B.len PySem.boot_len (pa_cons (pv 3) pa_nil)) pa_nil)) (pg_name (i := 5) nd rfl (.inl rfl))
        (pss_cons (ps_if (PW.pt (pw_or (pt_cmpR (r := rIn K true) op_notIn_seq (pe_ix ix_list (pv 3) (pv 5) (fun _ _ => rfl)) (pv 0) rfl) (pw_or1 (pt_cmpR (r := rIn K false) op_in_seq (pe_ix ix_list (pv 3) (pv 5) (fun _ _ => rfl)) (pe_slice sl_list (pv 3) po_none (po_some (pv 5))) rfl))))
            (pss_one (ps_ret pe_bl))
            pss_nil)
          (pss_one (ps_for PassesOwn.never rfl (pi_list (pe_dget hu (pv 1) (pe_ix ix_list (pv 3) (pv 5) (fun _ _ => rfl)) (fun _ _ => rfl))) (pg_name (i := 6) nd rfl (.inl rfl))
            (pss_one (ps_if (pt_cmpR (r := rIn K true) op_notIn_seq (pv 6) (pv 4) rfl)
                (pss_one (ps_expr (pe_bm PySem.F.plainAttrs_list PySem.F.slot_list_append PySem.F.type_list_append mt_append (pv 4) (pa_cons (pv 6) pa_nil))))
                pss_nil))))))
      (pss_one (ps_ret (pe_cmpR op_lt (pe_callB call_len_seq (by rfl) B.len PySem.boot_len (pa_cons (pv 4) pa_nil)) (pe_callB call_len_seq (by rfl) B.len PySem.boot_len (pa_cons (pv 3) pa_nil)) rfl))))))), ?_⟩
    refine ⟨_, rfl, T, _, _, .str w, rfl, rfl, .inl (.inl eT), atI_nat (j := 0) rfl, ?_⟩
    cases cr with
    | empty x =>
      refine ⟨rfl, _, rfl, iteT ?_⟩
      refine ⟨_, rfl, T, _, _, .str x, rfl, rfl, .inl (.inl eT), atI_nat (j := 1) rfl, _, rfl, sc, _, rfl, .inl (sl_map es), rfl, flats_str _, ?_⟩
      rw [if_neg (by decide), in_strs]
      have qs := q _ (fun _ _ h => h)
      by_cases hx : x ∈ ns
      · rw [decide_eq_true hx]
        obtain ⟨a, ga, ea⟩ := Fit.get bx.toBx fit hx
        refine ⟨true, rfl, iteT ⟨_, rfl, _, rfl, T, _, _, .str x, rfl, rfl, .inl (.inl eT), atI_nat (j := 1) rfl, b, .ref a, rfl, ga, a, _, rfl, .inl (sl_map ea), rfl, ?_⟩⟩
        have e : decide (V.int (((S x).map V.int).length : Nat) = V.int 0) = decide (x ∈ ns ∧ S x = []) := by
          rw [Bool.eq_iff_iff, decide_eq_true_iff, decide_eq_true_iff, List.length_map]
          constructor
          · intro z; exact ⟨hx, List.length_eq_zero_iff.mp (by have := V.int.inj z; omega)⟩
          · intro z; rw [z.2] <;> rfl
        rw [e]
        exact qs
      · rw [decide_eq_false hx]
        refine ⟨false, rfl, iteF ?_⟩
        rw [decide_eq_false fun z => hx z.1] at qs
        exact qs
    | other w c h1 h2 =>
      refine ⟨rfl, _, rfl, ite_both (fun z => absurd (V.str.inj (of_decide_eq_true z)) h1) fun _ => ?_⟩
      refine ⟨_, rfl, T, _, _, .str w, rfl, rfl, .inl (.inl eT), atI_nat (j := 0) rfl, rfl, _, rfl, ?_⟩
      rw [decide_eq_false (fun z => h2 (V.str.inj z))]
      exact iteT (q _ fun _ _ h => h)
    | crowd l c _ el fc hr' =>
      have no : ∀ {H' : Hp}, Same H H' → ¬ IsCr ns S c → Q (.bl false) H' := fun {H'} s h => by
        have e : r = false := by
          cases r with
          | false => rfl
          | true => exact absurd (hr'.mp rfl) h
        have := q H' s
        rw [e] at this
        exact this
      refine ⟨rfl, _, rfl, iteF ?_⟩
      refine ⟨_, rfl, T, _, _, .str "crowd", rfl, rfl, .inl (.inl eT), atI_nat (j := 0) rfl, rfl, _, rfl, iteF ?_⟩
      refine ⟨_, rfl, T, _, _, .ref l, rfl, rfl, .inl (.inl eT), atI_nat (j := 1) rfl, by show 0 ≤ sizeLine; decide, fun Z nZ => ?_⟩
      have s0 := same_new (o := HO.lst []) nZ
      refine ⟨_, rfl, l, _, rfl, .inl (sl_map (s0 _ _ el)), _, rfl, by omega, by rw [List.length_map]; omega, for_range (lo := 0) (n := (c.map V.str).length) (fun k σ H' => ∃ (y5 y6 : Option V) (m : List Int), σ = [some (.ref sc), some (.ref b), some (.ref T), some (.ref l), some (.ref Z), y5, y6] ∧ Same H H' ∧ H' Z = some (.lst (m.map V.int)) ∧ m.Nodup ∧ (∀ w, w ∈ m ↔ ∃ x ∈ c.take k, w ∈ S x) ∧ (∀ x ∈ c.take k, x ∈ ns) ∧ (c.take k).Nodup)
        ⟨none, none, [], rfl, s0, upd_same, List.Pairwise.nil, (fun w => ⟨(fun h => nomatch h), fun ⟨x, h, _⟩ => nomatch h⟩), (fun _ h => nomatch h), List.Pairwise.nil⟩ ?_ ?_⟩
      · rintro k σ H1 hk ⟨y5, y6, m, rfl, s1, eZ, mnd, mem, sub, ndc⟩
        rw [List.length_map] at hk
        obtain ⟨x, hx⟩ : ∃ x, c[k]? = some x := ⟨_, List.getElem?_eq_getElem hk⟩
        have xc := List.mem_of_getElem? hx
        have el1 := s1 _ _ el
        have cx : (c.map V.str)[k]? = some (.str x) := by rw [List.getElem?_map, hx] <;> rfl
        refine ⟨_, rfl, _, rfl, l, _, _, .str x, rfl, rfl, sl_map el1, at_eqS (by omega) cx, _, rfl, sc, _, rfl, .inl (sl_map (s1 _ _ es)), rfl, flats_str _, ?_⟩
        rw [if_pos rfl, in_strs]
        refine ⟨_, rfl, ite_both (fun c1 => ?_) fun c1 => ?_⟩
        · exact no s1 fun z => by rw [decide_eq_true (z.1 x xc)] at c1; cases c1
        have xn : x ∈ ns := Decidable.byContradiction fun z => by rw [decide_eq_false z] at c1; cases c1
        refine ⟨_, rfl, _, rfl, l, _, _, .str x, rfl, rfl, sl_map el1, at_eqS (by omega) cx, _, rfl, _, rfl, _, rfl, l, _, rfl, sl_map el1, fun Y nY => ?_⟩
        rw [show (0 + (k : Int)) = (k : Int) by omega, cutV_to, ← List.map_take]
        refine ⟨Y, _, rfl, .inl (sl_map upd_same), rfl, flats_str _, ?_⟩
        rw [if_neg (by decide), in_strs]
        have s2 := s1.trans (same_new (o := HO.lst ((c.take k).map V.str)) nY)
        have eZ2 := same_new (o := HO.lst ((c.take k).map V.str)) nY _ _ eZ
        generalize upd H1 Y (HO.lst ((c.take k).map V.str)) = H2 at s2 eZ2 ⊢
        refine ⟨_, rfl, ite_both (fun c2 => ?_) fun c2 => ?_⟩
        · exact no s2 fun z => not_take z.2.1 hx (of_decide_eq_true c2)
        have nx : x ∉ c.take k := of_decide_eq_false c2
        obtain ⟨e, he, ge⟩ := fit.at_ (b := b) xn
        have ga := fun {H' : Hp} (s : Same H H') => ge (bx.same' s)
        have lf : ((c.take (k + 1)).flatMap S).length ≤ 900 ∨ True := .inr trivial
        refine ⟨_, rfl, _, rfl, _, rfl, l, _, _, .str x, rfl, rfl, sl_map (s2 _ _ el), at_eqS (by omega) cx, b, .ref e.2.1, rfl, (ga s2).1, e.2.1, rfl, ⟨_, sl_map (ga s2).2⟩, for_list (xs := (S x).map V.int) (fun j σ' H' => ∃ (y6 : Option V) (m : List Int), σ' = [some (.ref sc), some (.ref b), some (.ref T), some (.ref l), some (.ref Z), some (.int (k : Int)), y6] ∧ Same H H' ∧ H' Z = some (.lst (m.map V.int)) ∧ m.Nodup ∧ (∀ w, w ∈ m ↔ (∃ x ∈ c.take k, w ∈ S x) ∨ w ∈ (S x).take j))
          ⟨y6, m, rfl, s2, eZ2, mnd, fun w => ⟨fun h => .inl ((mem w).mp h), fun h => (mem w).mpr (h.resolve_right (fun h => nomatch h))⟩⟩ (fun j σ' H' _ h => by obtain ⟨_, _, _, s', _⟩ := h; exact sl_map (ga s').2) ?_ ?_⟩
        · clear mnd mem eZ eZ2 m y6
          rintro j z σ3 H3 hz ⟨y6, m, rfl, s3, eZ3, mnd, mem⟩
          rw [List.getElem?_map] at hz
          obtain ⟨v, hv, rfl⟩ := Option.map_eq_some_iff.mp hz
          have ml : m.length ≤ 900 := by
            have h1 := List.Nodup.length_le_of_subset mnd (l₂ := (c.take (k + 1)).flatMap S) fun w hw => by
              rw [take_snoc hx, List.flatMap_append, List.mem_append, List.mem_flatMap]
              rcases (mem w).mp hw with ⟨u, hu, h⟩ | h
              · exact .inl ⟨u, hu, h⟩
              · exact .inr (List.mem_flatMap.mpr ⟨x, List.mem_singleton.mpr rfl, List.mem_of_mem_take h⟩)
            have h2 := flat_le (S := S) (ns := c.take (k + 1)) fun u hu => by
              rw [take_snoc hx] at hu
              rcases List.mem_append.mp hu with h | h
              · exact sd.few u (sub u h)
              · rw [List.mem_singleton.mp h]; exact sd.few x xn
            have h3 : (c.take (k + 1)).length ≤ 30 := by rw [List.length_take]; omega
            omega
          refine ⟨_, rfl, _, rfl, Z, _, rfl, .inl (sl_map eZ3), rfl, flat_ints _, ?_⟩
          rw [if_pos rfl, in_ints]
          have step : ∀ w, (w ∈ m ∨ w = v) ↔ (∃ x ∈ c.take k, w ∈ S x) ∨ w ∈ (S x).take (j + 1) := fun w => by
            rw [take_snoc hv, List.mem_append, List.mem_singleton, mem w, or_assoc]
          refine ⟨_, rfl, ite_both (fun cc => ?_) fun cc => ?_⟩
          · have nv : v ∉ m := fun z => by rw [decide_eq_true z] at cc; cases cc
            refine ⟨_, rfl, .inl ⟨rfl, _, sl_map eZ3⟩, _, rfl, Z, _, _, rfl, rfl, eZ3, by rw [List.length_map]; exact small1000 (by omega), _, m ++ [v], rfl, same_at s3 nZ, by rw [upd_same, List.map_append] <;> rfl, nd_snoc mnd nv, fun w => ?_⟩
            rw [List.mem_append, List.mem_singleton]; exact step w
          · have nv : v ∈ m := Decidable.byContradiction fun z => by rw [decide_eq_false z] at cc; cases cc
            refine ⟨_, m, rfl, s3, eZ3, mnd, fun w => ?_⟩
            rw [← step w]
            exact ⟨.inl, fun h => h.elim id fun h => h ▸ nv⟩
        · rintro σ3 H3 ⟨y6, m, rfl, s3, eZ3, mnd, mem3⟩
          rw [List.length_map, List.take_length] at mem3
          refine ⟨_, y6, m, rfl, s3, eZ3, mnd, fun w => ?_, fun y hy => ?_, ?_⟩
          · rw [mem3, take_snoc hx]
            constructor
            · rintro (⟨u, hu, h⟩ | h)
              · exact ⟨u, List.mem_append_left _ hu, h⟩
              · exact ⟨x, List.mem_append_right _ (List.mem_singleton.mpr rfl), h⟩
            · rintro ⟨u, hu, h⟩
              rcases List.mem_append.mp hu with h2 | h2
              · exact .inl ⟨u, h2, h⟩
              · rw [List.mem_singleton.mp h2] at h; exact .inr h
          · rw [take_snoc hx] at hy
            rcases List.mem_append.mp hy with h | h
            · exact sub y h
            · rw [List.mem_singleton.mp h]; exact xn
          · rw [take_snoc hx]; exact nd_snoc ndc nx
      · rintro σ H1 ⟨y5, y6, m, rfl, s1, eZ, mnd, mem, sub, ndc⟩
        rw [List.length_map, List.take_length] at mem sub ndc
        refine ⟨_, rfl, Z, _, rfl, .inl (sl_map eZ), _, rfl, l, _, rfl, .inl (sl_map (s1 _ _ el)), _, _, rfl, rfl, ?_⟩
        have e : r = decide (((m.map V.int).length : Int) < ((c.map V.str).length : Int)) := by
          rw [Bool.eq_iff_iff, hr', decide_eq_true_iff, List.length_map, List.length_map]
          constructor
          · intro h
            have := (few_iff mnd mem).mp h.2.2
            omega
          · intro h
            exact ⟨sub, ndc, (few_iff mnd mem).mpr (by omega)⟩
        show Q (.bl (decide (((m.map V.int).length : Int) < ((c.map V.str).length : Int)))) H1
        rw [← e]
        exact q _ s1
end
end K57
set_option Elab.async false
set_option linter.all false
set_option maxRecDepth 100000
set_option maxHeartbeats 4000000
/-! != of two tuples whose items are alike: ints, texts, lists of such, deep -/
namespace Cs
open PySem PySem.Spec PyProof.Rows L2
open MeetsSeq MeetsSeq2 MeetsSeq3 SeqRoads2 SeqAt
def Lke (H : Hp) : Nat → V → V → Prop
  | 0 => fun _ _ => False
  | n + 1 => fun x y => (x = y ∧ simpV x) ∨ ∃ a b xs ys, x = .ref a ∧ y = .ref b ∧ H a = some (.lst xs) ∧ H b = some (.lst ys) ∧ xs.length = ys.length ∧ ∀ (j : Nat) (p q : V), xs[j]? = some p → ys[j]? = some q → Lke H n p q
theorem Lke.same {H H' : Hp} (s : Same H H') : ∀ {n : Nat} {x y : V}, Lke H n x y → Lke H' n x y
  | 0, _, _, h => h.elim
  | n + 1, x, y, h => by
    rcases h with h | ⟨a, b, xs, ys, e1, e2, ha, hb, hl, k⟩
    · exact .inl h
    · exact .inr ⟨a, b, xs, ys, e1, e2, s _ _ ha, s _ _ hb, hl, fun j p q h1 h2 => (k j p q h1 h2).same s⟩
theorem Lke.flats {H : Hp} {n : Nat} {a b : Addr} {xs : List V} (ha : H a = some (.lst xs)) (hb : H b = some (.lst xs)) (fl : ∀ v ∈ xs, simpV v) : Lke H (n + 2) (.ref a) (.ref b) :=
  .inr ⟨a, b, xs, xs, rfl, rfl, ha, hb, rfl, fun j p q h1 h2 => by
    rw [h1] at h2
    exact .inl ⟨Option.some.inj h2, fl p (List.mem_of_getElem? h1)⟩⟩
section
variable {X : Cx} {pins : List (Addr × Obj)} {σ : L2.St} {H : Hp} {s : Shared}
theorem lke_at (I : L2.Inv X pins σ H s) : ∀ (n : Nat) (A : Around), A.units + n < cLine → ∀ (x y : V) (v u : Value), Lke H n x y → RelV x v → RelV y u → EqAt A s v u true
  | 0, _, _, _, _, _, _, h, _, _ => False.elim h
  | n + 1, A, room, x, y, v, u, h, rx, ry => by
    rcases h with ⟨rfl, fl⟩ | ⟨a, b, xs, ys, rfl, rfl, ha, hb, hl, k⟩
    · have := simp_at (A := A) (s := s) (xs := [x]) (us := [v]) (ws := [u]) (.cons rx .nil) (.cons ry .nil) (fun z hz => by rw [List.mem_singleton.mp hz]; exact fl) 0 (Nat.zero_lt_one) (Nat.zero_lt_one)
      exact this
    · cases (show v = Value.ref a from rx)
      cases (show u = Value.ref b from ry)
      by_cases e : a = b
      · rw [e]; exact EqAt.same _
      obtain ⟨us, r1, p1, _⟩ := I.list (.inl (.inl ha) : SqL X.K H a xs)
      obtain ⟨ws, r2, p2, _⟩ := I.list (.inl (.inl hb) : SqL X.K H b ys)
      have sz : us.toArray.size = ws.toArray.size := by rw [List.size_toArray, List.size_toArray, ← r1.length, ← r2.length]; exact hl
      have M := RcAt.lists (A := A) (e := fun _ => true) p1.isList p2.isList sz (by omega) fun j h1 h2 => by
        have g1 : j < us.length := by simpa using h1
        have g2 : j < ws.length := by simpa using h2
        have q1 : xs[j]? = some (xs[j]'(by rw [r1.length]; exact g1)) := List.getElem?_eq_getElem _
        have q2 : ys[j]? = some (ys[j]'(by rw [r2.length]; exact g2)) := List.getElem?_eq_getElem _
        obtain ⟨m1, hm1, rm1⟩ := r1.get q1
        obtain ⟨m2, hm2, rm2⟩ := r2.get q2
        have z := lke_at I n A.in1 (by show A.units + 1 + n < cLine; omega) _ _ _ _ (k j _ _ q1 q2) rm1 rm2
        rw [List.getElem?_eq_getElem g1] at hm1
        rw [List.getElem?_eq_getElem g2] at hm2
        rw [← Option.some.inj hm1, ← Option.some.inj hm2] at z
        simpa using z
      have t : ((List.range us.toArray.size).all fun _ => true) = true := List.all_eq_true.mpr fun _ _ => rfl
      rw [t] at M
      exact EqAt.of_refs e M
end
def rNeTw (K : PySem.W.Frag) : R2 := fun x y H Q => ∃ a b p q p' q', x = .ref a ∧ y = .ref b ∧ SqT K H a [p, q] ∧ SqT K H b [p', q'] ∧ Lke H 5 p p' ∧ Lke H 5 q q' ∧ Q (.bl false) H
theorem op_neTw {X : Cx} (hu : X.A.units + 64 < cLine) : OpR X (compareOp .NotEq) (rNeTw X.K) := by
  intro pins s σ H x y v u Q I rx ry h
  obtain ⟨a, b, p, q, p', q', rfl, rfl, ha, hb, l1, l2, z⟩ := h
  cases (show v = Value.ref a from rx)
  cases (show u = Value.ref b from ry)
  obtain ⟨us, r1, t1, _⟩ := I.tuple ha
  obtain ⟨ws, r2, t2, _⟩ := I.tuple hb
  obtain ⟨⟨k1, d1, x1, y1⟩, o1, e1, n1, f1⟩ := id t1
  obtain ⟨⟨k2, d2, x2, y2⟩, o2, e2, n2, f2⟩ := id t2
  dsimp only at e1 f1 e2 f2
  subst e1 f1 e2 f2
  have at_ := lke_at I 5 X.A.in1 (by show X.A.units + 1 + 5 < cLine; omega)
  cases r1 with
  | cons ra rr =>
    cases rr with
    | cons rb rr =>
      cases rr
      cases r2 with
      | cons rc rs =>
        cases rs with
        | cons rd rs =>
          cases rs
          have g0 := at_ _ _ _ _ l1 ra rc
          have g1 := at_ _ _ _ _ l2 rb rd
          refine wpAny_richCompare_same_room (op := .NotEq) ⟨_, o1, rfl⟩ ⟨_, o2, rfl⟩ F.slot_tuple_ne (call_meets F.slot_tuple_ne ⟨_, o1, rfl⟩ F.entry_tuple_ne (F.args_tuple_ne_2 _ _) (tuple_neAt a b _ _ n1 n2 d1 d2 y1 y2 fun _ => true)
            ⟨o1, o2, fun j h1 h2 => ?_, ?_⟩) (by omega)
          · have : j = 0 ∨ j = 1 := by simp at h1; omega
            rcases this with rfl | rfl
            · exact g0
            · exact g1
          · exact ⟨(fun x => nomatch x), ⟨.bl false, H, I, rfl, z⟩⟩
end Cs
set_option Elab.async false
set_option linter.all false
set_option maxRecDepth 100000
set_option maxHeartbeats 4000000
namespace K57
open PySem PySem.Spec PyProof.Rows L2 Cs CsX
abbrev Lay := Addr × List Int
/-- the content of a certificate -/
inductive Cn (H : Hp) : Str → V → Prop
  | empty (x : Str) : Cn H "empty" (.str x)
  | crowd (l : Addr) (cs : List Str) (e : H l = some (.lst (cs.map V.str))) (few : cs.length ≤ 30) : Cn H "crowd" (.ref l)
  | layers (l : Addr) (as : List Lay) (e : H l = some (.lst (as.map fun a => V.ref a.1))) (i : ∀ a ∈ as, H a.1 = some (.lst (a.2.map V.int))) (few : as.length ≤ 30) : Cn H "layers" (.ref l)
  | other (w : Str) (l : Addr) (xs : List V) (h1 : w ≠ "empty") (h2 : w ≠ "crowd") (h3 : w ≠ "layers") (e : H l = some (.lst xs)) (fl : ∀ v ∈ xs, simpV v) : Cn H w (.ref l)
theorem Cn.same {H H' : Hp} {w : Str} {c : V} (h : Cn H w c) (s : Same H H') : Cn H' w c := by
  cases h with
  | empty x => exact .empty x
  | crowd l cs e few => exact .crowd l cs (s _ _ e) few
  | layers l as e i few => exact .layers l as (s _ _ e) (fun a ha => s _ _ (i a ha)) few
  | other w l xs h1 h2 h3 e fl => exact .other w l xs h1 h2 h3 (s _ _ e) fl
/-- two contents alike -/
inductive Dup (H : Hp) : Str → V → V → Prop
  | empty (x : Str) : Dup H "empty" (.str x) (.str x)
  | crowd (l l' : Addr) (cs : List Str) (e : H l = some (.lst (cs.map V.str))) (e' : H l' = some (.lst (cs.map V.str))) (few : cs.length ≤ 30) : Dup H "crowd" (.ref l) (.ref l')
  | layers (l l' : Addr) (as bs : List Lay) (e : H l = some (.lst (as.map fun a => V.ref a.1))) (i : ∀ a ∈ as, H a.1 = some (.lst (a.2.map V.int))) (e' : H l' = some (.lst (bs.map fun a => V.ref a.1))) (i' : ∀ a ∈ bs, H a.1 = some (.lst (a.2.map V.int))) (c : bs.map (·.2) = as.map (·.2)) : Dup H "layers" (.ref l) (.ref l')
  | other (w : Str) (l l' : Addr) (xs : List V) (h1 : w ≠ "empty") (h2 : w ≠ "crowd") (h3 : w ≠ "layers") (e : H l = some (.lst xs)) (e' : H l' = some (.lst xs)) (fl : ∀ v ∈ xs, simpV v) : Dup H w (.ref l) (.ref l')
theorem Dup.same {H H' : Hp} {w : Str} {c c' : V} (h : Dup H w c c') (s : Same H H') : Dup H' w c c' := by
  cases h with
  | empty x => exact .empty x
  | crowd l l' cs e e' few => exact .crowd l l' cs (s _ _ e) (s _ _ e') few
  | layers l l' as bs e i e' i' c => exact .layers l l' as bs (s _ _ e) (fun a ha => s _ _ (i a ha)) (s _ _ e') (fun a ha => s _ _ (i' a ha)) c
  | other w l l' xs h1 h2 h3 e e' fl => exact .other w l l' xs h1 h2 h3 (s _ _ e) (s _ _ e') fl
theorem simp_ints (ks : List Int) : ∀ v ∈ ks.map V.int, simpV v := fun v hv => by
  obtain ⟨z, _, rfl⟩ := List.mem_map.mp hv; trivial
theorem simp_strs (ks : List Str) : ∀ v ∈ ks.map V.str, simpV v := fun v hv => by
  obtain ⟨z, _, rfl⟩ := List.mem_map.mp hv; trivial
theorem Dup.lke {H : Hp} {w : Str} {c c' : V} (h : Dup H w c c') : Lke H 5 c' c := by
  cases h with
  | empty x => exact .inl ⟨rfl, trivial⟩
  | crowd l l' cs e e' few => exact .flats e' e (simp_strs cs)
  | layers l l' as bs e i e' i' c =>
    have ll : bs.length = as.length := by have := congrArg List.length c; rwa [List.length_map, List.length_map] at this
    refine .inr ⟨l', l, _, _, rfl, rfl, e', e, by rw [List.length_map, List.length_map, ll], fun j p q h1 h2 => ?_⟩
    rw [List.getElem?_map] at h1 h2
    obtain ⟨a, ha, rfl⟩ := Option.map_eq_some_iff.mp h1
    obtain ⟨d, hd, rfl⟩ := Option.map_eq_some_iff.mp h2
    have e1 := i' a (List.mem_of_getElem? ha)
    have e2 := i d (List.mem_of_getElem? hd)
    have z1 : (bs.map (·.2))[j]? = some a.2 := by rw [List.getElem?_map, ha] <;> rfl
    have z2 : (as.map (·.2))[j]? = some d.2 := by rw [List.getElem?_map, hd] <;> rfl
    rw [c, z2] at z1
    rw [← Option.some.inj z1] at e1
    exact .flats e1 e2 (simp_ints _)
  | other w l l' xs h1 h2 h3 e e' fl => exact .flats e' e fl
theorem Dup.crt {H : Hp} {ns : List Str} {S : Str → List Int} {w : Str} {c c' : V} (h : Dup H w c c') : ∃ r, Crt ns S H w c r ∧ Crt ns S H w c' r := by
  cases h with
  | empty x => exact ⟨_, .empty x, .empty x⟩
  | crowd l l' cs e e' few =>
    obtain ⟨r, hr⟩ : ∃ r : Bool, r = true ↔ IsCr ns S cs := by
      by_cases h : IsCr ns S cs
      · exact ⟨true, fun _ => h, fun _ => rfl⟩
      · exact ⟨false, (fun z => nomatch z), fun z => absurd z h⟩
    exact ⟨r, .crowd l cs r e few hr, .crowd l' cs r e' few hr⟩
  | layers l l' as bs e i e' i' c => exact ⟨_, .other _ _ (by decide +kernel) (by decide +kernel), .other _ _ (by decide +kernel) (by decide +kernel)⟩
  | other w l l' xs h1 h2 h3 e e' fl => exact ⟨_, .other _ _ h1 h2, .other _ _ h1 h2⟩
/-- what is told, told right -/
inductive Tol (ns : List Str) (S : Str → List Int) (H : Hp) : V → Prop
  | none (f : Feas ns S) : Tol ns S H .non
  | empty (T : Addr) (x : Str) (n : fe S ns = some x) (eT : H T = some (.tup [.str "empty", .str x])) : Tol ns S H (.ref T)
  | crowd (T r : Addr) (c : List Str) (n : fe S ns = Option.none) (eT : H T = some (.tup [.str "crowd", .ref r])) (er : H r = some (.lst (c.map V.str))) (cr : IsCr ns S c) (gr : Det ns S c) : Tol ns S H (.ref T)
theorem Cto.tol {ns : List Str} {S : Str → List Int} {H H1 : Hp} {v : V} (h : Cto ns S H H1 v) : Tol ns S H1 v := by
  cases h with
  | none n f => exact .none f
  | empty T x n nT eT => exact .empty T x n eT
  | crowd T r c n nT eT nr er cr gr => exact .crowd T r c n eT er cr gr
theorem Tol.same {ns : List Str} {S : Str → List Int} {H H1 : Hp} {v : V} (h : Tol ns S H v) (s : Same H H1) : Tol ns S H1 v := by
  cases h with
  | none f => exact .none f
  | empty T x n eT => exact .empty T x n (s _ _ eT)
  | crowd T r c n eT er cr gr => exact .crowd T r c n (s _ _ eT) (s _ _ er) cr gr
theorem fe_some {S : Str → List Int} {ns : List Str} {x : Str} (h : fe S ns = some x) : x ∈ ns ∧ S x = [] :=
  ⟨List.mem_of_find?_eq_some h, by have := List.find?_some (p := fun x => (S x).isEmpty) h; exact List.isEmpty_iff.mp this⟩
theorem empty_bare {S : Str → List Int} {ns : List Str} {x : Str} (h : fe S ns = some x) : ¬ Feas ns S := fun ⟨g, G⟩ => by
  have := G.mem x (fe_some h).1
  rw [(fe_some h).2] at this
  exact nomatch this
/-- what a certificate that is told says -/
theorem Tol.crt {ns : List Str} {S : Str → List Int} {H : Hp} {T : Addr} (few : ns.length ≤ 30) (h : Tol ns S H (.ref T)) : ∃ w c, H T = some (.tup [.str w, c]) ∧ Crt ns S H w c true ∧ ¬ Feas ns S := by
  cases h with
  | empty _ x n eT =>
    have := Crt.empty (ns := ns) (S := S) (H := H) x
    rw [decide_eq_true (fe_some n)] at this
    exact ⟨_, _, eT, this, empty_bare n⟩
  | crowd _ r c n eT er cr gr =>
    have lc := List.Nodup.length_le_of_subset cr.2.1 fun x hx => cr.1 x hx
    exact ⟨_, _, eT, .crowd r c true er (by omega) ⟨fun _ => cr, fun _ => rfl⟩, crowd_bare cr⟩
section
variable {P : Program} {w : World} {K : PySem.W.Frag} {mg : Str → Option Value} {base : Heap}
abbrev sCon : Stmt := topS 45
abbrev nCon : List Str := ["_law_certificate", "_law_layer"]
theorem scCon : FnScope nCon ["_law_certificate"] (defScope sCon) := ⟨rfl, rfl, rfl, by decide +kernel, rfl, by decide +kernel, by decide +kernel⟩
def spCon : Sp := fun vs H Q _ => ∃ (T : Addr) (w : Str) (c : V), vs = [.ref T] ∧ H T = some (.tup [.str w, c]) ∧ Cn H w c ∧
  ∀ (H' : Hp) (c' : V), Same H H' → Dup H' w c c' → Q c' H'
theorem ok_Con {f  : Addr} {fd  : FuncData} (F : Fun K "_law_content" "_law_content" sCon f fd) (B : Bt mg) :
    FnOk P w K mg base CX0 1 f fd ["_law_certificate"] spCon := by
  refine F.ok scCon (fun vs H Q E h => ?_) (fun cdv A outer s H vs Q E hr h => ?_)
  · obtain ⟨T, w, c, rfl, _⟩ := h
    rfl
  · obtain ⟨T, w, c, rfl, eT, cn, q⟩ := h
    have hu := hu_of hr
    have nd := scCon.nd
    refine ⟨_, pss_cons (ps_if (pt_cmpR op_eq (pe_ix ix_tup (pv 0) pe_int (fun _ _ => rfl)) pe_str rfl)
        (pss_one (ps_ret (pe_ix ix_tup (pv 0) pe_int (fun _ _ => rfl))))
        pss_nil)
      (pss_cons (ps_if (pt_cmpR op_eq (pe_ix ix_tup (pv 0) pe_int (fun _ _ => rfl)) pe_str rfl)
        (pss_one (ps_ret (pe_lc (own := [("_law_layer", 1)]) (g := gName 1) (tt := tYes)  rfl nd (pi_list (pe_ix ix_tup (pv 0) pe_int (fun _ _ => rfl))) (blkOk_by (N := nCon) (sc := defScope sCon) (by decide +kernel)) (fun _ _ _ _ _ => pg_name (i := 1) nd rfl (.inl rfl)) (fun _ _ _ _ _ => pts_nil)
              (fun _ _ _ _ _ => (pe_callTy (r := rLst K) call_list_of (by rfl) B.list PyProof.Rows.boot_list (pa_cons (pv 1) pa_nil))))))
        pss_nil)
      (pss_one (ps_ret (pe_callTy call_list_of (by rfl) B.list PyProof.Rows.boot_list (pa_cons (pe_ix ix_tup (pv 0) pe_int (fun _ _ => rfl)) pa_nil))))), ?_⟩
    refine ⟨_, rfl, T, _, _, .str w, rfl, rfl, .inl (.inl eT), atI_nat (j := 0) rfl, rfl, _, rfl, ?_⟩
    cases cn with
    | empty x => exact iteT ⟨_, rfl, T, _, _, .str x, rfl, rfl, .inl (.inl eT), atI_nat (j := 1) rfl, q _ _ (fun _ _ e => e) (.empty x)⟩
    | crowd l cs e few =>
      refine iteF ⟨_, rfl, T, _, _, .str "crowd", rfl, rfl, .inl (.inl eT), atI_nat (j := 0) rfl, rfl, _, rfl, iteF ?_⟩
      exact ⟨_, rfl, T, _, _, .ref l, rfl, rfl, .inl (.inl eT), atI_nat (j := 1) rfl, l, _, rfl, .inl (sl_map e), fun Y nY => q _ _ (same_new nY) (.crowd l Y cs (same_new nY _ _ e) upd_same few)⟩
    | layers l as e i few =>
      refine iteF ⟨_, rfl, T, _, _, .str "layers", rfl, rfl, .inl (.inl eT), atI_nat (j := 0) rfl, rfl, _, rfl, iteT ?_⟩
      refine ⟨_, rfl, T, _, _, .ref l, rfl, rfl, .inl (.inl eT), atI_nat (j := 1) rfl, l, rfl, ⟨_, sl_map e⟩, fun Z nZ => lc_list (xs := as.map fun a => V.ref a.1) (fun j H' => Same H H' ∧ ∃ bs : List Lay, H' Z = some (.lst (bs.map fun a => V.ref a.1)) ∧ (∀ a ∈ bs, H' a.1 = some (.lst (a.2.map V.int)) ∧ a.1 ≠ Z) ∧ bs.map (·.2) = (as.take j).map (·.2)) ⟨same_new nZ, [], upd_same, (fun _ h => nomatch h), rfl⟩ (fun j H' _ h => sl_map (h.1 _ _ e)) ?_ ?_⟩
      · rintro j x0 H1 hx ⟨s1, bs, eZ, ib, cb⟩
        rw [List.getElem?_map] at hx
        obtain ⟨a, ha, rfl⟩ := Option.map_eq_some_iff.mp hx
        have am := List.mem_of_getElem? ha
        have hj := (List.getElem?_eq_some_iff.mp ha).1
        have lb : bs.length = j := by have := congrArg List.length cb; rw [List.length_map, List.length_map, List.length_take] at this; omega
        refine ⟨rfl, _, rfl, a.1, _, rfl, .inl (sl_map (s1 _ _ (i a am))), fun Y nY => ?_⟩
        have sY := same_new (o := HO.lst (a.2.map V.int)) nY
        have YZ : Y ≠ Z := fun z => by rw [z, eZ] at nY; cases nY
        refine ⟨_, sY _ _ eZ, by rw [List.length_map]; exact small1000 (by omega), same_at (s1.trans sY) nZ, bs ++ [(Y, a.2)], by rw [upd_same, List.map_append] <;> rfl, fun d hd => ?_, by rw [take_snoc ha, List.map_append, List.map_append, cb] <;> rfl⟩
        rcases List.mem_append.mp hd with h | h
        · exact ⟨by rw [upd_ne (ib d h).2]; exact sY _ _ (ib d h).1, (ib d h).2⟩
        · rw [List.mem_singleton.mp h]; exact ⟨by rw [upd_ne YZ]; exact upd_same, YZ⟩
      · rintro H1 ⟨s1, bs, eZ, ib, cb⟩
        rw [List.length_map, List.take_length] at cb
        exact q _ _ s1 (.layers l Z as bs (s1 _ _ e) (fun a ha => s1 _ _ (i a ha)) eZ (fun a ha => (ib a ha).1) cb)
    | other w l xs h1 h2 h3 e fl =>
      refine ite_both (fun z => absurd (V.str.inj (of_decide_eq_true z)) h1) fun _ => ⟨_, rfl, T, _, _, .str w, rfl, rfl, .inl (.inl eT), atI_nat (j := 0) rfl, rfl, _, rfl, ite_both (fun z => absurd (V.str.inj (of_decide_eq_true z)) h3) fun _ => ?_⟩
      exact ⟨_, rfl, T, _, _, .ref l, rfl, rfl, .inl (.inl eT), atI_nat (j := 1) rfl, l, _, rfl, .inl (.inl (.inl e)), fun Y nY => q _ _ (same_new nY) (.other w l Y xs h1 h2 h3 (same_new nY _ _ e) upd_same fl)⟩
abbrev sCfy : Stmt := topS 43
abbrev nCfy : List Str := ["_law_scope_here", "_law_sides_here", "_law_told", "_law_name"]
theorem scCfy : FnScope nCfy ["_law_scope_here", "_law_sides_here", "_law_told"] (defScope sCfy) := ⟨rfl, rfl, rfl, by decide +kernel, rfl, by decide +kernel, by decide +kernel⟩
def spCfy : Sp := fun vs H Q _ => ∃ (sc b T : Addr) (ns : List Str) (L : List Ent) (S : Str → List Int), vs = [.ref sc, .ref b, .ref T] ∧ H sc = some (.lst (ns.map V.str)) ∧ ns.length ≤ 30 ∧ Bu H b L ∧ Fit L ns S ∧ Sds ns S ∧ Tol ns S H (.ref T) ∧
  ∀ H', Same H H' → Q (.bl true) H'
theorem ok_Cfy {f f0 : Addr} {fd fd0 : FuncData} (F : Fun K "_law_certifies" "_law_certifies" sCfy f fd) (B : Bt mg) (zstr : mg "str" = none) (ztuple : mg "tuple" = none) (CRds : Call P w K mg base 1 "_law_reads" f0 fd0 ["_law_scope_here", "_law_sides_here", "_law_certificate"] spRds) :
    FnOk P w K mg base CX0 2 f fd ["_law_scope_here", "_law_sides_here", "_law_told"] spCfy := by
  refine F.ok scCfy (fun vs H Q E h => ?_) (fun cdv A outer s H vs Q E hr h => ?_)
  · obtain ⟨sc, b, T, ns, L, S, rfl, _⟩ := h
    rfl
  · obtain ⟨sc, b, T, ns, L, S, rfl, es, few, bx, fit, sd, tol, q⟩ := h
    have hu := hu_of hr
    have nd := scCfy.nd
    refine ⟨_, pss_cons (ps_if (PW.pt (pw_or (pt_not (pt_val (pe_callB call_isi (by rfl) B.isi PyProof.Rows.boot_isinstance (pa_cons (pv 2) (pa_cons (pe_bltn (by rfl) ztuple PyProof.Rows.boot_tuple (v := .ty "tuple") rfl) pa_nil))))) (pw_or (pt_cmpR op_ne (pe_callB call_len_seq (by rfl) B.len PySem.boot_len (pa_cons (pv 2) pa_nil)) pe_int rfl) (pw_or1 (pt_not (pt_val (pe_callB call_isi (by rfl) B.isi PyProof.Rows.boot_isinstance (pa_cons (pe_ix ix_tup (pv 2) pe_int (fun _ _ => rfl)) (pa_cons (pe_bltn (by rfl) zstr PyProof.Rows.boot_str (v := .ty "str") rfl) pa_nil)))))))))
        (pss_one (ps_ret pe_bl))
        pss_nil)
      (pss_cons (ps_for PassesOwn.never rfl (pi_list (pv 0)) (pg_name (i := 3) nd rfl (.inl rfl))
        (pss_one (ps_if (pt_cmpR op_eq (pe_callB call_len_seq (by rfl) B.len PySem.boot_len (pa_cons (pe_dget hu (pv 1) (pv 3) (fun _ _ => rfl)) pa_nil)) pe_int rfl)
            (pss_one (ps_ret (L2.pe_and (pe_cmpR op_eq (pe_ix ix_tup (pv 2) pe_int (fun _ _ => rfl)) pe_str rfl) (L2.pe_and (pe_callB call_isi (by rfl) B.isi PyProof.Rows.boot_isinstance (pa_cons (pe_ix ix_tup (pv 2) pe_int (fun _ _ => rfl)) (pa_cons (pe_bltn (by rfl) zstr PyProof.Rows.boot_str (v := .ty "str") rfl) pa_nil))) (pe_one (pe_cmpR op_eq (pe_ix ix_tup (pv 2) pe_int (fun _ _ => rfl)) (pv 3) rfl))))))
            pss_nil)))
      (pss_cons (ps_if (PW.pt (pw_or (pt_cmpR op_ne (pe_ix ix_tup (pv 2) pe_int (fun _ _ => rfl)) pe_str rfl) (pw_or1 (pt_not (pt_val (pe_callB call_isi (by rfl) B.isi PyProof.Rows.boot_isinstance (pa_cons (pe_ix ix_tup (pv 2) pe_int (fun _ _ => rfl)) (pa_cons (pe_bltn (by rfl) B.list PyProof.Rows.boot_list (v := .ty "list") rfl) pa_nil))))))))
        (pss_one (ps_ret pe_bl))
        pss_nil)
      (pss_cons (ps_for PassesOwn.never rfl (pi_list (pe_ix ix_tup (pv 2) pe_int (fun _ _ => rfl))) (pg_name (i := 3) nd rfl (.inl rfl))
        (pss_one (ps_if (pt_not (pt_val (pe_callB call_isi (by rfl) B.isi PyProof.Rows.boot_isinstance (pa_cons (pv 3) (pa_cons (pe_bltn (by rfl) zstr PyProof.Rows.boot_str (v := .ty "str") rfl) pa_nil)))))
            (pss_one (ps_ret pe_bl))
            pss_nil)))
      (pss_one (ps_ret (pe_call CRds.ok (hr.mono (by decide)) (by rfl) CRds.at_ CRds.kp CRds.bd .nil pass0 (pa_cons (pv 0) (pa_cons (pv 1) (pa_cons (pv 2) pa_nil))))))))), ?_⟩
    obtain ⟨w, c, eT, cr, nf⟩ := tol.crt few
    refine ⟨_, rfl, .ref T, .ty "tuple", .type "tuple", .type "tuple", true, rfl, .ty _, .base (.tup eT), kit_ty (by decide +kernel), true, rfl, iteF ?_⟩
    refine ⟨_, rfl, T, _, rfl, .inr (.inl (.inl eT)), rfl, _, rfl, ite_both (fun z => absurd z (by simp)) fun _ => ?_⟩
    refine ⟨_, rfl, T, _, _, .str w, rfl, rfl, .inl (.inl eT), atI_nat (j := 0) rfl, .str w, .ty "str", .type "str", .type "str", true, rfl, .ty _, .base (.str _), kit_ty (by decide +kernel), true, rfl, iteF ?_⟩
    refine ⟨_, rfl, sc, rfl, ⟨_, sl_map es⟩, for_list (xs := ns.map V.str) (fun i σ H' => H' = H ∧ (∃ y, σ = [some (.ref sc), some (.ref b), some (.ref T), y]) ∧ ∀ x ∈ ns.take i, S x ≠ []) ⟨rfl, ⟨none, rfl⟩, (fun _ h => nomatch h)⟩ (fun i σ H' _ h => by obtain ⟨rfl, _⟩ := h; exact sl_map es) ?_ ?_⟩
    · rintro i x σ H' hx ⟨rfl, ⟨y, rfl⟩, hn⟩
      rw [List.getElem?_map] at hx
      obtain ⟨x, hv, rfl⟩ := Option.map_eq_some_iff.mp hx
      have xm := List.mem_of_getElem? hv
      obtain ⟨a, ga, ea⟩ := Fit.get bx.toBx fit xm
      refine ⟨_, rfl, _, rfl, b, .ref a, rfl, ga, a, _, rfl, .inl (sl_map ea), rfl, _, rfl, ite_both (fun cc => ?_) fun cc => ?_⟩
      · have := V.int.inj (of_decide_eq_true cc)
        rw [List.length_map] at this
        have e := fe_at hv (List.length_eq_zero_iff.mp (show (S x).length = 0 by omega)) hn
        cases tol with
        | crowd _ r c n eT' er cr gr => rw [n] at e; cases e
        | empty _ x' n eT' =>
          rw [n] at e
          obtain rfl := Option.some.inj e
          refine ⟨_, rfl, T, _, _, .str "empty", rfl, rfl, .inl (.inl eT'), atI_nat (j := 0) rfl, rfl, _, rfl, iteT ?_⟩
          refine ⟨_, rfl, T, _, _, .str x', rfl, rfl, .inl (.inl eT'), atI_nat (j := 1) rfl, .str x', .ty "str", .type "str", .type "str", true, rfl, .ty _, .base (.str _), kit_ty (by decide +kernel), _, rfl, iteT ?_⟩
          refine ⟨_, rfl, T, _, _, .str x', rfl, rfl, .inl (.inl eT'), atI_nat (j := 1) rfl, _, rfl, rfl, ?_⟩
          rw [decide_eq_true rfl]
          exact q _ fun _ _ e => e
      · refine ⟨rfl, ⟨_, rfl⟩, fun y hy => ?_⟩
        rw [take_snoc hv] at hy
        rcases List.mem_append.mp hy with z | z
        · exact hn y z
        · intro e
          rw [List.mem_singleton.mp z] at e
          exact of_decide_eq_false cc (by rw [e] <;> rfl)
    rintro σ H' ⟨rfl, ⟨y, rfl⟩, hn⟩
    rw [List.length_map, List.take_length] at hn
    cases tol with
    | empty _ x n eT' => exact absurd (fe_some n).2 (hn x (fe_some n).1)
    | crowd _ r c n eT' er cr' gr =>
      refine ⟨_, rfl, T, _, _, .str "crowd", rfl, rfl, .inl (.inl eT'), atI_nat (j := 0) rfl, rfl, _, rfl, ite_both (fun z => absurd z (by simp)) fun _ => ?_⟩
      refine ⟨_, rfl, T, _, _, .ref r, rfl, rfl, .inl (.inl eT'), atI_nat (j := 1) rfl, .ref r, .ty "list", .type "list", .type "list", true, rfl, .ty _, .base (.lst er), kit_ty (by decide +kernel), true, rfl, iteF ?_⟩
      refine ⟨_, rfl, T, _, _, .ref r, rfl, rfl, .inl (.inl eT'), atI_nat (j := 1) rfl, r, rfl, ⟨_, sl_map er⟩, for_list (xs := c.map V.str) (fun i σ H1 => H1 = H' ∧ ∃ y, σ = [some (.ref sc), some (.ref b), some (.ref T), y]) ⟨rfl, _, rfl⟩ (fun i σ H1 _ h => by obtain ⟨rfl, _⟩ := h; exact sl_map er) ?_ ?_⟩
      · rintro i x σ H1 hx ⟨rfl, y, rfl⟩
        rw [List.getElem?_map] at hx
        obtain ⟨x, hv, rfl⟩ := Option.map_eq_some_iff.mp hx
        exact ⟨_, rfl, .str x, .ty "str", .type "str", .type "str", true, rfl, .ty _, .base (.str _), kit_ty (by decide +kernel), true, rfl, iteF ⟨rfl, _, rfl⟩⟩
      rintro σ H1 ⟨rfl, y, rfl⟩
      exact ⟨_, rfl, _, rfl, _, rfl, sc, b, T, ns, L, S, w, _, true, rfl, es, bx, fit, sd, eT, cr, q⟩
abbrev sTri : Stmt := topS 44
abbrev nTri : List Str := ["_law_scope_here", "_law_walked", "_law_sides_here", "_law_told"]
theorem scTri : FnScope nTri ["_law_scope_here", "_law_walked", "_law_sides_here", "_law_told"] (defScope sTri) := ⟨rfl, rfl, rfl, by decide +kernel, rfl, by decide +kernel, by decide +kernel⟩
def spTri : Sp := fun vs H Q _ => ∃ (sc wk b : Addr) (v : V) (ns ws : List Str) (L : List Ent) (S : Str → List Int) (k : Nat), vs = [.ref sc, .ref wk, .ref b, v] ∧ H sc = some (.lst (ns.map V.str)) ∧ H wk = some (.lst (ws.map V.str)) ∧ ws.Perm ns ∧ ns.Nodup ∧ ns.length ≤ 30 ∧ Bu H b L ∧ Fit L ns S ∧ Sds ns S ∧ (∀ x ∈ ns, (S x).length ≤ k) ∧ 1 ≤ k ∧ k ≤ 30 ∧ k ^ ns.length ≤ 65536 ∧ Tol ns S H v ∧
  ∀ H', Same H H' → Q (.bl true) H'
theorem ok_Tri {f f0 f1 : Addr} {fd fd0 fd1 : FuncData} (F : Fun K "_law_told_right" "_law_told_right" sTri f fd) (B : Bt mg) (CCfy : Call P w K mg base 2 "_law_certifies" f0 fd0 ["_law_scope_here", "_law_sides_here", "_law_told"] spCfy) (CUr : Call P w K mg base 1 "_law_unlike_rows" f1 fd1 ["_law_walked", "_law_sides_here"] spUr) :
    FnOk P w K mg base CX0 3 f fd ["_law_scope_here", "_law_walked", "_law_sides_here", "_law_told"] spTri := by
  refine F.ok scTri (fun vs H Q E h => ?_) (fun cdv A outer s H vs Q E hr h => ?_)
  · obtain ⟨sc, wk, b, v, ns, ws, L, S, k, rfl, _⟩ := h
    rfl
  · obtain ⟨sc, wk, b, v, ns, ws, L, S, k, rfl, es, ew, pm, nn, few, bx, fit, sd, kS, k1, k30, kb, tol, q⟩ := h
    have hu := hu_of hr
    have nd := scTri.nd
    refine ⟨_, pss_cons (ps_if (pt_cmpR op_gt (pe_callB call_len_seq (by rfl) B.len PySem.boot_len (pa_cons (pe_call CUr.ok (hr.mono (by decide)) (by rfl) CUr.at_ CUr.kp CUr.bd .nil pass0 (pa_cons (pv 1) (pa_cons (pv 2) pa_nil))) pa_nil)) pe_int rfl)
        (pss_one (ps_ret (pe_cmp (pc_isN (pv 3)) rfl)))
        pss_nil)
      (pss_one (ps_ret (pe_call CCfy.ok (hr.mono (by decide)) (by rfl) CCfy.at_ CCfy.kp CCfy.bd .nil pass0 (pa_cons (pv 0) (pa_cons (pv 2) (pa_cons (pv 3) pa_nil)))))), ?_⟩
    have lw := pm.length_eq
    have wn := pm.nodup_iff.mpr nn
    have iff : ∀ {rs : List (Addr × List Int)}, cont rs = rowsU S ws → (0 < rs.length ↔ Feas ns S) := fun {rs} h => by
      have lc : (cont rs).length = rs.length := List.length_map _
      constructor
      · intro z
        obtain ⟨r, hr⟩ : ∃ r, r ∈ cont rs := by
          cases hc : cont rs with
          | nil => rw [hc] at lc; have : ([] : List (List Int)).length = 0 := rfl; omega
          | cons a b => exact ⟨a, List.mem_cons_self⟩
        rw [h] at hr
        obtain ⟨g, G, _⟩ := (rowsU_iff wn r).mp hr
        exact ⟨g, fun x hx => G.mem x (pm.mem_iff.mpr hx), fun x hx y hy e => G.inj x (pm.mem_iff.mpr hx) y (pm.mem_iff.mpr hy) e⟩
      · rintro ⟨g, G⟩
        have : ws.map g ∈ rowsU S ws := (rowsU_iff wn _).mpr ⟨g, ⟨fun x hx => G.mem x (pm.mem_iff.mp hx), fun x hx y hy e => G.inj x (pm.mem_iff.mp hx) y (pm.mem_iff.mp hy) e⟩, rfl⟩
        rw [← h] at this
        have := List.length_pos_of_mem this
        omega
    refine ⟨_, rfl, _, rfl, wk, b, ws, L, S, k, rfl, ew, bx, fun x hx => fit x (pm.mem_iff.mp hx), wn, by omega, fun x hx => kS x (pm.mem_iff.mp hx), k1, k30, by rw [lw]; exact kb, fun H1 l rs s1 nl Rl crs => ?_⟩
    refine ⟨l, _, rfl, .inl (sl_map Rl.lst), _, _, rfl, rfl, _, rfl, ite_both (fun c => ?_) fun c => ?_⟩
    · have f : Feas ns S := (iff crs).mp (by have := of_decide_eq_true c; rw [List.length_map] at this; omega)
      cases tol with
      | none _ => exact ⟨_, rfl, q _ s1⟩
      | empty T x n eT => exact absurd f (empty_bare n)
      | crowd T r c n eT er cr gr => exact absurd f (crowd_bare cr)
    · have nf : ¬ Feas ns S := fun f => of_decide_eq_false c (by have := (iff crs).mpr f; rw [List.length_map]; omega)
      cases tol with
      | none f => exact absurd f nf
      | empty T x n eT => exact ⟨_, rfl, _, rfl, _, rfl, sc, b, T, ns, L, S, rfl, s1 _ _ es, few, bx.same' s1, fit, sd, (Tol.empty T x n eT).same s1, fun H' s' => q _ (s1.trans s')⟩
      | crowd T r c n eT er cr gr => exact ⟨_, rfl, _, rfl, _, rfl, sc, b, T, ns, L, S, rfl, s1 _ _ es, few, bx.same' s1, fit, sd, (Tol.crowd T r c n eT er cr gr).same s1, fun H' s' => q _ (s1.trans s')⟩
end
end K57
set_option Elab.async false
set_option linter.all false
set_option maxRecDepth 100000
set_option maxHeartbeats 4000000
namespace K57
open PySem PySem.Spec PyProof.Rows L2 Cs CsX
abbrev SL := Addr × List Str
abbrev RL := Addr × List Addr
abbrev Tr := Addr × Str × V
theorem str_ne {H : Hp} {s a : Addr} {xs : List Str} (st : Strm H s) (h : H a = some (.lst (xs.map V.str))) : a ≠ s := fun z => by
  obtain ⟨x, y, w, e⟩ := st
  rw [z, e] at h
  have h2 := HO.lst.inj (Option.some.inj h)
  cases xs with
  | nil => cases h2
  | cons u t => rw [List.map_cons] at h2; exact nomatch (List.cons.inj h2).1
theorem ref_ne {H : Hp} {s a : Addr} {xs : List Addr} (st : Strm H s) (h : H a = some (.lst (xs.map V.ref))) : a ≠ s := fun z => by
  obtain ⟨x, y, w, e⟩ := st
  rw [z, e] at h
  have h2 := HO.lst.inj (Option.some.inj h)
  cases xs with
  | nil => cases h2
  | cons u t => rw [List.map_cons] at h2; exact nomatch (List.cons.inj h2).1
/-- lists of names in the making, while a stream is drawn from -/
structure Fz (H H' : Hp) (s b sc pl cr : Addr) (ns c : List Str) (ps : List Int) (es : List SL) (rs : List RL) : Prop where
  k : Keep s H H'
  st : Strm H' s
  esc : H' sc = some (.lst (ns.map V.str))
  epl : H' pl = some (.lst (ps.map V.int))
  ecr : H' cr = some (.lst (c.map V.str))
  al : ∀ e ∈ es, H' e.1 = some (.lst (e.2.map V.str))
  rl : ∀ r ∈ rs, H' r.1 = some (.lst (r.2.map V.ref))
section
variable {H H1 H2 : Hp} {s b sc pl cr q a : Addr} {ns c x : List Str} {ps : List Int} {es : List SL} {rs : List RL} {o : HO} {v : List Addr}
theorem Fz.new (g : Fz H H1 s b sc pl cr ns c ps es rs) (n : H1 q = none) : Fz H (upd H1 q o) s b sc pl cr ns c ps es rs := by
  have sn := same_new (o := o) n
  exact ⟨g.k.trans (Keep.same sn), g.st.upd (fun z => g.st.some (z ▸ n)), sn _ _ g.esc, sn _ _ g.epl, sn _ _ g.ecr, fun e he => sn _ _ (g.al e he), fun r hr => sn _ _ (g.rl r hr)⟩
theorem Fz.add (g : Fz H H1 s b sc pl cr ns c ps es rs) (h : H1 a = some (.lst (x.map V.str))) : Fz H H1 s b sc pl cr ns c ps (es ++ [(a, x)]) rs :=
  ⟨g.k, g.st, g.esc, g.epl, g.ecr, fun e he => by
    rcases List.mem_append.mp he with h2 | h2
    · exact g.al e h2
    · rw [List.mem_singleton.mp h2]; exact h, g.rl⟩
theorem Fz.addr (g : Fz H H1 s b sc pl cr ns c ps es rs) (h : H1 a = some (.lst (v.map V.ref))) : Fz H H1 s b sc pl cr ns c ps es (rs ++ [(a, v)]) :=
  ⟨g.k, g.st, g.esc, g.epl, g.ecr, g.al, fun e he => by
    rcases List.mem_append.mp he with h2 | h2
    · exact g.rl e h2
    · rw [List.mem_singleton.mp h2]; exact h⟩
theorem Fz.kp (g : Fz H H1 s b sc pl cr ns c ps es rs) (pls : pl ≠ s) (k : Keep s H1 H2) (st : Strm H2 s) : Fz H H2 s b sc pl cr ns c ps es rs :=
  ⟨g.k.trans k, st, k _ _ (str_ne g.st g.esc) g.esc, k _ _ pls g.epl, k _ _ (str_ne g.st g.ecr) g.ecr, fun e he => k _ _ (str_ne g.st (g.al e he)) (g.al e he), fun r hr => k _ _ (ref_ne g.st (g.rl r hr)) (g.rl r hr)⟩
end
/-- certificates in the making -/
structure Pz (H H' : Hp) (ts : List Tr) (rs : List RL) : Prop where
  s : Same H H'
  al : ∀ t ∈ ts, H' t.1 = some (.tup [.str t.2.1, t.2.2]) ∧ Cn H' t.2.1 t.2.2
  rl : ∀ r ∈ rs, H' r.1 = some (.lst (r.2.map V.ref))
section
variable {H H1 : Hp} {q T a : Addr} {w : Str} {c : V} {ts : List Tr} {rs : List RL} {o : HO} {v : List Addr}
theorem Pz.new (g : Pz H H1 ts rs) (n : H1 q = none) : Pz H (upd H1 q o) ts rs := by
  have sn := same_new (o := o) n
  exact ⟨g.s.trans sn, fun t ht => ⟨sn _ _ (g.al t ht).1, (g.al t ht).2.same sn⟩, fun r hr => sn _ _ (g.rl r hr)⟩
theorem Pz.add (g : Pz H H1 ts rs) (h : H1 T = some (.tup [.str w, c])) (cn : Cn H1 w c) : Pz H H1 (ts ++ [(T, w, c)]) rs :=
  ⟨g.s, fun t ht => by
    rcases List.mem_append.mp ht with h2 | h2
    · exact g.al t h2
    · rw [List.mem_singleton.mp h2]; exact ⟨h, cn⟩, g.rl⟩
theorem Pz.addr (g : Pz H H1 ts rs) (h : H1 a = some (.lst (v.map V.ref))) : Pz H H1 ts (rs ++ [(a, v)]) :=
  ⟨g.s, g.al, fun e he => by
    rcases List.mem_append.mp he with h2 | h2
    · exact g.rl e h2
    · rw [List.mem_singleton.mp h2]; exact h⟩
end
structure TrL (H : Hp) (r : Addr) (ts : List Tr) : Prop where
  lst : H r = some (.lst (ts.map fun t => V.ref t.1))
  al : ∀ t ∈ ts, H t.1 = some (.tup [.str t.2.1, t.2.2]) ∧ Cn H t.2.1 t.2.2
theorem TrL.same {H H' : Hp} {r : Addr} {ts : List Tr} (h : TrL H r ts) (s : Same H H') : TrL H' r ts := ⟨s _ _ h.lst, fun t ht => ⟨s _ _ (h.al t ht).1, (h.al t ht).2.same s⟩⟩
theorem cut1 (c : List Str) (j : Nat) : ∃ us : List Str, cutV (c.map V.str) (some (j : Int)) (some ((j : Int) + 1)) = us.map V.str ∧ us.length ≤ 1 := by
  refine ⟨(c.drop (min j (c.map V.str).length)).take (min (j + 1) (c.map V.str).length - min j (c.map V.str).length), ?_, ?_⟩
  · unfold cutV
    rw [show ((j : Int) + 1) = ((j + 1 : Nat) : Int) by omega, HT.sIx_nat, HT.sIx_nat, List.map_take, List.map_drop]
  · rw [List.length_take]; omega
section
variable {P : Program} {w : World} {K : PySem.W.Frag} {mg : Str → Option Value} {base : Heap}
abbrev sFre : Stmt := topS 46
abbrev nFre : List Str := ["_law_stream_here", "_law_scope_here", "_law_sides_here", "_law_pool_here", "_law_crowd", "_law_strange", "_law_drawn", "_law_at", "_law_crowds", "_law_free_here", "_law_name", "_law_names_here"]
theorem scFre : FnScope nFre ["_law_stream_here", "_law_scope_here", "_law_sides_here", "_law_pool_here", "_law_crowd"] (defScope sFre) := ⟨rfl, rfl, rfl, by decide +kernel, rfl, by decide +kernel, by decide +kernel⟩
def spFre : Sp := fun vs H Q _ => ∃ (s sc b pl cr : Addr) (ns c : List Str) (L : List Ent) (ps : List Int), vs = [.ref s, .ref sc, .ref b, .ref pl, .ref cr] ∧ Strm H s ∧ H sc = some (.lst (ns.map V.str)) ∧ 1 ≤ ns.length ∧ ns.length ≤ 16 ∧ Bu H b L ∧ H pl = some (.lst (ps.map V.int)) ∧ pl ≠ s ∧ 1 ≤ ps.length ∧ ps.length ≤ 900 ∧ H cr = some (.lst (c.map V.str)) ∧ c.length ≤ 16 ∧
  ∀ (H' : Hp) (r : Addr) (ts : List Tr), Keep s H H' → Strm H' s → TrL H' r ts → ts.length ≤ 60 → Q (.ref r) H'
theorem ok_Fre {f f0 f1 f2 : Addr} {fd fd0 fd1 fd2 : FuncData} (F : Fun K "_law_free" "_law_free" sFre f fd) (B : Bt mg) (D : Call P w K mg base 1 "_law_next" f0 fd0 ["_law_stream_here", "_law_size"] spDraw) (CSf : Call P w K mg base 2 "_law_shuffled" f1 fd1 ["_law_stream_here", "_law_things"] spSf) (CPtg : Call P w K mg base 2 "_law_part" f2 fd2 ["_law_stream_here", "_law_side"] spPtg) :
    FnOk P w K mg base CX0 3 f fd ["_law_stream_here", "_law_scope_here", "_law_sides_here", "_law_pool_here", "_law_crowd"] spFre := by
  refine F.ok scFre (fun vs H Q E h => ?_) (fun cdv A outer s H vs Q E hr h => ?_)
  · obtain ⟨s, sc, b, pl, cr, ns, c, L, ps, rfl, _⟩ := h
    rfl
  · obtain ⟨s, sc, b, pl, cr, ns, c, L, ps, rfl, hs, es, n1, n16, bx, ep, pls, p1, p900, ec, c16, q⟩ := h
    have hu := hu_of hr
    have nd := scFre.nd
    refine ⟨_, pss_cons (ps_set (i := 5) nd rfl (.inl rfl) (pe_op op_cat (pe_lock (pe_lc (own := [("_law_name", 10)]) (g := gName 10) (tt := _) (te := tVar 10) rfl nd (pi_keys (pv 2)) (blkOk_by (N := nFre) (sc := defScope sFre) (by decide +kernel)) (fun _ _ _ _ _ => pg_name (i := 10) nd rfl (.inl rfl)) (fun _ _ _ _ _ => pts_one (pt_cmpR (r := rIn K true) op_notIn_seq (pv 10) (pv 1) rfl))
        (fun _ _ _ _ _ => (pv 10)))) (pe_lst (pa_cons pe_str pa_nil))))
      (pss_cons (ps_set (i := 6) nd rfl (.inl rfl) (pe_ix ix_list (pv 1) (pe_call D.ok (hr.mono (by decide)) (by rfl) D.at_ D.kp D.bd .nil pass0 (pa_cons (pv 0) (pa_cons (pe_callB call_len_seq (by rfl) B.len PySem.boot_len (pa_cons (pv 1) pa_nil)) pa_nil))) (fun _ _ => rfl)))
      (pss_cons (ps_set (i := 7) nd rfl (.inl rfl) (pe_call D.ok (hr.mono (by decide)) (by rfl) D.at_ D.kp D.bd .nil pass0 (pa_cons (pv 0) (pa_cons (pe_op op_add (pe_callB call_len_seq (by rfl) B.len PySem.boot_len (pa_cons (pv 4) pa_nil)) pe_int) pa_nil))))
      (pss_cons (ps_set (i := 8) nd rfl (.inl rfl) (pe_lst (pa_cons (pv 4) (pa_cons (pe_op op_cat (pe_slice sl_list (pv 4) po_none (po_some (pv 7))) (pe_slice sl_list (pv 4) (po_some (pe_op op_add (pv 7) pe_int)) po_none)) (pa_cons (pe_op op_cat (pe_op op_cat (pe_slice sl_list (pv 4) po_none (po_some (pv 7))) (pe_lst (pa_cons (pv 6) pa_nil))) (pe_slice sl_list (pv 4) (po_some (pv 7)) po_none)) (pa_cons (pe_op op_cat (pv 4) (pe_slice sl_list (pv 4) (po_some (pv 7)) (po_some (pe_op op_add (pv 7) pe_int)))) (pa_cons (pe_lst pa_nil) pa_nil)))))))
      (pss_cons (ps_set (i := 8) nd rfl (.inl rfl) (pe_op op_cat (pv 8) (pe_lst (pa_cons (pe_op op_cat (pe_op op_cat (pe_slice sl_list (pv 4) po_none (po_some (pv 7))) (pe_lst (pa_cons (pe_ix ix_list (pv 5) pe_int (fun _ _ => rfl)) pa_nil))) (pe_slice sl_list (pv 4) (po_some (pe_op op_add (pv 7) pe_int)) po_none)) (pa_cons (pe_op op_cat (pe_lst (pa_cons pe_str pa_nil)) (pv 4)) (pa_cons (pe_lst (pa_cons (pv 6) pa_nil)) (pa_cons (pe_lst (pa_cons (pv 6) (pa_cons (pv 6) pa_nil))) pa_nil)))))))
      (pss_cons (ps_set (i := 8) nd rfl (.inl rfl) (pe_op op_cat (pv 8) (pe_lst (pa_cons (pe_call CSf.ok (hr.mono (by decide)) (by rfl) CSf.at_ CSf.kp CSf.bd .nil pass0 (pa_cons (pv 0) (pa_cons (pv 1) pa_nil))) (pa_cons (pe_call CPtg.ok (hr.mono (by decide)) (by rfl) CPtg.at_ CPtg.kp CPtg.bd .nil pass0 (pa_cons (pv 0) (pa_cons (pv 1) pa_nil))) pa_nil)))))
      (pss_cons (ps_set (i := 9) nd rfl (.inl rfl) (pe_op op_cat (pe_lc (own := [("_law_names_here", 11)]) (g := gName 11) (tt := tYes)  rfl nd (pi_list (pv 8)) (blkOk_by (N := nFre) (sc := defScope sFre) (by decide +kernel)) (fun _ _ _ _ _ => pg_name (i := 11) nd rfl (.inl rfl)) (fun _ _ _ _ _ => pts_nil)
        (fun _ _ _ _ _ => (pe_tup (pa_cons pe_str (pa_cons (pv 11) pa_nil))))) (pe_lc (own := [("_law_name", 10)]) (g := gName 10) (tt := tYes)  rfl nd (pi_list (pv 1)) (blkOk_by (N := nFre) (sc := defScope sFre) (by decide +kernel)) (fun _ _ _ _ _ => pg_name (i := 10) nd rfl (.inl rfl)) (fun _ _ _ _ _ => pts_nil)
        (fun _ _ _ _ _ => (pe_tup (pa_cons pe_str (pa_cons (pv 10) pa_nil)))))))
      (pss_cons (ps_set (i := 9) nd rfl (.inl rfl) (pe_op op_cat (pv 9) (pe_lst (pa_cons (pe_tup (pa_cons pe_str (pa_cons (pe_ix ix_list (pv 5) pe_int (fun _ _ => rfl)) pa_nil))) (pa_cons (pe_tup (pa_cons pe_str (pa_cons pe_str pa_nil))) (pa_cons (pe_tup (pa_cons pe_str (pa_cons (pv 4) pa_nil))) (pa_cons (pe_tup (pa_cons pe_str (pa_cons (pe_lst pa_nil) pa_nil))) (pa_cons (pe_tup (pa_cons pe_str (pa_cons (pe_lst (pa_cons pe_int (pa_cons pe_int pa_nil))) pa_nil))) pa_nil))))))))
      (pss_cons (ps_set (i := 9) nd rfl (.inl rfl) (pe_op op_cat (pv 9) (pe_lst (pa_cons (pe_tup (pa_cons pe_str (pa_cons (pe_lst pa_nil) pa_nil))) (pa_cons (pe_tup (pa_cons pe_str (pa_cons (pe_lst (pa_cons pe_int pa_nil)) pa_nil))) (pa_cons (pe_tup (pa_cons pe_str (pa_cons (pe_lst pa_nil) pa_nil))) (pa_cons (pe_tup (pa_cons pe_str (pa_cons (pe_callTy call_list_of (by rfl) B.list PyProof.Rows.boot_list (pa_cons (pv 3) pa_nil)) pa_nil))) (pa_cons (pe_tup (pa_cons pe_str (pa_cons (pe_lst pa_nil) pa_nil))) pa_nil))))))))
      (pss_one (ps_ret (pe_op op_cat (pv 9) (pe_lst (pa_cons (pe_tup (pa_cons pe_str (pa_cons (pe_lst (pa_cons (pe_lst (pa_cons pe_int pa_nil)) (pa_cons (pe_lst (pa_cons (pe_ix ix_list (pv 3) pe_int (fun _ _ => rfl)) pa_nil)) pa_nil))) pa_nil))) (pa_cons (pe_tup (pa_cons pe_str (pa_cons (pe_lst (pa_cons (pe_lst pa_nil) pa_nil)) pa_nil))) pa_nil)))))))))))))), ?_⟩
    have fewL := bx.few
    -- the strange names
    refine ⟨b, _, bx.un, trivial, fun od => ?_⟩
    have sb : sc ≠ b := fun z => by have := bx.un; rw [← z, es] at this; cases this
    have es1 : (upd H b (.frz od (.dK (entK L)))) sc = some (.lst (ns.map V.str)) := by rw [upd_ne sb]; exact es
    refine ⟨.ref b, rfl, b, od, rfl, .inl ⟨entK L, upd_same, fun D nD => lc_it walk_keys (fun i H' => Same (upd H b (.frz od (.dK (entK L)))) H' ∧ ∃ zs : List Str, H' D = some (.lst (zs.map V.str)) ∧ zs.length ≤ i) ⟨same_new nD, [], upd_same, Nat.le_refl _⟩ (fun i H' _ h => h.1 _ _ upd_same) ?_ ?_⟩⟩
    · rintro i x Hz H' hi ⟨sm, zs, eD, lz⟩ ⟨rfl, k1, v1, hk, rfl⟩
      obtain ⟨e, he, rfl, rfl⟩ := keys_at hk
      have hi' := (List.getElem?_eq_some_iff.mp he).1
      refine ⟨rfl, _, rfl, _, rfl, sc, _, rfl, .inl (sl_map (sm _ _ es1)), rfl, flats_str _, ?_⟩
      rw [if_pos rfl, show inV (kV (Sum.inr e.1)) (ns.map V.str) = decide (e.1 ∈ ns) from in_strs _ _]
      refine ⟨_, rfl, ite_both (fun _ => ⟨_, rfl, _, eD, by rw [List.length_map]; exact small1000 (by omega), same_at sm nD, zs ++ [e.1], by rw [upd_same, List.map_append] <;> rfl, by rw [List.length_append]; exact Nat.succ_le_succ lz⟩) fun _ => ⟨sm, zs, eD, by omega⟩⟩
    rintro H' ⟨sm, zs, eD, lz⟩
    rw [entK_len] at lz
    have eF := sm _ _ (upd_same (H := H) (a := b) (o := HO.frz od (.dK (entK L))))
    refine ⟨eF, ?_⟩
    have nDb : D ≠ b := fun z => by rw [z, eF] at eD; cases eD
    have S0 : Same H (upd H' b (.dK (entK L))) := unlock bx.un sm
    have eD0 : (upd H' b (.dK (entK L))) D = some (.lst (zs.map V.str)) := by rw [upd_ne nDb]; exact eD
    generalize upd H' b (.dK (entK L)) = G0 at S0 eD0 ⊢
    clear eF eD nDb sm es1 nD
    have lzz : zs.length ≤ 40 := by omega
    have g : Fz H G0 s b sc pl cr ns c ps ([] ++ [(D, zs)]) [] := Fz.add ⟨Keep.same S0, by obtain ⟨x, y, w, e⟩ := hs; exact ⟨x, y, w, S0 _ _ e⟩, S0 _ _ es, S0 _ _ ep, S0 _ _ ec, (fun _ h => nomatch h), (fun _ h => nomatch h)⟩ eD0
    clear eD0 S0
    refine ⟨by show 1 ≤ sizeLine; decide, fun t1 nt1 => ?_⟩
    have g := (g.new (o := HO.lst ([V.str ("nobody" : Str)])) nt1).add (a := t1) (x := [("nobody" : Str)]) upd_same
    generalize upd G0 t1 (HO.lst ([V.str ("nobody" : Str)])) = G1 at g ⊢
    refine ⟨D, t1, _, _, rfl, rfl, (g.al _ (List.mem_append_left _ (List.mem_append_right _ (List.mem_singleton.mpr rfl)))), (g.al _ (List.mem_append_right _ (List.mem_singleton.mpr rfl))), by rw [List.length_map, List.length_map]; exact Nat.le_of_lt (small1000 (by simp only [List.length_append, List.length_take, List.length_drop, List.length_cons, List.length_nil]; omega)), fun t2 nt2 => ?_⟩
    rw [← List.map_append]
    have g := (g.new (o := HO.lst ((zs ++ [("nobody" : Str)]).map V.str)) nt2).add (a := t2) (x := zs ++ [("nobody" : Str)]) upd_same
    generalize upd G1 t2 (HO.lst ((zs ++ [("nobody" : Str)]).map V.str)) = G2 at g ⊢
    obtain ⟨x0, hx0⟩ : ∃ x0, (zs ++ [("nobody" : Str)])[0]? = some x0 := ⟨_, List.getElem?_eq_getElem (by rw [List.length_append]; exact Nat.succ_pos _)⟩
    have hx0v : ((zs ++ [("nobody" : Str)]).map V.str)[0]? = some (.str x0) := by rw [List.getElem?_map, hx0] <;> rfl
    refine ⟨_, rfl, _, rfl, _, rfl, sc, _, rfl, .inl (sl_map g.esc), s, _, rfl, g.st, by rw [List.length_map]; omega, by rw [List.length_map]; omega, fun Ha y oa sta y0 y1 => ?_⟩
    rw [List.length_map] at y1
    obtain ⟨d, rfl⟩ : ∃ d : Nat, y = (d : Int) := ⟨y.toNat, by omega⟩
    obtain ⟨x, hx⟩ : ∃ x, ns[d]? = some x := ⟨_, List.getElem?_eq_getElem (by omega)⟩
    have g := g.kp pls ((Keep.refl _ _).oth oa) sta
    refine ⟨sc, _, _, .str x, rfl, rfl, sl_map g.esc, atI_nat (j := d) (by rw [List.getElem?_map, hx] <;> rfl), ?_⟩
    refine ⟨_, rfl, _, rfl, cr, _, rfl, .inl (sl_map g.ecr), _, _, rfl, rfl, s, _, rfl, g.st, by rw [List.length_map]; omega, by rw [List.length_map]; omega, fun Hb y ob stb z0 z1 => ?_⟩
    rw [List.length_map] at z1
    obtain ⟨j, rfl⟩ : ∃ j : Nat, y = (j : Int) := ⟨y.toNat, by omega⟩
    have g := g.kp pls ((Keep.refl _ _).oth ob) stb
    refine ⟨_, rfl, ?_⟩
    refine ⟨_, rfl, _, rfl, _, rfl, cr, _, rfl, sl_map g.ecr, fun t3 nt3 => ?_⟩
    rw [cutV_to, ← List.map_take]
    have g := (g.new (o := HO.lst ((c.take j).map V.str)) nt3).add (a := t3) (x := c.take j) upd_same
    generalize upd Hb t3 (HO.lst ((c.take j).map V.str)) = G3 at g ⊢
    refine ⟨_, rfl, _, rfl, (j : Int), 1, rfl, rfl, _, rfl, cr, _, rfl, sl_map g.ecr, fun t4 nt4 => ?_⟩
    rw [show (j : Int) + 1 = ((j + 1 : Nat) : Int) by omega, cutV_from, ← List.map_drop]
    have g := (g.new (o := HO.lst ((c.drop (j + 1)).map V.str)) nt4).add (a := t4) (x := c.drop (j + 1)) upd_same
    generalize upd G3 t4 (HO.lst ((c.drop (j + 1)).map V.str)) = G4 at g ⊢
    refine ⟨t3, t4, _, _, rfl, rfl, (g.al _ (List.mem_append_left _ (List.mem_append_right _ (List.mem_singleton.mpr rfl)))), (g.al _ (List.mem_append_right _ (List.mem_singleton.mpr rfl))), by rw [List.length_map, List.length_map]; exact Nat.le_of_lt (small1000 (by simp only [List.length_append, List.length_take, List.length_drop, List.length_cons, List.length_nil]; omega)), fun t5 nt5 => ?_⟩
    rw [← List.map_append]
    have g := (g.new (o := HO.lst ((c.take j ++ c.drop (j + 1)).map V.str)) nt5).add (a := t5) (x := c.take j ++ c.drop (j + 1)) upd_same
    generalize upd G4 t5 (HO.lst ((c.take j ++ c.drop (j + 1)).map V.str)) = G5 at g ⊢
    refine ⟨_, rfl, _, rfl, _, rfl, cr, _, rfl, sl_map g.ecr, fun t6 nt6 => ?_⟩
    rw [cutV_to, ← List.map_take]
    have g := (g.new (o := HO.lst ((c.take j).map V.str)) nt6).add (a := t6) (x := c.take j) upd_same
    generalize upd G5 t6 (HO.lst ((c.take j).map V.str)) = G6 at g ⊢
    refine ⟨_, rfl, by show 1 ≤ sizeLine; decide, fun t7 nt7 => ?_⟩
    have g := (g.new (o := HO.lst ([V.str x])) nt7).add (a := t7) (x := [x]) upd_same
    generalize upd G6 t7 (HO.lst ([V.str x])) = G7 at g ⊢
    refine ⟨t6, t7, _, _, rfl, rfl, (g.al _ (List.mem_append_left _ (List.mem_append_right _ (List.mem_singleton.mpr rfl)))), (g.al _ (List.mem_append_right _ (List.mem_singleton.mpr rfl))), by rw [List.length_map, List.length_map]; exact Nat.le_of_lt (small1000 (by simp only [List.length_append, List.length_take, List.length_drop, List.length_cons, List.length_nil]; omega)), fun t8 nt8 => ?_⟩
    rw [← List.map_append]
    have g := (g.new (o := HO.lst ((c.take j ++ [x]).map V.str)) nt8).add (a := t8) (x := c.take j ++ [x]) upd_same
    generalize upd G7 t8 (HO.lst ((c.take j ++ [x]).map V.str)) = G8 at g ⊢
    refine ⟨_, rfl, _, rfl, _, rfl, cr, _, rfl, sl_map g.ecr, fun t9 nt9 => ?_⟩
    rw [cutV_from, ← List.map_drop]
    have g := (g.new (o := HO.lst ((c.drop j).map V.str)) nt9).add (a := t9) (x := c.drop j) upd_same
    generalize upd G8 t9 (HO.lst ((c.drop j).map V.str)) = G9 at g ⊢
    refine ⟨t8, t9, _, _, rfl, rfl, (g.al _ (List.mem_append_left _ (List.mem_append_right _ (List.mem_singleton.mpr rfl)))), (g.al _ (List.mem_append_right _ (List.mem_singleton.mpr rfl))), by rw [List.length_map, List.length_map]; exact Nat.le_of_lt (small1000 (by simp only [List.length_append, List.length_take, List.length_drop, List.length_cons, List.length_nil]; omega)), fun t10 nt10 => ?_⟩
    rw [← List.map_append]
    have g := (g.new (o := HO.lst (((c.take j ++ [x]) ++ c.drop j).map V.str)) nt10).add (a := t10) (x := (c.take j ++ [x]) ++ c.drop j) upd_same
    generalize upd G9 t10 (HO.lst (((c.take j ++ [x]) ++ c.drop j).map V.str)) = G10 at g ⊢
    refine ⟨_, rfl, ?_⟩
    refine ⟨_, rfl, _, rfl, _, rfl, _, rfl, (j : Int), 1, rfl, rfl, _, rfl, cr, _, rfl, sl_map g.ecr, fun t11 nt11 => ?_⟩
    obtain ⟨us, hus, lus⟩ := cut1 c j
    rw [hus]
    have g := (g.new (o := HO.lst (us.map V.str)) nt11).add (a := t11) (x := us) upd_same
    generalize upd G10 t11 (HO.lst (us.map V.str)) = G11 at g ⊢
    refine ⟨cr, t11, _, _, rfl, rfl, g.ecr, (g.al _ (List.mem_append_right _ (List.mem_singleton.mpr rfl))), by rw [List.length_map, List.length_map]; exact Nat.le_of_lt (small1000 (by simp only [List.length_append, List.length_take, List.length_drop, List.length_cons, List.length_nil]; omega)), fun t12 nt12 => ?_⟩
    rw [← List.map_append]
    have g := (g.new (o := HO.lst ((c ++ us).map V.str)) nt12).add (a := t12) (x := c ++ us) upd_same
    generalize upd G11 t12 (HO.lst ((c ++ us).map V.str)) = G12 at g ⊢
    refine ⟨by show 0 ≤ sizeLine; decide, fun t13 nt13 => ?_⟩
    have g := (g.new (o := HO.lst ([])) nt13).add (a := t13) (x := []) upd_same
    generalize upd G12 t13 (HO.lst ([])) = G13 at g ⊢
    refine ⟨by show 5 ≤ sizeLine; decide, fun r14 nr14 => ?_⟩
    have g := (g.new (o := HO.lst ([V.ref cr, V.ref t5, V.ref t10, V.ref t12, V.ref t13])) nr14).addr (a := r14) (v := [cr, t5, t10, t12, t13]) upd_same
    generalize upd G13 r14 (HO.lst ([V.ref cr, V.ref t5, V.ref t10, V.ref t12, V.ref t13])) = G14 at g ⊢
    refine ⟨_, rfl, ?_⟩
    refine ⟨_, rfl, _, rfl, _, rfl, cr, _, rfl, sl_map g.ecr, fun t15 nt15 => ?_⟩
    rw [cutV_to, ← List.map_take]
    have g := (g.new (o := HO.lst ((c.take j).map V.str)) nt15).add (a := t15) (x := c.take j) upd_same
    generalize upd G14 t15 (HO.lst ((c.take j).map V.str)) = G15 at g ⊢
    refine ⟨_, rfl, t2, _, _, .str x0, rfl, rfl, sl_map (g.al _ (List.mem_append_left _ (List.mem_append_left _ (List.mem_append_left _ (List.mem_append_left _ (List.mem_append_left _ (List.mem_append_left _ (List.mem_append_left _ (List.mem_append_left _ (List.mem_append_left _ (List.mem_append_left _ (List.mem_append_left _ (List.mem_append_left _ (List.mem_append_right _ (List.mem_singleton.mpr rfl))))))))))))))), atI_nat (j := 0) hx0v, by show 1 ≤ sizeLine; decide, fun t16 nt16 => ?_⟩
    have g := (g.new (o := HO.lst ([V.str x0])) nt16).add (a := t16) (x := [x0]) upd_same
    generalize upd G15 t16 (HO.lst ([V.str x0])) = G16 at g ⊢
    refine ⟨t15, t16, _, _, rfl, rfl, (g.al _ (List.mem_append_left _ (List.mem_append_right _ (List.mem_singleton.mpr rfl)))), (g.al _ (List.mem_append_right _ (List.mem_singleton.mpr rfl))), by rw [List.length_map, List.length_map]; exact Nat.le_of_lt (small1000 (by simp only [List.length_append, List.length_take, List.length_drop, List.length_cons, List.length_nil]; omega)), fun t17 nt17 => ?_⟩
    rw [← List.map_append]
    have g := (g.new (o := HO.lst ((c.take j ++ [x0]).map V.str)) nt17).add (a := t17) (x := c.take j ++ [x0]) upd_same
    generalize upd G16 t17 (HO.lst ((c.take j ++ [x0]).map V.str)) = G17 at g ⊢
    refine ⟨_, rfl, _, rfl, (j : Int), 1, rfl, rfl, _, rfl, cr, _, rfl, sl_map g.ecr, fun t18 nt18 => ?_⟩
    rw [show (j : Int) + 1 = ((j + 1 : Nat) : Int) by omega, cutV_from, ← List.map_drop]
    have g := (g.new (o := HO.lst ((c.drop (j + 1)).map V.str)) nt18).add (a := t18) (x := c.drop (j + 1)) upd_same
    generalize upd G17 t18 (HO.lst ((c.drop (j + 1)).map V.str)) = G18 at g ⊢
    refine ⟨t17, t18, _, _, rfl, rfl, (g.al _ (List.mem_append_left _ (List.mem_append_right _ (List.mem_singleton.mpr rfl)))), (g.al _ (List.mem_append_right _ (List.mem_singleton.mpr rfl))), by rw [List.length_map, List.length_map]; exact Nat.le_of_lt (small1000 (by simp only [List.length_append, List.length_take, List.length_drop, List.length_cons, List.length_nil]; omega)), fun t19 nt19 => ?_⟩
    rw [← List.map_append]
    have g := (g.new (o := HO.lst (((c.take j ++ [x0]) ++ c.drop (j + 1)).map V.str)) nt19).add (a := t19) (x := (c.take j ++ [x0]) ++ c.drop (j + 1)) upd_same
    generalize upd G18 t19 (HO.lst (((c.take j ++ [x0]) ++ c.drop (j + 1)).map V.str)) = G19 at g ⊢
    refine ⟨by show 1 ≤ sizeLine; decide, fun t20 nt20 => ?_⟩
    have g := (g.new (o := HO.lst ([V.str ("nobody" : Str)])) nt20).add (a := t20) (x := [("nobody" : Str)]) upd_same
    generalize upd G19 t20 (HO.lst ([V.str ("nobody" : Str)])) = G20 at g ⊢
    refine ⟨_, rfl, ?_⟩
    refine ⟨t20, cr, _, _, rfl, rfl, (g.al _ (List.mem_append_right _ (List.mem_singleton.mpr rfl))), g.ecr, by rw [List.length_map, List.length_map]; exact Nat.le_of_lt (small1000 (by simp only [List.length_append, List.length_take, List.length_drop, List.length_cons, List.length_nil]; omega)), fun t21 nt21 => ?_⟩
    rw [← List.map_append]
    have g := (g.new (o := HO.lst (([("nobody" : Str)] ++ c).map V.str)) nt21).add (a := t21) (x := [("nobody" : Str)] ++ c) upd_same
    generalize upd G20 t21 (HO.lst (([("nobody" : Str)] ++ c).map V.str)) = G21 at g ⊢
    refine ⟨_, rfl, by show 1 ≤ sizeLine; decide, fun t22 nt22 => ?_⟩
    have g := (g.new (o := HO.lst ([V.str x])) nt22).add (a := t22) (x := [x]) upd_same
    generalize upd G21 t22 (HO.lst ([V.str x])) = G22 at g ⊢
    refine ⟨_, rfl, _, rfl, by show 2 ≤ sizeLine; decide, fun t23 nt23 => ?_⟩
    have g := (g.new (o := HO.lst ([V.str x, V.str x])) nt23).add (a := t23) (x := [x, x]) upd_same
    generalize upd G22 t23 (HO.lst ([V.str x, V.str x])) = G23 at g ⊢
    refine ⟨by show 4 ≤ sizeLine; decide, fun r24 nr24 => ?_⟩
    have g := (g.new (o := HO.lst ([V.ref t19, V.ref t21, V.ref t22, V.ref t23])) nr24).addr (a := r24) (v := [t19, t21, t22, t23]) upd_same
    generalize upd G23 r24 (HO.lst ([V.ref t19, V.ref t21, V.ref t22, V.ref t23])) = G24 at g ⊢
    refine ⟨r14, r24, _, _, rfl, rfl, (g.rl _ (List.mem_append_left _ (List.mem_append_right _ (List.mem_singleton.mpr rfl)))), (g.rl _ (List.mem_append_right _ (List.mem_singleton.mpr rfl))), by show 5 + 4 ≤ sizeLine; decide, fun r25 nr25 => ?_⟩
    rw [← List.map_append]
    have g := (g.new (o := HO.lst (([cr, t5, t10, t12, t13] ++ [t19, t21, t22, t23]).map V.ref)) nr25).addr (a := r25) (v := [cr, t5, t10, t12, t13] ++ [t19, t21, t22, t23]) upd_same
    generalize upd G24 r25 (HO.lst (([cr, t5, t10, t12, t13] ++ [t19, t21, t22, t23]).map V.ref)) = G25 at g ⊢
    refine ⟨_, rfl, ?_⟩
    refine ⟨_, rfl, _, rfl, Str, V.str, s, sc, ns, rfl, g.st, g.esc, by omega, (str_ne g.st g.esc).symm, fun Hc lc us1 kc nlc stc elc pmc => ?_⟩
    have g := (g.kp pls kc stc).add elc
    have lpm := pmc.length_eq
    refine ⟨_, rfl, _, rfl, Str, V.str, s, sc, ns, rfl, g.st, g.esc, (str_ne g.st g.esc).symm, by omega, fun Hd ld us2 kd nld std eld subd => ?_⟩
    have g := (g.kp pls kd std).add eld
    have lsb := subd.length_le
    refine ⟨by show 2 ≤ sizeLine; decide, fun r26 nr26 => ?_⟩
    have g := (g.new (o := HO.lst ([V.ref lc, V.ref ld])) nr26).addr (a := r26) (v := [lc, ld]) upd_same
    generalize upd Hd r26 (HO.lst ([V.ref lc, V.ref ld])) = G26 at g ⊢
    refine ⟨r25, r26, _, _, rfl, rfl, (g.rl _ (List.mem_append_left _ (List.mem_append_right _ (List.mem_singleton.mpr rfl)))), (g.rl _ (List.mem_append_right _ (List.mem_singleton.mpr rfl))), by show 9 + 2 ≤ sizeLine; decide, fun r27 nr27 => ?_⟩
    rw [← List.map_append]
    have g := (g.new (o := HO.lst ((([cr, t5, t10, t12, t13] ++ [t19, t21, t22, t23]) ++ [lc, ld]).map V.ref)) nr27).addr (a := r27) (v := ([cr, t5, t10, t12, t13] ++ [t19, t21, t22, t23]) ++ [lc, ld]) upd_same
    generalize upd G26 r27 (HO.lst ((([cr, t5, t10, t12, t13] ++ [t19, t21, t22, t23]) ++ [lc, ld]).map V.ref)) = G27 at g ⊢
    obtain ⟨Cs, hCs⟩ : ∃ Cs : List SL, Cs = [(cr, c), (t5, (c.take j ++ c.drop (j + 1))), (t10, ((c.take j ++ [x]) ++ c.drop j)), (t12, (c ++ us)), (t13, []), (t19, ((c.take j ++ [x0]) ++ c.drop (j + 1))), (t21, ([("nobody" : Str)] ++ c)), (t22, [x]), (t23, [x, x]), (lc, us1), (ld, us2)] := ⟨_, rfl⟩
    have lCs : Cs.length = 11 := by rw [hCs] <;> rfl
    have eCs : G27 r27 = some (.lst (Cs.map fun e => V.ref e.1)) := by rw [hCs]; exact (g.rl _ (List.mem_append_right _ (List.mem_singleton.mpr rfl)))
    have aCs : ∀ e ∈ Cs, G27 e.1 = some (.lst (e.2.map V.str)) ∧ e.2.length ≤ 30 := by
      rw [hCs]
      intro e he
      rcases List.mem_cons.mp he with rfl | he
      · exact ⟨g.ecr, by simp only [List.length_append, List.length_take, List.length_drop, List.length_cons, List.length_nil]; omega⟩
      rcases List.mem_cons.mp he with rfl | he
      · exact ⟨(g.al _ (List.mem_append_left _ (List.mem_append_left _ (List.mem_append_left _ (List.mem_append_left _ (List.mem_append_left _ (List.mem_append_left _ (List.mem_append_left _ (List.mem_append_left _ (List.mem_append_left _ (List.mem_append_left _ (List.mem_append_left _ (List.mem_append_left _ (List.mem_append_left _ (List.mem_append_left _ (List.mem_append_left _ (List.mem_append_left _ (List.mem_append_left _ (List.mem_append_left _ (List.mem_append_left _ (List.mem_append_right _ (List.mem_singleton.mpr rfl)))))))))))))))))))))), by simp only [List.length_append, List.length_take, List.length_drop, List.length_cons, List.length_nil]; omega⟩
      rcases List.mem_cons.mp he with rfl | he
      · exact ⟨(g.al _ (List.mem_append_left _ (List.mem_append_left _ (List.mem_append_left _ (List.mem_append_left _ (List.mem_append_left _ (List.mem_append_left _ (List.mem_append_left _ (List.mem_append_left _ (List.mem_append_left _ (List.mem_append_left _ (List.mem_append_left _ (List.mem_append_left _ (List.mem_append_left _ (List.mem_append_left _ (List.mem_append_right _ (List.mem_singleton.mpr rfl))))))))))))))))), by simp only [List.length_append, List.length_take, List.length_drop, List.length_cons, List.length_nil]; omega⟩
      rcases List.mem_cons.mp he with rfl | he
      · exact ⟨(g.al _ (List.mem_append_left _ (List.mem_append_left _ (List.mem_append_left _ (List.mem_append_left _ (List.mem_append_left _ (List.mem_append_left _ (List.mem_append_left _ (List.mem_append_left _ (List.mem_append_left _ (List.mem_append_left _ (List.mem_append_left _ (List.mem_append_left _ (List.mem_append_right _ (List.mem_singleton.mpr rfl))))))))))))))), by simp only [List.length_append, List.length_take, List.length_drop, List.length_cons, List.length_nil]; omega⟩
      rcases List.mem_cons.mp he with rfl | he
      · exact ⟨(g.al _ (List.mem_append_left _ (List.mem_append_left _ (List.mem_append_left _ (List.mem_append_left _ (List.mem_append_left _ (List.mem_append_left _ (List.mem_append_left _ (List.mem_append_left _ (List.mem_append_left _ (List.mem_append_left _ (List.mem_append_left _ (List.mem_append_right _ (List.mem_singleton.mpr rfl)))))))))))))), by simp only [List.length_append, List.length_take, List.length_drop, List.length_cons, List.length_nil]; omega⟩
      rcases List.mem_cons.mp he with rfl | he
      · exact ⟨(g.al _ (List.mem_append_left _ (List.mem_append_left _ (List.mem_append_left _ (List.mem_append_left _ (List.mem_append_left _ (List.mem_append_left _ (List.mem_append_right _ (List.mem_singleton.mpr rfl))))))))), by simp only [List.length_append, List.length_take, List.length_drop, List.length_cons, List.length_nil]; omega⟩
      rcases List.mem_cons.mp he with rfl | he
      · exact ⟨(g.al _ (List.mem_append_left _ (List.mem_append_left _ (List.mem_append_left _ (List.mem_append_left _ (List.mem_append_right _ (List.mem_singleton.mpr rfl))))))), by simp only [List.length_append, List.length_take, List.length_drop, List.length_cons, List.length_nil]; omega⟩
      rcases List.mem_cons.mp he with rfl | he
      · exact ⟨(g.al _ (List.mem_append_left _ (List.mem_append_left _ (List.mem_append_left _ (List.mem_append_right _ (List.mem_singleton.mpr rfl)))))), by simp only [List.length_append, List.length_take, List.length_drop, List.length_cons, List.length_nil]; omega⟩
      rcases List.mem_cons.mp he with rfl | he
      · exact ⟨(g.al _ (List.mem_append_left _ (List.mem_append_left _ (List.mem_append_right _ (List.mem_singleton.mpr rfl))))), by simp only [List.length_append, List.length_take, List.length_drop, List.length_cons, List.length_nil]; omega⟩
      rcases List.mem_cons.mp he with rfl | he
      · exact ⟨(g.al _ (List.mem_append_left _ (List.mem_append_right _ (List.mem_singleton.mpr rfl)))), by simp only [List.length_append, List.length_take, List.length_drop, List.length_cons, List.length_nil]; omega⟩
      rcases List.mem_cons.mp he with rfl | he
      · exact ⟨(g.al _ (List.mem_append_right _ (List.mem_singleton.mpr rfl))), by simp only [List.length_append, List.length_take, List.length_drop, List.length_cons, List.length_nil]; omega⟩
      exact nomatch he
    have est := (g.al _ (List.mem_append_left _ (List.mem_append_left _ (List.mem_append_left _ (List.mem_append_left _ (List.mem_append_left _ (List.mem_append_left _ (List.mem_append_left _ (List.mem_append_left _ (List.mem_append_left _ (List.mem_append_left _ (List.mem_append_left _ (List.mem_append_left _ (List.mem_append_left _ (List.mem_append_left _ (List.mem_append_left _ (List.mem_append_left _ (List.mem_append_left _ (List.mem_append_left _ (List.mem_append_left _ (List.mem_append_left _ (List.mem_append_left _ (List.mem_append_left _ (List.mem_append_right _ (List.mem_singleton.mpr rfl)))))))))))))))))))))))))
    obtain ⟨kb, stb, escb, eplb, ecrb⟩ : Keep s H G27 ∧ Strm G27 s ∧ G27 sc = some (.lst (ns.map V.str)) ∧ G27 pl = some (.lst (ps.map V.int)) ∧ G27 cr = some (.lst (c.map V.str)) := ⟨g.k, g.st, g.esc, g.epl, g.ecr⟩
    clear g hCs
    refine ⟨_, rfl, r27, rfl, ⟨_, sl_map eCs⟩, fun Z nZ => lc_list (xs := Cs.map fun e => V.ref e.1) (fun i H' => Same G27 H' ∧ ∃ ts : List Tr, H' Z = some (.lst (ts.map fun t => V.ref t.1)) ∧ (∀ t ∈ ts, H' t.1 = some (.tup [.str t.2.1, t.2.2]) ∧ Cn G27 t.2.1 t.2.2) ∧ ts.length = i) ⟨same_new nZ, [], upd_same, (fun _ h => nomatch h), rfl⟩ (fun i H' _ h => sl_map (h.1 _ _ eCs)) ?_ ?_⟩
    · rintro i x0 H1 hx ⟨s1, ts, eZ, at_, lt⟩
      rw [List.getElem?_map] at hx
      obtain ⟨e, he, rfl⟩ := Option.map_eq_some_iff.mp hx
      obtain ⟨e1, e2⟩ := aCs e (List.mem_of_getElem? he)
      have hi := (List.getElem?_eq_some_iff.mp he).1
      refine ⟨rfl, _, rfl, by show 2 ≤ sizeLine; decide, fun T nT => ?_⟩
      have sT := same_new (o := HO.tup [V.str ("crowd" : Str), .ref e.1]) nT
      have TZ : T ≠ Z := fun z => by rw [z, eZ] at nT; cases nT
      refine ⟨_, sT _ _ eZ, by rw [List.length_map]; exact small1000 (by omega), same_at (s1.trans sT) nZ, ts ++ ([(T, "crowd", V.ref e.1)] : List Tr), by rw [upd_same, List.map_append] <;> rfl, fun t ht => ?_, by rw [List.length_append, lt] <;> rfl⟩
      rcases List.mem_append.mp ht with h | h
      · have h1 := sT _ _ (at_ t h).1
        exact ⟨by rw [upd_ne fun z => by rw [z, sT _ _ eZ] at h1; cases h1]; exact h1, (at_ t h).2⟩
      · rw [List.mem_singleton.mp h]; exact ⟨by rw [upd_ne TZ]; exact upd_same, .crowd _ _ e1 e2⟩
    rintro H1 ⟨s1, ts1, eZ, at1, lt1⟩
    rw [List.length_map, lCs] at lt1
    have esc1 := s1 _ _ escb
    refine ⟨_, rfl, sc, rfl, ⟨_, sl_map esc1⟩, fun Z2 nZ2 => lc_list (xs := ns.map V.str) (fun i H' => Same H1 H' ∧ ∃ ts : List Tr, H' Z2 = some (.lst (ts.map fun t => V.ref t.1)) ∧ (∀ t ∈ ts, H' t.1 = some (.tup [.str t.2.1, t.2.2]) ∧ Cn H1 t.2.1 t.2.2) ∧ ts.length = i) ⟨same_new nZ2, [], upd_same, (fun _ h => nomatch h), rfl⟩ (fun i H' _ h => sl_map (h.1 _ _ esc1)) ?_ ?_⟩
    · rintro i x0 H2 hx ⟨s2, ts, eZ2, at_, lt⟩
      rw [List.getElem?_map] at hx
      obtain ⟨e, he, rfl⟩ := Option.map_eq_some_iff.mp hx
      have hi := (List.getElem?_eq_some_iff.mp he).1
      refine ⟨rfl, _, rfl, by show 2 ≤ sizeLine; decide, fun T nT => ?_⟩
      have sT := same_new (o := HO.tup [V.str ("empty" : Str), .str e]) nT
      have TZ : T ≠ Z2 := fun z => by rw [z, eZ2] at nT; cases nT
      refine ⟨_, sT _ _ eZ2, by rw [List.length_map]; exact small1000 (by omega), same_at (s2.trans sT) nZ2, ts ++ ([(T, "empty", V.str e)] : List Tr), by rw [upd_same, List.map_append] <;> rfl, fun t ht => ?_, by rw [List.length_append, lt] <;> rfl⟩
      rcases List.mem_append.mp ht with h | h
      · have h1 := sT _ _ (at_ t h).1
        exact ⟨by rw [upd_ne fun z => by rw [z, sT _ _ eZ2] at h1; cases h1]; exact h1, (at_ t h).2⟩
      · rw [List.mem_singleton.mp h]; exact ⟨by rw [upd_ne TZ]; exact upd_same, .empty _⟩
    rintro H2 ⟨s2, ts2, eZ2, at2, lt2⟩
    rw [List.length_map] at lt2
    obtain ⟨ts, hts⟩ : ∃ ts : List Tr, ts = ts1 ++ ts2 := ⟨_, rfl⟩
    have lts : ts.length ≤ 27 := by rw [hts, List.length_append]; omega
    refine ⟨Z, Z2, _, _, rfl, rfl, s2 _ _ eZ, eZ2, by rw [List.length_map, List.length_map]; exact Nat.le_of_lt (small1000 (by omega)), fun Y nY => ?_⟩
    rw [show (ts1.map fun t => V.ref t.1) ++ (ts2.map fun t => V.ref t.1) = (ts.map (·.1)).map V.ref by rw [hts, ← List.map_append, List.map_map] <;> rfl]
    have g : Pz G27 H2 ts [] := ⟨s1.trans s2, fun t ht => by
      rw [hts] at ht
      rcases List.mem_append.mp ht with h | h
      · exact ⟨s2 _ _ (at1 t h).1, (at1 t h).2.same (s1.trans s2)⟩
      · exact ⟨(at2 t h).1, (at2 t h).2.same s2⟩, fun _ h => nomatch h⟩
    clear hts at1 at2 eZ eZ2 esc1 nZ2 nZ
    have g := (g.new (o := HO.lst ((ts.map (·.1)).map V.ref)) nY).addr (a := Y) (v := ts.map (·.1)) upd_same
    generalize upd H2 Y (HO.lst ((ts.map (·.1)).map V.ref)) = G28 at g ⊢
    refine ⟨_, rfl, ?_⟩
    refine ⟨_, rfl, t2, _, _, .str x0, rfl, rfl, sl_map (g.s _ _ est), atI_nat (j := 0) hx0v, by show 2 ≤ sizeLine; decide, fun T28 nT28 => ?_⟩
    have g := (g.new (o := HO.tup [V.str ("empty" : Str), V.str x0]) nT28).add (T := T28) (w := "empty") (c := V.str x0) upd_same (Cn.same (.empty x0) (same_new nT28))
    generalize upd G28 T28 (HO.tup [V.str ("empty" : Str), V.str x0]) = G29 at g ⊢
    refine ⟨by show 2 ≤ sizeLine; decide, fun T29 nT29 => ?_⟩
    have g := (g.new (o := HO.tup [V.str ("empty" : Str), V.str ("nobody" : Str)]) nT29).add (T := T29) (w := "empty") (c := V.str ("nobody" : Str)) upd_same (Cn.same (.empty ("nobody" : Str)) (same_new nT29))
    generalize upd G29 T29 (HO.tup [V.str ("empty" : Str), V.str ("nobody" : Str)]) = G30 at g ⊢
    refine ⟨_, rfl, by show 2 ≤ sizeLine; decide, fun T30 nT30 => ?_⟩
    have g := (g.new (o := HO.tup [V.str ("blame" : Str), V.ref cr]) nT30).add (T := T30) (w := "blame") (c := V.ref cr) upd_same (Cn.same (.other "blame" cr (c.map V.str) (by decide +kernel) (by decide +kernel) (by decide +kernel) (g.s _ _ ecrb) (simp_strs c)) (same_new nT30))
    generalize upd G30 T30 (HO.tup [V.str ("blame" : Str), V.ref cr]) = G31 at g ⊢
    refine ⟨by show 0 ≤ sizeLine; decide, fun l31 nl31 => ?_⟩
    have fl31 := upd_same (H := G31) (a := l31) (o := HO.lst ([]))
    have g := g.new (o := HO.lst ([])) nl31
    generalize upd G31 l31 (HO.lst ([])) = G32 at g fl31 ⊢
    refine ⟨by show 2 ≤ sizeLine; decide, fun T32 nT32 => ?_⟩
    have g := (g.new (o := HO.tup [V.str ("blame" : Str), V.ref l31]) nT32).add (T := T32) (w := "blame") (c := V.ref l31) upd_same (Cn.same (.other "blame" l31 ([]) (by decide +kernel) (by decide +kernel) (by decide +kernel) fl31 (by simp [simpV])) (same_new nT32))
    generalize upd G32 T32 (HO.tup [V.str ("blame" : Str), V.ref l31]) = G33 at g ⊢
    refine ⟨by show 2 ≤ sizeLine; decide, fun l33 nl33 => ?_⟩
    have fl33 := upd_same (H := G33) (a := l33) (o := HO.lst ([V.int 0, V.int 1]))
    have g := g.new (o := HO.lst ([V.int 0, V.int 1])) nl33
    generalize upd G33 l33 (HO.lst ([V.int 0, V.int 1])) = G34 at g fl33 ⊢
    refine ⟨by show 2 ≤ sizeLine; decide, fun T34 nT34 => ?_⟩
    have g := (g.new (o := HO.tup [V.str ("full" : Str), V.ref l33]) nT34).add (T := T34) (w := "full") (c := V.ref l33) upd_same (Cn.same (.other "full" l33 ([V.int 0, V.int 1]) (by decide +kernel) (by decide +kernel) (by decide +kernel) fl33 (by simp [simpV])) (same_new nT34))
    generalize upd G34 T34 (HO.tup [V.str ("full" : Str), V.ref l33]) = G35 at g ⊢
    refine ⟨by show 5 ≤ sizeLine; decide, fun r35 nr35 => ?_⟩
    have g := (g.new (o := HO.lst ([V.ref T28, V.ref T29, V.ref T30, V.ref T32, V.ref T34])) nr35).addr (a := r35) (v := [T28, T29, T30, T32, T34]) upd_same
    generalize upd G35 r35 (HO.lst ([V.ref T28, V.ref T29, V.ref T30, V.ref T32, V.ref T34])) = G36 at g ⊢
    refine ⟨Y, r35, _, _, rfl, rfl, (g.rl _ (List.mem_append_left _ (List.mem_append_right _ (List.mem_singleton.mpr rfl)))), (g.rl _ (List.mem_append_right _ (List.mem_singleton.mpr rfl))), by simp only [List.length_map, List.length_append, List.length_cons, List.length_nil]; exact Nat.le_of_lt (small1000 (by omega)), fun r36 nr36 => ?_⟩
    rw [← List.map_append]
    have g := (g.new (o := HO.lst ((ts.map (·.1) ++ [T28, T29, T30, T32, T34]).map V.ref)) nr36).addr (a := r36) (v := ts.map (·.1) ++ [T28, T29, T30, T32, T34]) upd_same
    generalize upd G36 r36 (HO.lst ((ts.map (·.1) ++ [T28, T29, T30, T32, T34]).map V.ref)) = G37 at g ⊢
    refine ⟨_, rfl, ?_⟩
    refine ⟨by show 0 ≤ sizeLine; decide, fun l37 nl37 => ?_⟩
    have fl37 := upd_same (H := G37) (a := l37) (o := HO.lst ([]))
    have g := g.new (o := HO.lst ([])) nl37
    generalize upd G37 l37 (HO.lst ([])) = G38 at g fl37 ⊢
    refine ⟨by show 2 ≤ sizeLine; decide, fun T38 nT38 => ?_⟩
    have g := (g.new (o := HO.tup [V.str ("full" : Str), V.ref l37]) nT38).add (T := T38) (w := "full") (c := V.ref l37) upd_same (Cn.same (.other "full" l37 ([]) (by decide +kernel) (by decide +kernel) (by decide +kernel) fl37 (by simp [simpV])) (same_new nT38))
    generalize upd G38 T38 (HO.tup [V.str ("full" : Str), V.ref l37]) = G39 at g ⊢
    refine ⟨by show 1 ≤ sizeLine; decide, fun l39 nl39 => ?_⟩
    have fl39 := upd_same (H := G39) (a := l39) (o := HO.lst ([V.int 0]))
    have g := g.new (o := HO.lst ([V.int 0])) nl39
    generalize upd G39 l39 (HO.lst ([V.int 0])) = G40 at g fl39 ⊢
    refine ⟨by show 2 ≤ sizeLine; decide, fun T40 nT40 => ?_⟩
    have g := (g.new (o := HO.tup [V.str ("climb" : Str), V.ref l39]) nT40).add (T := T40) (w := "climb") (c := V.ref l39) upd_same (Cn.same (.other "climb" l39 ([V.int 0]) (by decide +kernel) (by decide +kernel) (by decide +kernel) fl39 (by simp [simpV])) (same_new nT40))
    generalize upd G40 T40 (HO.tup [V.str ("climb" : Str), V.ref l39]) = G41 at g ⊢
    refine ⟨by show 0 ≤ sizeLine; decide, fun l41 nl41 => ?_⟩
    have fl41 := upd_same (H := G41) (a := l41) (o := HO.lst ([]))
    have g := g.new (o := HO.lst ([])) nl41
    generalize upd G41 l41 (HO.lst ([])) = G42 at g fl41 ⊢
    refine ⟨by show 2 ≤ sizeLine; decide, fun T42 nT42 => ?_⟩
    have g := (g.new (o := HO.tup [V.str ("climb" : Str), V.ref l41]) nT42).add (T := T42) (w := "climb") (c := V.ref l41) upd_same (Cn.same (.other "climb" l41 ([]) (by decide +kernel) (by decide +kernel) (by decide +kernel) fl41 (by simp [simpV])) (same_new nT42))
    generalize upd G42 T42 (HO.tup [V.str ("climb" : Str), V.ref l41]) = G43 at g ⊢
    refine ⟨_, rfl, pl, _, rfl, .inl (sl_map (g.s _ _ eplb)), fun l43 nl43 => ?_⟩
    have fl43 := upd_same (H := G43) (a := l43) (o := HO.lst (ps.map V.int))
    have g := g.new (o := HO.lst (ps.map V.int)) nl43
    generalize upd G43 l43 (HO.lst (ps.map V.int)) = G44 at g fl43 ⊢
    refine ⟨by show 2 ≤ sizeLine; decide, fun T44 nT44 => ?_⟩
    have g := (g.new (o := HO.tup [V.str ("want" : Str), V.ref l43]) nT44).add (T := T44) (w := "want") (c := V.ref l43) upd_same (Cn.same (.other "want" l43 (ps.map V.int) (by decide +kernel) (by decide +kernel) (by decide +kernel) fl43 (simp_ints ps)) (same_new nT44))
    generalize upd G44 T44 (HO.tup [V.str ("want" : Str), V.ref l43]) = G45 at g ⊢
    refine ⟨by show 0 ≤ sizeLine; decide, fun l45 nl45 => ?_⟩
    have fl45 := upd_same (H := G45) (a := l45) (o := HO.lst ([]))
    have g := g.new (o := HO.lst ([])) nl45
    generalize upd G45 l45 (HO.lst ([])) = G46 at g fl45 ⊢
    refine ⟨by show 2 ≤ sizeLine; decide, fun T46 nT46 => ?_⟩
    have g := (g.new (o := HO.tup [V.str ("want" : Str), V.ref l45]) nT46).add (T := T46) (w := "want") (c := V.ref l45) upd_same (Cn.same (.other "want" l45 ([]) (by decide +kernel) (by decide +kernel) (by decide +kernel) fl45 (by simp [simpV])) (same_new nT46))
    generalize upd G46 T46 (HO.tup [V.str ("want" : Str), V.ref l45]) = G47 at g ⊢
    refine ⟨by show 5 ≤ sizeLine; decide, fun r47 nr47 => ?_⟩
    have g := (g.new (o := HO.lst ([V.ref T38, V.ref T40, V.ref T42, V.ref T44, V.ref T46])) nr47).addr (a := r47) (v := [T38, T40, T42, T44, T46]) upd_same
    generalize upd G47 r47 (HO.lst ([V.ref T38, V.ref T40, V.ref T42, V.ref T44, V.ref T46])) = G48 at g ⊢
    refine ⟨r36, r47, _, _, rfl, rfl, (g.rl _ (List.mem_append_left _ (List.mem_append_right _ (List.mem_singleton.mpr rfl)))), (g.rl _ (List.mem_append_right _ (List.mem_singleton.mpr rfl))), by simp only [List.length_map, List.length_append, List.length_cons, List.length_nil]; exact Nat.le_of_lt (small1000 (by omega)), fun r48 nr48 => ?_⟩
    rw [← List.map_append]
    have g := (g.new (o := HO.lst (((ts.map (·.1) ++ [T28, T29, T30, T32, T34]) ++ [T38, T40, T42, T44, T46]).map V.ref)) nr48).addr (a := r48) (v := (ts.map (·.1) ++ [T28, T29, T30, T32, T34]) ++ [T38, T40, T42, T44, T46]) upd_same
    generalize upd G48 r48 (HO.lst (((ts.map (·.1) ++ [T28, T29, T30, T32, T34]) ++ [T38, T40, T42, T44, T46]).map V.ref)) = G49 at g ⊢
    refine ⟨_, rfl, ?_⟩
    refine ⟨by show 1 ≤ sizeLine; decide, fun l49 nl49 => ?_⟩
    have fl49 := upd_same (H := G49) (a := l49) (o := HO.lst ([V.int 0]))
    have g := g.new (o := HO.lst ([V.int 0])) nl49
    generalize upd G49 l49 (HO.lst ([V.int 0])) = G50 at g fl49 ⊢
    obtain ⟨p0, hp0⟩ : ∃ p0, ps[0]? = some p0 := ⟨_, List.getElem?_eq_getElem (by omega)⟩
    refine ⟨_, rfl, pl, _, _, .int p0, rfl, rfl, sl_map (g.s _ _ eplb), atI_nat (j := 0) (by rw [List.getElem?_map, hp0] <;> rfl), by show 1 ≤ sizeLine; decide, fun l50 nl50 => ?_⟩
    have fl49 := same_new (o := HO.lst [V.int p0]) nl50 _ _ fl49
    have fl50 := upd_same (H := G50) (a := l50) (o := HO.lst [V.int p0])
    have g := g.new (o := HO.lst [V.int p0]) nl50
    generalize upd G50 l50 (HO.lst [V.int p0]) = G51 at g fl50 fl49 ⊢
    refine ⟨by show 2 ≤ sizeLine; decide, fun l51 nl51 => ?_⟩
    have fl49 := same_new (o := HO.lst [V.ref l49, V.ref l50]) nl51 _ _ fl49
    have fl50 := same_new (o := HO.lst [V.ref l49, V.ref l50]) nl51 _ _ fl50
    have fl51 := upd_same (H := G51) (a := l51) (o := HO.lst [V.ref l49, V.ref l50])
    have g := g.new (o := HO.lst [V.ref l49, V.ref l50]) nl51
    generalize upd G51 l51 (HO.lst [V.ref l49, V.ref l50]) = G52 at g fl51 fl50 fl49 ⊢
    refine ⟨by show 2 ≤ sizeLine; decide, fun T52 nT52 => ?_⟩
    have g := (g.new (o := HO.tup [V.str ("layers" : Str), V.ref l51]) nT52).add (T := T52) (w := "layers") (c := V.ref l51) upd_same (Cn.same (.layers l51 [(l49, [0]), (l50, [p0])] fl51 (fun z hz => by rcases List.mem_cons.mp hz with rfl | hz; exact fl49; rw [List.mem_singleton.mp hz]; exact fl50) (by show 2 ≤ 30; decide)) (same_new nT52))
    generalize upd G52 T52 (HO.tup [V.str ("layers" : Str), V.ref l51]) = G53 at g ⊢
    refine ⟨by show 0 ≤ sizeLine; decide, fun l53 nl53 => ?_⟩
    have fl53 := upd_same (H := G53) (a := l53) (o := HO.lst ([]))
    have g := g.new (o := HO.lst ([])) nl53
    generalize upd G53 l53 (HO.lst ([])) = G54 at g fl53 ⊢
    refine ⟨by show 1 ≤ sizeLine; decide, fun l54 nl54 => ?_⟩
    have fl53 := same_new (o := HO.lst [V.ref l53]) nl54 _ _ fl53
    have fl54 := upd_same (H := G54) (a := l54) (o := HO.lst [V.ref l53])
    have g := g.new (o := HO.lst [V.ref l53]) nl54
    generalize upd G54 l54 (HO.lst [V.ref l53]) = G55 at g fl54 fl53 ⊢
    refine ⟨by show 2 ≤ sizeLine; decide, fun T55 nT55 => ?_⟩
    have g := (g.new (o := HO.tup [V.str ("layers" : Str), V.ref l54]) nT55).add (T := T55) (w := "layers") (c := V.ref l54) upd_same (Cn.same (.layers l54 [(l53, [])] fl54 (fun z hz => by rw [List.mem_singleton.mp hz]; exact fl53) (by show 1 ≤ 30; decide)) (same_new nT55))
    generalize upd G55 T55 (HO.tup [V.str ("layers" : Str), V.ref l54]) = G56 at g ⊢
    refine ⟨by show 2 ≤ sizeLine; decide, fun r56 nr56 => ?_⟩
    have g := (g.new (o := HO.lst ([V.ref T52, V.ref T55])) nr56).addr (a := r56) (v := [T52, T55]) upd_same
    generalize upd G56 r56 (HO.lst ([V.ref T52, V.ref T55])) = G57 at g ⊢
    refine ⟨r48, r56, _, _, rfl, rfl, (g.rl _ (List.mem_append_left _ (List.mem_append_right _ (List.mem_singleton.mpr rfl)))), (g.rl _ (List.mem_append_right _ (List.mem_singleton.mpr rfl))), by simp only [List.length_map, List.length_append, List.length_cons, List.length_nil]; exact Nat.le_of_lt (small1000 (by omega)), fun r57 nr57 => ?_⟩
    rw [← List.map_append]
    have g := (g.new (o := HO.lst ((((ts.map (·.1) ++ [T28, T29, T30, T32, T34]) ++ [T38, T40, T42, T44, T46]) ++ [T52, T55]).map V.ref)) nr57).addr (a := r57) (v := ((ts.map (·.1) ++ [T28, T29, T30, T32, T34]) ++ [T38, T40, T42, T44, T46]) ++ [T52, T55]) upd_same
    generalize upd G57 r57 (HO.lst ((((ts.map (·.1) ++ [T28, T29, T30, T32, T34]) ++ [T38, T40, T42, T44, T46]) ++ [T52, T55]).map V.ref)) = G58 at g ⊢
    refine q G58 r57 (((((((((((((ts ++ ([(T28, "empty", V.str x0)] : List Tr)) ++ ([(T29, "empty", V.str ("nobody" : Str))] : List Tr)) ++ ([(T30, "blame", V.ref cr)] : List Tr)) ++ ([(T32, "blame", V.ref l31)] : List Tr)) ++ ([(T34, "full", V.ref l33)] : List Tr)) ++ ([(T38, "full", V.ref l37)] : List Tr)) ++ ([(T40, "climb", V.ref l39)] : List Tr)) ++ ([(T42, "climb", V.ref l41)] : List Tr)) ++ ([(T44, "want", V.ref l43)] : List Tr)) ++ ([(T46, "want", V.ref l45)] : List Tr)) ++ ([(T52, "layers", V.ref l51)] : List Tr)) ++ ([(T55, "layers", V.ref l54)] : List Tr)) : List Tr) (kb.trans (Keep.same g.s)) (by obtain ⟨x, y, w, e⟩ := stb; exact ⟨x, y, w, g.s _ _ e⟩) ⟨?_, g.al⟩ (by simp only [List.length_append, List.length_cons, List.length_nil]; omega)
    have := (g.rl _ (List.mem_append_right _ (List.mem_singleton.mpr rfl)))
    rw [this]
    simp
end
end K57
set_option Elab.async false
set_option linter.all false
set_option maxRecDepth 100000
set_option maxHeartbeats 4000000
namespace K57
open PySem PySem.Spec PyProof.Rows L2 Cs CsX
/-- what is kept of what is told -/
inductive Kp (ns : List Str) (S : Str → List Int) (H H' : Hp) : V → Prop
  | none (f : Feas ns S) : Kp ns S H H' .non
  | empty (T : Addr) (x : Str) (n : fe S ns = some x) (eT : H' T = some (.tup [.str "empty", .str x])) : Kp ns S H H' (.ref T)
  | crowd (T l : Addr) (c : List Str) (n : fe S ns = Option.none) (eT : H' T = some (.tup [.str "crowd", .ref l])) (nl : H l = Option.none) (el : H' l = some (.lst (c.map V.str))) (cr : IsCr ns S c) (gr : Det ns S c) : Kp ns S H H' (.ref T)
theorem Kp.same {ns : List Str} {S : Str → List Int} {H H1 H2 : Hp} {v : V} (h : Kp ns S H H1 v) (s : Same H1 H2) : Kp ns S H H2 v := by
  cases h with
  | none f => exact .none f
  | empty T x n eT => exact .empty T x n (s _ _ eT)
  | crowd T l c n eT nl el cr gr => exact .crowd T l c n (s _ _ eT) nl (s _ _ el) cr gr
theorem Tol.keep {ns : List Str} {S : Str → List Int} {H H1 : Hp} {s : Addr} {v : V} (h : Tol ns S H v) (st : Strm H s) (k : Keep s H H1) : Tol ns S H1 v := by
  cases h with
  | none f => exact .none f
  | empty T x n eT => exact .empty T x n (keep_tup' st k eT)
  | crowd T r c n eT er cr gr => exact .crowd T r c n (keep_tup' st k eT) (k _ _ (str_ne st er) er) cr gr
section
variable {P : Program} {w : World} {K : PySem.W.Frag} {mg : Str → Option Value} {base : Heap}
abbrev sKpt : Stmt := topS 49
abbrev nKpt : List Str := ["_law_told"]
theorem scKpt : FnScope nKpt ["_law_told"] (defScope sKpt) := ⟨rfl, rfl, rfl, by decide +kernel, rfl, by decide +kernel, by decide +kernel⟩
def spKpt : Sp := fun vs H Q _ => ∃ (v : V) (ns : List Str) (S : Str → List Int), vs = [v] ∧ Tol ns S H v ∧
  ∀ (H' : Hp) (v' : V), Same H H' → Kp ns S H H' v' → Q v' H'
theorem ok_Kpt {f  : Addr} {fd  : FuncData} (F : Fun K "_law_kept" "_law_kept" sKpt f fd) (B : Bt mg) :
    FnOk P w K mg base CX0 1 f fd ["_law_told"] spKpt := by
  refine F.ok scKpt (fun vs H Q E h => ?_) (fun cdv A outer s H vs Q E hr h => ?_)
  · obtain ⟨v, ns, S, rfl, _⟩ := h
    rfl
  · obtain ⟨v, ns, S, rfl, tol, q⟩ := h
    have hu := hu_of hr
    have nd := scKpt.nd
    refine ⟨_, pss_cons (ps_if (PW.pt (pw_or (pt_cmp (pc_isN (pv 0))) (pw_or1 (pt_cmpR op_eq (pe_ix ix_tup (pv 0) pe_int (fun _ _ => rfl)) pe_str rfl))))
        (pss_one (ps_ret (pv 0)))
        pss_nil)
      (pss_one (ps_ret (pe_tup (pa_cons (pe_ix ix_tup (pv 0) pe_int (fun _ _ => rfl)) (pa_cons (pe_callTy call_list_of (by rfl) B.list PyProof.Rows.boot_list (pa_cons (pe_ix ix_tup (pv 0) pe_int (fun _ _ => rfl)) pa_nil)) pa_nil))))), ?_⟩
    cases tol with
    | none f => exact ⟨_, rfl, _, rfl, ite_both (fun _ => ⟨_, rfl, q _ _ (fun _ _ e => e) (.none f)⟩) fun c => absurd c (by simp)⟩
    | empty T x n eT =>
      refine ⟨_, rfl, _, rfl, ite_both (fun c => absurd c (by simp)) fun _ => ⟨_, rfl, T, _, _, .str "empty", rfl, rfl, .inl (.inl eT), atI_nat (j := 0) rfl, rfl, _, rfl, iteT ?_⟩⟩
      exact ⟨_, rfl, q _ _ (fun _ _ e => e) (.empty T x n eT)⟩
    | crowd T r c n eT er cr gr =>
      refine ⟨_, rfl, _, rfl, ite_both (fun c => absurd c (by simp)) fun _ => ⟨_, rfl, T, _, _, .str "crowd", rfl, rfl, .inl (.inl eT), atI_nat (j := 0) rfl, rfl, _, rfl, iteF ?_⟩⟩
      refine ⟨_, rfl, T, _, _, .str "crowd", rfl, rfl, .inl (.inl eT), atI_nat (j := 0) rfl, _, rfl, T, _, _, .ref r, rfl, rfl, .inl (.inl eT), atI_nat (j := 1) rfl, r, _, rfl, .inl (sl_map er), fun Y nY => ⟨by show 2 ≤ sizeLine; decide, fun Z nZ => ?_⟩⟩
      exact q _ _ ((same_new nY).trans (same_new nZ)) (.crowd Z Y c n upd_same nY (same_new nZ _ _ upd_same) cr gr)
abbrev sAho : Stmt := topS 47
abbrev nAho : List Str := ["_law_rule", "_law_scope_here", "_law_sides_here", "_law_free_here", "_law_passed", "_law_certificate", "_law_handed", "_law_told"]
theorem scAho : FnScope nAho ["_law_rule", "_law_scope_here", "_law_sides_here", "_law_free_here"] (defScope sAho) := ⟨rfl, rfl, rfl, by decide +kernel, rfl, by decide +kernel, by decide +kernel⟩
def spAho (C : Addr) : Sp := fun vs H Q _ => ∃ (p sc b fr : Addr) (ns : List Str) (L : List Ent) (S : Str → List Int) (ts : List Tr), vs = [.ref p, .ref sc, .ref b, .ref fr] ∧ Ul C H p ns ∧ H sc = some (.lst (ns.map V.str)) ∧ ns.length ≤ 30 ∧ Bu H b L ∧ Fit L ns S ∧ (∀ g ∈ L, Srt g.2.2 ∧ g.2.2.length ≤ 30) ∧ TrL H fr ts ∧ ts.length ≤ 60 ∧
  ∀ H', Same H H' → Q (.bl true) H'
theorem ok_Aho {f f0 f1 f2 f3 f4 C : Addr} {fd fd0 fd1 fd2 fd3 fd4 : FuncData} (F : Fun K "_law_accepting_holds" "_law_accepting_holds" sAho f fd) (B : Bt mg) (T : Kls K mg "Unlike" C uF) (Ccp : Call P w K mg base 1 "_law_copied" f0 fd0 ["_law_sides_here"] spCopy)
    (CCon : Call P w K mg base 1 "_law_content" f1 fd1 ["_law_certificate"] spCon) (Ac : CallM P w K mg base 4 C "accepts" f2 fd2 ["self", "box", "certificate"] (spAcc C)) (CRds : Call P w K mg base 1 "_law_reads" f3 fd3 ["_law_scope_here", "_law_sides_here", "_law_certificate"] spRds)
    (Csa : Call P w K mg base 3 "_law_same_sides" f4 fd4 ["_law_actual", "_law_expected"] spSame) : FnOk P w K mg base CX0 5 f fd ["_law_rule", "_law_scope_here", "_law_sides_here", "_law_free_here"] (spAho C) := by
  refine F.ok scAho (fun vs H Q E h => ?_) (fun cdv A outer s H vs Q E hr h => ?_)
  · obtain ⟨p, sc, b, fr, ns, L, S, ts, rfl, _⟩ := h
    rfl
  · obtain ⟨p, sc, b, fr, ns, L, S, ts, rfl, ul, es, few, bx, fit, ok, tr, lts, q⟩ := h
    have hu := hu_of hr
    have nd := scAho.nd
    refine ⟨_, pss_cons (ps_set (i := 4) nd rfl (.inl rfl) (pe_call Ccp.ok (hr.mono (by decide)) (by rfl) Ccp.at_ Ccp.kp Ccp.bd .nil pass0 (pa_cons (pv 2) pa_nil)))
      (pss_cons (ps_for PassesOwn.never rfl (pi_list (pv 3)) (pg_name (i := 5) nd rfl (.inl rfl))
        (pss_cons (ps_set (i := 6) nd rfl (.inl rfl) (pe_tup (pa_cons (pe_ix ix_tup (pv 5) pe_int (fun _ _ => rfl)) (pa_cons (pe_call CCon.ok (hr.mono (by decide)) (by rfl) CCon.at_ CCon.kp CCon.bd .nil pass0 (pa_cons (pv 5) pa_nil)) pa_nil))))
          (pss_cons (ps_set (i := 7) nd rfl (.inl rfl) (pe_meth (pv 0) T.cl Ac.mt Ac.ok (hr.mono (by decide)) Ac.bd .nil pass0 (pa_cons (pv 4) (pa_cons (pv 6) pa_nil))))
          (pss_one (ps_if (PW.pt (pw_or (pt_not (pt_val (pe_callB call_isi (by rfl) B.isi PyProof.Rows.boot_isinstance (pa_cons (pv 7) (pa_cons (pe_bltn (by rfl) B.bool PyProof.Rows.boot_bool (v := .ty "bool") rfl) pa_nil))))) (pw_or (pt_cmpR op_ne (pv 7) (pe_call CRds.ok (hr.mono (by decide)) (by rfl) CRds.at_ CRds.kp CRds.bd .nil pass0 (pa_cons (pv 1) (pa_cons (pv 2) (pa_cons (pv 5) pa_nil)))) rfl) (pw_or1 (pt_cmpR (op_neTw hr.units) (pv 6) (pv 5) rfl)))))
            (pss_one (ps_ret pe_bl))
            pss_nil)))))
      (pss_one (ps_ret (pe_call Csa.ok (hr.mono (by decide)) (by rfl) Csa.at_ Csa.kp Csa.bd .nil pass0 (pa_cons (pv 4) (pa_cons (pv 2) pa_nil)))))), ?_⟩
    have sd := sds_of fit ok
    refine ⟨_, rfl, b, L, rfl, bx, fun H2 d M s2 nbM sh => ?_⟩
    have fitM : Fit M ns S := fun x hx => (shape_same sh x).trans (fit x hx)
    refine ⟨_, rfl, fr, rfl, ⟨_, sl_map (s2 _ _ tr.lst)⟩, for_list (xs := ts.map fun t => V.ref t.1) (fun i σ H' => ∃ (y5 y6 y7 : Option V), σ = [some (.ref p), some (.ref sc), some (.ref b), some (.ref fr), some (.ref d), y5, y6, y7] ∧ Same H2 H') ⟨none, none, none, rfl, fun _ _ e => e⟩ (fun i σ H' _ h => by obtain ⟨_, _, _, _, h⟩ := h; exact sl_map (h _ _ (s2 _ _ tr.lst))) ?_ ?_⟩
    · rintro i x0 σ H1 hx ⟨y5, y6, y7, rfl, s1⟩
      rw [List.getElem?_map] at hx
      obtain ⟨⟨T0, w, c⟩, hu1, rfl⟩ := Option.map_eq_some_iff.mp hx
      have S1 := s2.trans s1
      obtain ⟨eT, cn⟩ := (tr.same S1).al _ (List.mem_of_getElem? hu1)
      refine ⟨_, rfl, T0, _, _, .str w, rfl, rfl, .inl (.inl eT), atI_nat (j := 0) rfl, _, rfl, T0, w, c, rfl, eT, cn, fun H3 c' s3 dup => ⟨by show 2 ≤ sizeLine; decide, fun Tp nT => ?_⟩⟩
      have s4 := same_new (o := HO.tup [V.str w, c']) nT
      have dup4 := dup.same s4
      obtain ⟨r, cr1, cr2⟩ := dup4.crt (ns := ns) (S := S)
      have s14 := s1.trans (s3.trans s4)
      have S4 := s2.trans s14
      obtain ⟨dx, ta, hp, _⟩ := id (ul.same S4)
      refine ⟨_, rfl, p, dx, _, rfl, hp, ul_no (by decide +kernel) _, _, rfl, _, rfl, p, d, Tp, ns, M, S, w, c', r, rfl, ul.same S4, few, nbM.toBu.same' s14, fitM, sd, upd_same, cr2, fun H5 s5 => ?_⟩
      have S5 := S4.trans s5
      refine ⟨_, rfl, .bl r, .ty "bool", .type "bool", .type "bool", true, rfl, .ty _, .base (.bl _), kit_ty (by decide +kernel), true, rfl, iteF ?_⟩
      refine ⟨_, rfl, _, rfl, _, rfl, _, rfl, sc, b, T0, ns, L, S, w, c, r, rfl, S5 _ _ es, bx.same' S5, fit, sd, s5 _ _ (s4 _ _ (s3 _ _ eT)), cr1.same s5, fun H6 s6 => ⟨rfl, _, rfl, ite_both (fun z => absurd z (by simp)) fun _ => ?_⟩⟩
      have s56 := s5.trans s6
      exact ⟨_, rfl, _, rfl, Tp, T0, .str w, c', .str w, c, rfl, rfl, .inl (.inl (s56 _ _ upd_same)), .inl (.inl (s56 _ _ (s4 _ _ (s3 _ _ eT)))), .inl ⟨rfl, trivial⟩, (dup4.same s56).lke, false, rfl, iteF ⟨_, _, _, rfl, s14.trans s56⟩⟩
    rintro σ H1 ⟨y5, y6, y7, rfl, s1⟩
    have S1 := s2.trans s1
    have z : Sz M 30 := Sz.shape ⟨fun e he => (ok e he).1, fun e he => (ok e he).2⟩ sh
    exact ⟨_, rfl, _, rfl, d, b, M, L, rfl, nbM.toBu.same' s1, bx.same' S1, shape_same sh, fun g hg => ⟨z.srt g hg, Nat.le_trans (z.len g hg) (by decide)⟩, fun H' s' => q _ (S1.trans s')⟩
abbrev sBh : Stmt := topS 48
abbrev nBh : List Str := ["_law_rule", "_law_scope_here", "_law_walked", "_law_sides_here", "_law_pool_here", "_law_stream_here", "_law_passed", "_law_told", "_law_crowd"]
theorem scBh : FnScope nBh ["_law_rule", "_law_scope_here", "_law_walked", "_law_sides_here", "_law_pool_here", "_law_stream_here"] (defScope sBh) := ⟨rfl, rfl, rfl, by decide +kernel, rfl, by decide +kernel, by decide +kernel⟩
def spBh (C : Addr) : Sp := fun vs H Q _ => ∃ (p sc wk b pl s : Addr) (ns ws : List Str) (L : List Ent) (S : Str → List Int) (ps : List Int) (k : Nat), vs = [.ref p, .ref sc, .ref wk, .ref b, .ref pl, .ref s] ∧ Ul C H p ns ∧ H sc = some (.lst (ns.map V.str)) ∧ H wk = some (.lst (ws.map V.str)) ∧ ws.Perm ns ∧ ns.Nodup ∧ 1 ≤ ns.length ∧ ns.length ≤ 16 ∧ Bu H b L ∧ Fit L ns S ∧ (∀ g ∈ L, Srt g.2.2 ∧ g.2.2.length ≤ 30) ∧ (∀ g ∈ L, g.2.1 ≠ s) ∧ (∀ x ∈ ns, (S x).length ≤ k) ∧ 1 ≤ k ∧ k ≤ 30 ∧ k ^ ns.length ≤ 65536 ∧ H pl = some (.lst (ps.map V.int)) ∧ pl ≠ s ∧ 1 ≤ ps.length ∧ ps.length ≤ 900 ∧ Strm H s ∧
  ∀ H', Keep s H H' → Strm H' s → Q (.bl true) H'
theorem ok_Bh {f f0 f1 f2 f3 f4 f5 f6 f7 C : Addr} {fd fd0 fd1 fd2 fd3 fd4 fd5 fd6 fd7 : FuncData} (F : Fun K "_law_box_holds" "_law_box_holds" sBh f fd) (B : Bt mg) (T : Kls K mg "Unlike" C uF) (Ccp : Call P w K mg base 1 "_law_copied" f0 fd0 ["_law_sides_here"] spCopy)
    (Ce : CallM P w K mg base 5 C "certificate" f1 fd1 ["self", "box"] (spCer C)) (Ac : CallM P w K mg base 4 C "accepts" f2 fd2 ["self", "box", "certificate"] (spAcc C)) (Csa : Call P w K mg base 3 "_law_same_sides" f3 fd3 ["_law_actual", "_law_expected"] spSame)
    (CTri : Call P w K mg base 3 "_law_told_right" f4 fd4 ["_law_scope_here", "_law_walked", "_law_sides_here", "_law_told"] spTri) (CPtg : Call P w K mg base 2 "_law_part" f5 fd5 ["_law_stream_here", "_law_side"] spPtg)
    (CFre : Call P w K mg base 3 "_law_free" f6 fd6 ["_law_stream_here", "_law_scope_here", "_law_sides_here", "_law_pool_here", "_law_crowd"] spFre) (CAho : Call P w K mg base 5 "_law_accepting_holds" f7 fd7 ["_law_rule", "_law_scope_here", "_law_sides_here", "_law_free_here"] (spAho C)) :
    FnOk P w K mg base CX0 6 f fd ["_law_rule", "_law_scope_here", "_law_walked", "_law_sides_here", "_law_pool_here", "_law_stream_here"] (spBh C) := by
  refine F.ok scBh (fun vs H Q E h => ?_) (fun cdv A outer s H vs Q E hr h => ?_)
  · obtain ⟨p, sc, wk, b, pl, s, ns, ws, L, S, ps, k, rfl, _⟩ := h
    rfl
  · obtain ⟨p, sc, wk, b, pl, s, ns, ws, L, S, ps, k, rfl, ul, es, ew, pm, nn, n1, n16, bx, fit, ok, away, kS, k1, k30, kb, ep, pls, p1, p900, hs, q⟩ := h
    have hu := hu_of hr
    have nd := scBh.nd
    refine ⟨_, pss_cons (ps_set (i := 6) nd rfl (.inl rfl) (pe_call Ccp.ok (hr.mono (by decide)) (by rfl) Ccp.at_ Ccp.kp Ccp.bd .nil pass0 (pa_cons (pv 3) pa_nil)))
      (pss_cons (ps_set (i := 7) nd rfl (.inl rfl) (pe_meth (pv 0) T.cl Ce.mt Ce.ok (hr.mono (by decide)) Ce.bd .nil pass0 (pa_cons (pv 6) pa_nil)))
      (pss_cons (ps_if (PW.pt (pw_or (pt_not (pt_val (pe_call Csa.ok (hr.mono (by decide)) (by rfl) Csa.at_ Csa.kp Csa.bd .nil pass0 (pa_cons (pv 6) (pa_cons (pv 3) pa_nil))))) (pw_or1 (pt_not (pt_val (pe_call CTri.ok (hr.mono (by decide)) (by rfl) CTri.at_ CTri.kp CTri.bd .nil pass0 (pa_cons (pv 1) (pa_cons (pv 2) (pa_cons (pv 3) (pa_cons (pv 7) pa_nil))))))))))
        (pss_one (ps_ret pe_bl))
        pss_nil)
      (pss_cons (ps_set (i := 8) nd rfl (.inl rfl) (pe_call CPtg.ok (hr.mono (by decide)) (by rfl) CPtg.at_ CPtg.kp CPtg.bd .nil pass0 (pa_cons (pv 5) (pa_cons (pv 1) pa_nil))))
      (pss_cons (ps_if (pt_cmp (pc_notN (pv 7)))
        (pss_cons (ps_if (pt_cmpR op_isnot_bl (pe_meth (pv 0) T.cl Ac.mt Ac.ok (hr.mono (by decide)) Ac.bd .nil pass0 (pa_cons (pv 6) (pa_cons (pv 7) pa_nil))) pe_bl rfl)
            (pss_one (ps_ret pe_bl))
            pss_nil)
          (pss_one (ps_if (pt_cmpR op_eq (pe_ix ix_tup (pv 7) pe_int (fun _ _ => rfl)) pe_str rfl)
            (pss_one (ps_set (i := 8) nd rfl (.inl rfl) (pe_callTy call_list_of (by rfl) B.list PyProof.Rows.boot_list (pa_cons (pe_ix ix_tup (pv 7) pe_int (fun _ _ => rfl)) pa_nil))))
            pss_nil)))
        pss_nil)
      (pss_one (ps_ret (pe_call CAho.ok (hr.mono (by decide)) (by rfl) CAho.at_ CAho.kp CAho.bd .nil pass0 (pa_cons (pv 0) (pa_cons (pv 1) (pa_cons (pv 3) (pa_cons (pe_call CFre.ok (hr.mono (by decide)) (by rfl) CFre.at_ CFre.kp CFre.bd .nil pass0 (pa_cons (pv 5) (pa_cons (pv 1) (pa_cons (pv 3) (pa_cons (pv 4) (pa_cons (pv 8) pa_nil)))))) pa_nil))))))))))), ?_⟩
    have sd := sds_of fit ok
    refine ⟨_, rfl, b, L, rfl, bx, fun H2 d M s2 nbM sh => ?_⟩
    have fitM : Fit M ns S := fun x hx => (shape_same sh x).trans (fit x hx)
    have z : Sz M 30 := Sz.shape ⟨fun e he => (ok e he).1, fun e he => (ok e he).2⟩ sh
    obtain ⟨dx, ta, hp, _⟩ := id (ul.same s2)
    refine ⟨_, rfl, p, dx, _, rfl, hp, ul_no (by decide +kernel) _, _, rfl, p, d, ns, M, S, rfl, ul.same s2, nn, by omega, nbM.toBu, fitM, sd, fun H3 v s3 cto => ?_⟩
    have tol := cto.tol
    have S3 := s2.trans s3
    have nb3 := nbM.push s3
    refine ⟨_, rfl, _, rfl, d, b, M, L, rfl, nb3.toBu, bx.same' S3, shape_same sh, fun g hg => ⟨z.srt g hg, Nat.le_trans (z.len g hg) (by decide)⟩, fun H4 s4 => ⟨true, rfl, iteF ?_⟩⟩
    have S4 := S3.trans s4
    refine ⟨_, rfl, _, rfl, _, rfl, _, rfl, sc, wk, b, v, ns, ws, L, S, k, rfl, S4 _ _ es, S4 _ _ ew, pm, nn, by omega, bx.same' S4, fit, sd, kS, k1, k30, kb, tol.same s4, fun H5 s5 => ⟨true, rfl, iteF ?_⟩⟩
    have S5 := S4.trans s5
    have tol5 := (tol.same s4).same s5
    have nb5 := (nb3.push s4).push s5
    have st5 : Strm H5 s := by obtain ⟨x, y, w, e⟩ := hs; exact ⟨x, y, w, S5 _ _ e⟩
    have es5 := S5 _ _ es
    have awM : ∀ g ∈ M, g.2.1 ≠ s := fun g hg z => hs.some (z ▸ nbM.freshS g hg)
    refine ⟨_, rfl, _, rfl, Str, V.str, s, sc, ns, rfl, st5, es5, (str_ne st5 es5).symm, by omega, fun H6 l ms k6 nl st6 el sub => ?_⟩
    have tol6 := tol5.keep st5 k6
    have bM6 : Bu H6 d M := nb5.toBu.keep st5 k6 awM
    have K6 : Keep s H H6 := (Keep.same S5).trans k6
    have ul6 := ul_keep ul hs K6
    have lms := sub.length_le
    clear tol5 nb5 nb3 tol cto S5 s5 S4 s4 S3 s3 hp
    refine' with_restS (fun σ H' => ∃ (cr : Addr) (c : List Str), σ = [some (.ref p), some (.ref sc), some (.ref wk), some (.ref b), some (.ref pl), some (.ref s), some (.ref d), some v, some (.ref cr)] ∧ Keep s H H' ∧ Strm H' s ∧ H' cr = some (.lst (c.map V.str)) ∧ c.length ≤ 16) ?r1 (fun rest => ⟨_, rfl, _, rfl, ite_both (fun c => ?g1) fun _ => rest _ _ ⟨l, ms, rfl, K6, st6, el, by omega⟩⟩)
    case' g1 =>
      obtain ⟨T0, rfl⟩ : ∃ T0, v = .ref T0 := by
        cases tol6 with
        | none f => exact absurd c (by simp)
        | empty T x n eT => exact ⟨_, rfl⟩
        | crowd T r c n eT er cr gr => exact ⟨_, rfl⟩
      obtain ⟨w, c0, eT, cr, nf⟩ := tol6.crt (by omega)
      obtain ⟨dx, ta, hp, _⟩ := id ul6
      refine ⟨_, rfl, p, dx, _, rfl, hp, ul_no (by decide +kernel) _, _, rfl, _, rfl, p, d, T0, ns, M, S, w, c0, true, rfl, ul6, by omega, bM6, fitM, sd, eT, cr, fun H7 s7 => ⟨true, true, rfl, rfl, _, rfl, ite_both (fun z => absurd z (by simp)) fun _ => ?_⟩⟩
      have K7 := K6.trans (Keep.same s7)
      have st7 : Strm H7 s := by obtain ⟨x, y, w, e⟩ := st6; exact ⟨x, y, w, s7 _ _ e⟩
      cases tol6 with
      | empty _ x n eT' =>
        refine ⟨_, rfl, T0, _, _, .str "empty", rfl, rfl, .inl (.inl (s7 _ _ eT')), atI_nat (j := 0) rfl, rfl, _, rfl, ite_both (fun z => absurd (V.str.inj (of_decide_eq_true z)) (by decide +kernel)) fun _ => ?_⟩
        exact rest _ _ ⟨l, ms, rfl, K7, st7, s7 _ _ el, by omega⟩
      | crowd _ r cc n eT' er cr' gr =>
        have lc := List.Nodup.length_le_of_subset cr'.2.1 fun x hx => cr'.1 x hx
        refine ⟨_, rfl, T0, _, _, .str "crowd", rfl, rfl, .inl (.inl (s7 _ _ eT')), atI_nat (j := 0) rfl, rfl, _, rfl, iteT ?_⟩
        refine ⟨_, rfl, T0, _, _, .ref r, rfl, rfl, .inl (.inl (s7 _ _ eT')), atI_nat (j := 1) rfl, r, _, rfl, .inl (sl_map (s7 _ _ er)), fun Y nY => ?_⟩
        exact rest _ _ ⟨Y, cc, rfl, K7.trans (Keep.same (same_new nY)), st7.upd (fun z => st7.some (z ▸ nY)), upd_same, by omega⟩
    clear lms ul6 bM6 tol6 el st6 k6 K6
    rintro σ H7 ⟨cr, c, rfl, K7, st7, ec, c16⟩
    have es7 := K7 _ _ (str_ne hs es) es
    refine ⟨_, rfl, _, rfl, _, rfl, _, rfl, _, rfl, _, rfl, _, rfl, _, rfl, s, sc, b, pl, cr, ns, c, L, ps, rfl, st7, es7, n1, n16, bx.keep hs K7 away, K7 _ _ pls ep, pls, p1, p900, ec, c16, fun H8 fr ts k8 st8 tr lt => ?_⟩
    have K8 := K7.trans k8
    exact ⟨p, sc, b, fr, ns, L, S, ts, rfl, ul_keep ul hs K8, K8 _ _ (str_ne hs es) es, by omega, bx.keep hs K8 away, fit, ok, tr, lt, fun H' s' => q _ (K8.trans (Keep.same s')) (by obtain ⟨x, y, w, e⟩ := st8; exact ⟨x, y, w, s' _ _ e⟩)⟩
end
end K57
set_option Elab.async false
set_option linter.all false
set_option maxRecDepth 100000
set_option maxHeartbeats 4000000
namespace K57
open PySem PySem.Spec PyProof.Rows L2 Cs CsX
section
variable {P : Program} {w : World} {K : PySem.W.Frag} {mg : Str → Option Value} {base : Heap}
abbrev sChh : Stmt := topS 50
abbrev nChh : List Str := ["_law_rule", "_law_scope_here", "_law_walked", "_law_sides_here", "_law_others", "_law_lent", "_law_name", "_law_value"]
theorem scChh : FnScope nChh ["_law_rule", "_law_scope_here", "_law_walked", "_law_sides_here", "_law_others"] (defScope sChh) := ⟨rfl, rfl, rfl, by decide +kernel, rfl, by decide +kernel, by decide +kernel⟩
def spChh (C : Addr) : Sp := fun vs H Q _ => ∃ (p sc wk b o : Addr) (ns ws : List Str) (L1 L2 : List Ent) (S1 S2 : Str → List Int) (k : Nat), vs = [.ref p, .ref sc, .ref wk, .ref b, .ref o] ∧ Ul C H p ns ∧ H sc = some (.lst (ns.map V.str)) ∧ H wk = some (.lst (ws.map V.str)) ∧ ws.Perm ns ∧ ns.Nodup ∧ ns.length ≤ 16 ∧ Bu H b L1 ∧ Fit L1 ns S1 ∧ (∀ g ∈ L1, Srt g.2.2 ∧ g.2.2.length ≤ 30) ∧ Bu H o L2 ∧ Fit L2 ns S2 ∧ (∀ g ∈ L2, Srt g.2.2 ∧ g.2.2.length ≤ 30) ∧ (∀ x ∈ ns, (S1 x).length ≤ k) ∧ (∀ x ∈ ns, (S2 x).length ≤ k) ∧ 1 ≤ k ∧ k ≤ 30 ∧ k ^ ns.length ≤ 65536 ∧
  ∀ H', Same H H' → Q (.bl true) H'
theorem ok_Chh {f f0 f1 f4 C : Addr} {fd fd0 fd1 fd4 : FuncData} (F : Fun K "_law_changed_holds" "_law_changed_holds" sChh f fd) (B : Bt mg) (T : Kls K mg "Unlike" C uF) (Ccp : Call P w K mg base 1 "_law_copied" f0 fd0 ["_law_sides_here"] spCopy)
    (Ce : CallM P w K mg base 5 C "certificate" f1 fd1 ["self", "box"] (spCer C)) (CTri : Call P w K mg base 3 "_law_told_right" f4 fd4 ["_law_scope_here", "_law_walked", "_law_sides_here", "_law_told"] spTri) :
    FnOk P w K mg base CX0 6 f fd ["_law_rule", "_law_scope_here", "_law_walked", "_law_sides_here", "_law_others"] (spChh C) := by
  refine F.ok scChh (fun vs H Q E h => ?_) (fun cdv A outer s H vs Q E hr h => ?_)
  · obtain ⟨p, sc, wk, b, o, ns, ws, L1, L2, S1, S2, k, rfl, _⟩ := h
    rfl
  · obtain ⟨p, sc, wk, b, o, ns, ws, L1, L2, S1, S2, k, rfl, ul, es, ew, pm, nn, n16, bx1, fit1, ok1, bx2, fit2, ok2, k1S, k2S, k1, k30, kb, q⟩ := h
    have hu := hu_of hr
    have nd := scChh.nd
    refine ⟨_, pss_cons (ps_set (i := 5) nd rfl (.inl rfl) (pe_call Ccp.ok (hr.mono (by decide)) (by rfl) Ccp.at_ Ccp.kp Ccp.bd .nil pass0 (pa_cons (pv 3) pa_nil)))
      (pss_cons (ps_if (pt_not (pt_val (pe_call CTri.ok (hr.mono (by decide)) (by rfl) CTri.at_ CTri.kp CTri.bd .nil pass0 (pa_cons (pv 1) (pa_cons (pv 2) (pa_cons (pv 3) (pa_cons (pe_meth (pv 0) T.cl Ce.mt Ce.ok (hr.mono (by decide)) Ce.bd .nil pass0 (pa_cons (pv 5) pa_nil)) pa_nil)))))))
        (pss_one (ps_ret pe_bl))
        pss_nil)
      (pss_cons (ps_for PassesOwn.never rfl (pi_list (pv 1)) (pg_name (i := 6) nd rfl (.inl rfl))
        (pss_cons (ps_expr (pe_bm0 PySem.F.plainAttrs_list PySem.F.slot_list_clear PySem.F.type_list_clear mt_clear (pe_dget hu (pv 5) (pv 6) (fun _ _ => rfl))))
          (pss_one (ps_for PassesOwn.never rfl (pi_list (pe_dget hu (pv 4) (pv 6) (fun _ _ => rfl))) (pg_name (i := 7) nd rfl (.inl rfl))
            (pss_one (ps_expr (pe_bm PySem.F.plainAttrs_list PySem.F.slot_list_append PySem.F.type_list_append mt_append (pe_dget hu (pv 5) (pv 6) (fun _ _ => rfl)) (pa_cons (pv 7) pa_nil))))))))
      (pss_one (ps_ret (pe_call CTri.ok (hr.mono (by decide)) (by rfl) CTri.at_ CTri.kp CTri.bd .nil pass0 (pa_cons (pv 1) (pa_cons (pv 2) (pa_cons (pv 4) (pa_cons (pe_meth (pv 0) T.cl Ce.mt Ce.ok (hr.mono (by decide)) Ce.bd .nil pass0 (pa_cons (pv 5) pa_nil)) pa_nil))))))))), ?_⟩
    have sd1 := sds_of fit1 ok1
    have sd2 := sds_of fit2 ok2
    refine ⟨_, rfl, b, L1, rfl, bx1, fun H2 d M s2 nbM sh => ?_⟩
    have fitM : Fit M ns S1 := fun x hx => (shape_same sh x).trans (fit1 x hx)
    obtain ⟨dx, ta, hp, _⟩ := id (ul.same s2)
    refine ⟨_, rfl, _, rfl, _, rfl, _, rfl, p, dx, _, rfl, hp, ul_no (by decide +kernel) _, _, rfl, p, d, ns, M, S1, rfl, ul.same s2, nn, by omega, nbM.toBu, fitM, sd1, fun H3 v s3 cto => ?_⟩
    have S3 := s2.trans s3
    refine ⟨sc, wk, b, v, ns, ws, L1, S1, k, rfl, S3 _ _ es, S3 _ _ ew, pm, nn, by omega, bx1.same' S3, fit1, sd1, k1S, k1, k30, kb, cto.tol, fun H4 s4 => ⟨true, rfl, iteF ?_⟩⟩
    have S4 := S3.trans s4
    have nb4 := (nbM.push s3).push s4
    clear cto S3 s3 s4 hp
    refine ⟨_, rfl, sc, rfl, ⟨_, sl_map (S4 _ _ es)⟩, for_list (xs := ns.map V.str) (fun i σ H' => ∃ (y6 y7 : Option V) (M' : List Ent), σ = [some (.ref p), some (.ref sc), some (.ref wk), some (.ref b), some (.ref o), some (.ref d), y6, y7] ∧ Same H H' ∧ Nb H H' d M' ∧ Fit M' ns (fun x => if x ∈ ns.take i then S2 x else S1 x)) ⟨none, none, M, rfl, S4, nb4, fun x hx => by show _ = some (if x ∈ [] then S2 x else S1 x); rw [if_neg (fun h => nomatch h)]; exact fitM x hx⟩ (fun i σ H' _ h => by obtain ⟨_, _, _, _, h, _⟩ := h; exact sl_map (h _ _ es)) ?_ ?_⟩
    · rintro i x0 σ H1 hx ⟨y6, y7, M', rfl, s1, nb, fitM'⟩
      rw [List.getElem?_map] at hx
      obtain ⟨x, hv, rfl⟩ := Option.map_eq_some_iff.mp hx
      have xn := List.mem_of_getElem? hv
      obtain ⟨e, he, e2⟩ := Option.map_eq_some_iff.mp (fitM' x xn)
      obtain ⟨em, e1⟩ := getE_mem he
      have hm : (x, e.2.1, e.2.2) ∈ M' := by rw [← e1]; exact em
      have a0n : H e.2.1 = none := nb.freshS _ em
      obtain ⟨ga, ea⟩ := nb.dget hm
      refine ⟨_, rfl, _, rfl, d, .ref e.2.1, rfl, ga, .inl ⟨rfl, _, sl_map ea⟩, e.2.1, _, rfl, rfl, ea, ?_⟩
      have S5 := same_at (o := HO.lst []) s1 a0n
      have nb5 : Nb H (upd H1 e.2.1 (.lst [])) d (repl M' x []) := nb.repl (ks := []) hm
      obtain ⟨g, hg, ge⟩ := fit2.at_ (b := o) xn
      have go := fun {H' : Hp} (s : Same H H') => ge (bx2.same' s)
      refine ⟨_, rfl, _, rfl, o, .ref g.2.1, rfl, (go S5).1, g.2.1, rfl, ⟨_, sl_map (go S5).2⟩, for_list (xs := (S2 x).map V.int) (fun j σ H' => ∃ (y7 : Option V), σ = [some (.ref p), some (.ref sc), some (.ref wk), some (.ref b), some (.ref o), some (.ref d), some (.str x), y7] ∧ Same H H' ∧ Nb H H' d (repl M' x ((S2 x).take j)))
        ⟨_, rfl, S5, nb5⟩ (fun j σ H' _ h => by obtain ⟨_, _, h, _⟩ := h; exact sl_map (go h).2) ?_ ?_⟩
      · rintro j v0 σ H6 hv0 ⟨y7, rfl, s6, nb6⟩
        rw [List.getElem?_map] at hv0
        obtain ⟨v, hv1, rfl⟩ := Option.map_eq_some_iff.mp hv0
        obtain ⟨ga6, ea6⟩ := nb6.dget (repl_in hm)
        refine ⟨_, rfl, _, rfl, d, .ref e.2.1, rfl, ga6, .inl ⟨rfl, _, sl_map ea6⟩, _, rfl, e.2.1, _, _, rfl, rfl, ea6, by rw [List.length_map, List.length_take]; have := sd2.few x xn; exact small1000 (by omega), _, rfl, same_at s6 a0n, ?_⟩
        have := nb6.repl (ks := (S2 x).take (j + 1)) (repl_in hm)
        rw [repl_repl, take_snoc hv1, List.map_append] at this
        rw [take_snoc hv1]
        exact this
      · rintro σ H6 ⟨y7, rfl, s6, nb6⟩
        rw [List.length_map, List.take_length] at nb6
        refine ⟨_, _, _, rfl, s6, nb6, fun y hy => ?_⟩
        show _ = some (if y ∈ ns.take (i + 1) then S2 y else S1 y)
        by_cases c : y = x
        · rw [if_pos (by rw [c, take_snoc hv]; exact List.mem_append_right _ (List.mem_singleton.mpr rfl)), c]
          exact look_in nb6.nd (repl_in hm)
        · rw [look_repl c]
          have h := fitM' y hy
          by_cases m : y ∈ ns.take i
          · rw [if_pos (by rw [take_snoc hv]; exact List.mem_append_left _ m)]
            rw [h]; show some (if y ∈ ns.take i then S2 y else S1 y) = _; rw [if_pos m]
          · rw [if_neg (by rw [take_snoc hv]; intro z; rcases List.mem_append.mp z with z | z; exact m z; exact c (List.mem_singleton.mp z))]
            rw [h]; show some (if y ∈ ns.take i then S2 y else S1 y) = _; rw [if_neg m]
    rintro σ H1 ⟨y6, y7, M', rfl, s1, nb, fitM'⟩
    rw [List.length_map, List.take_length] at fitM'
    have fitE : Fit M' ns S2 := fun x hx => by
      have h := fitM' x hx
      rw [h]; show some (if x ∈ ns then S2 x else S1 x) = _; rw [if_pos hx]
    obtain ⟨dx, ta, hp, _⟩ := id (ul.same s1)
    refine ⟨_, rfl, _, rfl, _, rfl, _, rfl, p, dx, _, rfl, hp, ul_no (by decide +kernel) _, _, rfl, p, d, ns, M', S2, rfl, ul.same s1, nn, by omega, nb.toBu, fitE, sd2, fun H3 v s3 cto => ?_⟩
    have S3 := s1.trans s3
    exact ⟨sc, wk, o, v, ns, ws, L2, S2, k, rfl, S3 _ _ es, S3 _ _ ew, pm, nn, by omega, bx2.same' S3, fit2, sd2, k2S, k1, k30, kb, cto.tol, fun H4 s4 => q _ (S3.trans s4)⟩
end
end K57
set_option Elab.async false
set_option linter.all false
set_option maxRecDepth 100000
set_option maxHeartbeats 4000000
namespace K57
open PySem PySem.Spec PyProof.Rows L2 Cs CsX
theorem cps_inj {a b : Str} (h : a.cps.toList = b.cps.toList) : a = b := by
  cases a; cases b; simp at h; rw [h]
theorem srtS_pw : ∀ {p : Str} {l : List Str}, risingS p l = true → (p :: l).Pairwise (fun a b => ¬ b.cps.toList < a.cps.toList)
  | p, [], _ => List.pairwise_singleton _ _
  | p, x :: r, h => by
    have h2 : (!ltCps x.cps.toList p.cps.toList && risingS x r) = true := h
    obtain ⟨h3, h4⟩ := Bool.and_eq_true_iff.mp h2
    have ih := srtS_pw h4
    have hx : ¬ x.cps.toList < p.cps.toList := by
      rw [ltCps_eq] at h3; simpa using h3
    refine List.pairwise_cons.mpr ⟨fun y hy => ?_, ih⟩
    rcases List.mem_cons.mp hy with rfl | hy
    · exact hx
    · have h5 := (List.pairwise_cons.mp ih).1 y hy
      rw [List.not_lt] at hx h5 ⊢
      exact List.le_trans hx h5
theorem sortedS_one {l m : List Str} (hl : sortedS l = true) (hm : sortedS m = true) (p : l.Perm m) : l = m := by
  have pw : ∀ {l : List Str}, sortedS l = true → l.Pairwise (fun a b => ¬ b.cps.toList < a.cps.toList) := fun {l} h => by
    cases l with
    | nil => exact .nil
    | cons x r => exact srtS_pw h
  exact List.Perm.eq_of_pairwise (fun a b _ _ h1 h2 => cps_inj (List.le_antisymm (List.not_lt.mp h1) (List.not_lt.mp h2))) (pw hl) (pw hm) p
section
variable {P : Program} {w : World} {K : PySem.W.Frag} {mg : Str → Option Value} {base : Heap}
abbrev sDh : Stmt := topS 51
abbrev nDh : List Str := ["_law_stream_here", "_law_names_here", "_law_pool_here", "_law_rule", "_law_lent", "_law_name", "_law_told", "_law_value"]
theorem scDh : FnScope nDh ["_law_stream_here"] (defScope sDh) := ⟨rfl, rfl, rfl, by decide +kernel, rfl, by decide +kernel, by decide +kernel⟩
def spDh : Sp := fun vs H Q _ => ∃ (s : Addr), vs = [.ref s] ∧ Strm H s ∧ ∀ H', Q (.bl true) H'
theorem ok_Dh {f C f0 f1 f2 f3 f4 f5 f6 : Addr} {fd fd0 fd1 fd2 fd3 fd4 fd5 fd6 : FuncData} (F : Fun K "_law_dense_holds" "_law_dense_holds" sDh f fd) (B : Bt mg) (ztuple : mg "tuple" = none) (T : Kls K mg "Unlike" C uF) (D : Call P w K mg base 1 "_law_next" f0 fd0 ["_law_stream_here", "_law_size"] spDraw)
    (Cpo : Call P w K mg base 2 "_law_pool" f1 fd1 ["_law_stream_here", "_law_count"] spPool) (CMn : Call P w K mg base 2 "_law_many_names" f2 fd2 ["_law_stream_here", "_law_count"] spMn) (CSf : Call P w K mg base 2 "_law_shuffled" f3 fd3 ["_law_stream_here", "_law_things"] spSf)
    (MU : CallN P w K mg base 2 C f4 fd4 ["self", "names"] (spUin C)) (Ce : CallM P w K mg base 5 C "certificate" f5 fd5 ["self", "box"] (spCer C)) (Ac : CallM P w K mg base 4 C "accepts" f6 fd6 ["self", "box", "certificate"] (spAcc C)) :
    FnOk P w K mg base CX0 6 f fd ["_law_stream_here"] spDh := by
  refine F.ok scDh (fun vs H Q E h => ?_) (fun cdv A outer s H vs Q E hr h => ?_)
  · obtain ⟨s, rfl, _⟩ := h
    rfl
  · obtain ⟨s, rfl, hs, q⟩ := h
    have hu := hu_of hr
    have nd := scDh.nd
    refine ⟨_, pss_cons (ps_set (i := 1) nd rfl (.inl rfl) (pe_call CMn.ok (hr.mono (by decide)) (by rfl) CMn.at_ CMn.kp CMn.bd .nil pass0 (pa_cons (pv 0) (pa_cons (pe_op op_add pe_int (pe_call D.ok (hr.mono (by decide)) (by rfl) D.at_ D.kp D.bd .nil pass0 (pa_cons (pv 0) (pa_cons pe_int pa_nil)))) pa_nil))))
      (pss_cons (ps_set (i := 2) nd rfl (.inl rfl) (pe_call Cpo.ok (hr.mono (by decide)) (by rfl) Cpo.at_ Cpo.kp Cpo.bd .nil pass0 (pa_cons (pv 0) (pa_cons (pe_callB call_len_seq (by rfl) B.len PySem.boot_len (pa_cons (pv 1) pa_nil)) pa_nil))))
      (pss_cons (ps_set (i := 3) nd rfl (.inl rfl) (pe_make MU.mkr MU.ok (hr.mono (by decide)) (by rfl) T.gC MU.bd .nil pass0 (pa_cons (pe_call CSf.ok (hr.mono (by decide)) (by rfl) CSf.at_ CSf.kp CSf.bd .nil pass0 (pa_cons (pv 0) (pa_cons (pv 1) pa_nil))) pa_nil)))
      (pss_cons (ps_set (i := 4) nd rfl (.inl rfl) pe_dnewK)
      (pss_cons (ps_for PassesOwn.never rfl (pi_list (pv 1)) (pg_name (i := 5) nd rfl (.inl rfl))
        (pss_one (ps_dput hu (pv 4) (pv 5) (pe_slice sl_list (pv 2) (po_some pe_int) po_none) rfl)))
      (pss_cons (ps_set (i := 6) nd rfl (.inl rfl) (pe_meth (pv 3) T.cl Ce.mt Ce.ok (hr.mono (by decide)) Ce.bd .nil pass0 (pa_cons (pv 4) pa_nil)))
      (pss_cons (ps_if (PW.pt (pw_or (pt_not (pt_val (pe_callB call_isi (by rfl) B.isi PyProof.Rows.boot_isinstance (pa_cons (pv 6) (pa_cons (pe_bltn (by rfl) ztuple PyProof.Rows.boot_tuple (v := .ty "tuple") rfl) pa_nil))))) (pw_or (pt_cmpR op_ne (pe_ix ix_tup (pv 6) pe_int (fun _ _ => rfl)) pe_str rfl) (pw_or1 (pt_cmpR (op_neV hr.units) (pe_callB cr_sortedS (by rfl) B.sorted PyProof.Rows.boot_sorted (pa_cons (pe_ix ix_tup (pv 6) pe_int (fun _ _ => rfl)) pa_nil)) (pe_callB cr_sortedS (by rfl) B.sorted PyProof.Rows.boot_sorted (pa_cons (pv 1) pa_nil)) rfl)))))
        (pss_one (ps_ret pe_bl))
        pss_nil)
      (pss_cons (ps_if (pt_cmpR op_isnot_bl (pe_meth (pv 3) T.cl Ac.mt Ac.ok (hr.mono (by decide)) Ac.bd .nil pass0 (pa_cons (pv 4) (pa_cons (pv 6) pa_nil))) pe_bl rfl)
        (pss_one (ps_ret pe_bl))
        pss_nil)
      (pss_cons (ps_expr (pe_bm0 PySem.F.plainAttrs_list PySem.F.slot_list_clear PySem.F.type_list_clear mt_clear (pe_dget hu (pv 4) (pe_ix ix_list (pv 1) pe_int (fun _ _ => rfl)) (fun _ _ => rfl))))
      (pss_cons (ps_for PassesOwn.never rfl (pi_list (pv 2)) (pg_name (i := 7) nd rfl (.inl rfl))
        (pss_one (ps_expr (pe_bm PySem.F.plainAttrs_list PySem.F.slot_list_append PySem.F.type_list_append mt_append (pe_dget hu (pv 4) (pe_ix ix_list (pv 1) pe_int (fun _ _ => rfl)) (fun _ _ => rfl)) (pa_cons (pv 7) pa_nil)))))
      (pss_one (ps_ret (L2.pe_and (pe_cmp (pc_isN (pe_meth (pv 3) T.cl Ce.mt Ce.ok (hr.mono (by decide)) Ce.bd .nil pass0 (pa_cons (pv 4) pa_nil))) rfl) (pe_one (pe_cmpR op_is_bl (pe_meth (pv 3) T.cl Ac.mt Ac.ok (hr.mono (by decide)) Ac.bd .nil pass0 (pa_cons (pv 4) (pa_cons (pe_tup (pa_cons pe_str (pa_cons (pv 1) pa_nil))) pa_nil))) pe_bl rfl)))))))))))))), ?_⟩
    refine ⟨_, rfl, _, rfl, s, 4, rfl, hs, by decide, by decide, fun H2 y o2 st2 y0 y1 => ⟨10, y, rfl, rfl, ?_⟩⟩
    obtain ⟨j, rfl⟩ : ∃ j : Nat, y = (j : Int) := ⟨y.toNat, by omega⟩
    refine ⟨s, 10 + j, by show [V.ref s, V.int (10 + (j : Int))] = [V.ref s, V.int ((10 + j : Nat) : Int)]; rw [show ((10 + j : Nat) : Int) = 10 + (j : Int) by omega], st2, by omega, fun H3 nm xs k3 nnm st3 en3 lxs nn _ => ?_⟩
    have nms : nm ≠ s := fun z => st2.some (z ▸ nnm)
    refine ⟨_, rfl, _, rfl, nm, _, rfl, .inl (sl_map en3), s, xs.length, by rw [List.length_map] <;> rfl, st3, by omega, by omega, fun H4 pl ps k4 npl st4 ep4 srt lps => ?_⟩
    have pls : pl ≠ s := fun z => st3.some (z ▸ npl)
    have x13 : xs.length ≤ 13 := by omega
    have x10 : 10 ≤ xs.length := by omega
    have en4 := k4 _ _ nms en3
    refine ⟨_, rfl, _, rfl, Str, V.str, s, nm, xs, rfl, st4, en4, by omega, nms.symm, fun H5 zl zs k5 nzl st5 ezl pmz => ?_⟩
    have zn : zs.Nodup := pmz.nodup_iff.mpr nn
    have lz := pmz.length_eq
    have en5 := k5 _ _ nms en4
    have ep5 := k5 _ _ pls ep4
    refine fun p dx nu ndx ne => ⟨p, dx, zl, zs, rfl, upd_same, same_at (same_new ndx) nu _ _ ezl, ?_, zn, by omega, fun H6 ul kp => ⟨rfl, ?_⟩⟩
    · intro z; rw [z] at lz; have : ([] : List Str).length = 0 := rfl; omega
    have s6 : Same H5 H6 := fun b o e => kp b o (ne_some' e nu) (by rw [upd_ne (ne_some' e nu)]; exact same_new ndx _ _ e)
    have st6 : Strm H6 s := by obtain ⟨x, y, w, e⟩ := st5; exact ⟨x, y, w, s6 _ _ e⟩
    have en6 := s6 _ _ en5
    have ep6 := s6 _ _ ep5
    clear kp s6 ndx nu ne ezl st5 nzl k5 en5 ep5 en4 ep4 st4 npl k4 en3 st3 nnm k3 st2 o2 y0 y1 H5 H4 H3 H2
    obtain ⟨H8, e8⟩ : ∃ H8, H8 = H6 := ⟨_, rfl⟩
    rw [← e8] at ul st6 en6 ep6 ⊢
    have ul8 := ul
    have en8 := en6
    have ep8 := ep6
    clear e8
    obtain ⟨p0, tl, rfl⟩ : ∃ p0 tl, ps = p0 :: tl := by
      cases ps with
      | nil => have h0 : ([] : List Int).length = 0 := rfl; omega
      | cons a b => exact ⟨a, b, rfl⟩
    have ltl : tl.length + 1 = xs.length := lps
    refine fun d nd0 => ?_
    obtain ⟨H9, e9, s9, nb9⟩ : ∃ H9, upd H8 d (.dK []) = H9 ∧ Same H8 H9 ∧ Nb H8 H9 d [] := ⟨_, rfl, same_new nd0, Nb.nil nd0 upd_same⟩
    rw [e9]
    refine ⟨_, rfl, nm, rfl, ⟨_, sl_map (s9 _ _ en8)⟩, for_list (xs := xs.map V.str) (fun i σ H' => ∃ (y7 : Option V) (M : List Ent), σ = [some (.ref s), some (.ref nm), some (.ref pl), some (.ref p), some (.ref d), y7, none, none] ∧ Same H8 H' ∧ Nb H8 H' d M ∧ M.map (·.1) = xs.take i ∧ ∀ e ∈ M, e.2.2 = tl)
      ⟨none, [], rfl, s9, nb9, rfl, fun _ h => nomatch h⟩ (fun i σ H' _ h => by obtain ⟨_, _, _, h, _⟩ := h; exact sl_map (h _ _ en8)) ?_ ?_⟩
    · rintro i x0 σ H1 hx0 ⟨y7, M, rfl, s1, nb1, keys, sd⟩
      rw [List.getElem?_map] at hx0
      obtain ⟨x, hx1, rfl⟩ := Option.map_eq_some_iff.mp hx0
      have hi := (List.getElem?_eq_some_iff.mp hx1).1
      have lM : M.length = i := by have := congrArg List.length keys; rw [List.length_map, List.length_take] at this; omega
      refine ⟨_, rfl, _, rfl, pl, _, rfl, sl_map (s1 _ _ ep8), fun Y nY => ?_⟩
      rw [show cutV ((p0 :: tl).map V.int) (some 1) none = tl.map V.int from (cutV_from ((p0 :: tl).map V.int) 1).trans rfl]
      have s2 := same_new (o := HO.lst (tl.map V.int)) nY
      have nx : x ∉ M.map (·.1) := by rw [keys]; exact not_take nn hx1
      refine ⟨_, rfl, _, rfl, d, _, rfl, DPut.k (k := .inr x) (s2 _ _ nb1.un) (by rw [entK_len]; exact small1000 (by omega)), ?_⟩
      rw [putK_ent]
      refine ⟨_, putE M x Y tl, rfl, ?_, nb1.put (s1.free nY) nY s2 upd_same (by omega), ?_, fun e he => ?_⟩
      · exact same_at (s1.trans s2) nb1.fresh
      · rw [putE_keys, if_neg nx, keys, take_snoc hx1]
      · rcases putE_mem he with h | ⟨h, _⟩
        · rw [h]
        · exact sd e h
    rintro σ H1 ⟨y7, M, rfl, s1, nb1, keys, sd⟩
    rw [List.length_map, List.take_length] at keys
    clear e9 s9 nb9 nd0 H9
    have lM : M.length = xs.length := by rw [← keys, List.length_map]
    have ent : ∀ x ∈ xs, ∃ a, (x, a, tl) ∈ M := fun x hx => by
      rw [← keys] at hx
      obtain ⟨⟨x', a, s'⟩, he, rfl⟩ := List.mem_map.mp hx
      exact ⟨a, by have h := sd _ he; rw [show s' = tl from h] at he; exact he⟩
    have ndK : (M.map (·.1)).Nodup := nb1.nd
    have fit0 : Fit M zs fun _ => tl := fun x hx => by
      obtain ⟨a, ha⟩ := ent x (pmz.mem_iff.mp hx)
      exact look_in ndK ha
    have srtl : Srt tl := (List.pairwise_cons.mp srt).2
    have sds0 : Sds zs fun _ => tl := ⟨fun _ _ => srtl, fun _ _ => by omega⟩
    have ul1 := ul8.same s1
    obtain ⟨dx, ta, hp, _⟩ := id ul1
    have lz30 : zs.length ≤ 30 := by omega
    refine ⟨_, rfl, p, dx, _, rfl, hp, ul_no (by decide +kernel) _, _, rfl, p, d, zs, M, fun _ => tl, rfl, ul1, zn, lz30, nb1.toBu, fit0, sds0, fun H2 v s2 cto => ?_⟩
    have bare : ¬ Feas zs fun _ => tl := fun ⟨g, G⟩ => by
      have := List.Nodup.length_le_of_subset (nd_mapO zn G.inj) (l₂ := tl) fun v hv => by
        obtain ⟨x, hx, rfl⟩ := List.mem_map.mp hv
        exact G.mem x hx
      rw [List.length_map] at this
      omega
    cases cto with
    | none n f => exact absurd f bare
    | empty T0 x n nT eT =>
      have := (fe_some n).2
      have h2 : tl.length = 0 := congrArg List.length this
      omega
    | crowd T0 r c n nT eT nr er cr gr =>
      have lc : c.length = zs.length := by
        obtain ⟨sub, ndc, Kk, nK, memK, ltK⟩ := id cr
        have h1 := List.Nodup.length_le_of_subset ndc fun x hx => sub x hx
        have ntl := srt_ndI srtl
        obtain ⟨x1, hx1⟩ : ∃ x, x ∈ c := by
          cases c with
          | nil => exact absurd ltK (Nat.not_lt_zero _)
          | cons u t => exact ⟨u, List.mem_cons_self⟩
        have h2 : tl.length = Kk.length := ((List.perm_ext_iff_of_nodup ntl nK).mpr fun v => by
          rw [memK]; exact ⟨fun h => ⟨x1, hx1, h⟩, fun ⟨_, _, h⟩ => h⟩).length_eq
        omega
      have pc : c.Perm xs := by
        refine List.Perm.trans ?_ pmz
        refine (List.perm_ext_iff_of_nodup cr.2.1 zn).mpr fun x => ⟨cr.1 x, fun hx => Decidable.byContradiction fun z => ?_⟩
        have := List.Nodup.length_le_of_subset (List.nodup_cons.mpr ⟨z, cr.2.1⟩) (l₂ := zs) fun u hu => by
          rcases List.mem_cons.mp hu with h | h
          · rw [h]; exact hx
          · exact cr.1 u h
        rw [List.length_cons] at this
        omega
      have S2 := s1.trans s2
      have nb2 := nb1.push s2
      have ul2 := ul8.same S2
      refine ⟨_, rfl, .ref T0, .ty "tuple", .type "tuple", .type "tuple", true, rfl, .ty _, .base (.tup eT), kit_ty (by decide +kernel), true, rfl, iteF ?_⟩
      refine ⟨_, rfl, T0, _, _, .str "crowd", rfl, rfl, .inl (.inl eT), atI_nat (j := 0) rfl, rfl, _, rfl, ite_both (fun z => absurd z (by simp)) fun _ => ?_⟩
      refine ⟨_, rfl, T0, _, _, .ref r, rfl, rfl, .inl (.inl eT), atI_nat (j := 1) rfl, r, c, rfl, sl_map er, by omega, fun ys1 q1 pm1 so1 n1 => ?_⟩
      have t1 := same_new (o := HO.lst (ys1.map V.str)) n1
      refine ⟨_, rfl, nm, xs, rfl, sl_map (t1 _ _ (S2 _ _ en8)), by omega, fun ys2 q2 pm2 so2 n2 => ?_⟩
      have t2 := same_new (o := HO.lst (ys2.map V.str)) n2
      have yy : ys2 = ys1 := sortedS_one so2 so1 (pm2.trans (pc.symm.trans pm1.symm))
      refine ⟨q1, q2, _, _, rfl, rfl, sl_map (t2 _ _ upd_same), sl_map upd_same, ⟨1, by decide, by rw [yy]; exact paired_strs _⟩, false, rfl, iteF ?_⟩
      have t12 := t1.trans t2
      have S3 := S2.trans t12
      have ul3 := ul8.same S3
      have nb3 := nb2.push t12
      have eT3 := t12 _ _ eT
      have er3 := t12 _ _ er
      obtain ⟨H3, e3⟩ : ∃ H3, upd (upd H2 q1 (.lst (ys1.map V.str))) q2 (.lst (ys2.map V.str)) = H3 := ⟨_, rfl⟩
      rw [e3] at S3 ul3 nb3 eT3 er3 ⊢
      clear e3 t12 t2 t1 n1 n2 nb2 S2 nb1 ul2
      obtain ⟨dx, ta, hp, _⟩ := id ul3
      refine ⟨_, rfl, p, dx, _, rfl, hp, ul_no (by decide +kernel) _, _, rfl, _, rfl, p, d, T0, zs, M, fun _ => tl, "crowd", .ref r, true, rfl, ul3, lz30, nb3.toBu, fit0, sds0, eT3, .crowd r c true er3 (by omega) ⟨fun _ => cr, fun _ => rfl⟩, fun H4 s4 => ⟨true, true, rfl, rfl, _, rfl, ite_both (fun z => absurd z (by simp)) fun _ => ?_⟩⟩
      have S4 := S3.trans s4
      have nb4 := nb3.push s4
      clear er3 eT3 nb3 ul3 s4 S3 er nr eT nT gr n hp
      obtain ⟨name, hname⟩ : ∃ x, xs[0]? = some x := ⟨_, List.getElem?_eq_getElem (by omega)⟩
      have nin := List.mem_of_getElem? hname
      have hnv : (xs.map V.str)[0]? = some (.str name) := by rw [List.getElem?_map, hname] <;> rfl
      obtain ⟨a0, hm⟩ := ent name nin
      obtain ⟨ga, ea⟩ := nb4.dget hm
      have a0n : H8 a0 = none := nb4.freshS _ hm
      refine ⟨_, rfl, _, rfl, nm, _, _, .str name, rfl, rfl, sl_map (S4 _ _ en8), atI_nat (j := 0) hnv, d, .ref a0, rfl, ga, .inl ⟨rfl, _, sl_map ea⟩, a0, _, rfl, rfl, ea, ?_⟩
      have S5 := same_at (o := HO.lst []) S4 a0n
      have nb5 : Nb H8 (upd H4 a0 (.lst [])) d (repl M name []) := nb4.repl (ks := []) hm
      refine ⟨_, rfl, pl, rfl, ⟨_, sl_map (S5 _ _ ep8)⟩, for_list (xs := (p0 :: tl).map V.int) (fun i σ H' => ∃ (y8 : Option V), σ = [some (.ref s), some (.ref nm), some (.ref pl), some (.ref p), some (.ref d), y7, some (.ref T0), y8] ∧ Same H8 H' ∧ Nb H8 H' d (repl M name ((p0 :: tl).take i)))
        ⟨none, rfl, S5, nb5⟩ (fun i σ H' _ h => by obtain ⟨_, _, h, _⟩ := h; exact sl_map (h _ _ ep8)) ?_ ?_⟩
      · rintro i x0 σ H1 hx0 ⟨y8, rfl, s1, nb⟩
        rw [List.getElem?_map] at hx0
        obtain ⟨v, hv, rfl⟩ := Option.map_eq_some_iff.mp hx0
        have hi := (List.getElem?_eq_some_iff.mp hv).1
        obtain ⟨ga, ea⟩ := nb.dget (repl_in hm)
        refine ⟨_, rfl, _, rfl, nm, _, _, .str name, rfl, rfl, sl_map (s1 _ _ en8), atI_nat (j := 0) hnv, d, .ref a0, rfl, ga, .inl ⟨rfl, _, sl_map ea⟩, _, rfl, a0, _, _, rfl, rfl, ea, by rw [List.length_map, List.length_take]; exact small1000 (by omega), _, rfl, same_at s1 a0n, ?_⟩
        have := nb.repl (ks := (p0 :: tl).take (i + 1)) (repl_in hm)
        rw [repl_repl, take_snoc hv, List.map_append] at this
        rw [take_snoc hv]
        exact this
      clear S5 nb5 ga ea S4 nb4 H4
      rintro σ H5 ⟨y8, rfl, s5, nb5⟩
      rw [List.length_map, List.take_length] at nb5
      have mz := fun x => (pmz.mem_iff (a := x))
      have nd1 : ((repl M name (p0 :: tl)).map (·.1)).Nodup := nb5.nd
      have fit1 : Fit (repl M name (p0 :: tl)) zs (fun x => if x = name then p0 :: tl else tl) := fun x hx => by
        by_cases c : x = name
        · show _ = some (if x = name then p0 :: tl else tl)
          rw [if_pos c, c]; exact look_in nd1 (repl_in hm)
        · show _ = some (if x = name then p0 :: tl else tl)
          rw [if_neg c, look_repl c]; exact fit0 x hx
      have sds1 : Sds zs (fun x => if x = name then p0 :: tl else tl) := by
        have lp : (p0 :: tl).length = tl.length + 1 := rfl
        refine ⟨fun x hx => ?_, fun x hx => ?_⟩
        · show Srt (if x = name then p0 :: tl else tl)
          split
          · exact srt
          · exact srtl
        · show (if x = name then p0 :: tl else tl).length ≤ 30
          split <;> omega
      have feas : Feas zs (fun x => if x = name then p0 :: tl else tl) := by
        have nz := (mz name).mpr nin
        have pme := List.perm_cons_erase nz
        obtain ⟨g, hg⟩ := pick (ns := name :: zs.erase name) (L := p0 :: tl) (pme.nodup_iff.mp zn) (by rw [← pme.length_eq]; show zs.length = tl.length + 1; omega)
        have pg : (zs.map g).Perm (p0 :: tl) := by rw [← hg]; exact pme.map g
        rw [List.map_cons] at hg
        have h0 := (List.cons.inj hg).1
        have h1 := (List.cons.inj hg).2
        refine ⟨g, fun x hx => ?_, inj_of (pg.nodup_iff.mpr (srt_ndI srt))⟩
        show g x ∈ (if x = name then p0 :: tl else tl)
        by_cases c : x = name
        · rw [if_pos c, c, h0]; exact List.mem_cons_self
        · rw [if_neg c, ← h1]
          exact List.mem_map.mpr ⟨x, (List.mem_erase_of_ne c).mpr hx, rfl⟩
      obtain ⟨dx, ta, hp, _⟩ := id (ul8.same s5)
      refine ⟨_, rfl, p, dx, _, rfl, hp, ul_no (by decide +kernel) _, _, rfl, p, d, zs, _, _, rfl, ul8.same s5, zn, lz30, nb5.toBu, fit1, sds1, fun H6 v s6 cto => ?_⟩
      obtain rfl : v = .non := by
        cases cto with
        | none n f => rfl
        | empty T1 x n nT eT => exact absurd feas (empty_bare n)
        | crowd T1 r1 c1 n nT eT nr er cr gr => exact absurd feas (crowd_bare cr)
      have S6 := s5.trans s6
      have nb6 := nb5.push s6
      refine ⟨_, rfl, iteT ?_⟩
      obtain ⟨dx, ta, hp, _⟩ := id (ul8.same S6)
      refine ⟨_, rfl, p, dx, _, rfl, hp, ul_no (by decide +kernel) _, _, rfl, _, rfl, by show 2 ≤ sizeLine; decide, fun T1 nT1 => ?_⟩
      have s7 := same_new (o := HO.tup [V.str "crowd", .ref nm]) nT1
      have S7 := S6.trans s7
      exact ⟨p, d, T1, zs, _, _, "crowd", .ref nm, false, rfl, ul8.same S7, lz30, (nb6.push s7).toBu, fit1, sds1, upd_same, .crowd nm xs false (S7 _ _ en8) (by omega) ⟨(fun z => nomatch z), fun z => absurd feas (crowd_bare z)⟩, fun H8' s8 => ⟨false, false, rfl, rfl, q _⟩⟩
end
end K57
set_option Elab.async false
set_option linter.all false
set_option maxRecDepth 100000
set_option maxHeartbeats 4000000
namespace K57
open PySem PySem.Spec PyProof.Rows L2 Cs CsX
theorem filtS_snoc {A : List Str} {i : Nat} {e : Str} {p : Str → Bool} (h : A[i]? = some e) : (A.take (i + 1)).filter p = (A.take i).filter p ++ (if p e = true then [e] else []) := by
  rw [take_snoc h, List.filter_append, List.filter_cons, List.filter_nil]
/-- the names without the first, if there are more -/
def restOf (ns : List Str) : List Str := ns.filter fun x => !decide (x = ns.headD "") || decide (ns.length = 1)
theorem rest_ne {ns : List Str} (nn : ns.Nodup) (n1 : 1 ≤ ns.length) : restOf ns ≠ [] := by
  unfold restOf
  intro z
  rw [List.filter_eq_nil_iff] at z
  match ns, n1 with
  | [x], _ => exact z x List.mem_cons_self (by simp)
  | x :: y :: t, _ =>
    have : y ≠ x := fun e => (List.nodup_cons.mp nn).1 (e ▸ List.mem_cons_self)
    exact z y (List.mem_cons_of_mem _ List.mem_cons_self) (by simp [this])
theorem rest_sub {ns : List Str} : (restOf ns).Sublist ns := List.filter_sublist
theorem fewer_perm {ns ws R : List Str} (pm : ws.Perm ns) (nn : ns.Nodup) (sb : R.Sublist ns) : (ws.filter fun x => decide (x ∈ R)).Perm R := by
  refine (List.perm_ext_iff_of_nodup ((pm.nodup_iff.mpr nn).sublist List.filter_sublist) (nn.sublist sb)).mpr fun x => ?_
  rw [List.mem_filter, decide_eq_true_iff]
  exact ⟨fun h => h.2, fun h => ⟨pm.mem_iff.mpr (sb.subset h), h⟩⟩
theorem op_orI {X : Cx} {f : Value → Value → Sem Value} {r r' : R2} (a : OpR X f r) (b : OpR X f r') : OpR X f (fun x y H Q => r x y H Q ∨ r' x y H Q) :=
  fun pins s σ H x y v u Q I rx ry h => h.elim (a pins s σ H x y v u Q I rx ry) (b pins s σ H x y v u Q I rx ry)
theorem kp_upd {ns : List Str} {S : Str → List Int} {H H1 : Hp} {v : V} {r : Addr} {xs : List V} {o : HO} (h : Kp ns S H H1 v) (er : H1 r = some (.lst xs)) (hr : H r ≠ none) : Kp ns S H (upd H1 r o) v := by
  have tn : ∀ {T : Addr} {ys : List V}, H1 T = some (.tup ys) → T ≠ r := fun e z => by rw [z, er] at e; cases e
  cases h with
  | none f => exact .none f
  | empty T x n eT => exact .empty T x n (by rw [upd_ne (tn eT)]; exact eT)
  | crowd T l c n eT nl el cr gr => exact .crowd T l c n (by rw [upd_ne (tn eT)]; exact eT) nl (by rw [upd_ne fun z => hr (by rw [← z]; exact nl)]; exact el) cr gr
theorem kp_ne {K : PySem.W.Frag} {ns : List Str} {S : Str → List Int} {H H0 H1 : Hp} {v u : V} (h : Kp ns S H H1 v) (g : Kp ns S H0 H1 u) (Q : VK) (q : Q (.bl false) H1) : rNe v u H1 Q ∨ rNeTw K v u H1 Q := by
  cases h with
  | none f =>
    cases g with
    | none f' => exact .inl ⟨rfl, by rw [decide_eq_true rfl]; exact q⟩
    | empty T x n eT => exact absurd f (empty_bare n)
    | crowd T l c n eT nl el cr gr => exact absurd f (crowd_bare cr)
  | empty T x n eT =>
    cases g with
    | none f' => exact absurd f' (empty_bare n)
    | empty T' x' n' eT' =>
      rw [n] at n'
      obtain rfl := Option.some.inj n'
      exact .inr ⟨T, T', _, _, _, _, rfl, rfl, .inl (.inl eT), .inl (.inl eT'), .inl ⟨rfl, trivial⟩, .inl ⟨rfl, trivial⟩, q⟩
    | crowd T' l c n' eT' nl el cr gr => rw [n] at n'; cases n'
  | crowd T l c n eT nl el cr gr =>
    cases g with
    | none f' => exact absurd f' (crowd_bare cr)
    | empty T' x' n' eT' => rw [n] at n'; cases n'
    | crowd T' l' c' n' eT' nl' el' cr' gr' =>
      obtain rfl := gr.one gr'
      exact .inr ⟨T, T', _, _, _, _, rfl, rfl, .inl (.inl eT), .inl (.inl eT'), .inl ⟨rfl, trivial⟩, .flats el el' (simp_strs _), q⟩
section
variable {P : Program} {w : World} {K : PySem.W.Frag} {mg : Str → Option Value} {base : Heap}
abbrev sLaw : Stmt := topS 52
abbrev nLaw : List Str := ["_law_script", "_law_world_here", "_law_scope_here", "_law_walked", "_law_sides_here", "_law_rule", "_law_told", "_law_kept_here", "_law_rest", "_law_fewer", "_law_other", "_law_again", "_law_last", "_law_name"]
theorem scLaw : FnScope nLaw ["_law_script"] (defScope sLaw) := ⟨rfl, rfl, rfl, by decide +kernel, rfl, by decide +kernel, by decide +kernel⟩
def spLaw (K : PySem.W.Frag) : Sp := fun vs H Q _ => ∃ (a : Addr) (ns : List Int), vs = [.ref a] ∧ SqL K H a (ns.map V.int) ∧ ns.length ≤ 63 ∧ ∀ H', Q (.bl true) H'
theorem ok_Law {f f0 f1 f2 f3 f4 f5 f6 f7 f8 f9 fa fb fc C : Addr} {fd fd0 fd1 fd2 fd3 fd4 fd5 fd6 fd7 fd8 fd9 fda fdb fdc : FuncData} (F : Fun K "law" "law" sLaw f fd) (B : Bt mg) (T : Kls K mg "Unlike" C uF)
    (CWor : Call P w K mg base 4 "_law_world" f0 fd0 ["_law_script"] (spWor K)) (Cst : Call P w K mg base 1 "_law_stream" f1 fd1 ["_law_script", "_law_k"] (spStream K)) (D : Call P w K mg base 1 "_law_next" f2 fd2 ["_law_stream_here", "_law_size"] spDraw)
    (CEmp : Call P w K mg base 2 "_law_emptied" f3 fd3 ["_law_stream_here", "_law_sides_here", "_law_scope_here"] spEmp) (MU : CallN P w K mg base 2 C f4 fd4 ["self", "names"] (spUin C)) (Ccp : Call P w K mg base 1 "_law_copied" f5 fd5 ["_law_sides_here"] spCopy)
    (Ce : CallM P w K mg base 5 C "certificate" f6 fd6 ["self", "box"] (spCer C)) (Ac : CallM P w K mg base 4 C "accepts" f7 fd7 ["self", "box", "certificate"] (spAcc C)) (CTri : Call P w K mg base 3 "_law_told_right" f8 fd8 ["_law_scope_here", "_law_walked", "_law_sides_here", "_law_told"] spTri)
    (CKpt : Call P w K mg base 1 "_law_kept" f9 fd9 ["_law_told"] spKpt) (CBh : Call P w K mg base 6 "_law_box_holds" fa fda ["_law_rule", "_law_scope_here", "_law_walked", "_law_sides_here", "_law_pool_here", "_law_stream_here"] (spBh C))
    (CChh : Call P w K mg base 6 "_law_changed_holds" fb fdb ["_law_rule", "_law_scope_here", "_law_walked", "_law_sides_here", "_law_others"] (spChh C)) (CDh : Call P w K mg base 6 "_law_dense_holds" fc fdc ["_law_stream_here"] spDh) :
    FnOk P w K mg base CX0 7 f fd ["_law_script"] (spLaw K) := by
  refine F.ok scLaw (fun vs H Q E h => ?_) (fun cdv A outer s H vs Q E hr h => ?_)
  · obtain ⟨a, ns, rfl, _⟩ := h
    rfl
  · obtain ⟨a, cs, rfl, ha, ln, q⟩ := h
    have hu := hu_of hr
    have nd := scLaw.nd
    refine ⟨_, pss_cons (ps_set (i := 1) nd rfl (.inl rfl) (pe_call CWor.ok (hr.mono (by decide)) (by rfl) CWor.at_ CWor.kp CWor.bd .nil pass0 (pa_cons (pv 0) pa_nil)))
      (pss_cons (ps_set (i := 2) nd rfl (.inr rfl) (pe_ix ix_list (pv 1) pe_int (fun _ _ => rfl)))
      (pss_cons (ps_set (i := 3) nd rfl (.inl rfl) (pe_ix ix_list (pv 1) pe_int (fun _ _ => rfl)))
      (pss_cons (ps_set (i := 4) nd rfl (.inl rfl) (pe_call CEmp.ok (hr.mono (by decide)) (by rfl) CEmp.at_ CEmp.kp CEmp.bd .nil pass0 (pa_cons (pe_call Cst.ok (hr.mono (by decide)) (by rfl) Cst.at_ Cst.kp Cst.bd .nil pass0 (pa_cons (pv 0) (pa_cons pe_int pa_nil))) (pa_cons (pe_ix ix_list (pv 1) pe_int (fun _ _ => rfl)) (pa_cons (pv 2) pa_nil)))))
      (pss_cons (ps_set (i := 5) nd rfl (.inl rfl) (pe_make MU.mkr MU.ok (hr.mono (by decide)) (by rfl) T.gC MU.bd .nil pass0 (pa_cons (pe_callTy call_list_of (by rfl) B.list PyProof.Rows.boot_list (pa_cons (pv 2) pa_nil)) pa_nil)))
      (pss_cons (ps_if (pt_not (pt_val (pe_call CBh.ok (hr.mono (by decide)) (by rfl) CBh.at_ CBh.kp CBh.bd .nil pass0 (pa_cons (pv 5) (pa_cons (pv 2) (pa_cons (pv 3) (pa_cons (pv 4) (pa_cons (pe_ix ix_list (pv 1) pe_int (fun _ _ => rfl)) (pa_cons (pe_call Cst.ok (hr.mono (by decide)) (by rfl) Cst.at_ Cst.kp Cst.bd .nil pass0 (pa_cons (pv 0) (pa_cons pe_int pa_nil))) pa_nil)))))))))
        (pss_one (ps_ret pe_bl))
        pss_nil)
      (pss_cons (ps_set (i := 6) nd rfl (.inl rfl) (pe_meth (pv 5) T.cl Ce.mt Ce.ok (hr.mono (by decide)) Ce.bd .nil pass0 (pa_cons (pe_call Ccp.ok (hr.mono (by decide)) (by rfl) Ccp.at_ Ccp.kp Ccp.bd .nil pass0 (pa_cons (pv 4) pa_nil)) pa_nil)))
      (pss_cons (ps_if (pt_not (pt_val (pe_call CTri.ok (hr.mono (by decide)) (by rfl) CTri.at_ CTri.kp CTri.bd .nil pass0 (pa_cons (pv 2) (pa_cons (pv 3) (pa_cons (pv 4) (pa_cons (pv 6) pa_nil)))))))
        (pss_one (ps_ret pe_bl))
        pss_nil)
      (pss_cons (ps_set (i := 7) nd rfl (.inl rfl) (pe_call CKpt.ok (hr.mono (by decide)) (by rfl) CKpt.at_ CKpt.kp CKpt.bd .nil pass0 (pa_cons (pv 6) pa_nil)))
      (pss_cons (ps_if (PW.pt (pw_and (pt_cmp (pc_notN (pv 6))) (pw_and1 (pt_cmpR op_eq (pe_ix ix_tup (pv 6) pe_int (fun _ _ => rfl)) pe_str rfl))))
        (pss_one (ps_expr (pe_bm PySem.F.plainAttrs_list PySem.F.slot_list_append PySem.F.type_list_append mt_append (pe_ix ix_tup (pv 6) pe_int (fun _ _ => rfl)) (pa_cons pe_str pa_nil))))
        pss_nil)
      (pss_cons (ps_set (i := 8) nd rfl (.inr rfl) (pe_lc (own := [("_law_name", 13)]) (g := gName 13) (tt := _) (te := tVar 13) rfl nd (pi_list (pv 2)) (blkOk_by (N := nLaw) (sc := defScope sLaw) (by decide +kernel)) (fun _ _ _ _ _ => pg_name (i := 13) nd rfl (.inl rfl)) (fun _ _ _ _ _ => pts_one (PW.pt (pw_or (pt_cmpR op_ne (pv 13) (pe_ix (r := rIxL K) ix_list (pv 2) pe_int (fun _ _ => rfl)) rfl) (pw_or1 (pt_cmpR op_eq (pe_callB (r := rLnS K) call_len_seq (by rfl) B.len PySem.boot_len (pa_cons (pv 2) pa_nil)) pe_int rfl)))))
          (fun _ _ _ _ _ => (pv 13))))
      (pss_cons (ps_setLc (i := 9) (own := [("_law_name", 13)]) (g := gName 13) (tt := _) (te := tVar 13) rfl nd rfl rfl (by rfl) (pi_list (pv 3)) (blkOk_by (N := nLaw) (sc := defScope sLaw) (by decide +kernel)) (fun _ _ _ _ _ => pg_name (i := 13) nd rfl (.inl rfl)) (fun _ _ _ _ _ => pts_one (pt_cmpR (r := rIn K false) op_in_seq (pv 13) (pv 8) rfl))
          (fun _ _ _ _ _ => (pv 13)))
      (pss_cons (ps_set (i := 10) nd rfl (.inl rfl) (pe_make MU.mkr MU.ok (hr.mono (by decide)) (by rfl) T.gC MU.bd .nil pass0 (pa_cons (pe_callTy call_list_of (by rfl) B.list PyProof.Rows.boot_list (pa_cons (pv 8) pa_nil)) pa_nil)))
      (pss_cons (ps_if (pt_not (pt_val (pe_call CBh.ok (hr.mono (by decide)) (by rfl) CBh.at_ CBh.kp CBh.bd .nil pass0 (pa_cons (pv 10) (pa_cons (pv 8) (pa_cons (pv 9) (pa_cons (pv 4) (pa_cons (pe_ix ix_list (pv 1) pe_int (fun _ _ => rfl)) (pa_cons (pe_call Cst.ok (hr.mono (by decide)) (by rfl) Cst.at_ Cst.kp Cst.bd .nil pass0 (pa_cons (pv 0) (pa_cons pe_int pa_nil))) pa_nil)))))))))
        (pss_one (ps_ret pe_bl))
        pss_nil)
      (pss_cons (ps_if (pt_not (pt_val (pe_call CBh.ok (hr.mono (by decide)) (by rfl) CBh.at_ CBh.kp CBh.bd .nil pass0 (pa_cons (pv 5) (pa_cons (pv 2) (pa_cons (pv 3) (pa_cons (pe_ix ix_list (pv 1) pe_int (fun _ _ => rfl)) (pa_cons (pe_ix ix_list (pv 1) pe_int (fun _ _ => rfl)) (pa_cons (pe_call Cst.ok (hr.mono (by decide)) (by rfl) Cst.at_ Cst.kp Cst.bd .nil pass0 (pa_cons (pv 0) (pa_cons pe_int pa_nil))) pa_nil)))))))))
        (pss_one (ps_ret pe_bl))
        pss_nil)
      (pss_cons (ps_set (i := 11) nd rfl (.inl rfl) (pe_meth (pv 5) T.cl Ce.mt Ce.ok (hr.mono (by decide)) Ce.bd .nil pass0 (pa_cons (pe_call Ccp.ok (hr.mono (by decide)) (by rfl) Ccp.at_ Ccp.kp Ccp.bd .nil pass0 (pa_cons (pv 4) pa_nil)) pa_nil)))
      (pss_cons (ps_if (PW.pt (pw_or (pt_not (pt_val (pe_call CTri.ok (hr.mono (by decide)) (by rfl) CTri.at_ CTri.kp CTri.bd .nil pass0 (pa_cons (pv 2) (pa_cons (pv 3) (pa_cons (pv 4) (pa_cons (pv 11) pa_nil))))))) (pw_or1 (pt_cmpR (op_orI op_ne (op_neTw hr.units)) (pe_call CKpt.ok (hr.mono (by decide)) (by rfl) CKpt.at_ CKpt.kp CKpt.bd .nil pass0 (pa_cons (pv 11) pa_nil)) (pv 7) rfl))))
        (pss_one (ps_ret pe_bl))
        pss_nil)
      (pss_cons (ps_if (PW.pt (pw_and (pt_cmp (pc_notN (pv 11))) (pw_and1 (pt_cmpR op_isnot_bl (pe_meth (pv 5) T.cl Ac.mt Ac.ok (hr.mono (by decide)) Ac.bd .nil pass0 (pa_cons (pe_call Ccp.ok (hr.mono (by decide)) (by rfl) Ccp.at_ Ccp.kp Ccp.bd .nil pass0 (pa_cons (pv 4) pa_nil)) (pa_cons (pv 11) pa_nil))) pe_bl rfl))))
        (pss_one (ps_ret pe_bl))
        pss_nil)
      (pss_cons (ps_if (pt_not (pt_val (pe_call CChh.ok (hr.mono (by decide)) (by rfl) CChh.at_ CChh.kp CChh.bd .nil pass0 (pa_cons (pv 5) (pa_cons (pv 2) (pa_cons (pv 3) (pa_cons (pv 4) (pa_cons (pe_ix ix_list (pv 1) pe_int (fun _ _ => rfl)) pa_nil))))))))
        (pss_one (ps_ret pe_bl))
        pss_nil)
      (pss_cons (ps_set (i := 12) nd rfl (.inl rfl) (pe_call Cst.ok (hr.mono (by decide)) (by rfl) Cst.at_ Cst.kp Cst.bd .nil pass0 (pa_cons (pv 0) (pa_cons pe_int pa_nil))))
      (pss_one (ps_ret (L2.pe_or (pe_cmpR op_lt (pe_call D.ok (hr.mono (by decide)) (by rfl) D.at_ D.kp D.bd .nil pass0 (pa_cons (pv 12) (pa_cons pe_int pa_nil))) pe_int rfl) (pe_one (pe_call CDh.ok (hr.mono (by decide)) (by rfl) CDh.at_ CDh.kp CDh.bd .nil pass0 (pa_cons (pv 12) pa_nil))))))))))))))))))))))))), ?_⟩
    refine ⟨_, rfl, a, cs, rfl, ha, fun H1 r pl sc wk b1 b2 ps ns ws L1 L2 S1 S2 k s1 nb1 W => ?_⟩
    refine ⟨_, rfl, r, _, _, .ref sc, rfl, rfl, sl_map W.er, atI_nat (j := 1) rfl, ?_⟩
    refine ⟨_, rfl, r, _, _, .ref wk, rfl, rfl, sl_map W.er, atI_nat (j := 2) rfl, ?_⟩
    have h1 := W.n1
    have h16 := W.n16
    have p20 := W.p20
    -- some sides emptied
    refine ⟨_, rfl, a, cs, 6, rfl, s1.seq ha, fun H2 q2 s2 nq2 st2 => ?_⟩
    refine ⟨_, rfl, r, _, _, .ref b1, rfl, rfl, sl_map (s2 _ _ W.er), atI_nat (j := 3) rfl, _, rfl, q2, b1, sc, ns, L1, S1, rfl, st2, ne_some' W.bu1.un nq2, ne_some' W.es nq2, s2 _ _ W.es, W.n1, by omega, W.bu1.same' s2, W.f1, fun g hg => ne_some' (W.bu1.sides g hg) nq2, W.s1, W.l1, fun H3 L1' S1' kp bu1 f1 ok1 le1 => ?_⟩
    have kk : ∀ {a : Addr} {xs : List V}, H1 a = some (.lst xs) → H3 a = some (.lst xs) := fun {a xs} e => kp a _ (ne_some' e nq2) (fun z => by have := W.bu1.un; rw [← z, e] at this; cases this) (s2 _ _ e)
    have S3 : Same H H3 := fun x o e => kp x o (ne_some' (s1 _ _ e) nq2) (ne_some' e nb1) (s2 _ _ (s1 _ _ e))
    have un2 : H3 b2 = some (.dK (entK L2)) := kp b2 _ (ne_some' W.bu2.un nq2) W.bb.symm (s2 _ _ W.bu2.un)
    have l1' : L1'.length ≤ 40 := bu1.few
    have X3 : H3 r = some (.lst [.ref pl, .ref sc, .ref wk, .ref b1, .ref b2]) ∧ H3 pl = some (.lst (ps.map V.int)) ∧ H3 sc = some (.lst (ns.map V.str)) ∧ H3 wk = some (.lst (ws.map V.str)) ∧ Bu H3 b2 L2 :=
      ⟨kk W.er, kk W.ep, kk W.es, kk W.ew, ⟨⟨.inl un2, fun e he => kk (W.bu2.sides e he), W.bu2.nd, W.bu2.few⟩, un2⟩⟩
    obtain ⟨er3, ep3, es3, ew3, bu2⟩ := X3
    have kS1 : ∀ x ∈ ns, (S1' x).length ≤ k := fun x hx => Nat.le_trans (le1 x) (W.k1 x hx)
    have sd1 := sds_of f1 ok1
    have pm := W.pm
    have nn := W.nn
    have f2 := W.f2
    have ok2 := W.s2
    have kS2 := W.k2
    have k0 := W.k0
    have k30 := W.k30
    have kb := W.kb
    have p1 := W.p1
    clear un2 kk kp st2 nq2 s2 W s1 nb1 H2 H1
    -- the rule
    refine ⟨_, rfl, sc, _, rfl, .inl (sl_map es3), fun nh nnh => ?_⟩
    have s4 := same_new (o := HO.lst (ns.map V.str)) nnh
    refine fun p dx nu ndx ne => ⟨p, dx, nh, ns, rfl, upd_same, same_at (same_new ndx) nu _ _ upd_same, fun z => by rw [z] at h1; exact absurd h1 (by decide), nn, by omega, fun H5 ul kp => ⟨rfl, ?_⟩⟩
    have S35 : Same H3 H5 := s4.trans fun b o e => kp b o (ne_some' e nu) (by rw [upd_ne (ne_some' e nu)]; exact same_new ndx _ _ e)
    clear kp nu ndx ne s4 nnh
    -- the first look
    refine ⟨_, rfl, _, rfl, _, rfl, _, rfl, _, rfl, r, _, _, .ref pl, rfl, rfl, sl_map (S35 _ _ er3), atI_nat (j := 0) rfl, _, rfl, a, cs, 3, rfl, (S3.trans S35).seq ha, fun H6 q3 s6 nq3 st6 => ?_⟩
    have S36 := S35.trans s6
    refine ⟨p, sc, wk, b1, pl, q3, ns, ws, L1', S1', ps, k, rfl, ul.same s6, S36 _ _ es3, S36 _ _ ew3, pm, nn, h1, h16, bu1.same' S36, f1, ok1, fun g hg => ne_some' ((bu1.same' S35).sides g hg) nq3, kS1, k0, k30, kb, S36 _ _ ep3, ne_some' (S35 _ _ ep3) nq3, p1, by omega, st6, fun H7 k7 st7 => ⟨true, rfl, iteF ?_⟩⟩
    have S57 : Same H5 H7 := keep_same s6 k7 nq3
    have S37 := S35.trans S57
    have ul7 := ul.same S57
    clear st7 k7 S36 st6 nq3 s6 ul S57 S35 H6 H5
    -- what is told
    obtain ⟨dx, ta, hp, _⟩ := id ul7
    refine ⟨_, rfl, p, dx, _, rfl, hp, ul_no (by decide +kernel) _, _, rfl, b1, L1', rfl, bu1.same' S37, fun H8 d M s8 nbM sh => ?_⟩
    have fitM : Fit M ns S1' := fun x hx => (shape_same sh x).trans (f1 x hx)
    refine ⟨p, d, ns, M, S1', rfl, ul7.same s8, nn, by omega, nbM.toBu, fitM, sd1, fun H9 v s9 cto => ?_⟩
    have S79 := s8.trans s9
    have S39 := S37.trans S79
    refine ⟨_, rfl, _, rfl, _, rfl, _, rfl, sc, wk, b1, v, ns, ws, L1', S1', k, rfl, S39 _ _ es3, S39 _ _ ew3, pm, nn, by omega, bu1.same' S39, f1, sd1, kS1, k0, k30, kb, cto.tol, fun H10 s10 => ⟨true, rfl, iteF ?_⟩⟩
    refine ⟨_, rfl, v, ns, S1', rfl, cto.tol.same s10, fun H11 v' s11 kp11 => ?_⟩
    have S711 := S79.trans (s10.trans s11)
    have what : v = .non ∨ ∃ (T0 : Addr) (w : Str) (c : V), v = .ref T0 ∧ H11 T0 = some (.tup [.str w, c]) ∧ (w = "empty" ∨ ∃ (rr : Addr) (l : List Str), c = .ref rr ∧ H7 rr = none ∧ H11 rr = some (.lst (l.map V.str)) ∧ H10 rr ≠ none ∧ l.length ≤ 30) := by
      cases cto with
      | none n f => exact .inl rfl
      | empty T0 x n nT eT => exact .inr ⟨T0, _, _, rfl, s11 _ _ (s10 _ _ eT), .inl rfl⟩
      | crowd T0 rr c n nT eT nr er cr gr =>
        have lc := List.Nodup.length_le_of_subset cr.2.1 fun x hx => cr.1 x hx
        exact .inr ⟨T0, _, _, rfl, s11 _ _ (s10 _ _ eT), .inr ⟨rr, c, rfl, s8.free nr, s11 _ _ (s10 _ _ er), (by rw [s10 _ _ er]; exact fun z => nomatch z), by omega⟩⟩
    refine' with_restS (fun σ H' => σ = [some (.ref a), some (.ref r), some (.ref sc), some (.ref wk), some (.ref b1), some (.ref p), some v, some v', none, none, none, none, none, none] ∧ Same H7 H' ∧ Kp ns S1' H10 H' v') ?r1 (fun rest => ⟨_, rfl, _, rfl, ite_both (fun c => ?g1) fun _ => iteF (rest _ _ ⟨rfl, S711, kp11⟩)⟩)
    case' g1 =>
      rcases what with rfl | ⟨T0, w, cc, rfl, eT, hw⟩
      · exact absurd c (by simp)
      · refine ⟨_, rfl, T0, _, _, .str w, rfl, rfl, .inl (.inl eT), atI_nat (j := 0) rfl, rfl, _, rfl, ite_both (fun z => ?_) fun _ => rest _ _ ⟨rfl, S711, kp11⟩⟩
        rcases hw with rfl | ⟨rr, l, rfl, nr7, er11, ex, ll⟩
        · exact absurd (V.str.inj (of_decide_eq_true z)) (by decide +kernel)
        refine ⟨_, rfl, T0, _, _, .ref rr, rfl, rfl, .inl (.inl eT), atI_nat (j := 1) rfl, .inl ⟨rfl, _, sl_map er11⟩, rr, _, _, rfl, rfl, er11, by rw [List.length_map]; exact small1000 (by omega), ?_⟩
        exact rest _ _ ⟨rfl, same_at S711 nr7, kp_upd kp11 er11 ex⟩
    clear S711 kp11 s11 s10 S39 S79 cto s9 fitM nbM sh s8 hp
    rintro σ H12 ⟨rfl, S712, kp12⟩
    have S312 := S37.trans S712
    have es12 := S312 _ _ es3
    -- fewer names
    obtain ⟨x0, hx0⟩ : ∃ x0, ns[0]? = some x0 := ⟨_, List.getElem?_eq_getElem (by omega)⟩
    have hd0 : ns.headD "" = x0 := by
      cases ns with
      | nil => cases hx0
      | cons z t => exact Option.some.inj hx0
    have hx0' : (ns.map V.str)[0]? = some (.str x0) := by rw [List.getElem?_map, hx0] <;> rfl
    refine ⟨_, rfl, sc, rfl, ⟨_, sl_map es12⟩, fun Z nZ => lc_list (xs := ns.map V.str) (fun j H' => Same H12 H' ∧ H' Z = some (.lst (((ns.take j).filter fun x => !decide (x = ns.headD "") || decide (ns.length = 1)).map V.str))) ⟨same_new nZ, upd_same⟩ (fun j H' _ h => sl_map (h.1 _ _ es12)) ?_ ?_⟩
    · rintro j v0 H4 hv0 ⟨s4, eZ⟩
      rw [List.getElem?_map] at hv0
      obtain ⟨x, hx, rfl⟩ := Option.map_eq_some_iff.mp hv0
      have fl : ((ns.take j).filter fun x => !decide (x = ns.headD "") || decide (ns.length = 1)).length ≤ ns.length := Nat.le_trans (List.length_filter_le _ _) (by rw [List.length_take]; omega)
      refine ⟨rfl, _, rfl, _, rfl, sc, _, _, .str x0, rfl, rfl, sl_map (s4 _ _ es12), atI_nat (j := 0) hx0', rfl, _, rfl, ite_both (fun c => ?_) fun c => ⟨_, rfl, sc, _, rfl, .inl (sl_map (s4 _ _ es12)), rfl, _, rfl, ite_both (fun d => ?_) fun d => ⟨s4, ?_⟩⟩⟩
      · have px : (!decide (x = ns.headD "") || decide (ns.length = 1)) = true := by
          have h : ¬ x = ns.headD "" := fun z => by rw [hd0] at z; rw [z] at c; simp at c
          rw [decide_eq_false h] <;> rfl
        refine ⟨_, rfl, _, eZ, by rw [List.length_map]; exact small1000 (by omega), same_at s4 nZ, ?_⟩
        rw [upd_same, filtS_snoc hx, if_pos px, List.map_append] <;> rfl
      · have px : (!decide (x = ns.headD "") || decide (ns.length = 1)) = true := by
          have h : ns.length = 1 := by
            have := V.int.inj (of_decide_eq_true d)
            rw [List.length_map] at this; omega
          rw [decide_eq_true h, Bool.or_true]
        refine ⟨_, rfl, _, eZ, by rw [List.length_map]; exact small1000 (by omega), same_at s4 nZ, ?_⟩
        rw [upd_same, filtS_snoc hx, if_pos px, List.map_append] <;> rfl
      · have px : ¬ (!decide (x = ns.headD "") || decide (ns.length = 1)) = true := by
          have h : x = ns.headD "" := by
            rw [hd0]
            cases hq : decide (V.str x = V.str x0) with
            | true => exact V.str.inj (of_decide_eq_true hq)
            | false => rw [hq] at c; cases c
          have h2 : ¬ ns.length = 1 := fun z => of_decide_eq_false d (by rw [List.length_map, z] <;> rfl)
          rw [decide_eq_true h, decide_eq_false h2]; decide
        rw [filtS_snoc hx, if_neg px, List.append_nil]; exact eZ
    rintro H13 ⟨s13, eZ⟩
    rw [List.length_map, List.take_length] at eZ
    have eR : H13 Z = some (.lst ((restOf ns).map V.str)) := eZ
    clear eZ
    have Rne := rest_ne nn h1
    have Rsub := rest_sub (ns := ns)
    have Rnn : (restOf ns).Nodup := nn.sublist Rsub
    have Rlen : (restOf ns).length ≤ ns.length := Rsub.length_le
    generalize restOf ns = R at eR Rne Rsub Rnn Rlen
    have R1 : 1 ≤ R.length := by
      cases R with
      | nil => exact absurd rfl Rne
      | cons u t => exact Nat.succ_le_succ (Nat.zero_le _)
    have S13 := S312.trans s13
    refine ⟨_, rfl, wk, rfl, ⟨_, sl_map (S13 _ _ ew3)⟩, fun Y nY => lc_list (xs := ws.map V.str) (fun j H' => Same H13 H' ∧ H' Y = some (.lst (((ws.take j).filter fun x => decide (x ∈ R)).map V.str))) ⟨same_new nY, upd_same⟩ (fun j H' _ h => sl_map (h.1 _ _ (S13 _ _ ew3))) ?_ ?_⟩
    · rintro j v0 H14 hv0 ⟨s14, eY⟩
      rw [List.getElem?_map] at hv0
      obtain ⟨x, hx, rfl⟩ := Option.map_eq_some_iff.mp hv0
      have lw := pm.length_eq
      have fl : ((ws.take j).filter fun x => decide (x ∈ R)).length ≤ ws.length := Nat.le_trans (List.length_filter_le _ _) (by rw [List.length_take]; omega)
      refine ⟨rfl, _, rfl, _, rfl, Z, _, rfl, .inl (sl_map (s14 _ _ eR)), rfl, flat_strs _, ?_⟩
      rw [if_neg (by decide), in_strs]
      refine ⟨_, rfl, ite_both (fun c => ⟨_, rfl, _, eY, by rw [List.length_map]; exact small1000 (by omega), same_at s14 nY, ?_⟩) fun c => ⟨s14, ?_⟩⟩
      · rw [upd_same, filtS_snoc hx, if_pos c, List.map_append] <;> rfl
      · rw [filtS_snoc hx, if_neg (by rw [c]; decide), List.append_nil]; exact eY
    rintro H14 ⟨s14, eY⟩
    rw [List.length_map, List.take_length] at eY
    have fpm := fewer_perm pm nn Rsub
    generalize (ws.filter fun x => decide (x ∈ R)) = fs at eY fpm
    have S14 := S13.trans s14
    have eR14 := s14 _ _ eR
    have ul14 := ((ul7.same S712).same s13).same s14
    have kp14 := (kp12.same s13).same s14
    clear s14 nY eR S13 s13 nZ kp12 es12 S312 S712 ul7 S37 hx0 hx0' hd0 
    -- the other rule
    refine ⟨_, rfl, Z, _, rfl, .inl (sl_map eR14), fun rl nrl => ?_⟩
    have s15 := same_new (o := HO.lst (R.map V.str)) nrl
    refine fun p2 dx nu ndx ne => ⟨p2, dx, rl, R, rfl, upd_same, same_at (same_new ndx) nu _ _ upd_same, Rne, Rnn, by omega, fun H16 ul2 kp => ⟨rfl, ?_⟩⟩
    have s16 : Same H14 H16 := s15.trans fun b o e => kp b o (ne_some' e nu) (by rw [upd_ne (ne_some' e nu)]; exact same_new ndx _ _ e)
    clear kp s15 nrl nu ndx ne
    have S16 := S14.trans s16
    have f1R : Fit L1' R S1' := fun x hx => f1 x (Rsub.subset hx)
    refine ⟨_, rfl, _, rfl, _, rfl, _, rfl, _, rfl, r, _, _, .ref pl, rfl, rfl, sl_map (S16 _ _ er3), atI_nat (j := 0) rfl, _, rfl, a, cs, 4, rfl, (S3.trans S16).seq ha, fun H17 q4 s17 nq4 st17 => ?_⟩
    have S17 := S16.trans s17
    have s1617 := s16.trans s17
    refine ⟨p2, Z, Y, b1, pl, q4, R, fs, L1', S1', ps, k, rfl, ul2.same s17, s1617 _ _ eR14, s1617 _ _ eY, fpm, Rnn, R1, by omega, bu1.same' S17, f1R, ok1, fun g hg => ne_some' ((bu1.same' S16).sides g hg) nq4, fun x hx => kS1 x (Rsub.subset hx), k0, k30, Nat.le_trans (Nat.pow_le_pow_right k0 Rlen) kb, S17 _ _ ep3, ne_some' (S16 _ _ ep3) nq4, p1, by omega, st17, fun H18 k18 st18 => ⟨true, rfl, iteF ?_⟩⟩
    have s1618 : Same H16 H18 := keep_same s17 k18 nq4
    have S18 := S16.trans s1618
    have ul18 := (ul14.same s16).same s1618
    have kp18 := (kp14.same s16).same s1618
    clear st18 k18 s1617 S17 st17 nq4 s17 s1618 S16 s16 ul14 kp14 eR14 eY S14 ul2 H17 H16 H14
    -- the other box
    refine ⟨_, rfl, _, rfl, _, rfl, _, rfl, r, _, _, .ref b2, rfl, rfl, sl_map (S18 _ _ er3), atI_nat (j := 4) rfl, _, rfl, r, _, _, .ref pl, rfl, rfl, sl_map (S18 _ _ er3), atI_nat (j := 0) rfl, _, rfl, a, cs, 5, rfl, (S3.trans S18).seq ha, fun H19 q5 s19 nq5 st19 => ?_⟩
    have S19 := S18.trans s19
    refine ⟨p, sc, wk, b2, pl, q5, ns, ws, L2, S2, ps, k, rfl, ul18.same s19, S19 _ _ es3, S19 _ _ ew3, pm, nn, h1, h16, bu2.same' S19, f2, ok2, fun g hg => ne_some' ((bu2.same' S18).sides g hg) nq5, kS2, k0, k30, kb, S19 _ _ ep3, ne_some' (S18 _ _ ep3) nq5, p1, by omega, st19, fun H20 k20 st20 => ⟨true, rfl, iteF ?_⟩⟩
    have s1820 : Same H18 H20 := keep_same s19 k20 nq5
    have S20 := S18.trans s1820
    have ul20 := ul18.same s1820
    have kp20 := kp18.same s1820
    clear st20 k20 S19 st19 nq5 s19 s1820 S18 ul18 kp18 H19 H18
    -- again
    obtain ⟨dx, ta, hp, _⟩ := id ul20
    refine ⟨_, rfl, p, dx, _, rfl, hp, ul_no (by decide +kernel) _, _, rfl, b1, L1', rfl, bu1.same' S20, fun H21 d M s21 nbM sh => ?_⟩
    have fitM : Fit M ns S1' := fun x hx => (shape_same sh x).trans (f1 x hx)
    refine ⟨p, d, ns, M, S1', rfl, ul20.same s21, nn, by omega, nbM.toBu, fitM, sd1, fun H22 u s22 cto => ?_⟩
    have s2022 := s21.trans s22
    have S22 := S20.trans s2022
    refine ⟨_, rfl, _, rfl, _, rfl, _, rfl, sc, wk, b1, u, ns, ws, L1', S1', k, rfl, S22 _ _ es3, S22 _ _ ew3, pm, nn, by omega, bu1.same' S22, f1, sd1, kS1, k0, k30, kb, cto.tol, fun H23 s23 => ⟨true, rfl, iteF ?_⟩⟩
    refine ⟨_, rfl, u, ns, S1', rfl, cto.tol.same s23, fun H24 u' s24 kp24 => ?_⟩
    have s2024 := s2022.trans (s23.trans s24)
    refine ⟨_, rfl, kp_ne kp24 (kp20.same s2024) _ ⟨false, rfl, iteF ?_⟩⟩
    have S24 := S20.trans s2024
    have ul24 := ul20.same s2024
    have tol24 := (cto.tol.same s23).same s24
    have wh : u = .non ∨ ∃ (T0 : Addr) (w : Str) (c : V), u = .ref T0 ∧ H24 T0 = some (.tup [.str w, c]) ∧ Crt ns S1' H24 w c true := by
      by_cases c : u = .non
      · exact .inl c
      · obtain ⟨T0, rfl⟩ : ∃ T0, u = .ref T0 := by
          cases tol24 with
          | none f => exact absurd rfl c
          | empty T x n eT => exact ⟨_, rfl⟩
          | crowd T r c n eT er cr gr => exact ⟨_, rfl⟩
        obtain ⟨w, c0, eT, cr, nf⟩ := tol24.crt (by omega)
        exact .inr ⟨T0, w, c0, rfl, eT, cr⟩
    clear kp24 s24 s23 S22 s2022 cto s22 fitM nbM sh s21 hp kp20
    refine' with_restS (fun σ H' => (∃ y13, σ = [some (.ref a), some (.ref r), some (.ref sc), some (.ref wk), some (.ref b1), some (.ref p), some v, some v', some (.ref Z), some (.ref Y), some (.ref p2), some u, none, y13]) ∧ Same H24 H') ?r2 (fun rest => ⟨_, rfl, _, rfl, ite_both (fun c => ?g2) fun _ => iteF (rest _ _ ⟨⟨_, rfl⟩, fun _ _ e => e⟩)⟩)
    case' g2 =>
      rcases wh with rfl | ⟨T0, w, c0, rfl, eT, cr⟩
      · exact absurd c (by simp)
      · obtain ⟨dx, ta, hp, _⟩ := id ul24
        refine ⟨_, rfl, p, dx, _, rfl, hp, ul_no (by decide +kernel) _, _, rfl, b1, L1', rfl, bu1.same' S24, fun H25 d M s25 nbM sh => ⟨_, rfl, ?_⟩⟩
        have fitM : Fit M ns S1' := fun x hx => (shape_same sh x).trans (f1 x hx)
        exact ⟨p, d, T0, ns, M, S1', w, c0, true, rfl, ul24.same s25, by omega, nbM.toBu, fitM, sd1, s25 _ _ eT, cr.same s25, fun H26 s26 => ⟨true, true, rfl, rfl, _, rfl, ite_both (fun z => absurd z (by simp)) fun _ => rest _ _ ⟨⟨_, rfl⟩, s25.trans s26⟩⟩⟩
    rintro σ H27 ⟨⟨y13, rfl⟩, s27⟩
    have S27 := S24.trans s27
    refine ⟨_, rfl, _, rfl, _, rfl, _, rfl, _, rfl, r, _, _, .ref b2, rfl, rfl, sl_map (S27 _ _ er3), atI_nat (j := 4) rfl, p, sc, wk, b1, b2, ns, ws, L1', L2, S1', S2, k, rfl, ul24.same s27, S27 _ _ es3, S27 _ _ ew3, pm, nn, h16, bu1.same' S27, f1, ok1, bu2.same' S27, f2, ok2, kS1, kS2, k0, k30, kb, fun H28 s28 => ⟨true, rfl, iteF ?_⟩⟩
    have S28 := S27.trans s28
    refine ⟨_, rfl, a, cs, 7, rfl, (S3.trans S28).seq ha, fun H29 q7 s29 nq7 st29 => ?_⟩
    refine ⟨_, rfl, q7, 12, rfl, st29, by decide, by decide, fun H30 y o30 st30 y0 y1 => ⟨_, _, rfl, rfl, ?_⟩⟩
    exact ⟨_, rfl, ite_both (fun _ => q _) fun _ => ⟨_, rfl, q7, rfl, st30, fun H' => q _⟩⟩
end
end K57
set_option Elab.async false
set_option linter.all false
set_option maxRecDepth 100000
set_option maxHeartbeats 4000000
namespace K57
open PySem PySem.Spec PyProof.Rows L2 Cs CsX
/-! ### what the top has written -/
theorem all_mk {l : PySem.W.OpenLaw} {w : World} {K : PySem.W.Frag} {h : Heap} {mg : Str → Option Value} {fa kk0 km0_0 km0_1 km0_2 km0_3 f1 f2 f3 f4 f5 f6 f7 f8 f9 f10 f11 f12 f13 f14 f15 f16 f17 f18 f19 f20 f21 f22 f23 f24 f25 f26 f27 f28 f29 f30 f31 f32 f33 f34 f35 f36 f37 f38 f39 f40 f41 : Addr} (X : K.In h) (G : h.Ns mainGlobals mg) (hfa : mg "law" = some (.ref fa))
    {od1 an1 od2 an2 od3 an3 od4 an4 od5 an5 od6 an6 od7 an7 od8 an8 od9 an9 od10 an10 od11 an11 od12 an12 od13 an13 od14 an14 od15 an15 od16 an16 od17 an17 od18 an18 od19 an19 od20 an20 od21 an21 od22 an22 od23 an23 od24 an24 od25 an25 od26 an26 od27 an27 od28 an28 od29 an29 od30 an30 od31 an31 od32 an32 od33 an33 od34 an34 od35 an35 od36 an36 od37 an37 od38 an38 od39 an39 od40 an40 od41 an41 : Option Addr} {sl1 sl2 sl3 sl4 sl5 sl6 sl7 sl8 sl9 sl10 sl11 sl12 sl13 sl14 sl15 sl16 sl17 sl18 sl19 sl20 sl21 sl22 sl23 sl24 sl25 sl26 sl27 sl28 sl29 sl30 sl31 sl32 sl33 sl34 sl35 sl36 sl37 sl38 sl39 sl40 sl41 : Array (Option Value)}
    {oc1 kV1 dc1 pm1 cd1 ct1 oc2 kV2 dc2 pm2 cd2 ct2 oc3 kV3 dc3 pm3 cd3 ct3 oc4 kV4 dc4 pm4 cd4 ct4 oc5 kV5 dc5 pm5 cd5 ct5 oc6 kV6 dc6 pm6 cd6 ct6 oc7 kV7 dc7 pm7 cd7 ct7 oc8 kV8 dc8 pm8 cd8 ct8 oc9 kV9 dc9 pm9 cd9 ct9 oc10 kV10 dc10 pm10 cd10 ct10 oc11 kV11 dc11 pm11 cd11 ct11 oc12 kV12 dc12 pm12 cd12 ct12 oc13 kV13 dc13 pm13 cd13 ct13 oc14 kV14 dc14 pm14 cd14 ct14 oc15 kV15 dc15 pm15 cd15 ct15 oc16 kV16 dc16 pm16 cd16 ct16 oc17 kV17 dc17 pm17 cd17 ct17 oc18 kV18 dc18 pm18 cd18 ct18 oc19 kV19 dc19 pm19 cd19 ct19 oc20 kV20 dc20 pm20 cd20 ct20 oc21 kV21 dc21 pm21 cd21 ct21 oc22 kV22 dc22 pm22 cd22 ct22 oc23 kV23 dc23 pm23 cd23 ct23 oc24 kV24 dc24 pm24 cd24 ct24 oc25 kV25 dc25 pm25 cd25 ct25 oc26 kV26 dc26 pm26 cd26 ct26 oc27 kV27 dc27 pm27 cd27 ct27 oc28 kV28 dc28 pm28 cd28 ct28 oc29 kV29 dc29 pm29 cd29 ct29 oc30 kV30 dc30 pm30 cd30 ct30 oc31 kV31 dc31 pm31 cd31 ct31 oc32 kV32 dc32 pm32 cd32 ct32 oc33 kV33 dc33 pm33 cd33 ct33 oc34 kV34 dc34 pm34 cd34 ct34 oc35 kV35 dc35 pm35 cd35 ct35 oc36 kV36 dc36 pm36 cd36 ct36 oc37 kV37 dc37 pm37 cd37 ct37 oc38 kV38 dc38 pm38 cd38 ct38 oc39 kV39 dc39 pm39 cd39 ct39 oc40 kV40 dc40 pm40 cd40 ct40 oc41 kV41 dc41 pm41 cd41 ct41 : Value}
    {km0_0od km0_0an : Option Addr} {km0_0sl : Array (Option Value)} {km0_0oc km0_0kV km0_0dc km0_0pm km0_0cd km0_0ct : Value}
    {km0_1od km0_1an : Option Addr} {km0_1sl : Array (Option Value)} {km0_1oc km0_1kV km0_1dc km0_1pm km0_1cd km0_1ct : Value}
    {km0_2od km0_2an : Option Addr} {km0_2sl : Array (Option Value)} {km0_2oc km0_2kV km0_2dc km0_2pm km0_2cd km0_2ct : Value}
    {km0_3od km0_3an : Option Addr} {km0_3sl : Array (Option Value)} {km0_3oc km0_3kV km0_3dc km0_3pm km0_3cd km0_3ct : Value}
    (a1 : PySem.W.nsIn K mainGlobals "_law_stream" = some (some (.ref f1))) (l1 : K.lookup f1 = some ⟨oc1, od1, .func (PySem.W.fnOf "_law_stream" "_law_stream" (defArgs sStream) (defBody sStream) (defScope sStream) .none kV1 dc1 pm1 an1 cd1 ct1), sl1⟩) (c1 : PySem.W.codeIn K cd1 "_law_stream" = true) (k1 : PySem.W.keepIn K (.ref f1) = true)
    (a2 : PySem.W.nsIn K mainGlobals "_law_next" = some (some (.ref f2))) (l2 : K.lookup f2 = some ⟨oc2, od2, .func (PySem.W.fnOf "_law_next" "_law_next" (defArgs sDraw) (defBody sDraw) (defScope sDraw) .none kV2 dc2 pm2 an2 cd2 ct2), sl2⟩) (c2 : PySem.W.codeIn K cd2 "_law_next" = true) (k2 : PySem.W.keepIn K (.ref f2) = true)
    (a3 : PySem.W.nsIn K mainGlobals "_law_names" = some (some (.ref f3))) (l3 : K.lookup f3 = some ⟨oc3, od3, .func (PySem.W.fnOf "_law_names" "_law_names" (defArgs sNames) (defBody sNames) (defScope sNames) .none kV3 dc3 pm3 an3 cd3 ct3), sl3⟩) (c3 : PySem.W.codeIn K cd3 "_law_names" = true) (k3 : PySem.W.keepIn K (.ref f3) = true)
    (a4 : PySem.W.nsIn K mainGlobals "_law_pool" = some (some (.ref f4))) (l4 : K.lookup f4 = some ⟨oc4, od4, .func (PySem.W.fnOf "_law_pool" "_law_pool" (defArgs sPool) (defBody sPool) (defScope sPool) .none kV4 dc4 pm4 an4 cd4 ct4), sl4⟩) (c4 : PySem.W.codeIn K cd4 "_law_pool" = true) (k4 : PySem.W.keepIn K (.ref f4) = true)
    (a5 : PySem.W.nsIn K mainGlobals "_law_scope" = some (some (.ref f5))) (l5 : K.lookup f5 = some ⟨oc5, od5, .func (PySem.W.fnOf "_law_scope" "_law_scope" (defArgs sSco) (defBody sSco) (defScope sSco) .none kV5 dc5 pm5 an5 cd5 ct5), sl5⟩) (c5 : PySem.W.codeIn K cd5 "_law_scope" = true) (k5 : PySem.W.keepIn K (.ref f5) = true)
    (a6 : PySem.W.nsIn K mainGlobals "_law_domains" = some (some (.ref f6))) (l6 : K.lookup f6 = some ⟨oc6, od6, .func (PySem.W.fnOf "_law_domains" "_law_domains" (defArgs sDoms) (defBody sDoms) (defScope sDoms) .none kV6 dc6 pm6 an6 cd6 ct6), sl6⟩) (c6 : PySem.W.codeIn K cd6 "_law_domains" = true) (k6 : PySem.W.keepIn K (.ref f6) = true)
    (a7 : PySem.W.nsIn K mainGlobals "_law_many_names" = some (some (.ref f7))) (l7 : K.lookup f7 = some ⟨oc7, od7, .func (PySem.W.fnOf "_law_many_names" "_law_many_names" (defArgs sMn) (defBody sMn) (defScope sMn) .none kV7 dc7 pm7 an7 cd7 ct7), sl7⟩) (c7 : PySem.W.codeIn K cd7 "_law_many_names" = true) (k7 : PySem.W.keepIn K (.ref f7) = true)
    (a8 : PySem.W.nsIn K mainGlobals "_law_shuffled" = some (some (.ref f8))) (l8 : K.lookup f8 = some ⟨oc8, od8, .func (PySem.W.fnOf "_law_shuffled" "_law_shuffled" (defArgs sSf) (defBody sSf) (defScope sSf) .none kV8 dc8 pm8 an8 cd8 ct8), sl8⟩) (c8 : PySem.W.codeIn K cd8 "_law_shuffled" = true) (k8 : PySem.W.keepIn K (.ref f8) = true)
    (a9 : PySem.W.nsIn K mainGlobals "_law_links" = some (some (.ref f9))) (l9 : K.lookup f9 = some ⟨oc9, od9, .func (PySem.W.fnOf "_law_links" "_law_links" (defArgs sLnk) (defBody sLnk) (defScope sLnk) .none kV9 dc9 pm9 an9 cd9 ct9), sl9⟩) (c9 : PySem.W.codeIn K cd9 "_law_links" = true) (k9 : PySem.W.keepIn K (.ref f9) = true)
    (a10 : PySem.W.nsIn K mainGlobals "_law_sides" = some (some (.ref f10))) (l10 : K.lookup f10 = some ⟨oc10, od10, .func (PySem.W.fnOf "_law_sides" "_law_sides" (defArgs sSd) (defBody sSd) (defScope sSd) .none kV10 dc10 pm10 an10 cd10 ct10), sl10⟩) (c10 : PySem.W.codeIn K cd10 "_law_sides" = true) (k10 : PySem.W.keepIn K (.ref f10) = true)
    (a11 : PySem.W.nsIn K mainGlobals "_law_world" = some (some (.ref f11))) (l11 : K.lookup f11 = some ⟨oc11, od11, .func (PySem.W.fnOf "_law_world" "_law_world" (defArgs sWor) (defBody sWor) (defScope sWor) .none kV11 dc11 pm11 an11 cd11 ct11), sl11⟩) (c11 : PySem.W.codeIn K cd11 "_law_world" = true) (k11 : PySem.W.keepIn K (.ref f11) = true)
    (a12 : PySem.W.nsIn K mainGlobals "_law_emptied" = some (some (.ref f12))) (l12 : K.lookup f12 = some ⟨oc12, od12, .func (PySem.W.fnOf "_law_emptied" "_law_emptied" (defArgs sEmp) (defBody sEmp) (defScope sEmp) .none kV12 dc12 pm12 an12 cd12 ct12), sl12⟩) (c12 : PySem.W.codeIn K cd12 "_law_emptied" = true) (k12 : PySem.W.keepIn K (.ref f12) = true)
    (a13 : PySem.W.nsIn K mainGlobals "checked_names" = some (some (.ref f13))) (l13 : K.lookup f13 = some ⟨oc13, od13, .func (PySem.W.fnOf "checked_names" "checked_names" (defArgs sChk) (defBody sChk) (defScope sChk) .none kV13 dc13 pm13 an13 cd13 ct13), sl13⟩) (c13 : PySem.W.codeIn K cd13 "checked_names" = true) (k13 : PySem.W.keepIn K (.ref f13) = true)
    (a14 : PySem.W.nsIn K mainGlobals "_law_copied" = some (some (.ref f14))) (l14 : K.lookup f14 = some ⟨oc14, od14, .func (PySem.W.fnOf "_law_copied" "_law_copied" (defArgs sCopied) (defBody sCopied) (defScope sCopied) .none kV14 dc14 pm14 an14 cd14 ct14), sl14⟩) (c14 : PySem.W.codeIn K cd14 "_law_copied" = true) (k14 : PySem.W.keepIn K (.ref f14) = true)
    (a15 : PySem.W.nsIn K mainGlobals "first_empty" = some (some (.ref f15))) (l15 : K.lookup f15 = some ⟨oc15, od15, .func (PySem.W.fnOf "first_empty" "first_empty" (defArgs sFem) (defBody sFem) (defScope sFem) .none kV15 dc15 pm15 an15 cd15 ct15), sl15⟩) (c15 : PySem.W.codeIn K cd15 "first_empty" = true) (k15 : PySem.W.keepIn K (.ref f15) = true)
    (a16 : PySem.W.nsIn K mainGlobals "restricted" = some (some (.ref f16))) (l16 : K.lookup f16 = some ⟨oc16, od16, .func (PySem.W.fnOf "restricted" "restricted" (defArgs sRst) (defBody sRst) (defScope sRst) .none kV16 dc16 pm16 an16 cd16 ct16), sl16⟩) (c16 : PySem.W.codeIn K cd16 "restricted" = true) (k16 : PySem.W.keepIn K (.ref f16) = true)
    (a17 : PySem.W.nsIn K mainGlobals "_takers" = some (some (.ref f17))) (l17 : K.lookup f17 = some ⟨oc17, od17, .func (PySem.W.fnOf "_takers" "_takers" (defArgs sTk) (defBody sTk) (defScope sTk) .none kV17 dc17 pm17 an17 cd17 ct17), sl17⟩) (c17 : PySem.W.codeIn K cd17 "_takers" = true) (k17 : PySem.W.keepIn K (.ref f17) = true)
    (a18 : PySem.W.nsIn K mainGlobals "_moved_up" = some (some (.ref f18))) (l18 : K.lookup f18 = some ⟨oc18, od18, .func (PySem.W.fnOf "_moved_up" "_moved_up" (defArgs sMu) (defBody sMu) (defScope sMu) .none kV18 dc18 pm18 an18 cd18 ct18), sl18⟩) (c18 : PySem.W.codeIn K cd18 "_moved_up" = true) (k18 : PySem.W.keepIn K (.ref f18) = true)
    (a19 : PySem.W.nsIn K mainGlobals "_with_name" = some (some (.ref f19))) (l19 : K.lookup f19 = some ⟨oc19, od19, .func (PySem.W.fnOf "_with_name" "_with_name" (defArgs sWn) (defBody sWn) (defScope sWn) .none kV19 dc19 pm19 an19 cd19 ct19), sl19⟩) (c19 : PySem.W.codeIn K cd19 "_with_name" = true) (k19 : PySem.W.keepIn K (.ref f19) = true)
    (a20 : PySem.W.nsIn K mainGlobals "_grown" = some (some (.ref f20))) (l20 : K.lookup f20 = some ⟨oc20, od20, .func (PySem.W.fnOf "_grown" "_grown" (defArgs sGr) (defBody sGr) (defScope sGr) .none kV20 dc20 pm20 an20 cd20 ct20), sl20⟩) (c20 : PySem.W.codeIn K cd20 "_grown" = true) (k20 : PySem.W.keepIn K (.ref f20) = true)
    (a21 : PySem.W.nsIn K mainGlobals "full_fit" = some (some (.ref f21))) (l21 : K.lookup f21 = some ⟨oc21, od21, .func (PySem.W.fnOf "full_fit" "full_fit" (defArgs sFf) (defBody sFf) (defScope sFf) .none kV21 dc21 pm21 an21 cd21 ct21), sl21⟩) (c21 : PySem.W.codeIn K cd21 "full_fit" = true) (k21 : PySem.W.keepIn K (.ref f21) = true)
    (a22 : PySem.W.nsIn K mainGlobals "side_of" = some (some (.ref f22))) (l22 : K.lookup f22 = some ⟨oc22, od22, .func (PySem.W.fnOf "side_of" "side_of" (defArgs sSof) (defBody sSof) (defScope sSof) .none kV22 dc22 pm22 an22 cd22 ct22), sl22⟩) (c22 : PySem.W.codeIn K cd22 "side_of" = true) (k22 : PySem.W.keepIn K (.ref f22) = true)
    (a23 : PySem.W.nsIn K mainGlobals "union_of" = some (some (.ref f23))) (l23 : K.lookup f23 = some ⟨oc23, od23, .func (PySem.W.fnOf "union_of" "union_of" (defArgs sUni) (defBody sUni) (defScope sUni) .none kV23 dc23 pm23 an23 cd23 ct23), sl23⟩) (c23 : PySem.W.codeIn K cd23 "union_of" = true) (k23 : PySem.W.keepIn K (.ref f23) = true)
    (a24 : PySem.W.nsIn K mainGlobals "shows_empty" = some (some (.ref f24))) (l24 : K.lookup f24 = some ⟨oc24, od24, .func (PySem.W.fnOf "shows_empty" "shows_empty" (defArgs sShw) (defBody sShw) (defScope sShw) .none kV24 dc24 pm24 an24 cd24 ct24), sl24⟩) (c24 : PySem.W.codeIn K cd24 "shows_empty" = true) (k24 : PySem.W.keepIn K (.ref f24) = true)
    (a25 : PySem.W.nsIn K mainGlobals "is_crowd" = some (some (.ref f25))) (l25 : K.lookup f25 = some ⟨oc25, od25, .func (PySem.W.fnOf "is_crowd" "is_crowd" (defArgs sIcr) (defBody sIcr) (defScope sIcr) .none kV25 dc25 pm25 an25 cd25 ct25), sl25⟩) (c25 : PySem.W.codeIn K cd25 "is_crowd" = true) (k25 : PySem.W.keepIn K (.ref f25) = true)
    (a26 : PySem.W.nsIn K mainGlobals "_law_reads" = some (some (.ref f26))) (l26 : K.lookup f26 = some ⟨oc26, od26, .func (PySem.W.fnOf "_law_reads" "_law_reads" (defArgs sRds) (defBody sRds) (defScope sRds) .none kV26 dc26 pm26 an26 cd26 ct26), sl26⟩) (c26 : PySem.W.codeIn K cd26 "_law_reads" = true) (k26 : PySem.W.keepIn K (.ref f26) = true)
    (a27 : PySem.W.nsIn K mainGlobals "_law_certifies" = some (some (.ref f27))) (l27 : K.lookup f27 = some ⟨oc27, od27, .func (PySem.W.fnOf "_law_certifies" "_law_certifies" (defArgs sCfy) (defBody sCfy) (defScope sCfy) .none kV27 dc27 pm27 an27 cd27 ct27), sl27⟩) (c27 : PySem.W.codeIn K cd27 "_law_certifies" = true) (k27 : PySem.W.keepIn K (.ref f27) = true)
    (a28 : PySem.W.nsIn K mainGlobals "_law_unlike_rows" = some (some (.ref f28))) (l28 : K.lookup f28 = some ⟨oc28, od28, .func (PySem.W.fnOf "_law_unlike_rows" "_law_unlike_rows" (defArgs sUr) (defBody sUr) (defScope sUr) .none kV28 dc28 pm28 an28 cd28 ct28), sl28⟩) (c28 : PySem.W.codeIn K cd28 "_law_unlike_rows" = true) (k28 : PySem.W.keepIn K (.ref f28) = true)
    (a29 : PySem.W.nsIn K mainGlobals "_law_told_right" = some (some (.ref f29))) (l29 : K.lookup f29 = some ⟨oc29, od29, .func (PySem.W.fnOf "_law_told_right" "_law_told_right" (defArgs sTri) (defBody sTri) (defScope sTri) .none kV29 dc29 pm29 an29 cd29 ct29), sl29⟩) (c29 : PySem.W.codeIn K cd29 "_law_told_right" = true) (k29 : PySem.W.keepIn K (.ref f29) = true)
    (a30 : PySem.W.nsIn K mainGlobals "_law_kept" = some (some (.ref f30))) (l30 : K.lookup f30 = some ⟨oc30, od30, .func (PySem.W.fnOf "_law_kept" "_law_kept" (defArgs sKpt) (defBody sKpt) (defScope sKpt) .none kV30 dc30 pm30 an30 cd30 ct30), sl30⟩) (c30 : PySem.W.codeIn K cd30 "_law_kept" = true) (k30 : PySem.W.keepIn K (.ref f30) = true)
    (a31 : PySem.W.nsIn K mainGlobals "_law_is_integer" = some (some (.ref f31))) (l31 : K.lookup f31 = some ⟨oc31, od31, .func (PySem.W.fnOf "_law_is_integer" "_law_is_integer" (defArgs sIsInt) (defBody sIsInt) (defScope sIsInt) .none kV31 dc31 pm31 an31 cd31 ct31), sl31⟩) (c31 : PySem.W.codeIn K cd31 "_law_is_integer" = true) (k31 : PySem.W.keepIn K (.ref f31) = true)
    (a32 : PySem.W.nsIn K mainGlobals "_law_is_side" = some (some (.ref f32))) (l32 : K.lookup f32 = some ⟨oc32, od32, .func (PySem.W.fnOf "_law_is_side" "_law_is_side" (defArgs sIsSide) (defBody sIsSide) (defScope sIsSide) .none kV32 dc32 pm32 an32 cd32 ct32), sl32⟩) (c32 : PySem.W.codeIn K cd32 "_law_is_side" = true) (k32 : PySem.W.keepIn K (.ref f32) = true)
    (a33 : PySem.W.nsIn K mainGlobals "_law_same_sides" = some (some (.ref f33))) (l33 : K.lookup f33 = some ⟨oc33, od33, .func (PySem.W.fnOf "_law_same_sides" "_law_same_sides" (defArgs sSame) (defBody sSame) (defScope sSame) .none kV33 dc33 pm33 an33 cd33 ct33), sl33⟩) (c33 : PySem.W.codeIn K cd33 "_law_same_sides" = true) (k33 : PySem.W.keepIn K (.ref f33) = true)
    (a34 : PySem.W.nsIn K mainGlobals "_law_part" = some (some (.ref f34))) (l34 : K.lookup f34 = some ⟨oc34, od34, .func (PySem.W.fnOf "_law_part" "_law_part" (defArgs sPtg) (defBody sPtg) (defScope sPtg) .none kV34 dc34 pm34 an34 cd34 ct34), sl34⟩) (c34 : PySem.W.codeIn K cd34 "_law_part" = true) (k34 : PySem.W.keepIn K (.ref f34) = true)
    (a35 : PySem.W.nsIn K mainGlobals "_law_free" = some (some (.ref f35))) (l35 : K.lookup f35 = some ⟨oc35, od35, .func (PySem.W.fnOf "_law_free" "_law_free" (defArgs sFre) (defBody sFre) (defScope sFre) .none kV35 dc35 pm35 an35 cd35 ct35), sl35⟩) (c35 : PySem.W.codeIn K cd35 "_law_free" = true) (k35 : PySem.W.keepIn K (.ref f35) = true)
    (a36 : PySem.W.nsIn K mainGlobals "_law_content" = some (some (.ref f36))) (l36 : K.lookup f36 = some ⟨oc36, od36, .func (PySem.W.fnOf "_law_content" "_law_content" (defArgs sCon) (defBody sCon) (defScope sCon) .none kV36 dc36 pm36 an36 cd36 ct36), sl36⟩) (c36 : PySem.W.codeIn K cd36 "_law_content" = true) (k36 : PySem.W.keepIn K (.ref f36) = true)
    (a37 : PySem.W.nsIn K mainGlobals "_law_accepting_holds" = some (some (.ref f37))) (l37 : K.lookup f37 = some ⟨oc37, od37, .func (PySem.W.fnOf "_law_accepting_holds" "_law_accepting_holds" (defArgs sAho) (defBody sAho) (defScope sAho) .none kV37 dc37 pm37 an37 cd37 ct37), sl37⟩) (c37 : PySem.W.codeIn K cd37 "_law_accepting_holds" = true) (k37 : PySem.W.keepIn K (.ref f37) = true)
    (a38 : PySem.W.nsIn K mainGlobals "_law_box_holds" = some (some (.ref f38))) (l38 : K.lookup f38 = some ⟨oc38, od38, .func (PySem.W.fnOf "_law_box_holds" "_law_box_holds" (defArgs sBh) (defBody sBh) (defScope sBh) .none kV38 dc38 pm38 an38 cd38 ct38), sl38⟩) (c38 : PySem.W.codeIn K cd38 "_law_box_holds" = true) (k38 : PySem.W.keepIn K (.ref f38) = true)
    (a39 : PySem.W.nsIn K mainGlobals "_law_changed_holds" = some (some (.ref f39))) (l39 : K.lookup f39 = some ⟨oc39, od39, .func (PySem.W.fnOf "_law_changed_holds" "_law_changed_holds" (defArgs sChh) (defBody sChh) (defScope sChh) .none kV39 dc39 pm39 an39 cd39 ct39), sl39⟩) (c39 : PySem.W.codeIn K cd39 "_law_changed_holds" = true) (k39 : PySem.W.keepIn K (.ref f39) = true)
    (a40 : PySem.W.nsIn K mainGlobals "_law_dense_holds" = some (some (.ref f40))) (l40 : K.lookup f40 = some ⟨oc40, od40, .func (PySem.W.fnOf "_law_dense_holds" "_law_dense_holds" (defArgs sDh) (defBody sDh) (defScope sDh) .none kV40 dc40 pm40 an40 cd40 ct40), sl40⟩) (c40 : PySem.W.codeIn K cd40 "_law_dense_holds" = true) (k40 : PySem.W.keepIn K (.ref f40) = true)
    (a41 : PySem.W.nsIn K mainGlobals "law" = some (some (.ref f41))) (l41 : K.lookup f41 = some ⟨oc41, od41, .func (PySem.W.fnOf "law" "law" (defArgs sLaw) (defBody sLaw) (defScope sLaw) .none kV41 dc41 pm41 an41 cd41 ct41), sl41⟩) (c41 : PySem.W.codeIn K cd41 "law" = true) (k41 : PySem.W.keepIn K (.ref f41) = true)
    (kc0 : PySem.W.nsIn K mainGlobals "Unlike" = some (some (.ref kk0)))
    (kpg0 : PySem.W.plainGet K kk0 Str.empty = true)
    (khd0 : PySem.W.hasDictIn K kk0 = true)
    (kpo0 : PySem.W.plainOver K kk0 = true)
    (ksa0 : PySem.W.findIn K (.ref kk0) "__setattr__" = some (some (.builtin "object.__setattr__")))
    (kmk0 : PySem.W.makesIn K kk0 = true)
    (kkc0 : PySem.W.keepIn K (.ref kk0) = true)
    (kn0_0 : PySem.W.findIn K (.ref kk0) "names" = some none)
    (km0_0a : PySem.W.findIn K (.ref kk0) "__init__" = some (some (.ref km0_0)))
    (km0_0i : PySem.W.isFn K (.ref km0_0) = true)
    (km0_0l : K.lookup km0_0 = some ⟨km0_0oc, km0_0od, .func (PySem.W.fnOf "__init__" "Unlike.__init__" (defArgs sUin) (defBody sUin) (defScope sUin) .none km0_0kV km0_0dc km0_0pm km0_0an km0_0cd km0_0ct), km0_0sl⟩)
    (km0_0c : PySem.W.codeIn K km0_0cd "Unlike.__init__" = true)
    (km0_0k : PySem.W.keepIn K (.ref km0_0) = true)
    (km0_1a : PySem.W.findIn K (.ref kk0) "_ones" = some (some (.ref km0_1)))
    (km0_1i : PySem.W.isFn K (.ref km0_1) = true)
    (km0_1l : K.lookup km0_1 = some ⟨km0_1oc, km0_1od, .func (PySem.W.fnOf "_ones" "Unlike._ones" (defArgs sOne) (defBody sOne) (defScope sOne) .none km0_1kV km0_1dc km0_1pm km0_1an km0_1cd km0_1ct), km0_1sl⟩)
    (km0_1c : PySem.W.codeIn K km0_1cd "Unlike._ones" = true)
    (km0_1k : PySem.W.keepIn K (.ref km0_1) = true)
    (km0_2a : PySem.W.findIn K (.ref kk0) "certificate" = some (some (.ref km0_2)))
    (km0_2i : PySem.W.isFn K (.ref km0_2) = true)
    (km0_2l : K.lookup km0_2 = some ⟨km0_2oc, km0_2od, .func (PySem.W.fnOf "certificate" "Unlike.certificate" (defArgs sCer) (defBody sCer) (defScope sCer) .none km0_2kV km0_2dc km0_2pm km0_2an km0_2cd km0_2ct), km0_2sl⟩)
    (km0_2c : PySem.W.codeIn K km0_2cd "Unlike.certificate" = true)
    (km0_2k : PySem.W.keepIn K (.ref km0_2) = true)
    (km0_3a : PySem.W.findIn K (.ref kk0) "accepts" = some (some (.ref km0_3)))
    (km0_3i : PySem.W.isFn K (.ref km0_3) = true)
    (km0_3l : K.lookup km0_3 = some ⟨km0_3oc, km0_3od, .func (PySem.W.fnOf "accepts" "Unlike.accepts" (defArgs sAcc) (defBody sAcc) (defScope sAcc) .none km0_3kV km0_3dc km0_3pm km0_3an km0_3cd km0_3ct), km0_3sl⟩)
    (km0_3c : PySem.W.codeIn K km0_3cd "Unlike.accepts" = true)
    (km0_3k : PySem.W.keepIn K (.ref km0_3) = true)
    (z1 : PySem.W.nsIn K mainGlobals "sorted" = some none) (z2 : PySem.W.nsIn K mainGlobals "set" = some none) (z3 : PySem.W.nsIn K mainGlobals "len" = some none) (z4 : PySem.W.nsIn K mainGlobals "isinstance" = some none) (z5 : PySem.W.nsIn K mainGlobals "int" = some none) (z6 : PySem.W.nsIn K mainGlobals "bool" = some none) (z7 : PySem.W.nsIn K mainGlobals "list" = some none) (z8 : PySem.W.nsIn K mainGlobals "all" = some none) (z9 : PySem.W.nsIn K mainGlobals "range" = some none) (z10 : PySem.W.nsIn K mainGlobals "dict" = some none) (z11 : PySem.W.nsIn K mainGlobals "min" = some none) (z12 : PySem.W.nsIn K mainGlobals "str" = some none) (z13 : PySem.W.nsIn K mainGlobals "sum" = some none) (z14 : PySem.W.nsIn K mainGlobals "tuple" = some none) :
    ∃ fd : FuncData, (∀ (s : Shared) (v : Value), BindsTo s fd ⟨[v], []⟩ [("_law_script", v)]) ∧ ∀ base : Heap, K.In base → base.Ns mainGlobals mg → FnOk l.prog w K mg base CX0 7 fa fd ["_law_script"] (spLaw K) := by
  have e := hfa.symm.trans (PySem.W.mg_of X G a41)
  cases e
  have B : Bt mg := ⟨PySem.W.mg_none_of X G z1, PySem.W.mg_none_of X G z2, PySem.W.mg_none_of X G z3, PySem.W.mg_none_of X G z4, PySem.W.mg_none_of X G z5, PySem.W.mg_none_of X G z6, PySem.W.mg_none_of X G z7, PySem.W.mg_none_of X G z8, PySem.W.mg_none_of X G z9, PySem.W.mg_none_of X G z10⟩
  have F1 := fun_mk (st := sStream) l1 c1 k1
  have b1 := F1.binds (ps := ["_law_script", "_law_k"]) fun _ _ _ _ _ _ us hl => match us, hl with | [_, _], _ => rfl
  have F2 := fun_mk (st := sDraw) l2 c2 k2
  have b2 := F2.binds (ps := ["_law_stream_here", "_law_size"]) fun _ _ _ _ _ _ us hl => match us, hl with | [_, _], _ => rfl
  have F3 := fun_mk (st := sNames) l3 c3 k3
  have b3 := F3.binds (ps := ["_law_stream_here", "_law_count"]) fun _ _ _ _ _ _ us hl => match us, hl with | [_, _], _ => rfl
  have F4 := fun_mk (st := sPool) l4 c4 k4
  have b4 := F4.binds (ps := ["_law_stream_here", "_law_count"]) fun _ _ _ _ _ _ us hl => match us, hl with | [_, _], _ => rfl
  have F5 := fun_mk (st := sSco) l5 c5 k5
  have b5 := F5.binds (ps := ["_law_stream_here", "_law_names_here", "_law_most"]) fun _ _ _ _ _ _ us hl => match us, hl with | [_, _, _], _ => rfl
  have F6 := fun_mk (st := sDoms) l6 c6 k6
  have b6 := F6.binds (ps := ["_law_stream_here", "_law_names_here", "_law_pool_here", "_law_most"]) fun _ _ _ _ _ _ us hl => match us, hl with | [_, _, _, _], _ => rfl
  have F7 := fun_mk (st := sMn) l7 c7 k7
  have b7 := F7.binds (ps := ["_law_stream_here", "_law_count"]) fun _ _ _ _ _ _ us hl => match us, hl with | [_, _], _ => rfl
  have F8 := fun_mk (st := sSf) l8 c8 k8
  have b8 := F8.binds (ps := ["_law_stream_here", "_law_things"]) fun _ _ _ _ _ _ us hl => match us, hl with | [_, _], _ => rfl
  have F9 := fun_mk (st := sLnk) l9 c9 k9
  have b9 := F9.binds (ps := ["_law_stream_here", "_law_names_here", "_law_pool_here", "_law_ways"]) fun _ _ _ _ _ _ us hl => match us, hl with | [_, _, _, _], _ => rfl
  have F10 := fun_mk (st := sSd) l10 c10 k10
  have b10 := F10.binds (ps := ["_law_domains_here"]) fun _ _ _ _ _ _ us hl => match us, hl with | [_], _ => rfl
  have F11 := fun_mk (st := sWor) l11 c11 k11
  have b11 := F11.binds (ps := ["_law_script"]) fun _ _ _ _ _ _ us hl => match us, hl with | [_], _ => rfl
  have F12 := fun_mk (st := sEmp) l12 c12 k12
  have b12 := F12.binds (ps := ["_law_stream_here", "_law_sides_here", "_law_scope_here"]) fun _ _ _ _ _ _ us hl => match us, hl with | [_, _, _], _ => rfl
  have F13 := fun_mk (st := sChk) l13 c13 k13
  have b13 := F13.binds (ps := ["names"]) fun _ _ _ _ _ _ us hl => match us, hl with | [_], _ => rfl
  have F14 := fun_mk (st := sCopied) l14 c14 k14
  have b14 := F14.binds (ps := ["_law_sides_here"]) fun _ _ _ _ _ _ us hl => match us, hl with | [_], _ => rfl
  have F15 := fun_mk (st := sFem) l15 c15 k15
  have b15 := F15.binds (ps := ["names", "box"]) fun _ _ _ _ _ _ us hl => match us, hl with | [_, _], _ => rfl
  have F16 := fun_mk (st := sRst) l16 c16 k16
  have b16 := F16.binds (ps := ["names", "box"]) fun _ _ _ _ _ _ us hl => match us, hl with | [_, _], _ => rfl
  have F17 := fun_mk (st := sTk) l17 c17 k17
  have b17 := F17.binds (ps := ["fit", "value"]) fun _ _ _ _ _ _ us hl => match us, hl with | [_, _], _ => rfl
  have F18 := fun_mk (st := sMu) l18 c18 k18
  have b18 := F18.binds (ps := ["fit", "seekers", "value"]) fun _ _ _ _ _ _ us hl => match us, hl with | [_, _, _], _ => rfl
  have F19 := fun_mk (st := sWn) l19 c19 k19
  have b19 := F19.binds (ps := ["box", "highs", "fit", "name"]) fun _ _ _ _ _ _ us hl => match us, hl with | [_, _, _, _], _ => rfl
  have F20 := fun_mk (st := sGr) l20 c20 k20
  have b20 := F20.binds (ps := ["box", "highs", "start"]) fun _ _ _ _ _ _ us hl => match us, hl with | [_, _, _], _ => rfl
  have F21 := fun_mk (st := sFf) l21 c21 k21
  have b21 := F21.binds (ps := ["box", "highs"]) fun _ _ _ _ _ _ us hl => match us, hl with | [_, _], _ => rfl
  have F22 := fun_mk (st := sSof) l22 c22 k22
  have b22 := F22.binds (ps := ["values"]) fun _ _ _ _ _ _ us hl => match us, hl with | [_], _ => rfl
  have F23 := fun_mk (st := sUni) l23 c23 k23
  have b23 := F23.binds (ps := ["names", "box"]) fun _ _ _ _ _ _ us hl => match us, hl with | [_, _], _ => rfl
  have F24 := fun_mk (st := sShw) l24 c24 k24
  have b24 := F24.binds (ps := ["names", "box", "name"]) fun _ _ _ _ _ _ us hl => match us, hl with | [_, _, _], _ => rfl
  have F25 := fun_mk (st := sIcr) l25 c25 k25
  have b25 := F25.binds (ps := ["names", "box", "highs", "crowd"]) fun _ _ _ _ _ _ us hl => match us, hl with | [_, _, _, _], _ => rfl
  have F26 := fun_mk (st := sRds) l26 c26 k26
  have b26 := F26.binds (ps := ["_law_scope_here", "_law_sides_here", "_law_certificate"]) fun _ _ _ _ _ _ us hl => match us, hl with | [_, _, _], _ => rfl
  have F27 := fun_mk (st := sCfy) l27 c27 k27
  have b27 := F27.binds (ps := ["_law_scope_here", "_law_sides_here", "_law_told"]) fun _ _ _ _ _ _ us hl => match us, hl with | [_, _, _], _ => rfl
  have F28 := fun_mk (st := sUr) l28 c28 k28
  have b28 := F28.binds (ps := ["_law_walked", "_law_sides_here"]) fun _ _ _ _ _ _ us hl => match us, hl with | [_, _], _ => rfl
  have F29 := fun_mk (st := sTri) l29 c29 k29
  have b29 := F29.binds (ps := ["_law_scope_here", "_law_walked", "_law_sides_here", "_law_told"]) fun _ _ _ _ _ _ us hl => match us, hl with | [_, _, _, _], _ => rfl
  have F30 := fun_mk (st := sKpt) l30 c30 k30
  have b30 := F30.binds (ps := ["_law_told"]) fun _ _ _ _ _ _ us hl => match us, hl with | [_], _ => rfl
  have F31 := fun_mk (st := sIsInt) l31 c31 k31
  have b31 := F31.binds (ps := ["_law_actual"]) fun _ _ _ _ _ _ us hl => match us, hl with | [_], _ => rfl
  have F32 := fun_mk (st := sIsSide) l32 c32 k32
  have b32 := F32.binds (ps := ["_law_actual"]) fun _ _ _ _ _ _ us hl => match us, hl with | [_], _ => rfl
  have F33 := fun_mk (st := sSame) l33 c33 k33
  have b33 := F33.binds (ps := ["_law_actual", "_law_expected"]) fun _ _ _ _ _ _ us hl => match us, hl with | [_, _], _ => rfl
  have F34 := fun_mk (st := sPtg) l34 c34 k34
  have b34 := F34.binds (ps := ["_law_stream_here", "_law_side"]) fun _ _ _ _ _ _ us hl => match us, hl with | [_, _], _ => rfl
  have F35 := fun_mk (st := sFre) l35 c35 k35
  have b35 := F35.binds (ps := ["_law_stream_here", "_law_scope_here", "_law_sides_here", "_law_pool_here", "_law_crowd"]) fun _ _ _ _ _ _ us hl => match us, hl with | [_, _, _, _, _], _ => rfl
  have F36 := fun_mk (st := sCon) l36 c36 k36
  have b36 := F36.binds (ps := ["_law_certificate"]) fun _ _ _ _ _ _ us hl => match us, hl with | [_], _ => rfl
  have F37 := fun_mk (st := sAho) l37 c37 k37
  have b37 := F37.binds (ps := ["_law_rule", "_law_scope_here", "_law_sides_here", "_law_free_here"]) fun _ _ _ _ _ _ us hl => match us, hl with | [_, _, _, _], _ => rfl
  have F38 := fun_mk (st := sBh) l38 c38 k38
  have b38 := F38.binds (ps := ["_law_rule", "_law_scope_here", "_law_walked", "_law_sides_here", "_law_pool_here", "_law_stream_here"]) fun _ _ _ _ _ _ us hl => match us, hl with | [_, _, _, _, _, _], _ => rfl
  have F39 := fun_mk (st := sChh) l39 c39 k39
  have b39 := F39.binds (ps := ["_law_rule", "_law_scope_here", "_law_walked", "_law_sides_here", "_law_others"]) fun _ _ _ _ _ _ us hl => match us, hl with | [_, _, _, _, _], _ => rfl
  have F40 := fun_mk (st := sDh) l40 c40 k40
  have b40 := F40.binds (ps := ["_law_stream_here"]) fun _ _ _ _ _ _ us hl => match us, hl with | [_], _ => rfl
  have F41 := fun_mk (st := sLaw) l41 c41 k41
  have T0 : Kls K mg "Unlike" kk0 ["names"] := ⟨⟨kpg0, khd0, kpo0, ksa0⟩, PySem.W.mg_of X G kc0, fun f hf => by
      simp only [List.mem_cons, List.not_mem_nil, or_false] at hf
      rcases hf with rfl
      · exact kn0_0⟩
  have Fkm0_0 := fun_mk (st := sUin) km0_0l km0_0c km0_0k
  have bkm0_0 := Fkm0_0.binds (ps := ["self", "names"]) fun _ _ _ _ _ _ us hl => match us, hl with | [_, _], _ => rfl
  have Fkm0_1 := fun_mk (st := sOne) km0_1l km0_1c km0_1k
  have bkm0_1 := Fkm0_1.binds (ps := ["self", "box"]) fun _ _ _ _ _ _ us hl => match us, hl with | [_, _], _ => rfl
  have Fkm0_2 := fun_mk (st := sCer) km0_2l km0_2c km0_2k
  have bkm0_2 := Fkm0_2.binds (ps := ["self", "box"]) fun _ _ _ _ _ _ us hl => match us, hl with | [_, _], _ => rfl
  have Fkm0_3 := fun_mk (st := sAcc) km0_3l km0_3c km0_3k
  have bkm0_3 := Fkm0_3.binds (ps := ["self", "box", "certificate"]) fun _ _ _ _ _ _ us hl => match us, hl with | [_, _, _], _ => rfl
  refine ⟨PySem.W.fnOf "law" "law" (defArgs sLaw) (defBody sLaw) (defScope sLaw) .none kV41 dc41 pm41 an41 cd41 ct41, fun s v => .of_eq rfl, fun base _ _ => ?_⟩
  have Cstream : Call l.prog w K mg base 1 "_law_stream" f1 _ ["_law_script", "_law_k"] (spStream K) := ⟨ok_stream F1 B, PySem.W.mg_of X G a1, k1, b1⟩
  have Cdraw : Call l.prog w K mg base 1 "_law_next" f2 _ ["_law_stream_here", "_law_size"] spDraw := ⟨ok_draw F2 B, PySem.W.mg_of X G a2, k2, b2⟩
  have Cnames : Call l.prog w K mg base 2 "_law_names" f3 _ ["_law_stream_here", "_law_count"] spNames := ⟨ok_names F3 B Cdraw, PySem.W.mg_of X G a3, k3, b3⟩
  have Cpool : Call l.prog w K mg base 2 "_law_pool" f4 _ ["_law_stream_here", "_law_count"] spPool := ⟨ok_pool F4 B Cdraw, PySem.W.mg_of X G a4, k4, b4⟩
  have CSco : Call l.prog w K mg base 2 "_law_scope" f5 _ ["_law_stream_here", "_law_names_here", "_law_most"] spSco := ⟨ok_Sco F5 B (PySem.W.mg_none_of X G z11) Cdraw, PySem.W.mg_of X G a5, k5, b5⟩
  have Cdoms : Call l.prog w K mg base 2 "_law_domains" f6 _ ["_law_stream_here", "_law_names_here", "_law_pool_here", "_law_most"] spDoms := ⟨ok_doms F6 B Cdraw, PySem.W.mg_of X G a6, k6, b6⟩
  have CMn : Call l.prog w K mg base 2 "_law_many_names" f7 _ ["_law_stream_here", "_law_count"] spMn := ⟨ok_Mn F7 B (PySem.W.mg_none_of X G z12) Cdraw, PySem.W.mg_of X G a7, k7, b7⟩
  have CSf : Call l.prog w K mg base 2 "_law_shuffled" f8 _ ["_law_stream_here", "_law_things"] spSf := ⟨ok_Sf F8 B Cdraw, PySem.W.mg_of X G a8, k8, b8⟩
  have CLnk : Call l.prog w K mg base 3 "_law_links" f9 _ ["_law_stream_here", "_law_names_here", "_law_pool_here", "_law_ways"] spLnk := ⟨ok_Lnk F9 B Cdraw CSf, PySem.W.mg_of X G a9, k9, b9⟩
  have CSd : Call l.prog w K mg base 1 "_law_sides" f10 _ ["_law_domains_here"] spSd := ⟨ok_Sd F10 B, PySem.W.mg_of X G a10, k10, b10⟩
  have CWor : Call l.prog w K mg base 4 "_law_world" f11 _ ["_law_script"] (spWor K) := ⟨ok_Wor F11 B Cstream Cnames Cpool CSco Cdoms Cdraw CMn CLnk CSd CSf, PySem.W.mg_of X G a11, k11, b11⟩
  have CEmp : Call l.prog w K mg base 2 "_law_emptied" f12 _ ["_law_stream_here", "_law_sides_here", "_law_scope_here"] spEmp := ⟨ok_Emp F12 B Cdraw, PySem.W.mg_of X G a12, k12, b12⟩
  have CChk : Call l.prog w K mg base 1 "checked_names" f13 _ ["names"] spChk := ⟨ok_Chk F13 B (PySem.W.mg_none_of X G z14), PySem.W.mg_of X G a13, k13, b13⟩
  have CUin : CallN l.prog w K mg base 2 kk0 km0_0 _ ["self", "names"] (spUin kk0) := ⟨ok_Uin Fkm0_0 B T0 CChk, ⟨kmk0, km0_0a, km0_0i, kkc0⟩, bkm0_0⟩
  have Ccopied : Call l.prog w K mg base 1 "_law_copied" f14 _ ["_law_sides_here"] spCopy := ⟨ok_copied F14 B, PySem.W.mg_of X G a14, k14, b14⟩
  have CFem : Call l.prog w K mg base 1 "first_empty" f15 _ ["names", "box"] spFem := ⟨ok_Fem F15 B, PySem.W.mg_of X G a15, k15, b15⟩
  have CRst : Call l.prog w K mg base 1 "restricted" f16 _ ["names", "box"] spRst := ⟨ok_Rst F16 B, PySem.W.mg_of X G a16, k16, b16⟩
  have CTk : Call l.prog w K mg base 1 "_takers" f17 _ ["fit", "value"] spTk := ⟨ok_Tk F17 B, PySem.W.mg_of X G a17, k17, b17⟩
  have CMu : Call l.prog w K mg base 1 "_moved_up" f18 _ ["fit", "seekers", "value"] spMu := ⟨ok_Mu F18 B, PySem.W.mg_of X G a18, k18, b18⟩
  have CWn : Call l.prog w K mg base 2 "_with_name" f19 _ ["box", "highs", "fit", "name"] spWn := ⟨ok_Wn F19 B CTk CMu, PySem.W.mg_of X G a19, k19, b19⟩
  have CGr : Call l.prog w K mg base 3 "_grown" f20 _ ["box", "highs", "start"] spGr := ⟨ok_Gr F20 B CWn, PySem.W.mg_of X G a20, k20, b20⟩
  have CFf : Call l.prog w K mg base 4 "full_fit" f21 _ ["box", "highs"] spFf := ⟨ok_Ff F21 B CGr, PySem.W.mg_of X G a21, k21, b21⟩
  have CSof : Call l.prog w K mg base 1 "side_of" f22 _ ["values"] spSof := ⟨ok_Sof F22 B, PySem.W.mg_of X G a22, k22, b22⟩
  have CUni : Call l.prog w K mg base 2 "union_of" f23 _ ["names", "box"] spUni := ⟨ok_Uni F23 B CSof, PySem.W.mg_of X G a23, k23, b23⟩
  have COne : CallM l.prog w K mg base 3 kk0 "_ones" km0_1 _ ["self", "box"] (spOne kk0) := ⟨ok_One Fkm0_1 B T0 CUni, ⟨km0_1a, km0_1i, km0_1k⟩, bkm0_1⟩
  have CCer : CallM l.prog w K mg base 5 kk0 "certificate" km0_2 _ ["self", "box"] (spCer kk0) := ⟨ok_Cer Fkm0_2 B T0 CFem CRst CFf COne, ⟨km0_2a, km0_2i, km0_2k⟩, bkm0_2⟩
  have CShw : Call l.prog w K mg base 1 "shows_empty" f24 _ ["names", "box", "name"] spShw := ⟨ok_Shw F24 B, PySem.W.mg_of X G a24, k24, b24⟩
  have CUniL : Call l.prog w K mg base 2 "union_of" f23 _ ["names", "box"] spUniL := ⟨ok_UniL F23 B CSof, PySem.W.mg_of X G a23, k23, b23⟩
  have CIcr : Call l.prog w K mg base 3 "is_crowd" f25 _ ["names", "box", "highs", "crowd"] spIcr := ⟨ok_Icr F25 B (PySem.W.mg_none_of X G z13) CUniL, PySem.W.mg_of X G a25, k25, b25⟩
  have CAcc : CallM l.prog w K mg base 4 kk0 "accepts" km0_3 _ ["self", "box", "certificate"] (spAcc kk0) := ⟨ok_Acc Fkm0_3 B T0 CShw CIcr COne, ⟨km0_3a, km0_3i, km0_3k⟩, bkm0_3⟩
  have CRds : Call l.prog w K mg base 1 "_law_reads" f26 _ ["_law_scope_here", "_law_sides_here", "_law_certificate"] spRds := ⟨ok_Rds F26 B, PySem.W.mg_of X G a26, k26, b26⟩
  have CCfy : Call l.prog w K mg base 2 "_law_certifies" f27 _ ["_law_scope_here", "_law_sides_here", "_law_told"] spCfy := ⟨ok_Cfy F27 B (PySem.W.mg_none_of X G z12) (PySem.W.mg_none_of X G z14) CRds, PySem.W.mg_of X G a27, k27, b27⟩
  have CUr : Call l.prog w K mg base 1 "_law_unlike_rows" f28 _ ["_law_walked", "_law_sides_here"] spUr := ⟨ok_Ur F28 B, PySem.W.mg_of X G a28, k28, b28⟩
  have CTri : Call l.prog w K mg base 3 "_law_told_right" f29 _ ["_law_scope_here", "_law_walked", "_law_sides_here", "_law_told"] spTri := ⟨ok_Tri F29 B CCfy CUr, PySem.W.mg_of X G a29, k29, b29⟩
  have CKpt : Call l.prog w K mg base 1 "_law_kept" f30 _ ["_law_told"] spKpt := ⟨ok_Kpt F30 B, PySem.W.mg_of X G a30, k30, b30⟩
  have CisInt : Call l.prog w K mg base 1 "_law_is_integer" f31 _ ["_law_actual"] spIsInt := ⟨ok_isInt F31 B, PySem.W.mg_of X G a31, k31, b31⟩
  have CisSide : Call l.prog w K mg base 2 "_law_is_side" f32 _ ["_law_actual"] spIsSide := ⟨ok_isSide F32 B CisInt, PySem.W.mg_of X G a32, k32, b32⟩
  have Csame : Call l.prog w K mg base 3 "_law_same_sides" f33 _ ["_law_actual", "_law_expected"] spSame := ⟨ok_same F33 B CisSide, PySem.W.mg_of X G a33, k33, b33⟩
  have CPtg : Call l.prog w K mg base 2 "_law_part" f34 _ ["_law_stream_here", "_law_side"] spPtg := ⟨ok_Ptg F34 B Cdraw, PySem.W.mg_of X G a34, k34, b34⟩
  have CFre : Call l.prog w K mg base 3 "_law_free" f35 _ ["_law_stream_here", "_law_scope_here", "_law_sides_here", "_law_pool_here", "_law_crowd"] spFre := ⟨ok_Fre F35 B Cdraw CSf CPtg, PySem.W.mg_of X G a35, k35, b35⟩
  have CCon : Call l.prog w K mg base 1 "_law_content" f36 _ ["_law_certificate"] spCon := ⟨ok_Con F36 B, PySem.W.mg_of X G a36, k36, b36⟩
  have CAho : Call l.prog w K mg base 5 "_law_accepting_holds" f37 _ ["_law_rule", "_law_scope_here", "_law_sides_here", "_law_free_here"] (spAho kk0) := ⟨ok_Aho F37 B T0 Ccopied CCon CAcc CRds Csame, PySem.W.mg_of X G a37, k37, b37⟩
  have CBh : Call l.prog w K mg base 6 "_law_box_holds" f38 _ ["_law_rule", "_law_scope_here", "_law_walked", "_law_sides_here", "_law_pool_here", "_law_stream_here"] (spBh kk0) := ⟨ok_Bh F38 B T0 Ccopied CCer CAcc Csame CTri CPtg CFre CAho, PySem.W.mg_of X G a38, k38, b38⟩
  have CChh : Call l.prog w K mg base 6 "_law_changed_holds" f39 _ ["_law_rule", "_law_scope_here", "_law_walked", "_law_sides_here", "_law_others"] (spChh kk0) := ⟨ok_Chh F39 B T0 Ccopied CCer CTri, PySem.W.mg_of X G a39, k39, b39⟩
  have CDh : Call l.prog w K mg base 6 "_law_dense_holds" f40 _ ["_law_stream_here"] spDh := ⟨ok_Dh F40 B (PySem.W.mg_none_of X G z14) T0 Cdraw Cpool CMn CSf CUin CCer CAcc, PySem.W.mg_of X G a40, k40, b40⟩
  exact ok_Law F41 B T0 CWor Cstream Cdraw CEmp CUin Ccopied CCer CAcc CTri CKpt CBh CChh CDh
theorem walk {l : PySem.W.OpenLaw} {q : Program} {loose : List Str} {XP : (Str → Option Value) → Heap → Prop} {YP : World → Heap → Prop} {d : DefRec} {K : Params → PySem.W.Frag} (hn : l.most = some 63) (hdf : d.params.defaults = [])
    (hY : ∀ (w : World) (h : Heap), YP w h → (K w.params).In h)
    (F : ∀ (w : World) (mg : Str → Option Value) (fa : Addr) (h : Heap), (K w.params).In h → h.Ns mainGlobals mg → mg d.name = some (.ref fa) →
      ∃ fd : FuncData, (∀ (s : Shared) (u : Value), BindsTo s fd ⟨[u], []⟩ [("_law_script", u)]) ∧ ∀ base : Heap, (K w.params).In base → base.Ns mainGlobals mg → FnOk l.prog w (K w.params) mg base CX0 7 fa fd ["_law_script"] (spLaw (K w.params))) :
    PySem.W.WalkO q loose XP YP l.row.toRowW d [] (fun f vs => PySem.call f vs) :=
  L2.walk_of (n := 63) (k := 7) (x := "_law_script") (CX := fun _ => CX0) (sp := fun w => spLaw (K w.params)) hn (by decide) hdf ⟨rfl, by decide, by decide⟩ hY F (fun _ _ a ns hl _ hS => ⟨a, ns, rfl, hS, hl, fun _ => rfl⟩) fun _ _ _ _ _ z => z
end K57
set_option Elab.async false
set_option linter.all false
open PySem PySem.W PyProof.Rows
set_option maxRecDepth 100000 in
set_option maxHeartbeats 0 in
theorem PySem.Challenge.cw_curbdesk_k57_whole_unlike_bare_or_not_holds : PySem.Challenge.rw_curbdesk_k57_whole_unlike_bare_or_not.Holds := by
  w_on; o_law; k_head; (case hw => w_witness2)
  k_fill
  refine K57.walk (l := PySem.Challenge.rw_curbdesk_k57_whole_unlike_bare_or_not) rfl rfl (fun w h Y => PySem.W.kIn_of Y) ?F
  case F =>
    intro w mg fa h KX G hmg
    refine' K57.all_mk KX G hmg ?a1 ?l1 ?c1 ?k1 ?a2 ?l2 ?c2 ?k2 ?a3 ?l3 ?c3 ?k3 ?a4 ?l4 ?c4 ?k4 ?a5 ?l5 ?c5 ?k5 ?a6 ?l6 ?c6 ?k6 ?a7 ?l7 ?c7 ?k7 ?a8 ?l8 ?c8 ?k8 ?a9 ?l9 ?c9 ?k9 ?a10 ?l10 ?c10 ?k10 ?a11 ?l11 ?c11 ?k11 ?a12 ?l12 ?c12 ?k12 ?a13 ?l13 ?c13 ?k13 ?a14 ?l14 ?c14 ?k14 ?a15 ?l15 ?c15 ?k15 ?a16 ?l16 ?c16 ?k16 ?a17 ?l17 ?c17 ?k17 ?a18 ?l18 ?c18 ?k18 ?a19 ?l19 ?c19 ?k19 ?a20 ?l20 ?c20 ?k20 ?a21 ?l21 ?c21 ?k21 ?a22 ?l22 ?c22 ?k22 ?a23 ?l23 ?c23 ?k23 ?a24 ?l24 ?c24 ?k24 ?a25 ?l25 ?c25 ?k25 ?a26 ?l26 ?c26 ?k26 ?a27 ?l27 ?c27 ?k27 ?a28 ?l28 ?c28 ?k28 ?a29 ?l29 ?c29 ?k29 ?a30 ?l30 ?c30 ?k30 ?a31 ?l31 ?c31 ?k31 ?a32 ?l32 ?c32 ?k32 ?a33 ?l33 ?c33 ?k33 ?a34 ?l34 ?c34 ?k34 ?a35 ?l35 ?c35 ?k35 ?a36 ?l36 ?c36 ?k36 ?a37 ?l37 ?c37 ?k37 ?a38 ?l38 ?c38 ?k38 ?a39 ?l39 ?c39 ?k39 ?a40 ?l40 ?c40 ?k40 ?a41 ?l41 ?c41 ?k41 ?kc0 ?kpg0 ?khd0 ?kpo0 ?ksa0 ?kmk0 ?kkc0 ?kn0_0 ?km0_0a ?km0_0i ?km0_0l ?km0_0c ?km0_0k ?km0_1a ?km0_1i ?km0_1l ?km0_1c ?km0_1k ?km0_2a ?km0_2i ?km0_2l ?km0_2c ?km0_2k ?km0_3a ?km0_3i ?km0_3l ?km0_3c ?km0_3k ?z1 ?z2 ?z3 ?z4 ?z5 ?z6 ?z7 ?z8 ?z9 ?z10 ?z11 ?z12 ?z13 ?z14
    (case a1 => k_is)
    (case l1 => k_is)
    (case c1 => k_is)
    (case k1 => k_is)
    (case a2 => k_is)
    (case l2 => k_is)
    (case c2 => k_is)
    (case k2 => k_is)
    (case a3 => k_is)
    (case l3 => k_is)
    (case c3 => k_is)
    (case k3 => k_is)
    (case a4 => k_is)
    (case l4 => k_is)
    (case c4 => k_is)
    (case k4 => k_is)
    (case a5 => k_is)
    (case l5 => k_is)
    (case c5 => k_is)
    (case k5 => k_is)
    (case a6 => k_is)
    (case l6 => k_is)
    (case c6 => k_is)
    (case k6 => k_is)
    (case a7 => k_is)
    (case l7 => k_is)
    (case c7 => k_is)
    (case k7 => k_is)
    (case a8 => k_is)
    (case l8 => k_is)
    (case c8 => k_is)
    (case k8 => k_is)
    (case a9 => k_is)
    (case l9 => k_is)
    (case c9 => k_is)
    (case k9 => k_is)
    (case a10 => k_is)
    (case l10 => k_is)
    (case c10 => k_is)
    (case k10 => k_is)
    (case a11 => k_is)
    (case l11 => k_is)
    (case c11 => k_is)
    (case k11 => k_is)
    (case a12 => k_is)
    (case l12 => k_is)
    (case c12 => k_is)
    (case k12 => k_is)
    (case a13 => k_is)
    (case l13 => k_is)
    (case c13 => k_is)
    (case k13 => k_is)
    (case a14 => k_is)
    (case l14 => k_is)
    (case c14 => k_is)
    (case k14 => k_is)
    (case a15 => k_is)
    (case l15 => k_is)
    (case c15 => k_is)
    (case k15 => k_is)
    (case a16 => k_is)
    (case l16 => k_is)
    (case c16 => k_is)
    (case k16 => k_is)
    (case a17 => k_is)
    (case l17 => k_is)
    (case c17 => k_is)
    (case k17 => k_is)
    (case a18 => k_is)
    (case l18 => k_is)
    (case c18 => k_is)
    (case k18 => k_is)
    (case a19 => k_is)
    (case l19 => k_is)
    (case c19 => k_is)
    (case k19 => k_is)
    (case a20 => k_is)
    (case l20 => k_is)
    (case c20 => k_is)
    (case k20 => k_is)
    (case a21 => k_is)
    (case l21 => k_is)
    (case c21 => k_is)
    (case k21 => k_is)
    (case a22 => k_is)
    (case l22 => k_is)
    (case c22 => k_is)
    (case k22 => k_is)
    (case a23 => k_is)
    (case l23 => k_is)
    (case c23 => k_is)
    (case k23 => k_is)
    (case a24 => k_is)
    (case l24 => k_is)
    (case c24 => k_is)
    (case k24 => k_is)
    (case a25 => k_is)
    (case l25 => k_is)
    (case c25 => k_is)
    (case k25 => k_is)
    (case a26 => k_is)
    (case l26 => k_is)
    (case c26 => k_is)
    (case k26 => k_is)
    (case a27 => k_is)
    (case l27 => k_is)
    (case c27 => k_is)
    (case k27 => k_is)
    (case a28 => k_is)
    (case l28 => k_is)
    (case c28 => k_is)
    (case k28 => k_is)
    (case a29 => k_is)
    (case l29 => k_is)
    (case c29 => k_is)
    (case k29 => k_is)
    (case a30 => k_is)
    (case l30 => k_is)
    (case c30 => k_is)
    (case k30 => k_is)
    (case a31 => k_is)
    (case l31 => k_is)
    (case c31 => k_is)
    (case k31 => k_is)
    (case a32 => k_is)
    (case l32 => k_is)
    (case c32 => k_is)
    (case k32 => k_is)
    (case a33 => k_is)
    (case l33 => k_is)
    (case c33 => k_is)
    (case k33 => k_is)
    (case a34 => k_is)
    (case l34 => k_is)
    (case c34 => k_is)
    (case k34 => k_is)
    (case a35 => k_is)
    (case l35 => k_is)
    (case c35 => k_is)
    (case k35 => k_is)
    (case a36 => k_is)
    (case l36 => k_is)
    (case c36 => k_is)
    (case k36 => k_is)
    (case a37 => k_is)
    (case l37 => k_is)
    (case c37 => k_is)
    (case k37 => k_is)
    (case a38 => k_is)
    (case l38 => k_is)
    (case c38 => k_is)
    (case k38 => k_is)
    (case a39 => k_is)
    (case l39 => k_is)
    (case c39 => k_is)
    (case k39 => k_is)
    (case a40 => k_is)
    (case l40 => k_is)
    (case c40 => k_is)
    (case k40 => k_is)
    (case a41 => k_is)
    (case l41 => k_is)
    (case c41 => k_is)
    (case k41 => k_is)
    (case kc0 => k_is)
    (case kpg0 => k_is)
    (case khd0 => k_is)
    (case kpo0 => k_is)
    (case ksa0 => k_is)
    (case kmk0 => k_is)
    (case kkc0 => k_is)
    (case kn0_0 => k_is)
    (case km0_0a => k_is)
    (case km0_0i => k_is)
    (case km0_0l => k_is)
    (case km0_0c => k_is)
    (case km0_0k => k_is)
    (case km0_1a => k_is)
    (case km0_1i => k_is)
    (case km0_1l => k_is)
    (case km0_1c => k_is)
    (case km0_1k => k_is)
    (case km0_2a => k_is)
    (case km0_2i => k_is)
    (case km0_2l => k_is)
    (case km0_2c => k_is)
    (case km0_2k => k_is)
    (case km0_3a => k_is)
    (case km0_3i => k_is)
    (case km0_3l => k_is)
    (case km0_3c => k_is)
    (case km0_3k => k_is)
    (case z1 => k_is)
    (case z2 => k_is)
    (case z3 => k_is)
    (case z4 => k_is)
    (case z5 => k_is)
    (case z6 => k_is)
    (case z7 => k_is)
    (case z8 => k_is)
    (case z9 => k_is)
    (case z10 => k_is)
    (case z11 => k_is)
    (case z12 => k_is)
    (case z13 => k_is)
    (case z14 => k_is)
